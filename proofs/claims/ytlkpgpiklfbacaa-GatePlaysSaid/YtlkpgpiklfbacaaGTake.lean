/- The gate: a token is taken. -/
import Derived.Test.YtlkpgpiklfbacaaGWould
namespace Go.Proofs.Ytlkpgpiklfbacaa
open Go.RowKit

/-- The gate behind the token of r. -/
def GS.tk (s : GS) (r : RN) : GS := ⟨r.c, r.f, r.h, s.fl⟩
/-- Is its epoch new? -/
def freshB (s : GS) (r : RN) : Bool := !decide (r.c = s.c ∧ r.f = s.f)
theorem Gt.set2 {w : World} {p : Nat} {s : GS} (h : Gt w p s) (c f : Int) : Gt ((w.setCell ⟨p, 0, none⟩ (.int .i64 c)).setCell ⟨p, 1, none⟩ (.int .i64 f)) p ⟨c, f, s.h, s.fl⟩ := by
  have g1 := heap_setCell_same _ _ 0 _ _ (.int .i64 c) h
  have g2 := heap_setCell_same _ _ 1 _ _ (.int .i64 f) g1
  exact g2
theorem Gt.set1 {w : World} {p : Nat} {s : GS} (h : Gt w p s) (n : Int) : Gt (w.setCell ⟨p, 2, none⟩ (.int .i64 n)) p ⟨s.c, s.f, n, s.fl⟩ := heap_setCell_same _ _ 2 _ _ (.int .i64 n) h
theorem Gt.set3 {w : World} {p : Nat} {s : GS} (h : Gt w p s) (c f n : Int) : Gt (((w.setCell ⟨p, 0, none⟩ (.int .i64 c)).setCell ⟨p, 1, none⟩ (.int .i64 f)).setCell ⟨p, 2, none⟩ (.int .i64 n)) p ⟨c, f, n, s.fl⟩ := (h.set2 c f).set1 n
theorem Gt.set3' {w : World} {p : Nat} {s : GS} (h : Gt w p s) (c f n : Int) : Gt (((w.setCell ⟨p, 2, none⟩ (.int .i64 n)).setCell ⟨p, 0, none⟩ (.int .i64 c)).setCell ⟨p, 1, none⟩ (.int .i64 f)) p ⟨c, f, n, s.fl⟩ := (h.set1 n).set2 c f

theorem Fr.set3 (w : World) (p i j k : Nat) (a b c : Value) : Fr w (((w.setCell ⟨p, i, none⟩ a).setCell ⟨p, j, none⟩ b).setCell ⟨p, k, none⟩ c) [p] := ((Fr.setCell w p i a (by simp)).trans (Fr.setCell _ p j b (by simp))).trans (Fr.setCell _ p k c (by simp))

set_option maxRecDepth 100000 in
theorem take_no (p : Nat) (s : GS) (car to : Int) (r : RN) (vm ve : Value) (w : World) (hg : Gt w p s) (hm : HInts w vm r.ms) (hv : IsSl ve) (hb : wouldB s car to r = false) :
    Calls Try.prog 11 #[.pointer (some ⟨p, 0, none⟩), .int .i64 car, .int .i64 to, r.v vm ve] w fun e w' => e = .returned (.tuple #[.bool false, .bool false]) ∧ Fr w w' [] := by
  obtain ⟨am, nm, cm, rfl⟩ := hm.sl
  obtain ⟨a1, n1, c1, rfl⟩ := hv
  have FA := Lib.hid (Fr.alloc w (.cells #[.int .i64 r.c, .int .i64 r.f, .int .i64 r.h, .slice am nm cm, .slice a1 n1 c1] 29) [])
  have HW := Lib.hid (would_any p s car to r _ _ _ (hg.keep FA.out) (hm.keep FA.out) ⟨a1, n1, c1, rfl⟩ false hb)
  clear hg hm hb
  go_enter Try.func11, Try.ntmps11
  go_wp2_with fail
  refine HW.out.mono ?_
  rintro e w2 ⟨rfl, hf⟩
  go_wp2
  go_ret2
  exact ⟨rfl, FA.out.trans hf⟩

set_option maxHeartbeats 1000000 in
set_option maxRecDepth 100000 in
theorem take_yes (p : Nat) (s : GS) (car to : Int) (r : RN) (vm ve : Value) (w : World) (hg : Gt w p s) (hm : HInts w vm r.ms) (hv : IsSl ve) (hb : wouldB s car to r = true) :
    Calls Try.prog 11 #[.pointer (some ⟨p, 0, none⟩), .int .i64 car, .int .i64 to, r.v vm ve] w fun e w' => e = .returned (.tuple #[.bool true, .bool (freshB s r)]) ∧ Gt w' p (s.tk r) ∧ Fr w w' [p] := by
  have hlt := hg.lt
  obtain ⟨am, nm, cm, rfl⟩ := hm.sl
  obtain ⟨a1, n1, c1, rfl⟩ := hv
  have FA := Lib.hid (Fr.alloc w (.cells #[.int .i64 r.c, .int .i64 r.f, .int .i64 r.h, .slice am nm cm, .slice a1 n1 c1] 29) [])
  have HB := Lib.hid (heap_alloc_new w (.cells #[.int .i64 r.c, .int .i64 r.f, .int .i64 r.h, .slice am nm cm, .slice a1 n1 c1] 29))
  have HG := Lib.hid (hg.keep FA.out)
  have HW := Lib.hid (would_any p s car to r _ _ _ HG.out (hm.keep FA.out) ⟨a1, n1, c1, rfl⟩ true hb)
  clear hg hm hb
  obtain ⟨sc, sf, sh, sfl⟩ := s
  obtain ⟨rc, rf, rh, ms⟩ := r
  dsimp only [RN.v, GS.tk] at *
  by_cases hc : rc = sc
  · subst hc
    by_cases hf : rf = sf
    · subst hf
      go_enter Try.func11, Try.ntmps11
      go_wp2_with fail
      refine HW.out.mono ?_
      rintro e w2 ⟨rfl, hf⟩
      have HS := Lib.hid (WS.of (r := ⟨rc, rf, rh, ms⟩) (s := ⟨rc, rf, sh, sfl⟩) ((FA.out.trans hf).trans (Fr.drew _ [])) ((hf.trans (Fr.drew _ [])).heap HB.out (by simp)) (HG.out.keep (hf.trans (Fr.drew _ []))))
      clear hf
      go_wp2
      refine wp_region_det (S := WS w w.heap.size p ⟨rc, rf, sh, sfl⟩ ⟨rc, rf, rh, ms⟩ (.slice am nm cm) (.slice a1 n1 c1)) (by kernel_rfl) HS.out ?_
      refine wpDet_take (i := 0) (oi := _) (v := ?dv1) (by simp only [List.getElem?_toArray, List.getElem?_cons_zero]; rfl) (by kernel_rfl) (by kernel_rfl) (by kernel_rfl) (Or.inl ⟨by rfl, ?dy1⟩) ?dr1
      case dy1 => (intro w hSw; have hS0 := hSw; (try dsimp only [WS] at hSw); go_simp; refine Came.value ?_ hS0; with_reducible rfl)
      try simp only [Act.put, List.setIfInBounds_toArray, List.set_cons_zero, List.set_cons_succ]
      refine wpDet_take (i := 1) (oi := _) (v := ?dv2) (by simp only [List.getElem?_toArray, List.getElem?_cons_zero, List.getElem?_cons_succ]; rfl) (by kernel_rfl) (by kernel_rfl) (by kernel_rfl) (Or.inl ⟨by rfl, ?dy2⟩) ?dr2
      case dy2 => (intro w hSw; have hS0 := hSw; (try dsimp only [WS] at hSw); go_simp; refine Came.value ?_ hS0; with_reducible rfl)
      try simp only [Act.put, List.setIfInBounds_toArray, List.set_cons_zero, List.set_cons_succ]
      refine wpDet_take (i := 2) (oi := _) (v := ?dv3) (by simp only [List.getElem?_toArray, List.getElem?_cons_zero, List.getElem?_cons_succ]; rfl) (by kernel_rfl) (by kernel_rfl) (by kernel_rfl) (Or.inl ⟨by rfl, ?dy3⟩) ?dr3
      case dy3 => (intro w hSw; have hS0 := hSw; (try dsimp only [WS] at hSw); go_simp; refine Came.value ?_ hS0; with_reducible rfl)
      try simp only [Act.put, List.setIfInBounds_toArray, List.set_cons_zero, List.set_cons_succ]
      refine wpDet_take (i := 3) (oi := _) (v := ?dv4) (by simp only [List.getElem?_toArray, List.getElem?_cons_zero, List.getElem?_cons_succ]; rfl) (by kernel_rfl) (by kernel_rfl) (by kernel_rfl) (Or.inl ⟨by rfl, ?dy4⟩) ?dr4
      case dy4 => (intro w hSw; have hS0 := hSw; (try dsimp only [WS] at hSw); go_simp; refine Came.value ?_ hS0; with_reducible rfl)
      try simp only [Act.put, List.setIfInBounds_toArray, List.set_cons_zero, List.set_cons_succ]
      refine wpDet_take (i := 4) (oi := _) (v := ?dv5) (by simp only [List.getElem?_toArray, List.getElem?_cons_zero, List.getElem?_cons_succ]; rfl) (by kernel_rfl) (by kernel_rfl) (by kernel_rfl) (Or.inl ⟨by rfl, ?dy5⟩) ?dr5
      case dy5 => (intro w hSw; have hS0 := hSw; (try dsimp only [WS] at hSw); go_simp; refine Came.value ?_ hS0; with_reducible rfl)
      try simp only [Act.put, List.setIfInBounds_toArray, List.set_cons_zero, List.set_cons_succ]
      refine wpDet_take (i := 5) (oi := _) (v := ?dv6) (by simp only [List.getElem?_toArray, List.getElem?_cons_zero, List.getElem?_cons_succ]; rfl) (by kernel_rfl) (by kernel_rfl) (by kernel_rfl) (Or.inl ⟨by rfl, ?dy6⟩) ?dr6
      case dy6 => (intro w hSw; have hS0 := hSw; (try dsimp only [WS] at hSw); go_simp; refine Came.value ?_ hS0; with_reducible rfl)
      try simp only [Act.put, List.setIfInBounds_toArray, List.set_cons_zero, List.set_cons_succ]
      refine wpDet_take (i := 6) (oi := _) (v := ?dv7) (by simp only [List.getElem?_toArray, List.getElem?_cons_zero, List.getElem?_cons_succ]; rfl) (by kernel_rfl) (by kernel_rfl) (by kernel_rfl) (Or.inl ⟨by rfl, ?dy7⟩) ?dr7
      case dy7 => (intro w hSw; have hS0 := hSw; (try dsimp only [WS] at hSw); go_simp; refine Came.value ?_ hS0; with_reducible rfl)
      try simp only [Act.put, List.setIfInBounds_toArray, List.set_cons_zero, List.set_cons_succ]
      refine wpDet_take (i := 7) (oi := _) (v := ?dv8) (by simp only [List.getElem?_toArray, List.getElem?_cons_zero, List.getElem?_cons_succ]; rfl) (by kernel_rfl) (by kernel_rfl) (by kernel_rfl) (Or.inl ⟨by rfl, ?dy8⟩) ?dr8
      case dy8 => (intro w hSw; have hS0 := hSw; (try dsimp only [WS] at hSw); go_simp; refine Came.value ?_ hS0; with_reducible rfl)
      try simp only [Act.put, List.setIfInBounds_toArray, List.set_cons_zero, List.set_cons_succ]
      refine wpDet_done (by kernel_rfl) ?_ _
      rintro w3 ⟨hF, ⟨d0, d1, d2, d3, d4⟩, y0, y1, y2, y3, hG⟩
      have HG3 := Lib.hid hG
      have HF3 := Lib.hid hF
      have i0 := hG.ice 0
      have i1 := hG.ice 1
      have i2 := hG.ice 2
      clear hF hG
      go_wp2
      go_region
      go_wp2
      go_ret2
      exact ⟨by simp [freshB, *], (HG3.out.set3 _ _ _).keep (Fr.drew _ []), HF3.out.comb ((((Fr.setCell _ p _ _ (by simp)).trans (Fr.setCell _ p _ _ (by simp))).trans (Fr.setCell _ p _ _ (by simp))).trans (Fr.drew _ [p])) (by simp) (by simp)⟩
    · skip
      go_enter Try.func11, Try.ntmps11
      go_wp2_with fail
      refine HW.out.mono ?_
      rintro e w2 ⟨rfl, hf⟩
      have HS := Lib.hid (WS.of (r := ⟨rc, rf, rh, ms⟩) (s := ⟨rc, sf, sh, sfl⟩) ((FA.out.trans hf).trans (Fr.drew _ [])) ((hf.trans (Fr.drew _ [])).heap HB.out (by simp)) (HG.out.keep (hf.trans (Fr.drew _ []))))
      clear hf
      go_wp2
      refine wp_region_det (S := WS w w.heap.size p ⟨rc, sf, sh, sfl⟩ ⟨rc, rf, rh, ms⟩ (.slice am nm cm) (.slice a1 n1 c1)) (by kernel_rfl) HS.out ?_
      refine wpDet_take (i := 0) (oi := _) (v := ?dv9) (by simp only [List.getElem?_toArray, List.getElem?_cons_zero]; rfl) (by kernel_rfl) (by kernel_rfl) (by kernel_rfl) (Or.inl ⟨by rfl, ?dy9⟩) ?dr9
      case dy9 => (intro w hSw; have hS0 := hSw; (try dsimp only [WS] at hSw); go_simp; refine Came.value ?_ hS0; with_reducible rfl)
      try simp only [Act.put, List.setIfInBounds_toArray, List.set_cons_zero, List.set_cons_succ]
      refine wpDet_take (i := 1) (oi := _) (v := ?dv10) (by simp only [List.getElem?_toArray, List.getElem?_cons_zero, List.getElem?_cons_succ]; rfl) (by kernel_rfl) (by kernel_rfl) (by kernel_rfl) (Or.inl ⟨by rfl, ?dy10⟩) ?dr10
      case dy10 => (intro w hSw; have hS0 := hSw; (try dsimp only [WS] at hSw); go_simp; refine Came.value ?_ hS0; with_reducible rfl)
      try simp only [Act.put, List.setIfInBounds_toArray, List.set_cons_zero, List.set_cons_succ]
      refine wpDet_take (i := 2) (oi := _) (v := ?dv11) (by simp only [List.getElem?_toArray, List.getElem?_cons_zero, List.getElem?_cons_succ]; rfl) (by kernel_rfl) (by kernel_rfl) (by kernel_rfl) (Or.inl ⟨by rfl, ?dy11⟩) ?dr11
      case dy11 => (intro w hSw; have hS0 := hSw; (try dsimp only [WS] at hSw); go_simp; refine Came.value ?_ hS0; with_reducible rfl)
      try simp only [Act.put, List.setIfInBounds_toArray, List.set_cons_zero, List.set_cons_succ]
      refine wpDet_take (i := 3) (oi := _) (v := ?dv12) (by simp only [List.getElem?_toArray, List.getElem?_cons_zero, List.getElem?_cons_succ]; rfl) (by kernel_rfl) (by kernel_rfl) (by kernel_rfl) (Or.inl ⟨by rfl, ?dy12⟩) ?dr12
      case dy12 => (intro w hSw; have hS0 := hSw; (try dsimp only [WS] at hSw); go_simp; refine Came.value ?_ hS0; with_reducible rfl)
      try simp only [Act.put, List.setIfInBounds_toArray, List.set_cons_zero, List.set_cons_succ]
      refine wpDet_take (i := 4) (oi := _) (v := ?dv13) (by simp only [List.getElem?_toArray, List.getElem?_cons_zero, List.getElem?_cons_succ]; rfl) (by kernel_rfl) (by kernel_rfl) (by kernel_rfl) (Or.inl ⟨by rfl, ?dy13⟩) ?dr13
      case dy13 => (intro w hSw; have hS0 := hSw; (try dsimp only [WS] at hSw); go_simp; refine Came.value ?_ hS0; with_reducible rfl)
      try simp only [Act.put, List.setIfInBounds_toArray, List.set_cons_zero, List.set_cons_succ]
      refine wpDet_take (i := 5) (oi := _) (v := ?dv14) (by simp only [List.getElem?_toArray, List.getElem?_cons_zero, List.getElem?_cons_succ]; rfl) (by kernel_rfl) (by kernel_rfl) (by kernel_rfl) (Or.inl ⟨by rfl, ?dy14⟩) ?dr14
      case dy14 => (intro w hSw; have hS0 := hSw; (try dsimp only [WS] at hSw); go_simp; refine Came.value ?_ hS0; with_reducible rfl)
      try simp only [Act.put, List.setIfInBounds_toArray, List.set_cons_zero, List.set_cons_succ]
      refine wpDet_take (i := 6) (oi := _) (v := ?dv15) (by simp only [List.getElem?_toArray, List.getElem?_cons_zero, List.getElem?_cons_succ]; rfl) (by kernel_rfl) (by kernel_rfl) (by kernel_rfl) (Or.inl ⟨by rfl, ?dy15⟩) ?dr15
      case dy15 => (intro w hSw; have hS0 := hSw; (try dsimp only [WS] at hSw); go_simp; refine Came.value ?_ hS0; with_reducible rfl)
      try simp only [Act.put, List.setIfInBounds_toArray, List.set_cons_zero, List.set_cons_succ]
      refine wpDet_take (i := 7) (oi := _) (v := ?dv16) (by simp only [List.getElem?_toArray, List.getElem?_cons_zero, List.getElem?_cons_succ]; rfl) (by kernel_rfl) (by kernel_rfl) (by kernel_rfl) (Or.inl ⟨by rfl, ?dy16⟩) ?dr16
      case dy16 => (intro w hSw; have hS0 := hSw; (try dsimp only [WS] at hSw); go_simp; refine Came.value ?_ hS0; with_reducible rfl)
      try simp only [Act.put, List.setIfInBounds_toArray, List.set_cons_zero, List.set_cons_succ]
      refine wpDet_done (by kernel_rfl) ?_ _
      rintro w3 ⟨hF, ⟨d0, d1, d2, d3, d4⟩, y0, y1, y2, y3, hG⟩
      have HG3 := Lib.hid hG
      have HF3 := Lib.hid hF
      have i0 := hG.ice 0
      have i1 := hG.ice 1
      have i2 := hG.ice 2
      clear hF hG
      go_wp2
      go_region
      go_wp2
      go_ret2
      exact ⟨by simp [freshB, *], (HG3.out.set3 _ _ _).keep (Fr.drew _ []), HF3.out.comb ((((Fr.setCell _ p _ _ (by simp)).trans (Fr.setCell _ p _ _ (by simp))).trans (Fr.setCell _ p _ _ (by simp))).trans (Fr.drew _ [p])) (by simp) (by simp)⟩
  · skip
    go_enter Try.func11, Try.ntmps11
    go_wp2_with fail
    refine HW.out.mono ?_
    rintro e w2 ⟨rfl, hf⟩
    have HS := Lib.hid (WS.of (r := ⟨rc, rf, rh, ms⟩) (s := ⟨sc, sf, sh, sfl⟩) ((FA.out.trans hf).trans (Fr.drew _ [])) ((hf.trans (Fr.drew _ [])).heap HB.out (by simp)) (HG.out.keep (hf.trans (Fr.drew _ []))))
    clear hf
    go_wp2
    refine wp_region_det (S := WS w w.heap.size p ⟨sc, sf, sh, sfl⟩ ⟨rc, rf, rh, ms⟩ (.slice am nm cm) (.slice a1 n1 c1)) (by kernel_rfl) HS.out ?_
    refine wpDet_take (i := 0) (oi := _) (v := ?dv17) (by simp only [List.getElem?_toArray, List.getElem?_cons_zero]; rfl) (by kernel_rfl) (by kernel_rfl) (by kernel_rfl) (Or.inl ⟨by rfl, ?dy17⟩) ?dr17
    case dy17 => (intro w hSw; have hS0 := hSw; (try dsimp only [WS] at hSw); go_simp; refine Came.value ?_ hS0; with_reducible rfl)
    try simp only [Act.put, List.setIfInBounds_toArray, List.set_cons_zero, List.set_cons_succ]
    refine wpDet_take (i := 1) (oi := _) (v := ?dv18) (by simp only [List.getElem?_toArray, List.getElem?_cons_zero, List.getElem?_cons_succ]; rfl) (by kernel_rfl) (by kernel_rfl) (by kernel_rfl) (Or.inl ⟨by rfl, ?dy18⟩) ?dr18
    case dy18 => (intro w hSw; have hS0 := hSw; (try dsimp only [WS] at hSw); go_simp; refine Came.value ?_ hS0; with_reducible rfl)
    try simp only [Act.put, List.setIfInBounds_toArray, List.set_cons_zero, List.set_cons_succ]
    refine wpDet_take (i := 2) (oi := _) (v := ?dv19) (by simp only [List.getElem?_toArray, List.getElem?_cons_zero, List.getElem?_cons_succ]; rfl) (by kernel_rfl) (by kernel_rfl) (by kernel_rfl) (Or.inl ⟨by rfl, ?dy19⟩) ?dr19
    case dy19 => (intro w hSw; have hS0 := hSw; (try dsimp only [WS] at hSw); go_simp; refine Came.value ?_ hS0; with_reducible rfl)
    try simp only [Act.put, List.setIfInBounds_toArray, List.set_cons_zero, List.set_cons_succ]
    refine wpDet_take (i := 3) (oi := _) (v := ?dv20) (by simp only [List.getElem?_toArray, List.getElem?_cons_zero, List.getElem?_cons_succ]; rfl) (by kernel_rfl) (by kernel_rfl) (by kernel_rfl) (Or.inl ⟨by rfl, ?dy20⟩) ?dr20
    case dy20 => (intro w hSw; have hS0 := hSw; (try dsimp only [WS] at hSw); go_simp; refine Came.value ?_ hS0; with_reducible rfl)
    try simp only [Act.put, List.setIfInBounds_toArray, List.set_cons_zero, List.set_cons_succ]
    refine wpDet_take (i := 4) (oi := _) (v := ?dv21) (by simp only [List.getElem?_toArray, List.getElem?_cons_zero, List.getElem?_cons_succ]; rfl) (by kernel_rfl) (by kernel_rfl) (by kernel_rfl) (Or.inl ⟨by rfl, ?dy21⟩) ?dr21
    case dy21 => (intro w hSw; have hS0 := hSw; (try dsimp only [WS] at hSw); go_simp; refine Came.value ?_ hS0; with_reducible rfl)
    try simp only [Act.put, List.setIfInBounds_toArray, List.set_cons_zero, List.set_cons_succ]
    refine wpDet_take (i := 5) (oi := _) (v := ?dv22) (by simp only [List.getElem?_toArray, List.getElem?_cons_zero, List.getElem?_cons_succ]; rfl) (by kernel_rfl) (by kernel_rfl) (by kernel_rfl) (Or.inl ⟨by rfl, ?dy22⟩) ?dr22
    case dy22 => (intro w hSw; have hS0 := hSw; (try dsimp only [WS] at hSw); go_simp; refine Came.value ?_ hS0; with_reducible rfl)
    try simp only [Act.put, List.setIfInBounds_toArray, List.set_cons_zero, List.set_cons_succ]
    refine wpDet_take (i := 6) (oi := _) (v := ?dv23) (by simp only [List.getElem?_toArray, List.getElem?_cons_zero, List.getElem?_cons_succ]; rfl) (by kernel_rfl) (by kernel_rfl) (by kernel_rfl) (Or.inl ⟨by rfl, ?dy23⟩) ?dr23
    case dy23 => (intro w hSw; have hS0 := hSw; (try dsimp only [WS] at hSw); go_simp; refine Came.value ?_ hS0; with_reducible rfl)
    try simp only [Act.put, List.setIfInBounds_toArray, List.set_cons_zero, List.set_cons_succ]
    refine wpDet_take (i := 7) (oi := _) (v := ?dv24) (by simp only [List.getElem?_toArray, List.getElem?_cons_zero, List.getElem?_cons_succ]; rfl) (by kernel_rfl) (by kernel_rfl) (by kernel_rfl) (Or.inl ⟨by rfl, ?dy24⟩) ?dr24
    case dy24 => (intro w hSw; have hS0 := hSw; (try dsimp only [WS] at hSw); go_simp; refine Came.value ?_ hS0; with_reducible rfl)
    try simp only [Act.put, List.setIfInBounds_toArray, List.set_cons_zero, List.set_cons_succ]
    refine wpDet_done (by kernel_rfl) ?_ _
    rintro w3 ⟨hF, ⟨d0, d1, d2, d3, d4⟩, y0, y1, y2, y3, hG⟩
    have HG3 := Lib.hid hG
    have HF3 := Lib.hid hF
    have i0 := hG.ice 0
    have i1 := hG.ice 1
    have i2 := hG.ice 2
    clear hF hG
    go_wp2
    go_region
    go_wp2
    go_ret2
    exact ⟨by simp [freshB, *], (HG3.out.set3 _ _ _).keep (Fr.drew _ []), HF3.out.comb ((((Fr.setCell _ p _ _ (by simp)).trans (Fr.setCell _ p _ _ (by simp))).trans (Fr.setCell _ p _ _ (by simp))).trans (Fr.drew _ [p])) (by simp) (by simp)⟩

/-- Is it gone into? -/
def fndB (s : GS) (c f : Int) : Bool := allowsB s c f && epLt s.c s.f c f
set_option maxRecDepth 100000 in
theorem found_no (p : Nat) (s : GS) (c f : Int) (w : World) (hg : Gt w p s) (hb : fndB s c f = false) :
    Calls Try.prog 13 #[.pointer (some ⟨p, 0, none⟩), .agg #[.int .i64 c, .int .i64 f]] w fun e w' => e = .returned (.bool false) ∧ Fr w w' [] := by
  have FA := Lib.hid (Fr.alloc w (.cells #[.int .i64 c, .int .i64 f] 25) [])
  have HB := Lib.hid (heap_alloc_new w (.cells #[.int .i64 c, .int .i64 f] 25))
  have HG := Lib.hid (hg.keep FA.out)
  have hlt := hg.lt
  clear hg
  unfold fndB at hb
  cases hal : allowsB s c f with
  | false =>
    have H1 := Lib.hid (allows_any p s c f _ HG.out false hal)
    clear hal hb
    go_enter Try.func13, Try.ntmps13
    go_wp2_with fail
    refine H1.out.mono ?_
    rintro e w2 ⟨rfl, hf⟩
    go_wp2
    go_ret
    exact ⟨rfl, FA.out.trans hf⟩
  | true =>
    rw [hal, Bool.true_and] at hb
    have H1 := Lib.hid (allows_any p s c f _ HG.out true hal)
    have H2 := Lib.hid (fun W hW => ahead_any p s c f W hW false hb)
    clear hal hb
    go_enter Try.func13, Try.ntmps13
    go_wp2_with fail
    refine H1.out.mono ?_
    rintro e w2 ⟨rfl, hf⟩
    obtain ⟨d0, d1⟩ := row2 (hf.heap HB.out (by simp))
    have HG2 := Lib.hid (HG.out.keep hf)
    have HF := Lib.hid (FA.out.trans hf)
    clear hf
    go_wp2_with fail
    refine (H2.out _ HG2.out).mono ?_
    rintro e w3 ⟨rfl, hf⟩
    go_wp2
    go_ret
    exact ⟨rfl, HF.out.trans hf⟩
set_option maxRecDepth 100000 in
theorem found_yes (p : Nat) (s : GS) (c f : Int) (w : World) (hg : Gt w p s) (hb : fndB s c f = true) :
    Calls Try.prog 13 #[.pointer (some ⟨p, 0, none⟩), .agg #[.int .i64 c, .int .i64 f]] w fun e w' => e = .returned (.bool true) ∧ Gt w' p ⟨c, f, 0, s.fl⟩ ∧ Fr w w' [p] := by
  have FA := Lib.hid (Fr.alloc w (.cells #[.int .i64 c, .int .i64 f] 25) [])
  have HB := Lib.hid (heap_alloc_new w (.cells #[.int .i64 c, .int .i64 f] 25))
  have HG := Lib.hid (hg.keep FA.out)
  have hlt := hg.lt
  clear hg
  unfold fndB at hb
  rw [Bool.and_eq_true] at hb
  have H1 := Lib.hid (allows_any p s c f _ HG.out true hb.1)
  have H2 := Lib.hid (fun W hW => ahead_any p s c f W hW true hb.2)
  clear hb
  go_enter Try.func13, Try.ntmps13
  go_wp2_with fail
  refine H1.out.mono ?_
  rintro e w2 ⟨rfl, hf⟩
  have HB2 := Lib.hid (hf.heap HB.out (by simp))
  obtain ⟨d0, d1⟩ := row2 HB2.out
  have HG2 := Lib.hid (HG.out.keep hf)
  have HF := Lib.hid (FA.out.trans hf)
  clear hf
  go_wp2_with fail
  refine (H2.out _ HG2.out).mono ?_
  rintro e w3 ⟨rfl, hf⟩
  obtain ⟨y0, y1⟩ := row2 (hf.heap HB2.out (by simp))
  have hG := HG2.out.keep hf
  have HG3 := Lib.hid hG
  have HF3 := Lib.hid (HF.out.trans hf)
  obtain ⟨x0, x1, x2, x3⟩ := hG.cells
  have i0 := hG.ice 0
  have i1 := hG.ice 1
  have i2 := hG.ice 2
  clear hG hf
  go_wp2
  go_ret
  exact ⟨rfl, HG3.out.set3 _ _ _, HF3.out.comb (Fr.set3 _ p 0 1 2 _ _ _) (by simp) (by simp)⟩
end Go.Proofs.Ytlkpgpiklfbacaa
