/- The gate: whether a token is taken. -/
import Derived.Test.YtlkpgpiklfbacaaGate
namespace Go.Proofs.Ytlkpgpiklfbacaa
open Go.RowKit

/-- A token's ring: its epoch, its hop, its members. -/
structure RN where
  c : Int
  f : Int
  h : Int
  ms : List Int
/-- A ring by value. -/
abbrev RN.v (r : RN) (vm ve : Value) : Value := .agg #[.int .i64 r.c, .int .i64 r.f, .int .i64 r.h, vm, ve]
def IsSl (v : Value) : Prop := ∃ a n c, v = .slice a n c
theorem HInts.sl {w : World} {v : Value} {l : List Int} (h : HInts w v l) : IsSl v := by obtain ⟨a, c, h, _⟩ := h; exact ⟨a, _, c, h⟩
/-- Is it one that the gate may be in? -/
def allowsB (s : GS) (c f : Int) : Bool := epOk c f && decide (s.fl < c)
/-- Is the token of r taken? -/
def wouldB (s : GS) (car to : Int) (r : RN) : Bool :=
  decide (to = car) && (decide (car ∈ r.ms) && (allowsB s r.c r.f && (epLt s.c s.f r.c r.f || (decide (s.c = r.c ∧ s.f = r.f) && decide (s.h < r.h)))))

/-- What stands while the region is walked: the ring's cells, the gate's. -/
def WS (W : World) (b p : Nat) (s : GS) (r : RN) (vm ve : Value) (a : World) : Prop := Fr W a [] ∧
  (a.cell? ⟨b, 0, none⟩ = some (.int .i64 r.c) ∧ a.cell? ⟨b, 1, none⟩ = some (.int .i64 r.f) ∧ a.cell? ⟨b, 2, none⟩ = some (.int .i64 r.h) ∧ a.cell? ⟨b, 3, none⟩ = some vm ∧ a.cell? ⟨b, 4, none⟩ = some ve) ∧
  a.cell? ⟨p, 0, none⟩ = some (.int .i64 s.c) ∧ a.cell? ⟨p, 1, none⟩ = some (.int .i64 s.f) ∧ a.cell? ⟨p, 2, none⟩ = some (.int .i64 s.h) ∧ a.cell? ⟨p, 3, none⟩ = some (.int .i64 s.fl) ∧ Gt a p s
theorem WS.fr {W : World} {b p : Nat} {s : GS} {r : RN} {vm ve : Value} {a a' : World} (h : WS W b p s r vm ve a) (k : Fr a a' []) : WS W b p s r vm ve a' := by
  obtain ⟨h0, ⟨h1, h2, h3, h4, h5⟩, g0, g1, g2, g3, h6⟩ := h
  exact ⟨h0.trans k, ⟨k.cell h1 (by simp), k.cell h2 (by simp), k.cell h3 (by simp), k.cell h4 (by simp), k.cell h5 (by simp)⟩, k.cell g0 (by simp), k.cell g1 (by simp), k.cell g2 (by simp), k.cell g3 (by simp), h6.keep k⟩
theorem WS.of {W : World} {b p : Nat} {s : GS} {r : RN} {vm ve : Value} {a : World} (hf : Fr W a []) (hb : a.heap[b]? = some (.cells #[.int .i64 r.c, .int .i64 r.f, .int .i64 r.h, vm, ve] 29 (0, 0))) (hg : Gt a p s) : WS W b p s r vm ve a :=
  ⟨hf, row5 hb, hg.cells.1, hg.cells.2.1, hg.cells.2.2.1, hg.cells.2.2.2, hg⟩

set_option maxHeartbeats 1000000 in
set_option maxRecDepth 100000 in
theorem would_any (p : Nat) (s : GS) (car to : Int) (r : RN) (vm ve : Value) (w : World) (hg : Gt w p s) (hm : HInts w vm r.ms) (hv : IsSl ve) (b : Bool) (hb : wouldB s car to r = b) :
    Calls Try.prog 14 #[.pointer (some ⟨p, 0, none⟩), .int .i64 car, .int .i64 to, r.v vm ve] w fun e w' => e = .returned (.bool b) ∧ Fr w w' [] := by
  have hlt := hg.lt
  obtain ⟨am, nm, cm, rfl⟩ := hm.sl
  obtain ⟨a1, n1, c1, rfl⟩ := hv
  have FA := Lib.hid (Fr.alloc w (.cells #[.int .i64 r.c, .int .i64 r.f, .int .i64 r.h, .slice am nm cm, .slice a1 n1 c1] 29) [])
  have HB := Lib.hid (heap_alloc_new w (.cells #[.int .i64 r.c, .int .i64 r.f, .int .i64 r.h, .slice am nm cm, .slice a1 n1 c1] 29))
  have HG := Lib.hid (hg.keep FA.out)
  have HM := Lib.hid (hm.keep FA.out)
  clear hg hm
  unfold wouldB at hb
  obtain ⟨sc, sf, sh, sfl⟩ := s
  obtain ⟨rc, rf, rh, ms⟩ := r
  dsimp only [RN.v] at *
  by_cases hto : to = car
  · subst hto
    have hne : (to != to) = false := by simp
    rw [decide_eq_true rfl, Bool.true_and] at hb
    by_cases hin : to ∈ ms
    · have H1 := Lib.hid (has_any _ ms to _ HM.out true (by rw [decide_eq_true hin]))
      rw [decide_eq_true hin, Bool.true_and] at hb
      clear hin
      cases hal : allowsB ⟨sc, sf, sh, sfl⟩ rc rf with
      | false =>
        rw [hal, Bool.false_and] at hb
        subst hb
        have H2 := Lib.hid (allows_any p _ rc rf _ HG.out false hal)
        clear hal
        go_enter Try.func14, Try.ntmps14
        go_wp2_with fail
        refine H1.out.mono ?_
        rintro e w' ⟨rfl, rfl⟩
        go_wp2_with fail
        refine H2.out.mono ?_
        rintro e w2 ⟨rfl, hf⟩
        go_wp2
        go_ret
        exact ⟨rfl, FA.out.trans hf⟩
      | true =>
        rw [hal, Bool.true_and] at hb
        have H2 := Lib.hid (allows_any p _ rc rf _ HG.out true hal)
        clear hal
        cases hlt : epLt sc sf rc rf with
        | true =>
          rw [hlt, Bool.true_or] at hb
          subst hb
          have HA := Lib.hid (fun W hW => ahead_any p ⟨sc, sf, sh, sfl⟩ rc rf W hW true hlt)
          clear hlt
          go_enter Try.func14, Try.ntmps14
          go_wp2_with fail
          refine H1.out.mono ?_
          rintro e w' ⟨rfl, rfl⟩
          go_wp2_with fail
          refine H2.out.mono ?_
          rintro e w2 ⟨rfl, hf⟩
          have HS := Lib.hid (WS.of (r := ⟨rc, rf, rh, ms⟩) ((FA.out.trans hf).trans (Fr.drew _ [])) ((hf.trans (Fr.drew _ [])).heap HB.out (by simp)) (HG.out.keep (hf.trans (Fr.drew _ []))))
          clear hf
          go_wp2
          refine wp_region_det (S := WS w w.heap.size p ⟨sc, sf, sh, sfl⟩ ⟨rc, rf, rh, ms⟩ (.slice am nm cm) (.slice a1 n1 c1)) (by kernel_rfl) HS.out ?_
          refine wpDet_take (i := 0) (oi := _) (v := ?dv1) (by simp only [List.getElem?_toArray, List.getElem?_cons_zero]; rfl) (by kernel_rfl) (by kernel_rfl) (by kernel_rfl) (Or.inl ⟨by rfl, ?dy1⟩) ?dr1
          case dy1 => (intro w hSw; have hS0 := hSw; (try dsimp only [WS] at hSw); go_simp; refine Came.value ?_ hS0; with_reducible rfl)
          try simp only [Act.put, List.setIfInBounds_toArray, List.set_cons_zero, List.set_cons_succ]
          refine wpDet_take (i := 1) (oi := _) (v := ?dv2) (by simp only [List.getElem?_toArray, List.getElem?_cons_zero, List.getElem?_cons_succ]; rfl) (by kernel_rfl) (by kernel_rfl) (by kernel_rfl) (Or.inl ⟨by rfl, ?dy2⟩) ?dr2
          case dy2 => (intro w hSw; have hS0 := hSw; (try dsimp only [WS] at hSw); go_simp; refine Came.value ?_ hS0; with_reducible rfl)
          try simp only [Act.put, List.setIfInBounds_toArray, List.set_cons_zero, List.set_cons_succ]
          refine wpDet_take (i := 2) (oi := _) (v := ?dv3) (by simp only [List.getElem?_toArray, List.getElem?_cons_zero, List.getElem?_cons_succ]; rfl) (by kernel_rfl) (by kernel_rfl) (by kernel_rfl) (Or.inl ⟨by rfl, ?dy3⟩) ?dr3
          case dy3 => (intro w hSw; have hS0 := hSw; (try dsimp only [WS] at hSw); go_simp; refine Came.value ?_ hS0; with_reducible rfl)
          try simp only [Act.put, List.setIfInBounds_toArray, List.set_cons_zero, List.set_cons_succ]
          refine wpDet_take (i := 3) (oi := _) (v := ?dv4) (by simp only [List.getElem?_toArray, List.getElem?_cons_zero, List.getElem?_cons_succ]; rfl) (by kernel_rfl) (by kernel_rfl) (by kernel_rfl) (Or.inl ⟨by rfl, ?dy4⟩) ?dr4
          case dy4 => (intro w hSw; go_simp; exact Came.call ((HA.out w hSw.2.2.2.2.2.2).mono fun e w' ⟨he, hf⟩ => ⟨he, hSw.fr hf⟩) (by with_reducible rfl))
          try simp only [Act.put, List.setIfInBounds_toArray, List.set_cons_zero, List.set_cons_succ]
          refine wpDet_take (i := 4) (oi := _) (v := ?dv5) (by simp only [List.getElem?_toArray, List.getElem?_cons_zero, List.getElem?_cons_succ]; rfl) (by kernel_rfl) (by kernel_rfl) (by kernel_rfl) (Or.inl ⟨by rfl, ?dy5⟩) ?dr5
          case dy5 => (intro w hSw; have hS0 := hSw; (try dsimp only [WS] at hSw); go_simp; refine Came.value ?_ hS0; with_reducible rfl)
          try simp only [Act.put, List.setIfInBounds_toArray, List.set_cons_zero, List.set_cons_succ]
          refine wpDet_take (i := 5) (oi := _) (v := undef) (by simp only [List.getElem?_toArray, List.getElem?_cons_zero, List.getElem?_cons_succ]; rfl) (by kernel_rfl) (by kernel_rfl) (by kernel_rfl) (Or.inr ⟨by rfl, rfl⟩) ?_
          try simp only [Act.put, List.setIfInBounds_toArray, List.set_cons_zero, List.set_cons_succ]
          refine wpDet_take (i := 6) (oi := _) (v := undef) (by simp only [List.getElem?_toArray, List.getElem?_cons_zero, List.getElem?_cons_succ]; rfl) (by kernel_rfl) (by kernel_rfl) (by kernel_rfl) (Or.inr ⟨by rfl, rfl⟩) ?_
          try simp only [Act.put, List.setIfInBounds_toArray, List.set_cons_zero, List.set_cons_succ]
          refine wpDet_take (i := 7) (oi := _) (v := undef) (by simp only [List.getElem?_toArray, List.getElem?_cons_zero, List.getElem?_cons_succ]; rfl) (by kernel_rfl) (by kernel_rfl) (by kernel_rfl) (Or.inr ⟨by rfl, rfl⟩) ?_
          try simp only [Act.put, List.setIfInBounds_toArray, List.set_cons_zero, List.set_cons_succ]
          refine wpDet_take (i := 8) (oi := _) (v := undef) (by simp only [List.getElem?_toArray, List.getElem?_cons_zero, List.getElem?_cons_succ]; rfl) (by kernel_rfl) (by kernel_rfl) (by kernel_rfl) (Or.inr ⟨by rfl, rfl⟩) ?_
          try simp only [Act.put, List.setIfInBounds_toArray, List.set_cons_zero, List.set_cons_succ]
          refine wpDet_take (i := 9) (oi := _) (v := undef) (by simp only [List.getElem?_toArray, List.getElem?_cons_zero, List.getElem?_cons_succ]; rfl) (by kernel_rfl) (by kernel_rfl) (by kernel_rfl) (Or.inr ⟨by rfl, rfl⟩) ?_
          try simp only [Act.put, List.setIfInBounds_toArray, List.set_cons_zero, List.set_cons_succ]
          refine wpDet_take (i := 10) (oi := _) (v := undef) (by simp only [List.getElem?_toArray, List.getElem?_cons_zero, List.getElem?_cons_succ]; rfl) (by kernel_rfl) (by kernel_rfl) (by kernel_rfl) (Or.inr ⟨by rfl, rfl⟩) ?_
          try simp only [Act.put, List.setIfInBounds_toArray, List.set_cons_zero, List.set_cons_succ]
          refine wpDet_take (i := 11) (oi := _) (v := undef) (by simp only [List.getElem?_toArray, List.getElem?_cons_zero, List.getElem?_cons_succ]; rfl) (by kernel_rfl) (by kernel_rfl) (by kernel_rfl) (Or.inr ⟨by rfl, rfl⟩) ?_
          try simp only [Act.put, List.setIfInBounds_toArray, List.set_cons_zero, List.set_cons_succ]
          refine wpDet_take (i := 12) (oi := _) (v := undef) (by simp only [List.getElem?_toArray, List.getElem?_cons_zero, List.getElem?_cons_succ]; rfl) (by kernel_rfl) (by kernel_rfl) (by kernel_rfl) (Or.inr ⟨by rfl, rfl⟩) ?_
          try simp only [Act.put, List.setIfInBounds_toArray, List.set_cons_zero, List.set_cons_succ]
          refine wpDet_take (i := 13) (oi := _) (v := undef) (by simp only [List.getElem?_toArray, List.getElem?_cons_zero, List.getElem?_cons_succ]; rfl) (by kernel_rfl) (by kernel_rfl) (by kernel_rfl) (Or.inr ⟨by rfl, rfl⟩) ?_
          try simp only [Act.put, List.setIfInBounds_toArray, List.set_cons_zero, List.set_cons_succ]
          refine wpDet_take (i := 14) (oi := _) (v := undef) (by simp only [List.getElem?_toArray, List.getElem?_cons_zero, List.getElem?_cons_succ]; rfl) (by kernel_rfl) (by kernel_rfl) (by kernel_rfl) (Or.inr ⟨by rfl, rfl⟩) ?_
          try simp only [Act.put, List.setIfInBounds_toArray, List.set_cons_zero, List.set_cons_succ]
          refine wpDet_take (i := 15) (oi := _) (v := undef) (by simp only [List.getElem?_toArray, List.getElem?_cons_zero, List.getElem?_cons_succ]; rfl) (by kernel_rfl) (by kernel_rfl) (by kernel_rfl) (Or.inr ⟨by rfl, rfl⟩) ?_
          try simp only [Act.put, List.setIfInBounds_toArray, List.set_cons_zero, List.set_cons_succ]
          refine wpDet_take (i := 16) (oi := _) (v := undef) (by simp only [List.getElem?_toArray, List.getElem?_cons_zero, List.getElem?_cons_succ]; rfl) (by kernel_rfl) (by kernel_rfl) (by kernel_rfl) (Or.inr ⟨by rfl, rfl⟩) ?_
          try simp only [Act.put, List.setIfInBounds_toArray, List.set_cons_zero, List.set_cons_succ]
          refine wpDet_take (i := 17) (oi := _) (v := undef) (by simp only [List.getElem?_toArray, List.getElem?_cons_zero, List.getElem?_cons_succ]; rfl) (by kernel_rfl) (by kernel_rfl) (by kernel_rfl) (Or.inr ⟨by rfl, rfl⟩) ?_
          try simp only [Act.put, List.setIfInBounds_toArray, List.set_cons_zero, List.set_cons_succ]
          refine wpDet_take (i := 18) (oi := _) (v := undef) (by simp only [List.getElem?_toArray, List.getElem?_cons_zero, List.getElem?_cons_succ]; rfl) (by kernel_rfl) (by kernel_rfl) (by kernel_rfl) (Or.inr ⟨by rfl, rfl⟩) ?_
          try simp only [Act.put, List.setIfInBounds_toArray, List.set_cons_zero, List.set_cons_succ]
          refine wpDet_take (i := 19) (oi := _) (v := undef) (by simp only [List.getElem?_toArray, List.getElem?_cons_zero, List.getElem?_cons_succ]; rfl) (by kernel_rfl) (by kernel_rfl) (by kernel_rfl) (Or.inr ⟨by rfl, rfl⟩) ?_
          try simp only [Act.put, List.setIfInBounds_toArray, List.set_cons_zero, List.set_cons_succ]
          refine wpDet_take (i := 20) (oi := _) (v := undef) (by simp only [List.getElem?_toArray, List.getElem?_cons_zero, List.getElem?_cons_succ]; rfl) (by kernel_rfl) (by kernel_rfl) (by kernel_rfl) (Or.inr ⟨by rfl, rfl⟩) ?_
          try simp only [Act.put, List.setIfInBounds_toArray, List.set_cons_zero, List.set_cons_succ]
          refine wpDet_take (i := 21) (oi := _) (v := ?dv22) (by simp only [List.getElem?_toArray, List.getElem?_cons_zero, List.getElem?_cons_succ]; rfl) (by kernel_rfl) (by kernel_rfl) (by kernel_rfl) (Or.inl ⟨by rfl, ?dy22⟩) ?dr22
          case dy22 => (intro w hSw; have hS0 := hSw; (try dsimp only [WS] at hSw); go_simp; refine Came.value ?_ hS0; with_reducible rfl)
          try simp only [Act.put, List.setIfInBounds_toArray, List.set_cons_zero, List.set_cons_succ]
          refine wpDet_take (i := 22) (oi := _) (v := ?dv23) (by simp only [List.getElem?_toArray, List.getElem?_cons_zero, List.getElem?_cons_succ]; rfl) (by kernel_rfl) (by kernel_rfl) (by kernel_rfl) (Or.inl ⟨by rfl, ?dy23⟩) ?dr23
          case dy23 => (intro w hSw; have hS0 := hSw; (try dsimp only [WS] at hSw); go_simp; refine Came.value ?_ hS0; with_reducible rfl)
          try simp only [Act.put, List.setIfInBounds_toArray, List.set_cons_zero, List.set_cons_succ]
          refine wpDet_done (by kernel_rfl) ?_ _
          rintro w3 ⟨hF, _⟩
          go_wp2
          go_ret
          exact ⟨rfl, hF⟩
        | false =>
          rw [hlt, Bool.false_or] at hb
          have HA := Lib.hid (fun W hW => ahead_any p ⟨sc, sf, sh, sfl⟩ rc rf W hW false hlt)
          clear hlt
          by_cases hsm : sc = rc ∧ sf = rf
          · rw [decide_eq_true hsm, Bool.true_and] at hb
            obtain ⟨rfl, rfl⟩ := hsm
            go_enter Try.func14, Try.ntmps14
            go_wp2_with fail
            refine H1.out.mono ?_
            rintro e w' ⟨rfl, rfl⟩
            go_wp2_with fail
            refine H2.out.mono ?_
            rintro e w2 ⟨rfl, hf⟩
            have HS := Lib.hid (WS.of (r := ⟨sc, sf, rh, ms⟩) ((FA.out.trans hf).trans (Fr.drew _ [])) ((hf.trans (Fr.drew _ [])).heap HB.out (by simp)) (HG.out.keep (hf.trans (Fr.drew _ []))))
            clear hf
            go_wp2
            refine wp_region_det (S := WS w w.heap.size p ⟨sc, sf, sh, sfl⟩ ⟨sc, sf, rh, ms⟩ (.slice am nm cm) (.slice a1 n1 c1)) (by kernel_rfl) HS.out ?_
            refine wpDet_take (i := 0) (oi := _) (v := ?dv24) (by simp only [List.getElem?_toArray, List.getElem?_cons_zero]; rfl) (by kernel_rfl) (by kernel_rfl) (by kernel_rfl) (Or.inl ⟨by rfl, ?dy24⟩) ?dr24
            case dy24 => (intro w hSw; have hS0 := hSw; (try dsimp only [WS] at hSw); go_simp; refine Came.value ?_ hS0; with_reducible rfl)
            try simp only [Act.put, List.setIfInBounds_toArray, List.set_cons_zero, List.set_cons_succ]
            refine wpDet_take (i := 1) (oi := _) (v := ?dv25) (by simp only [List.getElem?_toArray, List.getElem?_cons_zero, List.getElem?_cons_succ]; rfl) (by kernel_rfl) (by kernel_rfl) (by kernel_rfl) (Or.inl ⟨by rfl, ?dy25⟩) ?dr25
            case dy25 => (intro w hSw; have hS0 := hSw; (try dsimp only [WS] at hSw); go_simp; refine Came.value ?_ hS0; with_reducible rfl)
            try simp only [Act.put, List.setIfInBounds_toArray, List.set_cons_zero, List.set_cons_succ]
            refine wpDet_take (i := 2) (oi := _) (v := ?dv26) (by simp only [List.getElem?_toArray, List.getElem?_cons_zero, List.getElem?_cons_succ]; rfl) (by kernel_rfl) (by kernel_rfl) (by kernel_rfl) (Or.inl ⟨by rfl, ?dy26⟩) ?dr26
            case dy26 => (intro w hSw; have hS0 := hSw; (try dsimp only [WS] at hSw); go_simp; refine Came.value ?_ hS0; with_reducible rfl)
            try simp only [Act.put, List.setIfInBounds_toArray, List.set_cons_zero, List.set_cons_succ]
            refine wpDet_take (i := 3) (oi := _) (v := ?dv27) (by simp only [List.getElem?_toArray, List.getElem?_cons_zero, List.getElem?_cons_succ]; rfl) (by kernel_rfl) (by kernel_rfl) (by kernel_rfl) (Or.inl ⟨by rfl, ?dy27⟩) ?dr27
            case dy27 => (intro w hSw; go_simp; exact Came.call ((HA.out w hSw.2.2.2.2.2.2).mono fun e w' ⟨he, hf⟩ => ⟨he, hSw.fr hf⟩) (by with_reducible rfl))
            try simp only [Act.put, List.setIfInBounds_toArray, List.set_cons_zero, List.set_cons_succ]
            refine wpDet_take (i := 4) (oi := _) (v := ?dv28) (by simp only [List.getElem?_toArray, List.getElem?_cons_zero, List.getElem?_cons_succ]; rfl) (by kernel_rfl) (by kernel_rfl) (by kernel_rfl) (Or.inl ⟨by rfl, ?dy28⟩) ?dr28
            case dy28 => (intro w hSw; have hS0 := hSw; (try dsimp only [WS] at hSw); go_simp; refine Came.value ?_ hS0; with_reducible rfl)
            try simp only [Act.put, List.setIfInBounds_toArray, List.set_cons_zero, List.set_cons_succ]
            refine wpDet_take (i := 5) (oi := _) (v := ?dv29) (by simp only [List.getElem?_toArray, List.getElem?_cons_zero, List.getElem?_cons_succ]; rfl) (by kernel_rfl) (by kernel_rfl) (by kernel_rfl) (Or.inl ⟨by rfl, ?dy29⟩) ?dr29
            case dy29 => (intro w hSw; have hS0 := hSw; (try dsimp only [WS] at hSw); go_simp; refine Came.value ?_ hS0; with_reducible rfl)
            try simp only [Act.put, List.setIfInBounds_toArray, List.set_cons_zero, List.set_cons_succ]
            refine wpDet_take (i := 6) (oi := _) (v := ?dv30) (by simp only [List.getElem?_toArray, List.getElem?_cons_zero, List.getElem?_cons_succ]; rfl) (by kernel_rfl) (by kernel_rfl) (by kernel_rfl) (Or.inl ⟨by rfl, ?dy30⟩) ?dr30
            case dy30 => (intro w hSw; have hS0 := hSw; (try dsimp only [WS] at hSw); go_simp; refine Came.value ?_ hS0; with_reducible rfl)
            try simp only [Act.put, List.setIfInBounds_toArray, List.set_cons_zero, List.set_cons_succ]
            refine wpDet_take (i := 7) (oi := _) (v := ?dv31) (by simp only [List.getElem?_toArray, List.getElem?_cons_zero, List.getElem?_cons_succ]; rfl) (by kernel_rfl) (by kernel_rfl) (by kernel_rfl) (Or.inl ⟨by rfl, ?dy31⟩) ?dr31
            case dy31 => (intro w hSw; have hS0 := hSw; (try dsimp only [WS] at hSw); go_simp; refine Came.value ?_ hS0; with_reducible rfl)
            try simp only [Act.put, List.setIfInBounds_toArray, List.set_cons_zero, List.set_cons_succ]
            refine wpDet_take (i := 8) (oi := _) (v := ?dv32) (by simp only [List.getElem?_toArray, List.getElem?_cons_zero, List.getElem?_cons_succ]; rfl) (by kernel_rfl) (by kernel_rfl) (by kernel_rfl) (Or.inl ⟨by rfl, ?dy32⟩) ?dr32
            case dy32 => (intro w hSw; have hS0 := hSw; (try dsimp only [WS] at hSw); go_simp; refine Came.value ?_ hS0; with_reducible rfl)
            try simp only [Act.put, List.setIfInBounds_toArray, List.set_cons_zero, List.set_cons_succ]
            refine wpDet_take (i := 9) (oi := _) (v := ?dv33) (by simp only [List.getElem?_toArray, List.getElem?_cons_zero, List.getElem?_cons_succ]; rfl) (by kernel_rfl) (by kernel_rfl) (by kernel_rfl) (Or.inl ⟨by rfl, ?dy33⟩) ?dr33
            case dy33 => (intro w hSw; have hS0 := hSw; (try dsimp only [WS] at hSw); go_simp; refine Came.value ?_ hS0; with_reducible rfl)
            try simp only [Act.put, List.setIfInBounds_toArray, List.set_cons_zero, List.set_cons_succ]
            refine wpDet_take (i := 10) (oi := _) (v := ?dv34) (by simp only [List.getElem?_toArray, List.getElem?_cons_zero, List.getElem?_cons_succ]; rfl) (by kernel_rfl) (by kernel_rfl) (by kernel_rfl) (Or.inl ⟨by rfl, ?dy34⟩) ?dr34
            case dy34 => (intro w hSw; have hS0 := hSw; (try dsimp only [WS] at hSw); go_simp; refine Came.value ?_ hS0; with_reducible rfl)
            try simp only [Act.put, List.setIfInBounds_toArray, List.set_cons_zero, List.set_cons_succ]
            refine wpDet_take (i := 11) (oi := _) (v := ?dv35) (by simp only [List.getElem?_toArray, List.getElem?_cons_zero, List.getElem?_cons_succ]; rfl) (by kernel_rfl) (by kernel_rfl) (by kernel_rfl) (Or.inl ⟨by rfl, ?dy35⟩) ?dr35
            case dy35 => (intro w hSw; have hS0 := hSw; (try dsimp only [WS] at hSw); go_simp; refine Came.value ?_ hS0; with_reducible rfl)
            try simp only [Act.put, List.setIfInBounds_toArray, List.set_cons_zero, List.set_cons_succ]
            refine wpDet_take (i := 12) (oi := _) (v := ?dv36) (by simp only [List.getElem?_toArray, List.getElem?_cons_zero, List.getElem?_cons_succ]; rfl) (by kernel_rfl) (by kernel_rfl) (by kernel_rfl) (Or.inl ⟨by rfl, ?dy36⟩) ?dr36
            case dy36 => (intro w hSw; have hS0 := hSw; (try dsimp only [WS] at hSw); go_simp; refine Came.value ?_ hS0; with_reducible rfl)
            try simp only [Act.put, List.setIfInBounds_toArray, List.set_cons_zero, List.set_cons_succ]
            refine wpDet_take (i := 13) (oi := _) (v := ?dv37) (by simp only [List.getElem?_toArray, List.getElem?_cons_zero, List.getElem?_cons_succ]; rfl) (by kernel_rfl) (by kernel_rfl) (by kernel_rfl) (Or.inl ⟨by rfl, ?dy37⟩) ?dr37
            case dy37 => (intro w hSw; have hS0 := hSw; (try dsimp only [WS] at hSw); go_simp; refine Came.value ?_ hS0; with_reducible rfl)
            try simp only [Act.put, List.setIfInBounds_toArray, List.set_cons_zero, List.set_cons_succ]
            refine wpDet_take (i := 14) (oi := _) (v := ?dv38) (by simp only [List.getElem?_toArray, List.getElem?_cons_zero, List.getElem?_cons_succ]; rfl) (by kernel_rfl) (by kernel_rfl) (by kernel_rfl) (Or.inl ⟨by rfl, ?dy38⟩) ?dr38
            case dy38 => (intro w hSw; have hS0 := hSw; (try dsimp only [WS] at hSw); go_simp; refine Came.value ?_ hS0; with_reducible rfl)
            try simp only [Act.put, List.setIfInBounds_toArray, List.set_cons_zero, List.set_cons_succ]
            refine wpDet_take (i := 15) (oi := _) (v := ?dv39) (by simp only [List.getElem?_toArray, List.getElem?_cons_zero, List.getElem?_cons_succ]; rfl) (by kernel_rfl) (by kernel_rfl) (by kernel_rfl) (Or.inl ⟨by rfl, ?dy39⟩) ?dr39
            case dy39 => (intro w hSw; have hS0 := hSw; (try dsimp only [WS] at hSw); go_simp; refine Came.value ?_ hS0; with_reducible rfl)
            try simp only [Act.put, List.setIfInBounds_toArray, List.set_cons_zero, List.set_cons_succ]
            refine wpDet_take (i := 16) (oi := _) (v := ?dv40) (by simp only [List.getElem?_toArray, List.getElem?_cons_zero, List.getElem?_cons_succ]; rfl) (by kernel_rfl) (by kernel_rfl) (by kernel_rfl) (Or.inl ⟨by rfl, ?dy40⟩) ?dr40
            case dy40 => (intro w hSw; have hS0 := hSw; (try dsimp only [WS] at hSw); go_simp; refine Came.value ?_ hS0; with_reducible rfl)
            try simp only [Act.put, List.setIfInBounds_toArray, List.set_cons_zero, List.set_cons_succ]
            refine wpDet_take (i := 17) (oi := _) (v := ?dv41) (by simp only [List.getElem?_toArray, List.getElem?_cons_zero, List.getElem?_cons_succ]; rfl) (by kernel_rfl) (by kernel_rfl) (by kernel_rfl) (Or.inl ⟨by rfl, ?dy41⟩) ?dr41
            case dy41 => (intro w hSw; have hS0 := hSw; (try dsimp only [WS] at hSw); go_simp; refine Came.value ?_ hS0; with_reducible rfl)
            try simp only [Act.put, List.setIfInBounds_toArray, List.set_cons_zero, List.set_cons_succ]
            refine wpDet_take (i := 18) (oi := _) (v := ?dv42) (by simp only [List.getElem?_toArray, List.getElem?_cons_zero, List.getElem?_cons_succ]; rfl) (by kernel_rfl) (by kernel_rfl) (by kernel_rfl) (Or.inl ⟨by rfl, ?dy42⟩) ?dr42
            case dy42 => (intro w hSw; have hS0 := hSw; (try dsimp only [WS] at hSw); go_simp; refine Came.value ?_ hS0; with_reducible rfl)
            try simp only [Act.put, List.setIfInBounds_toArray, List.set_cons_zero, List.set_cons_succ]
            refine wpDet_take (i := 19) (oi := _) (v := ?dv43) (by simp only [List.getElem?_toArray, List.getElem?_cons_zero, List.getElem?_cons_succ]; rfl) (by kernel_rfl) (by kernel_rfl) (by kernel_rfl) (Or.inl ⟨by rfl, ?dy43⟩) ?dr43
            case dy43 => (intro w hSw; have hS0 := hSw; (try dsimp only [WS] at hSw); go_simp; refine Came.value ?_ hS0; with_reducible rfl)
            try simp only [Act.put, List.setIfInBounds_toArray, List.set_cons_zero, List.set_cons_succ]
            refine wpDet_take (i := 20) (oi := _) (v := ?dv44) (by simp only [List.getElem?_toArray, List.getElem?_cons_zero, List.getElem?_cons_succ]; rfl) (by kernel_rfl) (by kernel_rfl) (by kernel_rfl) (Or.inl ⟨by rfl, ?dy44⟩) ?dr44
            case dy44 => (intro w hSw; have hS0 := hSw; (try dsimp only [WS] at hSw); go_simp; refine Came.value ?_ hS0; with_reducible rfl)
            try simp only [Act.put, List.setIfInBounds_toArray, List.set_cons_zero, List.set_cons_succ]
            refine wpDet_take (i := 21) (oi := _) (v := ?dv45) (by simp only [List.getElem?_toArray, List.getElem?_cons_zero, List.getElem?_cons_succ]; rfl) (by kernel_rfl) (by kernel_rfl) (by kernel_rfl) (Or.inl ⟨by rfl, ?dy45⟩) ?dr45
            case dy45 => (intro w hSw; have hS0 := hSw; (try dsimp only [WS] at hSw); go_simp; refine Came.value ?_ hS0; with_reducible rfl)
            try simp only [Act.put, List.setIfInBounds_toArray, List.set_cons_zero, List.set_cons_succ]
            refine wpDet_take (i := 22) (oi := _) (v := ?dv46) (by simp only [List.getElem?_toArray, List.getElem?_cons_zero, List.getElem?_cons_succ]; rfl) (by kernel_rfl) (by kernel_rfl) (by kernel_rfl) (Or.inl ⟨by rfl, ?dy46⟩) ?dr46
            case dy46 => (intro w hSw; have hS0 := hSw; (try dsimp only [WS] at hSw); go_simp; refine Came.value ?_ hS0; with_reducible rfl)
            try simp only [Act.put, List.setIfInBounds_toArray, List.set_cons_zero, List.set_cons_succ]
            refine wpDet_done (by kernel_rfl) ?_ _
            rintro w3 ⟨hF, _⟩
            go_wp2
            go_ret
            exact ⟨rfl, hF⟩
          · rw [decide_eq_false hsm, Bool.false_and] at hb
            subst hb
            by_cases hc : rc = sc
            · have hf : ¬ rf = sf := by omega
              clear hsm
              subst hc
              go_enter Try.func14, Try.ntmps14
              go_wp2_with fail
              refine H1.out.mono ?_
              rintro e w' ⟨rfl, rfl⟩
              go_wp2_with fail
              refine H2.out.mono ?_
              rintro e w2 ⟨rfl, hf⟩
              have HS := Lib.hid (WS.of (r := ⟨rc, rf, rh, ms⟩) ((FA.out.trans hf).trans (Fr.drew _ [])) ((hf.trans (Fr.drew _ [])).heap HB.out (by simp)) (HG.out.keep (hf.trans (Fr.drew _ []))))
              clear hf
              go_wp2
              refine wp_region_det (S := WS w w.heap.size p ⟨rc, sf, sh, sfl⟩ ⟨rc, rf, rh, ms⟩ (.slice am nm cm) (.slice a1 n1 c1)) (by kernel_rfl) HS.out ?_
              refine wpDet_take (i := 0) (oi := _) (v := ?dv47) (by simp only [List.getElem?_toArray, List.getElem?_cons_zero]; rfl) (by kernel_rfl) (by kernel_rfl) (by kernel_rfl) (Or.inl ⟨by rfl, ?dy47⟩) ?dr47
              case dy47 => (intro w hSw; have hS0 := hSw; (try dsimp only [WS] at hSw); go_simp; refine Came.value ?_ hS0; with_reducible rfl)
              try simp only [Act.put, List.setIfInBounds_toArray, List.set_cons_zero, List.set_cons_succ]
              refine wpDet_take (i := 1) (oi := _) (v := ?dv48) (by simp only [List.getElem?_toArray, List.getElem?_cons_zero, List.getElem?_cons_succ]; rfl) (by kernel_rfl) (by kernel_rfl) (by kernel_rfl) (Or.inl ⟨by rfl, ?dy48⟩) ?dr48
              case dy48 => (intro w hSw; have hS0 := hSw; (try dsimp only [WS] at hSw); go_simp; refine Came.value ?_ hS0; with_reducible rfl)
              try simp only [Act.put, List.setIfInBounds_toArray, List.set_cons_zero, List.set_cons_succ]
              refine wpDet_take (i := 2) (oi := _) (v := ?dv49) (by simp only [List.getElem?_toArray, List.getElem?_cons_zero, List.getElem?_cons_succ]; rfl) (by kernel_rfl) (by kernel_rfl) (by kernel_rfl) (Or.inl ⟨by rfl, ?dy49⟩) ?dr49
              case dy49 => (intro w hSw; have hS0 := hSw; (try dsimp only [WS] at hSw); go_simp; refine Came.value ?_ hS0; with_reducible rfl)
              try simp only [Act.put, List.setIfInBounds_toArray, List.set_cons_zero, List.set_cons_succ]
              refine wpDet_take (i := 3) (oi := _) (v := ?dv50) (by simp only [List.getElem?_toArray, List.getElem?_cons_zero, List.getElem?_cons_succ]; rfl) (by kernel_rfl) (by kernel_rfl) (by kernel_rfl) (Or.inl ⟨by rfl, ?dy50⟩) ?dr50
              case dy50 => (intro w hSw; go_simp; exact Came.call ((HA.out w hSw.2.2.2.2.2.2).mono fun e w' ⟨he, hf⟩ => ⟨he, hSw.fr hf⟩) (by with_reducible rfl))
              try simp only [Act.put, List.setIfInBounds_toArray, List.set_cons_zero, List.set_cons_succ]
              refine wpDet_take (i := 4) (oi := _) (v := ?dv51) (by simp only [List.getElem?_toArray, List.getElem?_cons_zero, List.getElem?_cons_succ]; rfl) (by kernel_rfl) (by kernel_rfl) (by kernel_rfl) (Or.inl ⟨by rfl, ?dy51⟩) ?dr51
              case dy51 => (intro w hSw; have hS0 := hSw; (try dsimp only [WS] at hSw); go_simp; refine Came.value ?_ hS0; with_reducible rfl)
              try simp only [Act.put, List.setIfInBounds_toArray, List.set_cons_zero, List.set_cons_succ]
              refine wpDet_take (i := 5) (oi := _) (v := ?dv52) (by simp only [List.getElem?_toArray, List.getElem?_cons_zero, List.getElem?_cons_succ]; rfl) (by kernel_rfl) (by kernel_rfl) (by kernel_rfl) (Or.inl ⟨by rfl, ?dy52⟩) ?dr52
              case dy52 => (intro w hSw; have hS0 := hSw; (try dsimp only [WS] at hSw); go_simp; refine Came.value ?_ hS0; with_reducible rfl)
              try simp only [Act.put, List.setIfInBounds_toArray, List.set_cons_zero, List.set_cons_succ]
              refine wpDet_take (i := 6) (oi := _) (v := ?dv53) (by simp only [List.getElem?_toArray, List.getElem?_cons_zero, List.getElem?_cons_succ]; rfl) (by kernel_rfl) (by kernel_rfl) (by kernel_rfl) (Or.inl ⟨by rfl, ?dy53⟩) ?dr53
              case dy53 => (intro w hSw; have hS0 := hSw; (try dsimp only [WS] at hSw); go_simp; refine Came.value ?_ hS0; with_reducible rfl)
              try simp only [Act.put, List.setIfInBounds_toArray, List.set_cons_zero, List.set_cons_succ]
              refine wpDet_take (i := 7) (oi := _) (v := ?dv54) (by simp only [List.getElem?_toArray, List.getElem?_cons_zero, List.getElem?_cons_succ]; rfl) (by kernel_rfl) (by kernel_rfl) (by kernel_rfl) (Or.inl ⟨by rfl, ?dy54⟩) ?dr54
              case dy54 => (intro w hSw; have hS0 := hSw; (try dsimp only [WS] at hSw); go_simp; refine Came.value ?_ hS0; with_reducible rfl)
              try simp only [Act.put, List.setIfInBounds_toArray, List.set_cons_zero, List.set_cons_succ]
              refine wpDet_take (i := 8) (oi := _) (v := ?dv55) (by simp only [List.getElem?_toArray, List.getElem?_cons_zero, List.getElem?_cons_succ]; rfl) (by kernel_rfl) (by kernel_rfl) (by kernel_rfl) (Or.inl ⟨by rfl, ?dy55⟩) ?dr55
              case dy55 => (intro w hSw; have hS0 := hSw; (try dsimp only [WS] at hSw); go_simp; refine Came.value ?_ hS0; with_reducible rfl)
              try simp only [Act.put, List.setIfInBounds_toArray, List.set_cons_zero, List.set_cons_succ]
              refine wpDet_take (i := 9) (oi := _) (v := ?dv56) (by simp only [List.getElem?_toArray, List.getElem?_cons_zero, List.getElem?_cons_succ]; rfl) (by kernel_rfl) (by kernel_rfl) (by kernel_rfl) (Or.inl ⟨by rfl, ?dy56⟩) ?dr56
              case dy56 => (intro w hSw; have hS0 := hSw; (try dsimp only [WS] at hSw); go_simp; refine Came.value ?_ hS0; with_reducible rfl)
              try simp only [Act.put, List.setIfInBounds_toArray, List.set_cons_zero, List.set_cons_succ]
              refine wpDet_take (i := 10) (oi := _) (v := ?dv57) (by simp only [List.getElem?_toArray, List.getElem?_cons_zero, List.getElem?_cons_succ]; rfl) (by kernel_rfl) (by kernel_rfl) (by kernel_rfl) (Or.inl ⟨by rfl, ?dy57⟩) ?dr57
              case dy57 => (intro w hSw; have hS0 := hSw; (try dsimp only [WS] at hSw); go_simp; refine Came.value ?_ hS0; with_reducible rfl)
              try simp only [Act.put, List.setIfInBounds_toArray, List.set_cons_zero, List.set_cons_succ]
              refine wpDet_take (i := 11) (oi := _) (v := ?dv58) (by simp only [List.getElem?_toArray, List.getElem?_cons_zero, List.getElem?_cons_succ]; rfl) (by kernel_rfl) (by kernel_rfl) (by kernel_rfl) (Or.inl ⟨by rfl, ?dy58⟩) ?dr58
              case dy58 => (intro w hSw; have hS0 := hSw; (try dsimp only [WS] at hSw); go_simp; refine Came.value ?_ hS0; with_reducible rfl)
              try simp only [Act.put, List.setIfInBounds_toArray, List.set_cons_zero, List.set_cons_succ]
              refine wpDet_take (i := 12) (oi := _) (v := ?dv59) (by simp only [List.getElem?_toArray, List.getElem?_cons_zero, List.getElem?_cons_succ]; rfl) (by kernel_rfl) (by kernel_rfl) (by kernel_rfl) (Or.inl ⟨by rfl, ?dy59⟩) ?dr59
              case dy59 => (intro w hSw; have hS0 := hSw; (try dsimp only [WS] at hSw); go_simp; refine Came.value ?_ hS0; with_reducible rfl)
              try simp only [Act.put, List.setIfInBounds_toArray, List.set_cons_zero, List.set_cons_succ]
              refine wpDet_take (i := 13) (oi := _) (v := undef) (by simp only [List.getElem?_toArray, List.getElem?_cons_zero, List.getElem?_cons_succ]; rfl) (by kernel_rfl) (by kernel_rfl) (by kernel_rfl) (Or.inr ⟨by rfl, rfl⟩) ?_
              try simp only [Act.put, List.setIfInBounds_toArray, List.set_cons_zero, List.set_cons_succ]
              refine wpDet_take (i := 14) (oi := _) (v := undef) (by simp only [List.getElem?_toArray, List.getElem?_cons_zero, List.getElem?_cons_succ]; rfl) (by kernel_rfl) (by kernel_rfl) (by kernel_rfl) (Or.inr ⟨by rfl, rfl⟩) ?_
              try simp only [Act.put, List.setIfInBounds_toArray, List.set_cons_zero, List.set_cons_succ]
              refine wpDet_take (i := 15) (oi := _) (v := undef) (by simp only [List.getElem?_toArray, List.getElem?_cons_zero, List.getElem?_cons_succ]; rfl) (by kernel_rfl) (by kernel_rfl) (by kernel_rfl) (Or.inr ⟨by rfl, rfl⟩) ?_
              try simp only [Act.put, List.setIfInBounds_toArray, List.set_cons_zero, List.set_cons_succ]
              refine wpDet_take (i := 16) (oi := _) (v := undef) (by simp only [List.getElem?_toArray, List.getElem?_cons_zero, List.getElem?_cons_succ]; rfl) (by kernel_rfl) (by kernel_rfl) (by kernel_rfl) (Or.inr ⟨by rfl, rfl⟩) ?_
              try simp only [Act.put, List.setIfInBounds_toArray, List.set_cons_zero, List.set_cons_succ]
              refine wpDet_take (i := 17) (oi := _) (v := undef) (by simp only [List.getElem?_toArray, List.getElem?_cons_zero, List.getElem?_cons_succ]; rfl) (by kernel_rfl) (by kernel_rfl) (by kernel_rfl) (Or.inr ⟨by rfl, rfl⟩) ?_
              try simp only [Act.put, List.setIfInBounds_toArray, List.set_cons_zero, List.set_cons_succ]
              refine wpDet_take (i := 18) (oi := _) (v := undef) (by simp only [List.getElem?_toArray, List.getElem?_cons_zero, List.getElem?_cons_succ]; rfl) (by kernel_rfl) (by kernel_rfl) (by kernel_rfl) (Or.inr ⟨by rfl, rfl⟩) ?_
              try simp only [Act.put, List.setIfInBounds_toArray, List.set_cons_zero, List.set_cons_succ]
              refine wpDet_take (i := 19) (oi := _) (v := undef) (by simp only [List.getElem?_toArray, List.getElem?_cons_zero, List.getElem?_cons_succ]; rfl) (by kernel_rfl) (by kernel_rfl) (by kernel_rfl) (Or.inr ⟨by rfl, rfl⟩) ?_
              try simp only [Act.put, List.setIfInBounds_toArray, List.set_cons_zero, List.set_cons_succ]
              refine wpDet_take (i := 20) (oi := _) (v := ?dv67) (by simp only [List.getElem?_toArray, List.getElem?_cons_zero, List.getElem?_cons_succ]; rfl) (by kernel_rfl) (by kernel_rfl) (by kernel_rfl) (Or.inl ⟨by rfl, ?dy67⟩) ?dr67
              case dy67 => (intro w hSw; have hS0 := hSw; (try dsimp only [WS] at hSw); go_simp; refine Came.value ?_ hS0; with_reducible rfl)
              try simp only [Act.put, List.setIfInBounds_toArray, List.set_cons_zero, List.set_cons_succ]
              refine wpDet_take (i := 21) (oi := _) (v := ?dv68) (by simp only [List.getElem?_toArray, List.getElem?_cons_zero, List.getElem?_cons_succ]; rfl) (by kernel_rfl) (by kernel_rfl) (by kernel_rfl) (Or.inl ⟨by rfl, ?dy68⟩) ?dr68
              case dy68 => (intro w hSw; have hS0 := hSw; (try dsimp only [WS] at hSw); go_simp; refine Came.value ?_ hS0; with_reducible rfl)
              try simp only [Act.put, List.setIfInBounds_toArray, List.set_cons_zero, List.set_cons_succ]
              refine wpDet_take (i := 22) (oi := _) (v := ?dv69) (by simp only [List.getElem?_toArray, List.getElem?_cons_zero, List.getElem?_cons_succ]; rfl) (by kernel_rfl) (by kernel_rfl) (by kernel_rfl) (Or.inl ⟨by rfl, ?dy69⟩) ?dr69
              case dy69 => (intro w hSw; have hS0 := hSw; (try dsimp only [WS] at hSw); go_simp; refine Came.value ?_ hS0; with_reducible rfl)
              try simp only [Act.put, List.setIfInBounds_toArray, List.set_cons_zero, List.set_cons_succ]
              refine wpDet_done (by kernel_rfl) ?_ _
              rintro w3 ⟨hF, _⟩
              go_wp2
              go_ret
              exact ⟨rfl, hF⟩
            · clear hsm
              go_enter Try.func14, Try.ntmps14
              go_wp2_with fail
              refine H1.out.mono ?_
              rintro e w' ⟨rfl, rfl⟩
              go_wp2_with fail
              refine H2.out.mono ?_
              rintro e w2 ⟨rfl, hf⟩
              have HS := Lib.hid (WS.of (r := ⟨rc, rf, rh, ms⟩) ((FA.out.trans hf).trans (Fr.drew _ [])) ((hf.trans (Fr.drew _ [])).heap HB.out (by simp)) (HG.out.keep (hf.trans (Fr.drew _ []))))
              clear hf
              go_wp2
              refine wp_region_det (S := WS w w.heap.size p ⟨sc, sf, sh, sfl⟩ ⟨rc, rf, rh, ms⟩ (.slice am nm cm) (.slice a1 n1 c1)) (by kernel_rfl) HS.out ?_
              refine wpDet_take (i := 0) (oi := _) (v := ?dv70) (by simp only [List.getElem?_toArray, List.getElem?_cons_zero]; rfl) (by kernel_rfl) (by kernel_rfl) (by kernel_rfl) (Or.inl ⟨by rfl, ?dy70⟩) ?dr70
              case dy70 => (intro w hSw; have hS0 := hSw; (try dsimp only [WS] at hSw); go_simp; refine Came.value ?_ hS0; with_reducible rfl)
              try simp only [Act.put, List.setIfInBounds_toArray, List.set_cons_zero, List.set_cons_succ]
              refine wpDet_take (i := 1) (oi := _) (v := ?dv71) (by simp only [List.getElem?_toArray, List.getElem?_cons_zero, List.getElem?_cons_succ]; rfl) (by kernel_rfl) (by kernel_rfl) (by kernel_rfl) (Or.inl ⟨by rfl, ?dy71⟩) ?dr71
              case dy71 => (intro w hSw; have hS0 := hSw; (try dsimp only [WS] at hSw); go_simp; refine Came.value ?_ hS0; with_reducible rfl)
              try simp only [Act.put, List.setIfInBounds_toArray, List.set_cons_zero, List.set_cons_succ]
              refine wpDet_take (i := 2) (oi := _) (v := ?dv72) (by simp only [List.getElem?_toArray, List.getElem?_cons_zero, List.getElem?_cons_succ]; rfl) (by kernel_rfl) (by kernel_rfl) (by kernel_rfl) (Or.inl ⟨by rfl, ?dy72⟩) ?dr72
              case dy72 => (intro w hSw; have hS0 := hSw; (try dsimp only [WS] at hSw); go_simp; refine Came.value ?_ hS0; with_reducible rfl)
              try simp only [Act.put, List.setIfInBounds_toArray, List.set_cons_zero, List.set_cons_succ]
              refine wpDet_take (i := 3) (oi := _) (v := ?dv73) (by simp only [List.getElem?_toArray, List.getElem?_cons_zero, List.getElem?_cons_succ]; rfl) (by kernel_rfl) (by kernel_rfl) (by kernel_rfl) (Or.inl ⟨by rfl, ?dy73⟩) ?dr73
              case dy73 => (intro w hSw; go_simp; exact Came.call ((HA.out w hSw.2.2.2.2.2.2).mono fun e w' ⟨he, hf⟩ => ⟨he, hSw.fr hf⟩) (by with_reducible rfl))
              try simp only [Act.put, List.setIfInBounds_toArray, List.set_cons_zero, List.set_cons_succ]
              refine wpDet_take (i := 4) (oi := _) (v := ?dv74) (by simp only [List.getElem?_toArray, List.getElem?_cons_zero, List.getElem?_cons_succ]; rfl) (by kernel_rfl) (by kernel_rfl) (by kernel_rfl) (Or.inl ⟨by rfl, ?dy74⟩) ?dr74
              case dy74 => (intro w hSw; have hS0 := hSw; (try dsimp only [WS] at hSw); go_simp; refine Came.value ?_ hS0; with_reducible rfl)
              try simp only [Act.put, List.setIfInBounds_toArray, List.set_cons_zero, List.set_cons_succ]
              refine wpDet_take (i := 5) (oi := _) (v := ?dv75) (by simp only [List.getElem?_toArray, List.getElem?_cons_zero, List.getElem?_cons_succ]; rfl) (by kernel_rfl) (by kernel_rfl) (by kernel_rfl) (Or.inl ⟨by rfl, ?dy75⟩) ?dr75
              case dy75 => (intro w hSw; have hS0 := hSw; (try dsimp only [WS] at hSw); go_simp; refine Came.value ?_ hS0; with_reducible rfl)
              try simp only [Act.put, List.setIfInBounds_toArray, List.set_cons_zero, List.set_cons_succ]
              refine wpDet_take (i := 6) (oi := _) (v := ?dv76) (by simp only [List.getElem?_toArray, List.getElem?_cons_zero, List.getElem?_cons_succ]; rfl) (by kernel_rfl) (by kernel_rfl) (by kernel_rfl) (Or.inl ⟨by rfl, ?dy76⟩) ?dr76
              case dy76 => (intro w hSw; have hS0 := hSw; (try dsimp only [WS] at hSw); go_simp; refine Came.value ?_ hS0; with_reducible rfl)
              try simp only [Act.put, List.setIfInBounds_toArray, List.set_cons_zero, List.set_cons_succ]
              refine wpDet_take (i := 7) (oi := _) (v := ?dv77) (by simp only [List.getElem?_toArray, List.getElem?_cons_zero, List.getElem?_cons_succ]; rfl) (by kernel_rfl) (by kernel_rfl) (by kernel_rfl) (Or.inl ⟨by rfl, ?dy77⟩) ?dr77
              case dy77 => (intro w hSw; have hS0 := hSw; (try dsimp only [WS] at hSw); go_simp; refine Came.value ?_ hS0; with_reducible rfl)
              try simp only [Act.put, List.setIfInBounds_toArray, List.set_cons_zero, List.set_cons_succ]
              refine wpDet_take (i := 8) (oi := _) (v := ?dv78) (by simp only [List.getElem?_toArray, List.getElem?_cons_zero, List.getElem?_cons_succ]; rfl) (by kernel_rfl) (by kernel_rfl) (by kernel_rfl) (Or.inl ⟨by rfl, ?dy78⟩) ?dr78
              case dy78 => (intro w hSw; have hS0 := hSw; (try dsimp only [WS] at hSw); go_simp; refine Came.value ?_ hS0; with_reducible rfl)
              try simp only [Act.put, List.setIfInBounds_toArray, List.set_cons_zero, List.set_cons_succ]
              refine wpDet_take (i := 9) (oi := _) (v := ?dv79) (by simp only [List.getElem?_toArray, List.getElem?_cons_zero, List.getElem?_cons_succ]; rfl) (by kernel_rfl) (by kernel_rfl) (by kernel_rfl) (Or.inl ⟨by rfl, ?dy79⟩) ?dr79
              case dy79 => (intro w hSw; have hS0 := hSw; (try dsimp only [WS] at hSw); go_simp; refine Came.value ?_ hS0; with_reducible rfl)
              try simp only [Act.put, List.setIfInBounds_toArray, List.set_cons_zero, List.set_cons_succ]
              refine wpDet_take (i := 10) (oi := _) (v := ?dv80) (by simp only [List.getElem?_toArray, List.getElem?_cons_zero, List.getElem?_cons_succ]; rfl) (by kernel_rfl) (by kernel_rfl) (by kernel_rfl) (Or.inl ⟨by rfl, ?dy80⟩) ?dr80
              case dy80 => (intro w hSw; have hS0 := hSw; (try dsimp only [WS] at hSw); go_simp; refine Came.value ?_ hS0; with_reducible rfl)
              try simp only [Act.put, List.setIfInBounds_toArray, List.set_cons_zero, List.set_cons_succ]
              refine wpDet_take (i := 11) (oi := _) (v := ?dv81) (by simp only [List.getElem?_toArray, List.getElem?_cons_zero, List.getElem?_cons_succ]; rfl) (by kernel_rfl) (by kernel_rfl) (by kernel_rfl) (Or.inl ⟨by rfl, ?dy81⟩) ?dr81
              case dy81 => (intro w hSw; have hS0 := hSw; (try dsimp only [WS] at hSw); go_simp; refine Came.value ?_ hS0; with_reducible rfl)
              try simp only [Act.put, List.setIfInBounds_toArray, List.set_cons_zero, List.set_cons_succ]
              refine wpDet_take (i := 12) (oi := _) (v := ?dv82) (by simp only [List.getElem?_toArray, List.getElem?_cons_zero, List.getElem?_cons_succ]; rfl) (by kernel_rfl) (by kernel_rfl) (by kernel_rfl) (Or.inl ⟨by rfl, ?dy82⟩) ?dr82
              case dy82 => (intro w hSw; have hS0 := hSw; (try dsimp only [WS] at hSw); go_simp; refine Came.value ?_ hS0; with_reducible rfl)
              try simp only [Act.put, List.setIfInBounds_toArray, List.set_cons_zero, List.set_cons_succ]
              refine wpDet_take (i := 13) (oi := _) (v := undef) (by simp only [List.getElem?_toArray, List.getElem?_cons_zero, List.getElem?_cons_succ]; rfl) (by kernel_rfl) (by kernel_rfl) (by kernel_rfl) (Or.inr ⟨by rfl, rfl⟩) ?_
              try simp only [Act.put, List.setIfInBounds_toArray, List.set_cons_zero, List.set_cons_succ]
              refine wpDet_take (i := 14) (oi := _) (v := undef) (by simp only [List.getElem?_toArray, List.getElem?_cons_zero, List.getElem?_cons_succ]; rfl) (by kernel_rfl) (by kernel_rfl) (by kernel_rfl) (Or.inr ⟨by rfl, rfl⟩) ?_
              try simp only [Act.put, List.setIfInBounds_toArray, List.set_cons_zero, List.set_cons_succ]
              refine wpDet_take (i := 15) (oi := _) (v := undef) (by simp only [List.getElem?_toArray, List.getElem?_cons_zero, List.getElem?_cons_succ]; rfl) (by kernel_rfl) (by kernel_rfl) (by kernel_rfl) (Or.inr ⟨by rfl, rfl⟩) ?_
              try simp only [Act.put, List.setIfInBounds_toArray, List.set_cons_zero, List.set_cons_succ]
              refine wpDet_take (i := 16) (oi := _) (v := undef) (by simp only [List.getElem?_toArray, List.getElem?_cons_zero, List.getElem?_cons_succ]; rfl) (by kernel_rfl) (by kernel_rfl) (by kernel_rfl) (Or.inr ⟨by rfl, rfl⟩) ?_
              try simp only [Act.put, List.setIfInBounds_toArray, List.set_cons_zero, List.set_cons_succ]
              refine wpDet_take (i := 17) (oi := _) (v := undef) (by simp only [List.getElem?_toArray, List.getElem?_cons_zero, List.getElem?_cons_succ]; rfl) (by kernel_rfl) (by kernel_rfl) (by kernel_rfl) (Or.inr ⟨by rfl, rfl⟩) ?_
              try simp only [Act.put, List.setIfInBounds_toArray, List.set_cons_zero, List.set_cons_succ]
              refine wpDet_take (i := 18) (oi := _) (v := undef) (by simp only [List.getElem?_toArray, List.getElem?_cons_zero, List.getElem?_cons_succ]; rfl) (by kernel_rfl) (by kernel_rfl) (by kernel_rfl) (Or.inr ⟨by rfl, rfl⟩) ?_
              try simp only [Act.put, List.setIfInBounds_toArray, List.set_cons_zero, List.set_cons_succ]
              refine wpDet_take (i := 19) (oi := _) (v := undef) (by simp only [List.getElem?_toArray, List.getElem?_cons_zero, List.getElem?_cons_succ]; rfl) (by kernel_rfl) (by kernel_rfl) (by kernel_rfl) (Or.inr ⟨by rfl, rfl⟩) ?_
              try simp only [Act.put, List.setIfInBounds_toArray, List.set_cons_zero, List.set_cons_succ]
              refine wpDet_take (i := 20) (oi := _) (v := ?dv90) (by simp only [List.getElem?_toArray, List.getElem?_cons_zero, List.getElem?_cons_succ]; rfl) (by kernel_rfl) (by kernel_rfl) (by kernel_rfl) (Or.inl ⟨by rfl, ?dy90⟩) ?dr90
              case dy90 => (intro w hSw; have hS0 := hSw; (try dsimp only [WS] at hSw); go_simp; refine Came.value ?_ hS0; with_reducible rfl)
              try simp only [Act.put, List.setIfInBounds_toArray, List.set_cons_zero, List.set_cons_succ]
              refine wpDet_take (i := 21) (oi := _) (v := ?dv91) (by simp only [List.getElem?_toArray, List.getElem?_cons_zero, List.getElem?_cons_succ]; rfl) (by kernel_rfl) (by kernel_rfl) (by kernel_rfl) (Or.inl ⟨by rfl, ?dy91⟩) ?dr91
              case dy91 => (intro w hSw; have hS0 := hSw; (try dsimp only [WS] at hSw); go_simp; refine Came.value ?_ hS0; with_reducible rfl)
              try simp only [Act.put, List.setIfInBounds_toArray, List.set_cons_zero, List.set_cons_succ]
              refine wpDet_take (i := 22) (oi := _) (v := ?dv92) (by simp only [List.getElem?_toArray, List.getElem?_cons_zero, List.getElem?_cons_succ]; rfl) (by kernel_rfl) (by kernel_rfl) (by kernel_rfl) (Or.inl ⟨by rfl, ?dy92⟩) ?dr92
              case dy92 => (intro w hSw; have hS0 := hSw; (try dsimp only [WS] at hSw); go_simp; refine Came.value ?_ hS0; with_reducible rfl)
              try simp only [Act.put, List.setIfInBounds_toArray, List.set_cons_zero, List.set_cons_succ]
              refine wpDet_done (by kernel_rfl) ?_ _
              rintro w3 ⟨hF, _⟩
              go_wp2
              go_ret
              exact ⟨rfl, hF⟩
    · rw [decide_eq_false hin, Bool.false_and] at hb
      subst hb
      have H1 := Lib.hid (has_any _ ms to _ HM.out false (by rw [decide_eq_false hin]))
      clear hin
      go_enter Try.func14, Try.ntmps14
      go_wp2_with fail
      refine H1.out.mono ?_
      rintro e w' ⟨rfl, rfl⟩
      go_wp2
      go_ret
      exact ⟨rfl, FA.out⟩
  · have hne : (to != car) = true := by simp [hto]
    rw [decide_eq_false hto, Bool.false_and] at hb
    subst hb
    clear hto
    go_enter Try.func14, Try.ntmps14
    go_wp2
    go_ret
    exact ⟨rfl, FA.out⟩
end Go.Proofs.Ytlkpgpiklfbacaa
