/- The document's gate. -/
import Derived.Test.YtlkpgpiklfbacaaGTake
namespace Go.Proofs.Ytlkpgpiklfbacaa
open Go.RowKit

/-- The block p is the document's gate that holds s. -/
def RGt (w : World) (p : Nat) (s : GS) : Prop := w.heap[p]? = some (.cells #[.int .i64 s.fl, .int .i64 s.c, .int .i64 s.f, .int .i64 s.h] 47 (0, 0))
theorem RGt.fr {w w' : World} {p : Nat} {s : GS} {S : List Nat} (h : RGt w p s) (hf : Fr w w' S) (hp : p ∉ S) : RGt w' p s := hf.heap h hp
theorem RGt.keep {w w' : World} {p : Nat} {s : GS} (h : RGt w p s) (hf : Fr w w' []) : RGt w' p s := h.fr hf (by simp)
theorem RGt.lt {w : World} {p : Nat} {s : GS} (h : RGt w p s) : p < w.heap.size := size_of_row h
theorem RGt.cells {w : World} {p : Nat} {s : GS} (h : RGt w p s) :
    w.cell? ⟨p, 0, none⟩ = some (.int .i64 s.fl) ∧ w.cell? ⟨p, 1, none⟩ = some (.int .i64 s.c) ∧ w.cell? ⟨p, 2, none⟩ = some (.int .i64 s.f) ∧ w.cell? ⟨p, 3, none⟩ = some (.int .i64 s.h) := row4 h
theorem RGt.ice {w : World} {p : Nat} {s : GS} (h : RGt w p s) : ∀ i, w.frozen? ⟨p, i, none⟩ = false := fun i => frozen_of_row w p i _ _ h
theorem RGt.set3 {w : World} {p : Nat} {s : GS} (h : RGt w p s) (c f n : Int) : RGt (((w.setCell ⟨p, 1, none⟩ (.int .i64 c)).setCell ⟨p, 2, none⟩ (.int .i64 f)).setCell ⟨p, 3, none⟩ (.int .i64 n)) p ⟨c, f, n, s.fl⟩ := by
  have g1 := heap_setCell_same _ _ 1 _ _ (.int .i64 c) h
  have g2 := heap_setCell_same _ _ 2 _ _ (.int .i64 f) g1
  have g3 := heap_setCell_same _ _ 3 _ _ (.int .i64 n) g2
  exact g3
set_option maxRecDepth 100000 in
theorem rnew_any (n : Int) (w : World) : Calls Try.prog 16 #[.int .i64 n] w fun e w' => e = .returned (.pointer (some ⟨w.heap.size, 0, none⟩)) ∧ RGt w' w.heap.size ⟨0, 0, 0, max n 0⟩ ∧ Fr w w' [] := by
  by_cases h : 0 ≤ n
  all_goals
    go_enter Try.func16, Try.ntmps16
    go_wp2
    go_ret
    refine ⟨rfl, ?_, Fr.alloc _ _ _⟩
    unfold RGt
    rw [heap_alloc_new]

/-- What stands while a region is walked: the ring's cells, the gate's. -/
def RWS (W : World) (b p : Nat) (s : GS) (r : RN) (vm ve : Value) (a : World) : Prop := Fr W a [] ∧
  (a.cell? ⟨b, 0, none⟩ = some (.int .i64 r.c) ∧ a.cell? ⟨b, 1, none⟩ = some (.int .i64 r.f) ∧ a.cell? ⟨b, 2, none⟩ = some (.int .i64 r.h) ∧ a.cell? ⟨b, 3, none⟩ = some vm ∧ a.cell? ⟨b, 4, none⟩ = some ve) ∧
  (a.cell? ⟨p, 0, none⟩ = some (.int .i64 s.fl) ∧ a.cell? ⟨p, 1, none⟩ = some (.int .i64 s.c) ∧ a.cell? ⟨p, 2, none⟩ = some (.int .i64 s.f) ∧ a.cell? ⟨p, 3, none⟩ = some (.int .i64 s.h)) ∧ HInts a vm r.ms ∧ RGt a p s
theorem RWS.fr {W : World} {b p : Nat} {s : GS} {r : RN} {vm ve : Value} {a a' : World} (h : RWS W b p s r vm ve a) (k : Fr a a' []) : RWS W b p s r vm ve a' := by
  obtain ⟨h0, ⟨h1, h2, h3, h4, h5⟩, ⟨g0, g1, g2, g3⟩, h6, h7⟩ := h
  exact ⟨h0.trans k, ⟨k.cell h1 (by simp), k.cell h2 (by simp), k.cell h3 (by simp), k.cell h4 (by simp), k.cell h5 (by simp)⟩, ⟨k.cell g0 (by simp), k.cell g1 (by simp), k.cell g2 (by simp), k.cell g3 (by simp)⟩, h6.keep k, h7.keep k⟩
theorem RWS.of {W : World} {b p : Nat} {s : GS} {r : RN} {vm ve : Value} {a : World} (hf : Fr W a []) (hb : a.heap[b]? = some (.cells #[.int .i64 r.c, .int .i64 r.f, .int .i64 r.h, vm, ve] 29 (0, 0))) (hg : RGt a p s) (hm : HInts a vm r.ms) : RWS W b p s r vm ve a :=
  ⟨hf, row5 hb, hg.cells, hm, hg⟩

set_option maxHeartbeats 2000000 in
set_option maxRecDepth 100000 in
theorem rwould_any (p : Nat) (s : GS) (car to : Int) (r : RN) (vm ve : Value) (w : World) (hg : RGt w p s) (hm : HInts w vm r.ms) (hv : IsSl ve) (b : Bool) (hb : wouldB s car to r = b) :
    Calls Try.prog 19 #[.pointer (some ⟨p, 0, none⟩), .int .i64 car, .int .i64 to, r.v vm ve] w fun e w' => e = .returned (.bool b) ∧ Fr w w' [] := by
  have hlt := hg.lt
  obtain ⟨am, nm, cm, rfl⟩ := hm.sl
  obtain ⟨a1, n1, c1, rfl⟩ := hv
  have FA : Fr w (w.alloc (.cells #[.int .i64 r.c, .int .i64 r.f, .int .i64 r.h, .slice am nm cm, .slice a1 n1 c1] 29)).drew [] := (Fr.alloc w _ []).trans (Fr.drew _ [])
  have HB := heap_alloc_new w (.cells #[.int .i64 r.c, .int .i64 r.f, .int .i64 r.h, .slice am nm cm, .slice a1 n1 c1] 29)
  have HS := Lib.hid (RWS.of (r := r) FA HB (hg.keep FA) (hm.keep FA))
  clear FA HB hg hm
  unfold wouldB allowsB at hb
  obtain ⟨sc, sf, sh, sfl⟩ := s
  obtain ⟨rc, rf, rh, ms⟩ := r
  dsimp only [RN.v] at *
  by_cases hto : to = car
  · subst hto
    have hne : (to != to) = false := by simp
    rw [decide_eq_true rfl, Bool.true_and] at hb
    by_cases hin : to ∈ ms
    · rw [decide_eq_true hin, Bool.true_and] at hb
      have HA := Lib.hid (fun W hW => among_any (.slice am nm cm) ms to W hW true (by rw [decide_eq_true hin]))
      clear hin
      cases hok : epOk rc rf with
      | false =>
        rw [hok, Bool.false_and, Bool.false_and] at hb
        subst hb
        have hv := ep_rvalid rc rf
        rw [hok] at hv
        have HV := Lib.hid hv
        clear hv hok
        go_enter Try.func19, Try.ntmps19
        go_wp2
        refine wp_region_det (S := RWS w w.heap.size p ⟨sc, sf, sh, sfl⟩ ⟨rc, rf, rh, ms⟩ (.slice am nm cm) (.slice a1 n1 c1)) (by kernel_rfl) HS.out ?_
        refine wpDet_take (i := 0) (oi := _) (v := ?dv1) (by simp only [List.getElem?_toArray, List.getElem?_cons_zero]; rfl) (by kernel_rfl) (by kernel_rfl) (by kernel_rfl) (Or.inl ⟨by rfl, ?dy1⟩) ?dr1
        case dy1 => (intro w hSw; have hS0 := hSw; (try dsimp only [RWS] at hSw); go_simp; refine Came.value ?_ hS0; with_reducible rfl)
        try simp only [Act.put, List.setIfInBounds_toArray, List.set_cons_zero, List.set_cons_succ]
        refine wpDet_take (i := 1) (oi := _) (v := ?dv2) (by simp only [List.getElem?_toArray, List.getElem?_cons_zero, List.getElem?_cons_succ]; rfl) (by kernel_rfl) (by kernel_rfl) (by kernel_rfl) (Or.inl ⟨by rfl, ?dy2⟩) ?dr2
        case dy2 => (intro w hSw; have hS0 := hSw; (try dsimp only [RWS] at hSw); go_simp; refine Came.value ?_ hS0; with_reducible rfl)
        try simp only [Act.put, List.setIfInBounds_toArray, List.set_cons_zero, List.set_cons_succ]
        refine wpDet_take (i := 2) (oi := _) (v := ?dv3) (by simp only [List.getElem?_toArray, List.getElem?_cons_zero, List.getElem?_cons_succ]; rfl) (by kernel_rfl) (by kernel_rfl) (by kernel_rfl) (Or.inl ⟨by rfl, ?dy3⟩) ?dr3
        case dy3 => (intro w hSw; have hS0 := hSw; (try dsimp only [RWS] at hSw); go_simp; refine Came.value ?_ hS0; with_reducible rfl)
        try simp only [Act.put, List.setIfInBounds_toArray, List.set_cons_zero, List.set_cons_succ]
        refine wpDet_take (i := 3) (oi := _) (v := ?dv4) (by simp only [List.getElem?_toArray, List.getElem?_cons_zero, List.getElem?_cons_succ]; rfl) (by kernel_rfl) (by kernel_rfl) (by kernel_rfl) (Or.inl ⟨by rfl, ?dy4⟩) ?dr4
        case dy4 => (intro w hSw; have hS0 := hSw; (try dsimp only [RWS] at hSw); go_simp; refine Came.value ?_ hS0; with_reducible rfl)
        try simp only [Act.put, List.setIfInBounds_toArray, List.set_cons_zero, List.set_cons_succ]
        refine wpDet_take (i := 4) (oi := _) (v := ?dv5) (by simp only [List.getElem?_toArray, List.getElem?_cons_zero, List.getElem?_cons_succ]; rfl) (by kernel_rfl) (by kernel_rfl) (by kernel_rfl) (Or.inl ⟨by rfl, ?dy5⟩) ?dr5
        case dy5 => (intro w hSw; have hS0 := hSw; (try dsimp only [RWS] at hSw); go_simp; refine Came.value ?_ hS0; with_reducible rfl)
        try simp only [Act.put, List.setIfInBounds_toArray, List.set_cons_zero, List.set_cons_succ]
        refine wpDet_take (i := 5) (oi := _) (v := ?dv6) (by simp only [List.getElem?_toArray, List.getElem?_cons_zero, List.getElem?_cons_succ]; rfl) (by kernel_rfl) (by kernel_rfl) (by kernel_rfl) (Or.inl ⟨by rfl, ?dy6⟩) ?dr6
        case dy6 => (intro w hSw; have hS0 := hSw; (try dsimp only [RWS] at hSw); go_simp; refine Came.value ?_ hS0; with_reducible rfl)
        try simp only [Act.put, List.setIfInBounds_toArray, List.set_cons_zero, List.set_cons_succ]
        refine wpDet_take (i := 6) (oi := _) (v := ?dv7) (by simp only [List.getElem?_toArray, List.getElem?_cons_zero, List.getElem?_cons_succ]; rfl) (by kernel_rfl) (by kernel_rfl) (by kernel_rfl) (Or.inl ⟨by rfl, ?dy7⟩) ?dr7
        case dy7 => (intro w hSw; have hS0 := hSw; (try dsimp only [RWS] at hSw); go_simp; refine Came.value ?_ hS0; with_reducible rfl)
        try simp only [Act.put, List.setIfInBounds_toArray, List.set_cons_zero, List.set_cons_succ]
        refine wpDet_take (i := 7) (oi := _) (v := ?dv8) (by simp only [List.getElem?_toArray, List.getElem?_cons_zero, List.getElem?_cons_succ]; rfl) (by kernel_rfl) (by kernel_rfl) (by kernel_rfl) (Or.inl ⟨by rfl, ?dy8⟩) ?dr8
        case dy8 => (intro w hSw; go_simp; exact Came.call ((HA.out w hSw.2.2.2.1).mono fun e w' ⟨he, hw⟩ => ⟨he, hw ▸ hSw⟩) (by with_reducible rfl))
        try simp only [Act.put, List.setIfInBounds_toArray, List.set_cons_zero, List.set_cons_succ]
        refine wpDet_take (i := 8) (oi := _) (v := ?dv9) (by simp only [List.getElem?_toArray, List.getElem?_cons_zero, List.getElem?_cons_succ]; rfl) (by kernel_rfl) (by kernel_rfl) (by kernel_rfl) (Or.inl ⟨by rfl, ?dy9⟩) ?dr9
        case dy9 => (intro w hSw; have hS0 := hSw; (try dsimp only [RWS] at hSw); go_simp; refine Came.value ?_ hS0; with_reducible rfl)
        try simp only [Act.put, List.setIfInBounds_toArray, List.set_cons_zero, List.set_cons_succ]
        refine wpDet_take (i := 9) (oi := _) (v := ?dv10) (by simp only [List.getElem?_toArray, List.getElem?_cons_zero, List.getElem?_cons_succ]; rfl) (by kernel_rfl) (by kernel_rfl) (by kernel_rfl) (Or.inl ⟨by rfl, ?dy10⟩) ?dr10
        case dy10 => (intro w hSw; have hS0 := hSw; (try dsimp only [RWS] at hSw); go_simp; refine Came.value ?_ hS0; with_reducible rfl)
        try simp only [Act.put, List.setIfInBounds_toArray, List.set_cons_zero, List.set_cons_succ]
        refine wpDet_take (i := 10) (oi := _) (v := ?dv11) (by simp only [List.getElem?_toArray, List.getElem?_cons_zero, List.getElem?_cons_succ]; rfl) (by kernel_rfl) (by kernel_rfl) (by kernel_rfl) (Or.inl ⟨by rfl, ?dy11⟩) ?dr11
        case dy11 => (intro w hSw; have hS0 := hSw; (try dsimp only [RWS] at hSw); go_simp; refine Came.value ?_ hS0; with_reducible rfl)
        try simp only [Act.put, List.setIfInBounds_toArray, List.set_cons_zero, List.set_cons_succ]
        refine wpDet_take (i := 11) (oi := _) (v := ?dv12) (by simp only [List.getElem?_toArray, List.getElem?_cons_zero, List.getElem?_cons_succ]; rfl) (by kernel_rfl) (by kernel_rfl) (by kernel_rfl) (Or.inl ⟨by rfl, ?dy12⟩) ?dr12
        case dy12 => (intro w hSw; have hS0 := hSw; (try dsimp only [RWS] at hSw); go_simp; refine Came.value ?_ hS0; with_reducible rfl)
        try simp only [Act.put, List.setIfInBounds_toArray, List.set_cons_zero, List.set_cons_succ]
        refine wpDet_take (i := 12) (oi := _) (v := ?dv13) (by simp only [List.getElem?_toArray, List.getElem?_cons_zero, List.getElem?_cons_succ]; rfl) (by kernel_rfl) (by kernel_rfl) (by kernel_rfl) (Or.inl ⟨by rfl, ?dy13⟩) ?dr13
        case dy13 => (intro w hSw; have hS0 := hSw; (try dsimp only [RWS] at hSw); go_simp; refine Came.value ?_ hS0; with_reducible rfl)
        try simp only [Act.put, List.setIfInBounds_toArray, List.set_cons_zero, List.set_cons_succ]
        refine wpDet_take (i := 13) (oi := _) (v := ?dv14) (by simp only [List.getElem?_toArray, List.getElem?_cons_zero, List.getElem?_cons_succ]; rfl) (by kernel_rfl) (by kernel_rfl) (by kernel_rfl) (Or.inl ⟨by rfl, ?dy14⟩) ?dr14
        case dy14 => (intro w hSw; go_simp; exact Came.call ((HV.out w).mono fun e w' ⟨he, hf⟩ => ⟨he, hSw.fr hf⟩) (by with_reducible rfl))
        try simp only [Act.put, List.setIfInBounds_toArray, List.set_cons_zero, List.set_cons_succ]
        refine wpDet_take (i := 14) (oi := _) (v := ?dv15) (by simp only [List.getElem?_toArray, List.getElem?_cons_zero, List.getElem?_cons_succ]; rfl) (by kernel_rfl) (by kernel_rfl) (by kernel_rfl) (Or.inl ⟨by rfl, ?dy15⟩) ?dr15
        case dy15 => (intro w hSw; have hS0 := hSw; (try dsimp only [RWS] at hSw); go_simp; refine Came.value ?_ hS0; with_reducible rfl)
        try simp only [Act.put, List.setIfInBounds_toArray, List.set_cons_zero, List.set_cons_succ]
        refine wpDet_take (i := 15) (oi := _) (v := ?dv16) (by simp only [List.getElem?_toArray, List.getElem?_cons_zero, List.getElem?_cons_succ]; rfl) (by kernel_rfl) (by kernel_rfl) (by kernel_rfl) (Or.inl ⟨by rfl, ?dy16⟩) ?dr16
        case dy16 => (intro w hSw; have hS0 := hSw; (try dsimp only [RWS] at hSw); go_simp; refine Came.value ?_ hS0; with_reducible rfl)
        try simp only [Act.put, List.setIfInBounds_toArray, List.set_cons_zero, List.set_cons_succ]
        refine wpDet_take (i := 16) (oi := _) (v := ?dv17) (by simp only [List.getElem?_toArray, List.getElem?_cons_zero, List.getElem?_cons_succ]; rfl) (by kernel_rfl) (by kernel_rfl) (by kernel_rfl) (Or.inl ⟨by rfl, ?dy17⟩) ?dr17
        case dy17 => (intro w hSw; have hS0 := hSw; (try dsimp only [RWS] at hSw); go_simp; refine Came.value ?_ hS0; with_reducible rfl)
        try simp only [Act.put, List.setIfInBounds_toArray, List.set_cons_zero, List.set_cons_succ]
        refine wpDet_take (i := 17) (oi := _) (v := undef) (by simp only [List.getElem?_toArray, List.getElem?_cons_zero, List.getElem?_cons_succ]; rfl) (by kernel_rfl) (by kernel_rfl) (by kernel_rfl) (Or.inr ⟨by rfl, rfl⟩) ?_
        try simp only [Act.put, List.setIfInBounds_toArray, List.set_cons_zero, List.set_cons_succ]
        refine wpDet_take (i := 18) (oi := _) (v := undef) (by simp only [List.getElem?_toArray, List.getElem?_cons_zero, List.getElem?_cons_succ]; rfl) (by kernel_rfl) (by kernel_rfl) (by kernel_rfl) (Or.inr ⟨by rfl, rfl⟩) ?_
        try simp only [Act.put, List.setIfInBounds_toArray, List.set_cons_zero, List.set_cons_succ]
        refine wpDet_take (i := 19) (oi := _) (v := undef) (by simp only [List.getElem?_toArray, List.getElem?_cons_zero, List.getElem?_cons_succ]; rfl) (by kernel_rfl) (by kernel_rfl) (by kernel_rfl) (Or.inr ⟨by rfl, rfl⟩) ?_
        try simp only [Act.put, List.setIfInBounds_toArray, List.set_cons_zero, List.set_cons_succ]
        refine wpDet_take (i := 20) (oi := _) (v := undef) (by simp only [List.getElem?_toArray, List.getElem?_cons_zero, List.getElem?_cons_succ]; rfl) (by kernel_rfl) (by kernel_rfl) (by kernel_rfl) (Or.inr ⟨by rfl, rfl⟩) ?_
        try simp only [Act.put, List.setIfInBounds_toArray, List.set_cons_zero, List.set_cons_succ]
        refine wpDet_take (i := 21) (oi := _) (v := undef) (by simp only [List.getElem?_toArray, List.getElem?_cons_zero, List.getElem?_cons_succ]; rfl) (by kernel_rfl) (by kernel_rfl) (by kernel_rfl) (Or.inr ⟨by rfl, rfl⟩) ?_
        try simp only [Act.put, List.setIfInBounds_toArray, List.set_cons_zero, List.set_cons_succ]
        refine wpDet_take (i := 22) (oi := _) (v := undef) (by simp only [List.getElem?_toArray, List.getElem?_cons_zero, List.getElem?_cons_succ]; rfl) (by kernel_rfl) (by kernel_rfl) (by kernel_rfl) (Or.inr ⟨by rfl, rfl⟩) ?_
        try simp only [Act.put, List.setIfInBounds_toArray, List.set_cons_zero, List.set_cons_succ]
        refine wpDet_take (i := 23) (oi := _) (v := undef) (by simp only [List.getElem?_toArray, List.getElem?_cons_zero, List.getElem?_cons_succ]; rfl) (by kernel_rfl) (by kernel_rfl) (by kernel_rfl) (Or.inr ⟨by rfl, rfl⟩) ?_
        try simp only [Act.put, List.setIfInBounds_toArray, List.set_cons_zero, List.set_cons_succ]
        refine wpDet_take (i := 24) (oi := _) (v := undef) (by simp only [List.getElem?_toArray, List.getElem?_cons_zero, List.getElem?_cons_succ]; rfl) (by kernel_rfl) (by kernel_rfl) (by kernel_rfl) (Or.inr ⟨by rfl, rfl⟩) ?_
        try simp only [Act.put, List.setIfInBounds_toArray, List.set_cons_zero, List.set_cons_succ]
        refine wpDet_take (i := 25) (oi := _) (v := ?dv26) (by simp only [List.getElem?_toArray, List.getElem?_cons_zero, List.getElem?_cons_succ]; rfl) (by kernel_rfl) (by kernel_rfl) (by kernel_rfl) (Or.inl ⟨by rfl, ?dy26⟩) ?dr26
        case dy26 => (intro w hSw; have hS0 := hSw; (try dsimp only [RWS] at hSw); go_simp; refine Came.value ?_ hS0; with_reducible rfl)
        try simp only [Act.put, List.setIfInBounds_toArray, List.set_cons_zero, List.set_cons_succ]
        refine wpDet_done (by kernel_rfl) ?_ _
        rintro w2 hS2
        obtain ⟨hF, _⟩ := hS2
        go_wp2
        go_ret
        exact ⟨rfl, hF⟩
      | true =>
        rw [hok, Bool.true_and] at hb
        have hv := ep_rvalid rc rf
        rw [hok] at hv
        have HV := Lib.hid hv
        clear hv hok
        by_cases hfl : sfl < rc
        · rw [decide_eq_true hfl, Bool.true_and] at hb
          cases hl : epLt sc sf rc rf with
          | true =>
            rw [hl, Bool.true_or] at hb
            subst hb
            have hv := ep_rless sc sf rc rf
            rw [hl] at hv
            have HL := Lib.hid hv
            clear hv hl
            go_enter Try.func19, Try.ntmps19
            go_wp2
            refine wp_region_det (S := RWS w w.heap.size p ⟨sc, sf, sh, sfl⟩ ⟨rc, rf, rh, ms⟩ (.slice am nm cm) (.slice a1 n1 c1)) (by kernel_rfl) HS.out ?_
            refine wpDet_take (i := 0) (oi := _) (v := ?dv27) (by simp only [List.getElem?_toArray, List.getElem?_cons_zero]; rfl) (by kernel_rfl) (by kernel_rfl) (by kernel_rfl) (Or.inl ⟨by rfl, ?dy27⟩) ?dr27
            case dy27 => (intro w hSw; have hS0 := hSw; (try dsimp only [RWS] at hSw); go_simp; refine Came.value ?_ hS0; with_reducible rfl)
            try simp only [Act.put, List.setIfInBounds_toArray, List.set_cons_zero, List.set_cons_succ]
            refine wpDet_take (i := 1) (oi := _) (v := ?dv28) (by simp only [List.getElem?_toArray, List.getElem?_cons_zero, List.getElem?_cons_succ]; rfl) (by kernel_rfl) (by kernel_rfl) (by kernel_rfl) (Or.inl ⟨by rfl, ?dy28⟩) ?dr28
            case dy28 => (intro w hSw; have hS0 := hSw; (try dsimp only [RWS] at hSw); go_simp; refine Came.value ?_ hS0; with_reducible rfl)
            try simp only [Act.put, List.setIfInBounds_toArray, List.set_cons_zero, List.set_cons_succ]
            refine wpDet_take (i := 2) (oi := _) (v := ?dv29) (by simp only [List.getElem?_toArray, List.getElem?_cons_zero, List.getElem?_cons_succ]; rfl) (by kernel_rfl) (by kernel_rfl) (by kernel_rfl) (Or.inl ⟨by rfl, ?dy29⟩) ?dr29
            case dy29 => (intro w hSw; have hS0 := hSw; (try dsimp only [RWS] at hSw); go_simp; refine Came.value ?_ hS0; with_reducible rfl)
            try simp only [Act.put, List.setIfInBounds_toArray, List.set_cons_zero, List.set_cons_succ]
            refine wpDet_take (i := 3) (oi := _) (v := ?dv30) (by simp only [List.getElem?_toArray, List.getElem?_cons_zero, List.getElem?_cons_succ]; rfl) (by kernel_rfl) (by kernel_rfl) (by kernel_rfl) (Or.inl ⟨by rfl, ?dy30⟩) ?dr30
            case dy30 => (intro w hSw; have hS0 := hSw; (try dsimp only [RWS] at hSw); go_simp; refine Came.value ?_ hS0; with_reducible rfl)
            try simp only [Act.put, List.setIfInBounds_toArray, List.set_cons_zero, List.set_cons_succ]
            refine wpDet_take (i := 4) (oi := _) (v := ?dv31) (by simp only [List.getElem?_toArray, List.getElem?_cons_zero, List.getElem?_cons_succ]; rfl) (by kernel_rfl) (by kernel_rfl) (by kernel_rfl) (Or.inl ⟨by rfl, ?dy31⟩) ?dr31
            case dy31 => (intro w hSw; have hS0 := hSw; (try dsimp only [RWS] at hSw); go_simp; refine Came.value ?_ hS0; with_reducible rfl)
            try simp only [Act.put, List.setIfInBounds_toArray, List.set_cons_zero, List.set_cons_succ]
            refine wpDet_take (i := 5) (oi := _) (v := ?dv32) (by simp only [List.getElem?_toArray, List.getElem?_cons_zero, List.getElem?_cons_succ]; rfl) (by kernel_rfl) (by kernel_rfl) (by kernel_rfl) (Or.inl ⟨by rfl, ?dy32⟩) ?dr32
            case dy32 => (intro w hSw; have hS0 := hSw; (try dsimp only [RWS] at hSw); go_simp; refine Came.value ?_ hS0; with_reducible rfl)
            try simp only [Act.put, List.setIfInBounds_toArray, List.set_cons_zero, List.set_cons_succ]
            refine wpDet_take (i := 6) (oi := _) (v := ?dv33) (by simp only [List.getElem?_toArray, List.getElem?_cons_zero, List.getElem?_cons_succ]; rfl) (by kernel_rfl) (by kernel_rfl) (by kernel_rfl) (Or.inl ⟨by rfl, ?dy33⟩) ?dr33
            case dy33 => (intro w hSw; have hS0 := hSw; (try dsimp only [RWS] at hSw); go_simp; refine Came.value ?_ hS0; with_reducible rfl)
            try simp only [Act.put, List.setIfInBounds_toArray, List.set_cons_zero, List.set_cons_succ]
            refine wpDet_take (i := 7) (oi := _) (v := ?dv34) (by simp only [List.getElem?_toArray, List.getElem?_cons_zero, List.getElem?_cons_succ]; rfl) (by kernel_rfl) (by kernel_rfl) (by kernel_rfl) (Or.inl ⟨by rfl, ?dy34⟩) ?dr34
            case dy34 => (intro w hSw; go_simp; exact Came.call ((HA.out w hSw.2.2.2.1).mono fun e w' ⟨he, hw⟩ => ⟨he, hw ▸ hSw⟩) (by with_reducible rfl))
            try simp only [Act.put, List.setIfInBounds_toArray, List.set_cons_zero, List.set_cons_succ]
            refine wpDet_take (i := 8) (oi := _) (v := ?dv35) (by simp only [List.getElem?_toArray, List.getElem?_cons_zero, List.getElem?_cons_succ]; rfl) (by kernel_rfl) (by kernel_rfl) (by kernel_rfl) (Or.inl ⟨by rfl, ?dy35⟩) ?dr35
            case dy35 => (intro w hSw; have hS0 := hSw; (try dsimp only [RWS] at hSw); go_simp; refine Came.value ?_ hS0; with_reducible rfl)
            try simp only [Act.put, List.setIfInBounds_toArray, List.set_cons_zero, List.set_cons_succ]
            refine wpDet_take (i := 9) (oi := _) (v := ?dv36) (by simp only [List.getElem?_toArray, List.getElem?_cons_zero, List.getElem?_cons_succ]; rfl) (by kernel_rfl) (by kernel_rfl) (by kernel_rfl) (Or.inl ⟨by rfl, ?dy36⟩) ?dr36
            case dy36 => (intro w hSw; have hS0 := hSw; (try dsimp only [RWS] at hSw); go_simp; refine Came.value ?_ hS0; with_reducible rfl)
            try simp only [Act.put, List.setIfInBounds_toArray, List.set_cons_zero, List.set_cons_succ]
            refine wpDet_take (i := 10) (oi := _) (v := ?dv37) (by simp only [List.getElem?_toArray, List.getElem?_cons_zero, List.getElem?_cons_succ]; rfl) (by kernel_rfl) (by kernel_rfl) (by kernel_rfl) (Or.inl ⟨by rfl, ?dy37⟩) ?dr37
            case dy37 => (intro w hSw; have hS0 := hSw; (try dsimp only [RWS] at hSw); go_simp; refine Came.value ?_ hS0; with_reducible rfl)
            try simp only [Act.put, List.setIfInBounds_toArray, List.set_cons_zero, List.set_cons_succ]
            refine wpDet_take (i := 11) (oi := _) (v := ?dv38) (by simp only [List.getElem?_toArray, List.getElem?_cons_zero, List.getElem?_cons_succ]; rfl) (by kernel_rfl) (by kernel_rfl) (by kernel_rfl) (Or.inl ⟨by rfl, ?dy38⟩) ?dr38
            case dy38 => (intro w hSw; have hS0 := hSw; (try dsimp only [RWS] at hSw); go_simp; refine Came.value ?_ hS0; with_reducible rfl)
            try simp only [Act.put, List.setIfInBounds_toArray, List.set_cons_zero, List.set_cons_succ]
            refine wpDet_take (i := 12) (oi := _) (v := ?dv39) (by simp only [List.getElem?_toArray, List.getElem?_cons_zero, List.getElem?_cons_succ]; rfl) (by kernel_rfl) (by kernel_rfl) (by kernel_rfl) (Or.inl ⟨by rfl, ?dy39⟩) ?dr39
            case dy39 => (intro w hSw; have hS0 := hSw; (try dsimp only [RWS] at hSw); go_simp; refine Came.value ?_ hS0; with_reducible rfl)
            try simp only [Act.put, List.setIfInBounds_toArray, List.set_cons_zero, List.set_cons_succ]
            refine wpDet_take (i := 13) (oi := _) (v := ?dv40) (by simp only [List.getElem?_toArray, List.getElem?_cons_zero, List.getElem?_cons_succ]; rfl) (by kernel_rfl) (by kernel_rfl) (by kernel_rfl) (Or.inl ⟨by rfl, ?dy40⟩) ?dr40
            case dy40 => (intro w hSw; go_simp; exact Came.call ((HV.out w).mono fun e w' ⟨he, hf⟩ => ⟨he, hSw.fr hf⟩) (by with_reducible rfl))
            try simp only [Act.put, List.setIfInBounds_toArray, List.set_cons_zero, List.set_cons_succ]
            refine wpDet_take (i := 14) (oi := _) (v := ?dv41) (by simp only [List.getElem?_toArray, List.getElem?_cons_zero, List.getElem?_cons_succ]; rfl) (by kernel_rfl) (by kernel_rfl) (by kernel_rfl) (Or.inl ⟨by rfl, ?dy41⟩) ?dr41
            case dy41 => (intro w hSw; have hS0 := hSw; (try dsimp only [RWS] at hSw); go_simp; refine Came.value ?_ hS0; with_reducible rfl)
            try simp only [Act.put, List.setIfInBounds_toArray, List.set_cons_zero, List.set_cons_succ]
            refine wpDet_take (i := 15) (oi := _) (v := ?dv42) (by simp only [List.getElem?_toArray, List.getElem?_cons_zero, List.getElem?_cons_succ]; rfl) (by kernel_rfl) (by kernel_rfl) (by kernel_rfl) (Or.inl ⟨by rfl, ?dy42⟩) ?dr42
            case dy42 => (intro w hSw; have hS0 := hSw; (try dsimp only [RWS] at hSw); go_simp; refine Came.value ?_ hS0; with_reducible rfl)
            try simp only [Act.put, List.setIfInBounds_toArray, List.set_cons_zero, List.set_cons_succ]
            refine wpDet_take (i := 16) (oi := _) (v := ?dv43) (by simp only [List.getElem?_toArray, List.getElem?_cons_zero, List.getElem?_cons_succ]; rfl) (by kernel_rfl) (by kernel_rfl) (by kernel_rfl) (Or.inl ⟨by rfl, ?dy43⟩) ?dr43
            case dy43 => (intro w hSw; have hS0 := hSw; (try dsimp only [RWS] at hSw); go_simp; refine Came.value ?_ hS0; with_reducible rfl)
            try simp only [Act.put, List.setIfInBounds_toArray, List.set_cons_zero, List.set_cons_succ]
            refine wpDet_take (i := 17) (oi := _) (v := ?dv44) (by simp only [List.getElem?_toArray, List.getElem?_cons_zero, List.getElem?_cons_succ]; rfl) (by kernel_rfl) (by kernel_rfl) (by kernel_rfl) (Or.inl ⟨by rfl, ?dy44⟩) ?dr44
            case dy44 => (intro w hSw; have hS0 := hSw; (try dsimp only [RWS] at hSw); go_simp; refine Came.value ?_ hS0; with_reducible rfl)
            try simp only [Act.put, List.setIfInBounds_toArray, List.set_cons_zero, List.set_cons_succ]
            refine wpDet_take (i := 18) (oi := _) (v := ?dv45) (by simp only [List.getElem?_toArray, List.getElem?_cons_zero, List.getElem?_cons_succ]; rfl) (by kernel_rfl) (by kernel_rfl) (by kernel_rfl) (Or.inl ⟨by rfl, ?dy45⟩) ?dr45
            case dy45 => (intro w hSw; have hS0 := hSw; (try dsimp only [RWS] at hSw); go_simp; refine Came.value ?_ hS0; with_reducible rfl)
            try simp only [Act.put, List.setIfInBounds_toArray, List.set_cons_zero, List.set_cons_succ]
            refine wpDet_take (i := 19) (oi := _) (v := ?dv46) (by simp only [List.getElem?_toArray, List.getElem?_cons_zero, List.getElem?_cons_succ]; rfl) (by kernel_rfl) (by kernel_rfl) (by kernel_rfl) (Or.inl ⟨by rfl, ?dy46⟩) ?dr46
            case dy46 => (intro w hSw; have hS0 := hSw; (try dsimp only [RWS] at hSw); go_simp; refine Came.value ?_ hS0; with_reducible rfl)
            try simp only [Act.put, List.setIfInBounds_toArray, List.set_cons_zero, List.set_cons_succ]
            refine wpDet_take (i := 20) (oi := _) (v := ?dv47) (by simp only [List.getElem?_toArray, List.getElem?_cons_zero, List.getElem?_cons_succ]; rfl) (by kernel_rfl) (by kernel_rfl) (by kernel_rfl) (Or.inl ⟨by rfl, ?dy47⟩) ?dr47
            case dy47 => (intro w hSw; have hS0 := hSw; (try dsimp only [RWS] at hSw); go_simp; refine Came.value ?_ hS0; with_reducible rfl)
            try simp only [Act.put, List.setIfInBounds_toArray, List.set_cons_zero, List.set_cons_succ]
            refine wpDet_take (i := 21) (oi := _) (v := ?dv48) (by simp only [List.getElem?_toArray, List.getElem?_cons_zero, List.getElem?_cons_succ]; rfl) (by kernel_rfl) (by kernel_rfl) (by kernel_rfl) (Or.inl ⟨by rfl, ?dy48⟩) ?dr48
            case dy48 => (intro w hSw; have hS0 := hSw; (try dsimp only [RWS] at hSw); go_simp; refine Came.value ?_ hS0; with_reducible rfl)
            try simp only [Act.put, List.setIfInBounds_toArray, List.set_cons_zero, List.set_cons_succ]
            refine wpDet_take (i := 22) (oi := _) (v := ?dv49) (by simp only [List.getElem?_toArray, List.getElem?_cons_zero, List.getElem?_cons_succ]; rfl) (by kernel_rfl) (by kernel_rfl) (by kernel_rfl) (Or.inl ⟨by rfl, ?dy49⟩) ?dr49
            case dy49 => (intro w hSw; have hS0 := hSw; (try dsimp only [RWS] at hSw); go_simp; refine Came.value ?_ hS0; with_reducible rfl)
            try simp only [Act.put, List.setIfInBounds_toArray, List.set_cons_zero, List.set_cons_succ]
            refine wpDet_take (i := 23) (oi := _) (v := ?dv50) (by simp only [List.getElem?_toArray, List.getElem?_cons_zero, List.getElem?_cons_succ]; rfl) (by kernel_rfl) (by kernel_rfl) (by kernel_rfl) (Or.inl ⟨by rfl, ?dy50⟩) ?dr50
            case dy50 => (intro w hSw; have hS0 := hSw; (try dsimp only [RWS] at hSw); go_simp; refine Came.value ?_ hS0; with_reducible rfl)
            try simp only [Act.put, List.setIfInBounds_toArray, List.set_cons_zero, List.set_cons_succ]
            refine wpDet_take (i := 24) (oi := _) (v := ?dv51) (by simp only [List.getElem?_toArray, List.getElem?_cons_zero, List.getElem?_cons_succ]; rfl) (by kernel_rfl) (by kernel_rfl) (by kernel_rfl) (Or.inl ⟨by rfl, ?dy51⟩) ?dr51
            case dy51 => (intro w hSw; have hS0 := hSw; (try dsimp only [RWS] at hSw); go_simp; refine Came.value ?_ hS0; with_reducible rfl)
            try simp only [Act.put, List.setIfInBounds_toArray, List.set_cons_zero, List.set_cons_succ]
            refine wpDet_take (i := 25) (oi := _) (v := ?dv52) (by simp only [List.getElem?_toArray, List.getElem?_cons_zero, List.getElem?_cons_succ]; rfl) (by kernel_rfl) (by kernel_rfl) (by kernel_rfl) (Or.inl ⟨by rfl, ?dy52⟩) ?dr52
            case dy52 => (intro w hSw; have hS0 := hSw; (try dsimp only [RWS] at hSw); go_simp; refine Came.value ?_ hS0; with_reducible rfl)
            try simp only [Act.put, List.setIfInBounds_toArray, List.set_cons_zero, List.set_cons_succ]
            refine wpDet_done (by kernel_rfl) ?_ _
            rintro w2 hS2
            have HS2 := Lib.hid (hS2.fr (Fr.drew _ []))
            clear hS2
            go_wp2
            refine wp_region_det (S := RWS w w.heap.size p ⟨sc, sf, sh, sfl⟩ ⟨rc, rf, rh, ms⟩ (.slice am nm cm) (.slice a1 n1 c1)) (by kernel_rfl) HS2.out ?_
            refine wpDet_take (i := 0) (oi := _) (v := ?dv53) (by simp only [List.getElem?_toArray, List.getElem?_cons_zero]; rfl) (by kernel_rfl) (by kernel_rfl) (by kernel_rfl) (Or.inl ⟨by rfl, ?dy53⟩) ?dr53
            case dy53 => (intro w hSw; have hS0 := hSw; (try dsimp only [RWS] at hSw); go_simp; refine Came.value ?_ hS0; with_reducible rfl)
            try simp only [Act.put, List.setIfInBounds_toArray, List.set_cons_zero, List.set_cons_succ]
            refine wpDet_take (i := 1) (oi := _) (v := ?dv54) (by simp only [List.getElem?_toArray, List.getElem?_cons_zero, List.getElem?_cons_succ]; rfl) (by kernel_rfl) (by kernel_rfl) (by kernel_rfl) (Or.inl ⟨by rfl, ?dy54⟩) ?dr54
            case dy54 => (intro w hSw; have hS0 := hSw; (try dsimp only [RWS] at hSw); go_simp; refine Came.value ?_ hS0; with_reducible rfl)
            try simp only [Act.put, List.setIfInBounds_toArray, List.set_cons_zero, List.set_cons_succ]
            refine wpDet_take (i := 2) (oi := _) (v := ?dv55) (by simp only [List.getElem?_toArray, List.getElem?_cons_zero, List.getElem?_cons_succ]; rfl) (by kernel_rfl) (by kernel_rfl) (by kernel_rfl) (Or.inl ⟨by rfl, ?dy55⟩) ?dr55
            case dy55 => (intro w hSw; have hS0 := hSw; (try dsimp only [RWS] at hSw); go_simp; refine Came.value ?_ hS0; with_reducible rfl)
            try simp only [Act.put, List.setIfInBounds_toArray, List.set_cons_zero, List.set_cons_succ]
            refine wpDet_take (i := 3) (oi := _) (v := ?dv56) (by simp only [List.getElem?_toArray, List.getElem?_cons_zero, List.getElem?_cons_succ]; rfl) (by kernel_rfl) (by kernel_rfl) (by kernel_rfl) (Or.inl ⟨by rfl, ?dy56⟩) ?dr56
            case dy56 => (intro w hSw; have hS0 := hSw; (try dsimp only [RWS] at hSw); go_simp; refine Came.value ?_ hS0; with_reducible rfl)
            try simp only [Act.put, List.setIfInBounds_toArray, List.set_cons_zero, List.set_cons_succ]
            refine wpDet_take (i := 4) (oi := _) (v := ?dv57) (by simp only [List.getElem?_toArray, List.getElem?_cons_zero, List.getElem?_cons_succ]; rfl) (by kernel_rfl) (by kernel_rfl) (by kernel_rfl) (Or.inl ⟨by rfl, ?dy57⟩) ?dr57
            case dy57 => (intro w hSw; have hS0 := hSw; (try dsimp only [RWS] at hSw); go_simp; refine Came.value ?_ hS0; with_reducible rfl)
            try simp only [Act.put, List.setIfInBounds_toArray, List.set_cons_zero, List.set_cons_succ]
            refine wpDet_take (i := 5) (oi := _) (v := ?dv58) (by simp only [List.getElem?_toArray, List.getElem?_cons_zero, List.getElem?_cons_succ]; rfl) (by kernel_rfl) (by kernel_rfl) (by kernel_rfl) (Or.inl ⟨by rfl, ?dy58⟩) ?dr58
            case dy58 => (intro w hSw; have hS0 := hSw; (try dsimp only [RWS] at hSw); go_simp; refine Came.value ?_ hS0; with_reducible rfl)
            try simp only [Act.put, List.setIfInBounds_toArray, List.set_cons_zero, List.set_cons_succ]
            refine wpDet_take (i := 6) (oi := _) (v := ?dv59) (by simp only [List.getElem?_toArray, List.getElem?_cons_zero, List.getElem?_cons_succ]; rfl) (by kernel_rfl) (by kernel_rfl) (by kernel_rfl) (Or.inl ⟨by rfl, ?dy59⟩) ?dr59
            case dy59 => (intro w hSw; go_simp; exact Came.call ((HL.out w).mono fun e w' ⟨he, hf⟩ => ⟨he, hSw.fr hf⟩) (by with_reducible rfl))
            try simp only [Act.put, List.setIfInBounds_toArray, List.set_cons_zero, List.set_cons_succ]
            refine wpDet_take (i := 7) (oi := _) (v := ?dv60) (by simp only [List.getElem?_toArray, List.getElem?_cons_zero, List.getElem?_cons_succ]; rfl) (by kernel_rfl) (by kernel_rfl) (by kernel_rfl) (Or.inl ⟨by rfl, ?dy60⟩) ?dr60
            case dy60 => (intro w hSw; have hS0 := hSw; (try dsimp only [RWS] at hSw); go_simp; refine Came.value ?_ hS0; with_reducible rfl)
            try simp only [Act.put, List.setIfInBounds_toArray, List.set_cons_zero, List.set_cons_succ]
            refine wpDet_take (i := 8) (oi := _) (v := undef) (by simp only [List.getElem?_toArray, List.getElem?_cons_zero, List.getElem?_cons_succ]; rfl) (by kernel_rfl) (by kernel_rfl) (by kernel_rfl) (Or.inr ⟨by rfl, rfl⟩) ?_
            try simp only [Act.put, List.setIfInBounds_toArray, List.set_cons_zero, List.set_cons_succ]
            refine wpDet_take (i := 9) (oi := _) (v := undef) (by simp only [List.getElem?_toArray, List.getElem?_cons_zero, List.getElem?_cons_succ]; rfl) (by kernel_rfl) (by kernel_rfl) (by kernel_rfl) (Or.inr ⟨by rfl, rfl⟩) ?_
            try simp only [Act.put, List.setIfInBounds_toArray, List.set_cons_zero, List.set_cons_succ]
            refine wpDet_take (i := 10) (oi := _) (v := undef) (by simp only [List.getElem?_toArray, List.getElem?_cons_zero, List.getElem?_cons_succ]; rfl) (by kernel_rfl) (by kernel_rfl) (by kernel_rfl) (Or.inr ⟨by rfl, rfl⟩) ?_
            try simp only [Act.put, List.setIfInBounds_toArray, List.set_cons_zero, List.set_cons_succ]
            refine wpDet_take (i := 11) (oi := _) (v := undef) (by simp only [List.getElem?_toArray, List.getElem?_cons_zero, List.getElem?_cons_succ]; rfl) (by kernel_rfl) (by kernel_rfl) (by kernel_rfl) (Or.inr ⟨by rfl, rfl⟩) ?_
            try simp only [Act.put, List.setIfInBounds_toArray, List.set_cons_zero, List.set_cons_succ]
            refine wpDet_take (i := 12) (oi := _) (v := undef) (by simp only [List.getElem?_toArray, List.getElem?_cons_zero, List.getElem?_cons_succ]; rfl) (by kernel_rfl) (by kernel_rfl) (by kernel_rfl) (Or.inr ⟨by rfl, rfl⟩) ?_
            try simp only [Act.put, List.setIfInBounds_toArray, List.set_cons_zero, List.set_cons_succ]
            refine wpDet_take (i := 13) (oi := _) (v := undef) (by simp only [List.getElem?_toArray, List.getElem?_cons_zero, List.getElem?_cons_succ]; rfl) (by kernel_rfl) (by kernel_rfl) (by kernel_rfl) (Or.inr ⟨by rfl, rfl⟩) ?_
            try simp only [Act.put, List.setIfInBounds_toArray, List.set_cons_zero, List.set_cons_succ]
            refine wpDet_take (i := 14) (oi := _) (v := undef) (by simp only [List.getElem?_toArray, List.getElem?_cons_zero, List.getElem?_cons_succ]; rfl) (by kernel_rfl) (by kernel_rfl) (by kernel_rfl) (Or.inr ⟨by rfl, rfl⟩) ?_
            try simp only [Act.put, List.setIfInBounds_toArray, List.set_cons_zero, List.set_cons_succ]
            refine wpDet_take (i := 15) (oi := _) (v := undef) (by simp only [List.getElem?_toArray, List.getElem?_cons_zero, List.getElem?_cons_succ]; rfl) (by kernel_rfl) (by kernel_rfl) (by kernel_rfl) (Or.inr ⟨by rfl, rfl⟩) ?_
            try simp only [Act.put, List.setIfInBounds_toArray, List.set_cons_zero, List.set_cons_succ]
            refine wpDet_take (i := 16) (oi := _) (v := undef) (by simp only [List.getElem?_toArray, List.getElem?_cons_zero, List.getElem?_cons_succ]; rfl) (by kernel_rfl) (by kernel_rfl) (by kernel_rfl) (Or.inr ⟨by rfl, rfl⟩) ?_
            try simp only [Act.put, List.setIfInBounds_toArray, List.set_cons_zero, List.set_cons_succ]
            refine wpDet_take (i := 17) (oi := _) (v := undef) (by simp only [List.getElem?_toArray, List.getElem?_cons_zero, List.getElem?_cons_succ]; rfl) (by kernel_rfl) (by kernel_rfl) (by kernel_rfl) (Or.inr ⟨by rfl, rfl⟩) ?_
            try simp only [Act.put, List.setIfInBounds_toArray, List.set_cons_zero, List.set_cons_succ]
            refine wpDet_take (i := 18) (oi := _) (v := undef) (by simp only [List.getElem?_toArray, List.getElem?_cons_zero, List.getElem?_cons_succ]; rfl) (by kernel_rfl) (by kernel_rfl) (by kernel_rfl) (Or.inr ⟨by rfl, rfl⟩) ?_
            try simp only [Act.put, List.setIfInBounds_toArray, List.set_cons_zero, List.set_cons_succ]
            refine wpDet_take (i := 19) (oi := _) (v := undef) (by simp only [List.getElem?_toArray, List.getElem?_cons_zero, List.getElem?_cons_succ]; rfl) (by kernel_rfl) (by kernel_rfl) (by kernel_rfl) (Or.inr ⟨by rfl, rfl⟩) ?_
            try simp only [Act.put, List.setIfInBounds_toArray, List.set_cons_zero, List.set_cons_succ]
            refine wpDet_take (i := 20) (oi := _) (v := undef) (by simp only [List.getElem?_toArray, List.getElem?_cons_zero, List.getElem?_cons_succ]; rfl) (by kernel_rfl) (by kernel_rfl) (by kernel_rfl) (Or.inr ⟨by rfl, rfl⟩) ?_
            try simp only [Act.put, List.setIfInBounds_toArray, List.set_cons_zero, List.set_cons_succ]
            refine wpDet_take (i := 21) (oi := _) (v := undef) (by simp only [List.getElem?_toArray, List.getElem?_cons_zero, List.getElem?_cons_succ]; rfl) (by kernel_rfl) (by kernel_rfl) (by kernel_rfl) (Or.inr ⟨by rfl, rfl⟩) ?_
            try simp only [Act.put, List.setIfInBounds_toArray, List.set_cons_zero, List.set_cons_succ]
            refine wpDet_take (i := 22) (oi := _) (v := undef) (by simp only [List.getElem?_toArray, List.getElem?_cons_zero, List.getElem?_cons_succ]; rfl) (by kernel_rfl) (by kernel_rfl) (by kernel_rfl) (Or.inr ⟨by rfl, rfl⟩) ?_
            try simp only [Act.put, List.setIfInBounds_toArray, List.set_cons_zero, List.set_cons_succ]
            refine wpDet_take (i := 23) (oi := _) (v := undef) (by simp only [List.getElem?_toArray, List.getElem?_cons_zero, List.getElem?_cons_succ]; rfl) (by kernel_rfl) (by kernel_rfl) (by kernel_rfl) (Or.inr ⟨by rfl, rfl⟩) ?_
            try simp only [Act.put, List.setIfInBounds_toArray, List.set_cons_zero, List.set_cons_succ]
            refine wpDet_take (i := 24) (oi := _) (v := ?dv77) (by simp only [List.getElem?_toArray, List.getElem?_cons_zero, List.getElem?_cons_succ]; rfl) (by kernel_rfl) (by kernel_rfl) (by kernel_rfl) (Or.inl ⟨by rfl, ?dy77⟩) ?dr77
            case dy77 => (intro w hSw; have hS0 := hSw; (try dsimp only [RWS] at hSw); go_simp; refine Came.value ?_ hS0; with_reducible rfl)
            try simp only [Act.put, List.setIfInBounds_toArray, List.set_cons_zero, List.set_cons_succ]
            refine wpDet_take (i := 25) (oi := _) (v := ?dv78) (by simp only [List.getElem?_toArray, List.getElem?_cons_zero, List.getElem?_cons_succ]; rfl) (by kernel_rfl) (by kernel_rfl) (by kernel_rfl) (Or.inl ⟨by rfl, ?dy78⟩) ?dr78
            case dy78 => (intro w hSw; have hS0 := hSw; (try dsimp only [RWS] at hSw); go_simp; refine Came.value ?_ hS0; with_reducible rfl)
            try simp only [Act.put, List.setIfInBounds_toArray, List.set_cons_zero, List.set_cons_succ]
            refine wpDet_done (by kernel_rfl) ?_ _
            rintro w3 ⟨hF, _⟩
            go_wp2
            go_ret
            exact ⟨rfl, hF⟩
          | false =>
            rw [hl, Bool.false_or] at hb
            have hv := ep_rless sc sf rc rf
            rw [hl] at hv
            have HL := Lib.hid hv
            clear hv hl
            by_cases hsm : sc = rc ∧ sf = rf
            · have hv := ep_same sc sf rc rf
              rw [decide_eq_true hsm] at hv
              rw [decide_eq_true hsm, Bool.true_and] at hb
              have HM := Lib.hid hv
              clear hv hsm
              go_enter Try.func19, Try.ntmps19
              go_wp2
              refine wp_region_det (S := RWS w w.heap.size p ⟨sc, sf, sh, sfl⟩ ⟨rc, rf, rh, ms⟩ (.slice am nm cm) (.slice a1 n1 c1)) (by kernel_rfl) HS.out ?_
              refine wpDet_take (i := 0) (oi := _) (v := ?dv79) (by simp only [List.getElem?_toArray, List.getElem?_cons_zero]; rfl) (by kernel_rfl) (by kernel_rfl) (by kernel_rfl) (Or.inl ⟨by rfl, ?dy79⟩) ?dr79
              case dy79 => (intro w hSw; have hS0 := hSw; (try dsimp only [RWS] at hSw); go_simp; refine Came.value ?_ hS0; with_reducible rfl)
              try simp only [Act.put, List.setIfInBounds_toArray, List.set_cons_zero, List.set_cons_succ]
              refine wpDet_take (i := 1) (oi := _) (v := ?dv80) (by simp only [List.getElem?_toArray, List.getElem?_cons_zero, List.getElem?_cons_succ]; rfl) (by kernel_rfl) (by kernel_rfl) (by kernel_rfl) (Or.inl ⟨by rfl, ?dy80⟩) ?dr80
              case dy80 => (intro w hSw; have hS0 := hSw; (try dsimp only [RWS] at hSw); go_simp; refine Came.value ?_ hS0; with_reducible rfl)
              try simp only [Act.put, List.setIfInBounds_toArray, List.set_cons_zero, List.set_cons_succ]
              refine wpDet_take (i := 2) (oi := _) (v := ?dv81) (by simp only [List.getElem?_toArray, List.getElem?_cons_zero, List.getElem?_cons_succ]; rfl) (by kernel_rfl) (by kernel_rfl) (by kernel_rfl) (Or.inl ⟨by rfl, ?dy81⟩) ?dr81
              case dy81 => (intro w hSw; have hS0 := hSw; (try dsimp only [RWS] at hSw); go_simp; refine Came.value ?_ hS0; with_reducible rfl)
              try simp only [Act.put, List.setIfInBounds_toArray, List.set_cons_zero, List.set_cons_succ]
              refine wpDet_take (i := 3) (oi := _) (v := ?dv82) (by simp only [List.getElem?_toArray, List.getElem?_cons_zero, List.getElem?_cons_succ]; rfl) (by kernel_rfl) (by kernel_rfl) (by kernel_rfl) (Or.inl ⟨by rfl, ?dy82⟩) ?dr82
              case dy82 => (intro w hSw; have hS0 := hSw; (try dsimp only [RWS] at hSw); go_simp; refine Came.value ?_ hS0; with_reducible rfl)
              try simp only [Act.put, List.setIfInBounds_toArray, List.set_cons_zero, List.set_cons_succ]
              refine wpDet_take (i := 4) (oi := _) (v := ?dv83) (by simp only [List.getElem?_toArray, List.getElem?_cons_zero, List.getElem?_cons_succ]; rfl) (by kernel_rfl) (by kernel_rfl) (by kernel_rfl) (Or.inl ⟨by rfl, ?dy83⟩) ?dr83
              case dy83 => (intro w hSw; have hS0 := hSw; (try dsimp only [RWS] at hSw); go_simp; refine Came.value ?_ hS0; with_reducible rfl)
              try simp only [Act.put, List.setIfInBounds_toArray, List.set_cons_zero, List.set_cons_succ]
              refine wpDet_take (i := 5) (oi := _) (v := ?dv84) (by simp only [List.getElem?_toArray, List.getElem?_cons_zero, List.getElem?_cons_succ]; rfl) (by kernel_rfl) (by kernel_rfl) (by kernel_rfl) (Or.inl ⟨by rfl, ?dy84⟩) ?dr84
              case dy84 => (intro w hSw; have hS0 := hSw; (try dsimp only [RWS] at hSw); go_simp; refine Came.value ?_ hS0; with_reducible rfl)
              try simp only [Act.put, List.setIfInBounds_toArray, List.set_cons_zero, List.set_cons_succ]
              refine wpDet_take (i := 6) (oi := _) (v := ?dv85) (by simp only [List.getElem?_toArray, List.getElem?_cons_zero, List.getElem?_cons_succ]; rfl) (by kernel_rfl) (by kernel_rfl) (by kernel_rfl) (Or.inl ⟨by rfl, ?dy85⟩) ?dr85
              case dy85 => (intro w hSw; have hS0 := hSw; (try dsimp only [RWS] at hSw); go_simp; refine Came.value ?_ hS0; with_reducible rfl)
              try simp only [Act.put, List.setIfInBounds_toArray, List.set_cons_zero, List.set_cons_succ]
              refine wpDet_take (i := 7) (oi := _) (v := ?dv86) (by simp only [List.getElem?_toArray, List.getElem?_cons_zero, List.getElem?_cons_succ]; rfl) (by kernel_rfl) (by kernel_rfl) (by kernel_rfl) (Or.inl ⟨by rfl, ?dy86⟩) ?dr86
              case dy86 => (intro w hSw; go_simp; exact Came.call ((HA.out w hSw.2.2.2.1).mono fun e w' ⟨he, hw⟩ => ⟨he, hw ▸ hSw⟩) (by with_reducible rfl))
              try simp only [Act.put, List.setIfInBounds_toArray, List.set_cons_zero, List.set_cons_succ]
              refine wpDet_take (i := 8) (oi := _) (v := ?dv87) (by simp only [List.getElem?_toArray, List.getElem?_cons_zero, List.getElem?_cons_succ]; rfl) (by kernel_rfl) (by kernel_rfl) (by kernel_rfl) (Or.inl ⟨by rfl, ?dy87⟩) ?dr87
              case dy87 => (intro w hSw; have hS0 := hSw; (try dsimp only [RWS] at hSw); go_simp; refine Came.value ?_ hS0; with_reducible rfl)
              try simp only [Act.put, List.setIfInBounds_toArray, List.set_cons_zero, List.set_cons_succ]
              refine wpDet_take (i := 9) (oi := _) (v := ?dv88) (by simp only [List.getElem?_toArray, List.getElem?_cons_zero, List.getElem?_cons_succ]; rfl) (by kernel_rfl) (by kernel_rfl) (by kernel_rfl) (Or.inl ⟨by rfl, ?dy88⟩) ?dr88
              case dy88 => (intro w hSw; have hS0 := hSw; (try dsimp only [RWS] at hSw); go_simp; refine Came.value ?_ hS0; with_reducible rfl)
              try simp only [Act.put, List.setIfInBounds_toArray, List.set_cons_zero, List.set_cons_succ]
              refine wpDet_take (i := 10) (oi := _) (v := ?dv89) (by simp only [List.getElem?_toArray, List.getElem?_cons_zero, List.getElem?_cons_succ]; rfl) (by kernel_rfl) (by kernel_rfl) (by kernel_rfl) (Or.inl ⟨by rfl, ?dy89⟩) ?dr89
              case dy89 => (intro w hSw; have hS0 := hSw; (try dsimp only [RWS] at hSw); go_simp; refine Came.value ?_ hS0; with_reducible rfl)
              try simp only [Act.put, List.setIfInBounds_toArray, List.set_cons_zero, List.set_cons_succ]
              refine wpDet_take (i := 11) (oi := _) (v := ?dv90) (by simp only [List.getElem?_toArray, List.getElem?_cons_zero, List.getElem?_cons_succ]; rfl) (by kernel_rfl) (by kernel_rfl) (by kernel_rfl) (Or.inl ⟨by rfl, ?dy90⟩) ?dr90
              case dy90 => (intro w hSw; have hS0 := hSw; (try dsimp only [RWS] at hSw); go_simp; refine Came.value ?_ hS0; with_reducible rfl)
              try simp only [Act.put, List.setIfInBounds_toArray, List.set_cons_zero, List.set_cons_succ]
              refine wpDet_take (i := 12) (oi := _) (v := ?dv91) (by simp only [List.getElem?_toArray, List.getElem?_cons_zero, List.getElem?_cons_succ]; rfl) (by kernel_rfl) (by kernel_rfl) (by kernel_rfl) (Or.inl ⟨by rfl, ?dy91⟩) ?dr91
              case dy91 => (intro w hSw; have hS0 := hSw; (try dsimp only [RWS] at hSw); go_simp; refine Came.value ?_ hS0; with_reducible rfl)
              try simp only [Act.put, List.setIfInBounds_toArray, List.set_cons_zero, List.set_cons_succ]
              refine wpDet_take (i := 13) (oi := _) (v := ?dv92) (by simp only [List.getElem?_toArray, List.getElem?_cons_zero, List.getElem?_cons_succ]; rfl) (by kernel_rfl) (by kernel_rfl) (by kernel_rfl) (Or.inl ⟨by rfl, ?dy92⟩) ?dr92
              case dy92 => (intro w hSw; go_simp; exact Came.call ((HV.out w).mono fun e w' ⟨he, hf⟩ => ⟨he, hSw.fr hf⟩) (by with_reducible rfl))
              try simp only [Act.put, List.setIfInBounds_toArray, List.set_cons_zero, List.set_cons_succ]
              refine wpDet_take (i := 14) (oi := _) (v := ?dv93) (by simp only [List.getElem?_toArray, List.getElem?_cons_zero, List.getElem?_cons_succ]; rfl) (by kernel_rfl) (by kernel_rfl) (by kernel_rfl) (Or.inl ⟨by rfl, ?dy93⟩) ?dr93
              case dy93 => (intro w hSw; have hS0 := hSw; (try dsimp only [RWS] at hSw); go_simp; refine Came.value ?_ hS0; with_reducible rfl)
              try simp only [Act.put, List.setIfInBounds_toArray, List.set_cons_zero, List.set_cons_succ]
              refine wpDet_take (i := 15) (oi := _) (v := ?dv94) (by simp only [List.getElem?_toArray, List.getElem?_cons_zero, List.getElem?_cons_succ]; rfl) (by kernel_rfl) (by kernel_rfl) (by kernel_rfl) (Or.inl ⟨by rfl, ?dy94⟩) ?dr94
              case dy94 => (intro w hSw; have hS0 := hSw; (try dsimp only [RWS] at hSw); go_simp; refine Came.value ?_ hS0; with_reducible rfl)
              try simp only [Act.put, List.setIfInBounds_toArray, List.set_cons_zero, List.set_cons_succ]
              refine wpDet_take (i := 16) (oi := _) (v := ?dv95) (by simp only [List.getElem?_toArray, List.getElem?_cons_zero, List.getElem?_cons_succ]; rfl) (by kernel_rfl) (by kernel_rfl) (by kernel_rfl) (Or.inl ⟨by rfl, ?dy95⟩) ?dr95
              case dy95 => (intro w hSw; have hS0 := hSw; (try dsimp only [RWS] at hSw); go_simp; refine Came.value ?_ hS0; with_reducible rfl)
              try simp only [Act.put, List.setIfInBounds_toArray, List.set_cons_zero, List.set_cons_succ]
              refine wpDet_take (i := 17) (oi := _) (v := ?dv96) (by simp only [List.getElem?_toArray, List.getElem?_cons_zero, List.getElem?_cons_succ]; rfl) (by kernel_rfl) (by kernel_rfl) (by kernel_rfl) (Or.inl ⟨by rfl, ?dy96⟩) ?dr96
              case dy96 => (intro w hSw; have hS0 := hSw; (try dsimp only [RWS] at hSw); go_simp; refine Came.value ?_ hS0; with_reducible rfl)
              try simp only [Act.put, List.setIfInBounds_toArray, List.set_cons_zero, List.set_cons_succ]
              refine wpDet_take (i := 18) (oi := _) (v := ?dv97) (by simp only [List.getElem?_toArray, List.getElem?_cons_zero, List.getElem?_cons_succ]; rfl) (by kernel_rfl) (by kernel_rfl) (by kernel_rfl) (Or.inl ⟨by rfl, ?dy97⟩) ?dr97
              case dy97 => (intro w hSw; have hS0 := hSw; (try dsimp only [RWS] at hSw); go_simp; refine Came.value ?_ hS0; with_reducible rfl)
              try simp only [Act.put, List.setIfInBounds_toArray, List.set_cons_zero, List.set_cons_succ]
              refine wpDet_take (i := 19) (oi := _) (v := ?dv98) (by simp only [List.getElem?_toArray, List.getElem?_cons_zero, List.getElem?_cons_succ]; rfl) (by kernel_rfl) (by kernel_rfl) (by kernel_rfl) (Or.inl ⟨by rfl, ?dy98⟩) ?dr98
              case dy98 => (intro w hSw; have hS0 := hSw; (try dsimp only [RWS] at hSw); go_simp; refine Came.value ?_ hS0; with_reducible rfl)
              try simp only [Act.put, List.setIfInBounds_toArray, List.set_cons_zero, List.set_cons_succ]
              refine wpDet_take (i := 20) (oi := _) (v := ?dv99) (by simp only [List.getElem?_toArray, List.getElem?_cons_zero, List.getElem?_cons_succ]; rfl) (by kernel_rfl) (by kernel_rfl) (by kernel_rfl) (Or.inl ⟨by rfl, ?dy99⟩) ?dr99
              case dy99 => (intro w hSw; have hS0 := hSw; (try dsimp only [RWS] at hSw); go_simp; refine Came.value ?_ hS0; with_reducible rfl)
              try simp only [Act.put, List.setIfInBounds_toArray, List.set_cons_zero, List.set_cons_succ]
              refine wpDet_take (i := 21) (oi := _) (v := ?dv100) (by simp only [List.getElem?_toArray, List.getElem?_cons_zero, List.getElem?_cons_succ]; rfl) (by kernel_rfl) (by kernel_rfl) (by kernel_rfl) (Or.inl ⟨by rfl, ?dy100⟩) ?dr100
              case dy100 => (intro w hSw; have hS0 := hSw; (try dsimp only [RWS] at hSw); go_simp; refine Came.value ?_ hS0; with_reducible rfl)
              try simp only [Act.put, List.setIfInBounds_toArray, List.set_cons_zero, List.set_cons_succ]
              refine wpDet_take (i := 22) (oi := _) (v := ?dv101) (by simp only [List.getElem?_toArray, List.getElem?_cons_zero, List.getElem?_cons_succ]; rfl) (by kernel_rfl) (by kernel_rfl) (by kernel_rfl) (Or.inl ⟨by rfl, ?dy101⟩) ?dr101
              case dy101 => (intro w hSw; have hS0 := hSw; (try dsimp only [RWS] at hSw); go_simp; refine Came.value ?_ hS0; with_reducible rfl)
              try simp only [Act.put, List.setIfInBounds_toArray, List.set_cons_zero, List.set_cons_succ]
              refine wpDet_take (i := 23) (oi := _) (v := ?dv102) (by simp only [List.getElem?_toArray, List.getElem?_cons_zero, List.getElem?_cons_succ]; rfl) (by kernel_rfl) (by kernel_rfl) (by kernel_rfl) (Or.inl ⟨by rfl, ?dy102⟩) ?dr102
              case dy102 => (intro w hSw; have hS0 := hSw; (try dsimp only [RWS] at hSw); go_simp; refine Came.value ?_ hS0; with_reducible rfl)
              try simp only [Act.put, List.setIfInBounds_toArray, List.set_cons_zero, List.set_cons_succ]
              refine wpDet_take (i := 24) (oi := _) (v := ?dv103) (by simp only [List.getElem?_toArray, List.getElem?_cons_zero, List.getElem?_cons_succ]; rfl) (by kernel_rfl) (by kernel_rfl) (by kernel_rfl) (Or.inl ⟨by rfl, ?dy103⟩) ?dr103
              case dy103 => (intro w hSw; have hS0 := hSw; (try dsimp only [RWS] at hSw); go_simp; refine Came.value ?_ hS0; with_reducible rfl)
              try simp only [Act.put, List.setIfInBounds_toArray, List.set_cons_zero, List.set_cons_succ]
              refine wpDet_take (i := 25) (oi := _) (v := ?dv104) (by simp only [List.getElem?_toArray, List.getElem?_cons_zero, List.getElem?_cons_succ]; rfl) (by kernel_rfl) (by kernel_rfl) (by kernel_rfl) (Or.inl ⟨by rfl, ?dy104⟩) ?dr104
              case dy104 => (intro w hSw; have hS0 := hSw; (try dsimp only [RWS] at hSw); go_simp; refine Came.value ?_ hS0; with_reducible rfl)
              try simp only [Act.put, List.setIfInBounds_toArray, List.set_cons_zero, List.set_cons_succ]
              refine wpDet_done (by kernel_rfl) ?_ _
              rintro w2 hS2
              have HS2 := Lib.hid (hS2.fr (Fr.drew _ []))
              clear hS2
              go_wp2
              refine wp_region_det (S := RWS w w.heap.size p ⟨sc, sf, sh, sfl⟩ ⟨rc, rf, rh, ms⟩ (.slice am nm cm) (.slice a1 n1 c1)) (by kernel_rfl) HS2.out ?_
              refine wpDet_take (i := 0) (oi := _) (v := ?dv105) (by simp only [List.getElem?_toArray, List.getElem?_cons_zero]; rfl) (by kernel_rfl) (by kernel_rfl) (by kernel_rfl) (Or.inl ⟨by rfl, ?dy105⟩) ?dr105
              case dy105 => (intro w hSw; have hS0 := hSw; (try dsimp only [RWS] at hSw); go_simp; refine Came.value ?_ hS0; with_reducible rfl)
              try simp only [Act.put, List.setIfInBounds_toArray, List.set_cons_zero, List.set_cons_succ]
              refine wpDet_take (i := 1) (oi := _) (v := ?dv106) (by simp only [List.getElem?_toArray, List.getElem?_cons_zero, List.getElem?_cons_succ]; rfl) (by kernel_rfl) (by kernel_rfl) (by kernel_rfl) (Or.inl ⟨by rfl, ?dy106⟩) ?dr106
              case dy106 => (intro w hSw; have hS0 := hSw; (try dsimp only [RWS] at hSw); go_simp; refine Came.value ?_ hS0; with_reducible rfl)
              try simp only [Act.put, List.setIfInBounds_toArray, List.set_cons_zero, List.set_cons_succ]
              refine wpDet_take (i := 2) (oi := _) (v := ?dv107) (by simp only [List.getElem?_toArray, List.getElem?_cons_zero, List.getElem?_cons_succ]; rfl) (by kernel_rfl) (by kernel_rfl) (by kernel_rfl) (Or.inl ⟨by rfl, ?dy107⟩) ?dr107
              case dy107 => (intro w hSw; have hS0 := hSw; (try dsimp only [RWS] at hSw); go_simp; refine Came.value ?_ hS0; with_reducible rfl)
              try simp only [Act.put, List.setIfInBounds_toArray, List.set_cons_zero, List.set_cons_succ]
              refine wpDet_take (i := 3) (oi := _) (v := ?dv108) (by simp only [List.getElem?_toArray, List.getElem?_cons_zero, List.getElem?_cons_succ]; rfl) (by kernel_rfl) (by kernel_rfl) (by kernel_rfl) (Or.inl ⟨by rfl, ?dy108⟩) ?dr108
              case dy108 => (intro w hSw; have hS0 := hSw; (try dsimp only [RWS] at hSw); go_simp; refine Came.value ?_ hS0; with_reducible rfl)
              try simp only [Act.put, List.setIfInBounds_toArray, List.set_cons_zero, List.set_cons_succ]
              refine wpDet_take (i := 4) (oi := _) (v := ?dv109) (by simp only [List.getElem?_toArray, List.getElem?_cons_zero, List.getElem?_cons_succ]; rfl) (by kernel_rfl) (by kernel_rfl) (by kernel_rfl) (Or.inl ⟨by rfl, ?dy109⟩) ?dr109
              case dy109 => (intro w hSw; have hS0 := hSw; (try dsimp only [RWS] at hSw); go_simp; refine Came.value ?_ hS0; with_reducible rfl)
              try simp only [Act.put, List.setIfInBounds_toArray, List.set_cons_zero, List.set_cons_succ]
              refine wpDet_take (i := 5) (oi := _) (v := ?dv110) (by simp only [List.getElem?_toArray, List.getElem?_cons_zero, List.getElem?_cons_succ]; rfl) (by kernel_rfl) (by kernel_rfl) (by kernel_rfl) (Or.inl ⟨by rfl, ?dy110⟩) ?dr110
              case dy110 => (intro w hSw; have hS0 := hSw; (try dsimp only [RWS] at hSw); go_simp; refine Came.value ?_ hS0; with_reducible rfl)
              try simp only [Act.put, List.setIfInBounds_toArray, List.set_cons_zero, List.set_cons_succ]
              refine wpDet_take (i := 6) (oi := _) (v := ?dv111) (by simp only [List.getElem?_toArray, List.getElem?_cons_zero, List.getElem?_cons_succ]; rfl) (by kernel_rfl) (by kernel_rfl) (by kernel_rfl) (Or.inl ⟨by rfl, ?dy111⟩) ?dr111
              case dy111 => (intro w hSw; go_simp; exact Came.call ((HL.out w).mono fun e w' ⟨he, hf⟩ => ⟨he, hSw.fr hf⟩) (by with_reducible rfl))
              try simp only [Act.put, List.setIfInBounds_toArray, List.set_cons_zero, List.set_cons_succ]
              refine wpDet_take (i := 7) (oi := _) (v := ?dv112) (by simp only [List.getElem?_toArray, List.getElem?_cons_zero, List.getElem?_cons_succ]; rfl) (by kernel_rfl) (by kernel_rfl) (by kernel_rfl) (Or.inl ⟨by rfl, ?dy112⟩) ?dr112
              case dy112 => (intro w hSw; have hS0 := hSw; (try dsimp only [RWS] at hSw); go_simp; refine Came.value ?_ hS0; with_reducible rfl)
              try simp only [Act.put, List.setIfInBounds_toArray, List.set_cons_zero, List.set_cons_succ]
              refine wpDet_take (i := 8) (oi := _) (v := ?dv113) (by simp only [List.getElem?_toArray, List.getElem?_cons_zero, List.getElem?_cons_succ]; rfl) (by kernel_rfl) (by kernel_rfl) (by kernel_rfl) (Or.inl ⟨by rfl, ?dy113⟩) ?dr113
              case dy113 => (intro w hSw; have hS0 := hSw; (try dsimp only [RWS] at hSw); go_simp; refine Came.value ?_ hS0; with_reducible rfl)
              try simp only [Act.put, List.setIfInBounds_toArray, List.set_cons_zero, List.set_cons_succ]
              refine wpDet_take (i := 9) (oi := _) (v := ?dv114) (by simp only [List.getElem?_toArray, List.getElem?_cons_zero, List.getElem?_cons_succ]; rfl) (by kernel_rfl) (by kernel_rfl) (by kernel_rfl) (Or.inl ⟨by rfl, ?dy114⟩) ?dr114
              case dy114 => (intro w hSw; have hS0 := hSw; (try dsimp only [RWS] at hSw); go_simp; refine Came.value ?_ hS0; with_reducible rfl)
              try simp only [Act.put, List.setIfInBounds_toArray, List.set_cons_zero, List.set_cons_succ]
              refine wpDet_take (i := 10) (oi := _) (v := ?dv115) (by simp only [List.getElem?_toArray, List.getElem?_cons_zero, List.getElem?_cons_succ]; rfl) (by kernel_rfl) (by kernel_rfl) (by kernel_rfl) (Or.inl ⟨by rfl, ?dy115⟩) ?dr115
              case dy115 => (intro w hSw; have hS0 := hSw; (try dsimp only [RWS] at hSw); go_simp; refine Came.value ?_ hS0; with_reducible rfl)
              try simp only [Act.put, List.setIfInBounds_toArray, List.set_cons_zero, List.set_cons_succ]
              refine wpDet_take (i := 11) (oi := _) (v := ?dv116) (by simp only [List.getElem?_toArray, List.getElem?_cons_zero, List.getElem?_cons_succ]; rfl) (by kernel_rfl) (by kernel_rfl) (by kernel_rfl) (Or.inl ⟨by rfl, ?dy116⟩) ?dr116
              case dy116 => (intro w hSw; have hS0 := hSw; (try dsimp only [RWS] at hSw); go_simp; refine Came.value ?_ hS0; with_reducible rfl)
              try simp only [Act.put, List.setIfInBounds_toArray, List.set_cons_zero, List.set_cons_succ]
              refine wpDet_take (i := 12) (oi := _) (v := ?dv117) (by simp only [List.getElem?_toArray, List.getElem?_cons_zero, List.getElem?_cons_succ]; rfl) (by kernel_rfl) (by kernel_rfl) (by kernel_rfl) (Or.inl ⟨by rfl, ?dy117⟩) ?dr117
              case dy117 => (intro w hSw; have hS0 := hSw; (try dsimp only [RWS] at hSw); go_simp; refine Came.value ?_ hS0; with_reducible rfl)
              try simp only [Act.put, List.setIfInBounds_toArray, List.set_cons_zero, List.set_cons_succ]
              refine wpDet_take (i := 13) (oi := _) (v := ?dv118) (by simp only [List.getElem?_toArray, List.getElem?_cons_zero, List.getElem?_cons_succ]; rfl) (by kernel_rfl) (by kernel_rfl) (by kernel_rfl) (Or.inl ⟨by rfl, ?dy118⟩) ?dr118
              case dy118 => (intro w hSw; have hS0 := hSw; (try dsimp only [RWS] at hSw); go_simp; refine Came.value ?_ hS0; with_reducible rfl)
              try simp only [Act.put, List.setIfInBounds_toArray, List.set_cons_zero, List.set_cons_succ]
              refine wpDet_take (i := 14) (oi := _) (v := ?dv119) (by simp only [List.getElem?_toArray, List.getElem?_cons_zero, List.getElem?_cons_succ]; rfl) (by kernel_rfl) (by kernel_rfl) (by kernel_rfl) (Or.inl ⟨by rfl, ?dy119⟩) ?dr119
              case dy119 => (intro w hSw; go_simp; exact Came.call ((HM.out w).mono fun e w' ⟨he, hf⟩ => ⟨he, hSw.fr hf⟩) (by with_reducible rfl))
              try simp only [Act.put, List.setIfInBounds_toArray, List.set_cons_zero, List.set_cons_succ]
              refine wpDet_take (i := 15) (oi := _) (v := ?dv120) (by simp only [List.getElem?_toArray, List.getElem?_cons_zero, List.getElem?_cons_succ]; rfl) (by kernel_rfl) (by kernel_rfl) (by kernel_rfl) (Or.inl ⟨by rfl, ?dy120⟩) ?dr120
              case dy120 => (intro w hSw; have hS0 := hSw; (try dsimp only [RWS] at hSw); go_simp; refine Came.value ?_ hS0; with_reducible rfl)
              try simp only [Act.put, List.setIfInBounds_toArray, List.set_cons_zero, List.set_cons_succ]
              refine wpDet_take (i := 16) (oi := _) (v := ?dv121) (by simp only [List.getElem?_toArray, List.getElem?_cons_zero, List.getElem?_cons_succ]; rfl) (by kernel_rfl) (by kernel_rfl) (by kernel_rfl) (Or.inl ⟨by rfl, ?dy121⟩) ?dr121
              case dy121 => (intro w hSw; have hS0 := hSw; (try dsimp only [RWS] at hSw); go_simp; refine Came.value ?_ hS0; with_reducible rfl)
              try simp only [Act.put, List.setIfInBounds_toArray, List.set_cons_zero, List.set_cons_succ]
              refine wpDet_take (i := 17) (oi := _) (v := ?dv122) (by simp only [List.getElem?_toArray, List.getElem?_cons_zero, List.getElem?_cons_succ]; rfl) (by kernel_rfl) (by kernel_rfl) (by kernel_rfl) (Or.inl ⟨by rfl, ?dy122⟩) ?dr122
              case dy122 => (intro w hSw; have hS0 := hSw; (try dsimp only [RWS] at hSw); go_simp; refine Came.value ?_ hS0; with_reducible rfl)
              try simp only [Act.put, List.setIfInBounds_toArray, List.set_cons_zero, List.set_cons_succ]
              refine wpDet_take (i := 18) (oi := _) (v := ?dv123) (by simp only [List.getElem?_toArray, List.getElem?_cons_zero, List.getElem?_cons_succ]; rfl) (by kernel_rfl) (by kernel_rfl) (by kernel_rfl) (Or.inl ⟨by rfl, ?dy123⟩) ?dr123
              case dy123 => (intro w hSw; have hS0 := hSw; (try dsimp only [RWS] at hSw); go_simp; refine Came.value ?_ hS0; with_reducible rfl)
              try simp only [Act.put, List.setIfInBounds_toArray, List.set_cons_zero, List.set_cons_succ]
              refine wpDet_take (i := 19) (oi := _) (v := ?dv124) (by simp only [List.getElem?_toArray, List.getElem?_cons_zero, List.getElem?_cons_succ]; rfl) (by kernel_rfl) (by kernel_rfl) (by kernel_rfl) (Or.inl ⟨by rfl, ?dy124⟩) ?dr124
              case dy124 => (intro w hSw; have hS0 := hSw; (try dsimp only [RWS] at hSw); go_simp; refine Came.value ?_ hS0; with_reducible rfl)
              try simp only [Act.put, List.setIfInBounds_toArray, List.set_cons_zero, List.set_cons_succ]
              refine wpDet_take (i := 20) (oi := _) (v := ?dv125) (by simp only [List.getElem?_toArray, List.getElem?_cons_zero, List.getElem?_cons_succ]; rfl) (by kernel_rfl) (by kernel_rfl) (by kernel_rfl) (Or.inl ⟨by rfl, ?dy125⟩) ?dr125
              case dy125 => (intro w hSw; have hS0 := hSw; (try dsimp only [RWS] at hSw); go_simp; refine Came.value ?_ hS0; with_reducible rfl)
              try simp only [Act.put, List.setIfInBounds_toArray, List.set_cons_zero, List.set_cons_succ]
              refine wpDet_take (i := 21) (oi := _) (v := ?dv126) (by simp only [List.getElem?_toArray, List.getElem?_cons_zero, List.getElem?_cons_succ]; rfl) (by kernel_rfl) (by kernel_rfl) (by kernel_rfl) (Or.inl ⟨by rfl, ?dy126⟩) ?dr126
              case dy126 => (intro w hSw; have hS0 := hSw; (try dsimp only [RWS] at hSw); go_simp; refine Came.value ?_ hS0; with_reducible rfl)
              try simp only [Act.put, List.setIfInBounds_toArray, List.set_cons_zero, List.set_cons_succ]
              refine wpDet_take (i := 22) (oi := _) (v := ?dv127) (by simp only [List.getElem?_toArray, List.getElem?_cons_zero, List.getElem?_cons_succ]; rfl) (by kernel_rfl) (by kernel_rfl) (by kernel_rfl) (Or.inl ⟨by rfl, ?dy127⟩) ?dr127
              case dy127 => (intro w hSw; have hS0 := hSw; (try dsimp only [RWS] at hSw); go_simp; refine Came.value ?_ hS0; with_reducible rfl)
              try simp only [Act.put, List.setIfInBounds_toArray, List.set_cons_zero, List.set_cons_succ]
              refine wpDet_take (i := 23) (oi := _) (v := ?dv128) (by simp only [List.getElem?_toArray, List.getElem?_cons_zero, List.getElem?_cons_succ]; rfl) (by kernel_rfl) (by kernel_rfl) (by kernel_rfl) (Or.inl ⟨by rfl, ?dy128⟩) ?dr128
              case dy128 => (intro w hSw; have hS0 := hSw; (try dsimp only [RWS] at hSw); go_simp; refine Came.value ?_ hS0; with_reducible rfl)
              try simp only [Act.put, List.setIfInBounds_toArray, List.set_cons_zero, List.set_cons_succ]
              refine wpDet_take (i := 24) (oi := _) (v := ?dv129) (by simp only [List.getElem?_toArray, List.getElem?_cons_zero, List.getElem?_cons_succ]; rfl) (by kernel_rfl) (by kernel_rfl) (by kernel_rfl) (Or.inl ⟨by rfl, ?dy129⟩) ?dr129
              case dy129 => (intro w hSw; have hS0 := hSw; (try dsimp only [RWS] at hSw); go_simp; refine Came.value ?_ hS0; with_reducible rfl)
              try simp only [Act.put, List.setIfInBounds_toArray, List.set_cons_zero, List.set_cons_succ]
              refine wpDet_take (i := 25) (oi := _) (v := ?dv130) (by simp only [List.getElem?_toArray, List.getElem?_cons_zero, List.getElem?_cons_succ]; rfl) (by kernel_rfl) (by kernel_rfl) (by kernel_rfl) (Or.inl ⟨by rfl, ?dy130⟩) ?dr130
              case dy130 => (intro w hSw; have hS0 := hSw; (try dsimp only [RWS] at hSw); go_simp; refine Came.value ?_ hS0; with_reducible rfl)
              try simp only [Act.put, List.setIfInBounds_toArray, List.set_cons_zero, List.set_cons_succ]
              refine wpDet_done (by kernel_rfl) ?_ _
              rintro w3 ⟨hF, _⟩
              go_wp2
              go_ret
              exact ⟨rfl, hF⟩
            · have hv := ep_same sc sf rc rf
              rw [decide_eq_false hsm] at hv
              rw [decide_eq_false hsm, Bool.false_and] at hb
              subst hb
              have HM := Lib.hid hv
              clear hv hsm
              go_enter Try.func19, Try.ntmps19
              go_wp2
              refine wp_region_det (S := RWS w w.heap.size p ⟨sc, sf, sh, sfl⟩ ⟨rc, rf, rh, ms⟩ (.slice am nm cm) (.slice a1 n1 c1)) (by kernel_rfl) HS.out ?_
              refine wpDet_take (i := 0) (oi := _) (v := ?dv131) (by simp only [List.getElem?_toArray, List.getElem?_cons_zero]; rfl) (by kernel_rfl) (by kernel_rfl) (by kernel_rfl) (Or.inl ⟨by rfl, ?dy131⟩) ?dr131
              case dy131 => (intro w hSw; have hS0 := hSw; (try dsimp only [RWS] at hSw); go_simp; refine Came.value ?_ hS0; with_reducible rfl)
              try simp only [Act.put, List.setIfInBounds_toArray, List.set_cons_zero, List.set_cons_succ]
              refine wpDet_take (i := 1) (oi := _) (v := ?dv132) (by simp only [List.getElem?_toArray, List.getElem?_cons_zero, List.getElem?_cons_succ]; rfl) (by kernel_rfl) (by kernel_rfl) (by kernel_rfl) (Or.inl ⟨by rfl, ?dy132⟩) ?dr132
              case dy132 => (intro w hSw; have hS0 := hSw; (try dsimp only [RWS] at hSw); go_simp; refine Came.value ?_ hS0; with_reducible rfl)
              try simp only [Act.put, List.setIfInBounds_toArray, List.set_cons_zero, List.set_cons_succ]
              refine wpDet_take (i := 2) (oi := _) (v := ?dv133) (by simp only [List.getElem?_toArray, List.getElem?_cons_zero, List.getElem?_cons_succ]; rfl) (by kernel_rfl) (by kernel_rfl) (by kernel_rfl) (Or.inl ⟨by rfl, ?dy133⟩) ?dr133
              case dy133 => (intro w hSw; have hS0 := hSw; (try dsimp only [RWS] at hSw); go_simp; refine Came.value ?_ hS0; with_reducible rfl)
              try simp only [Act.put, List.setIfInBounds_toArray, List.set_cons_zero, List.set_cons_succ]
              refine wpDet_take (i := 3) (oi := _) (v := ?dv134) (by simp only [List.getElem?_toArray, List.getElem?_cons_zero, List.getElem?_cons_succ]; rfl) (by kernel_rfl) (by kernel_rfl) (by kernel_rfl) (Or.inl ⟨by rfl, ?dy134⟩) ?dr134
              case dy134 => (intro w hSw; have hS0 := hSw; (try dsimp only [RWS] at hSw); go_simp; refine Came.value ?_ hS0; with_reducible rfl)
              try simp only [Act.put, List.setIfInBounds_toArray, List.set_cons_zero, List.set_cons_succ]
              refine wpDet_take (i := 4) (oi := _) (v := ?dv135) (by simp only [List.getElem?_toArray, List.getElem?_cons_zero, List.getElem?_cons_succ]; rfl) (by kernel_rfl) (by kernel_rfl) (by kernel_rfl) (Or.inl ⟨by rfl, ?dy135⟩) ?dr135
              case dy135 => (intro w hSw; have hS0 := hSw; (try dsimp only [RWS] at hSw); go_simp; refine Came.value ?_ hS0; with_reducible rfl)
              try simp only [Act.put, List.setIfInBounds_toArray, List.set_cons_zero, List.set_cons_succ]
              refine wpDet_take (i := 5) (oi := _) (v := ?dv136) (by simp only [List.getElem?_toArray, List.getElem?_cons_zero, List.getElem?_cons_succ]; rfl) (by kernel_rfl) (by kernel_rfl) (by kernel_rfl) (Or.inl ⟨by rfl, ?dy136⟩) ?dr136
              case dy136 => (intro w hSw; have hS0 := hSw; (try dsimp only [RWS] at hSw); go_simp; refine Came.value ?_ hS0; with_reducible rfl)
              try simp only [Act.put, List.setIfInBounds_toArray, List.set_cons_zero, List.set_cons_succ]
              refine wpDet_take (i := 6) (oi := _) (v := ?dv137) (by simp only [List.getElem?_toArray, List.getElem?_cons_zero, List.getElem?_cons_succ]; rfl) (by kernel_rfl) (by kernel_rfl) (by kernel_rfl) (Or.inl ⟨by rfl, ?dy137⟩) ?dr137
              case dy137 => (intro w hSw; have hS0 := hSw; (try dsimp only [RWS] at hSw); go_simp; refine Came.value ?_ hS0; with_reducible rfl)
              try simp only [Act.put, List.setIfInBounds_toArray, List.set_cons_zero, List.set_cons_succ]
              refine wpDet_take (i := 7) (oi := _) (v := ?dv138) (by simp only [List.getElem?_toArray, List.getElem?_cons_zero, List.getElem?_cons_succ]; rfl) (by kernel_rfl) (by kernel_rfl) (by kernel_rfl) (Or.inl ⟨by rfl, ?dy138⟩) ?dr138
              case dy138 => (intro w hSw; go_simp; exact Came.call ((HA.out w hSw.2.2.2.1).mono fun e w' ⟨he, hw⟩ => ⟨he, hw ▸ hSw⟩) (by with_reducible rfl))
              try simp only [Act.put, List.setIfInBounds_toArray, List.set_cons_zero, List.set_cons_succ]
              refine wpDet_take (i := 8) (oi := _) (v := ?dv139) (by simp only [List.getElem?_toArray, List.getElem?_cons_zero, List.getElem?_cons_succ]; rfl) (by kernel_rfl) (by kernel_rfl) (by kernel_rfl) (Or.inl ⟨by rfl, ?dy139⟩) ?dr139
              case dy139 => (intro w hSw; have hS0 := hSw; (try dsimp only [RWS] at hSw); go_simp; refine Came.value ?_ hS0; with_reducible rfl)
              try simp only [Act.put, List.setIfInBounds_toArray, List.set_cons_zero, List.set_cons_succ]
              refine wpDet_take (i := 9) (oi := _) (v := ?dv140) (by simp only [List.getElem?_toArray, List.getElem?_cons_zero, List.getElem?_cons_succ]; rfl) (by kernel_rfl) (by kernel_rfl) (by kernel_rfl) (Or.inl ⟨by rfl, ?dy140⟩) ?dr140
              case dy140 => (intro w hSw; have hS0 := hSw; (try dsimp only [RWS] at hSw); go_simp; refine Came.value ?_ hS0; with_reducible rfl)
              try simp only [Act.put, List.setIfInBounds_toArray, List.set_cons_zero, List.set_cons_succ]
              refine wpDet_take (i := 10) (oi := _) (v := ?dv141) (by simp only [List.getElem?_toArray, List.getElem?_cons_zero, List.getElem?_cons_succ]; rfl) (by kernel_rfl) (by kernel_rfl) (by kernel_rfl) (Or.inl ⟨by rfl, ?dy141⟩) ?dr141
              case dy141 => (intro w hSw; have hS0 := hSw; (try dsimp only [RWS] at hSw); go_simp; refine Came.value ?_ hS0; with_reducible rfl)
              try simp only [Act.put, List.setIfInBounds_toArray, List.set_cons_zero, List.set_cons_succ]
              refine wpDet_take (i := 11) (oi := _) (v := ?dv142) (by simp only [List.getElem?_toArray, List.getElem?_cons_zero, List.getElem?_cons_succ]; rfl) (by kernel_rfl) (by kernel_rfl) (by kernel_rfl) (Or.inl ⟨by rfl, ?dy142⟩) ?dr142
              case dy142 => (intro w hSw; have hS0 := hSw; (try dsimp only [RWS] at hSw); go_simp; refine Came.value ?_ hS0; with_reducible rfl)
              try simp only [Act.put, List.setIfInBounds_toArray, List.set_cons_zero, List.set_cons_succ]
              refine wpDet_take (i := 12) (oi := _) (v := ?dv143) (by simp only [List.getElem?_toArray, List.getElem?_cons_zero, List.getElem?_cons_succ]; rfl) (by kernel_rfl) (by kernel_rfl) (by kernel_rfl) (Or.inl ⟨by rfl, ?dy143⟩) ?dr143
              case dy143 => (intro w hSw; have hS0 := hSw; (try dsimp only [RWS] at hSw); go_simp; refine Came.value ?_ hS0; with_reducible rfl)
              try simp only [Act.put, List.setIfInBounds_toArray, List.set_cons_zero, List.set_cons_succ]
              refine wpDet_take (i := 13) (oi := _) (v := ?dv144) (by simp only [List.getElem?_toArray, List.getElem?_cons_zero, List.getElem?_cons_succ]; rfl) (by kernel_rfl) (by kernel_rfl) (by kernel_rfl) (Or.inl ⟨by rfl, ?dy144⟩) ?dr144
              case dy144 => (intro w hSw; go_simp; exact Came.call ((HV.out w).mono fun e w' ⟨he, hf⟩ => ⟨he, hSw.fr hf⟩) (by with_reducible rfl))
              try simp only [Act.put, List.setIfInBounds_toArray, List.set_cons_zero, List.set_cons_succ]
              refine wpDet_take (i := 14) (oi := _) (v := ?dv145) (by simp only [List.getElem?_toArray, List.getElem?_cons_zero, List.getElem?_cons_succ]; rfl) (by kernel_rfl) (by kernel_rfl) (by kernel_rfl) (Or.inl ⟨by rfl, ?dy145⟩) ?dr145
              case dy145 => (intro w hSw; have hS0 := hSw; (try dsimp only [RWS] at hSw); go_simp; refine Came.value ?_ hS0; with_reducible rfl)
              try simp only [Act.put, List.setIfInBounds_toArray, List.set_cons_zero, List.set_cons_succ]
              refine wpDet_take (i := 15) (oi := _) (v := ?dv146) (by simp only [List.getElem?_toArray, List.getElem?_cons_zero, List.getElem?_cons_succ]; rfl) (by kernel_rfl) (by kernel_rfl) (by kernel_rfl) (Or.inl ⟨by rfl, ?dy146⟩) ?dr146
              case dy146 => (intro w hSw; have hS0 := hSw; (try dsimp only [RWS] at hSw); go_simp; refine Came.value ?_ hS0; with_reducible rfl)
              try simp only [Act.put, List.setIfInBounds_toArray, List.set_cons_zero, List.set_cons_succ]
              refine wpDet_take (i := 16) (oi := _) (v := ?dv147) (by simp only [List.getElem?_toArray, List.getElem?_cons_zero, List.getElem?_cons_succ]; rfl) (by kernel_rfl) (by kernel_rfl) (by kernel_rfl) (Or.inl ⟨by rfl, ?dy147⟩) ?dr147
              case dy147 => (intro w hSw; have hS0 := hSw; (try dsimp only [RWS] at hSw); go_simp; refine Came.value ?_ hS0; with_reducible rfl)
              try simp only [Act.put, List.setIfInBounds_toArray, List.set_cons_zero, List.set_cons_succ]
              refine wpDet_take (i := 17) (oi := _) (v := ?dv148) (by simp only [List.getElem?_toArray, List.getElem?_cons_zero, List.getElem?_cons_succ]; rfl) (by kernel_rfl) (by kernel_rfl) (by kernel_rfl) (Or.inl ⟨by rfl, ?dy148⟩) ?dr148
              case dy148 => (intro w hSw; have hS0 := hSw; (try dsimp only [RWS] at hSw); go_simp; refine Came.value ?_ hS0; with_reducible rfl)
              try simp only [Act.put, List.setIfInBounds_toArray, List.set_cons_zero, List.set_cons_succ]
              refine wpDet_take (i := 18) (oi := _) (v := ?dv149) (by simp only [List.getElem?_toArray, List.getElem?_cons_zero, List.getElem?_cons_succ]; rfl) (by kernel_rfl) (by kernel_rfl) (by kernel_rfl) (Or.inl ⟨by rfl, ?dy149⟩) ?dr149
              case dy149 => (intro w hSw; have hS0 := hSw; (try dsimp only [RWS] at hSw); go_simp; refine Came.value ?_ hS0; with_reducible rfl)
              try simp only [Act.put, List.setIfInBounds_toArray, List.set_cons_zero, List.set_cons_succ]
              refine wpDet_take (i := 19) (oi := _) (v := ?dv150) (by simp only [List.getElem?_toArray, List.getElem?_cons_zero, List.getElem?_cons_succ]; rfl) (by kernel_rfl) (by kernel_rfl) (by kernel_rfl) (Or.inl ⟨by rfl, ?dy150⟩) ?dr150
              case dy150 => (intro w hSw; have hS0 := hSw; (try dsimp only [RWS] at hSw); go_simp; refine Came.value ?_ hS0; with_reducible rfl)
              try simp only [Act.put, List.setIfInBounds_toArray, List.set_cons_zero, List.set_cons_succ]
              refine wpDet_take (i := 20) (oi := _) (v := ?dv151) (by simp only [List.getElem?_toArray, List.getElem?_cons_zero, List.getElem?_cons_succ]; rfl) (by kernel_rfl) (by kernel_rfl) (by kernel_rfl) (Or.inl ⟨by rfl, ?dy151⟩) ?dr151
              case dy151 => (intro w hSw; have hS0 := hSw; (try dsimp only [RWS] at hSw); go_simp; refine Came.value ?_ hS0; with_reducible rfl)
              try simp only [Act.put, List.setIfInBounds_toArray, List.set_cons_zero, List.set_cons_succ]
              refine wpDet_take (i := 21) (oi := _) (v := ?dv152) (by simp only [List.getElem?_toArray, List.getElem?_cons_zero, List.getElem?_cons_succ]; rfl) (by kernel_rfl) (by kernel_rfl) (by kernel_rfl) (Or.inl ⟨by rfl, ?dy152⟩) ?dr152
              case dy152 => (intro w hSw; have hS0 := hSw; (try dsimp only [RWS] at hSw); go_simp; refine Came.value ?_ hS0; with_reducible rfl)
              try simp only [Act.put, List.setIfInBounds_toArray, List.set_cons_zero, List.set_cons_succ]
              refine wpDet_take (i := 22) (oi := _) (v := ?dv153) (by simp only [List.getElem?_toArray, List.getElem?_cons_zero, List.getElem?_cons_succ]; rfl) (by kernel_rfl) (by kernel_rfl) (by kernel_rfl) (Or.inl ⟨by rfl, ?dy153⟩) ?dr153
              case dy153 => (intro w hSw; have hS0 := hSw; (try dsimp only [RWS] at hSw); go_simp; refine Came.value ?_ hS0; with_reducible rfl)
              try simp only [Act.put, List.setIfInBounds_toArray, List.set_cons_zero, List.set_cons_succ]
              refine wpDet_take (i := 23) (oi := _) (v := ?dv154) (by simp only [List.getElem?_toArray, List.getElem?_cons_zero, List.getElem?_cons_succ]; rfl) (by kernel_rfl) (by kernel_rfl) (by kernel_rfl) (Or.inl ⟨by rfl, ?dy154⟩) ?dr154
              case dy154 => (intro w hSw; have hS0 := hSw; (try dsimp only [RWS] at hSw); go_simp; refine Came.value ?_ hS0; with_reducible rfl)
              try simp only [Act.put, List.setIfInBounds_toArray, List.set_cons_zero, List.set_cons_succ]
              refine wpDet_take (i := 24) (oi := _) (v := ?dv155) (by simp only [List.getElem?_toArray, List.getElem?_cons_zero, List.getElem?_cons_succ]; rfl) (by kernel_rfl) (by kernel_rfl) (by kernel_rfl) (Or.inl ⟨by rfl, ?dy155⟩) ?dr155
              case dy155 => (intro w hSw; have hS0 := hSw; (try dsimp only [RWS] at hSw); go_simp; refine Came.value ?_ hS0; with_reducible rfl)
              try simp only [Act.put, List.setIfInBounds_toArray, List.set_cons_zero, List.set_cons_succ]
              refine wpDet_take (i := 25) (oi := _) (v := ?dv156) (by simp only [List.getElem?_toArray, List.getElem?_cons_zero, List.getElem?_cons_succ]; rfl) (by kernel_rfl) (by kernel_rfl) (by kernel_rfl) (Or.inl ⟨by rfl, ?dy156⟩) ?dr156
              case dy156 => (intro w hSw; have hS0 := hSw; (try dsimp only [RWS] at hSw); go_simp; refine Came.value ?_ hS0; with_reducible rfl)
              try simp only [Act.put, List.setIfInBounds_toArray, List.set_cons_zero, List.set_cons_succ]
              refine wpDet_done (by kernel_rfl) ?_ _
              rintro w2 hS2
              have HS2 := Lib.hid (hS2.fr (Fr.drew _ []))
              clear hS2
              go_wp2
              refine wp_region_det (S := RWS w w.heap.size p ⟨sc, sf, sh, sfl⟩ ⟨rc, rf, rh, ms⟩ (.slice am nm cm) (.slice a1 n1 c1)) (by kernel_rfl) HS2.out ?_
              refine wpDet_take (i := 0) (oi := _) (v := ?dv157) (by simp only [List.getElem?_toArray, List.getElem?_cons_zero]; rfl) (by kernel_rfl) (by kernel_rfl) (by kernel_rfl) (Or.inl ⟨by rfl, ?dy157⟩) ?dr157
              case dy157 => (intro w hSw; have hS0 := hSw; (try dsimp only [RWS] at hSw); go_simp; refine Came.value ?_ hS0; with_reducible rfl)
              try simp only [Act.put, List.setIfInBounds_toArray, List.set_cons_zero, List.set_cons_succ]
              refine wpDet_take (i := 1) (oi := _) (v := ?dv158) (by simp only [List.getElem?_toArray, List.getElem?_cons_zero, List.getElem?_cons_succ]; rfl) (by kernel_rfl) (by kernel_rfl) (by kernel_rfl) (Or.inl ⟨by rfl, ?dy158⟩) ?dr158
              case dy158 => (intro w hSw; have hS0 := hSw; (try dsimp only [RWS] at hSw); go_simp; refine Came.value ?_ hS0; with_reducible rfl)
              try simp only [Act.put, List.setIfInBounds_toArray, List.set_cons_zero, List.set_cons_succ]
              refine wpDet_take (i := 2) (oi := _) (v := ?dv159) (by simp only [List.getElem?_toArray, List.getElem?_cons_zero, List.getElem?_cons_succ]; rfl) (by kernel_rfl) (by kernel_rfl) (by kernel_rfl) (Or.inl ⟨by rfl, ?dy159⟩) ?dr159
              case dy159 => (intro w hSw; have hS0 := hSw; (try dsimp only [RWS] at hSw); go_simp; refine Came.value ?_ hS0; with_reducible rfl)
              try simp only [Act.put, List.setIfInBounds_toArray, List.set_cons_zero, List.set_cons_succ]
              refine wpDet_take (i := 3) (oi := _) (v := ?dv160) (by simp only [List.getElem?_toArray, List.getElem?_cons_zero, List.getElem?_cons_succ]; rfl) (by kernel_rfl) (by kernel_rfl) (by kernel_rfl) (Or.inl ⟨by rfl, ?dy160⟩) ?dr160
              case dy160 => (intro w hSw; have hS0 := hSw; (try dsimp only [RWS] at hSw); go_simp; refine Came.value ?_ hS0; with_reducible rfl)
              try simp only [Act.put, List.setIfInBounds_toArray, List.set_cons_zero, List.set_cons_succ]
              refine wpDet_take (i := 4) (oi := _) (v := ?dv161) (by simp only [List.getElem?_toArray, List.getElem?_cons_zero, List.getElem?_cons_succ]; rfl) (by kernel_rfl) (by kernel_rfl) (by kernel_rfl) (Or.inl ⟨by rfl, ?dy161⟩) ?dr161
              case dy161 => (intro w hSw; have hS0 := hSw; (try dsimp only [RWS] at hSw); go_simp; refine Came.value ?_ hS0; with_reducible rfl)
              try simp only [Act.put, List.setIfInBounds_toArray, List.set_cons_zero, List.set_cons_succ]
              refine wpDet_take (i := 5) (oi := _) (v := ?dv162) (by simp only [List.getElem?_toArray, List.getElem?_cons_zero, List.getElem?_cons_succ]; rfl) (by kernel_rfl) (by kernel_rfl) (by kernel_rfl) (Or.inl ⟨by rfl, ?dy162⟩) ?dr162
              case dy162 => (intro w hSw; have hS0 := hSw; (try dsimp only [RWS] at hSw); go_simp; refine Came.value ?_ hS0; with_reducible rfl)
              try simp only [Act.put, List.setIfInBounds_toArray, List.set_cons_zero, List.set_cons_succ]
              refine wpDet_take (i := 6) (oi := _) (v := ?dv163) (by simp only [List.getElem?_toArray, List.getElem?_cons_zero, List.getElem?_cons_succ]; rfl) (by kernel_rfl) (by kernel_rfl) (by kernel_rfl) (Or.inl ⟨by rfl, ?dy163⟩) ?dr163
              case dy163 => (intro w hSw; go_simp; exact Came.call ((HL.out w).mono fun e w' ⟨he, hf⟩ => ⟨he, hSw.fr hf⟩) (by with_reducible rfl))
              try simp only [Act.put, List.setIfInBounds_toArray, List.set_cons_zero, List.set_cons_succ]
              refine wpDet_take (i := 7) (oi := _) (v := ?dv164) (by simp only [List.getElem?_toArray, List.getElem?_cons_zero, List.getElem?_cons_succ]; rfl) (by kernel_rfl) (by kernel_rfl) (by kernel_rfl) (Or.inl ⟨by rfl, ?dy164⟩) ?dr164
              case dy164 => (intro w hSw; have hS0 := hSw; (try dsimp only [RWS] at hSw); go_simp; refine Came.value ?_ hS0; with_reducible rfl)
              try simp only [Act.put, List.setIfInBounds_toArray, List.set_cons_zero, List.set_cons_succ]
              refine wpDet_take (i := 8) (oi := _) (v := ?dv165) (by simp only [List.getElem?_toArray, List.getElem?_cons_zero, List.getElem?_cons_succ]; rfl) (by kernel_rfl) (by kernel_rfl) (by kernel_rfl) (Or.inl ⟨by rfl, ?dy165⟩) ?dr165
              case dy165 => (intro w hSw; have hS0 := hSw; (try dsimp only [RWS] at hSw); go_simp; refine Came.value ?_ hS0; with_reducible rfl)
              try simp only [Act.put, List.setIfInBounds_toArray, List.set_cons_zero, List.set_cons_succ]
              refine wpDet_take (i := 9) (oi := _) (v := ?dv166) (by simp only [List.getElem?_toArray, List.getElem?_cons_zero, List.getElem?_cons_succ]; rfl) (by kernel_rfl) (by kernel_rfl) (by kernel_rfl) (Or.inl ⟨by rfl, ?dy166⟩) ?dr166
              case dy166 => (intro w hSw; have hS0 := hSw; (try dsimp only [RWS] at hSw); go_simp; refine Came.value ?_ hS0; with_reducible rfl)
              try simp only [Act.put, List.setIfInBounds_toArray, List.set_cons_zero, List.set_cons_succ]
              refine wpDet_take (i := 10) (oi := _) (v := ?dv167) (by simp only [List.getElem?_toArray, List.getElem?_cons_zero, List.getElem?_cons_succ]; rfl) (by kernel_rfl) (by kernel_rfl) (by kernel_rfl) (Or.inl ⟨by rfl, ?dy167⟩) ?dr167
              case dy167 => (intro w hSw; have hS0 := hSw; (try dsimp only [RWS] at hSw); go_simp; refine Came.value ?_ hS0; with_reducible rfl)
              try simp only [Act.put, List.setIfInBounds_toArray, List.set_cons_zero, List.set_cons_succ]
              refine wpDet_take (i := 11) (oi := _) (v := ?dv168) (by simp only [List.getElem?_toArray, List.getElem?_cons_zero, List.getElem?_cons_succ]; rfl) (by kernel_rfl) (by kernel_rfl) (by kernel_rfl) (Or.inl ⟨by rfl, ?dy168⟩) ?dr168
              case dy168 => (intro w hSw; have hS0 := hSw; (try dsimp only [RWS] at hSw); go_simp; refine Came.value ?_ hS0; with_reducible rfl)
              try simp only [Act.put, List.setIfInBounds_toArray, List.set_cons_zero, List.set_cons_succ]
              refine wpDet_take (i := 12) (oi := _) (v := ?dv169) (by simp only [List.getElem?_toArray, List.getElem?_cons_zero, List.getElem?_cons_succ]; rfl) (by kernel_rfl) (by kernel_rfl) (by kernel_rfl) (Or.inl ⟨by rfl, ?dy169⟩) ?dr169
              case dy169 => (intro w hSw; have hS0 := hSw; (try dsimp only [RWS] at hSw); go_simp; refine Came.value ?_ hS0; with_reducible rfl)
              try simp only [Act.put, List.setIfInBounds_toArray, List.set_cons_zero, List.set_cons_succ]
              refine wpDet_take (i := 13) (oi := _) (v := ?dv170) (by simp only [List.getElem?_toArray, List.getElem?_cons_zero, List.getElem?_cons_succ]; rfl) (by kernel_rfl) (by kernel_rfl) (by kernel_rfl) (Or.inl ⟨by rfl, ?dy170⟩) ?dr170
              case dy170 => (intro w hSw; have hS0 := hSw; (try dsimp only [RWS] at hSw); go_simp; refine Came.value ?_ hS0; with_reducible rfl)
              try simp only [Act.put, List.setIfInBounds_toArray, List.set_cons_zero, List.set_cons_succ]
              refine wpDet_take (i := 14) (oi := _) (v := ?dv171) (by simp only [List.getElem?_toArray, List.getElem?_cons_zero, List.getElem?_cons_succ]; rfl) (by kernel_rfl) (by kernel_rfl) (by kernel_rfl) (Or.inl ⟨by rfl, ?dy171⟩) ?dr171
              case dy171 => (intro w hSw; go_simp; exact Came.call ((HM.out w).mono fun e w' ⟨he, hf⟩ => ⟨he, hSw.fr hf⟩) (by with_reducible rfl))
              try simp only [Act.put, List.setIfInBounds_toArray, List.set_cons_zero, List.set_cons_succ]
              refine wpDet_take (i := 15) (oi := _) (v := ?dv172) (by simp only [List.getElem?_toArray, List.getElem?_cons_zero, List.getElem?_cons_succ]; rfl) (by kernel_rfl) (by kernel_rfl) (by kernel_rfl) (Or.inl ⟨by rfl, ?dy172⟩) ?dr172
              case dy172 => (intro w hSw; have hS0 := hSw; (try dsimp only [RWS] at hSw); go_simp; refine Came.value ?_ hS0; with_reducible rfl)
              try simp only [Act.put, List.setIfInBounds_toArray, List.set_cons_zero, List.set_cons_succ]
              refine wpDet_take (i := 16) (oi := _) (v := undef) (by simp only [List.getElem?_toArray, List.getElem?_cons_zero, List.getElem?_cons_succ]; rfl) (by kernel_rfl) (by kernel_rfl) (by kernel_rfl) (Or.inr ⟨by rfl, rfl⟩) ?_
              try simp only [Act.put, List.setIfInBounds_toArray, List.set_cons_zero, List.set_cons_succ]
              refine wpDet_take (i := 17) (oi := _) (v := undef) (by simp only [List.getElem?_toArray, List.getElem?_cons_zero, List.getElem?_cons_succ]; rfl) (by kernel_rfl) (by kernel_rfl) (by kernel_rfl) (Or.inr ⟨by rfl, rfl⟩) ?_
              try simp only [Act.put, List.setIfInBounds_toArray, List.set_cons_zero, List.set_cons_succ]
              refine wpDet_take (i := 18) (oi := _) (v := undef) (by simp only [List.getElem?_toArray, List.getElem?_cons_zero, List.getElem?_cons_succ]; rfl) (by kernel_rfl) (by kernel_rfl) (by kernel_rfl) (Or.inr ⟨by rfl, rfl⟩) ?_
              try simp only [Act.put, List.setIfInBounds_toArray, List.set_cons_zero, List.set_cons_succ]
              refine wpDet_take (i := 19) (oi := _) (v := undef) (by simp only [List.getElem?_toArray, List.getElem?_cons_zero, List.getElem?_cons_succ]; rfl) (by kernel_rfl) (by kernel_rfl) (by kernel_rfl) (Or.inr ⟨by rfl, rfl⟩) ?_
              try simp only [Act.put, List.setIfInBounds_toArray, List.set_cons_zero, List.set_cons_succ]
              refine wpDet_take (i := 20) (oi := _) (v := undef) (by simp only [List.getElem?_toArray, List.getElem?_cons_zero, List.getElem?_cons_succ]; rfl) (by kernel_rfl) (by kernel_rfl) (by kernel_rfl) (Or.inr ⟨by rfl, rfl⟩) ?_
              try simp only [Act.put, List.setIfInBounds_toArray, List.set_cons_zero, List.set_cons_succ]
              refine wpDet_take (i := 21) (oi := _) (v := undef) (by simp only [List.getElem?_toArray, List.getElem?_cons_zero, List.getElem?_cons_succ]; rfl) (by kernel_rfl) (by kernel_rfl) (by kernel_rfl) (Or.inr ⟨by rfl, rfl⟩) ?_
              try simp only [Act.put, List.setIfInBounds_toArray, List.set_cons_zero, List.set_cons_succ]
              refine wpDet_take (i := 22) (oi := _) (v := undef) (by simp only [List.getElem?_toArray, List.getElem?_cons_zero, List.getElem?_cons_succ]; rfl) (by kernel_rfl) (by kernel_rfl) (by kernel_rfl) (Or.inr ⟨by rfl, rfl⟩) ?_
              try simp only [Act.put, List.setIfInBounds_toArray, List.set_cons_zero, List.set_cons_succ]
              refine wpDet_take (i := 23) (oi := _) (v := ?dv180) (by simp only [List.getElem?_toArray, List.getElem?_cons_zero, List.getElem?_cons_succ]; rfl) (by kernel_rfl) (by kernel_rfl) (by kernel_rfl) (Or.inl ⟨by rfl, ?dy180⟩) ?dr180
              case dy180 => (intro w hSw; have hS0 := hSw; (try dsimp only [RWS] at hSw); go_simp; refine Came.value ?_ hS0; with_reducible rfl)
              try simp only [Act.put, List.setIfInBounds_toArray, List.set_cons_zero, List.set_cons_succ]
              refine wpDet_take (i := 24) (oi := _) (v := ?dv181) (by simp only [List.getElem?_toArray, List.getElem?_cons_zero, List.getElem?_cons_succ]; rfl) (by kernel_rfl) (by kernel_rfl) (by kernel_rfl) (Or.inl ⟨by rfl, ?dy181⟩) ?dr181
              case dy181 => (intro w hSw; have hS0 := hSw; (try dsimp only [RWS] at hSw); go_simp; refine Came.value ?_ hS0; with_reducible rfl)
              try simp only [Act.put, List.setIfInBounds_toArray, List.set_cons_zero, List.set_cons_succ]
              refine wpDet_take (i := 25) (oi := _) (v := ?dv182) (by simp only [List.getElem?_toArray, List.getElem?_cons_zero, List.getElem?_cons_succ]; rfl) (by kernel_rfl) (by kernel_rfl) (by kernel_rfl) (Or.inl ⟨by rfl, ?dy182⟩) ?dr182
              case dy182 => (intro w hSw; have hS0 := hSw; (try dsimp only [RWS] at hSw); go_simp; refine Came.value ?_ hS0; with_reducible rfl)
              try simp only [Act.put, List.setIfInBounds_toArray, List.set_cons_zero, List.set_cons_succ]
              refine wpDet_done (by kernel_rfl) ?_ _
              rintro w3 ⟨hF, _⟩
              go_wp2
              go_ret
              exact ⟨rfl, hF⟩
        · rw [decide_eq_false hfl, Bool.false_and] at hb
          subst hb
          go_enter Try.func19, Try.ntmps19
          go_wp2
          refine wp_region_det (S := RWS w w.heap.size p ⟨sc, sf, sh, sfl⟩ ⟨rc, rf, rh, ms⟩ (.slice am nm cm) (.slice a1 n1 c1)) (by kernel_rfl) HS.out ?_
          refine wpDet_take (i := 0) (oi := _) (v := ?dv183) (by simp only [List.getElem?_toArray, List.getElem?_cons_zero]; rfl) (by kernel_rfl) (by kernel_rfl) (by kernel_rfl) (Or.inl ⟨by rfl, ?dy183⟩) ?dr183
          case dy183 => (intro w hSw; have hS0 := hSw; (try dsimp only [RWS] at hSw); go_simp; refine Came.value ?_ hS0; with_reducible rfl)
          try simp only [Act.put, List.setIfInBounds_toArray, List.set_cons_zero, List.set_cons_succ]
          refine wpDet_take (i := 1) (oi := _) (v := ?dv184) (by simp only [List.getElem?_toArray, List.getElem?_cons_zero, List.getElem?_cons_succ]; rfl) (by kernel_rfl) (by kernel_rfl) (by kernel_rfl) (Or.inl ⟨by rfl, ?dy184⟩) ?dr184
          case dy184 => (intro w hSw; have hS0 := hSw; (try dsimp only [RWS] at hSw); go_simp; refine Came.value ?_ hS0; with_reducible rfl)
          try simp only [Act.put, List.setIfInBounds_toArray, List.set_cons_zero, List.set_cons_succ]
          refine wpDet_take (i := 2) (oi := _) (v := ?dv185) (by simp only [List.getElem?_toArray, List.getElem?_cons_zero, List.getElem?_cons_succ]; rfl) (by kernel_rfl) (by kernel_rfl) (by kernel_rfl) (Or.inl ⟨by rfl, ?dy185⟩) ?dr185
          case dy185 => (intro w hSw; have hS0 := hSw; (try dsimp only [RWS] at hSw); go_simp; refine Came.value ?_ hS0; with_reducible rfl)
          try simp only [Act.put, List.setIfInBounds_toArray, List.set_cons_zero, List.set_cons_succ]
          refine wpDet_take (i := 3) (oi := _) (v := ?dv186) (by simp only [List.getElem?_toArray, List.getElem?_cons_zero, List.getElem?_cons_succ]; rfl) (by kernel_rfl) (by kernel_rfl) (by kernel_rfl) (Or.inl ⟨by rfl, ?dy186⟩) ?dr186
          case dy186 => (intro w hSw; have hS0 := hSw; (try dsimp only [RWS] at hSw); go_simp; refine Came.value ?_ hS0; with_reducible rfl)
          try simp only [Act.put, List.setIfInBounds_toArray, List.set_cons_zero, List.set_cons_succ]
          refine wpDet_take (i := 4) (oi := _) (v := ?dv187) (by simp only [List.getElem?_toArray, List.getElem?_cons_zero, List.getElem?_cons_succ]; rfl) (by kernel_rfl) (by kernel_rfl) (by kernel_rfl) (Or.inl ⟨by rfl, ?dy187⟩) ?dr187
          case dy187 => (intro w hSw; have hS0 := hSw; (try dsimp only [RWS] at hSw); go_simp; refine Came.value ?_ hS0; with_reducible rfl)
          try simp only [Act.put, List.setIfInBounds_toArray, List.set_cons_zero, List.set_cons_succ]
          refine wpDet_take (i := 5) (oi := _) (v := ?dv188) (by simp only [List.getElem?_toArray, List.getElem?_cons_zero, List.getElem?_cons_succ]; rfl) (by kernel_rfl) (by kernel_rfl) (by kernel_rfl) (Or.inl ⟨by rfl, ?dy188⟩) ?dr188
          case dy188 => (intro w hSw; have hS0 := hSw; (try dsimp only [RWS] at hSw); go_simp; refine Came.value ?_ hS0; with_reducible rfl)
          try simp only [Act.put, List.setIfInBounds_toArray, List.set_cons_zero, List.set_cons_succ]
          refine wpDet_take (i := 6) (oi := _) (v := ?dv189) (by simp only [List.getElem?_toArray, List.getElem?_cons_zero, List.getElem?_cons_succ]; rfl) (by kernel_rfl) (by kernel_rfl) (by kernel_rfl) (Or.inl ⟨by rfl, ?dy189⟩) ?dr189
          case dy189 => (intro w hSw; have hS0 := hSw; (try dsimp only [RWS] at hSw); go_simp; refine Came.value ?_ hS0; with_reducible rfl)
          try simp only [Act.put, List.setIfInBounds_toArray, List.set_cons_zero, List.set_cons_succ]
          refine wpDet_take (i := 7) (oi := _) (v := ?dv190) (by simp only [List.getElem?_toArray, List.getElem?_cons_zero, List.getElem?_cons_succ]; rfl) (by kernel_rfl) (by kernel_rfl) (by kernel_rfl) (Or.inl ⟨by rfl, ?dy190⟩) ?dr190
          case dy190 => (intro w hSw; go_simp; exact Came.call ((HA.out w hSw.2.2.2.1).mono fun e w' ⟨he, hw⟩ => ⟨he, hw ▸ hSw⟩) (by with_reducible rfl))
          try simp only [Act.put, List.setIfInBounds_toArray, List.set_cons_zero, List.set_cons_succ]
          refine wpDet_take (i := 8) (oi := _) (v := ?dv191) (by simp only [List.getElem?_toArray, List.getElem?_cons_zero, List.getElem?_cons_succ]; rfl) (by kernel_rfl) (by kernel_rfl) (by kernel_rfl) (Or.inl ⟨by rfl, ?dy191⟩) ?dr191
          case dy191 => (intro w hSw; have hS0 := hSw; (try dsimp only [RWS] at hSw); go_simp; refine Came.value ?_ hS0; with_reducible rfl)
          try simp only [Act.put, List.setIfInBounds_toArray, List.set_cons_zero, List.set_cons_succ]
          refine wpDet_take (i := 9) (oi := _) (v := ?dv192) (by simp only [List.getElem?_toArray, List.getElem?_cons_zero, List.getElem?_cons_succ]; rfl) (by kernel_rfl) (by kernel_rfl) (by kernel_rfl) (Or.inl ⟨by rfl, ?dy192⟩) ?dr192
          case dy192 => (intro w hSw; have hS0 := hSw; (try dsimp only [RWS] at hSw); go_simp; refine Came.value ?_ hS0; with_reducible rfl)
          try simp only [Act.put, List.setIfInBounds_toArray, List.set_cons_zero, List.set_cons_succ]
          refine wpDet_take (i := 10) (oi := _) (v := ?dv193) (by simp only [List.getElem?_toArray, List.getElem?_cons_zero, List.getElem?_cons_succ]; rfl) (by kernel_rfl) (by kernel_rfl) (by kernel_rfl) (Or.inl ⟨by rfl, ?dy193⟩) ?dr193
          case dy193 => (intro w hSw; have hS0 := hSw; (try dsimp only [RWS] at hSw); go_simp; refine Came.value ?_ hS0; with_reducible rfl)
          try simp only [Act.put, List.setIfInBounds_toArray, List.set_cons_zero, List.set_cons_succ]
          refine wpDet_take (i := 11) (oi := _) (v := ?dv194) (by simp only [List.getElem?_toArray, List.getElem?_cons_zero, List.getElem?_cons_succ]; rfl) (by kernel_rfl) (by kernel_rfl) (by kernel_rfl) (Or.inl ⟨by rfl, ?dy194⟩) ?dr194
          case dy194 => (intro w hSw; have hS0 := hSw; (try dsimp only [RWS] at hSw); go_simp; refine Came.value ?_ hS0; with_reducible rfl)
          try simp only [Act.put, List.setIfInBounds_toArray, List.set_cons_zero, List.set_cons_succ]
          refine wpDet_take (i := 12) (oi := _) (v := ?dv195) (by simp only [List.getElem?_toArray, List.getElem?_cons_zero, List.getElem?_cons_succ]; rfl) (by kernel_rfl) (by kernel_rfl) (by kernel_rfl) (Or.inl ⟨by rfl, ?dy195⟩) ?dr195
          case dy195 => (intro w hSw; have hS0 := hSw; (try dsimp only [RWS] at hSw); go_simp; refine Came.value ?_ hS0; with_reducible rfl)
          try simp only [Act.put, List.setIfInBounds_toArray, List.set_cons_zero, List.set_cons_succ]
          refine wpDet_take (i := 13) (oi := _) (v := ?dv196) (by simp only [List.getElem?_toArray, List.getElem?_cons_zero, List.getElem?_cons_succ]; rfl) (by kernel_rfl) (by kernel_rfl) (by kernel_rfl) (Or.inl ⟨by rfl, ?dy196⟩) ?dr196
          case dy196 => (intro w hSw; go_simp; exact Came.call ((HV.out w).mono fun e w' ⟨he, hf⟩ => ⟨he, hSw.fr hf⟩) (by with_reducible rfl))
          try simp only [Act.put, List.setIfInBounds_toArray, List.set_cons_zero, List.set_cons_succ]
          refine wpDet_take (i := 14) (oi := _) (v := ?dv197) (by simp only [List.getElem?_toArray, List.getElem?_cons_zero, List.getElem?_cons_succ]; rfl) (by kernel_rfl) (by kernel_rfl) (by kernel_rfl) (Or.inl ⟨by rfl, ?dy197⟩) ?dr197
          case dy197 => (intro w hSw; have hS0 := hSw; (try dsimp only [RWS] at hSw); go_simp; refine Came.value ?_ hS0; with_reducible rfl)
          try simp only [Act.put, List.setIfInBounds_toArray, List.set_cons_zero, List.set_cons_succ]
          refine wpDet_take (i := 15) (oi := _) (v := ?dv198) (by simp only [List.getElem?_toArray, List.getElem?_cons_zero, List.getElem?_cons_succ]; rfl) (by kernel_rfl) (by kernel_rfl) (by kernel_rfl) (Or.inl ⟨by rfl, ?dy198⟩) ?dr198
          case dy198 => (intro w hSw; have hS0 := hSw; (try dsimp only [RWS] at hSw); go_simp; refine Came.value ?_ hS0; with_reducible rfl)
          try simp only [Act.put, List.setIfInBounds_toArray, List.set_cons_zero, List.set_cons_succ]
          refine wpDet_take (i := 16) (oi := _) (v := ?dv199) (by simp only [List.getElem?_toArray, List.getElem?_cons_zero, List.getElem?_cons_succ]; rfl) (by kernel_rfl) (by kernel_rfl) (by kernel_rfl) (Or.inl ⟨by rfl, ?dy199⟩) ?dr199
          case dy199 => (intro w hSw; have hS0 := hSw; (try dsimp only [RWS] at hSw); go_simp; refine Came.value ?_ hS0; with_reducible rfl)
          try simp only [Act.put, List.setIfInBounds_toArray, List.set_cons_zero, List.set_cons_succ]
          refine wpDet_take (i := 17) (oi := _) (v := ?dv200) (by simp only [List.getElem?_toArray, List.getElem?_cons_zero, List.getElem?_cons_succ]; rfl) (by kernel_rfl) (by kernel_rfl) (by kernel_rfl) (Or.inl ⟨by rfl, ?dy200⟩) ?dr200
          case dy200 => (intro w hSw; have hS0 := hSw; (try dsimp only [RWS] at hSw); go_simp; refine Came.value ?_ hS0; with_reducible rfl)
          try simp only [Act.put, List.setIfInBounds_toArray, List.set_cons_zero, List.set_cons_succ]
          refine wpDet_take (i := 18) (oi := _) (v := ?dv201) (by simp only [List.getElem?_toArray, List.getElem?_cons_zero, List.getElem?_cons_succ]; rfl) (by kernel_rfl) (by kernel_rfl) (by kernel_rfl) (Or.inl ⟨by rfl, ?dy201⟩) ?dr201
          case dy201 => (intro w hSw; have hS0 := hSw; (try dsimp only [RWS] at hSw); go_simp; refine Came.value ?_ hS0; with_reducible rfl)
          try simp only [Act.put, List.setIfInBounds_toArray, List.set_cons_zero, List.set_cons_succ]
          refine wpDet_take (i := 19) (oi := _) (v := ?dv202) (by simp only [List.getElem?_toArray, List.getElem?_cons_zero, List.getElem?_cons_succ]; rfl) (by kernel_rfl) (by kernel_rfl) (by kernel_rfl) (Or.inl ⟨by rfl, ?dy202⟩) ?dr202
          case dy202 => (intro w hSw; have hS0 := hSw; (try dsimp only [RWS] at hSw); go_simp; refine Came.value ?_ hS0; with_reducible rfl)
          try simp only [Act.put, List.setIfInBounds_toArray, List.set_cons_zero, List.set_cons_succ]
          refine wpDet_take (i := 20) (oi := _) (v := ?dv203) (by simp only [List.getElem?_toArray, List.getElem?_cons_zero, List.getElem?_cons_succ]; rfl) (by kernel_rfl) (by kernel_rfl) (by kernel_rfl) (Or.inl ⟨by rfl, ?dy203⟩) ?dr203
          case dy203 => (intro w hSw; have hS0 := hSw; (try dsimp only [RWS] at hSw); go_simp; refine Came.value ?_ hS0; with_reducible rfl)
          try simp only [Act.put, List.setIfInBounds_toArray, List.set_cons_zero, List.set_cons_succ]
          refine wpDet_take (i := 21) (oi := _) (v := ?dv204) (by simp only [List.getElem?_toArray, List.getElem?_cons_zero, List.getElem?_cons_succ]; rfl) (by kernel_rfl) (by kernel_rfl) (by kernel_rfl) (Or.inl ⟨by rfl, ?dy204⟩) ?dr204
          case dy204 => (intro w hSw; have hS0 := hSw; (try dsimp only [RWS] at hSw); go_simp; refine Came.value ?_ hS0; with_reducible rfl)
          try simp only [Act.put, List.setIfInBounds_toArray, List.set_cons_zero, List.set_cons_succ]
          refine wpDet_take (i := 22) (oi := _) (v := ?dv205) (by simp only [List.getElem?_toArray, List.getElem?_cons_zero, List.getElem?_cons_succ]; rfl) (by kernel_rfl) (by kernel_rfl) (by kernel_rfl) (Or.inl ⟨by rfl, ?dy205⟩) ?dr205
          case dy205 => (intro w hSw; have hS0 := hSw; (try dsimp only [RWS] at hSw); go_simp; refine Came.value ?_ hS0; with_reducible rfl)
          try simp only [Act.put, List.setIfInBounds_toArray, List.set_cons_zero, List.set_cons_succ]
          refine wpDet_take (i := 23) (oi := _) (v := ?dv206) (by simp only [List.getElem?_toArray, List.getElem?_cons_zero, List.getElem?_cons_succ]; rfl) (by kernel_rfl) (by kernel_rfl) (by kernel_rfl) (Or.inl ⟨by rfl, ?dy206⟩) ?dr206
          case dy206 => (intro w hSw; have hS0 := hSw; (try dsimp only [RWS] at hSw); go_simp; refine Came.value ?_ hS0; with_reducible rfl)
          try simp only [Act.put, List.setIfInBounds_toArray, List.set_cons_zero, List.set_cons_succ]
          refine wpDet_take (i := 24) (oi := _) (v := ?dv207) (by simp only [List.getElem?_toArray, List.getElem?_cons_zero, List.getElem?_cons_succ]; rfl) (by kernel_rfl) (by kernel_rfl) (by kernel_rfl) (Or.inl ⟨by rfl, ?dy207⟩) ?dr207
          case dy207 => (intro w hSw; have hS0 := hSw; (try dsimp only [RWS] at hSw); go_simp; refine Came.value ?_ hS0; with_reducible rfl)
          try simp only [Act.put, List.setIfInBounds_toArray, List.set_cons_zero, List.set_cons_succ]
          refine wpDet_take (i := 25) (oi := _) (v := ?dv208) (by simp only [List.getElem?_toArray, List.getElem?_cons_zero, List.getElem?_cons_succ]; rfl) (by kernel_rfl) (by kernel_rfl) (by kernel_rfl) (Or.inl ⟨by rfl, ?dy208⟩) ?dr208
          case dy208 => (intro w hSw; have hS0 := hSw; (try dsimp only [RWS] at hSw); go_simp; refine Came.value ?_ hS0; with_reducible rfl)
          try simp only [Act.put, List.setIfInBounds_toArray, List.set_cons_zero, List.set_cons_succ]
          refine wpDet_done (by kernel_rfl) ?_ _
          rintro w2 hS2
          obtain ⟨hF, _⟩ := hS2
          go_wp2
          go_ret
          exact ⟨rfl, hF⟩
    · rw [decide_eq_false hin, Bool.false_and] at hb
      subst hb
      have HA := Lib.hid (fun W hW => among_any (.slice am nm cm) ms to W hW false (by rw [decide_eq_false hin]))
      clear hin
      go_enter Try.func19, Try.ntmps19
      go_wp2
      refine wp_region_det (S := RWS w w.heap.size p ⟨sc, sf, sh, sfl⟩ ⟨rc, rf, rh, ms⟩ (.slice am nm cm) (.slice a1 n1 c1)) (by kernel_rfl) HS.out ?_
      refine wpDet_take (i := 0) (oi := _) (v := ?dv209) (by simp only [List.getElem?_toArray, List.getElem?_cons_zero]; rfl) (by kernel_rfl) (by kernel_rfl) (by kernel_rfl) (Or.inl ⟨by rfl, ?dy209⟩) ?dr209
      case dy209 => (intro w hSw; have hS0 := hSw; (try dsimp only [RWS] at hSw); go_simp; refine Came.value ?_ hS0; with_reducible rfl)
      try simp only [Act.put, List.setIfInBounds_toArray, List.set_cons_zero, List.set_cons_succ]
      refine wpDet_take (i := 1) (oi := _) (v := ?dv210) (by simp only [List.getElem?_toArray, List.getElem?_cons_zero, List.getElem?_cons_succ]; rfl) (by kernel_rfl) (by kernel_rfl) (by kernel_rfl) (Or.inl ⟨by rfl, ?dy210⟩) ?dr210
      case dy210 => (intro w hSw; have hS0 := hSw; (try dsimp only [RWS] at hSw); go_simp; refine Came.value ?_ hS0; with_reducible rfl)
      try simp only [Act.put, List.setIfInBounds_toArray, List.set_cons_zero, List.set_cons_succ]
      refine wpDet_take (i := 2) (oi := _) (v := ?dv211) (by simp only [List.getElem?_toArray, List.getElem?_cons_zero, List.getElem?_cons_succ]; rfl) (by kernel_rfl) (by kernel_rfl) (by kernel_rfl) (Or.inl ⟨by rfl, ?dy211⟩) ?dr211
      case dy211 => (intro w hSw; have hS0 := hSw; (try dsimp only [RWS] at hSw); go_simp; refine Came.value ?_ hS0; with_reducible rfl)
      try simp only [Act.put, List.setIfInBounds_toArray, List.set_cons_zero, List.set_cons_succ]
      refine wpDet_take (i := 3) (oi := _) (v := ?dv212) (by simp only [List.getElem?_toArray, List.getElem?_cons_zero, List.getElem?_cons_succ]; rfl) (by kernel_rfl) (by kernel_rfl) (by kernel_rfl) (Or.inl ⟨by rfl, ?dy212⟩) ?dr212
      case dy212 => (intro w hSw; have hS0 := hSw; (try dsimp only [RWS] at hSw); go_simp; refine Came.value ?_ hS0; with_reducible rfl)
      try simp only [Act.put, List.setIfInBounds_toArray, List.set_cons_zero, List.set_cons_succ]
      refine wpDet_take (i := 4) (oi := _) (v := ?dv213) (by simp only [List.getElem?_toArray, List.getElem?_cons_zero, List.getElem?_cons_succ]; rfl) (by kernel_rfl) (by kernel_rfl) (by kernel_rfl) (Or.inl ⟨by rfl, ?dy213⟩) ?dr213
      case dy213 => (intro w hSw; have hS0 := hSw; (try dsimp only [RWS] at hSw); go_simp; refine Came.value ?_ hS0; with_reducible rfl)
      try simp only [Act.put, List.setIfInBounds_toArray, List.set_cons_zero, List.set_cons_succ]
      refine wpDet_take (i := 5) (oi := _) (v := ?dv214) (by simp only [List.getElem?_toArray, List.getElem?_cons_zero, List.getElem?_cons_succ]; rfl) (by kernel_rfl) (by kernel_rfl) (by kernel_rfl) (Or.inl ⟨by rfl, ?dy214⟩) ?dr214
      case dy214 => (intro w hSw; have hS0 := hSw; (try dsimp only [RWS] at hSw); go_simp; refine Came.value ?_ hS0; with_reducible rfl)
      try simp only [Act.put, List.setIfInBounds_toArray, List.set_cons_zero, List.set_cons_succ]
      refine wpDet_take (i := 6) (oi := _) (v := ?dv215) (by simp only [List.getElem?_toArray, List.getElem?_cons_zero, List.getElem?_cons_succ]; rfl) (by kernel_rfl) (by kernel_rfl) (by kernel_rfl) (Or.inl ⟨by rfl, ?dy215⟩) ?dr215
      case dy215 => (intro w hSw; have hS0 := hSw; (try dsimp only [RWS] at hSw); go_simp; refine Came.value ?_ hS0; with_reducible rfl)
      try simp only [Act.put, List.setIfInBounds_toArray, List.set_cons_zero, List.set_cons_succ]
      refine wpDet_take (i := 7) (oi := _) (v := ?dv216) (by simp only [List.getElem?_toArray, List.getElem?_cons_zero, List.getElem?_cons_succ]; rfl) (by kernel_rfl) (by kernel_rfl) (by kernel_rfl) (Or.inl ⟨by rfl, ?dy216⟩) ?dr216
      case dy216 => (intro w hSw; go_simp; exact Came.call ((HA.out w hSw.2.2.2.1).mono fun e w' ⟨he, hw⟩ => ⟨he, hw ▸ hSw⟩) (by with_reducible rfl))
      try simp only [Act.put, List.setIfInBounds_toArray, List.set_cons_zero, List.set_cons_succ]
      refine wpDet_take (i := 8) (oi := _) (v := ?dv217) (by simp only [List.getElem?_toArray, List.getElem?_cons_zero, List.getElem?_cons_succ]; rfl) (by kernel_rfl) (by kernel_rfl) (by kernel_rfl) (Or.inl ⟨by rfl, ?dy217⟩) ?dr217
      case dy217 => (intro w hSw; have hS0 := hSw; (try dsimp only [RWS] at hSw); go_simp; refine Came.value ?_ hS0; with_reducible rfl)
      try simp only [Act.put, List.setIfInBounds_toArray, List.set_cons_zero, List.set_cons_succ]
      refine wpDet_take (i := 9) (oi := _) (v := ?dv218) (by simp only [List.getElem?_toArray, List.getElem?_cons_zero, List.getElem?_cons_succ]; rfl) (by kernel_rfl) (by kernel_rfl) (by kernel_rfl) (Or.inl ⟨by rfl, ?dy218⟩) ?dr218
      case dy218 => (intro w hSw; have hS0 := hSw; (try dsimp only [RWS] at hSw); go_simp; refine Came.value ?_ hS0; with_reducible rfl)
      try simp only [Act.put, List.setIfInBounds_toArray, List.set_cons_zero, List.set_cons_succ]
      refine wpDet_take (i := 10) (oi := _) (v := ?dv219) (by simp only [List.getElem?_toArray, List.getElem?_cons_zero, List.getElem?_cons_succ]; rfl) (by kernel_rfl) (by kernel_rfl) (by kernel_rfl) (Or.inl ⟨by rfl, ?dy219⟩) ?dr219
      case dy219 => (intro w hSw; have hS0 := hSw; (try dsimp only [RWS] at hSw); go_simp; refine Came.value ?_ hS0; with_reducible rfl)
      try simp only [Act.put, List.setIfInBounds_toArray, List.set_cons_zero, List.set_cons_succ]
      refine wpDet_take (i := 11) (oi := _) (v := undef) (by simp only [List.getElem?_toArray, List.getElem?_cons_zero, List.getElem?_cons_succ]; rfl) (by kernel_rfl) (by kernel_rfl) (by kernel_rfl) (Or.inr ⟨by rfl, rfl⟩) ?_
      try simp only [Act.put, List.setIfInBounds_toArray, List.set_cons_zero, List.set_cons_succ]
      refine wpDet_take (i := 12) (oi := _) (v := undef) (by simp only [List.getElem?_toArray, List.getElem?_cons_zero, List.getElem?_cons_succ]; rfl) (by kernel_rfl) (by kernel_rfl) (by kernel_rfl) (Or.inr ⟨by rfl, rfl⟩) ?_
      try simp only [Act.put, List.setIfInBounds_toArray, List.set_cons_zero, List.set_cons_succ]
      refine wpDet_take (i := 13) (oi := _) (v := undef) (by simp only [List.getElem?_toArray, List.getElem?_cons_zero, List.getElem?_cons_succ]; rfl) (by kernel_rfl) (by kernel_rfl) (by kernel_rfl) (Or.inr ⟨by rfl, rfl⟩) ?_
      try simp only [Act.put, List.setIfInBounds_toArray, List.set_cons_zero, List.set_cons_succ]
      refine wpDet_take (i := 14) (oi := _) (v := undef) (by simp only [List.getElem?_toArray, List.getElem?_cons_zero, List.getElem?_cons_succ]; rfl) (by kernel_rfl) (by kernel_rfl) (by kernel_rfl) (Or.inr ⟨by rfl, rfl⟩) ?_
      try simp only [Act.put, List.setIfInBounds_toArray, List.set_cons_zero, List.set_cons_succ]
      refine wpDet_take (i := 15) (oi := _) (v := ?dv224) (by simp only [List.getElem?_toArray, List.getElem?_cons_zero, List.getElem?_cons_succ]; rfl) (by kernel_rfl) (by kernel_rfl) (by kernel_rfl) (Or.inl ⟨by rfl, ?dy224⟩) ?dr224
      case dy224 => (intro w hSw; have hS0 := hSw; (try dsimp only [RWS] at hSw); go_simp; refine Came.value ?_ hS0; with_reducible rfl)
      try simp only [Act.put, List.setIfInBounds_toArray, List.set_cons_zero, List.set_cons_succ]
      refine wpDet_take (i := 16) (oi := _) (v := ?dv225) (by simp only [List.getElem?_toArray, List.getElem?_cons_zero, List.getElem?_cons_succ]; rfl) (by kernel_rfl) (by kernel_rfl) (by kernel_rfl) (Or.inl ⟨by rfl, ?dy225⟩) ?dr225
      case dy225 => (intro w hSw; have hS0 := hSw; (try dsimp only [RWS] at hSw); go_simp; refine Came.value ?_ hS0; with_reducible rfl)
      try simp only [Act.put, List.setIfInBounds_toArray, List.set_cons_zero, List.set_cons_succ]
      refine wpDet_take (i := 17) (oi := _) (v := undef) (by simp only [List.getElem?_toArray, List.getElem?_cons_zero, List.getElem?_cons_succ]; rfl) (by kernel_rfl) (by kernel_rfl) (by kernel_rfl) (Or.inr ⟨by rfl, rfl⟩) ?_
      try simp only [Act.put, List.setIfInBounds_toArray, List.set_cons_zero, List.set_cons_succ]
      refine wpDet_take (i := 18) (oi := _) (v := undef) (by simp only [List.getElem?_toArray, List.getElem?_cons_zero, List.getElem?_cons_succ]; rfl) (by kernel_rfl) (by kernel_rfl) (by kernel_rfl) (Or.inr ⟨by rfl, rfl⟩) ?_
      try simp only [Act.put, List.setIfInBounds_toArray, List.set_cons_zero, List.set_cons_succ]
      refine wpDet_take (i := 19) (oi := _) (v := undef) (by simp only [List.getElem?_toArray, List.getElem?_cons_zero, List.getElem?_cons_succ]; rfl) (by kernel_rfl) (by kernel_rfl) (by kernel_rfl) (Or.inr ⟨by rfl, rfl⟩) ?_
      try simp only [Act.put, List.setIfInBounds_toArray, List.set_cons_zero, List.set_cons_succ]
      refine wpDet_take (i := 20) (oi := _) (v := undef) (by simp only [List.getElem?_toArray, List.getElem?_cons_zero, List.getElem?_cons_succ]; rfl) (by kernel_rfl) (by kernel_rfl) (by kernel_rfl) (Or.inr ⟨by rfl, rfl⟩) ?_
      try simp only [Act.put, List.setIfInBounds_toArray, List.set_cons_zero, List.set_cons_succ]
      refine wpDet_take (i := 21) (oi := _) (v := undef) (by simp only [List.getElem?_toArray, List.getElem?_cons_zero, List.getElem?_cons_succ]; rfl) (by kernel_rfl) (by kernel_rfl) (by kernel_rfl) (Or.inr ⟨by rfl, rfl⟩) ?_
      try simp only [Act.put, List.setIfInBounds_toArray, List.set_cons_zero, List.set_cons_succ]
      refine wpDet_take (i := 22) (oi := _) (v := undef) (by simp only [List.getElem?_toArray, List.getElem?_cons_zero, List.getElem?_cons_succ]; rfl) (by kernel_rfl) (by kernel_rfl) (by kernel_rfl) (Or.inr ⟨by rfl, rfl⟩) ?_
      try simp only [Act.put, List.setIfInBounds_toArray, List.set_cons_zero, List.set_cons_succ]
      refine wpDet_take (i := 23) (oi := _) (v := undef) (by simp only [List.getElem?_toArray, List.getElem?_cons_zero, List.getElem?_cons_succ]; rfl) (by kernel_rfl) (by kernel_rfl) (by kernel_rfl) (Or.inr ⟨by rfl, rfl⟩) ?_
      try simp only [Act.put, List.setIfInBounds_toArray, List.set_cons_zero, List.set_cons_succ]
      refine wpDet_take (i := 24) (oi := _) (v := undef) (by simp only [List.getElem?_toArray, List.getElem?_cons_zero, List.getElem?_cons_succ]; rfl) (by kernel_rfl) (by kernel_rfl) (by kernel_rfl) (Or.inr ⟨by rfl, rfl⟩) ?_
      try simp only [Act.put, List.setIfInBounds_toArray, List.set_cons_zero, List.set_cons_succ]
      refine wpDet_take (i := 25) (oi := _) (v := ?dv234) (by simp only [List.getElem?_toArray, List.getElem?_cons_zero, List.getElem?_cons_succ]; rfl) (by kernel_rfl) (by kernel_rfl) (by kernel_rfl) (Or.inl ⟨by rfl, ?dy234⟩) ?dr234
      case dy234 => (intro w hSw; have hS0 := hSw; (try dsimp only [RWS] at hSw); go_simp; refine Came.value ?_ hS0; with_reducible rfl)
      try simp only [Act.put, List.setIfInBounds_toArray, List.set_cons_zero, List.set_cons_succ]
      refine wpDet_done (by kernel_rfl) ?_ _
      rintro w2 hS2
      obtain ⟨hF, _⟩ := hS2
      go_wp2
      go_ret
      exact ⟨rfl, hF⟩
  · have hne : (to != car) = true := by simp [hto]
    rw [decide_eq_false hto, Bool.false_and] at hb
    subst hb
    clear hto
    go_enter Try.func19, Try.ntmps19
    go_wp2
    refine wp_region_det (S := RWS w w.heap.size p ⟨sc, sf, sh, sfl⟩ ⟨rc, rf, rh, ms⟩ (.slice am nm cm) (.slice a1 n1 c1)) (by kernel_rfl) HS.out ?_
    refine wpDet_take (i := 0) (oi := _) (v := ?dv235) (by simp only [List.getElem?_toArray, List.getElem?_cons_zero]; rfl) (by kernel_rfl) (by kernel_rfl) (by kernel_rfl) (Or.inl ⟨by rfl, ?dy235⟩) ?dr235
    case dy235 => (intro w hSw; have hS0 := hSw; (try dsimp only [RWS] at hSw); go_simp; refine Came.value ?_ hS0; with_reducible rfl)
    try simp only [Act.put, List.setIfInBounds_toArray, List.set_cons_zero, List.set_cons_succ]
    refine wpDet_take (i := 1) (oi := _) (v := ?dv236) (by simp only [List.getElem?_toArray, List.getElem?_cons_zero, List.getElem?_cons_succ]; rfl) (by kernel_rfl) (by kernel_rfl) (by kernel_rfl) (Or.inl ⟨by rfl, ?dy236⟩) ?dr236
    case dy236 => (intro w hSw; have hS0 := hSw; (try dsimp only [RWS] at hSw); go_simp; refine Came.value ?_ hS0; with_reducible rfl)
    try simp only [Act.put, List.setIfInBounds_toArray, List.set_cons_zero, List.set_cons_succ]
    refine wpDet_take (i := 2) (oi := _) (v := ?dv237) (by simp only [List.getElem?_toArray, List.getElem?_cons_zero, List.getElem?_cons_succ]; rfl) (by kernel_rfl) (by kernel_rfl) (by kernel_rfl) (Or.inl ⟨by rfl, ?dy237⟩) ?dr237
    case dy237 => (intro w hSw; have hS0 := hSw; (try dsimp only [RWS] at hSw); go_simp; refine Came.value ?_ hS0; with_reducible rfl)
    try simp only [Act.put, List.setIfInBounds_toArray, List.set_cons_zero, List.set_cons_succ]
    refine wpDet_take (i := 3) (oi := _) (v := ?dv238) (by simp only [List.getElem?_toArray, List.getElem?_cons_zero, List.getElem?_cons_succ]; rfl) (by kernel_rfl) (by kernel_rfl) (by kernel_rfl) (Or.inl ⟨by rfl, ?dy238⟩) ?dr238
    case dy238 => (intro w hSw; have hS0 := hSw; (try dsimp only [RWS] at hSw); go_simp; refine Came.value ?_ hS0; with_reducible rfl)
    try simp only [Act.put, List.setIfInBounds_toArray, List.set_cons_zero, List.set_cons_succ]
    refine wpDet_take (i := 4) (oi := _) (v := undef) (by simp only [List.getElem?_toArray, List.getElem?_cons_zero, List.getElem?_cons_succ]; rfl) (by kernel_rfl) (by kernel_rfl) (by kernel_rfl) (Or.inr ⟨by rfl, rfl⟩) ?_
    try simp only [Act.put, List.setIfInBounds_toArray, List.set_cons_zero, List.set_cons_succ]
    refine wpDet_take (i := 5) (oi := _) (v := undef) (by simp only [List.getElem?_toArray, List.getElem?_cons_zero, List.getElem?_cons_succ]; rfl) (by kernel_rfl) (by kernel_rfl) (by kernel_rfl) (Or.inr ⟨by rfl, rfl⟩) ?_
    try simp only [Act.put, List.setIfInBounds_toArray, List.set_cons_zero, List.set_cons_succ]
    refine wpDet_take (i := 6) (oi := _) (v := undef) (by simp only [List.getElem?_toArray, List.getElem?_cons_zero, List.getElem?_cons_succ]; rfl) (by kernel_rfl) (by kernel_rfl) (by kernel_rfl) (Or.inr ⟨by rfl, rfl⟩) ?_
    try simp only [Act.put, List.setIfInBounds_toArray, List.set_cons_zero, List.set_cons_succ]
    refine wpDet_take (i := 7) (oi := _) (v := undef) (by simp only [List.getElem?_toArray, List.getElem?_cons_zero, List.getElem?_cons_succ]; rfl) (by kernel_rfl) (by kernel_rfl) (by kernel_rfl) (Or.inr ⟨by rfl, rfl⟩) ?_
    try simp only [Act.put, List.setIfInBounds_toArray, List.set_cons_zero, List.set_cons_succ]
    refine wpDet_take (i := 8) (oi := _) (v := undef) (by simp only [List.getElem?_toArray, List.getElem?_cons_zero, List.getElem?_cons_succ]; rfl) (by kernel_rfl) (by kernel_rfl) (by kernel_rfl) (Or.inr ⟨by rfl, rfl⟩) ?_
    try simp only [Act.put, List.setIfInBounds_toArray, List.set_cons_zero, List.set_cons_succ]
    refine wpDet_take (i := 9) (oi := _) (v := ?dv244) (by simp only [List.getElem?_toArray, List.getElem?_cons_zero, List.getElem?_cons_succ]; rfl) (by kernel_rfl) (by kernel_rfl) (by kernel_rfl) (Or.inl ⟨by rfl, ?dy244⟩) ?dr244
    case dy244 => (intro w hSw; have hS0 := hSw; (try dsimp only [RWS] at hSw); go_simp; refine Came.value ?_ hS0; with_reducible rfl)
    try simp only [Act.put, List.setIfInBounds_toArray, List.set_cons_zero, List.set_cons_succ]
    refine wpDet_take (i := 10) (oi := _) (v := ?dv245) (by simp only [List.getElem?_toArray, List.getElem?_cons_zero, List.getElem?_cons_succ]; rfl) (by kernel_rfl) (by kernel_rfl) (by kernel_rfl) (Or.inl ⟨by rfl, ?dy245⟩) ?dr245
    case dy245 => (intro w hSw; have hS0 := hSw; (try dsimp only [RWS] at hSw); go_simp; refine Came.value ?_ hS0; with_reducible rfl)
    try simp only [Act.put, List.setIfInBounds_toArray, List.set_cons_zero, List.set_cons_succ]
    refine wpDet_take (i := 11) (oi := _) (v := undef) (by simp only [List.getElem?_toArray, List.getElem?_cons_zero, List.getElem?_cons_succ]; rfl) (by kernel_rfl) (by kernel_rfl) (by kernel_rfl) (Or.inr ⟨by rfl, rfl⟩) ?_
    try simp only [Act.put, List.setIfInBounds_toArray, List.set_cons_zero, List.set_cons_succ]
    refine wpDet_take (i := 12) (oi := _) (v := undef) (by simp only [List.getElem?_toArray, List.getElem?_cons_zero, List.getElem?_cons_succ]; rfl) (by kernel_rfl) (by kernel_rfl) (by kernel_rfl) (Or.inr ⟨by rfl, rfl⟩) ?_
    try simp only [Act.put, List.setIfInBounds_toArray, List.set_cons_zero, List.set_cons_succ]
    refine wpDet_take (i := 13) (oi := _) (v := undef) (by simp only [List.getElem?_toArray, List.getElem?_cons_zero, List.getElem?_cons_succ]; rfl) (by kernel_rfl) (by kernel_rfl) (by kernel_rfl) (Or.inr ⟨by rfl, rfl⟩) ?_
    try simp only [Act.put, List.setIfInBounds_toArray, List.set_cons_zero, List.set_cons_succ]
    refine wpDet_take (i := 14) (oi := _) (v := undef) (by simp only [List.getElem?_toArray, List.getElem?_cons_zero, List.getElem?_cons_succ]; rfl) (by kernel_rfl) (by kernel_rfl) (by kernel_rfl) (Or.inr ⟨by rfl, rfl⟩) ?_
    try simp only [Act.put, List.setIfInBounds_toArray, List.set_cons_zero, List.set_cons_succ]
    refine wpDet_take (i := 15) (oi := _) (v := ?dv250) (by simp only [List.getElem?_toArray, List.getElem?_cons_zero, List.getElem?_cons_succ]; rfl) (by kernel_rfl) (by kernel_rfl) (by kernel_rfl) (Or.inl ⟨by rfl, ?dy250⟩) ?dr250
    case dy250 => (intro w hSw; have hS0 := hSw; (try dsimp only [RWS] at hSw); go_simp; refine Came.value ?_ hS0; with_reducible rfl)
    try simp only [Act.put, List.setIfInBounds_toArray, List.set_cons_zero, List.set_cons_succ]
    refine wpDet_take (i := 16) (oi := _) (v := ?dv251) (by simp only [List.getElem?_toArray, List.getElem?_cons_zero, List.getElem?_cons_succ]; rfl) (by kernel_rfl) (by kernel_rfl) (by kernel_rfl) (Or.inl ⟨by rfl, ?dy251⟩) ?dr251
    case dy251 => (intro w hSw; have hS0 := hSw; (try dsimp only [RWS] at hSw); go_simp; refine Came.value ?_ hS0; with_reducible rfl)
    try simp only [Act.put, List.setIfInBounds_toArray, List.set_cons_zero, List.set_cons_succ]
    refine wpDet_take (i := 17) (oi := _) (v := undef) (by simp only [List.getElem?_toArray, List.getElem?_cons_zero, List.getElem?_cons_succ]; rfl) (by kernel_rfl) (by kernel_rfl) (by kernel_rfl) (Or.inr ⟨by rfl, rfl⟩) ?_
    try simp only [Act.put, List.setIfInBounds_toArray, List.set_cons_zero, List.set_cons_succ]
    refine wpDet_take (i := 18) (oi := _) (v := undef) (by simp only [List.getElem?_toArray, List.getElem?_cons_zero, List.getElem?_cons_succ]; rfl) (by kernel_rfl) (by kernel_rfl) (by kernel_rfl) (Or.inr ⟨by rfl, rfl⟩) ?_
    try simp only [Act.put, List.setIfInBounds_toArray, List.set_cons_zero, List.set_cons_succ]
    refine wpDet_take (i := 19) (oi := _) (v := undef) (by simp only [List.getElem?_toArray, List.getElem?_cons_zero, List.getElem?_cons_succ]; rfl) (by kernel_rfl) (by kernel_rfl) (by kernel_rfl) (Or.inr ⟨by rfl, rfl⟩) ?_
    try simp only [Act.put, List.setIfInBounds_toArray, List.set_cons_zero, List.set_cons_succ]
    refine wpDet_take (i := 20) (oi := _) (v := undef) (by simp only [List.getElem?_toArray, List.getElem?_cons_zero, List.getElem?_cons_succ]; rfl) (by kernel_rfl) (by kernel_rfl) (by kernel_rfl) (Or.inr ⟨by rfl, rfl⟩) ?_
    try simp only [Act.put, List.setIfInBounds_toArray, List.set_cons_zero, List.set_cons_succ]
    refine wpDet_take (i := 21) (oi := _) (v := undef) (by simp only [List.getElem?_toArray, List.getElem?_cons_zero, List.getElem?_cons_succ]; rfl) (by kernel_rfl) (by kernel_rfl) (by kernel_rfl) (Or.inr ⟨by rfl, rfl⟩) ?_
    try simp only [Act.put, List.setIfInBounds_toArray, List.set_cons_zero, List.set_cons_succ]
    refine wpDet_take (i := 22) (oi := _) (v := undef) (by simp only [List.getElem?_toArray, List.getElem?_cons_zero, List.getElem?_cons_succ]; rfl) (by kernel_rfl) (by kernel_rfl) (by kernel_rfl) (Or.inr ⟨by rfl, rfl⟩) ?_
    try simp only [Act.put, List.setIfInBounds_toArray, List.set_cons_zero, List.set_cons_succ]
    refine wpDet_take (i := 23) (oi := _) (v := undef) (by simp only [List.getElem?_toArray, List.getElem?_cons_zero, List.getElem?_cons_succ]; rfl) (by kernel_rfl) (by kernel_rfl) (by kernel_rfl) (Or.inr ⟨by rfl, rfl⟩) ?_
    try simp only [Act.put, List.setIfInBounds_toArray, List.set_cons_zero, List.set_cons_succ]
    refine wpDet_take (i := 24) (oi := _) (v := undef) (by simp only [List.getElem?_toArray, List.getElem?_cons_zero, List.getElem?_cons_succ]; rfl) (by kernel_rfl) (by kernel_rfl) (by kernel_rfl) (Or.inr ⟨by rfl, rfl⟩) ?_
    try simp only [Act.put, List.setIfInBounds_toArray, List.set_cons_zero, List.set_cons_succ]
    refine wpDet_take (i := 25) (oi := _) (v := ?dv260) (by simp only [List.getElem?_toArray, List.getElem?_cons_zero, List.getElem?_cons_succ]; rfl) (by kernel_rfl) (by kernel_rfl) (by kernel_rfl) (Or.inl ⟨by rfl, ?dy260⟩) ?dr260
    case dy260 => (intro w hSw; have hS0 := hSw; (try dsimp only [RWS] at hSw); go_simp; refine Came.value ?_ hS0; with_reducible rfl)
    try simp only [Act.put, List.setIfInBounds_toArray, List.set_cons_zero, List.set_cons_succ]
    refine wpDet_done (by kernel_rfl) ?_ _
    rintro w2 hS2
    obtain ⟨hF, _⟩ := hS2
    go_wp2
    go_ret
    exact ⟨rfl, hF⟩
end Go.Proofs.Ytlkpgpiklfbacaa
