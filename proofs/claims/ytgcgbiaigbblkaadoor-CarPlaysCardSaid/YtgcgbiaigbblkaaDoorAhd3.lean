/- A call more. -/
import Derived.Test.YtgcgbiaigbblkaaDoorAhd2
import Derived.Test.YtgcgbiaigbblkaaDoorDetL
namespace Go.Proofs.YtgcgbiaigbblkaaDoor
open Go.RowKit

/-- Stops in a box, a call in the next, a result's cells behind them; in a world that came of W. -/
def PS (W : World) (T : TypeId) (p u d : Nat) (f e : Int) (a : World) : Prop := Fr W a [] ∧
  (a.cell? ⟨W.heap.size, 0, none⟩ = some (.int .u64 p) ∧ a.cell? ⟨W.heap.size, 1, none⟩ = some (.int .u64 u) ∧ a.cell? ⟨W.heap.size, 2, none⟩ = some (.int .u64 d)) ∧
  (a.cell? ⟨W.heap.size + 1, 0, none⟩ = some (.int .i64 f) ∧ a.cell? ⟨W.heap.size + 1, 1, none⟩ = some (.int .i64 e)) ∧
  a.heap[W.heap.size]? = some (.cells #[.int .u64 p, .int .u64 u, .int .u64 d] T (0, 0)) ∧
  a.heap[W.heap.size + 2]? = some (.cells #[.int .u64 0, .int .u64 0, .int .u64 0] T (0, 0))
theorem PS.fr {W : World} {T : TypeId} {p u d : Nat} {f e : Int} {a a' : World} (h : PS W T p u d f e a) (k : Fr a a' []) : PS W T p u d f e a' := by
  obtain ⟨h0, ⟨h1, h2, h3⟩, ⟨h4, h5⟩, h6, h7⟩ := h
  exact ⟨h0.trans k, ⟨k.cell h1 (by simp), k.cell h2 (by simp), k.cell h3 (by simp)⟩, ⟨k.cell h4 (by simp), k.cell h5 (by simp)⟩, k.heap h6 (by simp), k.heap h7 (by simp)⟩
theorem PS.new (w : World) (T : TypeId) (p u d : Nat) (f e : Int) : PS w T p u d f e (((w.alloc (.cells #[.int .u64 p, .int .u64 u, .int .u64 d] T)).alloc (.cells #[.int .i64 f, .int .i64 e] 62)).alloc (.cells #[.int .u64 0, .int .u64 0, .int .u64 0] T)) := by
  have a1 := heap_alloc_new w (.cells #[.int .u64 p, .int .u64 u, .int .u64 d] T)
  have f1 := Fr.alloc w (.cells #[.int .u64 p, .int .u64 u, .int .u64 d] T) []
  have s1 : (w.alloc (.cells #[.int .u64 p, .int .u64 u, .int .u64 d] T)).heap.size = w.heap.size + 1 := by simp
  generalize w.alloc (.cells #[.int .u64 p, .int .u64 u, .int .u64 d] T) = w1 at *
  have a2 := heap_alloc_new w1 (.cells #[.int .i64 f, .int .i64 e] 62)
  have f2 := Fr.alloc w1 (.cells #[.int .i64 f, .int .i64 e] 62) []
  have s2 : (w1.alloc (.cells #[.int .i64 f, .int .i64 e] 62)).heap.size = w1.heap.size + 1 := by simp
  generalize w1.alloc (.cells #[.int .i64 f, .int .i64 e] 62) = w2 at *
  have a3 := heap_alloc_new w2 (.cells #[.int .u64 0, .int .u64 0, .int .u64 0] T)
  have f3 := Fr.alloc w2 (.cells #[.int .u64 0, .int .u64 0, .int .u64 0] T) []
  rw [s2, s1] at a3
  rw [s1] at a2
  generalize w2.alloc (.cells #[.int .u64 0, .int .u64 0, .int .u64 0] T) = w3 at *
  have r1 := f3.heap (f2.heap a1 (by simp)) (by simp)
  have r2 := f3.heap a2 (by simp)
  exact ⟨(f1.trans f2).trans f3, arow r1, ⟨by rw [cell_of_row w3 _ 0 _ _ _ r2]; rfl, by rw [cell_of_row w3 _ 1 _ _ _ r2]; rfl⟩, r1, a3⟩
theorem aput0 {w : World} {g : Nat} {a b c : Value} {T : TypeId} (h : w.heap[g]? = some (.cells #[a, b, c] T (0, 0))) (x : Value) : (w.setCell ⟨g, 0, none⟩ x).heap[g]? = some (.cells #[x, b, c] T (0, 0)) := by rw [heap_setCell_same _ g 0 _ _ _ h]; rfl
theorem aput1 {w : World} {g : Nat} {a b c : Value} {T : TypeId} (h : w.heap[g]? = some (.cells #[a, b, c] T (0, 0))) (x : Value) : (w.setCell ⟨g, 1, none⟩ x).heap[g]? = some (.cells #[a, x, c] T (0, 0)) := by rw [heap_setCell_same _ g 1 _ _ _ h]; rfl
theorem aput2 {w : World} {g : Nat} {a b c : Value} {T : TypeId} (h : w.heap[g]? = some (.cells #[a, b, c] T (0, 0))) (x : Value) : (w.setCell ⟨g, 2, none⟩ x).heap[g]? = some (.cells #[a, b, x] T (0, 0)) := by rw [heap_setCell_same _ g 2 _ _ _ h]; rfl

set_option maxHeartbeats 1000000 in
set_option maxRecDepth 100000 in
theorem put_any (s : Sp) (f e : Int) (w : World) (h : s.ok) (r : Sp) (hr : r = s.put f e) : Calls Tryd.prog 25 #[s.v, .agg #[.int .i64 f, .int .i64 e]] w fun x w' => x = .returned r.v ∧ Fr w w' [] := by
  have BI := Lib.hid (fun W => bit_any f W)
  have ho := oneN_lt f
  obtain ⟨p, u, d⟩ := s
  obtain ⟨rp, ru, rd⟩ := r
  have HS := Lib.hid ((PS.new w 37 p u d f e).fr (Fr.drew _ []))
  have HS0 := Lib.hid (PS.new w 37 p u d f e)
  by_cases h1 : e = 1
  · have E1 := bits_or_u64_nat u (oneN f) h.u ho
    obtain ⟨rfl, rfl, rfl⟩ : p = rp ∧ u ||| oneN f = ru ∧ d = rd := by
      rw [Sp.put, if_pos h1] at hr
      simp only [Sp.mk.injEq] at hr
      exact ⟨hr.1.symm, hr.2.1.symm, hr.2.2.symm⟩
    subst h1
    clear hr h ho
    generalize oneN f = o at *
    dsimp only [Sp.v, Sp.box] at *
    go_enter Tryd.func25, Tryd.ntmps25
    obtain ⟨_, _, ⟨k0, k1⟩, _⟩ := HS0.out
    go_wp2
    refine wp_region_detL 7 (S := PS w 37 p u d f (1)) (by kernel_rfl) HS.out ?_
    refine wpDetL_take (j := 7) (by decide) (by kernel_rfl) (i := 0) (oi := _) (v := ?dv1) (by simp only [List.getElem?_toArray, List.getElem?_cons_zero]; rfl) (by kernel_rfl) (by kernel_rfl) (by kernel_rfl) (Or.inl ⟨by rfl, ?dy1⟩) ?dr1
    case dy1 => (intro w hSw; have hS0 := hSw; (try dsimp only [PS] at hSw); go_simp; refine Came.value ?_ hS0; with_reducible rfl)
    try simp only [Act.put, List.setIfInBounds_toArray, List.set_cons_zero, List.set_cons_succ]
    refine wpDetL_take (j := 7) (by decide) (by kernel_rfl) (i := 1) (oi := _) (v := ?dv2) (by simp only [List.getElem?_toArray, List.getElem?_cons_zero, List.getElem?_cons_succ]; rfl) (by kernel_rfl) (by kernel_rfl) (by kernel_rfl) (Or.inl ⟨by rfl, ?dy2⟩) ?dr2
    case dy2 => (intro w hSw; have hS0 := hSw; (try dsimp only [PS] at hSw); go_simp; refine Came.value ?_ hS0; with_reducible rfl)
    try simp only [Act.put, List.setIfInBounds_toArray, List.set_cons_zero, List.set_cons_succ]
    refine wpDetL_take (j := 7) (by decide) (by kernel_rfl) (i := 2) (oi := _) (v := ?dv3) (by simp only [List.getElem?_toArray, List.getElem?_cons_zero, List.getElem?_cons_succ]; rfl) (by kernel_rfl) (by kernel_rfl) (by kernel_rfl) (Or.inl ⟨by rfl, ?dy3⟩) ?dr3
    case dy3 => (intro w hSw; have hS0 := hSw; (try dsimp only [PS] at hSw); go_simp; refine Came.value ?_ hS0; with_reducible rfl)
    try simp only [Act.put, List.setIfInBounds_toArray, List.set_cons_zero, List.set_cons_succ]
    refine wpDetL_take (j := 7) (by decide) (by kernel_rfl) (i := 3) (oi := _) (v := ?dv4) (by simp only [List.getElem?_toArray, List.getElem?_cons_zero, List.getElem?_cons_succ]; rfl) (by kernel_rfl) (by kernel_rfl) (by kernel_rfl) (Or.inl ⟨by rfl, ?dy4⟩) ?dr4
    case dy4 => (intro w hSw; have hS0 := hSw; (try dsimp only [PS] at hSw); go_simp; refine Came.value ?_ hS0; with_reducible rfl)
    try simp only [Act.put, List.setIfInBounds_toArray, List.set_cons_zero, List.set_cons_succ]
    refine wpDetL_take (j := 7) (by decide) (by kernel_rfl) (i := 4) (oi := _) (v := ?dv5) (by simp only [List.getElem?_toArray, List.getElem?_cons_zero, List.getElem?_cons_succ]; rfl) (by kernel_rfl) (by kernel_rfl) (by kernel_rfl) (Or.inl ⟨by rfl, ?dy5⟩) ?dr5
    case dy5 => (intro w hSw; go_simp; exact Came.call ((BI.out w).mono fun e w' ⟨he, hw⟩ => ⟨he, hw ▸ hSw⟩) (by with_reducible rfl))
    try simp only [Act.put, List.setIfInBounds_toArray, List.set_cons_zero, List.set_cons_succ]
    refine wpDetL_take (j := 7) (by decide) (by kernel_rfl) (i := 5) (oi := _) (v := ?dv6) (by simp only [List.getElem?_toArray, List.getElem?_cons_zero, List.getElem?_cons_succ]; rfl) (by kernel_rfl) (by kernel_rfl) (by kernel_rfl) (Or.inl ⟨by rfl, ?dy6⟩) ?dr6
    case dy6 => (intro w hSw; have hS0 := hSw; (try dsimp only [PS] at hSw); go_simp; refine Came.value ?_ hS0; with_reducible rfl)
    try simp only [Act.put, List.setIfInBounds_toArray, List.set_cons_zero, List.set_cons_succ]
    refine wpDetL_take (j := 7) (by decide) (by kernel_rfl) (i := 6) (oi := _) (v := ?dv7) (by simp only [List.getElem?_toArray, List.getElem?_cons_zero, List.getElem?_cons_succ]; rfl) (by kernel_rfl) (by kernel_rfl) (by kernel_rfl) (Or.inl ⟨by rfl, ?dy7⟩) ?dr7
    case dy7 => (intro w hSw; have hS0 := hSw; (try dsimp only [PS] at hSw); go_simp; refine Came.value ?_ hS0; with_reducible rfl)
    try simp only [Act.put, List.setIfInBounds_toArray, List.set_cons_zero, List.set_cons_succ]
    refine wpDetL_last (oj := _) (by kernel_rfl) (by kernel_rfl) (by simp only [List.getElem?_toArray, List.getElem?_cons_zero, List.getElem?_cons_succ]; rfl) ?_
    intro w3 hS K hK
    obtain ⟨hF, ⟨c0, c1, c2⟩, ⟨k0, k1⟩, hR, hZ⟩ := hS
    have zb := fun i => frozen_of_row w3 _ i _ _ hR
    have zb0 := zb 0
    have zb1 := zb 1
    have zb2 := zb 2
    have hR2 := Lib.hid (aput1 hR (.int .u64 (((u ||| o : Nat)) : Int)))
    have FX := Fr.setCell w3 w.heap.size 1 (.int .u64 (((u ||| o : Nat)) : Int)) (S := [w.heap.size]) (by simp)
    have FS := Lib.hid (hF.new FX (by simp))
    have hZ2 := Lib.hid (FX.heap hZ (by simp))
    have m0 := Lib.hid (FX.cell k0 (by simp))
    have m1 := Lib.hid (FX.cell k1 (by simp))
    clear FX
    go_simp
    refine hK.out _ _ ?_
    clear hK zb hF hZ hR K zb0 zb1 zb2 c0 c1 c2 k0 k1
    generalize World.setCell w3 _ _ = w4 at *
    have k0 := m0.out
    have k1 := m1.out
    obtain ⟨c0, c1, c2⟩ := arow hR2.out
    obtain ⟨x0, x1, x2⟩ := arow hZ2.out
    have z := fun i => frozen_of_row w4 _ i _ _ hZ2.out
    have z0 := z 0
    have z1 := z 1
    have z2 := z 2
    have AF := Lib.hid (FS.out.new (aset_fr w4 (w.heap.size + 2) (.int .u64 (p : Int)) (.int .u64 (((u ||| o : Nat)) : Int)) (.int .u64 (d : Int))) (by simp))
    obtain ⟨y0, y1, y2⟩ := arow (aset hZ2.out (.int .u64 (p : Int)) (.int .u64 (((u ||| o : Nat)) : Int)) (.int .u64 (d : Int)))
    clear z
    go_wp2
    exact bodyPost_ret (v := .agg #[.int .u64 (p : Int), .int .u64 (((u ||| o : Nat)) : Int), .int .u64 (d : Int)]) (by simp [results, Tryd.results25, go_sem, y0, y1, y2]) rfl ⟨rfl, AF.out⟩
  · by_cases h2 : e = -1
    · have E1 := bits_or_u64_nat d (oneN f) h.d ho
      obtain ⟨rfl, rfl, rfl⟩ : p = rp ∧ u = ru ∧ d ||| oneN f = rd := by
        rw [Sp.put, if_neg h1, if_pos h2] at hr
        simp only [Sp.mk.injEq] at hr
        exact ⟨hr.1.symm, hr.2.1.symm, hr.2.2.symm⟩
      subst h2
      clear hr h ho h1
      generalize oneN f = o at *
      dsimp only [Sp.v, Sp.box] at *
      go_enter Tryd.func25, Tryd.ntmps25
      obtain ⟨_, _, ⟨k0, k1⟩, _⟩ := HS0.out
      go_wp2
      refine wp_region_detL 7 (S := PS w 37 p u d f (-1)) (by kernel_rfl) HS.out ?_
      refine wpDetL_take (j := 7) (by decide) (by kernel_rfl) (i := 0) (oi := _) (v := ?dv8) (by simp only [List.getElem?_toArray, List.getElem?_cons_zero]; rfl) (by kernel_rfl) (by kernel_rfl) (by kernel_rfl) (Or.inl ⟨by rfl, ?dy8⟩) ?dr8
      case dy8 => (intro w hSw; have hS0 := hSw; (try dsimp only [PS] at hSw); go_simp; refine Came.value ?_ hS0; with_reducible rfl)
      try simp only [Act.put, List.setIfInBounds_toArray, List.set_cons_zero, List.set_cons_succ]
      refine wpDetL_take (j := 7) (by decide) (by kernel_rfl) (i := 1) (oi := _) (v := ?dv9) (by simp only [List.getElem?_toArray, List.getElem?_cons_zero, List.getElem?_cons_succ]; rfl) (by kernel_rfl) (by kernel_rfl) (by kernel_rfl) (Or.inl ⟨by rfl, ?dy9⟩) ?dr9
      case dy9 => (intro w hSw; have hS0 := hSw; (try dsimp only [PS] at hSw); go_simp; refine Came.value ?_ hS0; with_reducible rfl)
      try simp only [Act.put, List.setIfInBounds_toArray, List.set_cons_zero, List.set_cons_succ]
      refine wpDetL_take (j := 7) (by decide) (by kernel_rfl) (i := 2) (oi := _) (v := ?dv10) (by simp only [List.getElem?_toArray, List.getElem?_cons_zero, List.getElem?_cons_succ]; rfl) (by kernel_rfl) (by kernel_rfl) (by kernel_rfl) (Or.inl ⟨by rfl, ?dy10⟩) ?dr10
      case dy10 => (intro w hSw; have hS0 := hSw; (try dsimp only [PS] at hSw); go_simp; refine Came.value ?_ hS0; with_reducible rfl)
      try simp only [Act.put, List.setIfInBounds_toArray, List.set_cons_zero, List.set_cons_succ]
      refine wpDetL_take (j := 7) (by decide) (by kernel_rfl) (i := 3) (oi := _) (v := ?dv11) (by simp only [List.getElem?_toArray, List.getElem?_cons_zero, List.getElem?_cons_succ]; rfl) (by kernel_rfl) (by kernel_rfl) (by kernel_rfl) (Or.inl ⟨by rfl, ?dy11⟩) ?dr11
      case dy11 => (intro w hSw; have hS0 := hSw; (try dsimp only [PS] at hSw); go_simp; refine Came.value ?_ hS0; with_reducible rfl)
      try simp only [Act.put, List.setIfInBounds_toArray, List.set_cons_zero, List.set_cons_succ]
      refine wpDetL_take (j := 7) (by decide) (by kernel_rfl) (i := 4) (oi := _) (v := ?dv12) (by simp only [List.getElem?_toArray, List.getElem?_cons_zero, List.getElem?_cons_succ]; rfl) (by kernel_rfl) (by kernel_rfl) (by kernel_rfl) (Or.inl ⟨by rfl, ?dy12⟩) ?dr12
      case dy12 => (intro w hSw; go_simp; exact Came.call ((BI.out w).mono fun e w' ⟨he, hw⟩ => ⟨he, hw ▸ hSw⟩) (by with_reducible rfl))
      try simp only [Act.put, List.setIfInBounds_toArray, List.set_cons_zero, List.set_cons_succ]
      refine wpDetL_take (j := 7) (by decide) (by kernel_rfl) (i := 5) (oi := _) (v := ?dv13) (by simp only [List.getElem?_toArray, List.getElem?_cons_zero, List.getElem?_cons_succ]; rfl) (by kernel_rfl) (by kernel_rfl) (by kernel_rfl) (Or.inl ⟨by rfl, ?dy13⟩) ?dr13
      case dy13 => (intro w hSw; have hS0 := hSw; (try dsimp only [PS] at hSw); go_simp; refine Came.value ?_ hS0; with_reducible rfl)
      try simp only [Act.put, List.setIfInBounds_toArray, List.set_cons_zero, List.set_cons_succ]
      refine wpDetL_take (j := 7) (by decide) (by kernel_rfl) (i := 6) (oi := _) (v := ?dv14) (by simp only [List.getElem?_toArray, List.getElem?_cons_zero, List.getElem?_cons_succ]; rfl) (by kernel_rfl) (by kernel_rfl) (by kernel_rfl) (Or.inl ⟨by rfl, ?dy14⟩) ?dr14
      case dy14 => (intro w hSw; have hS0 := hSw; (try dsimp only [PS] at hSw); go_simp; refine Came.value ?_ hS0; with_reducible rfl)
      try simp only [Act.put, List.setIfInBounds_toArray, List.set_cons_zero, List.set_cons_succ]
      refine wpDetL_last (oj := _) (by kernel_rfl) (by kernel_rfl) (by simp only [List.getElem?_toArray, List.getElem?_cons_zero, List.getElem?_cons_succ]; rfl) ?_
      intro w3 hS K hK
      obtain ⟨hF, ⟨c0, c1, c2⟩, ⟨k0, k1⟩, hR, hZ⟩ := hS
      have zb := fun i => frozen_of_row w3 _ i _ _ hR
      have zb0 := zb 0
      have zb1 := zb 1
      have zb2 := zb 2
      have hR2 := Lib.hid (aput2 hR (.int .u64 (((d ||| o : Nat)) : Int)))
      have FX := Fr.setCell w3 w.heap.size 2 (.int .u64 (((d ||| o : Nat)) : Int)) (S := [w.heap.size]) (by simp)
      have FS := Lib.hid (hF.new FX (by simp))
      have hZ2 := Lib.hid (FX.heap hZ (by simp))
      have m0 := Lib.hid (FX.cell k0 (by simp))
      have m1 := Lib.hid (FX.cell k1 (by simp))
      clear FX
      go_simp
      refine hK.out _ _ ?_
      clear hK zb hF hZ hR K zb0 zb1 zb2 c0 c1 c2 k0 k1
      generalize World.setCell w3 _ _ = w4 at *
      have k0 := m0.out
      have k1 := m1.out
      obtain ⟨c0, c1, c2⟩ := arow hR2.out
      obtain ⟨x0, x1, x2⟩ := arow hZ2.out
      have z := fun i => frozen_of_row w4 _ i _ _ hZ2.out
      have z0 := z 0
      have z1 := z 1
      have z2 := z 2
      have AF := Lib.hid (FS.out.new (aset_fr w4 (w.heap.size + 2) (.int .u64 (p : Int)) (.int .u64 (u : Int)) (.int .u64 (((d ||| o : Nat)) : Int))) (by simp))
      obtain ⟨y0, y1, y2⟩ := arow (aset hZ2.out (.int .u64 (p : Int)) (.int .u64 (u : Int)) (.int .u64 (((d ||| o : Nat)) : Int)))
      clear z
      go_wp2
      exact bodyPost_ret (v := .agg #[.int .u64 (p : Int), .int .u64 (u : Int), .int .u64 (((d ||| o : Nat)) : Int)]) (by simp [results, Tryd.results25, go_sem, y0, y1, y2]) rfl ⟨rfl, AF.out⟩
    · obtain ⟨rfl, rfl, rfl⟩ : p = rp ∧ u = ru ∧ d = rd := by
        rw [Sp.put, if_neg h1, if_neg h2] at hr
        simp only [Sp.mk.injEq] at hr
        exact ⟨hr.1.symm, hr.2.1.symm, hr.2.2.symm⟩
      have e1 : (e == 1) = false := by simp [h1]
      have e2 : (e == -1) = false := by simp [h2]
      clear hr h ho h1 h2 HS
      dsimp only [Sp.v, Sp.box] at *
      go_enter Tryd.func25, Tryd.ntmps25
      obtain ⟨_, _, ⟨k0, k1⟩, _⟩ := HS0.out
      have F4 := Lib.hid (((Fr.alloc w (.cells #[.int .u64 p, .int .u64 u, .int .u64 d] 37) []).trans (Fr.alloc _ (.cells #[.int .i64 f, .int .i64 e] 62) [])).trans (Fr.alloc _ (.cells #[.int .u64 p, .int .u64 u, .int .u64 d] 37) []))
      go_wp2
      exact bodyPost_ret (v := .agg #[.int .u64 p, .int .u64 u, .int .u64 d]) (by simp [results, Tryd.results25, go_sem]) rfl ⟨rfl, F4.out⟩
end Go.Proofs.YtgcgbiaigbblkaaDoor
