/- The gate: what it holds; New, Epoch, Hop, Floor, Clone. -/
import Derived.Test.YtlkpgpiklfbacaaGEp
namespace Go.Proofs.Ytlkpgpiklfbacaa
open Go.RowKit

/-- What a gate holds: its epoch, its hop, its floor. -/
structure GS where
  c : Int
  f : Int
  h : Int
  fl : Int
/-- The block p is a gate that holds s. -/
def Gt (w : World) (p : Nat) (s : GS) : Prop := w.heap[p]? = some (.cells #[.int .i64 s.c, .int .i64 s.f, .int .i64 s.h, .int .i64 s.fl] 54 (0, 0))
theorem Gt.fr {w w' : World} {p : Nat} {s : GS} {S : List Nat} (h : Gt w p s) (hf : Fr w w' S) (hp : p ∉ S) : Gt w' p s := hf.heap h hp
theorem Gt.keep {w w' : World} {p : Nat} {s : GS} (h : Gt w p s) (hf : Fr w w' []) : Gt w' p s := h.fr hf (by simp)
theorem Gt.lt {w : World} {p : Nat} {s : GS} (h : Gt w p s) : p < w.heap.size := size_of_row h
theorem row4 {w : World} {g : Nat} {a b c d : Value} {T : TypeId} (h : w.heap[g]? = some (.cells #[a, b, c, d] T (0, 0))) :
    w.cell? ⟨g, 0, none⟩ = some a ∧ w.cell? ⟨g, 1, none⟩ = some b ∧ w.cell? ⟨g, 2, none⟩ = some c ∧ w.cell? ⟨g, 3, none⟩ = some d :=
  ⟨by rw [cell_of_row w g 0 _ _ _ h]; rfl, by rw [cell_of_row w g 1 _ _ _ h]; rfl, by rw [cell_of_row w g 2 _ _ _ h]; rfl, by rw [cell_of_row w g 3 _ _ _ h]; rfl⟩
theorem row5 {w : World} {g : Nat} {a b c d e : Value} {T : TypeId} (h : w.heap[g]? = some (.cells #[a, b, c, d, e] T (0, 0))) :
    w.cell? ⟨g, 0, none⟩ = some a ∧ w.cell? ⟨g, 1, none⟩ = some b ∧ w.cell? ⟨g, 2, none⟩ = some c ∧ w.cell? ⟨g, 3, none⟩ = some d ∧ w.cell? ⟨g, 4, none⟩ = some e :=
  ⟨by rw [cell_of_row w g 0 _ _ _ h]; rfl, by rw [cell_of_row w g 1 _ _ _ h]; rfl, by rw [cell_of_row w g 2 _ _ _ h]; rfl, by rw [cell_of_row w g 3 _ _ _ h]; rfl, by rw [cell_of_row w g 4 _ _ _ h]; rfl⟩
theorem Gt.cells {w : World} {p : Nat} {s : GS} (h : Gt w p s) :
    w.cell? ⟨p, 0, none⟩ = some (.int .i64 s.c) ∧ w.cell? ⟨p, 1, none⟩ = some (.int .i64 s.f) ∧ w.cell? ⟨p, 2, none⟩ = some (.int .i64 s.h) ∧ w.cell? ⟨p, 3, none⟩ = some (.int .i64 s.fl) := row4 h
theorem Gt.ice {w : World} {p : Nat} {s : GS} (h : Gt w p s) : ∀ i, w.frozen? ⟨p, i, none⟩ = false := fun i => frozen_of_row w p i _ _ h

set_option maxRecDepth 100000 in
theorem new_any (n : Int) (w : World) : Calls Try.prog 10 #[.int .i64 n] w fun e w' => e = .returned (.pointer (some ⟨w.heap.size, 0, none⟩)) ∧ Gt w' w.heap.size ⟨0, 0, 0, max n 0⟩ ∧ Fr w w' [] := by
  by_cases h : 0 ≤ n
  all_goals
    go_enter Try.func10, Try.ntmps10
    go_wp2
    go_ret
    refine ⟨rfl, ?_, Fr.alloc _ _ _⟩
    unfold Gt
    rw [heap_alloc_new]
set_option maxRecDepth 100000 in
theorem hop_any (p : Nat) (s : GS) (w : World) (hg : Gt w p s) : Calls Try.prog 18 #[.pointer (some ⟨p, 0, none⟩)] w fun e w' => e = .returned (.int .i64 s.h) ∧ w' = w := by
  obtain ⟨c0, c1, c2, c3⟩ := hg.cells
  clear hg
  go_enter Try.func18, Try.ntmps18
  go_wp2
  go_ret
  exact ⟨rfl, rfl⟩
set_option maxRecDepth 100000 in
theorem floor_any (p : Nat) (s : GS) (w : World) (hg : Gt w p s) : Calls Try.prog 15 #[.pointer (some ⟨p, 0, none⟩)] w fun e w' => e = .returned (.int .i64 s.fl) ∧ w' = w := by
  obtain ⟨c0, c1, c2, c3⟩ := hg.cells
  clear hg
  go_enter Try.func15, Try.ntmps15
  go_wp2
  go_ret
  exact ⟨rfl, rfl⟩
set_option maxRecDepth 100000 in
theorem epoch_any (p : Nat) (s : GS) (w : World) (hg : Gt w p s) : Calls Try.prog 12 #[.pointer (some ⟨p, 0, none⟩)] w fun e w' => e = .returned (.agg #[.int .i64 s.c, .int .i64 s.f]) ∧ Fr w w' [] := by
  obtain ⟨c0, c1, c2, c3⟩ := hg.cells
  have hlt := hg.lt
  clear hg
  go_enter Try.func12, Try.ntmps12
  go_wp2
  refine bodyPost_ret (v := .agg #[.int .i64 _, .int .i64 _]) (by simp [results, Try.results12, go_sem]) rfl ⟨rfl, Fr.alloc _ _ _⟩
set_option maxRecDepth 100000 in
theorem clone_any (p : Nat) (s : GS) (w : World) (hg : Gt w p s) : Calls Try.prog 17 #[.pointer (some ⟨p, 0, none⟩)] w (Gives fun u w' => u = .pointer (some ⟨w.heap.size, 0, none⟩) ∧ Gt w' w.heap.size s ∧ Fr w w' []) := by
  obtain ⟨c0, c1, c2, c3⟩ := hg.cells
  have hlt := hg.lt
  clear hg
  go_enter Try.func17, Try.ntmps17
  go_wp2
  go_ret
  exact gives ⟨rfl, heap_alloc_new _ _, Fr.alloc _ _ _⟩
set_option maxRecDepth 100000 in
theorem allows_any (p : Nat) (s : GS) (c f : Int) (w : World) (hg : Gt w p s) (b : Bool) (hb : (epOk c f && decide (s.fl < c)) = b) :
    Calls Try.prog 26 #[.pointer (some ⟨p, 0, none⟩), .agg #[.int .i64 c, .int .i64 f]] w fun e w' => e = .returned (.bool b) ∧ Fr w w' [] := by
  have hlt := hg.lt
  have hv := ep_valid c f
  have H4 := Lib.hid ((hg.keep (Fr.alloc w (.cells #[.int .i64 c, .int .i64 f] 25) [])).keep (Fr.drew _ []))
  have H2 := Lib.hid ((Fr.drew _ []).heap (heap_alloc_new w (.cells #[.int .i64 c, .int .i64 f] 25)) (by simp))
  have HF := Lib.hid ((Fr.alloc w (.cells #[.int .i64 c, .int .i64 f] 25) []).trans (Fr.drew _ []))
  have keep : ∀ {a b : World}, (Fr w a [] ∧ a.cell? ⟨w.heap.size, 0, none⟩ = some (.int .i64 c) ∧ a.cell? ⟨w.heap.size, 1, none⟩ = some (.int .i64 f) ∧ a.cell? ⟨p, 3, none⟩ = some (.int .i64 s.fl)) → Fr a b [] → (Fr w b [] ∧ b.cell? ⟨w.heap.size, 0, none⟩ = some (.int .i64 c) ∧ b.cell? ⟨w.heap.size, 1, none⟩ = some (.int .i64 f) ∧ b.cell? ⟨p, 3, none⟩ = some (.int .i64 s.fl)) :=
    fun h k => ⟨h.1.trans k, k.cell h.2.1 (by simp), k.cell h.2.2.1 (by simp), k.cell h.2.2.2 (by simp)⟩
  cases hok : epOk c f with
  | false =>
    rw [hok] at hv hb
    obtain rfl : b = false := by rw [← hb]; rfl
    have HV := Lib.hid hv
    clear hg hv hok hb
    go_enter Try.func26, Try.ntmps26
    go_wp2
    refine wp_region_det (S := fun a => Fr w a [] ∧ a.cell? ⟨w.heap.size, 0, none⟩ = some (.int .i64 c) ∧ a.cell? ⟨w.heap.size, 1, none⟩ = some (.int .i64 f) ∧ a.cell? ⟨p, 3, none⟩ = some (.int .i64 s.fl)) (by kernel_rfl) ⟨HF.out, (row2 H2.out).1, (row2 H2.out).2, H4.out.cells.2.2.2⟩ ?_
    refine wpDet_take (i := 0) (oi := _) (v := ?dv1) (by simp only [List.getElem?_toArray, List.getElem?_cons_zero]; rfl) (by kernel_rfl) (by kernel_rfl) (by kernel_rfl) (Or.inl ⟨by rfl, ?dy1⟩) ?dr1
    case dy1 => (intro w hSw; have hS0 := hSw; (try dsimp only at hSw); go_simp; refine Came.value ?_ hS0; with_reducible rfl)
    try simp only [Act.put, List.setIfInBounds_toArray, List.set_cons_zero, List.set_cons_succ]
    refine wpDet_take (i := 1) (oi := _) (v := ?dv2) (by simp only [List.getElem?_toArray, List.getElem?_cons_zero, List.getElem?_cons_succ]; rfl) (by kernel_rfl) (by kernel_rfl) (by kernel_rfl) (Or.inl ⟨by rfl, ?dy2⟩) ?dr2
    case dy2 => (intro w hSw; go_simp; exact Came.call ((HV.out w).mono fun e w' ⟨he, hf⟩ => ⟨he, keep hSw hf⟩) (by with_reducible rfl))
    try simp only [Act.put, List.setIfInBounds_toArray, List.set_cons_zero, List.set_cons_succ]
    refine wpDet_take (i := 2) (oi := _) (v := ?dv3) (by simp only [List.getElem?_toArray, List.getElem?_cons_zero, List.getElem?_cons_succ]; rfl) (by kernel_rfl) (by kernel_rfl) (by kernel_rfl) (Or.inl ⟨by rfl, ?dy3⟩) ?dr3
    case dy3 => (intro w hSw; have hS0 := hSw; (try dsimp only at hSw); go_simp; refine Came.value ?_ hS0; with_reducible rfl)
    try simp only [Act.put, List.setIfInBounds_toArray, List.set_cons_zero, List.set_cons_succ]
    refine wpDet_take (i := 3) (oi := _) (v := undef) (by simp only [List.getElem?_toArray, List.getElem?_cons_zero, List.getElem?_cons_succ]; rfl) (by kernel_rfl) (by kernel_rfl) (by kernel_rfl) (Or.inr ⟨by rfl, rfl⟩) ?_
    try simp only [Act.put, List.setIfInBounds_toArray, List.set_cons_zero, List.set_cons_succ]
    refine wpDet_take (i := 4) (oi := _) (v := undef) (by simp only [List.getElem?_toArray, List.getElem?_cons_zero, List.getElem?_cons_succ]; rfl) (by kernel_rfl) (by kernel_rfl) (by kernel_rfl) (Or.inr ⟨by rfl, rfl⟩) ?_
    try simp only [Act.put, List.setIfInBounds_toArray, List.set_cons_zero, List.set_cons_succ]
    refine wpDet_take (i := 5) (oi := _) (v := undef) (by simp only [List.getElem?_toArray, List.getElem?_cons_zero, List.getElem?_cons_succ]; rfl) (by kernel_rfl) (by kernel_rfl) (by kernel_rfl) (Or.inr ⟨by rfl, rfl⟩) ?_
    try simp only [Act.put, List.setIfInBounds_toArray, List.set_cons_zero, List.set_cons_succ]
    refine wpDet_take (i := 6) (oi := _) (v := undef) (by simp only [List.getElem?_toArray, List.getElem?_cons_zero, List.getElem?_cons_succ]; rfl) (by kernel_rfl) (by kernel_rfl) (by kernel_rfl) (Or.inr ⟨by rfl, rfl⟩) ?_
    try simp only [Act.put, List.setIfInBounds_toArray, List.set_cons_zero, List.set_cons_succ]
    refine wpDet_take (i := 7) (oi := _) (v := undef) (by simp only [List.getElem?_toArray, List.getElem?_cons_zero, List.getElem?_cons_succ]; rfl) (by kernel_rfl) (by kernel_rfl) (by kernel_rfl) (Or.inr ⟨by rfl, rfl⟩) ?_
    try simp only [Act.put, List.setIfInBounds_toArray, List.set_cons_zero, List.set_cons_succ]
    refine wpDet_take (i := 8) (oi := _) (v := undef) (by simp only [List.getElem?_toArray, List.getElem?_cons_zero, List.getElem?_cons_succ]; rfl) (by kernel_rfl) (by kernel_rfl) (by kernel_rfl) (Or.inr ⟨by rfl, rfl⟩) ?_
    try simp only [Act.put, List.setIfInBounds_toArray, List.set_cons_zero, List.set_cons_succ]
    refine wpDet_take (i := 9) (oi := _) (v := undef) (by simp only [List.getElem?_toArray, List.getElem?_cons_zero, List.getElem?_cons_succ]; rfl) (by kernel_rfl) (by kernel_rfl) (by kernel_rfl) (Or.inr ⟨by rfl, rfl⟩) ?_
    try simp only [Act.put, List.setIfInBounds_toArray, List.set_cons_zero, List.set_cons_succ]
    refine wpDet_take (i := 10) (oi := _) (v := ?dv11) (by simp only [List.getElem?_toArray, List.getElem?_cons_zero, List.getElem?_cons_succ]; rfl) (by kernel_rfl) (by kernel_rfl) (by kernel_rfl) (Or.inl ⟨by rfl, ?dy11⟩) ?dr11
    case dy11 => (intro w hSw; have hS0 := hSw; (try dsimp only at hSw); go_simp; refine Came.value ?_ hS0; with_reducible rfl)
    try simp only [Act.put, List.setIfInBounds_toArray, List.set_cons_zero, List.set_cons_succ]
    refine wpDet_take (i := 11) (oi := _) (v := ?dv12) (by simp only [List.getElem?_toArray, List.getElem?_cons_zero, List.getElem?_cons_succ]; rfl) (by kernel_rfl) (by kernel_rfl) (by kernel_rfl) (Or.inl ⟨by rfl, ?dy12⟩) ?dr12
    case dy12 => (intro w hSw; have hS0 := hSw; (try dsimp only at hSw); go_simp; refine Came.value ?_ hS0; with_reducible rfl)
    try simp only [Act.put, List.setIfInBounds_toArray, List.set_cons_zero, List.set_cons_succ]
    refine wpDet_done (by kernel_rfl) ?_ _
    rintro w1 ⟨hF, _, _⟩
    go_wp2
    go_ret
    exact ⟨rfl, hF⟩
  | true =>
    rw [hok] at hv hb
    have HV := Lib.hid hv
    have hb' : decide (s.fl < c) = b := by rw [← hb]; rfl
    clear hg hv hok hb
    go_enter Try.func26, Try.ntmps26
    go_wp2
    refine wp_region_det (S := fun a => Fr w a [] ∧ a.cell? ⟨w.heap.size, 0, none⟩ = some (.int .i64 c) ∧ a.cell? ⟨w.heap.size, 1, none⟩ = some (.int .i64 f) ∧ a.cell? ⟨p, 3, none⟩ = some (.int .i64 s.fl)) (by kernel_rfl) ⟨HF.out, (row2 H2.out).1, (row2 H2.out).2, H4.out.cells.2.2.2⟩ ?_
    refine wpDet_take (i := 0) (oi := _) (v := ?dv13) (by simp only [List.getElem?_toArray, List.getElem?_cons_zero]; rfl) (by kernel_rfl) (by kernel_rfl) (by kernel_rfl) (Or.inl ⟨by rfl, ?dy13⟩) ?dr13
    case dy13 => (intro w hSw; have hS0 := hSw; (try dsimp only at hSw); go_simp; refine Came.value ?_ hS0; with_reducible rfl)
    try simp only [Act.put, List.setIfInBounds_toArray, List.set_cons_zero, List.set_cons_succ]
    refine wpDet_take (i := 1) (oi := _) (v := ?dv14) (by simp only [List.getElem?_toArray, List.getElem?_cons_zero, List.getElem?_cons_succ]; rfl) (by kernel_rfl) (by kernel_rfl) (by kernel_rfl) (Or.inl ⟨by rfl, ?dy14⟩) ?dr14
    case dy14 => (intro w hSw; go_simp; exact Came.call ((HV.out w).mono fun e w' ⟨he, hf⟩ => ⟨he, keep hSw hf⟩) (by with_reducible rfl))
    try simp only [Act.put, List.setIfInBounds_toArray, List.set_cons_zero, List.set_cons_succ]
    refine wpDet_take (i := 2) (oi := _) (v := ?dv15) (by simp only [List.getElem?_toArray, List.getElem?_cons_zero, List.getElem?_cons_succ]; rfl) (by kernel_rfl) (by kernel_rfl) (by kernel_rfl) (Or.inl ⟨by rfl, ?dy15⟩) ?dr15
    case dy15 => (intro w hSw; have hS0 := hSw; (try dsimp only at hSw); go_simp; refine Came.value ?_ hS0; with_reducible rfl)
    try simp only [Act.put, List.setIfInBounds_toArray, List.set_cons_zero, List.set_cons_succ]
    refine wpDet_take (i := 3) (oi := _) (v := ?dv16) (by simp only [List.getElem?_toArray, List.getElem?_cons_zero, List.getElem?_cons_succ]; rfl) (by kernel_rfl) (by kernel_rfl) (by kernel_rfl) (Or.inl ⟨by rfl, ?dy16⟩) ?dr16
    case dy16 => (intro w hSw; have hS0 := hSw; (try dsimp only at hSw); go_simp; refine Came.value ?_ hS0; with_reducible rfl)
    try simp only [Act.put, List.setIfInBounds_toArray, List.set_cons_zero, List.set_cons_succ]
    refine wpDet_take (i := 4) (oi := _) (v := ?dv17) (by simp only [List.getElem?_toArray, List.getElem?_cons_zero, List.getElem?_cons_succ]; rfl) (by kernel_rfl) (by kernel_rfl) (by kernel_rfl) (Or.inl ⟨by rfl, ?dy17⟩) ?dr17
    case dy17 => (intro w hSw; have hS0 := hSw; (try dsimp only at hSw); go_simp; refine Came.value ?_ hS0; with_reducible rfl)
    try simp only [Act.put, List.setIfInBounds_toArray, List.set_cons_zero, List.set_cons_succ]
    refine wpDet_take (i := 5) (oi := _) (v := ?dv18) (by simp only [List.getElem?_toArray, List.getElem?_cons_zero, List.getElem?_cons_succ]; rfl) (by kernel_rfl) (by kernel_rfl) (by kernel_rfl) (Or.inl ⟨by rfl, ?dy18⟩) ?dr18
    case dy18 => (intro w hSw; have hS0 := hSw; (try dsimp only at hSw); go_simp; refine Came.value ?_ hS0; with_reducible rfl)
    try simp only [Act.put, List.setIfInBounds_toArray, List.set_cons_zero, List.set_cons_succ]
    refine wpDet_take (i := 6) (oi := _) (v := ?dv19) (by simp only [List.getElem?_toArray, List.getElem?_cons_zero, List.getElem?_cons_succ]; rfl) (by kernel_rfl) (by kernel_rfl) (by kernel_rfl) (Or.inl ⟨by rfl, ?dy19⟩) ?dr19
    case dy19 => (intro w hSw; have hS0 := hSw; (try dsimp only at hSw); go_simp; refine Came.value ?_ hS0; with_reducible rfl)
    try simp only [Act.put, List.setIfInBounds_toArray, List.set_cons_zero, List.set_cons_succ]
    refine wpDet_take (i := 7) (oi := _) (v := ?dv20) (by simp only [List.getElem?_toArray, List.getElem?_cons_zero, List.getElem?_cons_succ]; rfl) (by kernel_rfl) (by kernel_rfl) (by kernel_rfl) (Or.inl ⟨by rfl, ?dy20⟩) ?dr20
    case dy20 => (intro w hSw; have hS0 := hSw; (try dsimp only at hSw); go_simp; refine Came.value ?_ hS0; with_reducible rfl)
    try simp only [Act.put, List.setIfInBounds_toArray, List.set_cons_zero, List.set_cons_succ]
    refine wpDet_take (i := 8) (oi := _) (v := ?dv21) (by simp only [List.getElem?_toArray, List.getElem?_cons_zero, List.getElem?_cons_succ]; rfl) (by kernel_rfl) (by kernel_rfl) (by kernel_rfl) (Or.inl ⟨by rfl, ?dy21⟩) ?dr21
    case dy21 => (intro w hSw; have hS0 := hSw; (try dsimp only at hSw); go_simp; refine Came.value ?_ hS0; with_reducible rfl)
    try simp only [Act.put, List.setIfInBounds_toArray, List.set_cons_zero, List.set_cons_succ]
    refine wpDet_take (i := 9) (oi := _) (v := ?dv22) (by simp only [List.getElem?_toArray, List.getElem?_cons_zero, List.getElem?_cons_succ]; rfl) (by kernel_rfl) (by kernel_rfl) (by kernel_rfl) (Or.inl ⟨by rfl, ?dy22⟩) ?dr22
    case dy22 => (intro w hSw; have hS0 := hSw; (try dsimp only at hSw); go_simp; refine Came.value ?_ hS0; with_reducible rfl)
    try simp only [Act.put, List.setIfInBounds_toArray, List.set_cons_zero, List.set_cons_succ]
    refine wpDet_take (i := 10) (oi := _) (v := ?dv23) (by simp only [List.getElem?_toArray, List.getElem?_cons_zero, List.getElem?_cons_succ]; rfl) (by kernel_rfl) (by kernel_rfl) (by kernel_rfl) (Or.inl ⟨by rfl, ?dy23⟩) ?dr23
    case dy23 => (intro w hSw; have hS0 := hSw; (try dsimp only at hSw); go_simp; refine Came.value ?_ hS0; with_reducible rfl)
    try simp only [Act.put, List.setIfInBounds_toArray, List.set_cons_zero, List.set_cons_succ]
    refine wpDet_take (i := 11) (oi := _) (v := ?dv24) (by simp only [List.getElem?_toArray, List.getElem?_cons_zero, List.getElem?_cons_succ]; rfl) (by kernel_rfl) (by kernel_rfl) (by kernel_rfl) (Or.inl ⟨by rfl, ?dy24⟩) ?dr24
    case dy24 => (intro w hSw; have hS0 := hSw; (try dsimp only at hSw); go_simp; refine Came.value ?_ hS0; with_reducible rfl)
    try simp only [Act.put, List.setIfInBounds_toArray, List.set_cons_zero, List.set_cons_succ]
    refine wpDet_done (by kernel_rfl) ?_ _
    rintro w1 ⟨hF, _, _⟩
    go_wp2
    go_ret
    exact ⟨rfl, hF⟩

set_option maxRecDepth 100000 in
theorem ahead_any (p : Nat) (s : GS) (c f : Int) (w : World) (hg : Gt w p s) (b : Bool) (hb : epLt s.c s.f c f = b) :
    Calls Try.prog 27 #[.pointer (some ⟨p, 0, none⟩), .agg #[.int .i64 c, .int .i64 f]] w fun e w' => e = .returned (.bool b) ∧ Fr w w' [] := by
  have hlt := hg.lt
  have hv := ep_less s.c s.f c f
  rw [hb] at hv
  have HV := Lib.hid hv
  have H4 := Lib.hid ((hg.keep (Fr.alloc w (.cells #[.int .i64 c, .int .i64 f] 25) [])).keep (Fr.drew _ []))
  have H2 := Lib.hid ((Fr.drew _ []).heap (heap_alloc_new w (.cells #[.int .i64 c, .int .i64 f] 25)) (by simp))
  have HF := Lib.hid ((Fr.alloc w (.cells #[.int .i64 c, .int .i64 f] 25) []).trans (Fr.drew _ []))
  have keep : ∀ {a b : World}, (Fr w a [] ∧ a.cell? ⟨w.heap.size, 0, none⟩ = some (.int .i64 c) ∧ a.cell? ⟨w.heap.size, 1, none⟩ = some (.int .i64 f) ∧ a.cell? ⟨p, 0, none⟩ = some (.int .i64 s.c) ∧ a.cell? ⟨p, 1, none⟩ = some (.int .i64 s.f)) → Fr a b [] → (Fr w b [] ∧ b.cell? ⟨w.heap.size, 0, none⟩ = some (.int .i64 c) ∧ b.cell? ⟨w.heap.size, 1, none⟩ = some (.int .i64 f) ∧ b.cell? ⟨p, 0, none⟩ = some (.int .i64 s.c) ∧ b.cell? ⟨p, 1, none⟩ = some (.int .i64 s.f)) :=
    fun h k => ⟨h.1.trans k, k.cell h.2.1 (by simp), k.cell h.2.2.1 (by simp), k.cell h.2.2.2.1 (by simp), k.cell h.2.2.2.2 (by simp)⟩
  clear hg hv hb
  go_enter Try.func27, Try.ntmps27
  go_wp2
  refine wp_region_det (S := fun a => Fr w a [] ∧ a.cell? ⟨w.heap.size, 0, none⟩ = some (.int .i64 c) ∧ a.cell? ⟨w.heap.size, 1, none⟩ = some (.int .i64 f) ∧ a.cell? ⟨p, 0, none⟩ = some (.int .i64 s.c) ∧ a.cell? ⟨p, 1, none⟩ = some (.int .i64 s.f)) (by kernel_rfl) ⟨HF.out, (row2 H2.out).1, (row2 H2.out).2, H4.out.cells.1, H4.out.cells.2.1⟩ ?_
  refine wpDet_take (i := 0) (oi := _) (v := ?dv25) (by simp only [List.getElem?_toArray, List.getElem?_cons_zero]; rfl) (by kernel_rfl) (by kernel_rfl) (by kernel_rfl) (Or.inl ⟨by rfl, ?dy25⟩) ?dr25
  case dy25 => (intro w hSw; have hS0 := hSw; (try dsimp only at hSw); go_simp; refine Came.value ?_ hS0; with_reducible rfl)
  try simp only [Act.put, List.setIfInBounds_toArray, List.set_cons_zero, List.set_cons_succ]
  refine wpDet_take (i := 1) (oi := _) (v := ?dv26) (by simp only [List.getElem?_toArray, List.getElem?_cons_zero, List.getElem?_cons_succ]; rfl) (by kernel_rfl) (by kernel_rfl) (by kernel_rfl) (Or.inl ⟨by rfl, ?dy26⟩) ?dr26
  case dy26 => (intro w hSw; have hS0 := hSw; (try dsimp only at hSw); go_simp; refine Came.value ?_ hS0; with_reducible rfl)
  try simp only [Act.put, List.setIfInBounds_toArray, List.set_cons_zero, List.set_cons_succ]
  refine wpDet_take (i := 2) (oi := _) (v := ?dv27) (by simp only [List.getElem?_toArray, List.getElem?_cons_zero, List.getElem?_cons_succ]; rfl) (by kernel_rfl) (by kernel_rfl) (by kernel_rfl) (Or.inl ⟨by rfl, ?dy27⟩) ?dr27
  case dy27 => (intro w hSw; have hS0 := hSw; (try dsimp only at hSw); go_simp; refine Came.value ?_ hS0; with_reducible rfl)
  try simp only [Act.put, List.setIfInBounds_toArray, List.set_cons_zero, List.set_cons_succ]
  refine wpDet_take (i := 3) (oi := _) (v := ?dv28) (by simp only [List.getElem?_toArray, List.getElem?_cons_zero, List.getElem?_cons_succ]; rfl) (by kernel_rfl) (by kernel_rfl) (by kernel_rfl) (Or.inl ⟨by rfl, ?dy28⟩) ?dr28
  case dy28 => (intro w hSw; have hS0 := hSw; (try dsimp only at hSw); go_simp; refine Came.value ?_ hS0; with_reducible rfl)
  try simp only [Act.put, List.setIfInBounds_toArray, List.set_cons_zero, List.set_cons_succ]
  refine wpDet_take (i := 4) (oi := _) (v := ?dv29) (by simp only [List.getElem?_toArray, List.getElem?_cons_zero, List.getElem?_cons_succ]; rfl) (by kernel_rfl) (by kernel_rfl) (by kernel_rfl) (Or.inl ⟨by rfl, ?dy29⟩) ?dr29
  case dy29 => (intro w hSw; have hS0 := hSw; (try dsimp only at hSw); go_simp; refine Came.value ?_ hS0; with_reducible rfl)
  try simp only [Act.put, List.setIfInBounds_toArray, List.set_cons_zero, List.set_cons_succ]
  refine wpDet_take (i := 5) (oi := _) (v := ?dv30) (by simp only [List.getElem?_toArray, List.getElem?_cons_zero, List.getElem?_cons_succ]; rfl) (by kernel_rfl) (by kernel_rfl) (by kernel_rfl) (Or.inl ⟨by rfl, ?dy30⟩) ?dr30
  case dy30 => (intro w hSw; go_simp; exact Came.call ((HV.out w).mono fun e w' ⟨he, hf⟩ => ⟨he, keep hSw hf⟩) (by with_reducible rfl))
  try simp only [Act.put, List.setIfInBounds_toArray, List.set_cons_zero, List.set_cons_succ]
  refine wpDet_take (i := 6) (oi := _) (v := ?dv31) (by simp only [List.getElem?_toArray, List.getElem?_cons_zero, List.getElem?_cons_succ]; rfl) (by kernel_rfl) (by kernel_rfl) (by kernel_rfl) (Or.inl ⟨by rfl, ?dy31⟩) ?dr31
  case dy31 => (intro w hSw; have hS0 := hSw; (try dsimp only at hSw); go_simp; refine Came.value ?_ hS0; with_reducible rfl)
  try simp only [Act.put, List.setIfInBounds_toArray, List.set_cons_zero, List.set_cons_succ]
  refine wpDet_done (by kernel_rfl) ?_ _
  rintro w1 ⟨hF, _, _⟩
  go_wp2
  go_ret
  exact ⟨rfl, hF⟩
end Go.Proofs.Ytlkpgpiklfbacaa
