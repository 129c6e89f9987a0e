/- A meter: eleven counters in one block, as plain data; what each of its calls does. -/
import Derived.Test.YtklfjglbehjcaaaBase
import Derived.Tactics2
import Derived.Laws.LoneSync
import Derived.RegionCalls
namespace Go.Proofs.Ytklfjglbehjcaaa
open Go.RowKit

/-- A block of n numbers. -/
def Ln (T : TypeId) (n : Nat) (w : World) (q : Nat) (g : Nat → Int) : Prop := ∃ cs, w.heap[q]? = some (.cells cs T (0, 0)) ∧ cs.size = n ∧ ∀ i, i < n → cs[i]? = some (.int .i64 (g i))
theorem Ln.fr {T : TypeId} {n : Nat} {w w' : World} {q : Nat} {g : Nat → Int} {S : List Nat} (h : Ln T n w q g) (hf : Fr w w' S) (hq : q ∉ S) : Ln T n w' q g := h.imp fun _ hh => ⟨hf.heap hh.1 hq, hh.2⟩
theorem Ln.lt {T : TypeId} {n : Nat} {w : World} {q : Nat} {g : Nat → Int} (h : Ln T n w q g) : q < w.heap.size := by
  obtain ⟨cs, h1, _⟩ := h; exact (Array.getElem?_eq_some_iff.1 h1).1
theorem Ln.at {T : TypeId} {n : Nat} {w : World} {q : Nat} {g : Nat → Int} (h : Ln T n w q g) (i : Nat) (hi : i < n) : w.cell? ⟨q, i, none⟩ = some (.int .i64 (g i)) := by
  obtain ⟨cs, h1, h2, h3⟩ := h
  rw [cell_of_row w q _ _ _ _ h1, h3 i hi]
theorem Ln.fz {T : TypeId} {n : Nat} {w : World} {q : Nat} {g : Nat → Int} (h : Ln T n w q g) (j : Nat) : w.frozen? ⟨q, j, none⟩ = false := by
  obtain ⟨cs, h1, h2⟩ := h
  exact frozen_of_row _ _ _ _ _ h1
def upN (g : Nat → Int) (k : Nat) (x : Int) : Nat → Int := fun j => if j = k then x else g j
theorem Ln.set {T : TypeId} {n : Nat} {w : World} {q : Nat} {g : Nat → Int} (h : Ln T n w q g) (k : Nat) (hk : k < n) (x : Int) : Ln T n (w.setCell ⟨q, k, none⟩ (.int .i64 x)) q (upN g k x) := by
  obtain ⟨cs, h1, h2, h3⟩ := h
  refine ⟨_, heap_setCell_same _ _ _ _ _ _ h1, by simpa using h2, fun i hi => ?_⟩
  by_cases e : i = k
  · subst e
    rw [Array.getElem?_setIfInBounds_self_of_lt (by omega)]; simp [upN]
  · rw [Array.getElem?_setIfInBounds_ne (by omega), h3 i hi]; simp [upN, e]
theorem Ln.congr {T : TypeId} {n : Nat} {w : World} {q : Nat} {f g : Nat → Int} (h : Ln T n w q f) (he : ∀ i, i < n → f i = g i) : Ln T n w q g := by
  obtain ⟨cs, h1, h2, h3⟩ := h
  exact ⟨cs, h1, h2, fun i hi => by rw [← he i hi]; exact h3 i hi⟩
/-- Blocks of two types are two blocks. -/
theorem Ln.apart {T T' : TypeId} {n n' : Nat} {w : World} {p q : Nat} {f g : Nat → Int} (h : Ln T n w p f) (k : Ln T' n' w q g) (hT : T ≠ T') : p ≠ q := by
  rintro rfl
  obtain ⟨cs, h1, _⟩ := h
  obtain ⟨ds, k1, _⟩ := k
  rw [h1] at k1
  simp at k1
  exact hT k1.2
/-- The meter. -/
abbrev Mt (w : World) (p : Nat) (g : Nat → Int) : Prop := Ln 32 11 w p g
def zMt : Array Value := #[.int .i64 0, .int .i64 0, .int .i64 0, .int .i64 0, .int .i64 0, .int .i64 0, .int .i64 0, .int .i64 0, .int .i64 0, .int .i64 0, .int .i64 0]
def zN : Nat → Int := fun _ => 0
theorem new_mt (w : World) : Mt (w.alloc (.cells #[.int .i64 0, .int .i64 0, .int .i64 0, .int .i64 0, .int .i64 0, .int .i64 0, .int .i64 0, .int .i64 0, .int .i64 0, .int .i64 0, .int .i64 0] 32)) w.heap.size zN := by
  refine ⟨_, heap_alloc_new _ _, rfl, fun i hi => ?_⟩
  rcases (by omega : i = 0 ∨ i = 1 ∨ i = 2 ∨ i = 3 ∨ i = 4 ∨ i = 5 ∨ i = 6 ∨ i = 7 ∨ i = 8 ∨ i = 9 ∨ i = 10) with rfl | rfl | rfl | rfl | rfl | rfl | rfl | rfl | rfl | rfl | rfl
  all_goals rfl

/-- Counts that may be. -/
def Few (g : Nat → Int) (m : Int) : Prop := ∀ i, 0 ≤ g i ∧ g i ≤ m
theorem Few.zero : Few zN 0 := fun _ => by simp [zN]
theorem Few.mono {g : Nat → Int} {m m' : Int} (h : Few g m) (hm : m ≤ m') : Few g m' := fun i => ⟨(h i).1, by have := (h i).2; omega⟩
theorem Few.up {g : Nat → Int} {m : Int} (h : Few g m) (k : Nat) : Few (upN g k (g k + 1)) (m + 1) := by
  intro i
  have hk := h k
  have hi := h i
  unfold upN
  split <;> omega
/-- The sum of the first k. -/
def sm (g : Nat → Int) : Nat → Int
  | 0 => 0
  | k + 1 => sm g k + g k
theorem sm_few {g : Nat → Int} {m : Int} (h : Few g m) (k : Nat) : 0 ≤ sm g k ∧ sm g k ≤ (k : Int) * m := by
  induction k with
  | zero => simp [sm]
  | succ k ih =>
    have := h k
    have e : ((k + 1 : Nat) : Int) * m = (k : Int) * m + m := by rw [Int.natCast_add, Int.add_mul]; simp
    rw [e]
    simp only [sm]
    omega
/-- The least kind of the first k of which there are most (0: there is nothing). -/
def mk (g : Nat → Int) : Nat → Nat
  | 0 => 0
  | k + 1 => if (if mk g k = 0 then 0 else g (mk g k - 1)) < g k then k + 1 else mk g k
def mn (g : Nat → Int) (k : Nat) : Int := if mk g k = 0 then 0 else g (mk g k - 1)
theorem mk_yes (g : Nat → Int) (k : Nat) (h : mn g k < g k) : mk g (k + 1) = k + 1 ∧ mn g (k + 1) = g k := by
  have e : mk g (k + 1) = k + 1 := by rw [mk]; exact if_pos h
  exact ⟨e, by unfold mn; rw [e]; simp⟩
theorem mk_no (g : Nat → Int) (k : Nat) (h : ¬ mn g k < g k) : mk g (k + 1) = mk g k ∧ mn g (k + 1) = mn g k := by
  have e : mk g (k + 1) = mk g k := by rw [mk]; exact if_neg h
  exact ⟨e, by unfold mn; rw [e]⟩
theorem mk_le (g : Nat → Int) (k : Nat) : mk g k ≤ k := by
  induction k with
  | zero => simp [mk]
  | succ k ih =>
    by_cases h : mn g k < g k
    · rw [(mk_yes g k h).1]; omega
    · rw [(mk_no g k h).1]; omega
theorem mn_pos (g : Nat → Int) (k : Nat) : 0 ≤ mn g k ∧ (0 < mn g k ↔ 0 < mk g k) := by
  induction k with
  | zero => simp [mn, mk]
  | succ k ih =>
    by_cases h : mn g k < g k
    · rw [(mk_yes g k h).1, (mk_yes g k h).2]; omega
    · rw [(mk_no g k h).1, (mk_no g k h).2]; exact ih
theorem mn_few {g : Nat → Int} {m : Int} (h : Few g m) (hm : 0 ≤ m) (k : Nat) : mn g k ≤ m := by
  unfold mn
  split
  · exact hm
  · exact (h _).2

set_option maxRecDepth 100000 in
theorem is_yes (k : Nat) (w : World) (h : k < 11) : Calls Try.prog 13 #[.int .i64 ((k : Int) + 1)] w fun e w' => e = .returned (.bool true) ∧ w = w' := by
  go_enter Try.func13, Try.ntmps13
  go_wp2
  go_ret
  exact ⟨congrArg Ending.returned (congrArg Value.bool (decide_eq_true (by omega))), rfl⟩
set_option maxRecDepth 100000 in
theorem is_no (x : Int) (w : World) (h : ¬ (1 ≤ x ∧ x ≤ 11)) : Calls Try.prog 13 #[.int .i64 x] w fun e w' => e = .returned (.bool false) ∧ w = w' := by
  by_cases h0 : 1 ≤ x
  · have h1 : ¬ x ≤ 11 := by omega
    clear h
    go_enter Try.func13, Try.ntmps13
    go_wp2
    go_ret
    exact ⟨rfl, rfl⟩
  · clear h
    go_enter Try.func13, Try.ntmps13
    go_wp2
    go_ret
    exact ⟨rfl, rfl⟩
set_option maxRecDepth 100000 in
/-- '(*sync/atomic.Int64).Load'. -/
theorem cload_any (b off : Nat) (n : Int) (w : World) (hc : w.cell? ⟨b, off, none⟩ = some (.int .i64 n)) :
    Calls Try.prog 16 #[.pointer (some ⟨b, off, none⟩)] w fun e w' => e = .returned (.int .i64 n) ∧ w = w' := by
  have hl := run_call_load (P := Try.prog) Try.func19 (by kernel_rfl) (by kernel_rfl) (by kernel_rfl) .i64 (by kernel_rfl) hc
  go_enter Try.func16, Try.ntmps16
  go_wp2
  go_ret
  exact ⟨rfl, rfl⟩
set_option maxRecDepth 100000 in
/-- '(*sync/atomic.Int64).Store(0)'. -/
theorem cstore_any (b off : Nat) (n : Int) (w : World) (hc : w.cell? ⟨b, off, none⟩ = some (.int .i64 n)) (hz : w.frozen? ⟨b, off, none⟩ = false) :
    Calls Try.prog 15 #[.pointer (some ⟨b, off, none⟩), .int .i64 0] w fun e w' => e = .returned (.tuple #[]) ∧ w' = w.setCell ⟨b, off, none⟩ (.int .i64 0) := by
  have hst := run_call_store (P := Try.prog) Try.func18 (by kernel_rfl) (by kernel_rfl) (by kernel_rfl) (by kernel_rfl) (k := .i64) (y := 0) hc hz
  go_enter Try.func15, Try.ntmps15
  go_wp2
  go_end0
  exact ⟨rfl, rfl⟩
set_option maxRecDepth 100000 in
/-- '(*sync/atomic.Int64).Add(1)'. -/
theorem cadd_any (b off : Nat) (n : Int) (w : World) (hc : w.cell? ⟨b, off, none⟩ = some (.int .i64 n)) (hz : w.frozen? ⟨b, off, none⟩ = false) (h0 : 0 ≤ n) (h1 : n ≤ 100000) :
    Calls Try.prog 14 #[.pointer (some ⟨b, off, none⟩), .int .i64 1] w fun e w' => e = .returned (.int .i64 (n + 1)) ∧ w' = w.setCell ⟨b, off, none⟩ (.int .i64 (n + 1)) := by
  have ha := run_call_add (P := Try.prog) Try.func17 (by kernel_rfl) (by kernel_rfl) (by kernel_rfl) .i64 (by kernel_rfl) (y := 1) (s := n + 1) hc hz (by simp only [go_sem]; rw [show IntKind.i64.wrap (n + 1) = n + 1 by rw [IntKind.wrap_i64]; omega]; rfl)
  go_enter Try.func14, Try.ntmps14
  go_wp2
  go_ret
  exact ⟨rfl, rfl⟩
end Go.Proofs.Ytklfjglbehjcaaa
