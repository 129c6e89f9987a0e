/- Frames on their way (package mail): what a mail holds; has, Len, Lost. -/
import Derived.Test.YtlkmpmhbidhfcaaRow
namespace Go.Proofs.Ytlkmpmhbidhfcaa
open Go.RowKit

theorem infoLt : (Try.prog.info? 55).map (fun i => (i.zero, i.size, i.bytes)) = some (some (.agg #[.int .i64 0, .string ByteArray.empty]), 2, 24) := by kernel_rfl
/-- A letter: to whom, its bytes. -/
abbrev Lt := Int × ByteArray
def dL : Lt := (0, ByteArray.empty)
def ltC (L : List Lt) : List Value := L.flatMap fun x => [.int .i64 x.1, .string x.2]
theorem ltC_cons (x : Lt) (L : List Lt) : ltC (x :: L) = .int .i64 x.1 :: .string x.2 :: ltC L := by simp [ltC]
theorem ltC_app (L M : List Lt) : ltC (L ++ M) = ltC L ++ ltC M := by simp [ltC]
theorem ltC_len (L : List Lt) : (ltC L).length = L.length * 2 := by
  induction L with
  | nil => rfl
  | cons b l ih => rw [ltC_cons]; simp only [List.length_cons] at *; omega
theorem ltC_one (L : List Lt) : ∀ u ∈ ltC L, u.oneCell' = true := by
  intro u hu
  obtain ⟨b, _, hb⟩ := List.mem_flatMap.1 hu
  simp only [List.mem_cons, List.not_mem_nil, or_false] at hb
  rcases hb with rfl | rfl <;> rfl
theorem ltC_get (L : List Lt) (i : Nat) (h : i < L.length) : (ltC L)[i * 2]? = some (.int .i64 (L.getD i dL).1) ∧ (ltC L)[i * 2 + 1]? = some (.string (L.getD i dL).2) := by
  induction L generalizing i with
  | nil => simp at h
  | cons b l ih =>
    rw [ltC_cons]
    cases i with
    | zero => simp
    | succ i =>
      have h' : i < l.length := by simpa using h
      have := ih i h'
      rw [show (i + 1) * 2 = i * 2 + 1 + 1 by omega]
      simpa using this
theorem ltC_take (L : List Lt) (k : Nat) : ltC (L.take k) = (ltC L).take (k * 2) := by
  induction L generalizing k with
  | nil => simp [ltC]
  | cons b l ih =>
    cases k with
    | zero => simp [ltC]
    | succ k => rw [List.take_succ_cons, ltC_cons, ltC_cons, ih, show (k + 1) * 2 = k * 2 + 1 + 1 by omega]; simp
theorem ltC_drop (L : List Lt) (k : Nat) : ltC (L.drop k) = (ltC L).drop (k * 2) := by
  induction L generalizing k with
  | nil => simp [ltC]
  | cons b l ih =>
    cases k with
    | zero => simp
    | succ k => rw [List.drop_succ_cons, ltC_cons, ih, show (k + 1) * 2 = k * 2 + 1 + 1 by omega]; simp

/-- The slice v is the call's own, and holds the letters. -/
def OwnL (w : World) (B : Nat) (v : Value) (L : List Lt) : Prop := w.ownsRow B 55 2 v L.length (ltC L)
/-- The mail at block p: the slice of its letters, the letters, how many were lost. -/
def Ml (w : World) (B p : Nat) (v : Value) (L : List Lt) (n : Nat) : Prop :=
  B ≤ p ∧ w.heap[p]? = some (.cells #[v, .int .i64 (n : Int)] 26 (0, 0)) ∧ OwnL w B v L
theorem Ml.lt {w : World} {B p : Nat} {v : Value} {L : List Lt} {n : Nat} (h : Ml w B p v L n) : p < w.heap.size := size_of_row h.2.1
theorem Ml.frozen {w : World} {B p : Nat} {v : Value} {L : List Lt} {n : Nat} (h : Ml w B p v L n) (j : Nat) : w.frozen? ⟨p, j, none⟩ = false := frozen_of_row w p j _ _ h.2.1
theorem Ml.cells {w : World} {B p : Nat} {v : Value} {L : List Lt} {n : Nat} (h : Ml w B p v L n) : w.cell? ⟨p, 0, none⟩ = some v ∧ w.cell? ⟨p, 1, none⟩ = some (.int .i64 (n : Int)) := row2 h.2.1
theorem Ml.fr {w w' : World} {B p : Nat} {v : Value} {L : List Lt} {n : Nat} {S : List Nat} (h : Ml w B p v L n) (hf : Fr w w' S) (hp : p ∉ S) (hv : ∀ r ∈ S, v.ownBlock ≠ some r) : Ml w' B p v L n :=
  ⟨h.1, hf.heap h.2.1 hp, row_fr h.2.2 hf hv⟩
theorem Ml.keep {w w' : World} {B p : Nat} {v : Value} {L : List Lt} {n : Nat} (h : Ml w B p v L n) (hf : Fr w w' []) : Ml w' B p v L n := h.fr hf (by simp) (by simp)
theorem Ml.shape {w : World} {B p : Nat} {v : Value} {L : List Lt} {n : Nat} (h : Ml w B p v L n) : ∃ a c, v = .slice a L.length c := row_shape h.2.2
/-- The blocks that a mail's calls may turn. -/
def mbs (p : Nat) (v : Value) : List Nat := p :: v.ownBlock.toList
theorem Ml.new {w0 w w' : World} {B p : Nat} {v : Value} {L : List Lt} {n : Nat} (h : Ml w B p v L n) (hB : w0.heap.size ≤ B) {S : List Nat} (hf : Fr w0 w S) (hg : Fr w w' (mbs p v)) : Fr w0 w' S := by
  refine hf.new hg ?_
  intro r hr
  rcases List.mem_cons.1 hr with rfl | hr
  · have := h.1; omega
  · have := (World.ownsRow.lt h.2.2 r (by simpa using hr)).1; omega
/-- A block of another kind is none of a mail's. -/
theorem Ml.apart {w : World} {B p : Nat} {v : Value} {L : List Lt} {n : Nat} (h : Ml w B p v L n) {g : Nat} {cs : Array Value} {T : TypeId} {fz : Nat × Nat} (hg : w.heap[g]? = some (.cells cs T fz)) (h1 : T ≠ 26) (h2 : T ≠ 55) : g ∉ mbs p v := by
  intro hm
  rcases List.mem_cons.1 hm with rfl | hm
  · have := h.2.1.symm.trans hg
    simp at this
    exact h1 this.2.1.symm
  · exact row_ne h.2.2 hg h2 (by simpa using hm)
theorem Ml.at {w : World} {B p : Nat} {v : Value} {L : List Lt} {n : Nat} (h : Ml w B p v L n) (i : Nat) (hi : i < L.length) : ∃ g c, v = .slice (some ⟨g, 0, none⟩) L.length c ∧ L.length ≤ c ∧ c ≤ maxLen ∧
    w.cell? ⟨g, i * 2, none⟩ = some (.int .i64 (L.getD i dL).1) ∧ w.cell? ⟨g, i * 2 + 1, none⟩ = some (.string (L.getD i dL).2) := by
  obtain ⟨g, c, rfl, hc, hm, _⟩ := row_head h.2.2 (by omega)
  have h2 := World.ownsRow.cellAt h.2.2
  obtain ⟨g0, g1⟩ := ltC_get L i hi
  exact ⟨g, c, rfl, hc, hm, (h2 _ (by omega)).trans g0, (h2 _ (by omega)).trans g1⟩

theorem has_any (B p : Nat) (v : Value) (L : List Lt) (n : Nat) (i : Int) (w : World) (h : Ml w B p v L n) (b : Bool) (hb : decide (0 ≤ i ∧ i < (L.length : Int)) = b) :
    Calls Try.prog 23 #[.pointer (some ⟨p, 0, none⟩), .int .i64 i] w fun e w' => e = .returned (.bool b) ∧ w = w' := by
  obtain ⟨c0, _⟩ := h.cells
  obtain ⟨a, c, rfl⟩ := h.shape
  clear h
  obtain ⟨N, hN⟩ : ∃ N, N = L.length := ⟨_, rfl⟩
  rw [← hN] at c0 hb
  clear hN
  cases b with
  | true =>
    obtain ⟨h0, h1⟩ := of_decide_eq_true hb
    clear hb
    go_enter Try.func23, Try.ntmps23
    go_wp2
    go_ret
    exact ⟨rfl, rfl⟩
  | false =>
    have hb' := of_decide_eq_false hb
    clear hb
    by_cases h0 : 0 ≤ i
    · have h1 : ¬ i < (N : Int) := by omega
      clear hb'
      go_enter Try.func23, Try.ntmps23
      go_wp2
      go_ret
      exact ⟨rfl, rfl⟩
    · clear hb'
      go_enter Try.func23, Try.ntmps23
      go_wp2
      go_ret
      exact ⟨rfl, rfl⟩
theorem len_any (B p : Nat) (v : Value) (L : List Lt) (n : Nat) (w : World) (h : Ml w B p v L n) :
    Calls Try.prog 12 #[.pointer (some ⟨p, 0, none⟩)] w fun e w' => e = .returned (.int .i64 (L.length : Int)) ∧ w = w' := by
  obtain ⟨c0, _⟩ := h.cells
  obtain ⟨a, c, rfl⟩ := h.shape
  clear h
  go_enter Try.func12, Try.ntmps12
  go_wp2
  go_ret
  exact ⟨rfl, rfl⟩
theorem lost_any (B p : Nat) (v : Value) (L : List Lt) (n : Nat) (w : World) (h : Ml w B p v L n) :
    Calls Try.prog 14 #[.pointer (some ⟨p, 0, none⟩)] w fun e w' => e = .returned (.int .i64 (n : Int)) ∧ w = w' := by
  obtain ⟨_, c1⟩ := h.cells
  clear h
  go_enter Try.func14, Try.ntmps14
  go_wp2
  go_ret
  exact ⟨rfl, rfl⟩
end Go.Proofs.Ytlkmpmhbidhfcaa
