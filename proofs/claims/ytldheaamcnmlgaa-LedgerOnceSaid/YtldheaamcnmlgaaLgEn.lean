/- An entry in its place; what a car wants, entry by entry; a slice of bids, bid by bid. -/
import Derived.Test.YtldheaamcnmlgaaLgA13
import Derived.Test.YtldheaamcnmlgaaLgWant
namespace Go.Proofs.Ytldheaamcnmlgaa
open Go.RowKit Fm

/-- An entry in its place. -/
def EnAt (b o : Nat) (e : En) (vb : Value) (a : World) : Prop := a.cell? ⟨b, o, none⟩ = some (.int .i64 e.fl) ∧ a.cell? ⟨b, o + 1, none⟩ = some (.int .i64 e.di) ∧ a.cell? ⟨b, o + 2, none⟩ = some (.int .i64 e.ge) ∧ a.cell? ⟨b, o + 3, none⟩ = some vb ∧ a.cell? ⟨b, o + 4, none⟩ = some (.int .i64 e.aw)
theorem EnAt.keep {b o : Nat} {e : En} {vb : Value} {a c : World} (h : EnAt b o e vb a) (k : Fr a c []) : EnAt b o e vb c := ⟨k.cell h.1 (by simp), k.cell h.2.1 (by simp), k.cell h.2.2.1 (by simp), k.cell h.2.2.2.1 (by simp), k.cell h.2.2.2.2 (by simp)⟩
theorem HE.ent {w : World} {a : Option Addr} {n c : Nat} {es : List En} (h : HE w (.slice a n c) es) {i : Nat} (hi : i < n) : ∃ b off vb, a = some ⟨b, off, none⟩ ∧ EnAt b (off + i * 5) (es.getD i zeroE) vb w ∧ HB w vb (es.getD i zeroE).bs := by
  obtain ⟨a', c', e, _, _, h3⟩ := h
  simp only [Value.slice.injEq] at e
  obtain ⟨rfl, rfl, rfl⟩ := e
  obtain ⟨b, off, rfl, hc⟩ := h3 (by omega)
  obtain ⟨vb, h0, h1, h2, h3, h4, h5⟩ := hc i hi
  exact ⟨b, off, vb, rfl, ⟨h0, h1, h2, h3, h4⟩, h5⟩
theorem HCl.call {w : World} {a : Option Addr} {n c : Nat} {l : List (Int × Int)} (h : HCl w (.slice a n c) l) {i : Nat} (hi : i < n) : ∃ b off, a = some ⟨b, off, none⟩ ∧ w.cell? ⟨b, off + i * 2, none⟩ = some (.int .i64 (l.getD i (0, 0)).1) ∧ w.cell? ⟨b, off + i * 2 + 1, none⟩ = some (.int .i64 (l.getD i (0, 0)).2) := by
  obtain ⟨a', c', e, _, _, h3⟩ := h
  simp only [Value.slice.injEq] at e
  obtain ⟨rfl, rfl, rfl⟩ := e
  obtain ⟨b, off, rfl, hc⟩ := h3 (by omega)
  exact ⟨b, off, rfl, hc i hi⟩
theorem HB.bid {w : World} {a : Option Addr} {n c : Nat} {l : List (Int × Int)} (h : HB w (.slice a n c) l) {i : Nat} (hi : i < n) : ∃ b off, a = some ⟨b, off, none⟩ ∧ w.cell? ⟨b, off + i * 2, none⟩ = some (.int .i64 (l.getD i (0, 0)).1) ∧ w.cell? ⟨b, off + i * 2 + 1, none⟩ = some (.int .i64 (l.getD i (0, 0)).2) := by
  obtain ⟨a', c', e, _, _, h3⟩ := h
  simp only [Value.slice.injEq] at e
  obtain ⟨rfl, rfl, rfl⟩ := e
  obtain ⟨b, off, rfl, hc⟩ := h3 (by omega)
  exact ⟨b, off, rfl, hc i hi⟩
/-- Is a bid of a car's among the first k? -/
def hasC (bs : List (Int × Int)) (c : Int) (k : Nat) : Bool := (bs.take k).any fun b => decide (b.1 = c)
theorem hasC_zero (bs : List (Int × Int)) (c : Int) : hasC bs c 0 = false := by simp [hasC]
theorem hasC_step {bs : List (Int × Int)} {c : Int} {k : Nat} (h : k < bs.length) : hasC bs c (k + 1) = (hasC bs c k || decide ((bs.getD k (0, 0)).1 = c)) := by
  unfold hasC
  rw [List.take_succ_eq_append_getElem h, List.any_append]
  simp [h]
theorem hasC_all {bs : List (Int × Int)} {c : Int} : hasC bs c bs.length = false ↔ ∀ b ∈ bs, b.1 ≠ c := by
  unfold hasC
  rw [List.take_length, List.any_eq_false]
  simp
/-- How many of the first i are wanted. -/
def cntW (ms : List Int) (es : List En) (c : Int) (i : Nat) : Nat := if c ∈ ms then ((es.take i).filter (wantE c)).length else 0
theorem cntW_take {ms : List Int} {es : List En} {c : Int} {i : Nat} (h : i < es.length) : cntW ms es c (i + 1) = cntW ms es c i + (if c ∈ ms ∧ wantE c (es.getD i zeroE) = true then 1 else 0) := by
  have e : es.take (i + 1) = es.take i ++ [es.getD i zeroE] := by rw [List.take_succ_eq_append_getElem h]; simp [h]
  unfold cntW
  by_cases q : c ∈ ms
  · rw [if_pos q, if_pos q, e, List.filter_append, List.length_append]
    congr 1
    by_cases p : wantE c (es.getD i zeroE) = true
    · rw [if_pos ⟨q, p⟩, List.filter_cons, if_pos p]; rfl
    · rw [if_neg (fun z => p z.2), List.filter_cons, if_neg p]; rfl
  · rw [if_neg q, if_neg q, if_neg (fun z => q z.1)]
theorem cntW_at {r : Rg} {c : Int} {i : Nat} (h : i < r.es.length) (hc : c ∈ r.ms) (hw : wantE c (r.es.getD i zeroE) = true) : cntW r.ms r.es c i < (wantsR r c).length ∧ (wantsR r c).getD (cntW r.ms r.es c i) (0, 0) = callOf (r.es.getD i zeroE) := by
  obtain ⟨h1, h2⟩ := filter_at (wantE c) zeroE r.es i h hw
  unfold cntW wantsR
  rw [if_pos hc, if_pos hc]
  refine ⟨by rw [List.length_map]; exact h2, ?_⟩
  rw [← h1]
  simp only [List.getD_eq_getElem?_getD, List.getElem?_map, List.getElem?_eq_getElem h2]
  rfl
theorem cntW_all (r : Rg) (c : Int) : cntW r.ms r.es c r.es.length = (wantsR r c).length := by
  unfold cntW wantsR
  rw [List.take_length]
  split
  · rw [List.length_map]
  · rfl
theorem cntW_le (ms : List Int) (es : List En) (c : Int) (i : Nat) : cntW ms es c i ≤ i := by
  unfold cntW
  split
  · refine Nat.le_trans (List.length_filter_le _ _) ?_
    rw [List.length_take]
    omega
  · omega
theorem wants_le (r : Rg) (c : Int) : (wantsR r c).length ≤ r.es.length := by rw [← cntW_all]; exact cntW_le _ _ _ _
end Go.Proofs.Ytldheaamcnmlgaa
