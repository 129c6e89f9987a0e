/- The document's: who is among them, a number put among those that rise, the set, who comes next. -/
import Derived.Test.YtjjlajcpngphpaaOrder
import Derived.Test.YtjjlajcpngphpaaHas
import Derived.Test.YtjjlajcpngphpaaRPut
namespace Go.Proofs.Ytjjlajcpngphpaa
open Go.RowKit

theorem putS_rises {l : List Int} {x : Int} (h : Rises l) : Rises (putS l x) := by
  induction l with
  | nil => simp [putS]
  | cons z l ih =>
    obtain ⟨a, b⟩ := List.pairwise_cons.1 h
    unfold putS
    by_cases h1 : z < x
    · rw [if_pos h1]
      refine List.pairwise_cons.2 ⟨fun y hy => ?_, ih b⟩
      rcases mem_putS.1 hy with rfl | hy
      · exact h1
      · exact a y hy
    · rw [if_neg h1]
      by_cases h2 : z = x
      · rw [if_pos h2]; exact h
      · rw [if_neg h2]
        refine List.pairwise_cons.2 ⟨fun y hy => ?_, h⟩
        rcases List.mem_cons.1 hy with rfl | hy
        · omega
        · have := a y hy; omega
theorem setS_inv (l : List Int) : ∀ (s : List Int), Rises s → Rises (l.foldl putS s) ∧ ∀ x, x ∈ l.foldl putS s ↔ x ∈ s ∨ x ∈ l := by
  induction l with
  | nil => intro s hs; exact ⟨hs, by simp⟩
  | cons y l ih =>
    intro s hs
    obtain ⟨a, b⟩ := ih (putS s y) (putS_rises hs)
    refine ⟨a, fun x => ?_⟩
    rw [List.foldl_cons, b, mem_putS, List.mem_cons]
    constructor
    · rintro ((h | h) | h)
      · exact .inr (.inl h)
      · exact .inl h
      · exact .inr (.inr h)
    · rintro (h | h | h)
      · exact .inl (.inr h)
      · exact .inl (.inl h)
      · exact .inr h
theorem setS_eq (l : List Int) : l.foldl putS [] = setOf l := by
  obtain ⟨a, b⟩ := setS_inv l [] List.Pairwise.nil
  exact rises_unique a (setOf_rises l) (fun x => by rw [b, mem_setOf]; simp)
set_option maxRecDepth 100000 in
theorem setS_any (v : Value) (l : List Int) (w : World) (h : HInts w v l) (hr : l.length ≤ 1000) :
    Calls Try.prog 20 #[v] w (Gives fun u w' => OwnI w' w.heap.size u (setOf l) ∧ w.grownBy w' none) := by
  obtain ⟨a, cap, rfl, h1, h2, h3⟩ := h
  unfold maxLen at h2
  have HLen : Hid (∀ k, (((l.take k).foldl putS [])).length ≤ 1000) := by
    intro k
    rw [setS_eq]
    have := setOf_length (l.take k)
    rw [List.length_take] at this
    omega
  go_enter Try.func20, Try.ntmps20
  go_wp2
  go_loopw [3, 4] (fun out i wr => ∃ k : Nat, k ≤ l.length ∧ i = .int .i64 k ∧ OwnI wr w.heap.size out ((l.take k).foldl putS []) ∧ w.grownBy wr none) (fun _ i _ => l.length - (intOf i).toNat)
  case atStart => exact ⟨0, Nat.zero_le _, rfl, OwnI.nil _ _, grown_refl _ _⟩
  case round =>
    obtain ⟨k, hk, rfl, ho, hg⟩ := hrel
    have O1 := Lib.hid ho
    have G1 := Lib.hid hg
    clear ho
    by_cases hlt : k < l.length
    · obtain ⟨b1, o1, rfl, k1⟩ := h3 (by omega)
      have g1 := hg.cell (k1 k hlt) (by simp)
      have hs := take_snoc l k hlt
      obtain ⟨z, hz⟩ : ∃ z, z = l.getD k 0 := ⟨_, rfl⟩
      rw [← hz] at g1 hs
      have HS : Hid ((l.take (k + 1)).foldl putS [] = putS ((l.take k).foldl putS []) z) := by show _ = _; rw [hs]; simp
      clear hs hz h3 k1 hg
      go_wp2_with fail
      refine (putS_any _ _ z wr O1.out.holds O1.out.form (by have := HLen.out k; omega)).mono ?_
      rintro e w2 ⟨u, rfl, ho2, hg2⟩
      have O2 : Hid (OwnI w2 w.heap.size u ((l.take (k + 1)).foldl putS [])) := by show _; rw [HS.out]; exact ho2.mono G1.out.size
      have G2 := Lib.hid (grown_trans G1.out hg2)
      clear ho2 hg2
      go_wp2
      go_roundw
      case rel => exact ⟨k + 1, by omega, by go_num, O2.out, G2.out⟩
      case measure => simp [intOf]; omega
    · obtain rfl : k = l.length := by omega
      have h9 := O1.out
      rw [List.take_length, setS_eq] at h9
      have HE := Lib.hid h9
      clear h9
      clear h3 hg
      go_wp2
      go_ret
      exact gives ⟨HE.out, G1.out⟩
theorem rises_first {l : List Int} (hl : Rises l) {c : Int} (k : Nat) (hk : k < l.length) (hlow : ∀ y ∈ l.take k, ¬ c < y) (h : c < l.getD k 0) : AboveIs l c (l.getD k 0) true := by
  refine .inr ⟨rfl, by simp [hk], h, fun y hy hn => ?_⟩
  obtain ⟨j, hj, rfl⟩ := List.getElem_of_mem hy
  rcases Nat.lt_trichotomy j k with h' | h' | h'
  · exact absurd hn (hlow _ (List.mem_take_iff_getElem.2 ⟨j, by omega, rfl⟩))
  · subst h'; simp [hk]
  · have := List.pairwise_iff_getElem.1 hl k j hk hj h'
    simp [hk]; omega
theorem rises_least {l : List Int} (hl : Rises l) (h : 0 < l.length) : LeastIs l (l.getD 0 0) true := by
  cases l with
  | nil => simp at h
  | cons x l =>
    obtain ⟨a, _⟩ := List.pairwise_cons.1 hl
    refine .inr ⟨rfl, by simp, fun y hy => ?_⟩
    rcases List.mem_cons.1 hy with rfl | hy
    · simp
    · have := a y hy; simp; omega
end Go.Proofs.Ytjjlajcpngphpaa
