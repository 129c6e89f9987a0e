/- Unlike epochs have unlike texts (no model in this text but the library's numerals). -/
import Derived.Test.YtnlicmcijmglfaaDoorEpoch2
import Derived.Laws.StructEq
namespace Go.Proofs.YtnlicmcijmglfaaDoor
open Go.RowKit

/-- The number that digits stand for. -/
def valD (l : List UInt8) : Nat := l.foldl (fun a b => a * 10 + (b.toNat - 48)) 0
theorem byte_digit (d : Nat) (h : d < 10) : (UInt8.ofNat (48 + d)).toNat = 48 + d := by
  rw [UInt8.toNat_ofNat']; omega
theorem valD_dec (u : Nat) : valD (Lib.decDigits u) = u := by
  induction u using Nat.strongRecOn with
  | _ u ih =>
    rw [Lib.decDigits]
    split
    · rename_i h
      simp only [valD, List.foldl_cons, List.foldl_nil, byte_digit u h]; omega
    · have h1 := ih (u / 10) (by omega)
      unfold valD at h1 ⊢
      rw [List.foldl_append, h1]
      simp only [List.foldl_cons, List.foldl_nil, byte_digit (u % 10) (by omega)]
      omega
theorem dec_inj {u v : Nat} (h : Lib.decDigits u = Lib.decDigits v) : u = v := by rw [← valD_dec u, h, valD_dec v]
theorem dec_digits (u : Nat) : ∀ b ∈ Lib.decDigits u, b ≠ 46 := by
  induction u using Nat.strongRecOn with
  | _ u ih =>
    have key : ∀ d, d < 10 → UInt8.ofNat (48 + d) ≠ 46 := fun d h e => by
      have := congrArg UInt8.toNat e
      rw [byte_digit d h] at this
      have h46 : (46 : UInt8).toNat = 46 := rfl
      omega
    intro b hb
    rw [Lib.decDigits] at hb
    split at hb
    · rename_i h
      simp only [List.mem_singleton] at hb
      rw [hb]; exact key u h
    · rcases List.mem_append.1 hb with h1 | h1
      · exact ih (u / 10) (by omega) b h1
      · simp only [List.mem_singleton] at h1
        rw [h1]; exact key _ (by omega)
theorem point_split {x : UInt8} : ∀ {l m r s : List UInt8}, (∀ b ∈ l, b ≠ x) → (∀ b ∈ m, b ≠ x) → l ++ x :: r = m ++ x :: s → l = m ∧ r = s
  | [], [], r, s, _, _, h => ⟨rfl, by simpa using h⟩
  | [], b :: m, r, s, _, hm, h => absurd (List.cons.inj h).1.symm (hm b (by simp))
  | a :: l, [], r, s, hl, _, h => absurd (List.cons.inj h).1 (hl a (by simp))
  | a :: l, b :: m, r, s, hl, hm, h => by
    obtain ⟨h1, h2⟩ := List.cons.inj h
    obtain ⟨h3, h4⟩ := point_split (fun y hy => hl y (by simp [hy])) (fun y hy => hm y (by simp [hy])) h2
    exact ⟨by rw [h1, h3], h4⟩
theorem epTxt_list (c f : Int) : (epTxt c f).data.toList = Lib.itoa c ++ 46 :: Lib.itoa f := by
  unfold epTxt
  simp [ByteArray.data_append]
theorem epTxt_inj {c f d g : Nat} (h : epTxt c f = epTxt d g) : c = d ∧ f = g := by
  have h1 := congrArg (fun x : ByteArray => x.data.toList) h
  simp only [epTxt_list, Lib.itoa_nonneg] at h1
  obtain ⟨h2, h3⟩ := point_split (dec_digits c) (dec_digits d) h1
  exact ⟨dec_inj h2, dec_inj h3⟩
/-- Unlike texts, as the walk asks it. -/
theorem txt_ne {a b : ByteArray} (h : ¬ a = b) : (a.toList == b.toList) = false := by
  rw [ByteArray.toList_eq, ByteArray.toList_eq]
  have : ¬ a.data.toList = b.data.toList := fun e => h (by
    obtain ⟨a⟩ := a; obtain ⟨b⟩ := b
    simp only at e
    rw [Array.toList_inj.1 e])
  simpa using this
end Go.Proofs.YtnlicmcijmglfaaDoor
