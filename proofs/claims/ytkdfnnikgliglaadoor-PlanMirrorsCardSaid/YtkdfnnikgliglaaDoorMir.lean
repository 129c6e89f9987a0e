/- Bits upside down; the stops' cells beside a box of stops of the call's own. -/
import Derived.Test.YtkdfnnikgliglaaDoorAhd3
namespace Go.Proofs.YtkdfnnikgliglaaDoor
open Go.RowKit

/-- The first k bits, upside down. -/
def mirTo (n : Nat) : Nat → Nat
  | 0 => 0
  | k + 1 => if hasB n k then mirTo n k ||| oneN (63 - (k : Int)) else mirTo n k
theorem mirTo_lt (n : Nat) : ∀ k, mirTo n k < 18446744073709551616
  | 0 => (by decide : 0 < 18446744073709551616)
  | k + 1 => by
    unfold mirTo
    split
    · exact or_lt (mirTo_lt n k) (oneN_lt _)
    · exact mirTo_lt n k
theorem hasB_mirTo (n : Nat) : ∀ (k : Nat), k ≤ 64 → ∀ z : Int, hasB (mirTo n k) z = (decide (63 - z < k) && hasB n (63 - z))
  | 0, _, z => by
    rw [mirTo, hasB_zero]
    by_cases h : 63 - z < 0
    · rw [hasB_neg h]; simp
    · rw [decide_eq_false (by omega)]; rfl
  | k + 1, hk, z => by
    have ih := hasB_mirTo n k (by omega) z
    unfold mirTo
    by_cases hb : hasB n k = true
    · rw [if_pos hb, hasB_or, ih, hasB_one]
      by_cases hz : z = 63 - (k : Int)
      · subst hz
        rw [show (63 : Int) - (63 - (k : Int)) = k by omega, hb]
        have : decide ((63 : Int) - k = 63 - k ∧ 0 ≤ (63 : Int) - k ∧ (63 : Int) - k < 64) = true := decide_eq_true (by omega)
        rw [this, Bool.or_true]
        exact (decide_eq_true (by omega)).symm.trans (Bool.and_true _).symm
      · rw [show decide (z = 63 - (k : Int) ∧ 0 ≤ 63 - (k : Int) ∧ 63 - (k : Int) < 64) = false from decide_eq_false (fun e => hz e.1), Bool.or_false]
        congr 1
        exact decide_eq_decide.2 (by omega)
    · rw [if_neg hb, ih]
      by_cases hz : z = 63 - (k : Int)
      · subst hz
        rw [show (63 : Int) - (63 - (k : Int)) = k by omega]
        rw [show hasB n k = false by simpa using hb]
        simp
      · congr 1
        exact decide_eq_decide.2 (by omega)
theorem hasB_mir {n : Nat} (hn : n < 18446744073709551616) (z : Int) : hasB (mirTo n 64) z = hasB n (63 - z) := by
  rw [hasB_mirTo n 64 (by omega)]
  by_cases h : 63 - z < 64
  · rw [decide_eq_true (by omega), Bool.true_and]
  · rw [hasB_big hn (by omega)]; simp
theorem mir_yes {n k : Nat} (h : hasB n k = true) : mirTo n (k + 1) = mirTo n k ||| oneN (63 - (k : Int)) := by rw [mirTo, if_pos h]
theorem mir_no {n k : Nat} (h : hasB n k = false) : mirTo n (k + 1) = mirTo n k := by rw [mirTo, if_neg (by simp [h])]
theorem mir_step (n k : Nat) (x : Bool) (h : x = hasB n k) (m : Nat) (hm : m = mirTo n k) (o : Nat) (ho : o = oneN (63 - (k : Int))) : mirTo n (k + 1) = if x then m ||| o else m := by
  rw [mirTo, ← h, hm, ho]
/-- The stops upside down. -/
def Sp.mir (s : Sp) (k : Nat) : Sp := ⟨mirTo s.c k, mirTo s.d k, mirTo s.u k⟩
theorem Sp.mir_ok (s : Sp) (k : Nat) : (s.mir k).ok := ⟨mirTo_lt _ _, mirTo_lt _ _, mirTo_lt _ _⟩
theorem Sp.mir_all {s : Sp} (h : s.ok) (z : Int) : hasB (s.mir 64).all z = hasB s.all (63 - z) := by
  unfold Sp.all Sp.mir
  rw [hasB_or, hasB_or, hasB_or, hasB_or, hasB_mir h.c, hasB_mir h.d, hasB_mir h.u, Bool.or_assoc, Bool.or_comm (hasB s.d _), ← Bool.or_assoc]
/-- The stops' cells, and a box of stops of the call's own; in a world that came of W. -/
def MS (W : World) (p u d b : Nat) (t : Sp) (a : World) : Prop := SS W W.heap.size p u d a ∧ W.heap.size < b ∧ a.heap[b]? = some (t.box 24)
theorem MS.fr {W : World} {p u d b : Nat} {t : Sp} {a a' : World} (h : MS W p u d b t a) (k : Fr a a' []) : MS W p u d b t a' := ⟨h.1.fr k, h.2.1, k.heap h.2.2 (by simp)⟩
theorem MS.cells {W : World} {p u d b : Nat} {t : Sp} {a : World} (h : MS W p u d b t a) : (Fr W a [] ∧ a.cell? ⟨W.heap.size, 0, none⟩ = some (.int .u64 p) ∧ a.cell? ⟨W.heap.size, 1, none⟩ = some (.int .u64 u) ∧ a.cell? ⟨W.heap.size, 2, none⟩ = some (.int .u64 d)) ∧
    a.cell? ⟨b, 0, none⟩ = some (.int .u64 t.c) ∧ a.cell? ⟨b, 1, none⟩ = some (.int .u64 t.u) ∧ a.cell? ⟨b, 2, none⟩ = some (.int .u64 t.d) := ⟨h.1, arow h.2.2⟩
theorem MS.fz {W : World} {p u d b : Nat} {t : Sp} {a : World} (h : MS W p u d b t a) (i : Nat) : a.frozen? ⟨b, i, none⟩ = false := frozen_of_row _ _ i _ _ h.2.2
theorem MS.turn {W : World} {p u d b : Nat} {t t' : Sp} {a a' : World} (h : MS W p u d b t a) (k : Fr a a' [b]) (r : a'.heap[b]? = some (t'.box 24)) : MS W p u d b t' a' := by
  obtain ⟨⟨h0, h1, h2, h3⟩, hb, _⟩ := h
  have hn : W.heap.size ∉ [b] := by simp; omega
  exact ⟨⟨h0.new k (by simp; omega), k.cell h1 hn, k.cell h2 hn, k.cell h3 hn⟩, hb, r⟩
theorem MS.put0 {W : World} {p u d b : Nat} {t : Sp} {a : World} (h : MS W p u d b t a) (x : Nat) : MS W p u d b ⟨x, t.u, t.d⟩ (a.setCell ⟨b, 0, none⟩ (.int .u64 x)) := h.turn (Fr.setCell a b 0 _ (by simp)) (aput0 h.2.2 _)
theorem MS.put1 {W : World} {p u d b : Nat} {t : Sp} {a : World} (h : MS W p u d b t a) (x : Nat) : MS W p u d b ⟨t.c, x, t.d⟩ (a.setCell ⟨b, 1, none⟩ (.int .u64 x)) := h.turn (Fr.setCell a b 1 _ (by simp)) (aput1 h.2.2 _)
theorem MS.put2 {W : World} {p u d b : Nat} {t : Sp} {a : World} (h : MS W p u d b t a) (x : Nat) : MS W p u d b ⟨t.c, t.u, x⟩ (a.setCell ⟨b, 2, none⟩ (.int .u64 x)) := h.turn (Fr.setCell a b 2 _ (by simp)) (aput2 h.2.2 _)
/-- Both boxes' cells, for a region that only reads. -/
def MR (W : World) (p u d b p' u' d' : Nat) (a : World) : Prop := Fr W a [] ∧
  (a.cell? ⟨W.heap.size, 0, none⟩ = some (.int .u64 p) ∧ a.cell? ⟨W.heap.size, 1, none⟩ = some (.int .u64 u) ∧ a.cell? ⟨W.heap.size, 2, none⟩ = some (.int .u64 d)) ∧
  a.cell? ⟨b, 0, none⟩ = some (.int .u64 p') ∧ a.cell? ⟨b, 1, none⟩ = some (.int .u64 u') ∧ a.cell? ⟨b, 2, none⟩ = some (.int .u64 d')
theorem MR.fr {W : World} {p u d b p' u' d' : Nat} {a a' : World} (h : MR W p u d b p' u' d' a) (k : Fr a a' []) : MR W p u d b p' u' d' a' := by
  obtain ⟨h0, ⟨h1, h2, h3⟩, h4, h5, h6⟩ := h
  exact ⟨h0.trans k, ⟨k.cell h1 (by simp), k.cell h2 (by simp), k.cell h3 (by simp)⟩, k.cell h4 (by simp), k.cell h5 (by simp), k.cell h6 (by simp)⟩
theorem MS.read {W : World} {p u d b : Nat} {t : Sp} {a : World} (h : MS W p u d b t a) : MR W p u d b t.c t.u t.d a := ⟨h.1.1, h.1.2, arow h.2.2⟩

end Go.Proofs.YtkdfnnikgliglaaDoor
