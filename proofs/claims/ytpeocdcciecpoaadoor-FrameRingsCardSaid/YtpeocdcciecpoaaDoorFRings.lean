/- The frames of the law of rings, as plain data: which of them may be. -/
import Derived.Test.YtpeocdcciecpoaaDoorFOwn
namespace Go.Proofs.YtpeocdcciecpoaaDoor
open Go.RowKit Fm

def evens (m : Nat) : List Int := (List.range m).map fun (i : Nat) => 2 * (i : Int)
def ent (i : Nat) : En := ⟨(i : Int), 1, 1, [(0, (i : Int)), (2, 5)], -1⟩
def ents (m : Nat) : List En := (List.range m).map ent
/-- A token of this ring. -/
def tok (co se : Int) (ms : List Int) (es : List En) : F := ⟨2, 0, 2, 0, se, false, ⟨co, 1, 4, ms, es⟩⟩
theorem evens_succ (m : Nat) : evens (m + 1) = evens m ++ [2 * (m : Int)] := by simp [evens, List.range_succ]
theorem ents_succ (m : Nat) : ents (m + 1) = ents m ++ [ent m] := by simp [ents, List.range_succ]
theorem evens_len (m : Nat) : (evens m).length = m := by simp [evens]
theorem ents_len (m : Nat) : (ents m).length = m := by simp [ents]
theorem ents_get (m i : Nat) (h : i < m) : (ents m)[i]? = some (ent i) := by simp [ents, h]
theorem five {P : Nat → Prop} (h2 : P 2) (h3 : P 3) (h4 : P 4) (h5 : P 5) (h6 : P 6) (m : Nat) (a : 2 ≤ m) (b : m ≤ 6) : P m := by
  have : m = 2 ∨ m = 3 ∨ m = 4 ∨ m = 5 ∨ m = 6 := by omega
  rcases this with rfl | rfl | rfl | rfl | rfl <;> assumption
theorem tok_ok (m : Nat) (a : 2 ≤ m) (b : m ≤ 6) : frameC (tok 3 0 (evens m) (ents m)) = 0 := five (P := fun m => frameC (tok 3 0 (evens m) (ents m)) = 0) (by decide +kernel) (by decide +kernel) (by decide +kernel) (by decide +kernel) (by decide +kernel) m a b
theorem tok0 (m : Nat) (a : 2 ≤ m) (b : m ≤ 6) : frameC (tok 3 0 (4 :: evens m) (ents m)) = 11 := five (P := fun m => frameC (tok 3 0 (4 :: evens m) (ents m)) = 11) (by decide +kernel) (by decide +kernel) (by decide +kernel) (by decide +kernel) (by decide +kernel) m a b
theorem tok1 (m : Nat) (a : 2 ≤ m) (b : m ≤ 6) : frameC (tok 3 0 (evens m) [ent 1, ent 0]) = 11 := five (P := fun m => frameC (tok 3 0 (evens m) [ent 1, ent 0]) = 11) (by decide +kernel) (by decide +kernel) (by decide +kernel) (by decide +kernel) (by decide +kernel) m a b
theorem tok2 (m : Nat) (a : 2 ≤ m) (b : m ≤ 6) : frameC (tok 3 0 (evens m) [⟨0, 1, 1, [(1, 0)], -1⟩]) = 3 := five (P := fun m => frameC (tok 3 0 (evens m) [⟨0, 1, 1, [(1, 0)], -1⟩]) = 3) (by decide +kernel) (by decide +kernel) (by decide +kernel) (by decide +kernel) (by decide +kernel) m a b
theorem tok3 (m : Nat) (a : 2 ≤ m) (b : m ≤ 6) : frameC (tok 3 0 (evens m) [⟨0, 1, 1, [], 1⟩]) = 3 := five (P := fun m => frameC (tok 3 0 (evens m) [⟨0, 1, 1, [], 1⟩]) = 3) (by decide +kernel) (by decide +kernel) (by decide +kernel) (by decide +kernel) (by decide +kernel) m a b
theorem tok4 (m : Nat) (a : 2 ≤ m) (b : m ≤ 6) : frameC (tok 3 0 (evens m) [⟨0, 1, 1, [(2, 0), (0, 0)], -1⟩]) = 11 := five (P := fun m => frameC (tok 3 0 (evens m) [⟨0, 1, 1, [(2, 0), (0, 0)], -1⟩]) = 11) (by decide +kernel) (by decide +kernel) (by decide +kernel) (by decide +kernel) (by decide +kernel) m a b
theorem tok5 (m : Nat) (a : 2 ≤ m) (b : m ≤ 6) : frameC (tok 3 0 [] (ents m)) = 4 := five (P := fun m => frameC (tok 3 0 [] (ents m)) = 4) (by decide +kernel) (by decide +kernel) (by decide +kernel) (by decide +kernel) (by decide +kernel) m a b
theorem tok6 (m : Nat) (a : 2 ≤ m) (b : m ≤ 6) : frameC (tok 0 0 (evens m) (ents m)) = 3 := five (P := fun m => frameC (tok 0 0 (evens m) (ents m)) = 3) (by decide +kernel) (by decide +kernel) (by decide +kernel) (by decide +kernel) (by decide +kernel) m a b
theorem tok7 (m : Nat) (a : 2 ≤ m) (b : m ≤ 6) : frameC (tok 3 1 (evens m) (ents m)) = 3 := five (P := fun m => frameC (tok 3 1 (evens m) (ents m)) = 3) (by decide +kernel) (by decide +kernel) (by decide +kernel) (by decide +kernel) (by decide +kernel) m a b
theorem tok8 (m : Nat) (a : 2 ≤ m) (b : m ≤ 6) : frameC (tok 3 0 (evens m) [⟨1, 0, 1, [], -1⟩]) = 3 := five (P := fun m => frameC (tok 3 0 (evens m) [⟨1, 0, 1, [], -1⟩]) = 3) (by decide +kernel) (by decide +kernel) (by decide +kernel) (by decide +kernel) (by decide +kernel) m a b
theorem tok9 (m : Nat) (a : 2 ≤ m) (b : m ≤ 6) : frameC (tok 3 0 (evens m) [⟨1, 1, 0, [], -1⟩]) = 3 := five (P := fun m => frameC (tok 3 0 (evens m) [⟨1, 1, 0, [], -1⟩]) = 3) (by decide +kernel) (by decide +kernel) (by decide +kernel) (by decide +kernel) (by decide +kernel) m a b

/-- A fresh row is the call's own. -/
theorem fresh_row {w : World} {B sz n g c : Nat} {T : TypeId} {xs : List Value} (h : w.heap[g]? = some (.cells xs.toArray T (0, 0))) (hB : B ≤ g) (hn : xs.length = n * sz) (hc : n = c) (hm : c ≤ maxLen) : w.ownsRow B T sz (.slice (some ⟨g, 0, none⟩) n c) n xs := by
  subst hc
  exact ⟨hn, .inr ⟨g, n, xs.toArray, rfl, hB, h, Nat.le_refl _, hm, by simp [hn], by rw [← hn]; simp⟩⟩
end Go.Proofs.YtpeocdcciecpoaaDoor
