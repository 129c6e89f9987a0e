/- A latch by value, fields, lists (ROpen over Lat). -/
import Derived.Test.YtldheaamcnmlgaaGLc
import Derived.Test.YtldheaamcnmlgaaGLa
import Derived.ProofKit
import Derived.OpenShut
import Derived.Deep.Slices
import Derived.Deep.Fields
import Derived.ChangeSame
namespace Go.Proofs.Ytldheaamcnmlgaa
open Go.RowKit Go.ChangeShapes Go.WideShapes Go.Deep

section
variable {H : Type} {enc : TypeId × Value → H} {w : World} {base : Nat} {held : Bool}
set_option maxRecDepth 100000 in
theorem fld {P : Program} {spare : Nat → Bool} {fuel : Nat} {t : TypeId} {fs : Array Field} {cs : List Value} {x : DataW H × List MemPlace} (ht : P.underlying t = some (.struct fs)) (h : DataW.trod enc P w base spare held fuel t cs = some x) (i : Nat) (f : Field) (hi : fs[i]? = some f) (o k : Nat) (T : TypeId) (hT : f.type = T) (ho : f.offset = o) (hk : P.cellsOf T = k) :
    ∃ n y, DataW.trod enc P w base spare held n T ((cs.drop o).take k) = some y := by
  obtain ⟨xs, n, _, _, _, hl, hf⟩ := DataW.trod_struct ht h
  have h1 := hf i f hi
  have hlt : i < xs.length := by rw [hl]; exact (Array.getElem?_eq_some_iff.1 hi).1
  rw [List.getElem?_eq_getElem hlt] at h1
  subst hT ho hk
  exact ⟨n, _, h1⟩
set_option maxRecDepth 100000 in
theorem list_of {α : Type} (d : α) (Q : Nat → α → Prop) : ∀ n, (∀ i, i < n → ∃ a, Q i a) → ∃ l : List α, l.length = n ∧ ∀ i, i < n → Q i (l.getD i d)
  | 0, _ => ⟨[], rfl, fun i hi => by omega⟩
  | n + 1, h => by
    obtain ⟨l, hl, hq⟩ := list_of d Q n (fun i hi => h i (by omega))
    obtain ⟨a, ha⟩ := h n (by omega)
    refine ⟨l ++ [a], by simp [hl], fun i hi => ?_⟩
    by_cases e : i = n
    · subst e
      have : (l ++ [a]).getD i d = a := by simp [List.getD, ← hl]
      rw [this]; exact ha
    · have : (l ++ [a]).getD i d = l.getD i d := by simp [List.getD, List.getElem?_append_left (show i < l.length by omega)]
      rw [this]; exact hq i (by omega)
set_option maxRecDepth 100000 in
theorem add_zero (a : Addr) : a.add 0 = a := by unfold Addr.add; simp
set_option maxRecDepth 100000 in
/-- A latch's cells. -/
theorem open_latch {fuel : Nat} {cs : List Value} {x : DataW H × List MemPlace} (h : DataW.trod enc Try.prog w base (fun _ => true) held fuel 37 cs = some x) : ∃ y : La, cs = y.cl := by
  obtain ⟨_, _, _, _, hlen, _⟩ := DataW.trod_struct Try.underlying37 h
  rw [show Try.prog.cellsOf 37 = 3 by kernel_rfl] at hlen
  obtain ⟨r0, z0, g0⟩ := fld Try.underlying37 h 0 _ rfl 0 2 35 rfl rfl (by kernel_rfl)
  obtain ⟨r1, z1, g1⟩ := fld Try.underlying37 h 1 _ rfl 2 1 3 rfl rfl (by kernel_rfl)
  obtain ⟨s0, u0, k0⟩ := fld Try.underlying35 g0 0 _ rfl 0 1 3 rfl rfl (by kernel_rfl)
  obtain ⟨s1, u1, k1⟩ := fld Try.underlying35 g0 1 _ rfl 1 1 3 rfl rfl (by kernel_rfl)
  match cs, hlen with
  | [c0, c1, c2], _ =>
    obtain ⟨q0, e0, _⟩ := DataW.trod_int Try.underlying3 k0
    obtain ⟨q1, e1, _⟩ := DataW.trod_int Try.underlying3 k1
    obtain ⟨q2, e2, _⟩ := DataW.trod_int Try.underlying3 g1
    simp at e0 e1 e2
    subst e0 e1 e2
    exact ⟨⟨q0, q1, q2⟩, rfl⟩
end
end Go.Proofs.Ytldheaamcnmlgaa
