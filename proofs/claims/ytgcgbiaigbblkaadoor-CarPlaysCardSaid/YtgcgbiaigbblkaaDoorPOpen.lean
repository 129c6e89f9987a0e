/- A house, a state by value. -/
import Derived.Test.YtgcgbiaigbblkaaDoorPlant3
import Derived.ProofKit
import Derived.OpenShut
import Derived.Deep.Slices
import Derived.Deep.Fields
import Derived.ChangeSame
namespace Go.Proofs.YtgcgbiaigbblkaaDoor
open Go.RowKit Go.ChangeShapes Go.WideShapes Go.Deep

section
variable {H : Type} {enc : TypeId × Value → H} {w : World} {base : Nat} {held : Bool}
theorem hfld {P : Program} {spare : Nat → Bool} {fuel : Nat} {t : TypeId} {fs : Array Field} {cs : List Value} {x : DataW H × List MemPlace} (ht : P.underlying t = some (.struct fs)) (h : DataW.trod enc P w base spare held fuel t cs = some x) (i : Nat) (f : Field) (hi : fs[i]? = some f) (o k : Nat) (T : TypeId) (hT : f.type = T) (ho : f.offset = o) (hk : P.cellsOf T = k) :
    ∃ n y, DataW.trod enc P w base spare held n T ((cs.drop o).take k) = some y := by
  obtain ⟨xs, n, _, _, _, hl, hf⟩ := DataW.trod_struct ht h
  have h1 := hf i f hi
  have hlt : i < xs.length := by rw [hl]; exact (Array.getElem?_eq_some_iff.1 hi).1
  rw [List.getElem?_eq_getElem hlt] at h1
  subst hT ho hk
  exact ⟨n, _, h1⟩
/-- A house's cells. -/
theorem open_house {fuel : Nat} {cs : List Value} {x : DataW H × List MemPlace} (h : DataW.trod enc Tryd.prog w base (fun _ => true) held fuel 23 cs = some x) : ∃ y : Ho, cs = [.int .i64 y.c, .int .i64 y.f, .int .i64 y.s, .int .i64 y.d] := by
  obtain ⟨_, _, _, _, hlen, _⟩ := DataW.trod_struct Tryd.underlying23 h
  rw [show Tryd.prog.cellsOf 23 = 4 by kernel_rfl] at hlen
  obtain ⟨r0, z0, g0⟩ := hfld Tryd.underlying23 h 0 _ rfl 0 1 3 rfl rfl (by kernel_rfl)
  obtain ⟨r1, z1, g1⟩ := hfld Tryd.underlying23 h 1 _ rfl 1 1 3 rfl rfl (by kernel_rfl)
  obtain ⟨r2, z2, g2⟩ := hfld Tryd.underlying23 h 2 _ rfl 2 1 3 rfl rfl (by kernel_rfl)
  obtain ⟨r3, z3, g3⟩ := hfld Tryd.underlying23 h 3 _ rfl 3 1 3 rfl rfl (by kernel_rfl)
  match cs, hlen with
  | [c0, c1, c2, c3], _ =>
    obtain ⟨q0, e0, _⟩ := DataW.trod_int Tryd.underlying3 g0
    obtain ⟨q1, e1, _⟩ := DataW.trod_int Tryd.underlying3 g1
    obtain ⟨q2, e2, _⟩ := DataW.trod_int Tryd.underlying3 g2
    obtain ⟨q3, e3, _⟩ := DataW.trod_int Tryd.underlying3 g3
    simp at e0 e1 e2 e3
    subst e0 e1 e2 e3
    exact ⟨⟨q0, q1, q2, q3⟩, rfl⟩
/-- A state's cells. -/
theorem open_state {fuel : Nat} {cs : List Value} {x : DataW H × List MemPlace} (h : DataW.trod enc Tryd.prog w base (fun _ => true) held fuel 28 cs = some x) : ∃ y : St, cs = [.int .i64 y.p, .int .i64 y.e, .int .i64 y.o, .bool y.r] := by
  obtain ⟨_, _, _, _, hlen, _⟩ := DataW.trod_struct Tryd.underlying28 h
  rw [show Tryd.prog.cellsOf 28 = 4 by kernel_rfl] at hlen
  obtain ⟨r0, z0, g0⟩ := hfld Tryd.underlying28 h 0 _ rfl 0 1 3 rfl rfl (by kernel_rfl)
  obtain ⟨r1, z1, g1⟩ := hfld Tryd.underlying28 h 1 _ rfl 1 1 3 rfl rfl (by kernel_rfl)
  obtain ⟨r2, z2, g2⟩ := hfld Tryd.underlying28 h 2 _ rfl 2 1 3 rfl rfl (by kernel_rfl)
  obtain ⟨r3, z3, g3⟩ := hfld Tryd.underlying28 h 3 _ rfl 3 1 4 rfl rfl (by kernel_rfl)
  match cs, hlen with
  | [c0, c1, c2, c3], _ =>
    obtain ⟨q0, e0, _⟩ := DataW.trod_int Tryd.underlying3 g0
    obtain ⟨q1, e1, _⟩ := DataW.trod_int Tryd.underlying3 g1
    obtain ⟨q2, e2, _⟩ := DataW.trod_int Tryd.underlying3 g2
    obtain ⟨q3, e3, _⟩ := DataW.trod_bool Tryd.underlying4 g3
    simp at e0 e1 e2 e3
    subst e0 e1 e2 e3
    exact ⟨⟨q0, q1, q2, q3⟩, rfl⟩
end
end Go.Proofs.YtgcgbiaigbblkaaDoor
