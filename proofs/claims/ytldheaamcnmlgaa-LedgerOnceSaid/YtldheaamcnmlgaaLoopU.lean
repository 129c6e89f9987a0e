/- A loop whose frame's turned slots are told by one function: for a function of hundreds of slots. -/
import Derived.Test.YtldheaamcnmlgaaGLa
namespace Go
open Go.RowKit

/-- The frame es, but in the slots of the mask what U says. -/
def mixU : List Bool → List Value → (Nat → Value) → Nat → List Value
  | false :: m, e :: es, U, k => e :: mixU m es U (k + 1)
  | true :: m, _ :: es, U, k => U k :: mixU m es U (k + 1)
  | [], es, _, _ => es
  | _ :: _, [], _, _ => []
/-- What a frame has in a slot. -/
def slotU (a : Act) (k : Nat) : Value := a.tmps.getD k undef
/-- The round's relation, of a frame that is es but for the mask's slots. -/
def InvU (mask : List Bool) (es : List Value) (R : (Nat → Value) → World → Prop) (a : Act) (w : World) : Prop :=
  R (slotU a) w ∧ a = ⟨(mixU mask es (slotU a) 0).toArray, []⟩
def MuU (m : (Nat → Value) → Nat) (a : Act) (_ : World) : Nat := m (slotU a)
theorem loopU {P : Program} {c : Code} {Q : Exit → Act → World → Prop} {es : List Value} {w : World} (mask : List Bool) (R : (Nat → Value) → World → Prop) (m : (Nat → Value) → Nat)
    (hR : R (slotU ⟨es.toArray, []⟩) w) (hes : mixU mask es (slotU ⟨es.toArray, []⟩) 0 = es)
    (round : ∀ (U : Nat → Value) (wr : World), R U wr → c.wp P (Exit.then (fun a' w' => InvU mask es R a' w' ∧ MuU m a' w' < m U) Q) ⟨(mixU mask es U 0).toArray, []⟩ wr) :
    (Code.loop c).wp P Q ⟨es.toArray, []⟩ w := by
  refine wp_loop (InvU mask es R) (MuU m) ⟨hR, by rw [hes]⟩ ?_
  intro a wr h
  have h2 := h.2
  have r := round (slotU a) wr h.1
  rw [← h2] at r
  exact r
theorem endU {mask : List Bool} {es xs : List Value} {R : (Nat → Value) → World → Prop} {w : World} (h : R (fun k => slotU ⟨xs.toArray, []⟩ k) w) (hx : mixU mask es (slotU ⟨xs.toArray, []⟩) 0 = xs) : InvU mask es R ⟨xs.toArray, []⟩ w := ⟨h, by rw [hx]⟩
theorem muU {m : (Nat → Value) → Nat} {a : Act} {w : World} {k n : Nat} (h : m (slotU a) = k) (hk : k < n) : MuU m a w < n := by unfold MuU; omega
end Go
