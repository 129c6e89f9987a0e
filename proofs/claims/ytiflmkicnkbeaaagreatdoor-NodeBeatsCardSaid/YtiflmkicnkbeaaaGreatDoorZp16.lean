import Derived.Test.YtiflmkicnkbeaaaGreatDoorZp02
import Derived.Test.YtiflmkicnkbeaaaGreatDoorZp03
import Derived.Test.YtiflmkicnkbeaaaGreatDoorZp04
import Derived.Test.YtiflmkicnkbeaaaGreatDoorZp05
import Derived.Test.YtiflmkicnkbeaaaGreatDoorZp06
import Derived.Test.YtiflmkicnkbeaaaGreatDoorZp07
import Derived.Test.YtiflmkicnkbeaaaGreatDoorZp08
import Derived.Test.YtiflmkicnkbeaaaGreatDoorZp09
import Derived.Test.YtiflmkicnkbeaaaGreatDoorZp10
import Derived.Test.YtiflmkicnkbeaaaGreatDoorZp11
import Derived.Test.YtiflmkicnkbeaaaGreatDoorZp12
import Derived.Test.YtiflmkicnkbeaaaGreatDoorZp13
import Derived.Test.YtiflmkicnkbeaaaGreatDoorZp14
import Derived.Test.YtiflmkicnkbeaaaGreatDoorZp15
import Derived.Deep.AppendLies
import Derived.Deep.DeepCutAuto
import Derived.Deep.CutBlock
import Derived.Lib.AppendZerosOnto
import Derived.Deep.Upon
import Derived.Deep.RegionHeld3
import Derived.Lib.Walk
import Derived.Shelf.Slices.SearchI
import Derived.Shelf.Slices.Empties
import Derived.Test.YtiflmkicnkbeaaaGreatDoorProg
namespace Go.Proofs.YtiflmkicnkbeaaaGreatDoor
open Go.RowKit Fm
structure Ev where
 ki : Int
 ca : Int
 la : La
 ec : Int
 ef : Int
 fl : Int
 di : Int
structure Nd where
 h : Ho
 id : Int
 R : SR
 li : Int
 car : Ca
 pe : Nat → Pe
 sn : Int
 ga : GS
 ms : List Int
 cl : List La
 cs : List Int
 si : Int
 ag : Int
 ou : Bool
 dn : Bool
def ev0 (ki ca fl di : Int) : Ev := ⟨ki, ca, zLa, 0, 0, fl, di⟩
def Nd.sp (n : Nd) : Sp := ofS n.cs n.cl
def Nd.grt (n : Nd) : Int := max n.R.c (max n.sn n.ga.c)
def newN (h : Ho) (id : Int) (R : SR) (pos : Int) : Nd := ⟨h, id, R, R.n, startC h pos, fun _ => zP, 0, ⟨0, 0, 0, max R.c 0⟩, [], [], [], 0, 0, false, false⟩
def Nd.leave (n : Nd) : Nd × List Ev :=
 if n.ou = false ∧ 0 < n.car.x.o ∧ 3 * n.h.d < n.car.k then ({ n with ou := true, cl := [] }, [ev0 10 n.id 0 0])
 else if n.ou = true ∧ ¬ 0 < n.car.x.o then ({ n with ou := false }, [ev0 11 n.id 0 0])
 else (n, [])
def Nd.beat (n : Nd) (i : Int) : F := ⟨1, n.id, i, n.li, n.grt, n.ou, zeroR⟩
def Nd.beatsTo (n : Nd) (k : Nat) : List F := ((List.range k).filter fun i : Nat => decide ((i : Int) ≠ n.id)).map fun i : Nat => n.beat (i : Int)
def Nd.beats (n : Nd) : List F := n.beatsTo n.h.c.toNat
def Nd.aged (n : Nd) : Nd := { n with pe := tkP n.pe, si := n.si + 1, ag := n.ag + 1 }
def Nd.founds (n : Nd) : Bool := foundB (alV n.pe 16) n.ms n.id n.h.c n.ou (!decide (n.ga.c = 0)) n.si n.ag
def Nd.mayNext (n : Nd) : Bool := decide (0 ≤ n.grt ∧ n.grt < 4294967295 ∧ 0 ≤ n.id ∧ n.id < 16)
end Go.Proofs.YtiflmkicnkbeaaaGreatDoor
namespace Go.Proofs.YtiflmkicnkbeaaaGreatDoor
open Go.RowKit Fm
def HEO (B : Nat) (w : World) (v : Value) (l : List En) : Prop := ∃ xs, OwnE w B v xs ∧ xs.map (·.1) = l
def NoRg (w : World) (r : Nat) : Prop := ∃ cs T, w.heap[r]? = some (.cells cs T (0, 0)) ∧ T ≠ 3 ∧ T ≠ 121 ∧ T ≠ 123
theorem HEO.fr {B : Nat} {w w' : World} {v : Value} {l : List En} {S : List Nat} (h : HEO B w v l) (k : Fr w w' S) (hS : ∀ p ∈ S, NoRg w p) : HEO B w' v l := by
 obtain ⟨xs, h2, h3⟩ := h
 exact ⟨xs, h2.fr k (fun p hp => by obtain ⟨cs, T, hc, _, a, b⟩ := hS p hp; exact ⟨cs, T, hc, a, b⟩), h3⟩
theorem HEO.keep {B : Nat} {w w' : World} {v : Value} {l : List En} (h : HEO B w v l) (k : Fr w w' []) : HEO B w' v l := h.fr k (by simp)
end Go.Proofs.YtiflmkicnkbeaaaGreatDoor
