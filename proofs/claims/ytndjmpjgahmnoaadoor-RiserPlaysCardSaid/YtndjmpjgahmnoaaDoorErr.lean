/- Api's errors as values, and where they lie. -/
import Derived.Test.YtndjmpjgahmnoaaDoorBase
import Derived.RegionTactic
import Derived.ChangeAlike
import Derived.LaidEql
import Derived.LaidEqlPtr
import Derived.Laws.ResultCell
import Derived.Deep.RegionWith
namespace Go.Proofs.YtndjmpjgahmnoaaDoor
open Go.RowKit

/-- An error of api: the code's pointer. -/
def ev (A : Nat → Addr) (c : Nat) : Value := if c = 0 then .nilIface else .iface 85 (.pointer (some (A c)))
/-- The three errors of the wire (1 the end, 2 the shape, 3 the range), in variables below block B. -/
def E3 (w : World) (A : Nat → Addr) (B : Nat) : Prop :=
  (w.cell? ⟨1, 0, none⟩ = some (ev A 1) ∧ 1 < B) ∧ (w.cell? ⟨2, 0, none⟩ = some (ev A 2) ∧ 2 < B) ∧
  (w.cell? ⟨0, 0, none⟩ = some (ev A 3) ∧ 0 < B)
theorem E3.kept {w w' : World} {A : Nat → Addr} {B : Nat} {row : Option Nat} (h : E3 w A B) (hg : w.grownBy w' row) (hr : ∀ r, row = some r → B ≤ r) : E3 w' A B := by
  obtain ⟨⟨a1, a2⟩, ⟨b1, b2⟩, c1, c2⟩ := h
  have key : ∀ k, k < B → some k ≠ row := fun k hk e => by have := hr k e.symm; omega
  exact ⟨⟨hg.cell a1 (key _ a2), a2⟩, ⟨hg.cell b1 (key _ b2), b2⟩, hg.cell c1 (key _ c2), c2⟩
def Drawn (w w' : World) : Prop := ∃ n, w' = w.drewN n
theorem Drawn.fr {w w' : World} (h : Drawn w w') (S : List Nat) : Fr w w' S := by
  obtain ⟨n, rfl⟩ := h; exact Fr.drewN w n S
theorem Drawn.grown {w w' : World} (h : Drawn w w') (row : Option Nat) : w.grownBy w' row := by
  obtain ⟨n, rfl⟩ := h; exact grown_drewN (grown_refl w row) n

/-- An error with a place: a new At. -/
def AtErr (w : World) (A : Nat → Addr) (u : Value) (k c : Nat) : Prop :=
  ∃ q, u = .iface 76 (.pointer (some ⟨q, 0, none⟩)) ∧ w.heap[q]? = some (.cells #[.int .i64 (k : Int), ev A c] 80 (0, 0))

/-- The numbers of api's variables of errors, in the order of the codes (101 + place). -/
def errVars : List Nat := [1, 2, 0, 3, 4, 5, 6, 7, 8, 9, 10, 11, 12]
/-- All errors of api: each variable's cell; whither it leads; no two lead to one place. -/
structure E13 (w : World) (A : Nat → Addr) (B : Nat) : Prop where
  cell : ∀ i, i < 13 → w.cell? ⟨errVars.getD i 0, 0, none⟩ = some (ev A (i + 1)) ∧ errVars.getD i 0 < B
  at' : ∀ i, i < 13 → (A (i + 1)).block < B ∧ ∃ c t, w.heap[(A (i + 1)).block]? = some (.cells c t (0, 0))
  apart : ∀ i j, i < 13 → j < 13 → A (i + 1) = A (j + 1) → i = j
theorem E13.kept {w w' : World} {A : Nat → Addr} {B : Nat} {row : Option Nat} (h : E13 w A B) (hg : w.grownBy w' row) (hr : ∀ r, row = some r → B ≤ r) : E13 w' A B := by
  have key : ∀ k, k < B → some k ≠ row := fun k hk e => by have := hr k e.symm; omega
  refine ⟨fun i hi => ⟨hg.cell (h.cell i hi).1 (key _ (h.cell i hi).2), (h.cell i hi).2⟩, fun i hi => ⟨(h.at' i hi).1, ?_⟩, h.apart⟩
  obtain ⟨c, t, hh⟩ := (h.at' i hi).2
  exact ⟨c, t, by rw [hg.block _ (Array.getElem?_eq_some_iff.1 hh).1 (key _ (h.at' i hi).1)]; exact hh⟩
theorem E13.three {w : World} {A : Nat → Addr} {B : Nat} (h : E13 w A B) : E3 w A B := ⟨h.cell 0 (by decide), h.cell 1 (by decide), h.cell 2 (by decide)⟩
theorem ev_some (A : Nat → Addr) (c : Nat) : ev A (c + 1) = .iface 85 (.pointer (some (A (c + 1)))) := rfl

theorem E13.fr {w w' : World} {A : Nat → Addr} {B : Nat} {S : List Nat} (h : E13 w A B) (hg : Fr w w' S) (hr : ∀ r ∈ S, B ≤ r) : E13 w' A B := by
  have key : ∀ k, k < B → k ∉ S := fun k hk e => by have := hr k e; omega
  refine ⟨fun i hi => ⟨hg.cell (h.cell i hi).1 (key _ (h.cell i hi).2), (h.cell i hi).2⟩, fun i hi => ⟨(h.at' i hi).1, ?_⟩, h.apart⟩
  obtain ⟨c, t, hh⟩ := (h.at' i hi).2
  exact ⟨c, t, hg.heap hh (key _ (h.at' i hi).1)⟩
/-- Some errors of api (by their codes less one): each variable's cell. -/
structure EV (is : List Nat) (w : World) (A : Nat → Addr) (B : Nat) : Prop where
  cell : ∀ i, i ∈ is → w.cell? ⟨errVars.getD i 0, 0, none⟩ = some (ev A (i + 1)) ∧ errVars.getD i 0 < B
theorem EV.fr {is : List Nat} {w w' : World} {A : Nat → Addr} {B : Nat} {S : List Nat} (h : EV is w A B) (hg : Fr w w' S) (hr : ∀ r ∈ S, B ≤ r) : EV is w' A B :=
  ⟨fun i hi => ⟨hg.cell (h.cell i hi).1 (fun e => by have := hr _ e; have := (h.cell i hi).2; simp only at *; omega), (h.cell i hi).2⟩⟩
theorem E13.evs {w : World} {A : Nat → Addr} {B : Nat} (h : E13 w A B) (is : List Nat) (hs : ∀ i ∈ is, i < 13 := by decide) : EV is w A B := ⟨fun i hi => h.cell i (hs i hi)⟩
theorem EV.sub {is js : List Nat} {w : World} {A : Nat → Addr} {B : Nat} (h : EV is w A B) (hs : ∀ i ∈ js, i ∈ is) : EV js w A B := ⟨fun i hi => h.cell i (hs i hi)⟩
/-- A contract that leaves the world alone, in a quiet region. -/
theorem quiet_same {P : Program} {f : FuncId} {args : Array Value} {w : World} {n : Nat} {v : Value}
    (h : Calls P f args (w.drewN n) fun e w' => e = .returned v ∧ w.drewN n = w') : Calls P f args (w.drewN n) fun e w'' => e = .returned v ∧ ∃ m, w'' = w.drewN m :=
  h.mono fun _ _ ⟨he, hm⟩ => ⟨he, n, hm.symm⟩
end Go.Proofs.YtndjmpjgahmnoaaDoor
