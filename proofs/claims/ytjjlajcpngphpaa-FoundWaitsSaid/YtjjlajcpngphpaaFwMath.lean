/- Founding: cars from one to another; two lists of the call's own that lie apart. -/
import Derived.Test.YtjjlajcpngphpaaFd3
import Derived.Deep.AppendLies
namespace Go.Proofs.Ytjjlajcpngphpaa
open Go.RowKit

/-- The cars from a up to below b. -/
def fromTo (a b : Nat) : List Int := (List.range (b - a)).map fun j => ((a + j : Nat) : Int)
theorem fromTo_len (a b : Nat) : (fromTo a b).length = b - a := by simp [fromTo]
theorem fromTo_self (a : Nat) : fromTo a a = [] := by simp [fromTo]
theorem fromTo_snoc {a b : Nat} (h : a ≤ b) : fromTo a (b + 1) = fromTo a b ++ [(b : Int)] := by
  unfold fromTo
  rw [show b + 1 - a = (b - a) + 1 by omega, List.range_succ, List.map_append]
  simp; omega
theorem fromTo_take {a b : Nat} (k : Nat) (h : a + k ≤ b) : (fromTo a b).take k = fromTo a (a + k) := by
  unfold fromTo
  rw [← List.map_take, List.take_range]
  congr 2
  omega
theorem mem_fromTo {a b : Nat} {x : Int} : x ∈ fromTo a b ↔ (a : Int) ≤ x ∧ x < (b : Int) := by
  unfold fromTo
  simp only [List.mem_map, List.mem_range]
  constructor
  · rintro ⟨j, hj, rfl⟩; omega
  · rintro ⟨h1, h2⟩; exact ⟨(x - a).toNat, by omega, by omega⟩
theorem fromTo_rises (a b : Nat) : Rises (fromTo a b) := by
  unfold fromTo
  refine List.pairwise_map.2 ((List.pairwise_lt_range (n := b - a)).imp ?_)
  intro x y h; omega
theorem fromTo_first {b : Nat} (h : 0 < b) : (fromTo 0 b).getD 0 0 = 0 := by
  unfold fromTo
  simp [h]
theorem membs_from {b : Nat} (h : 0 < b) : membs (fromTo 1 b) 0 = fromTo 0 b := by
  refine rises_unique (membs_rises _ _) (fromTo_rises _ _) (fun x => ?_)
  rw [mem_membs, mem_fromTo, mem_fromTo]
  omega
theorem membs_none : membs [0, 2] 1 = [0, 1, 2] := rises_unique (membs_rises _ _) (by decide) (fun x => by rw [mem_membs]; simp; omega)
theorem membs_two : membs [2] 1 = [1, 2] := rises_unique (membs_rises _ _) (by decide) (fun x => by rw [mem_membs]; simp; omega)
theorem from_ne {a b : Nat} (h : a ≠ b) : fromTo 0 a ≠ fromTo 0 b := fun e => by
  have := congrArg List.length e
  rw [fromTo_len, fromTo_len] at this
  omega
theorem waits1 {c : Nat} (hc : 2 ≤ c) (cs : Int) (ou : Bool) (si fo : Int) : foundB (fromTo 1 c) (fromTo 0 c) 0 cs ou true si fo = ((!ou && longB fo cs) && longB si cs) := by
  unfold foundB
  rw [membs_from (by omega), fromTo_first (by omega)]
  cases ou <;> simp
theorem waits2 {c : Nat} (hc : 2 ≤ c) (cs : Int) (ou : Bool) (si fo : Int) : foundB (fromTo 1 c) (fromTo 0 (c - 1)) 0 cs ou true si fo = (!ou && longB fo cs) := by
  unfold foundB
  rw [membs_from (by omega), fromTo_first (by omega), decide_eq_false (from_ne (by omega))]
  simp
theorem waits3 {c : Nat} (hc : 2 ≤ c) (cs : Int) (ou : Bool) (si fo : Int) : foundB (fromTo 1 (c - 1)) (fromTo 0 c) 0 cs ou true si fo = (!ou && longB fo cs) := by
  unfold foundB
  rw [membs_from (by omega), fromTo_first (by omega), decide_eq_false (from_ne (by omega))]
  simp
theorem waits4 (R : List Int) (cs : Int) (ou : Bool) (si fo : Int) : foundB [0, 2] R 1 cs ou false si fo = false := by
  unfold foundB
  rw [membs_none]
  simp
theorem waits5 (R : List Int) (cs : Int) (ou : Bool) (si fo : Int) : foundB [2] R 1 cs ou false si fo = (!ou && longB fo cs) := by
  unfold foundB
  rw [membs_two]
  simp

/-- Two slices of integers of the call's own, apart. -/
structure Two (W a : World) (u v : Value) (L M : List Int) : Prop where
  o1 : OwnI a W.heap.size u L
  o2 : OwnI a W.heap.size v M
  ap : ∀ r, u.ownBlock = some r → v.ownBlock ≠ some r
  f : Fr W a []
theorem Two.fr {W a b : World} {u v : Value} {L M : List Int} (h : Two W a u v L M) (k : Fr a b []) : Two W b u v L M := ⟨h.o1.keep k, h.o2.keep k, h.ap, h.f.trans k⟩
theorem Two.swap {W a : World} {u v : Value} {L M : List Int} (h : Two W a u v L M) : Two W a v u M L := ⟨h.o2, h.o1, fun r h1 h2 => h.ap r h2 h1, h.f⟩
theorem Two.nils {W a : World} (h : Fr W a []) : Two W a (.slice none 0 0) (.slice none 0 0) [] [] := ⟨OwnI.nil _ _, OwnI.nil _ _, fun r h => by simp [Value.ownBlock] at h, h⟩
theorem ints_past {B : Nat} {a b : World} {v u : Value} {M : List Int} (h : OwnI a B u M) (hg : a.grownBy b v.ownBlock) (hn : ∀ r, v.ownBlock = some r → u.ownBlock ≠ some r) : OwnI b B u M := by
  cases e : v.ownBlock with
  | none => rw [e] at hg; exact h.keep (Fr.of_grown hg [])
  | some g => rw [e] at hg; exact h.fr (Fr.of_grown_row hg (S := [g]) (by simp)) (fun r hr => by rw [List.mem_singleton.1 hr]; exact hn g e)
theorem Two.push {W a b : World} {u v : Value} {L M : List Int} {g n cap : Nat} {x : Int} (h : Two W a u v L M) (hg : a.grownBy b u.ownBlock) (ho : b.ownsRow W.heap.size 3 1 (.slice (some ⟨g, 0, none⟩) n cap) (L.length + 1) (i64s L ++ [.int .i64 x])) (hor : u.ownBlock = some g ∨ g = a.heap.size) : Two W b (.slice (some ⟨g, 0, none⟩) n cap) v (L ++ [x]) M := by
  refine ⟨OwnI.snoc ho, ints_past h.o2 hg h.ap, fun r hr => ?_, h.f.grown_own hg (fun r hr => .inr (h.o1.block r hr).1)⟩
  obtain rfl : g = r := by simpa [Value.ownBlock] using hr
  rcases hor with q | q
  · exact h.ap g q
  · intro e
    have := (h.o2.block _ e).2
    omega
/-- Behind a store into a box of a case. -/
theorem Two.set {W a : World} {u v : Value} {L M : List Int} {g i : Nat} {x : Value} {cs : Array Value} {fz : Nat × Nat} (h : Two W a u v L M) (hp : a.heap[g]? = some (.cells cs 24 fz)) (hg : W.heap.size ≤ g) : Two W (a.setCell ⟨g, i, none⟩ x) u v L M :=
  have hf : Fr a (a.setCell ⟨g, i, none⟩ x) [g] := Fr.setCell a g i x (by simp)
  ⟨h.o1.far hf hp (by decide), h.o2.far hf hp (by decide), h.ap, h.f.new hf (by intro r hr; obtain rfl := List.mem_singleton.1 hr; exact hg)⟩
/-- A case in its box. -/
def RowC (g : Nat) (ca cs : Int) (ou an : Bool) (va vr : Value) (si fo : Int) (a : World) : Prop := a.heap[g]? = some (.cells #[.int .i64 ca, .int .i64 cs, .bool ou, .bool an, va, vr, .int .i64 si, .int .i64 fo] 24 (0, 0))
theorem RowC.fr {g : Nat} {ca cs : Int} {ou an : Bool} {va vr : Value} {si fo : Int} {a b : World} (h : RowC g ca cs ou an va vr si fo a) (k : Fr a b []) : RowC g ca cs ou an va vr si fo b := k.heap h (by simp)
theorem RowC.s0 {g : Nat} {ca cs : Int} {ou an : Bool} {va vr : Value} {si fo : Int} {a : World} (h : RowC g ca cs ou an va vr si fo a) (x : Int) : RowC g x cs ou an va vr si fo (a.setCell ⟨g, 0, none⟩ (.int .i64 x)) := by unfold RowC at *; rw [heap_setCell_same _ g 0 _ _ _ h]; rfl
theorem RowC.s3 {g : Nat} {ca cs : Int} {ou an : Bool} {va vr : Value} {si fo : Int} {a : World} (h : RowC g ca cs ou an va vr si fo a) (x : Bool) : RowC g ca cs ou x va vr si fo (a.setCell ⟨g, 3, none⟩ (.bool x)) := by unfold RowC at *; rw [heap_setCell_same _ g 3 _ _ _ h]; rfl
theorem RowC.s4 {g : Nat} {ca cs : Int} {ou an : Bool} {va vr : Value} {si fo : Int} {a : World} (h : RowC g ca cs ou an va vr si fo a) (x : Value) : RowC g ca cs ou an x vr si fo (a.setCell ⟨g, 4, none⟩ x) := by unfold RowC at *; rw [heap_setCell_same _ g 4 _ _ _ h]; rfl
theorem RowC.s5 {g : Nat} {ca cs : Int} {ou an : Bool} {va vr : Value} {si fo : Int} {a : World} (h : RowC g ca cs ou an va vr si fo a) (x : Value) : RowC g ca cs ou an va x si fo (a.setCell ⟨g, 5, none⟩ x) := by unfold RowC at *; rw [heap_setCell_same _ g 5 _ _ _ h]; rfl
theorem RowC.fz {g : Nat} {ca cs : Int} {ou an : Bool} {va vr : Value} {si fo : Int} {a : World} (h : RowC g ca cs ou an va vr si fo a) (i : Nat) : a.frozen? ⟨g, i, none⟩ = false := frozen_of_row _ _ i _ _ h
theorem RowC.c8 {g : Nat} {ca cs : Int} {ou an : Bool} {va vr : Value} {si fo : Int} {a : World} (h : RowC g ca cs ou an va vr si fo a) : C8 g (.int .i64 ca) (.int .i64 cs) (.bool ou) (.bool an) va vr (.int .i64 si) (.int .i64 fo) a := row8 h
end Go.Proofs.Ytjjlajcpngphpaa
