/- What a slice of bytes holds, what is the call's own; small laws on worlds. -/
import Derived.Test.YtmacbafkbhigcaaDoorRows
import Derived.Test.YtmacbafkbhigcaaDoorMath
import Derived.WalkKit
import Derived.WalkSmall
import Derived.WalkSpells
import Derived.WalkLawsBesides
import Derived.Lib.Hide
import Derived.Laws.CopyOwn
import Derived.Laws.AppendOwnNone
import Derived.BigQuiet
import Derived.Deep.QuietTactic
namespace Go.Proofs.YtmacbafkbhigcaaDoor
open Go.RowKit

theorem infoU8 : (Tryd.prog.info? 5).map (fun i => (i.zero, i.size, i.bytes)) = some (some (.int .u8 0), 1, 1) := by kernel_rfl
theorem sizeU8 : (Tryd.prog.info? 5).map (·.size) = some 1 := by kernel_rfl

/-- It ends, handing back a value of which Q is told. (A definition of its own: the walk leaves it as it stands.) -/
def Gives (Q : Value → World → Prop) (e : Ending) (w' : World) : Prop := ∃ v, e = .returned v ∧ Q v w'
theorem gives {Q : Value → World → Prop} {v : Value} {w' : World} (h : Q v w') : Gives Q (.returned v) w' := ⟨v, rfl, h⟩

def u8s (l : List Int) : List Value := l.map (Value.int .u8)
@[simp] theorem u8s_len (l : List Int) : (u8s l).length = l.length := by simp [u8s]
theorem u8s_append (l m : List Int) : u8s (l ++ m) = u8s l ++ u8s m := by simp [u8s]
theorem u8s_one (l : List Int) : ∀ u ∈ u8s l, u.oneCell' = true := ints_oneCell _ _

/-- The slice v holds the numbers l, of kind k. -/
def Holds (k : IntKind) (w : World) (v : Value) (l : List Int) : Prop :=
  ∃ a cap, v = .slice a l.length cap ∧ l.length ≤ cap ∧ cap ≤ maxLen ∧
    (0 < l.length → ∃ b off, a = some ⟨b, off, none⟩ ∧ ∀ i, i < l.length → w.cell? ⟨b, off + i, none⟩ = some (.int k (l.getD i 0)))
abbrev Bytes (w : World) (v : Value) (l : List Int) : Prop := Holds .u8 w v l

/-- The slice v is the call's own (from block B on), and holds the bytes l. -/
def Own (w : World) (B : Nat) (v : Value) (l : List Int) : Prop := w.ownsRow B 5 1 v l.length (u8s l)

theorem Own.shape {w : World} {B : Nat} {v : Value} {l : List Int} (h : Own w B v l) : ∃ a cap, v = .slice a l.length cap := by
  rcases h.2 with ⟨rfl, h0⟩ | ⟨g, cap, cur, rfl, _⟩
  · exact ⟨none, 0, by rw [h0]⟩
  · exact ⟨_, _, rfl⟩

theorem Own.bytes {w : World} {B : Nat} {v : Value} {l : List Int} (h : Own w B v l) : Bytes w v l := by
  rcases h.2 with ⟨rfl, h0⟩ | ⟨g, cap, cur, rfl, hb, hg, hn, hm, hs, ht⟩
  · exact ⟨none, 0, by rw [h0], by omega, by decide, fun h => absurd h0 (by omega)⟩
  · refine ⟨_, cap, rfl, hn, hm, fun _ => ⟨g, 0, rfl, fun i hi => ?_⟩⟩
    have hc := h.cellAt i (by omega)
    rw [Nat.zero_add, hc]
    simp [u8s, hi]

theorem Holds.lt {k : IntKind} {w : World} {v : Value} {l : List Int} (h : Holds k w v l) (h0 : 0 < l.length) : ∃ b off cap, v = .slice (some ⟨b, off, none⟩) l.length cap ∧ b < w.heap.size ∧
    ∀ i, i < l.length → w.cell? ⟨b, off + i, none⟩ = some (.int k (l.getD i 0)) := by
  obtain ⟨a, cap, rfl, _, _, h1⟩ := h
  obtain ⟨b, off, rfl, hc⟩ := h1 h0
  exact ⟨b, off, cap, rfl, World.block_lt_of_cell? w _ (hc 0 h0), hc⟩

/-- Behind writes to one row what is held elsewhere stays. -/
theorem Holds.kept {k : IntKind} {w w' : World} {v : Value} {l : List Int} {row : Option Nat} (h : Holds k w v l) (hg : w.grownBy w' row) (hne : ∀ r, row = some r → v.ownBlock ≠ some r) : Holds k w' v l := by
  obtain ⟨a, cap, rfl, h1, h2, h3⟩ := h
  refine ⟨a, cap, rfl, h1, h2, fun h0 => ?_⟩
  obtain ⟨b, off, rfl, hc⟩ := h3 h0
  refine ⟨b, off, rfl, fun i hi => hg.cell (hc i hi) ?_⟩
  intro e
  exact hne b e.symm rfl
theorem Holds.grown {k : IntKind} {w w' : World} {v : Value} {l : List Int} (h : Holds k w v l) (hg : w.grownBy w' none) : Holds k w' v l := h.kept hg (fun r e => by cases e)
theorem Holds.below {k : IntKind} {w w' : World} {v : Value} {l : List Int} (h : Holds k w v l) (hg : Below w.heap.size w w') : Holds k w' v l :=
  h.grown ⟨hg.os, hg.tape, hg.output, hg.size, fun k hk _ => hg.block k hk⟩
theorem Own.kept {w w' : World} {B : Nat} {v : Value} {l : List Int} {row : Option Nat} (h : Own w B v l) (hg : w.grownBy w' row) (hne : ∀ r, row = some r → v.ownBlock ≠ some r) : Own w' B v l :=
  World.ownsRow.kept h hg (by cases row with | none => cases v.ownBlock <;> simp | some r => exact .inr (hne r rfl))
theorem Own.mono {w : World} {B B' : Nat} {v : Value} {l : List Int} (h : Own w B v l) (hB : B' ≤ B) : Own w B' v l := by
  refine ⟨h.1, ?_⟩
  rcases h.2 with h2 | ⟨g, cap, cur, a, b, c⟩
  · exact .inl h2
  · exact .inr ⟨g, cap, cur, a, by omega, c⟩
theorem Own.block {w : World} {B : Nat} {v : Value} {l : List Int} (h : Own w B v l) : ∀ r, v.ownBlock = some r → B ≤ r ∧ r < w.heap.size := World.ownsRow.lt h

theorem grown_trans {a b c : World} {row : Option Nat} (h : a.grownBy b row) (k : b.grownBy c row) : a.grownBy c row :=
  ⟨k.os.trans h.os, k.tape.trans h.tape, k.output.trans h.output, Nat.le_trans h.size k.size, fun i hi hn => (k.block i (Nat.lt_of_lt_of_le hi h.size) hn).trans (h.block i hi hn)⟩
theorem grown_of_none {a b : World} (row : Option Nat) (h : a.grownBy b none) : a.grownBy b row := ⟨h.os, h.tape, h.output, h.size, fun i hi _ => h.block i hi (by simp)⟩
/-- A row that is new behind the first step does not count. -/
theorem grown_new {a b c : World} {row row' : Option Nat} (h : a.grownBy b row) (k : b.grownBy c row') (hn : ∀ r, row' = some r → a.heap.size ≤ r) : a.grownBy c row :=
  ⟨k.os.trans h.os, k.tape.trans h.tape, k.output.trans h.output, Nat.le_trans h.size k.size, fun i hi hne =>
    (k.block i (Nat.lt_of_lt_of_le hi h.size) (fun e => by have := hn i e.symm; omega)).trans (h.block i hi hne)⟩
theorem below_grown {a b : World} (h : a.grownBy b none) : Below a.heap.size a b := ⟨h.os, h.tape, h.output, h.size, fun k hk => h.block k hk (by simp)⟩
theorem grown_below {a b : World} (h : Below a.heap.size a b) : a.grownBy b none := ⟨h.os, h.tape, h.output, h.size, fun k hk _ => h.block k hk⟩
theorem grown_below_any {a b : World} {B : Nat} (h : Below B a b) (hB : a.heap.size ≤ B) : a.grownBy b none := grown_below (h.mono hB)
theorem grown_drewN {a b : World} {row : Option Nat} (h : a.grownBy b row) (n : Nat) : a.grownBy (b.drewN n) row := ⟨h.os, h.tape, h.output, h.size, h.block⟩
theorem grown_drew {a b : World} {row : Option Nat} (h : a.grownBy b row) : a.grownBy b.drew row := ⟨h.os, h.tape, h.output, h.size, h.block⟩
theorem grown_refl (a : World) (row : Option Nat) : a.grownBy a row := ⟨rfl, rfl, rfl, Nat.le_refl _, fun _ _ _ => rfl⟩

/-- An own row out of its block. -/
theorem own_of_heap {w : World} {B g n cap : Nat} {cur : List Value} {l : List Int} (hg : w.heap[g]? = some (.cells cur.toArray 5 (0, 0))) (hB : B ≤ g) (hn : l.length = n) (hc : cur.length = cap) (hle : n ≤ cap) (hm : cap ≤ maxLen)
    (ht : cur.take n = u8s l) : Own w B (.slice (some ⟨g, 0, none⟩) n cap) l := by
  subst hn
  exact ⟨by simp, .inr ⟨g, cap, cur.toArray, rfl, hB, hg, hle, hm, by simpa using hc, by simpa using ht⟩⟩
theorem one_cell (k : IntKind) (x : Int) : ∀ u ∈ [Value.int k x], u.oneCell' = true := by
  intro u hu; simp at hu; subst hu; rfl
theorem bytes_size {w : World} {v : Value} {l : List Int} {k : IntKind} (h : Holds k w v l) : l.length ≤ maxLen := by
  obtain ⟨a, cap, _, h1, h2, _⟩ := h; omega
theorem take_snoc (l : List Int) (k : Nat) (h : k < l.length) : l.take (k + 1) = l.take k ++ [l.getD k 0] := by
  rw [List.take_succ_eq_append_getElem h]; simp [h]
end Go.Proofs.YtmacbafkbhigcaaDoor
