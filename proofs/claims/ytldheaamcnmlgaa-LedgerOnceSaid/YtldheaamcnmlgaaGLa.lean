/- What a slice of bytes holds, what is the call's own; small laws on worlds. Rows of the call's own, boxed structs of two cells; copies of slices; strings and bytes. Slices of integers of the call's own; the document's copy of integers, and whether two are the same. Bids, plainly: which is less, the least of some, whose one is, one more by cars, whether all have bid. Bids: slices of them, of the call's own and those that came in (FHold's and FRead's, alone). A region that draws its order, each operation of which ends with one value in every world that meets S, and keeps S (calls that make memory of their own among them): it is walked in one order. A region that draws its order, whose last operations (from number t on) have no one value (a call that hands back new memory): those ahead of t by XDet's walk, the rest, in whatever order, behind them. A region that draws its order, some of whose operations make memory whenever they like (their values tell where: not one value): those with one value and those that make are walked in one order, the rest (from number t on) behind them. Those of F are told by their operands alone: the rest need not wait for them. The document's bids: less, the first of a car, the least, whether all have bid, a copy. The document's bids: a copy, one more by cars. -/
import Derived.Test.YtldheaamcnmlgaaRows
import Derived.WalkKit
import Derived.WalkSmall
import Derived.WalkSpells
import Derived.WalkLawsBesides
import Derived.Lib.Hide
import Derived.Laws.CopyOwn
import Derived.Laws.AppendOwnNone
import Derived.BigQuiet
import Derived.Deep.QuietTactic
import Derived.Deep.AppendLies
import Derived.Laws.OwnMore
import Derived.Laws.BytesArg
import Derived.Laws.BytesString
import Derived.Lib.ConvBytes
import Derived.Lib.SliceRun
import Derived.Deep.RegionLaw
import Derived.Deep.RegionHeld3
import Derived.OrdersHeld
import Derived.Deep.DeepCutAuto
import Derived.Deep.CutBlock
namespace Go.Proofs.Ytldheaamcnmlgaa
open Go.RowKit

theorem infoU8 : (Try.prog.info? 5).map (fun i => (i.zero, i.size, i.bytes)) = some (some (.int .u8 0), 1, 1) := by kernel_rfl
theorem sizeU8 : (Try.prog.info? 5).map (·.size) = some 1 := by kernel_rfl

/-- It ends, handing back a value of which Q is told. (A definition of its own: the walk leaves it as it stands.) -/
def Gives (Q : Value → World → Prop) (e : Ending) (w' : World) : Prop := ∃ v, e = .returned v ∧ Q v w'
theorem gives {Q : Value → World → Prop} {v : Value} {w' : World} (h : Q v w') : Gives Q (.returned v) w' := ⟨v, rfl, h⟩

def u8s (l : List Int) : List Value := l.map (Value.int .u8)
@[simp] theorem u8s_len (l : List Int) : (u8s l).length = l.length := by simp [u8s]
theorem u8s_append (l m : List Int) : u8s (l ++ m) = u8s l ++ u8s m := by simp [u8s]
theorem u8s_one (l : List Int) : ∀ u ∈ u8s l, u.oneCell' = true := ints_oneCell _ _

/-- The slice v holds the numbers l, of kind k. -/
def Holds (k : IntKind) (w : World) (v : Value) (l : List Int) : Prop :=
  ∃ a cap, v = .slice a l.length cap ∧ l.length ≤ cap ∧ cap ≤ maxLen ∧
    (0 < l.length → ∃ b off, a = some ⟨b, off, none⟩ ∧ ∀ i, i < l.length → w.cell? ⟨b, off + i, none⟩ = some (.int k (l.getD i 0)))
abbrev Bytes (w : World) (v : Value) (l : List Int) : Prop := Holds .u8 w v l

/-- The slice v is the call's own (from block B on), and holds the bytes l. -/
def Own (w : World) (B : Nat) (v : Value) (l : List Int) : Prop := w.ownsRow B 5 1 v l.length (u8s l)

theorem Own.shape {w : World} {B : Nat} {v : Value} {l : List Int} (h : Own w B v l) : ∃ a cap, v = .slice a l.length cap := by
  rcases h.2 with ⟨rfl, h0⟩ | ⟨g, cap, cur, rfl, _⟩
  · exact ⟨none, 0, by rw [h0]⟩
  · exact ⟨_, _, rfl⟩

theorem Own.bytes {w : World} {B : Nat} {v : Value} {l : List Int} (h : Own w B v l) : Bytes w v l := by
  rcases h.2 with ⟨rfl, h0⟩ | ⟨g, cap, cur, rfl, hb, hg, hn, hm, hs, ht⟩
  · exact ⟨none, 0, by rw [h0], by omega, by decide, fun h => absurd h0 (by omega)⟩
  · refine ⟨_, cap, rfl, hn, hm, fun _ => ⟨g, 0, rfl, fun i hi => ?_⟩⟩
    have hc := h.cellAt i (by omega)
    rw [Nat.zero_add, hc]
    simp [u8s, hi]

theorem Holds.lt {k : IntKind} {w : World} {v : Value} {l : List Int} (h : Holds k w v l) (h0 : 0 < l.length) : ∃ b off cap, v = .slice (some ⟨b, off, none⟩) l.length cap ∧ b < w.heap.size ∧
    ∀ i, i < l.length → w.cell? ⟨b, off + i, none⟩ = some (.int k (l.getD i 0)) := by
  obtain ⟨a, cap, rfl, _, _, h1⟩ := h
  obtain ⟨b, off, rfl, hc⟩ := h1 h0
  exact ⟨b, off, cap, rfl, World.block_lt_of_cell? w _ (hc 0 h0), hc⟩

/-- Behind writes to one row what is held elsewhere stays. -/
theorem Holds.kept {k : IntKind} {w w' : World} {v : Value} {l : List Int} {row : Option Nat} (h : Holds k w v l) (hg : w.grownBy w' row) (hne : ∀ r, row = some r → v.ownBlock ≠ some r) : Holds k w' v l := by
  obtain ⟨a, cap, rfl, h1, h2, h3⟩ := h
  refine ⟨a, cap, rfl, h1, h2, fun h0 => ?_⟩
  obtain ⟨b, off, rfl, hc⟩ := h3 h0
  refine ⟨b, off, rfl, fun i hi => hg.cell (hc i hi) ?_⟩
  intro e
  exact hne b e.symm rfl
theorem Holds.grown {k : IntKind} {w w' : World} {v : Value} {l : List Int} (h : Holds k w v l) (hg : w.grownBy w' none) : Holds k w' v l := h.kept hg (fun r e => by cases e)
theorem Holds.below {k : IntKind} {w w' : World} {v : Value} {l : List Int} (h : Holds k w v l) (hg : Below w.heap.size w w') : Holds k w' v l :=
  h.grown ⟨hg.os, hg.tape, hg.output, hg.size, fun k hk _ => hg.block k hk⟩
theorem Own.kept {w w' : World} {B : Nat} {v : Value} {l : List Int} {row : Option Nat} (h : Own w B v l) (hg : w.grownBy w' row) (hne : ∀ r, row = some r → v.ownBlock ≠ some r) : Own w' B v l :=
  World.ownsRow.kept h hg (by cases row with | none => cases v.ownBlock <;> simp | some r => exact .inr (hne r rfl))
theorem Own.mono {w : World} {B B' : Nat} {v : Value} {l : List Int} (h : Own w B v l) (hB : B' ≤ B) : Own w B' v l := by
  refine ⟨h.1, ?_⟩
  rcases h.2 with h2 | ⟨g, cap, cur, a, b, c⟩
  · exact .inl h2
  · exact .inr ⟨g, cap, cur, a, by omega, c⟩
theorem Own.block {w : World} {B : Nat} {v : Value} {l : List Int} (h : Own w B v l) : ∀ r, v.ownBlock = some r → B ≤ r ∧ r < w.heap.size := World.ownsRow.lt h

theorem grown_trans {a b c : World} {row : Option Nat} (h : a.grownBy b row) (k : b.grownBy c row) : a.grownBy c row :=
  ⟨k.os.trans h.os, k.tape.trans h.tape, k.output.trans h.output, Nat.le_trans h.size k.size, fun i hi hn => (k.block i (Nat.lt_of_lt_of_le hi h.size) hn).trans (h.block i hi hn)⟩
theorem grown_of_none {a b : World} (row : Option Nat) (h : a.grownBy b none) : a.grownBy b row := ⟨h.os, h.tape, h.output, h.size, fun i hi _ => h.block i hi (by simp)⟩
/-- A row that is new behind the first step does not count. -/
theorem grown_new {a b c : World} {row row' : Option Nat} (h : a.grownBy b row) (k : b.grownBy c row') (hn : ∀ r, row' = some r → a.heap.size ≤ r) : a.grownBy c row :=
  ⟨k.os.trans h.os, k.tape.trans h.tape, k.output.trans h.output, Nat.le_trans h.size k.size, fun i hi hne =>
    (k.block i (Nat.lt_of_lt_of_le hi h.size) (fun e => by have := hn i e.symm; omega)).trans (h.block i hi hne)⟩
theorem below_grown {a b : World} (h : a.grownBy b none) : Below a.heap.size a b := ⟨h.os, h.tape, h.output, h.size, fun k hk => h.block k hk (by simp)⟩
theorem grown_below {a b : World} (h : Below a.heap.size a b) : a.grownBy b none := ⟨h.os, h.tape, h.output, h.size, fun k hk _ => h.block k hk⟩
theorem grown_below_any {a b : World} {B : Nat} (h : Below B a b) (hB : a.heap.size ≤ B) : a.grownBy b none := grown_below (h.mono hB)
theorem grown_drewN {a b : World} {row : Option Nat} (h : a.grownBy b row) (n : Nat) : a.grownBy (b.drewN n) row := ⟨h.os, h.tape, h.output, h.size, h.block⟩
theorem grown_drew {a b : World} {row : Option Nat} (h : a.grownBy b row) : a.grownBy b.drew row := ⟨h.os, h.tape, h.output, h.size, h.block⟩
theorem grown_refl (a : World) (row : Option Nat) : a.grownBy a row := ⟨rfl, rfl, rfl, Nat.le_refl _, fun _ _ _ => rfl⟩

/-- An own row out of its block. -/
theorem own_of_heap {w : World} {B g n cap : Nat} {cur : List Value} {l : List Int} (hg : w.heap[g]? = some (.cells cur.toArray 5 (0, 0))) (hB : B ≤ g) (hn : l.length = n) (hc : cur.length = cap) (hle : n ≤ cap) (hm : cap ≤ maxLen)
    (ht : cur.take n = u8s l) : Own w B (.slice (some ⟨g, 0, none⟩) n cap) l := by
  subst hn
  exact ⟨by simp, .inr ⟨g, cap, cur.toArray, rfl, hB, hg, hle, hm, by simpa using hc, by simpa using ht⟩⟩
theorem one_cell (k : IntKind) (x : Int) : ∀ u ∈ [Value.int k x], u.oneCell' = true := by
  intro u hu; simp at hu; subst hu; rfl
theorem bytes_size {w : World} {v : Value} {l : List Int} {k : IntKind} (h : Holds k w v l) : l.length ≤ maxLen := by
  obtain ⟨a, cap, _, h1, h2, _⟩ := h; omega
theorem take_snoc (l : List Int) (k : Nat) (h : k < l.length) : l.take (k + 1) = l.take k ++ [l.getD k 0] := by
  rw [List.take_succ_eq_append_getElem h]; simp [h]
theorem Own.apart {w : World} {B p : Nat} {v : Value} {l : List Int} (h : Own w B v l) {cs : Array Value} {T : TypeId} (hp : w.heap[p]? = some (.cells cs T (0, 0))) (hT : T ≠ 5) : v.ownBlock ≠ some p := by
  rcases h.2 with ⟨rfl, _⟩ | ⟨g, cap, cur, rfl, _, hg, _⟩
  · simp [Value.ownBlock]
  · intro e
    obtain rfl : g = p := by simpa [Value.ownBlock] using e
    rw [hp] at hg
    simp at hg
    exact hT hg.2
/-- A slice cut at its beginning. -/
theorem Holds.drop {kd : IntKind} {w : World} {a : Option Addr} {cap : Nat} {l : List Int} (h : Holds kd w (.slice a l.length cap) l) (k : Nat) (hk : k ≤ l.length) :
    Holds kd w (.slice (if cap = k then a else a.map (Addr.add · k)) (l.length - k) (cap - k)) (l.drop k) := by
  obtain ⟨a', cap', he, h1, h2, h3⟩ := h
  simp only [Value.slice.injEq, true_and] at he
  obtain ⟨rfl, rfl⟩ := he
  refine ⟨_, _, by rw [List.length_drop], by rw [List.length_drop]; omega, by omega, fun h0 => ?_⟩
  rw [List.length_drop] at h0
  obtain ⟨b, off, rfl, hc⟩ := h3 (by omega)
  refine ⟨b, off + k, by rw [if_neg (by omega)]; simp [Addr.add_lit], fun i hi => ?_⟩
  rw [List.length_drop] at hi
  rw [Nat.add_assoc, hc (k + i) (by omega)]
  simp [List.getD, List.getElem?_drop]

theorem Holds.cut {kd : IntKind} {w : World} {a : Option Addr} {cap : Nat} {l : List Int} (h : Holds kd w (.slice a l.length cap) l) (n : Nat) (hn : n ≤ l.length) : Holds kd w (.slice a n cap) (l.take n) := by
  obtain ⟨a', cap', he, h1, h2, h3⟩ := h
  simp only [Value.slice.injEq, true_and] at he
  obtain ⟨rfl, rfl⟩ := he
  have hl : (l.take n).length = n := by simp; omega
  refine ⟨a, cap, by rw [hl], by omega, h2, fun h0 => ?_⟩
  rw [hl] at h0
  obtain ⟨b, off, rfl, hc⟩ := h3 (by omega)
  refine ⟨b, off, rfl, fun i hi => ?_⟩
  rw [hl] at hi
  rw [hc i (by omega)]
  simp [List.getD, hi]

theorem nil_bytes {w : World} : Bytes w (.slice none 0 0) [] := ⟨none, 0, rfl, by simp, by decide, fun h => absurd h (by simp)⟩

/-- From w to w' no block but those of S has turned, of those that were there. -/
structure Fr (w w' : World) (S : List Nat) : Prop where
  os : w'.os = w.os
  tape : w'.tape = w.tape
  output : w'.output = w.output
  size : w.heap.size ≤ w'.heap.size
  block : ∀ k, k < w.heap.size → k ∉ S → w'.heap[k]? = w.heap[k]?
theorem Fr.refl (w : World) (S : List Nat) : Fr w w S := ⟨rfl, rfl, rfl, Nat.le_refl _, fun _ _ _ => rfl⟩
theorem Fr.mono {w w' : World} {S T : List Nat} (h : Fr w w' S) (hs : ∀ x ∈ S, x ∈ T ∨ w.heap.size ≤ x) : Fr w w' T :=
  ⟨h.os, h.tape, h.output, h.size, fun k hk hn => h.block k hk (fun hm => (hs k hm).elim hn (fun h1 => by omega))⟩
theorem Fr.comb {a b c : World} {S T U : List Nat} (h : Fr a b S) (k : Fr b c T) (hs : ∀ x ∈ S, x ∈ U ∨ a.heap.size ≤ x) (ht : ∀ x ∈ T, x ∈ U ∨ a.heap.size ≤ x) : Fr a c U :=
  ⟨k.os.trans h.os, k.tape.trans h.tape, k.output.trans h.output, Nat.le_trans h.size k.size, fun i hi hn =>
    (k.block i (Nat.lt_of_lt_of_le hi h.size) (fun hm => (ht i hm).elim hn (fun h1 => by omega))).trans (h.block i hi (fun hm => (hs i hm).elim hn (fun h1 => by omega)))⟩
theorem Fr.trans {a b c : World} {S : List Nat} (h : Fr a b S) (k : Fr b c S) : Fr a c S := h.comb k (fun _ hx => .inl hx) (fun _ hx => .inl hx)
/-- What is new behind the first step does not count. -/
theorem Fr.new {a b c : World} {S T : List Nat} (h : Fr a b S) (k : Fr b c T) (ht : ∀ x ∈ T, a.heap.size ≤ x) : Fr a c S := h.comb k (fun _ hx => .inl hx) (fun x hx => .inr (ht x hx))
theorem Fr.alloc (w : World) (o : Obj) (S : List Nat) : Fr w (w.alloc o) S := ⟨rfl, rfl, rfl, by simp, fun k hk _ => Below.heap_alloc w o k hk⟩
theorem Fr.setCell (w : World) (b i : Nat) (v : Value) {S : List Nat} (h : b ∈ S) : Fr w (w.setCell ⟨b, i, none⟩ v) S :=
  ⟨rfl, rfl, rfl, by simp, fun k _ hk => heap_setCell_other w ⟨b, i, none⟩ k v (fun e => hk (by simp only at e; rw [e]; exact h))⟩
theorem Fr.drew (w : World) (S : List Nat) : Fr w w.drew S := ⟨rfl, rfl, rfl, Nat.le_refl _, fun _ _ _ => rfl⟩
theorem Fr.drewN (w : World) (n : Nat) (S : List Nat) : Fr w (w.drewN n) S := ⟨rfl, rfl, rfl, Nat.le_refl _, fun _ _ _ => rfl⟩
theorem Fr.of_grown {w w' : World} (h : w.grownBy w' none) (S : List Nat) : Fr w w' S := ⟨h.os, h.tape, h.output, h.size, fun k hk _ => h.block k hk (by simp)⟩
theorem Fr.of_grown_row {w w' : World} {g : Nat} (h : w.grownBy w' (some g)) {S : List Nat} (hg : g ∈ S) : Fr w w' S := ⟨h.os, h.tape, h.output, h.size, fun k hk hn => h.block k hk (by simp; intro e; subst e; exact hn hg)⟩
theorem Fr.grown {w w' : World} {S : List Nat} (h : Fr w w' S) (hs : ∀ x ∈ S, w.heap.size ≤ x) : w.grownBy w' none := ⟨h.os, h.tape, h.output, h.size, fun k hk _ => h.block k hk (fun hm => by have := hs k hm; omega)⟩
theorem Fr.below {w w' : World} {S : List Nat} (h : Fr w w' S) (B : Nat) (hB : B ≤ w.heap.size) (hs : ∀ x ∈ S, B ≤ x) : Below B w w' := ⟨h.os, h.tape, h.output, h.size, fun k hk => h.block k (by omega) (fun hm => by have := hs k hm; omega)⟩
theorem Fr.cell {w w' : World} {S : List Nat} (h : Fr w w' S) {a : Addr} {v : Value} (hc : w.cell? a = some v) (hn : a.block ∉ S) : w'.cell? a = some v :=
  (World.cell?_of_block (h.block a.block (World.block_lt_of_cell? w a hc) hn)).trans hc
theorem Fr.heap {w w' : World} {S : List Nat} (h : Fr w w' S) {k : Nat} {o : Obj} (hk : w.heap[k]? = some o) (hn : k ∉ S) : w'.heap[k]? = some o := by
  rw [h.block k (Array.getElem?_eq_some_iff.1 hk).1 hn]; exact hk
theorem Holds.fr {k : IntKind} {w w' : World} {v : Value} {l : List Int} {S : List Nat} (h : Holds k w v l) (hg : Fr w w' S) (hne : ∀ r ∈ S, v.ownBlock ≠ some r) : Holds k w' v l := by
  obtain ⟨a, cap, rfl, h1, h2, h3⟩ := h
  refine ⟨a, cap, rfl, h1, h2, fun h0 => ?_⟩
  obtain ⟨b, off, rfl, hc⟩ := h3 h0
  exact ⟨b, off, rfl, fun i hi => hg.cell (hc i hi) (fun hm => hne b hm rfl)⟩
theorem Own.fr {w w' : World} {B : Nat} {v : Value} {l : List Int} {S : List Nat} (h : Own w B v l) (hg : Fr w w' S) (hne : ∀ r ∈ S, v.ownBlock ≠ some r) : Own w' B v l := by
  refine ⟨h.1, ?_⟩
  rcases h.2 with h2 | ⟨g, cap, cur, rfl, hb, hgg, rest⟩
  · exact .inl h2
  · exact .inr ⟨g, cap, cur, rfl, hb, hg.heap hgg (fun hm => hne g hm rfl), rest⟩
end Go.Proofs.Ytldheaamcnmlgaa

namespace Go.Proofs.Ytldheaamcnmlgaa
open Go.RowKit

theorem size_of_row {w : World} {g : Nat} {o : Obj} (h : w.heap[g]? = some o) : g < w.heap.size := (Array.getElem?_eq_some_iff.1 h).1
theorem row2 {w : World} {g : Nat} {a b : Value} {T : TypeId} (h : w.heap[g]? = some (.cells #[a, b] T (0, 0))) :
    w.cell? ⟨g, 0, none⟩ = some a ∧ w.cell? ⟨g, 1, none⟩ = some b :=
  ⟨by rw [cell_of_row w g 0 _ _ _ h]; rfl, by rw [cell_of_row w g 1 _ _ _ h]; rfl⟩
theorem Holds.shape {k : IntKind} {w : World} {v : Value} {l : List Int} (h : Holds k w v l) : ∃ a cap, v = .slice a l.length cap := by
  obtain ⟨a, cap, h, _⟩ := h; exact ⟨a, cap, h⟩
theorem Holds.keep {k : IntKind} {w w' : World} {v : Value} {l : List Int} (h : Holds k w v l) (hg : Fr w w' []) : Holds k w' v l := h.fr hg (by simp)
theorem row_shape {w : World} {B sz n : Nat} {T : TypeId} {v : Value} {xs : List Value} (h : w.ownsRow B T sz v n xs) : ∃ a c, v = .slice a n c := by
  rcases h.2 with ⟨rfl, h0⟩ | ⟨g, cap, cur, rfl, _⟩
  · exact ⟨none, 0, by rw [h0]⟩
  · exact ⟨_, _, rfl⟩
theorem row_head {w : World} {B sz n : Nat} {T : TypeId} {v : Value} {xs : List Value} (h : w.ownsRow B T sz v n xs) (h0 : 0 < n) : ∃ g c, v = .slice (some ⟨g, 0, none⟩) n c ∧ n ≤ c ∧ c ≤ maxLen ∧ w.heap.size > g := by
  rcases h.2 with ⟨_, h1⟩ | ⟨g, cap, cur, rfl, _, hg, hn, hm, _⟩
  · omega
  · exact ⟨g, cap, rfl, hn, hm, size_of_row hg⟩
theorem row_n {w : World} {B sz n m g c : Nat} {T : TypeId} {xs : List Value} (h : w.ownsRow B T sz (.slice (some ⟨g, 0, none⟩) m c) n xs) : m = n := by
  obtain ⟨a, c', he⟩ := row_shape h
  simp only [Value.slice.injEq] at he
  exact he.2.1
theorem row_at {w : World} {B sz n m g c : Nat} {T : TypeId} {xs : List Value} (h : w.ownsRow B T sz (.slice (some ⟨g, 0, none⟩) m c) n xs) : ∃ cs : Array Value, w.heap[g]? = some (.cells cs T (0, 0)) ∧ B ≤ g ∧ n ≤ c ∧ c ≤ maxLen ∧ cs.size = c * sz ∧ cs.toList.take (n * sz) = xs := by
  rcases h.2 with ⟨h, _⟩ | ⟨g', cap', cur, h, hb, hg, h1, h2, h3, h4⟩
  · simp at h
  · simp only [Value.slice.injEq, Option.some.injEq, Addr.mk.injEq, and_true] at h
    obtain ⟨rfl, rfl, rfl⟩ := h
    exact ⟨cur, hg, hb, h1, h2, h3, h4⟩
theorem row_fr {w w' : World} {B sz n : Nat} {T : TypeId} {v : Value} {xs : List Value} {S : List Nat} (h : w.ownsRow B T sz v n xs) (hg : Fr w w' S) (hne : ∀ r ∈ S, v.ownBlock ≠ some r) : w'.ownsRow B T sz v n xs := by
  refine ⟨h.1, ?_⟩
  rcases h.2 with h2 | ⟨g, cap, cur, rfl, hb, hgg, rest⟩
  · exact .inl h2
  · exact .inr ⟨g, cap, cur, rfl, hb, hg.heap hgg (fun hm => hne g hm rfl), rest⟩
theorem row_keep {w w' : World} {B sz n : Nat} {T : TypeId} {v : Value} {xs : List Value} (h : w.ownsRow B T sz v n xs) (hg : Fr w w' []) : w'.ownsRow B T sz v n xs := row_fr h hg (by simp)
theorem row_ne {w : World} {B sz n : Nat} {T T' : TypeId} {v : Value} {xs : List Value} {g : Nat} {cs : Array Value} {fz : Nat × Nat} (h : w.ownsRow B T sz v n xs) (hg : w.heap[g]? = some (.cells cs T' fz)) (hT : T' ≠ T) : v.ownBlock ≠ some g := by
  rcases h.2 with ⟨rfl, _⟩ | ⟨g', cap, cur, rfl, hb, hgg, rest⟩
  · simp [Value.ownBlock]
  · intro e
    obtain rfl : g' = g := by simpa [Value.ownBlock] using e
    rw [hg] at hgg
    simp at hgg
    exact hT hgg.2.1
/-- What is no row of this kind stays, where one of this kind turns. -/
theorem row_far {w w' : World} {B sz n : Nat} {T T' : TypeId} {v : Value} {xs : List Value} {g : Nat} {cs : Array Value} {fz : Nat × Nat} (hgr : w.grownBy w' v.ownBlock) (h : w.ownsRow B T sz v n xs) (hg : w.heap[g]? = some (.cells cs T' fz)) (hT : T' ≠ T) : w'.heap[g]? = some (.cells cs T' fz) := by
  rw [hgr.block g (size_of_row hg) (fun e => row_ne h hg hT e.symm)]; exact hg
theorem row_mono {w : World} {B B' sz n : Nat} {T : TypeId} {v : Value} {xs : List Value} (h : w.ownsRow B T sz v n xs) (hB : B' ≤ B) : w.ownsRow B' T sz v n xs :=
  ⟨h.1, h.2.imp id (fun ⟨g, cap, cur, a, b, c⟩ => ⟨g, cap, cur, a, by omega, c⟩)⟩
theorem row_set {w : World} {B sz n : Nat} {T T' : TypeId} {v : Value} {xs : List Value} {g : Nat} {cs : Array Value} {fz : Nat × Nat} (h : w.ownsRow B T sz v n xs) (hg : w.heap[g]? = some (.cells cs T' fz)) (hT : T' ≠ T) (i : Nat) (u : Value) : (w.setCell ⟨g, i, none⟩ u).ownsRow B T sz v n xs :=
  row_fr h (Fr.setCell w g i u (S := [g]) (by simp)) (by intro r hr; obtain rfl := List.mem_singleton.1 hr; exact row_ne h hg hT)
theorem Fr.grown_own {w0 w w' : World} {S : List Nat} {v : Value} (hf : Fr w0 w S) (hgr : w.grownBy w' v.ownBlock) (h : ∀ r, v.ownBlock = some r → r ∈ S ∨ w0.heap.size ≤ r) : Fr w0 w' S :=
  ⟨hgr.os.trans hf.os, hgr.tape.trans hf.tape, hgr.output.trans hf.output, Nat.le_trans hf.size hgr.size, fun k hk hn => by
    rw [hgr.block k (Nat.lt_of_lt_of_le hk hf.size) (fun e => (h k e.symm).elim hn (fun h1 => by omega))]; exact hf.block k hk hn⟩
theorem own_empty (w : World) (T : TypeId) (size : Nat) : (w.alloc (.cells #[] T)).ownsRow w.heap.size T size (.slice (some ⟨w.heap.size, 0, none⟩) 0 0) 0 [] :=
  ⟨by simp, .inr ⟨w.heap.size, 0, #[], rfl, Nat.le_refl _, heap_alloc_new _ _, Nat.le_refl _, by decide, by simp, by simp⟩⟩
theorem row_cells {w : World} {B sz n c : Nat} {T : TypeId} {x : Addr} {xs : List Value} (h : w.ownsRow B T sz (.slice (some x) n c) n xs) : ∀ j u, xs[j]? = some u → w.cell? (x.add j) = some u := by
  obtain ⟨a, c', he⟩ := row_shape h
  intro j u hu
  rcases h.2 with ⟨h1, _⟩ | ⟨g, cap, cur, h1, _⟩
  · simp at h1
  · simp only [Value.slice.injEq, Option.some.injEq] at h1
    obtain ⟨rfl, _, rfl⟩ := h1
    exact World.ownsRow.cells h rfl j u hu

/-- The numbers of a text's bytes. -/
def numsOf (s : ByteArray) : List Int := s.data.toList.map fun b => (b.toNat : Int)
theorem numsOf_len (s : ByteArray) : (numsOf s).length = s.size := by
  unfold numsOf; rw [List.length_map, Array.length_toList]; rfl
theorem numsOf_str (l : List Int) (h : ∀ x ∈ l, 0 ≤ x ∧ x < 256) : numsOf (strOfNums l) = l := by
  unfold numsOf
  rw [strOfNums_data, List.map_map]
  refine (List.map_congr_left (fun x hx => ?_)).trans (List.map_id l)
  obtain ⟨h0, h1⟩ := h x hx
  simp only [Function.comp, id, UInt8.toNat_ofNat']
  omega
end Go.Proofs.Ytldheaamcnmlgaa

namespace Go.Proofs.Ytldheaamcnmlgaa
open Go.RowKit

theorem infoI : (Try.prog.info? 3).map (fun i => (i.zero, i.size, i.bytes)) = some (some (.int .i64 0), 1, 8) := by kernel_rfl
def i64s (l : List Int) : List Value := l.map (Value.int .i64)
@[simp] theorem i64s_len (l : List Int) : (i64s l).length = l.length := by simp [i64s]
theorem i64s_snoc (l : List Int) (x : Int) : i64s (l ++ [x]) = i64s l ++ [.int .i64 x] := by simp [i64s]
def OwnI (w : World) (B : Nat) (v : Value) (l : List Int) : Prop := w.ownsRow B 3 1 v l.length (i64s l)
abbrev HInts (w : World) (v : Value) (l : List Int) : Prop := Holds .i64 w v l
theorem OwnI.holds {w : World} {B : Nat} {v : Value} {l : List Int} (h : OwnI w B v l) : HInts w v l := by
  rcases h.2 with ⟨rfl, h0⟩ | ⟨g, cap, cur, rfl, hb, hg, hn, hm, hs, ht⟩
  · obtain rfl := List.eq_nil_of_length_eq_zero h0
    exact ⟨none, 0, rfl, by simp, by decide, fun h => absurd h (by simp)⟩
  · refine ⟨_, cap, rfl, hn, hm, fun _ => ⟨g, 0, rfl, fun i hi => ?_⟩⟩
    have e : (i64s l)[i]? = some (.int .i64 (l.getD i 0)) := by simp [i64s, hi]
    rw [← ht] at e
    rw [List.getElem?_take_of_lt (by omega)] at e
    rw [Nat.zero_add, cell_of_row w g i _ _ _ hg]
    simpa using e
theorem OwnI.fr {w w' : World} {B : Nat} {v : Value} {l : List Int} {S : List Nat} (h : OwnI w B v l) (hg : Fr w w' S) (hne : ∀ r ∈ S, v.ownBlock ≠ some r) : OwnI w' B v l := row_fr h hg hne
theorem OwnI.keep {w w' : World} {B : Nat} {v : Value} {l : List Int} (h : OwnI w B v l) (hg : Fr w w' []) : OwnI w' B v l := h.fr hg (by simp)
/-- Behind writes to a block of another kind. -/
theorem OwnI.far {w w' : World} {B p : Nat} {v : Value} {l : List Int} (h : OwnI w B v l) (hg : Fr w w' [p]) {cs : Array Value} {T : TypeId} {fz : Nat × Nat} (hp : w.heap[p]? = some (.cells cs T fz)) (hT : T ≠ 3) : OwnI w' B v l :=
  h.fr hg (by intro r hr; obtain rfl := List.mem_singleton.1 hr; exact row_ne h hp hT)
theorem OwnI.nil (w : World) (B : Nat) : OwnI w B (.slice none 0 0) [] := ⟨rfl, .inl ⟨rfl, rfl⟩⟩
theorem OwnI.snoc {w : World} {B : Nat} {v : Value} {l : List Int} {x : Int} (h : w.ownsRow B 3 1 v (l.length + 1) (i64s l ++ [.int .i64 x])) : OwnI w B v (l ++ [x]) := by
  unfold OwnI
  rw [i64s_snoc]
  simpa using h
theorem OwnI.block {w : World} {B : Nat} {v : Value} {l : List Int} (h : OwnI w B v l) : ∀ r, v.ownBlock = some r → B ≤ r ∧ r < w.heap.size := World.ownsRow.lt h
theorem OwnI.mono {w : World} {B B' : Nat} {v : Value} {l : List Int} (h : OwnI w B v l) (hB : B' ≤ B) : OwnI w B' v l := row_mono h hB

theorem sameI_any (v1 : Value) (l : List Int) (v2 : Value) (m : List Int) (w : World) (h1 : HInts w v1 l) (h2 : HInts w v2 m) (hr : l.length ≤ 1000000) (b : Bool) (hb : b = decide (l = m)) :
    Calls Try.prog 24 #[v1, v2] w fun e w' => e = .returned (.bool b) ∧ w.grownBy w' none := by
  obtain ⟨a1, c1, rfl, p1, q1, r1⟩ := h1
  obtain ⟨a2, c2, rfl, p2, q2, r2⟩ := h2
  unfold maxLen at q1 q2
  by_cases hl : l.length = m.length
  · have hne : ((l.length : Int) != (m.length : Int)) = false := by simp [hl]
    have HL := Lib.hid hl
    have HB := Lib.hid hb
    clear hl hb
    go_enter Try.func24, Try.ntmps24
    go_wp2
    go_loopw [5] (fun i wr => ∃ k : Nat, k ≤ l.length ∧ i = .int .i64 k ∧ l.take k = m.take k ∧ w.grownBy wr none) (fun i _ => l.length - (intOf i).toNat)
    case atStart => exact ⟨0, Nat.zero_le _, rfl, by simp, grown_refl _ _⟩
    case round =>
      obtain ⟨k, hk, rfl, hpre, hg⟩ := hrel
      have HP := Lib.hid hpre
      clear hpre
      by_cases hlt : k < l.length
      · have hlt2 : k < m.length := by have := HL.out; omega
        obtain ⟨b1, o1, rfl, k1⟩ := r1 (by omega)
        obtain ⟨b2, o2, rfl, k2⟩ := r2 (by omega)
        obtain ⟨x, hx⟩ : ∃ x, x = l.getD k 0 := ⟨_, rfl⟩
        obtain ⟨y, hy⟩ : ∃ y, y = m.getD k 0 := ⟨_, rfl⟩
        have g1 : wr.cell? ⟨b1, o1 + k, none⟩ = some (.int .i64 x) := by rw [hx]; exact hg.cell (k1 k hlt) (by simp)
        have g2 : wr.cell? ⟨b2, o2 + k, none⟩ = some (.int .i64 y) := by rw [hy]; exact hg.cell (k2 k hlt2) (by simp)
        have s1 := take_snoc l k hlt
        have s2 := take_snoc m k hlt2
        rw [← hx] at s1
        rw [← hy] at s2
        by_cases hxy : x = y
        · have e1 : (x == y) = true := by simp [hxy]
          have HN : Hid (l.take (k + 1) = m.take (k + 1)) := by show _ = _; rw [s1, s2, hxy, HP.out]
          clear hxy hx hy k1 k2 r1 r2 s1 s2
          go_wp2
          go_quiet (fail)
          go_wp2
          go_roundw
          case rel => exact ⟨k + 1, by omega, by go_num, HN.out, grown_drewN hg _⟩
          case measure => simp [intOf]; omega
        · have e1 : (x == y) = false := by simp [hxy]
          have HN : Hid (b = false) := by
            show _ = _
            rw [HB.out, decide_eq_false_iff_not]
            intro e
            rw [hx, hy, e] at hxy
            exact hxy rfl
          clear hxy hx hy k1 k2 r1 r2 s1 s2
          go_wp2
          go_quiet (fail)
          go_wp2
          go_ret
          exact ⟨by rw [HN.out]; rfl, grown_drewN hg _⟩
      · obtain rfl : k = l.length := by omega
        have HN : Hid (b = true) := by
          show _ = _
          rw [HB.out, decide_eq_true_iff]
          have := HP.out
          rwa [List.take_length, HL.out, List.take_length] at this
        clear r1 r2
        go_wp2
        go_ret
        exact ⟨by rw [HN.out]; rfl, hg⟩
  · have hne : ((l.length : Int) != (m.length : Int)) = true := by simp; omega
    have HN : Hid (b = false) := by
      show _ = _
      rw [hb, decide_eq_false_iff_not]
      rintro rfl
      exact hl rfl
    clear hl hb r1 r2
    go_enter Try.func24, Try.ntmps24
    go_wp2
    go_ret
    exact ⟨by rw [HN.out]; rfl, grown_refl _ _⟩
/-- The same: the memory is as it was. -/
theorem sameI_quiet (v1 : Value) (l : List Int) (v2 : Value) (m : List Int) (w : World) (h1 : HInts w v1 l) (h2 : HInts w v2 m) (hr : l.length ≤ 1000000) (b : Bool) (hb : b = decide (l = m)) :
    Calls Try.prog 24 #[v1, v2] w fun e w' => e = .returned (.bool b) ∧ ∃ m, w' = w.drewN m := by
  obtain ⟨a1, c1, rfl, p1, q1, r1⟩ := h1
  obtain ⟨a2, c2, rfl, p2, q2, r2⟩ := h2
  unfold maxLen at q1 q2
  by_cases hl : l.length = m.length
  · have hne : ((l.length : Int) != (m.length : Int)) = false := by simp [hl]
    have HL := Lib.hid hl
    have HB := Lib.hid hb
    clear hl hb
    go_enter Try.func24, Try.ntmps24
    go_wp2
    go_loopw [5] (fun i wr => ∃ k : Nat, k ≤ l.length ∧ i = .int .i64 k ∧ l.take k = m.take k ∧ ∃ n, wr = w.drewN n) (fun i _ => l.length - (intOf i).toNat)
    case atStart => exact ⟨0, Nat.zero_le _, rfl, by simp, 0, rfl⟩
    case round =>
      obtain ⟨k, hk, rfl, hpre, hg⟩ := hrel
      have KEY : Hid (∀ m, ∃ n, wr.drewN m = w.drewN n) := fun m => by obtain ⟨n, e⟩ := hg; exact ⟨n + m, by rw [e]; simp [World.drewN, Nat.add_assoc]⟩
      have CEL : Hid (∀ a, wr.cell? a = w.cell? a) := fun a => by obtain ⟨n, e⟩ := hg; rw [e]; rfl
      have END : Hid (∃ n, wr = w.drewN n) := hg
      clear hg
      have HP := Lib.hid hpre
      clear hpre
      by_cases hlt : k < l.length
      · have hlt2 : k < m.length := by have := HL.out; omega
        obtain ⟨b1, o1, rfl, k1⟩ := r1 (by omega)
        obtain ⟨b2, o2, rfl, k2⟩ := r2 (by omega)
        obtain ⟨x, hx⟩ : ∃ x, x = l.getD k 0 := ⟨_, rfl⟩
        obtain ⟨y, hy⟩ : ∃ y, y = m.getD k 0 := ⟨_, rfl⟩
        have g1 : wr.cell? ⟨b1, o1 + k, none⟩ = some (.int .i64 x) := by rw [hx, CEL.out]; exact k1 k hlt
        have g2 : wr.cell? ⟨b2, o2 + k, none⟩ = some (.int .i64 y) := by rw [hy, CEL.out]; exact k2 k hlt2
        have s1 := take_snoc l k hlt
        have s2 := take_snoc m k hlt2
        rw [← hx] at s1
        rw [← hy] at s2
        by_cases hxy : x = y
        · have e1 : (x == y) = true := by simp [hxy]
          have HN : Hid (l.take (k + 1) = m.take (k + 1)) := by show _ = _; rw [s1, s2, hxy, HP.out]
          clear hxy hx hy k1 k2 r1 r2 s1 s2
          go_wp2
          go_quiet (fail)
          go_wp2
          go_roundw
          case rel => exact ⟨k + 1, by omega, by go_num, HN.out, KEY.out _⟩
          case measure => simp [intOf]; omega
        · have e1 : (x == y) = false := by simp [hxy]
          have HN : Hid (b = false) := by
            show _ = _
            rw [HB.out, decide_eq_false_iff_not]
            intro e
            rw [hx, hy, e] at hxy
            exact hxy rfl
          clear hxy hx hy k1 k2 r1 r2 s1 s2
          go_wp2
          go_quiet (fail)
          go_wp2
          go_ret
          exact ⟨by rw [HN.out]; rfl, KEY.out _⟩
      · obtain rfl : k = l.length := by omega
        have HN : Hid (b = true) := by
          show _ = _
          rw [HB.out, decide_eq_true_iff]
          have := HP.out
          rwa [List.take_length, HL.out, List.take_length] at this
        clear r1 r2
        go_wp2
        go_ret
        exact ⟨by rw [HN.out]; rfl, END.out⟩
  · have hne : ((l.length : Int) != (m.length : Int)) = true := by simp; omega
    have HN : Hid (b = false) := by
      show _ = _
      rw [hb, decide_eq_false_iff_not]
      rintro rfl
      exact hl rfl
    clear hl hb r1 r2
    go_enter Try.func24, Try.ntmps24
    go_wp2
    go_ret
    exact ⟨by rw [HN.out]; rfl, 0, rfl⟩
/-- In a quiet region. -/
theorem sameI_at (v1 : Value) (l : List Int) (v2 : Value) (m : List Int) (w : World) (n : Nat) (h1 : HInts w v1 l) (h2 : HInts w v2 m) (hr : l.length ≤ 1000000) (b : Bool) (hb : b = decide (l = m)) :
    Calls Try.prog 24 #[v1, v2] (w.drewN n) fun e w' => e = .returned (.bool b) ∧ ∃ m, w' = w.drewN m := by
  refine (sameI_quiet v1 l v2 m (w.drewN n) (h1.fr (Fr.drewN w n []) (by simp)) (h2.fr (Fr.drewN w n []) (by simp)) hr b hb).mono ?_
  rintro e w' ⟨he, k, rfl⟩
  exact ⟨he, n + k, by simp [World.drewN, Nat.add_assoc]⟩
end Go.Proofs.Ytldheaamcnmlgaa

namespace Go.Proofs.Ytldheaamcnmlgaa

/-- A bid: a car, ticks. -/
def ltB (a b : Int × Int) : Bool := decide (a.2 < b.2) || (decide (a.2 = b.2) && decide (a.1 < b.1))
theorem ltB_iff (a b : Int × Int) : ltB a b = true ↔ a.2 < b.2 ∨ (a.2 = b.2 ∧ a.1 < b.1) := by
  unfold ltB
  simp only [Bool.or_eq_true, Bool.and_eq_true, decide_eq_true_eq]
theorem ltB_no (a b : Int × Int) : ltB a b = false ↔ ¬ (a.2 < b.2 ∨ (a.2 = b.2 ∧ a.1 < b.1)) := by
  rw [← ltB_iff, Bool.not_eq_true]
theorem ltB_self (a : Int × Int) : ltB a a = false := (ltB_no a a).2 (by omega)
theorem ltB_trans {a b c : Int × Int} (h : ltB a b = true) (k : ltB b c = true) : ltB a c = true := by
  rw [ltB_iff] at *; omega
theorem ltB_asymm {a b : Int × Int} (h : ltB a b = true) : ltB b a = false := by
  rw [ltB_no]; rw [ltB_iff] at h; omega
theorem ltB_same {a b : Int × Int} (h : ltB a b = false) (k : ltB b a = false) : a = b := by
  rw [ltB_no] at *
  exact Prod.ext (by omega) (by omega)
theorem ltB_of_no {a b c : Int × Int} (h : ltB a b = false) (k : ltB b c = false) : ltB a c = false := by
  rw [ltB_no] at *; omega
/-- The least: none of them is less. -/
def LeastB (l : List (Int × Int)) (x : Int × Int) : Prop := x ∈ l ∧ ∀ y ∈ l, ltB y x = false
theorem LeastB.unique {l : List (Int × Int)} {x y : Int × Int} (h : LeastB l x) (k : LeastB l y) : x = y := ltB_same (k.2 x h.1) (h.2 y k.1)
/-- One by one. -/
def leastOf (x : Int × Int) (l : List (Int × Int)) : Int × Int := l.foldl (fun b y => if ltB y b = true then y else b) x
theorem leastOf_is : ∀ (l : List (Int × Int)) (x : Int × Int), LeastB (x :: l) (leastOf x l)
  | [], x => ⟨by simp [leastOf], fun y hy => by
      rcases List.mem_cons.1 hy with rfl | h
      · exact ltB_self _
      · cases h⟩
  | a :: l, x => by
    have e : leastOf x (a :: l) = leastOf (if ltB a x = true then a else x) l := rfl
    obtain ⟨m, n⟩ := leastOf_is l (if ltB a x = true then a else x)
    rw [← e] at m n
    refine ⟨?_, ?_⟩
    · rcases List.mem_cons.1 m with h | h
      · rw [h]; split <;> simp
      · exact List.mem_cons_of_mem _ (List.mem_cons_of_mem _ h)
    · have hz := n _ (List.mem_cons_self ..)
      intro y hy
      rcases List.mem_cons.1 hy with rfl | hy
      · refine ltB_of_no (b := if ltB a y = true then a else y) ?_ hz
        split
        · rename_i g; exact ltB_asymm g
        · exact ltB_self _
      · rcases List.mem_cons.1 hy with rfl | hy
        · refine ltB_of_no (b := if ltB y x = true then y else x) ?_ hz
          split
          · exact ltB_self _
          · rename_i g; simpa using g
        · exact n y (List.mem_cons_of_mem _ hy)
theorem LeastB.some : ∀ {l : List (Int × Int)}, l ≠ [] → ∃ x, LeastB l x
  | [], h => absurd rfl h
  | x :: l, _ => ⟨_, leastOf_is l x⟩
/-- One more behind: it, if it is less. -/
theorem LeastB.snoc {l : List (Int × Int)} {x : Int × Int} (h : LeastB l x) (b : Int × Int) : LeastB (l ++ [b]) (if ltB b x = true then b else x) := by
  refine ⟨?_, fun y hy => ?_⟩
  · split
    · simp
    · exact List.mem_append_left _ h.1
  · rcases List.mem_append.1 hy with m | m
    · have := h.2 y m
      split
      · rename_i g
        exact ltB_of_no this (ltB_asymm g)
      · exact this
    · obtain rfl : y = b := by simpa using m
      split
      · exact ltB_self _
      · rename_i g; simpa using g
/-- The first of a car. -/
def bidOf (l : List (Int × Int)) (c : Int) : Option (Int × Int) := l.find? (fun x => decide (x.1 = c))
theorem bidOf_car {l : List (Int × Int)} {c : Int} {x : Int × Int} (h : bidOf l c = some x) : x.1 = c ∧ x ∈ l := by
  unfold bidOf at h
  exact ⟨by simpa using List.find?_some h, List.mem_of_find?_eq_some h⟩
theorem bidOf_none {l : List (Int × Int)} {c : Int} : bidOf l c = none ↔ ∀ x ∈ l, x.1 ≠ c := by
  unfold bidOf
  rw [List.find?_eq_none]
  simp
/-- One more, by cars: ahead of the first whose car is greater. -/
def insB (b : Int × Int) : List (Int × Int) → List (Int × Int)
  | [] => [b]
  | x :: l => if x.1 ≤ b.1 then x :: insB b l else b :: x :: l
theorem mem_insB {b y : Int × Int} : ∀ {l : List (Int × Int)}, y ∈ insB b l ↔ y = b ∨ y ∈ l
  | [] => by simp [insB]
  | x :: l => by
    unfold insB
    split
    · rw [List.mem_cons, mem_insB, List.mem_cons]
      constructor
      · rintro (h | h | h)
        · exact .inr (.inl h)
        · exact .inl h
        · exact .inr (.inr h)
      · rintro (h | h | h)
        · exact .inr (.inl h)
        · exact .inl h
        · exact .inr (.inr h)
    · rw [List.mem_cons]
theorem insB_length (b : Int × Int) : ∀ l : List (Int × Int), (insB b l).length = l.length + 1
  | [] => rfl
  | x :: l => by
    unfold insB
    split
    · rw [List.length_cons, insB_length b l, List.length_cons]
    · rfl
/-- By its place: how many stand ahead of it. -/
def placeB (l : List (Int × Int)) (c : Int) : Nat := (l.takeWhile (fun x => decide (x.1 ≤ c))).length
theorem insB_split (b : Int × Int) : ∀ l : List (Int × Int), insB b l = l.take (placeB l b.1) ++ b :: l.drop (placeB l b.1)
  | [] => rfl
  | x :: l => by
    unfold insB placeB
    by_cases g : x.1 ≤ b.1
    · rw [if_pos g, List.takeWhile_cons, if_pos (decide_eq_true g), insB_split b l]
      rfl
    · rw [if_neg g, List.takeWhile_cons, if_neg (by simpa using g)]
      rfl
theorem placeB_le (l : List (Int × Int)) (c : Int) : placeB l c ≤ l.length := (List.takeWhile_sublist _).length_le
/-- A place is it, where all ahead are no greater, and the one there is. -/
theorem placeB_is {c : Int} : ∀ {l : List (Int × Int)} {k : Nat}, k ≤ l.length → (∀ i, i < k → (l.getD i (0, 0)).1 ≤ c) → (k < l.length → c < (l.getD k (0, 0)).1) → placeB l c = k
  | [], k, h, _, _ => by
    have : k = 0 := by simpa using h
    rw [this]; rfl
  | x :: l, 0, _, _, h => by
    have := h (by simp)
    unfold placeB
    rw [List.takeWhile_cons, if_neg (by simpa using this)]; rfl
  | x :: l, k + 1, h, a, b => by
    have g : x.1 ≤ c := a 0 (by omega)
    unfold placeB
    rw [List.takeWhile_cons, if_pos (decide_eq_true g), List.length_cons]
    congr 1
    exact placeB_is (by simpa using h) (fun i hi => a (i + 1) (by omega)) (fun hk => b (by simpa using hk))
def putB (l : List (Int × Int)) (b : Int × Int) : List (Int × Int) := if (bidOf l b.1).isSome = true then l else insB b l
/-- They rise by cars. -/
def RiseB (l : List (Int × Int)) : Prop := l.Pairwise (fun a b => a.1 < b.1)
theorem RiseB.ins {b : Int × Int} : ∀ {l : List (Int × Int)}, RiseB l → (∀ x ∈ l, x.1 ≠ b.1) → RiseB (insB b l)
  | [], _, _ => List.pairwise_singleton _ _
  | x :: l, h, n => by
    unfold RiseB at h
    obtain ⟨h1, h2⟩ := List.pairwise_cons.1 h
    have nx := n x (List.mem_cons_self ..)
    unfold insB
    split
    · rename_i g
      refine List.pairwise_cons.2 ⟨fun y hy => ?_, RiseB.ins h2 (fun z hz => n z (List.mem_cons_of_mem _ hz))⟩
      rcases mem_insB.1 hy with rfl | hy
      · omega
      · exact h1 y hy
    · rename_i g
      refine List.pairwise_cons.2 ⟨fun y hy => ?_, h⟩
      rcases List.mem_cons.1 hy with rfl | hy
      · omega
      · have := h1 y hy; omega
theorem RiseB.put {l : List (Int × Int)} (h : RiseB l) (b : Int × Int) : RiseB (putB l b) := by
  unfold putB
  split
  · exact h
  · rename_i g
    refine h.ins fun x hx => ?_
    have : bidOf l b.1 = none := by
      cases k : bidOf l b.1 with
      | none => rfl
      | some y => rw [k] at g; simp at g
    exact bidOf_none.1 this x hx
theorem RiseB.at {l : List (Int × Int)} (h : RiseB l) {i : Nat} (hi : i + 1 < l.length) : (l.getD i (0, 0)).1 < (l.getD (i + 1) (0, 0)).1 := by
  have := List.pairwise_iff_getElem.1 h i (i + 1) (by omega) hi (by omega)
  rw [List.getD_eq_getElem?_getD, List.getD_eq_getElem?_getD, List.getElem?_eq_getElem (show i < l.length by omega), List.getElem?_eq_getElem hi]
  exact this
/-- Who is told in it. -/
theorem bidOf_put (l : List (Int × Int)) (b : Int × Int) (c : Int) : (bidOf (putB l b) c).isSome = ((bidOf l c).isSome || decide (c = b.1)) := by
  have key : ∀ (m : List (Int × Int)) (z : Int), (bidOf m z).isSome = true ↔ ∃ x ∈ m, x.1 = z := fun m z => by
    rw [Option.isSome_iff_ne_none, ne_eq, bidOf_none]
    constructor
    · intro h
      refine Decidable.by_contra fun k => h fun x hx e => k ⟨x, hx, e⟩
    · rintro ⟨x, hx, e⟩ h
      exact h x hx e
  rw [Bool.eq_iff_iff, Bool.or_eq_true, key, key, decide_eq_true_iff]
  unfold putB
  split
  · rename_i g
    constructor
    · exact .inl
    · rintro (h | h)
      · exact h
      · rw [h]; exact (key l b.1).1 g
  · constructor
    · rintro ⟨x, hx, e⟩
      rcases mem_insB.1 hx with rfl | hx
      · exact .inr e.symm
      · exact .inl ⟨x, hx, e⟩
    · rintro (⟨x, hx, e⟩ | h)
      · exact ⟨x, mem_insB.2 (.inr hx), e⟩
      · exact ⟨b, mem_insB.2 (.inl rfl), h.symm⟩
def fullB (ms : List Int) (l : List (Int × Int)) : Bool := ms.all fun m => (bidOf l m).isSome
end Go.Proofs.Ytldheaamcnmlgaa

namespace Go.Proofs.Ytldheaamcnmlgaa
open Go.RowKit

/-- The slice v holds the bids (FHold's, and: a nil one has no room). -/
def HB (w : World) (v : Value) (l : List (Int × Int)) : Prop :=
  ∃ a cap, v = .slice a l.length cap ∧ (l.length ≤ cap ∧ (a = none → cap = 0)) ∧ cap ≤ maxLen ∧ (0 < l.length → ∃ b off, a = some ⟨b, off, none⟩ ∧ ∀ i, i < l.length →
    w.cell? ⟨b, off + i * 2, none⟩ = some (.int .i64 (l.getD i (0, 0)).1) ∧ w.cell? ⟨b, off + i * 2 + 1, none⟩ = some (.int .i64 (l.getD i (0, 0)).2))
theorem HB.shape {w : World} {v : Value} {l : List (Int × Int)} (h : HB w v l) : ∃ a cap, v = .slice a l.length cap := by
  obtain ⟨a, cap, h, _⟩ := h; exact ⟨a, cap, h⟩
theorem HB.fr {w w' : World} {v : Value} {l : List (Int × Int)} {S : List Nat} (h : HB w v l) (hg : Fr w w' S) (hne : ∀ r ∈ S, v.ownBlock ≠ some r) : HB w' v l := by
  obtain ⟨a, cap, rfl, h1, h2, h3⟩ := h
  refine ⟨a, cap, rfl, h1, h2, fun h0 => ?_⟩
  obtain ⟨b, off, rfl, hc⟩ := h3 h0
  exact ⟨b, off, rfl, fun i hi => ⟨hg.cell (hc i hi).1 (fun hm => hne b hm rfl), hg.cell (hc i hi).2 (fun hm => hne b hm rfl)⟩⟩
theorem HB.keep {w w' : World} {v : Value} {l : List (Int × Int)} (h : HB w v l) (hg : Fr w w' []) : HB w' v l := h.fr hg (by simp)
theorem nil_bids {w : World} : HB w (.slice none 0 0) [] := ⟨none, 0, rfl, by simp, by decide, fun h => absurd h (by simp)⟩
def bdc (l : List (Int × Int)) : List Value := l.flatMap fun b => [.int .i64 b.1, .int .i64 b.2]
theorem bdc_len (l : List (Int × Int)) : (bdc l).length = l.length * 2 := by
  induction l with
  | nil => rfl
  | cons b l ih => simp only [bdc, List.flatMap_cons, List.length_append, List.length_cons, List.length_nil] at *; omega
theorem bdc_snoc (l : List (Int × Int)) (b : Int × Int) : bdc (l ++ [b]) = bdc l ++ [.int .i64 b.1, .int .i64 b.2] := by simp [bdc]
theorem bdc_app (l m : List (Int × Int)) : bdc (l ++ m) = bdc l ++ bdc m := by simp [bdc]
theorem bdc_get (l : List (Int × Int)) (i : Nat) (h : i < l.length) : (bdc l)[i * 2]? = some (.int .i64 (l.getD i (0, 0)).1) ∧ (bdc l)[i * 2 + 1]? = some (.int .i64 (l.getD i (0, 0)).2) := by
  induction l generalizing i with
  | nil => simp at h
  | cons b l ih =>
    cases i with
    | zero => simp [bdc]
    | succ i =>
      have h' : i < l.length := by simpa using h
      have := ih i h'
      have e : bdc (b :: l) = .int .i64 b.1 :: .int .i64 b.2 :: bdc l := by simp [bdc]
      rw [e, show (i + 1) * 2 = i * 2 + 1 + 1 by omega]
      simpa using this
theorem infoB : (Try.prog.info? 42).map (fun i => (i.zero, i.size, i.bytes)) = some (some (.agg #[.int .i64 0, .int .i64 0]), 2, 16) := by kernel_rfl
/-- The slice v is the call's own, and holds the bids. -/
def OwnB (w : World) (B : Nat) (v : Value) (l : List (Int × Int)) : Prop := w.ownsRow B 42 2 v l.length (bdc l)
theorem OwnB.nil (w : World) (B : Nat) : OwnB w B (.slice none 0 0) [] := ⟨rfl, .inl ⟨rfl, rfl⟩⟩
theorem OwnB.fr {w w' : World} {B : Nat} {v : Value} {l : List (Int × Int)} {S : List Nat} (h : OwnB w B v l) (hg : Fr w w' S) (hne : ∀ r ∈ S, v.ownBlock ≠ some r) : OwnB w' B v l := row_fr h hg hne
theorem OwnB.keep {w w' : World} {B : Nat} {v : Value} {l : List (Int × Int)} (h : OwnB w B v l) (hg : Fr w w' []) : OwnB w' B v l := h.fr hg (by simp)
theorem OwnB.mono {w : World} {B B' : Nat} {v : Value} {l : List (Int × Int)} (h : OwnB w B v l) (hB : B' ≤ B) : OwnB w B' v l := row_mono h hB
theorem OwnB.snoc {w : World} {B : Nat} {v : Value} {l : List (Int × Int)} {b : Int × Int} (h : w.ownsRow B 42 2 v (l.length + 1) (bdc l ++ [.int .i64 b.1, .int .i64 b.2])) : OwnB w B v (l ++ [b]) := by
  unfold OwnB
  rw [bdc_snoc]
  simpa using h
theorem OwnB.block {w : World} {B : Nat} {v : Value} {l : List (Int × Int)} (h : OwnB w B v l) : ∀ r, v.ownBlock = some r → B ≤ r ∧ r < w.heap.size := World.ownsRow.lt h
theorem OwnB.shape {w : World} {B : Nat} {v : Value} {l : List (Int × Int)} (h : OwnB w B v l) : ∃ a c, v = .slice a l.length c := row_shape h
theorem OwnB.holds {w : World} {B : Nat} {v : Value} {l : List (Int × Int)} (h : OwnB w B v l) : HB w v l := by
  by_cases h0 : 0 < l.length
  · obtain ⟨g, c, rfl, hc, hm, _⟩ := row_head h h0
    have h2 := World.ownsRow.cellAt h
    refine ⟨_, c, rfl, ⟨hc, by simp⟩, hm, fun _ => ⟨g, 0, rfl, fun i hi => ?_⟩⟩
    obtain ⟨g0, g1⟩ := bdc_get l i hi
    rw [Nat.zero_add]
    exact ⟨(h2 _ (by omega)).trans g0, (h2 _ (by omega)).trans g1⟩
  · obtain rfl := List.eq_nil_of_length_eq_zero (by omega : l.length = 0)
    rcases h.2 with ⟨rfl, _⟩ | ⟨g, cap, cur, rfl, hb, hg, hn, hm, _⟩
    · exact ⟨none, 0, rfl, by simp, by decide, fun h => absurd h (by simp)⟩
    · exact ⟨_, cap, rfl, ⟨hn, by simp⟩, hm, fun h => absurd h (by simp)⟩
/-- A bid by value, in a box. -/
abbrev bidV (b : Int × Int) : Value := .agg #[.int .i64 b.1, .int .i64 b.2]
abbrev bidBox (b : Int × Int) : Obj := .cells #[.int .i64 b.1, .int .i64 b.2] 42
/-- Its two cells. -/
theorem brow {w : World} {g : Nat} {a b : Value} {T : TypeId} (h : w.heap[g]? = some (.cells #[a, b] T (0, 0))) : w.cell? ⟨g, 0, none⟩ = some a ∧ w.cell? ⟨g, 1, none⟩ = some b :=
  ⟨by rw [cell_of_row w g 0 _ _ _ h]; rfl, by rw [cell_of_row w g 1 _ _ _ h]; rfl⟩
end Go.Proofs.Ytldheaamcnmlgaa

namespace Go.Proofs.Ytldheaamcnmlgaa
open Go.RowKit

section
variable {P : Program} {ops : Array Oper} {Q : Exit → Act → World → Prop} {md : Region.Mode} {S : World → Prop}

/-- What came of one operation is the value v, in a world that meets S. -/
def Came (P : Program) (S : World → Prop) (v : Value) : Result Next → Prop
  | .ok (.value x) w' => x = v ∧ S w'
  | .ok .skip w' => v = undef ∧ S w'
  | .ok (.enter f args) w' => Calls P f args w' fun e w'' => e = .returned v ∧ S w''
  | _ => False

theorem Came.value {v x : Value} {w' : World} (h : x = v) (hS : S w') : Came P S v (.ok (.value x) w') := ⟨h, hS⟩
theorem Came.call {v u : Value} {f : FuncId} {args : Array Value} {w' : World} (h : Calls P f args w' fun e w'' => e = .returned u ∧ S w'') (hv : u = v) : Came P S v (.ok (.enter f args) w') := hv ▸ h

/-- In state a, in every world that meets S, operation o ends with v, and S is kept. -/
def EndsIf (P : Program) (ops : Array Oper) (S : World → Prop) (o : Oper) (v : Value) (a : Act) : Prop :=
  (Region.wanted o (yielded ops a.tmps) = true ∧ ∀ w, S w → Came P S v ((execOp a.eval o).run P w)) ∨
  (Region.wanted o (yielded ops a.tmps) = false ∧ v = undef)

theorem EndsIf.of_same {o : Oper} {v : Value} {a a' : Act} (hy : EndsIf P ops S o v a) (he : execOp a'.eval o = execOp a.eval o)
    (hw : Region.wanted o (yielded ops a'.tmps) = Region.wanted o (yielded ops a.tmps)) : EndsIf P ops S o v a' := by
  unfold EndsIf at *
  rw [he, hw]
  exact hy

theorem EndsIf.wpOp {i : Nat} {o : Oper} {v : Value} {a : Act} (hi : ops[i]? = some o) (hy : EndsIf P ops S o v a)
    {K : Act → World → Prop} {w : World} (hS : S w) (h : ∀ w', S w' → K (a.put o.dst v) w') : wpOp P ops Q i K a w := by
  unfold Go.wpOp
  simp only [hi]
  rcases hy with ⟨hw, hv⟩ | ⟨hw, rfl⟩
  · simp only [hw, if_true]
    refine .inl ?_
    have h1 := hv w hS
    unfold Oper.wp
    generalize (execOp a.eval o).run P w = r at h1
    cases r with
    | ok n w' =>
      cases n with
      | value x => obtain ⟨rfl, h2⟩ := h1; exact h _ h2
      | skip => obtain ⟨rfl, h2⟩ := h1; exact h _ h2
      | enter f args =>
        refine Calls.mono h1 ?_
        rintro e w'' ⟨rfl, h2⟩
        exact h _ h2
      | defer d => exact h1.elim
      | row r args => exact h1.elim
      | _ => exact h1.elim
    | halt x w' => exact h1.elim
  · simp only [hw, Bool.false_eq_true, if_false]
    exact h w hS

/-- Whatever order is picked from here on. -/
def wpDet (P : Program) (md : Region.Mode) (ops : Array Oper) (Q : Exit → Act → World → Prop) (S : World → Prop) : Nat → Array Bool → Act → Prop
  | 0, listed, a => Region.ready md ops listed = [] ∧ ∀ w, S w → Q .normal a w
  | fuel + 1, listed, a =>
    (Region.ready md ops listed = [] → ∀ w, S w → Q .normal a w) ∧
    ∀ i ∈ Region.ready md ops listed, ∃ o v, ops[i]? = some o ∧ EndsIf P ops S o v a ∧ wpDet P md ops Q S fuel (listed.setIfInBounds i true) (a.put o.dst v)

theorem wpAny_of_det : ∀ (fuel : Nat) (listed : Array Bool) (a : Act), wpDet P md ops Q S fuel listed a → ∀ w, S w → wpAny P md ops Q fuel listed a w
  | 0, _, _, h, w, hS => ⟨h.1, h.2 w hS⟩
  | fuel + 1, _, _, h, w, hS => ⟨fun h0 => h.1 h0 w hS, fun i hi => by
      obtain ⟨o, v, ho, hy, h'⟩ := h.2 i hi
      exact hy.wpOp ho hS (fun w' hS' => wpAny_of_det fuel _ _ h' w' hS')⟩

theorem wpDet_first {i : Nat} {oi : Oper} {v : Value} (hi : ops[i]? = some oi) (hsel : ∀ (j : Nat) (o : Oper) cs b, ops[j]? = some o → o.op ≠ .select cs b) :
    ∀ (fuel : Nat) (listed : Array Bool) (a : Act),
      (∀ j oj, ops[j]? = some oj → j ≠ i → listed.getD j true = false → (∀ e ∈ oj.after, Region.binds md e = true → e.on ≠ i) → oi.apart ops oj = true) →
      i ∈ Region.ready md ops listed → EndsIf P ops S oi v a →
      wpDet P md ops Q S fuel (listed.setIfInBounds i true) (a.put oi.dst v) → wpDet P md ops Q S (fuel + 1) listed a := by
  intro fuel
  induction fuel with
  | zero =>
    intro listed a _ hr hy H
    refine ⟨fun h => (by rw [h] at hr; cases hr), fun j hj => ?_⟩
    by_cases hji : j = i
    · subst hji; exact ⟨oi, v, hi, hy, H⟩
    · have := ready_mono hj hji
      rw [H.1] at this
      cases this
  | succ fuel ih =>
    intro listed a hfree hr hy H
    refine ⟨fun h => (by rw [h] at hr; cases hr), fun j hj => ?_⟩
    by_cases hji : j = i
    · subst hji; exact ⟨oi, v, hi, hy, H⟩
    · obtain ⟨oj, u, hoj, hyj, H'⟩ := H.2 j (ready_mono hj hji)
      obtain ⟨hjun, oj', hoj', hall⟩ := mem_ready.1 hj
      obtain rfl := Option.some.inj (hoj.symm.trans hoj')
      have hnot : ∀ e ∈ oj.after, Region.binds md e = true → e.on ≠ i := fun e he hb heq => by
        have h1 := hall e he hb
        have h0 := (mem_ready.1 hr).1
        rw [heq] at h1
        rcases Nat.lt_or_ge i listed.size with h' | h'
        · simp [h'] at h0 h1; rw [h0] at h1; cases h1
        · simp [Array.getElem?_eq_none h'] at h1
      obtain ⟨h1, h2, h3⟩ := Oper.apart_spec (hfree j oj hoj hji hjun hnot)
      have hfree' : ∀ k ok, ops[k]? = some ok → k ≠ i → (listed.setIfInBounds j true).getD k true = false →
          (∀ e ∈ ok.after, Region.binds md e = true → e.on ≠ i) → oi.apart ops ok = true := fun k ok hk hki hun hno => by
        refine hfree k ok hk hki ?_ hno
        by_cases hjk : j = k
        · subst hjk; exact hjun
        · rw [getD_set_ne true hjk] at hun; exact hun
      refine ⟨oj, u, hoj, hyj.of_same (execOp_put oj (fun cs b => hsel j oj cs b hoj) a oi.dst v h1).symm (wanted_put oj a oi.dst v h1).symm, ?_⟩
      refine ih (listed.setIfInBounds j true) (a.put oj.dst u) hfree' (ready_mono hr (Ne.symm hji)) (hy.of_same (execOp_put oi (fun cs b => hsel i oi cs b hi) a oj.dst u h3) (wanted_put oi a oj.dst u h3)) ?_
      rw [Array.setIfInBounds_comm _ _ hji, ← Act.put_comm a v u h2]
      exact H'

/-- Take number i: it may come up, ends with v in every world that meets S (or is left out), and nobody who could come ahead of it touches its temporaries. -/
theorem wpDet_take {i : Nat} {oi : Oper} {v : Value} {fuel : Nat} {listed : Array Bool} {a : Act} (hi : ops[i]? = some oi)
    (hs : Region.noSelect ops = true) (hf : Region.free md ops listed i = true) (hr : (Region.ready md ops listed).contains i = true)
    (hy : EndsIf P ops S oi v a)
    (h : wpDet P md ops Q S fuel (listed.setIfInBounds i true) (a.put oi.dst v)) : wpDet P md ops Q S (fuel + 1) listed a :=
  wpDet_first hi (Region.noSelect_spec hs) fuel listed a (Region.free_spec hi hf) (by simpa using hr) hy h
/-- All have come up. -/
theorem wpDet_done {listed : Array Bool} {a : Act} (hr : Region.ready md ops listed = []) (h : ∀ w, S w → Q .normal a w) :
    ∀ fuel, wpDet P md ops Q S fuel listed a
  | 0 => ⟨hr, h⟩
  | _ + 1 => ⟨fun _ => h, by rw [hr]; simp⟩
theorem wp_region_det {id : Nat} {a : Act} {w : World} (hm : P.follows .mixedOrders = true) (hS : S w.drew)
    (h : wpDet P .any ops Q S ops.size (Array.replicate ops.size false) a) : (Code.region id ops true).wp P Q a w :=
  wp_region_any hm (wpAny_of_det _ _ _ h _ hS)
end
end Go.Proofs.Ytldheaamcnmlgaa

namespace Go.Proofs.Ytldheaamcnmlgaa
open Go.RowKit

section
variable {P : Program} {ops : Array Oper} {Q : Exit → Act → World → Prop} {md : Region.Mode} {S : World → Prop}

/-- What has come up waits for nothing that has not. -/
def allIn (md : Region.Mode) (ops : Array Oper) (listed : Array Bool) : Prop :=
  ∀ p o, ops[p]? = some o → listed.getD p false = true → ∀ e ∈ o.after, Region.binds md e = true → listed.getD e.on false = true
theorem allIn_start : allIn md ops (Array.replicate ops.size false) := by
  intro p o ho hp
  have hlt : p < ops.size := (Array.getElem?_eq_some_iff.1 ho).1
  simp [hlt] at hp
theorem getD_up {listed : Array Bool} {k i : Nat} (h : listed.getD i false = true) : (listed.setIfInBounds k true).getD i false = true := by
  by_cases e : k = i
  · subst e
    rcases Nat.lt_or_ge k listed.size with h' | h'
    · simp [h']
    · simp [Array.getElem?_eq_none h'] at h
  · rw [getD_set_ne false e]; exact h
theorem allIn_set {listed : Array Bool} (h : allIn md ops listed) {k : Nat} (hk : k ∈ Region.ready md ops listed) : allIn md ops (listed.setIfInBounds k true) := by
  intro p o ho hp e he hb
  refine getD_up ?_
  obtain ⟨_, ok, hok, hall⟩ := mem_ready.1 hk
  by_cases hkp : k = p
  · subst hkp
    obtain rfl := Option.some.inj (hok.symm.trans ho)
    exact hall e he hb
  · rw [getD_set_ne false hkp] at hp
    exact h p o ho hp e he hb

/-- What number p waits for itself, and through others: a bit an operation. -/
def waitsM (md : Region.Mode) (ops : Array Oper) (p : Nat) : Nat :=
  match ops[p]? with
  | some o => o.after.toList.foldl (fun a e => if Region.binds md e then a ||| 2 ^ e.on else a) 0
  | none => 0
def reachM (md : Region.Mode) (ops : Array Oper) : Nat → Nat → Nat
  | 0, m => m
  | p + 1, m => reachM md ops p (if m.testBit p then m ||| waitsM md ops p else m)
/-- Every operation from number t on waits for all that stand ahead of t. -/
def tailOK (md : Region.Mode) (ops : Array Oper) (t : Nat) : Bool :=
  (List.range ops.size).all fun k => decide (k < t) || (reachM md ops k (waitsM md ops k) &&& (2 ^ t - 1)) == 2 ^ t - 1
def InM (listed : Array Bool) (m : Nat) : Prop := ∀ i, m.testBit i = true → listed.getD i false = true
theorem InM.or {listed : Array Bool} {m n : Nat} (h : InM listed m) (k : InM listed n) : InM listed (m ||| n) := fun i hi => by
  rw [Nat.testBit_or, Bool.or_eq_true] at hi
  exact hi.elim (h i) (k i)
theorem waits_in {listed : Array Bool} {p : Nat} {o : Oper} (ho : ops[p]? = some o) (h : ∀ e ∈ o.after, Region.binds md e = true → listed.getD e.on false = true) : InM listed (waitsM md ops p) := by
  unfold waitsM
  rw [ho]
  have key : ∀ (l : List _) (a : Nat), (∀ e ∈ l, Region.binds md e = true → listed.getD e.on false = true) → InM listed a → InM listed (l.foldl (fun a e => if Region.binds md e then a ||| 2 ^ e.on else a) a) := by
    intro l
    induction l with
    | nil => intro a _ ha; exact ha
    | cons e l ih =>
      intro a hl ha
      refine ih _ (fun e' he' => hl e' (List.mem_cons_of_mem _ he')) ?_
      by_cases hb : Region.binds md e = true
      · dsimp only
        rw [if_pos hb]
        refine ha.or (fun i hi => ?_)
        rw [Nat.testBit_two_pow] at hi
        obtain rfl : e.on = i := of_decide_eq_true hi
        exact hl e (List.mem_cons_self ..) hb
      · dsimp only
        rw [if_neg hb]; exact ha
  exact key _ 0 (fun e he => h e (by simpa using he)) (fun i hi => by simp at hi)
theorem reach_in {listed : Array Bool} (h : allIn md ops listed) : ∀ (p m : Nat), InM listed m → InM listed (reachM md ops p m)
  | 0, _, hm => hm
  | p + 1, m, hm => by
    refine reach_in h p _ ?_
    split
    · rename_i hp
      refine hm.or ?_
      cases ho : ops[p]? with
      | none => intro i hi; simp [waitsM, ho] at hi
      | some o => exact waits_in ho (h p o ho (hm p hp))
    · exact hm
theorem tail_waits {t : Nat} (ht : tailOK md ops t = true) {listed : Array Bool} (hc : allIn md ops listed) {k : Nat} (hk : k ∈ Region.ready md ops listed) (htk : t ≤ k) : ∀ i < t, listed.getD i false = true := by
  obtain ⟨_, o, ho, hall⟩ := mem_ready.1 hk
  have hlt : k < ops.size := (Array.getElem?_eq_some_iff.1 ho).1
  have h := List.all_eq_true.1 ht k (List.mem_range.2 hlt)
  rw [decide_eq_false (by omega), Bool.false_or, beq_iff_eq] at h
  intro i hi
  refine reach_in hc k _ (waits_in ho hall) i ?_
  have := congrArg (fun m => m.testBit i) h
  simp only [Nat.testBit_and, Nat.testBit_two_pow_sub_one, decide_eq_true hi, Bool.and_true] at this
  exact this

/-- Whatever order is picked from here on, the tail by whatever walk. -/
def wpDetT (P : Program) (md : Region.Mode) (ops : Array Oper) (Q : Exit → Act → World → Prop) (S : World → Prop) (t : Nat) : Nat → Array Bool → Act → Prop
  | 0, _, _ => False
  | fuel + 1, listed, a =>
    ((∀ i ∈ Region.ready md ops listed, t ≤ i) ∧ ∀ w, S w → wpAny P md ops Q (fuel + 1) listed a w) ∨
    (Region.ready md ops listed ≠ [] ∧ ∀ i ∈ Region.ready md ops listed, i < t ∧ ∃ o v, ops[i]? = some o ∧ EndsIf P ops S o v a ∧ wpDetT P md ops Q S t fuel (listed.setIfInBounds i true) (a.put o.dst v))
theorem wpAny_of_detT {t : Nat} : ∀ (fuel : Nat) (listed : Array Bool) (a : Act), wpDetT P md ops Q S t fuel listed a → ∀ w, S w → wpAny P md ops Q fuel listed a w
  | 0, _, _, h, _, _ => h.elim
  | fuel + 1, listed, a, h, w, hS => by
    rcases h with ⟨_, h2⟩ | ⟨h1, h2⟩
    · exact h2 w hS
    · refine ⟨fun h0 => absurd h0 h1, fun i hi => ?_⟩
      obtain ⟨_, o, v, ho, hy, h'⟩ := h2 i hi
      exact hy.wpOp ho hS (fun w' hS' => wpAny_of_detT fuel _ _ h' w' hS')
theorem wpDetT_first {i t : Nat} {oi : Oper} {v : Value} (hit : i < t) (ht : tailOK md ops t = true) (hi : ops[i]? = some oi) (hsel : ∀ (j : Nat) (o : Oper) cs b, ops[j]? = some o → o.op ≠ .select cs b) :
    ∀ (fuel : Nat) (listed : Array Bool) (a : Act), allIn md ops listed →
      (∀ j oj, ops[j]? = some oj → j ≠ i → listed.getD j true = false → (∀ e ∈ oj.after, Region.binds md e = true → e.on ≠ i) → oi.apart ops oj = true) →
      i ∈ Region.ready md ops listed → EndsIf P ops S oi v a →
      wpDetT P md ops Q S t fuel (listed.setIfInBounds i true) (a.put oi.dst v) → wpDetT P md ops Q S t (fuel + 1) listed a := by
  intro fuel
  induction fuel with
  | zero => intro listed a _ _ _ _ H; exact H.elim
  | succ fuel ih =>
    intro listed a hc hfree hr hy H
    have hkt : ∀ k ∈ Region.ready md ops listed, k < t := fun k hk => by
      refine Nat.lt_of_not_le fun htk => ?_
      have h1 := tail_waits ht hc hk htk i hit
      have h0 := (mem_ready.1 hr).1
      rcases Nat.lt_or_ge i listed.size with h' | h'
      · simp [h'] at h0 h1; rw [h0] at h1; cases h1
      · simp [Array.getElem?_eq_none h'] at h1
    refine Or.inr ⟨fun h => (by rw [h] at hr; cases hr), fun k hk => ⟨hkt k hk, ?_⟩⟩
    by_cases hki : k = i
    · subst hki; exact ⟨oi, v, hi, hy, H⟩
    · rcases H with ⟨h1, _⟩ | ⟨_, H⟩
      · exact absurd (hkt k hk) (Nat.not_lt_of_le (h1 k (ready_mono hk hki)))
      · obtain ⟨_, oj, u, hoj, hyj, H'⟩ := H k (ready_mono hk hki)
        obtain ⟨hjun, oj', hoj', hall⟩ := mem_ready.1 hk
        obtain rfl := Option.some.inj (hoj.symm.trans hoj')
        have hnot : ∀ e ∈ oj.after, Region.binds md e = true → e.on ≠ i := fun e he hb heq => by
          have h1 := hall e he hb
          have h0 := (mem_ready.1 hr).1
          rw [heq] at h1
          rcases Nat.lt_or_ge i listed.size with h' | h'
          · simp [h'] at h0 h1; rw [h0] at h1; cases h1
          · simp [Array.getElem?_eq_none h'] at h1
        obtain ⟨h1, h2, h3⟩ := Oper.apart_spec (hfree k oj hoj hki hjun hnot)
        have hfree' : ∀ m ok, ops[m]? = some ok → m ≠ i → (listed.setIfInBounds k true).getD m true = false →
            (∀ e ∈ ok.after, Region.binds md e = true → e.on ≠ i) → oi.apart ops ok = true := fun m ok hm hmi hun hno => by
          refine hfree m ok hm hmi ?_ hno
          by_cases hkm : k = m
          · subst hkm; exact hjun
          · rw [getD_set_ne true hkm] at hun; exact hun
        refine ⟨oj, u, hoj, hyj.of_same (execOp_put oj (fun cs b => hsel k oj cs b hoj) a oi.dst v h1).symm (wanted_put oj a oi.dst v h1).symm, ?_⟩
        refine ih (listed.setIfInBounds k true) (a.put oj.dst u) (allIn_set hc hk) hfree' (ready_mono hr (Ne.symm hki)) (hy.of_same (execOp_put oi (fun cs b => hsel i oi cs b hi) a oj.dst u h3) (wanted_put oi a oj.dst u h3)) ?_
        rw [Array.setIfInBounds_comm _ _ hki, ← Act.put_comm a v u h2]
        exact H'
/-- The same, where what has come up waits for nothing that has not, and the tail waits for all. -/
def wpDetU (P : Program) (md : Region.Mode) (ops : Array Oper) (Q : Exit → Act → World → Prop) (S : World → Prop) (t fuel : Nat) (listed : Array Bool) (a : Act) : Prop :=
  tailOK md ops t = true → allIn md ops listed → wpDetT P md ops Q S t fuel listed a
theorem wpDetU_take {i t : Nat} {oi : Oper} {v : Value} {fuel : Nat} {listed : Array Bool} {a : Act} (hit : i < t) (hi : ops[i]? = some oi)
    (hs : Region.noSelect ops = true) (hf : Region.free md ops listed i = true) (hr : (Region.ready md ops listed).contains i = true)
    (hy : EndsIf P ops S oi v a)
    (h : wpDetU P md ops Q S t fuel (listed.setIfInBounds i true) (a.put oi.dst v)) : wpDetU P md ops Q S t (fuel + 1) listed a := fun ht hc =>
  wpDetT_first hit ht hi (Region.noSelect_spec hs) fuel listed a hc (Region.free_spec hi hf) (by simpa using hr) hy (h ht (allIn_set hc (by simpa using hr)))
/-- The tail. -/
theorem wpDetU_tail {t fuel : Nat} {listed : Array Bool} {a : Act} (hr : ((Region.ready md ops listed).all fun i => decide (t ≤ i)) = true)
    (h : ∀ w, S w → wpAnyH P md ops Q S (fuel + 1) listed a w) : wpDetU P md ops Q S t (fuel + 1) listed a := fun _ _ =>
  Or.inl ⟨fun i hi => of_decide_eq_true (List.all_eq_true.1 hr i hi), fun w hS => wpAny_of_held _ _ _ _ (h w hS)⟩
theorem wp_region_detU {id : Nat} {a : Act} {w : World} (t : Nat) (hm : P.follows .mixedOrders = true) (ht : tailOK .any ops t = true) (hS : S w.drew)
    (h : wpDetU P .any ops Q S t ops.size (Array.replicate ops.size false) a) : (Code.region id ops true).wp P Q a w :=
  wp_region_any hm (wpAny_of_detT _ _ _ (h ht allIn_start) _ hS)
end
end Go.Proofs.Ytldheaamcnmlgaa

namespace Go.Proofs.Ytldheaamcnmlgaa
open Go.RowKit

section
variable {P : Program} {ops : Array Oper} {Q : Exit → Act → World → Prop} {md : Region.Mode}

/-- It lasts, whatever memory is made. -/
def Lasts (M : World → Prop) : Prop := ∀ a a', M a → Fr a a' [] → M a'
theorem Lasts.row {M : World → Prop} (h : Lasts M) (b p : Nat) (o : Obj) : Lasts (fun w => M w ∧ b ≤ p ∧ w.heap[p]? = some o) :=
  fun _ _ k f => ⟨h _ _ k.1 f, k.2.1, f.heap k.2.2 (by simp)⟩
/-- In state a operation o makes a block that holds obj, and tells where. -/
def NewOp (P : Program) (ops : Array Oper) (o : Oper) (f : Nat → Value) (obj : Obj) (a : Act) : Prop :=
  Region.wanted o (yielded ops a.tmps) = true ∧ ∀ w, (execOp a.eval o).run P w = .ok (.value (f w.heap.size)) (w.alloc obj)
theorem NewOp.of_same {o : Oper} {f : Nat → Value} {obj : Obj} {a a' : Act} (hy : NewOp P ops o f obj a) (he : execOp a'.eval o = execOp a.eval o)
    (hw : Region.wanted o (yielded ops a'.tmps) = Region.wanted o (yielded ops a.tmps)) : NewOp P ops o f obj a' := by
  unfold NewOp at *
  rw [he, hw]
  exact hy
theorem NewOp.wpOp {i : Nat} {o : Oper} {f : Nat → Value} {obj : Obj} {a : Act} (hi : ops[i]? = some o) (hy : NewOp P ops o f obj a)
    {K : Act → World → Prop} {w : World} (h : K (a.put o.dst (f w.heap.size)) (w.alloc obj)) : wpOp P ops Q i K a w := by
  unfold Go.wpOp
  simp only [hi, hy.1, if_true]
  refine .inl ?_
  unfold Oper.wp
  rw [hy.2 w]
  exact h

/-- The numbers of a list, a bit a number. -/
def bitsM : List Nat → Nat
  | [] => 0
  | i :: l => bitsM l ||| 2 ^ i
theorem bitsM_spec {l : List Nat} {i : Nat} (h : (bitsM l).testBit i = true) : i ∈ l := by
  induction l with
  | nil => simp [bitsM] at h
  | cons j l ih =>
    rw [bitsM, Nat.testBit_or, Bool.or_eq_true] at h
    rcases h with h | h
    · exact List.mem_cons_of_mem _ (ih h)
    · rw [Nat.testBit_two_pow] at h
      rw [of_decide_eq_true h]; exact List.mem_cons_self ..
/-- Every operation from number t on waits for all ahead of t but those of F. -/
def tailOF (md : Region.Mode) (ops : Array Oper) (t : Nat) (F : List Nat) : Bool :=
  (List.range ops.size).all fun k => decide (k < t) || ((reachM md ops k (waitsM md ops k) ||| bitsM F) &&& (2 ^ t - 1)) == 2 ^ t - 1
theorem tail_waitsF {t : Nat} {F : List Nat} (ht : tailOF md ops t F = true) {listed : Array Bool} (hc : allIn md ops listed) {k : Nat} (hk : k ∈ Region.ready md ops listed) (htk : t ≤ k) : ∀ i < t, i ∉ F → listed.getD i false = true := by
  obtain ⟨_, o, ho, hall⟩ := mem_ready.1 hk
  have hlt : k < ops.size := (Array.getElem?_eq_some_iff.1 ho).1
  have h := List.all_eq_true.1 ht k (List.mem_range.2 hlt)
  rw [decide_eq_false (by omega), Bool.false_or, beq_iff_eq] at h
  intro i hi hF
  refine reach_in hc k _ (waits_in ho hall) i ?_
  have := congrArg (fun m => m.testBit i) h
  simp only [Nat.testBit_and, Nat.testBit_or, Nat.testBit_two_pow_sub_one, decide_eq_true hi, Bool.and_true, Bool.or_eq_true] at this
  exact this.resolve_right (fun q => hF (bitsM_spec q))

/-- Whatever order is picked from here on; M: what is known of the memory. -/
def wpMix (P : Program) (md : Region.Mode) (ops : Array Oper) (Q : Exit → Act → World → Prop) (nw : Nat → Option ((Nat → Value) × Obj)) (F : List Nat) (b t : Nat) : Nat → Array Bool → Act → (World → Prop) → Prop
  | 0, _, _, _ => False
  | fuel + 1, listed, a, M =>
    ((∀ i ∈ Region.ready md ops listed, t ≤ i ∨ (i ∈ F ∧ i < t ∧ ∃ o v, ops[i]? = some o ∧ Yields P ops o v a ∧ wpMix P md ops Q nw F b t fuel (listed.setIfInBounds i true) (a.put o.dst v) M)) ∧ ∀ w, M w → wpAny P md ops Q (fuel + 1) listed a w) ∨
    (Region.ready md ops listed ≠ [] ∧ ∀ i ∈ Region.ready md ops listed, i < t ∧ ∃ o, ops[i]? = some o ∧
      ((nw i = none ∧ ∃ v, EndsIf P ops M o v a ∧ wpMix P md ops Q nw F b t fuel (listed.setIfInBounds i true) (a.put o.dst v) M) ∨
       (∃ f obj, nw i = some (f, obj) ∧ NewOp P ops o f obj a ∧ ∀ p, wpMix P md ops Q nw F b t fuel (listed.setIfInBounds i true) (a.put o.dst (f p)) (fun w => M w ∧ b ≤ p ∧ w.heap[p]? = some obj))))
variable {nw : Nat → Option ((Nat → Value) × Obj)} {F : List Nat} {b t : Nat}
theorem ends_of_yields {M : World → Prop} {o : Oper} {v : Value} {a : Act} (h : Yields P ops o v a) : EndsIf P ops M o v a := by
  rcases h with ⟨hw, h⟩ | h
  · exact .inl ⟨hw, fun w hM => by rw [h w]; exact ⟨rfl, hM⟩⟩
  · exact .inr h
/-- Those of F make no memory. -/
def calm (nw : Nat → Option ((Nat → Value) × Obj)) (F : List Nat) : Bool := F.all fun i => (nw i).isNone
theorem calm_spec (h : calm nw F = true) {i : Nat} (hi : i ∈ F) : nw i = none := by
  have := List.all_eq_true.1 h i hi
  cases e : nw i with
  | none => rfl
  | some x => rw [e] at this; cases this

theorem wpAny_of_mix : ∀ (fuel : Nat) (listed : Array Bool) (a : Act) (M : World → Prop), wpMix P md ops Q nw F b t fuel listed a M → Lasts M → (∀ w, M w → b ≤ w.heap.size) → ∀ w, M w → wpAny P md ops Q fuel listed a w
  | 0, _, _, _, h, _, _, _, _ => h.elim
  | fuel + 1, listed, a, M, h, hl, hb, w, hM => by
    rcases h with ⟨_, h2⟩ | ⟨h1, h2⟩
    · exact h2 w hM
    · refine ⟨fun h0 => absurd h0 h1, fun i hi => ?_⟩
      obtain ⟨_, o, ho, ⟨_, v, hy, h'⟩ | ⟨f, obj, _, hy, h'⟩⟩ := h2 i hi
      · exact hy.wpOp ho hM (fun w' hS' => wpAny_of_mix fuel _ _ M h' hl hb w' hS')
      · exact hy.wpOp ho (wpAny_of_mix fuel _ _ _ (h' w.heap.size) (hl.row b _ _) (fun w' k => hb w' k.1) _ ⟨hl _ _ hM (Fr.alloc w obj []), hb w hM, heap_alloc_new w obj⟩)

theorem not_listed {listed : Array Bool} {i : Nat} (hr : i ∈ Region.ready md ops listed) (h : listed.getD i false = true) : False := by
  have h0 := (mem_ready.1 hr).1
  rcases Nat.lt_or_ge i listed.size with h' | h'
  · simp [h'] at h0 h; rw [h0] at h; cases h
  · simp [Array.getElem?_eq_none h'] at h

theorem wpMix_first {i : Nat} {oi : Oper} {v : Value} (hit : i < t) (hiF : i ∉ F) (hcalm : calm nw F = true) (ht : tailOF md ops t F = true) (hi : ops[i]? = some oi) (hnw : nw i = none) (hsel : ∀ (j : Nat) (o : Oper) cs b, ops[j]? = some o → o.op ≠ .select cs b) :
    ∀ (fuel : Nat) (listed : Array Bool) (a : Act) (M : World → Prop), allIn md ops listed → Lasts M →
      (∀ j oj, ops[j]? = some oj → j ≠ i → listed.getD j true = false → (∀ e ∈ oj.after, Region.binds md e = true → e.on ≠ i) → oi.apart ops oj = true) →
      i ∈ Region.ready md ops listed → (∀ M', Lasts M' → (∀ w, M' w → M w) → EndsIf P ops M' oi v a) →
      wpMix P md ops Q nw F b t fuel (listed.setIfInBounds i true) (a.put oi.dst v) M → wpMix P md ops Q nw F b t (fuel + 1) listed a M := by
  intro fuel
  induction fuel with
  | zero => intro listed a M _ _ _ _ _ H; exact H.elim
  | succ fuel ih =>
    intro listed a M hc hl hfree hr hy H
    have hkt : ∀ k ∈ Region.ready md ops listed, k < t := fun k hk => Nat.lt_of_not_le fun htk => not_listed hr (tail_waitsF ht hc hk htk i hit hiF)
    refine Or.inr ⟨fun h => (by rw [h] at hr; cases hr), fun k hk => ⟨hkt k hk, ?_⟩⟩
    by_cases hki : k = i
    · subst hki; exact ⟨oi, hi, .inl ⟨hnw, v, hy M hl (fun _ h => h), H⟩⟩
    · have Hk : ∃ oj, ops[k]? = some oj ∧
          ((nw k = none ∧ ∃ u, EndsIf P ops M oj u (a.put oi.dst v) ∧ wpMix P md ops Q nw F b t fuel ((listed.setIfInBounds i true).setIfInBounds k true) ((a.put oi.dst v).put oj.dst u) M) ∨
           (∃ f obj, nw k = some (f, obj) ∧ NewOp P ops oj f obj (a.put oi.dst v) ∧ ∀ p, wpMix P md ops Q nw F b t fuel ((listed.setIfInBounds i true).setIfInBounds k true) ((a.put oi.dst v).put oj.dst (f p)) (fun w => M w ∧ b ≤ p ∧ w.heap[p]? = some obj))) := by
        rcases H with ⟨h1, _⟩ | ⟨_, H⟩
        · rcases h1 k (ready_mono hk hki) with h1 | ⟨hF, _, oj, u, hoj, hyj, H'⟩
          · exact absurd (hkt k hk) (Nat.not_lt_of_le h1)
          · exact ⟨oj, hoj, .inl ⟨calm_spec hcalm hF, u, ends_of_yields hyj, H'⟩⟩
        · exact (H k (ready_mono hk hki)).2
      · obtain ⟨oj, hoj, Hj⟩ := Hk
        obtain ⟨hjun, oj', hoj', hall⟩ := mem_ready.1 hk
        obtain rfl := Option.some.inj (hoj.symm.trans hoj')
        have hnot : ∀ e ∈ oj.after, Region.binds md e = true → e.on ≠ i := fun e he hb heq => by
          have h1 := hall e he hb
          rw [heq] at h1
          exact not_listed hr h1
        obtain ⟨h1, h2, h3⟩ := Oper.apart_spec (hfree k oj hoj hki hjun hnot)
        have hfree' : ∀ m ok, ops[m]? = some ok → m ≠ i → (listed.setIfInBounds k true).getD m true = false →
            (∀ e ∈ ok.after, Region.binds md e = true → e.on ≠ i) → oi.apart ops ok = true := fun m ok hm hmi hun hno => by
          refine hfree m ok hm hmi ?_ hno
          by_cases hkm : k = m
          · subst hkm; exact hjun
          · rw [getD_set_ne true hkm] at hun; exact hun
        refine ⟨oj, hoj, ?_⟩
        rcases Hj with ⟨hn, u, hyj, H'⟩ | ⟨f, obj, hn, hyj, H'⟩
        · refine .inl ⟨hn, u, hyj.of_same (execOp_put oj (fun cs b => hsel k oj cs b hoj) a oi.dst v h1).symm (wanted_put oj a oi.dst v h1).symm, ?_⟩
          refine ih (listed.setIfInBounds k true) (a.put oj.dst u) M (allIn_set hc hk) hl hfree' (ready_mono hr (Ne.symm hki)) (fun M' hl' hm => (hy M' hl' hm).of_same (execOp_put oi (fun cs b => hsel i oi cs b hi) a oj.dst u h3) (wanted_put oi a oj.dst u h3)) ?_
          rw [Array.setIfInBounds_comm _ _ hki, ← Act.put_comm a v u h2]
          exact H'
        · refine .inr ⟨f, obj, hn, hyj.of_same (execOp_put oj (fun cs b => hsel k oj cs b hoj) a oi.dst v h1).symm (wanted_put oj a oi.dst v h1).symm, fun p => ?_⟩
          refine ih (listed.setIfInBounds k true) (a.put oj.dst (f p)) _ (allIn_set hc hk) (hl.row b p obj) hfree' (ready_mono hr (Ne.symm hki)) (fun M' hl' hm => (hy M' hl' (fun w h => (hm w h).1)).of_same (execOp_put oi (fun cs b => hsel i oi cs b hi) a oj.dst (f p) h3) (wanted_put oi a oj.dst (f p) h3)) ?_
          rw [Array.setIfInBounds_comm _ _ hki, ← Act.put_comm a v (f p) h2]
          exact H' p

/-- Nobody ahead of t waits for one of L. -/
def inert (md : Region.Mode) (ops : Array Oper) (t : Nat) (L : List Nat) : Bool :=
  (List.range ops.size).all fun k => decide (t ≤ k) || match ops[k]? with
    | some o => o.after.toList.all fun e => !(Region.binds md e) || !(L.contains e.on)
    | none => true
theorem inert_spec {L : List Nat} (h : inert md ops t L = true) {k : Nat} {o : Oper} (hk : k < t) (ho : ops[k]? = some o) {e} (he : e ∈ o.after) (hb : Region.binds md e = true) : e.on ∉ L := by
  have h1 := List.all_eq_true.1 h k (List.mem_range.2 (Array.getElem?_eq_some_iff.1 ho).1)
  rw [decide_eq_false (by omega), Bool.false_or, ho] at h1
  have h2 := List.all_eq_true.1 h1 e (by simpa using he)
  rw [hb] at h2
  intro hm
  rw [show L.contains e.on = true from by simpa using hm] at h2
  simp at h2
theorem wpMix_new {i : Nat} {oi : Oper} {f : Nat → Value} {obj : Obj} {L : List Nat} (hit : i < t) (hiF : i ∉ F) (hcalm : calm nw F = true) (ht : tailOF md ops t F = true) (hi : ops[i]? = some oi) (hnw : nw i = some (f, obj)) (hsel : ∀ (j : Nat) (o : Oper) cs b, ops[j]? = some o → o.op ≠ .select cs b)
    (hL : ∀ k ∈ L, nw k ≠ none) (hin : inert md ops t L = true) :
    ∀ (fuel : Nat) (listed : Array Bool) (a : Act) (M : World → Prop), allIn md ops listed →
      (∀ j oj, ops[j]? = some oj → j ≠ i → listed.getD j true = false → (∀ e ∈ oj.after, Region.binds md e = true → e.on ≠ i) → oi.apart ops oj = true) →
      i ∈ Region.ready md ops listed → (∀ k ∈ Region.ready md ops listed, k = i ∨ k ∈ L) → NewOp P ops oi f obj a →
      (∀ p, wpMix P md ops Q nw F b t fuel (listed.setIfInBounds i true) (a.put oi.dst (f p)) (fun w => M w ∧ b ≤ p ∧ w.heap[p]? = some obj)) → wpMix P md ops Q nw F b t (fuel + 1) listed a M := by
  intro fuel
  induction fuel with
  | zero => intro listed a M _ _ _ _ _ H; exact (H 0).elim
  | succ fuel ih =>
    intro listed a M hc hfree hr hall hy H
    have hkt : ∀ k ∈ Region.ready md ops listed, k < t := fun k hk => Nat.lt_of_not_le fun htk => not_listed hr (tail_waitsF ht hc hk htk i hit hiF)
    refine Or.inr ⟨fun h => (by rw [h] at hr; cases hr), fun k hk => ⟨hkt k hk, ?_⟩⟩
    by_cases hki : k = i
    · subst hki; exact ⟨oi, hi, .inr ⟨f, obj, hnw, hy, H⟩⟩
    · have hkL := (hall k hk).resolve_left hki
      have get : ∀ p, ∃ oj, ops[k]? = some oj ∧ ∃ f' obj', nw k = some (f', obj') ∧ NewOp P ops oj f' obj' (a.put oi.dst (f p)) ∧ ∀ p', wpMix P md ops Q nw F b t fuel ((listed.setIfInBounds i true).setIfInBounds k true) ((a.put oi.dst (f p)).put oj.dst (f' p')) (fun w => (M w ∧ b ≤ p ∧ w.heap[p]? = some obj) ∧ b ≤ p' ∧ w.heap[p']? = some obj') := fun p => by
        rcases H p with ⟨h1, _⟩ | ⟨_, H⟩
        · rcases h1 k (ready_mono hk hki) with h1 | ⟨hF, _⟩
          · exact absurd (hkt k hk) (Nat.not_lt_of_le h1)
          · exact absurd (calm_spec hcalm hF) (hL k hkL)
        · obtain ⟨_, oj, hoj, ⟨hn, _⟩ | ⟨f', obj', hn, hyj, H'⟩⟩ := H k (ready_mono hk hki)
          · exact absurd hn (hL k hkL)
          · exact ⟨oj, hoj, f', obj', hn, hyj, H'⟩
      obtain ⟨oj, hoj, f', obj', hn, hyj, _⟩ := get 0
      obtain ⟨hjun, oj', hoj', hdep⟩ := mem_ready.1 hk
      obtain rfl := Option.some.inj (hoj.symm.trans hoj')
      have hnot : ∀ e ∈ oj.after, Region.binds md e = true → e.on ≠ i := fun e he hb heq => by
        have h1 := hdep e he hb
        rw [heq] at h1
        exact not_listed hr h1
      obtain ⟨h1, h2, h3⟩ := Oper.apart_spec (hfree k oj hoj hki hjun hnot)
      have hfree' : ∀ m ok, ops[m]? = some ok → m ≠ i → (listed.setIfInBounds k true).getD m true = false →
          (∀ e ∈ ok.after, Region.binds md e = true → e.on ≠ i) → oi.apart ops ok = true := fun m ok hm hmi hun hno => by
        refine hfree m ok hm hmi ?_ hno
        by_cases hkm : k = m
        · subst hkm; exact hjun
        · rw [getD_set_ne true hkm] at hun; exact hun
      have hr' := ready_mono hr (Ne.symm hki)
      have hall' : ∀ m ∈ Region.ready md ops (listed.setIfInBounds k true), m = i ∨ m ∈ L := fun m hm => by
        have hmt : m < t := Nat.lt_of_not_le fun htm => not_listed hr' (tail_waitsF ht (allIn_set hc hk) hm htm i hit hiF)
        obtain ⟨hmun, om, hom, hmd⟩ := mem_ready.1 hm
        refine hall m (mem_ready.2 ⟨?_, om, hom, fun e he hb => ?_⟩)
        · by_cases hkm : k = m
          · subst hkm; exact hjun
          · rw [getD_set_ne true hkm] at hmun; exact hmun
        · have := hmd e he hb
          have hne : k ≠ e.on := fun q => inert_spec hin hmt hom he hb (q ▸ hkL)
          rw [getD_set_ne false hne] at this
          exact this
      refine ⟨oj, hoj, .inr ⟨f', obj', hn, hyj.of_same (execOp_put oj (fun cs b => hsel k oj cs b hoj) a oi.dst (f 0) h1).symm (wanted_put oj a oi.dst (f 0) h1).symm, fun p' => ?_⟩⟩
      refine ih (listed.setIfInBounds k true) (a.put oj.dst (f' p')) _ (allIn_set hc hk) hfree' hr' hall' (hy.of_same (execOp_put oi (fun cs b => hsel i oi cs b hi) a oj.dst (f' p') h3) (wanted_put oi a oj.dst (f' p') h3)) (fun p => ?_)
      obtain ⟨oj2, hoj2, f2, obj2, hn2, _, H'⟩ := get p
      obtain rfl := Option.some.inj (hoj.symm.trans hoj2)
      obtain ⟨rfl, rfl⟩ : f' = f2 ∧ obj' = obj2 := by
        have := Option.some.inj (hn.symm.trans hn2)
        exact ⟨congrArg Prod.fst this, congrArg Prod.snd this⟩
      rw [Array.setIfInBounds_comm _ _ hki, ← Act.put_comm a (f p) (f' p') h2]
      have e : (fun w : World => (M w ∧ b ≤ p' ∧ w.heap[p']? = some obj') ∧ b ≤ p ∧ w.heap[p]? = some obj) = (fun w : World => (M w ∧ b ≤ p ∧ w.heap[p]? = some obj) ∧ b ≤ p' ∧ w.heap[p']? = some obj') :=
        funext fun w => propext ⟨fun h => ⟨⟨h.1.1, h.2⟩, h.1.2⟩, fun h => ⟨⟨h.1.1, h.2⟩, h.1.2⟩⟩
      rw [e]
      exact H' p'

theorem wpMix_pure {i : Nat} {oi : Oper} {v : Value} (hit : i < t) (hiF : i ∈ F) (hcalm : calm nw F = true) (hi : ops[i]? = some oi) (hsel : ∀ (j : Nat) (o : Oper) cs b, ops[j]? = some o → o.op ≠ .select cs b)
    (hQ : ∀ c a a' w, Q (.panic c) a' w → Q (.panic c) a w) :
    ∀ (fuel : Nat) (listed : Array Bool) (a : Act) (M : World → Prop),
      (∀ j oj, ops[j]? = some oj → j ≠ i → listed.getD j true = false → (∀ e ∈ oj.after, Region.binds md e = true → e.on ≠ i) → oi.apart ops oj = true) →
      i ∈ Region.ready md ops listed → Yields P ops oi v a →
      wpMix P md ops Q nw F b t fuel (listed.setIfInBounds i true) (a.put oi.dst v) M → wpMix P md ops Q nw F b t (fuel + 1) listed a M := by
  intro fuel
  induction fuel with
  | zero => intro listed a M _ _ _ H; exact H.elim
  | succ fuel ih =>
    intro listed a M hfree hr hy H
    -- what comes of another one, taken first
    have swap : ∀ k, k ∈ Region.ready md ops listed → k ≠ i → ∀ oj, ops[k]? = some oj →
        (execOp (a.put oi.dst v).eval oj = execOp a.eval oj ∧ Region.wanted oj (yielded ops (a.put oi.dst v).tmps) = Region.wanted oj (yielded ops a.tmps)) ∧
        ∀ u M', wpMix P md ops Q nw F b t fuel ((listed.setIfInBounds i true).setIfInBounds k true) ((a.put oi.dst v).put oj.dst u) M' → wpMix P md ops Q nw F b t (fuel + 1) (listed.setIfInBounds k true) (a.put oj.dst u) M' := fun k hk hki oj hoj => by
      obtain ⟨hjun, oj', hoj', hall⟩ := mem_ready.1 hk
      obtain rfl := Option.some.inj (hoj.symm.trans hoj')
      have hnot : ∀ e ∈ oj.after, Region.binds md e = true → e.on ≠ i := fun e he hb heq => by
        have h1 := hall e he hb
        rw [heq] at h1
        exact not_listed hr h1
      obtain ⟨h1, h2, h3⟩ := Oper.apart_spec (hfree k oj hoj hki hjun hnot)
      have hfree' : ∀ m ok, ops[m]? = some ok → m ≠ i → (listed.setIfInBounds k true).getD m true = false →
          (∀ e ∈ ok.after, Region.binds md e = true → e.on ≠ i) → oi.apart ops ok = true := fun m ok hm hmi hun hno => by
        refine hfree m ok hm hmi ?_ hno
        by_cases hkm : k = m
        · subst hkm; exact hjun
        · rw [getD_set_ne true hkm] at hun; exact hun
      refine ⟨⟨execOp_put oj (fun cs b => hsel k oj cs b hoj) a oi.dst v h1, wanted_put oj a oi.dst v h1⟩, fun u M' H' => ?_⟩
      refine ih (listed.setIfInBounds k true) (a.put oj.dst u) M' hfree' (ready_mono hr (Ne.symm hki)) (hy.of_same (execOp_put oi (fun cs b => hsel i oi cs b hi) a oj.dst u h3) (wanted_put oi a oj.dst u h3)) ?_
      rw [Array.setIfInBounds_comm _ _ hki, ← Act.put_comm a v u h2]
      exact H'
    rcases id H with ⟨h1, h2⟩ | ⟨_, h2⟩
    · refine Or.inl ⟨fun k hk => ?_, fun w hM => wpAny_first hi hsel (fun c a w => hQ c a _ w) (fuel + 1) listed a w hfree hr hy (h2 w hM)⟩
      by_cases hki : k = i
      · subst hki; exact .inr ⟨hiF, hit, oi, v, hi, hy, H⟩
      · rcases h1 k (ready_mono hk hki) with h1 | ⟨hF, hkt, oj, u, hoj, hyj, H'⟩
        · exact .inl h1
        · obtain ⟨q, s⟩ := swap k hk hki oj hoj
          exact .inr ⟨hF, hkt, oj, u, hoj, hyj.of_same q.1.symm q.2.symm, s u M H'⟩
    · refine Or.inr ⟨fun h => (by rw [h] at hr; cases hr), fun k hk => ?_⟩
      by_cases hki : k = i
      · subst hki; exact ⟨hit, oi, hi, .inl ⟨calm_spec hcalm hiF, v, ends_of_yields hy, H⟩⟩
      · obtain ⟨hkt, oj, hoj, Hj⟩ := h2 k (ready_mono hk hki)
        obtain ⟨q, s⟩ := swap k hk hki oj hoj
        rcases Hj with ⟨hn, u, hyj, H'⟩ | ⟨f, obj, hn, hyj, H'⟩
        · exact ⟨hkt, oj, hoj, .inl ⟨hn, u, hyj.of_same q.1.symm q.2.symm, s u M H'⟩⟩
        · exact ⟨hkt, oj, hoj, .inr ⟨f, obj, hn, hyj.of_same q.1.symm q.2.symm, fun p => s (f p) _ (H' p)⟩⟩

/-- The same, where what has come up waits for nothing that has not, and the tail waits for all. -/
def wpMixU (P : Program) (md : Region.Mode) (ops : Array Oper) (Q : Exit → Act → World → Prop) (nw : Nat → Option ((Nat → Value) × Obj)) (F : List Nat) (b t fuel : Nat) (listed : Array Bool) (a : Act) (M : World → Prop) : Prop :=
  calm nw F = true → tailOF md ops t F = true → allIn md ops listed → Lasts M → wpMix P md ops Q nw F b t fuel listed a M
theorem wpMixU_take {i : Nat} {oi : Oper} {v : Value} {fuel : Nat} {listed : Array Bool} {a : Act} {M : World → Prop} (hit : i < t) (hF : decide (i ∈ F) = false) (hi : ops[i]? = some oi) (hnw : nw i = none)
    (hs : Region.noSelect ops = true) (hf : Region.free md ops listed i = true) (hr : (Region.ready md ops listed).contains i = true)
    (hw : Region.wanted oi (yielded ops a.tmps) = true)
    (hy : ∀ M', Lasts M' → (∀ w, M' w → M w) → ∀ w, M' w → Came P M' v ((execOp a.eval oi).run P w))
    (h : wpMixU P md ops Q nw F b t fuel (listed.setIfInBounds i true) (a.put oi.dst v) M) : wpMixU P md ops Q nw F b t (fuel + 1) listed a M := fun hca ht hc hl =>
  wpMix_first hit (of_decide_eq_false hF) hca ht hi hnw (Region.noSelect_spec hs) fuel listed a M hc hl (Region.free_spec hi hf) (by simpa using hr) (fun M' hl' hm => .inl ⟨hw, hy M' hl' hm⟩) (h hca ht (allIn_set hc (by simpa using hr)) hl)
theorem wpMixU_skip {i : Nat} {oi : Oper} {fuel : Nat} {listed : Array Bool} {a : Act} {M : World → Prop} (hit : i < t) (hF : decide (i ∈ F) = false) (hi : ops[i]? = some oi) (hnw : nw i = none)
    (hs : Region.noSelect ops = true) (hf : Region.free md ops listed i = true) (hr : (Region.ready md ops listed).contains i = true)
    (hw : Region.wanted oi (yielded ops a.tmps) = false)
    (h : wpMixU P md ops Q nw F b t fuel (listed.setIfInBounds i true) (a.put oi.dst undef) M) : wpMixU P md ops Q nw F b t (fuel + 1) listed a M := fun hca ht hc hl =>
  wpMix_first hit (of_decide_eq_false hF) hca ht hi hnw (Region.noSelect_spec hs) fuel listed a M hc hl (Region.free_spec hi hf) (by simpa using hr) (fun _ _ _ => .inr ⟨hw, rfl⟩) (h hca ht (allIn_set hc (by simpa using hr)) hl)
/-- Number i makes memory; all others that may come up now are of L, which make memory too, and for which none ahead of t waits. -/
theorem wpMixU_new {i : Nat} {oi : Oper} {f : Nat → Value} {obj : Obj} (L : List Nat) {fuel : Nat} {listed : Array Bool} {a : Act} {M : World → Prop} (hit : i < t) (hF : decide (i ∈ F) = false) (hi : ops[i]? = some oi) (hnw : nw i = some (f, obj))
    (hs : Region.noSelect ops = true) (hf : Region.free md ops listed i = true) (hr : (Region.ready md ops listed).contains i = true)
    (hL : (L.all fun k => (nw k).isSome) = true) (hin : inert md ops t L = true) (ha : ((Region.ready md ops listed).all fun k => k == i || L.contains k) = true)
    (hw : Region.wanted oi (yielded ops a.tmps) = true) (hy : ∀ w, (execOp a.eval oi).run P w = .ok (.value (f w.heap.size)) (w.alloc obj))
    (h : ∀ p, wpMixU P md ops Q nw F b t fuel (listed.setIfInBounds i true) (a.put oi.dst (f p)) (fun w => M w ∧ b ≤ p ∧ w.heap[p]? = some obj)) : wpMixU P md ops Q nw F b t (fuel + 1) listed a M := fun hca ht hc hl =>
  wpMix_new hit (of_decide_eq_false hF) hca ht hi hnw (Region.noSelect_spec hs) (fun k hk e => by have := List.all_eq_true.1 hL k hk; rw [e] at this; cases this) hin fuel listed a M hc (Region.free_spec hi hf) (by simpa using hr)
    (fun k hk => by have := List.all_eq_true.1 ha k hk; simpa using this) ⟨hw, hy⟩ (fun p => h p hca ht (allIn_set hc (by simpa using hr)) (hl.row b p obj))
/-- Number i of F. -/
theorem wpMixU_pure {i : Nat} {oi : Oper} {v : Value} {fuel : Nat} {listed : Array Bool} {a : Act} {M : World → Prop} (hit : i < t) (hF : decide (i ∈ F) = true) (hi : ops[i]? = some oi)
    (hQ : ∀ c a a' w, Q (.panic c) a' w → Q (.panic c) a w)
    (hs : Region.noSelect ops = true) (hf : Region.free md ops listed i = true) (hr : (Region.ready md ops listed).contains i = true)
    (hw : Region.wanted oi (yielded ops a.tmps) = true) (hy : ∀ w, (execOp a.eval oi).run P w = .ok (.value v) w)
    (h : wpMixU P md ops Q nw F b t fuel (listed.setIfInBounds i true) (a.put oi.dst v) M) : wpMixU P md ops Q nw F b t (fuel + 1) listed a M := fun hca ht hc hl =>
  wpMix_pure hit (of_decide_eq_true hF) hca hi (Region.noSelect_spec hs) hQ fuel listed a M (Region.free_spec hi hf) (by simpa using hr) (.inl ⟨hw, hy⟩) (h hca ht (allIn_set hc (by simpa using hr)) hl)
/-- The tail. -/
theorem wpMixU_tail {fuel : Nat} {listed : Array Bool} {a : Act} {M : World → Prop} (S : World → Prop) (hr : ((Region.ready md ops listed).all fun i => decide (t ≤ i)) = true) (_ : ∀ w, M w → S w)
    (h : ∀ w, M w → wpAnyH P md ops Q S (fuel + 1) listed a w) : wpMixU P md ops Q nw F b t (fuel + 1) listed a M := fun _ _ _ _ =>
  Or.inl ⟨fun i hi => Or.inl <| of_decide_eq_true (List.all_eq_true.1 hr i hi), fun w hM => wpAny_of_held _ _ _ _ (h w hM)⟩
theorem wp_region_mix {id : Nat} {a : Act} {w : World} {M : World → Prop} (nw : Nat → Option ((Nat → Value) × Obj)) (F : List Nat) (b t : Nat) (hm : P.follows .mixedOrders = true) (hca : calm nw F = true) (ht : tailOF .any ops t F = true) (hl : Lasts M) (hb : ∀ w, M w → b ≤ w.heap.size) (hM : M w.drew)
    (h : wpMixU P .any ops Q nw F b t ops.size (Array.replicate ops.size false) a M) : (Code.region id ops true).wp P Q a w :=
  wp_region_any hm (wpAny_of_mix _ _ _ M (h hca ht allIn_start hl) hl hb _ hM)
end
end Go.Proofs.Ytldheaamcnmlgaa

namespace Go.Proofs.Ytldheaamcnmlgaa
open Go.RowKit

theorem two_bids (w : World) (a b : Int × Int) : Fr w ((w.alloc (bidBox a)).alloc (bidBox b)) [] ∧ ((w.alloc (bidBox a)).alloc (bidBox b)).heap[w.heap.size]? = some (bidBox a) ∧ ((w.alloc (bidBox a)).alloc (bidBox b)).heap[w.heap.size + 1]? = some (bidBox b) := by
  have n2 := heap_alloc_new (w.alloc (bidBox a)) (bidBox b)
  rw [show (w.alloc (bidBox a)).heap.size = w.heap.size + 1 by simp] at n2
  exact ⟨(Fr.alloc _ _ []).trans (Fr.alloc _ _ []), (Fr.alloc _ _ []).heap (heap_alloc_new w (bidBox a)) (by simp), n2⟩
/-- The first of a car, by its place. -/
theorem find_take {l : List (Int × Int)} {c : Int} {k : Nat} (hk : k < l.length) (no : ∀ i, i < k → (l.getD i (0, 0)).1 ≠ c) (yes : (l.getD k (0, 0)).1 = c) : bidOf l c = some (l.getD k (0, 0)) := by
  induction l generalizing k with
  | nil => simp at hk
  | cons x l ih =>
    unfold bidOf
    rw [List.find?_cons]
    cases k with
    | zero =>
      have : x.1 = c := yes
      rw [decide_eq_true this]; rfl
    | succ k =>
      have : ¬ x.1 = c := no 0 (by omega)
      rw [decide_eq_false this]
      have := ih (k := k) (by simpa using hk) (fun i hi => no (i + 1) (by omega)) yes
      unfold bidOf at this
      simpa using this
theorem find_none' {l : List (Int × Int)} {c : Int} (no : ∀ i, i < l.length → (l.getD i (0, 0)).1 ≠ c) : bidOf l c = none := by
  rw [bidOf_none]
  intro x hx e
  obtain ⟨i, hi, rfl⟩ := List.getElem_of_mem hx
  exact no i hi (by rw [List.getD_eq_getElem?_getD, List.getElem?_eq_getElem hi]; exact e)
/-- Where the first of a car stands; -1. -/
def FindIs (l : List (Int × Int)) (c : Int) (z : Int) : Prop := (z = -1 ∧ bidOf l c = none) ∨ ∃ k : Nat, z = k ∧ k < l.length ∧ bidOf l c = some (l.getD k (0, 0))
theorem full_take {ms : List Int} {l : List (Int × Int)} (h : ∀ i, i < ms.length → (bidOf l (ms.getD i 0)).isSome = true) : fullB ms l = true := by
  unfold fullB
  rw [List.all_eq_true]
  intro m hm
  obtain ⟨i, hi, rfl⟩ := List.getElem_of_mem hm
  have := h i hi
  rwa [List.getD_eq_getElem?_getD, List.getElem?_eq_getElem hi] at this
theorem full_not {ms : List Int} {l : List (Int × Int)} {i : Nat} (hi : i < ms.length) (h : bidOf l (ms.getD i 0) = none) : fullB ms l = false := by
  refine Bool.eq_false_iff.2 fun k => ?_
  unfold fullB at k
  rw [List.all_eq_true] at k
  have := k ms[i] (List.getElem_mem hi)
  rw [List.getD_eq_getElem?_getD, List.getElem?_eq_getElem hi] at h
  rw [show (some ms[i]).getD 0 = ms[i] from rfl] at h
  rw [h] at this
  cases this
/-- Where the least stands; -1. -/
def LeastAt (l : List (Int × Int)) (z : Int) : Prop := (z = -1 ∧ l = []) ∨ ∃ j : Nat, z = j ∧ j < l.length ∧ LeastB l (l.getD j (0, 0))
theorem take_more (l : List (Int × Int)) (k : Nat) (h : k < l.length) : l.take (k + 1) = l.take k ++ [l.getD k (0, 0)] := by
  rw [List.take_succ_eq_append_getElem h]; simp [h]
theorem least_first (x : Int × Int) : LeastB [x] x := ⟨by simp, fun y hy => by
  obtain rfl : y = x := by simpa using hy
  exact ltB_self _⟩
/-- Two bids, where they lie. -/
def B2 (b o1 o2 : Nat) (x y : Int × Int) (a : World) : Prop :=
  (a.cell? ⟨b, o1, none⟩ = some (.int .i64 x.1) ∧ a.cell? ⟨b, o1 + 1, none⟩ = some (.int .i64 x.2)) ∧ a.cell? ⟨b, o2, none⟩ = some (.int .i64 y.1) ∧ a.cell? ⟨b, o2 + 1, none⟩ = some (.int .i64 y.2)
def B2F (V : World) (b o1 o2 : Nat) (x y : Int × Int) (a : World) : Prop := Fr V a [] ∧ B2 b o1 o2 x y a
theorem B2F.fr {V : World} {b o1 o2 : Nat} {x y : Int × Int} {a a' : World} (h : B2F V b o1 o2 x y a) (k : Fr a a' []) : B2F V b o1 o2 x y a' :=
  ⟨h.1.trans k, ⟨k.cell h.2.1.1 (by simp), k.cell h.2.1.2 (by simp)⟩, k.cell h.2.2.1 (by simp), k.cell h.2.2.2 (by simp)⟩
end Go.Proofs.Ytldheaamcnmlgaa

namespace Go.Proofs.Ytldheaamcnmlgaa
open Go.RowKit

/-- 'make([]Bid, 0, n)' -/
theorem make_bids (w : World) (n : Nat) (h : n ≤ 1000000) : ∃ Z : List Value, Z.length = n * 2 ∧
    (Instr.makeSlice 38 (.int .i64 0) (.int .i64 (n : Int))).run Try.prog w = .ok (.slice (some ⟨w.heap.size, 0, none⟩) 0 n) (w.alloc (.cells Z.toArray 42)) := by
  obtain ⟨i0, hi, hz0, hz1, hz2⟩ := info_parts infoB
  have hr := run_make (P := Try.prog) w 38 42 i0 (.agg #[.int .i64 0, .int .i64 0]) Try.underlying38 hi hz0 .i64 .i64 0 (n : Int) (by omega) (by omega) (by rw [hz2]; omega) (by omega)
  refine ⟨(madeCells (Value.agg #[.int .i64 0, .int .i64 0]).cells (n * i0.size)).toList, ?_, ?_⟩
  · rw [hz1]; simp [madeCells]
  · rw [hr, Int.toNat_natCast]; rfl
theorem bid_one (b : Int × Int) : ∀ u ∈ [Value.int .i64 b.1, .int .i64 b.2], u.oneCell' = true := by
  intro u hu
  simp at hu
  rcases hu with rfl | rfl <;> rfl
theorem bdc_one (l : List (Int × Int)) : ∀ u ∈ bdc l, u.oneCell' = true := by
  intro u hu
  unfold bdc at hu
  obtain ⟨b, _, h⟩ := List.mem_flatMap.1 hu
  exact bid_one b u h
theorem row_new2 (w : World) (a b : Value) (T : TypeId) : ∀ j u, [a, b][j]? = some u → (w.alloc (.cells #[a, b] T)).cell? (Addr.add ⟨w.heap.size, 0, none⟩ j) = some u := by
  intro j u hu
  have h := heap_alloc_new w (.cells #[a, b] T)
  rw [Addr.add_lit, Nat.zero_add, cell_of_row _ _ _ _ _ _ h]
  simpa using hu
theorem HB.cut {w : World} {a : Option Addr} {c : Nat} {l : List (Int × Int)} (h : HB w (.slice a l.length c) l) (k : Nat) (hk : k ≤ l.length) : HB w (.slice a k c) (l.take k) := by
  obtain ⟨a', c', he, h1, h2, h3⟩ := h
  simp only [Value.slice.injEq] at he
  obtain ⟨rfl, _, rfl⟩ := he
  have hl : (l.take k).length = k := by simp; omega
  refine ⟨a, c, by rw [hl], ⟨by omega, h1.2⟩, h2, fun h0 => ?_⟩
  rw [hl] at h0
  obtain ⟨b, off, rfl, hc⟩ := h3 (by omega)
  refine ⟨b, off, rfl, fun i hi => ?_⟩
  rw [hl] at hi
  have e : (l.take k).getD i (0, 0) = l.getD i (0, 0) := by simp [List.getD, hi]
  rw [e]
  exact hc i (by omega)
/-- All its cells. -/
theorem HB.cells {w : World} {b off n c : Nat} {l : List (Int × Int)} (h : HB w (.slice (some ⟨b, off, none⟩) n c) l) (k : Nat) : ∀ j u, (bdc (l.drop k))[j]? = some u → w.cell? (Addr.add ⟨b, off + k * 2, none⟩ j) = some u := by
  obtain ⟨a', c', he, h1, h2, h3⟩ := h
  simp only [Value.slice.injEq] at he
  obtain ⟨rfl, hn, rfl⟩ := he
  intro j u hu
  have hj : j < (bdc (l.drop k)).length := (List.getElem?_eq_some_iff.1 hu).1
  rw [bdc_len, List.length_drop] at hj
  obtain ⟨b', off', e, hc⟩ := h3 (by omega)
  simp only [Option.some.injEq, Addr.mk.injEq, and_true] at e
  obtain ⟨rfl, rfl⟩ := e
  have hi : j / 2 < (l.drop k).length := by rw [List.length_drop]; omega
  obtain ⟨g1, g2⟩ := bdc_get (l.drop k) (j / 2) hi
  have e2 : (l.drop k).getD (j / 2) (0, 0) = l.getD (k + j / 2) (0, 0) := by simp [List.getD]
  rw [e2] at g1 g2
  obtain ⟨c1, c2⟩ := hc (k + j / 2) (by rw [List.length_drop] at hi; omega)
  rw [Addr.add_lit]
  rcases Nat.mod_two_eq_zero_or_one j with m | m
  · have ej : j = j / 2 * 2 := by omega
    rw [ej] at hu
    rw [g1] at hu
    obtain rfl := Option.some.inj hu
    rw [show off + k * 2 + j = off + (k + j / 2) * 2 by omega]
    exact c1
  · have ej : j = j / 2 * 2 + 1 := by omega
    rw [ej] at hu
    rw [g2] at hu
    obtain rfl := Option.some.inj hu
    rw [show off + k * 2 + j = off + (k + j / 2) * 2 + 1 by omega]
    exact c2
end Go.Proofs.Ytldheaamcnmlgaa
