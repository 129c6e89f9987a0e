/- What a slice of bytes holds, what is the call's own; small laws on worlds. -/
import Derived.Test.YtjjlajcpngphpaaRows
import Derived.WalkKit
import Derived.WalkSmall
import Derived.WalkSpells
import Derived.WalkLawsBesides
import Derived.Lib.Hide
import Derived.Laws.CopyOwn
import Derived.Laws.AppendOwnNone
import Derived.BigQuiet
import Derived.Deep.QuietTactic
namespace Go.Proofs.Ytjjlajcpngphpaa
open Go.RowKit

theorem infoU8 : (Try.prog.info? 5).map (fun i => (i.zero, i.size, i.bytes)) = some (some (.int .u8 0), 1, 1) := by kernel_rfl
theorem sizeU8 : (Try.prog.info? 5).map (·.size) = some 1 := by kernel_rfl

/-- It ends, handing back a value of which Q is told. (A definition of its own: the walk leaves it as it stands.) -/
def Gives (Q : Value → World → Prop) (e : Ending) (w' : World) : Prop := ∃ v, e = .returned v ∧ Q v w'
theorem gives {Q : Value → World → Prop} {v : Value} {w' : World} (h : Q v w') : Gives Q (.returned v) w' := ⟨v, rfl, h⟩

def u8s (l : List Int) : List Value := l.map (Value.int .u8)
@[simp] theorem u8s_len (l : List Int) : (u8s l).length = l.length := by simp [u8s]
theorem u8s_append (l m : List Int) : u8s (l ++ m) = u8s l ++ u8s m := by simp [u8s]
theorem u8s_one (l : List Int) : ∀ u ∈ u8s l, u.oneCell' = true := ints_oneCell _ _

/-- The slice v holds the numbers l, of kind k. -/
def Holds (k : IntKind) (w : World) (v : Value) (l : List Int) : Prop :=
  ∃ a cap, v = .slice a l.length cap ∧ l.length ≤ cap ∧ cap ≤ maxLen ∧
    (0 < l.length → ∃ b off, a = some ⟨b, off, none⟩ ∧ ∀ i, i < l.length → w.cell? ⟨b, off + i, none⟩ = some (.int k (l.getD i 0)))
abbrev Bytes (w : World) (v : Value) (l : List Int) : Prop := Holds .u8 w v l

/-- The slice v is the call's own (from block B on), and holds the bytes l. -/
def Own (w : World) (B : Nat) (v : Value) (l : List Int) : Prop := w.ownsRow B 5 1 v l.length (u8s l)

theorem Own.shape {w : World} {B : Nat} {v : Value} {l : List Int} (h : Own w B v l) : ∃ a cap, v = .slice a l.length cap := by
  rcases h.2 with ⟨rfl, h0⟩ | ⟨g, cap, cur, rfl, _⟩
  · exact ⟨none, 0, by rw [h0]⟩
  · exact ⟨_, _, rfl⟩

theorem Own.bytes {w : World} {B : Nat} {v : Value} {l : List Int} (h : Own w B v l) : Bytes w v l := by
  rcases h.2 with ⟨rfl, h0⟩ | ⟨g, cap, cur, rfl, hb, hg, hn, hm, hs, ht⟩
  · exact ⟨none, 0, by rw [h0], by omega, by decide, fun h => absurd h0 (by omega)⟩
  · refine ⟨_, cap, rfl, hn, hm, fun _ => ⟨g, 0, rfl, fun i hi => ?_⟩⟩
    have hc := h.cellAt i (by omega)
    rw [Nat.zero_add, hc]
    simp [u8s, hi]

theorem Holds.lt {k : IntKind} {w : World} {v : Value} {l : List Int} (h : Holds k w v l) (h0 : 0 < l.length) : ∃ b off cap, v = .slice (some ⟨b, off, none⟩) l.length cap ∧ b < w.heap.size ∧
    ∀ i, i < l.length → w.cell? ⟨b, off + i, none⟩ = some (.int k (l.getD i 0)) := by
  obtain ⟨a, cap, rfl, _, _, h1⟩ := h
  obtain ⟨b, off, rfl, hc⟩ := h1 h0
  exact ⟨b, off, cap, rfl, World.block_lt_of_cell? w _ (hc 0 h0), hc⟩

/-- Behind writes to one row what is held elsewhere stays. -/
theorem Holds.kept {k : IntKind} {w w' : World} {v : Value} {l : List Int} {row : Option Nat} (h : Holds k w v l) (hg : w.grownBy w' row) (hne : ∀ r, row = some r → v.ownBlock ≠ some r) : Holds k w' v l := by
  obtain ⟨a, cap, rfl, h1, h2, h3⟩ := h
  refine ⟨a, cap, rfl, h1, h2, fun h0 => ?_⟩
  obtain ⟨b, off, rfl, hc⟩ := h3 h0
  refine ⟨b, off, rfl, fun i hi => hg.cell (hc i hi) ?_⟩
  intro e
  exact hne b e.symm rfl
theorem Holds.grown {k : IntKind} {w w' : World} {v : Value} {l : List Int} (h : Holds k w v l) (hg : w.grownBy w' none) : Holds k w' v l := h.kept hg (fun r e => by cases e)
theorem Holds.below {k : IntKind} {w w' : World} {v : Value} {l : List Int} (h : Holds k w v l) (hg : Below w.heap.size w w') : Holds k w' v l :=
  h.grown ⟨hg.os, hg.tape, hg.output, hg.size, fun k hk _ => hg.block k hk⟩
theorem Own.kept {w w' : World} {B : Nat} {v : Value} {l : List Int} {row : Option Nat} (h : Own w B v l) (hg : w.grownBy w' row) (hne : ∀ r, row = some r → v.ownBlock ≠ some r) : Own w' B v l :=
  World.ownsRow.kept h hg (by cases row with | none => cases v.ownBlock <;> simp | some r => exact .inr (hne r rfl))
theorem Own.mono {w : World} {B B' : Nat} {v : Value} {l : List Int} (h : Own w B v l) (hB : B' ≤ B) : Own w B' v l := by
  refine ⟨h.1, ?_⟩
  rcases h.2 with h2 | ⟨g, cap, cur, a, b, c⟩
  · exact .inl h2
  · exact .inr ⟨g, cap, cur, a, by omega, c⟩
theorem Own.block {w : World} {B : Nat} {v : Value} {l : List Int} (h : Own w B v l) : ∀ r, v.ownBlock = some r → B ≤ r ∧ r < w.heap.size := World.ownsRow.lt h

theorem grown_trans {a b c : World} {row : Option Nat} (h : a.grownBy b row) (k : b.grownBy c row) : a.grownBy c row :=
  ⟨k.os.trans h.os, k.tape.trans h.tape, k.output.trans h.output, Nat.le_trans h.size k.size, fun i hi hn => (k.block i (Nat.lt_of_lt_of_le hi h.size) hn).trans (h.block i hi hn)⟩
theorem grown_of_none {a b : World} (row : Option Nat) (h : a.grownBy b none) : a.grownBy b row := ⟨h.os, h.tape, h.output, h.size, fun i hi _ => h.block i hi (by simp)⟩
/-- A row that is new behind the first step does not count. -/
theorem grown_new {a b c : World} {row row' : Option Nat} (h : a.grownBy b row) (k : b.grownBy c row') (hn : ∀ r, row' = some r → a.heap.size ≤ r) : a.grownBy c row :=
  ⟨k.os.trans h.os, k.tape.trans h.tape, k.output.trans h.output, Nat.le_trans h.size k.size, fun i hi hne =>
    (k.block i (Nat.lt_of_lt_of_le hi h.size) (fun e => by have := hn i e.symm; omega)).trans (h.block i hi hne)⟩
theorem below_grown {a b : World} (h : a.grownBy b none) : Below a.heap.size a b := ⟨h.os, h.tape, h.output, h.size, fun k hk => h.block k hk (by simp)⟩
theorem grown_below {a b : World} (h : Below a.heap.size a b) : a.grownBy b none := ⟨h.os, h.tape, h.output, h.size, fun k hk _ => h.block k hk⟩
theorem grown_below_any {a b : World} {B : Nat} (h : Below B a b) (hB : a.heap.size ≤ B) : a.grownBy b none := grown_below (h.mono hB)
theorem grown_drewN {a b : World} {row : Option Nat} (h : a.grownBy b row) (n : Nat) : a.grownBy (b.drewN n) row := ⟨h.os, h.tape, h.output, h.size, h.block⟩
theorem grown_drew {a b : World} {row : Option Nat} (h : a.grownBy b row) : a.grownBy b.drew row := ⟨h.os, h.tape, h.output, h.size, h.block⟩
theorem grown_refl (a : World) (row : Option Nat) : a.grownBy a row := ⟨rfl, rfl, rfl, Nat.le_refl _, fun _ _ _ => rfl⟩

/-- An own row out of its block. -/
theorem own_of_heap {w : World} {B g n cap : Nat} {cur : List Value} {l : List Int} (hg : w.heap[g]? = some (.cells cur.toArray 5 (0, 0))) (hB : B ≤ g) (hn : l.length = n) (hc : cur.length = cap) (hle : n ≤ cap) (hm : cap ≤ maxLen)
    (ht : cur.take n = u8s l) : Own w B (.slice (some ⟨g, 0, none⟩) n cap) l := by
  subst hn
  exact ⟨by simp, .inr ⟨g, cap, cur.toArray, rfl, hB, hg, hle, hm, by simpa using hc, by simpa using ht⟩⟩
theorem one_cell (k : IntKind) (x : Int) : ∀ u ∈ [Value.int k x], u.oneCell' = true := by
  intro u hu; simp at hu; subst hu; rfl
theorem bytes_size {w : World} {v : Value} {l : List Int} {k : IntKind} (h : Holds k w v l) : l.length ≤ maxLen := by
  obtain ⟨a, cap, _, h1, h2, _⟩ := h; omega
theorem take_snoc (l : List Int) (k : Nat) (h : k < l.length) : l.take (k + 1) = l.take k ++ [l.getD k 0] := by
  rw [List.take_succ_eq_append_getElem h]; simp [h]
theorem Own.apart {w : World} {B p : Nat} {v : Value} {l : List Int} (h : Own w B v l) {cs : Array Value} {T : TypeId} (hp : w.heap[p]? = some (.cells cs T (0, 0))) (hT : T ≠ 5) : v.ownBlock ≠ some p := by
  rcases h.2 with ⟨rfl, _⟩ | ⟨g, cap, cur, rfl, _, hg, _⟩
  · simp [Value.ownBlock]
  · intro e
    obtain rfl : g = p := by simpa [Value.ownBlock] using e
    rw [hp] at hg
    simp at hg
    exact hT hg.2
/-- A slice cut at its beginning. -/
theorem Holds.drop {kd : IntKind} {w : World} {a : Option Addr} {cap : Nat} {l : List Int} (h : Holds kd w (.slice a l.length cap) l) (k : Nat) (hk : k ≤ l.length) :
    Holds kd w (.slice (if cap = k then a else a.map (Addr.add · k)) (l.length - k) (cap - k)) (l.drop k) := by
  obtain ⟨a', cap', he, h1, h2, h3⟩ := h
  simp only [Value.slice.injEq, true_and] at he
  obtain ⟨rfl, rfl⟩ := he
  refine ⟨_, _, by rw [List.length_drop], by rw [List.length_drop]; omega, by omega, fun h0 => ?_⟩
  rw [List.length_drop] at h0
  obtain ⟨b, off, rfl, hc⟩ := h3 (by omega)
  refine ⟨b, off + k, by rw [if_neg (by omega)]; simp [Addr.add_lit], fun i hi => ?_⟩
  rw [List.length_drop] at hi
  rw [Nat.add_assoc, hc (k + i) (by omega)]
  simp [List.getD, List.getElem?_drop]

theorem Holds.cut {kd : IntKind} {w : World} {a : Option Addr} {cap : Nat} {l : List Int} (h : Holds kd w (.slice a l.length cap) l) (n : Nat) (hn : n ≤ l.length) : Holds kd w (.slice a n cap) (l.take n) := by
  obtain ⟨a', cap', he, h1, h2, h3⟩ := h
  simp only [Value.slice.injEq, true_and] at he
  obtain ⟨rfl, rfl⟩ := he
  have hl : (l.take n).length = n := by simp; omega
  refine ⟨a, cap, by rw [hl], by omega, h2, fun h0 => ?_⟩
  rw [hl] at h0
  obtain ⟨b, off, rfl, hc⟩ := h3 (by omega)
  refine ⟨b, off, rfl, fun i hi => ?_⟩
  rw [hl] at hi
  rw [hc i (by omega)]
  simp [List.getD, hi]

theorem nil_bytes {w : World} : Bytes w (.slice none 0 0) [] := ⟨none, 0, rfl, by simp, by decide, fun h => absurd h (by simp)⟩

/-- From w to w' no block but those of S has turned, of those that were there. -/
structure Fr (w w' : World) (S : List Nat) : Prop where
  os : w'.os = w.os
  tape : w'.tape = w.tape
  output : w'.output = w.output
  size : w.heap.size ≤ w'.heap.size
  block : ∀ k, k < w.heap.size → k ∉ S → w'.heap[k]? = w.heap[k]?
theorem Fr.refl (w : World) (S : List Nat) : Fr w w S := ⟨rfl, rfl, rfl, Nat.le_refl _, fun _ _ _ => rfl⟩
theorem Fr.mono {w w' : World} {S T : List Nat} (h : Fr w w' S) (hs : ∀ x ∈ S, x ∈ T ∨ w.heap.size ≤ x) : Fr w w' T :=
  ⟨h.os, h.tape, h.output, h.size, fun k hk hn => h.block k hk (fun hm => (hs k hm).elim hn (fun h1 => by omega))⟩
theorem Fr.comb {a b c : World} {S T U : List Nat} (h : Fr a b S) (k : Fr b c T) (hs : ∀ x ∈ S, x ∈ U ∨ a.heap.size ≤ x) (ht : ∀ x ∈ T, x ∈ U ∨ a.heap.size ≤ x) : Fr a c U :=
  ⟨k.os.trans h.os, k.tape.trans h.tape, k.output.trans h.output, Nat.le_trans h.size k.size, fun i hi hn =>
    (k.block i (Nat.lt_of_lt_of_le hi h.size) (fun hm => (ht i hm).elim hn (fun h1 => by omega))).trans (h.block i hi (fun hm => (hs i hm).elim hn (fun h1 => by omega)))⟩
theorem Fr.trans {a b c : World} {S : List Nat} (h : Fr a b S) (k : Fr b c S) : Fr a c S := h.comb k (fun _ hx => .inl hx) (fun _ hx => .inl hx)
/-- What is new behind the first step does not count. -/
theorem Fr.new {a b c : World} {S T : List Nat} (h : Fr a b S) (k : Fr b c T) (ht : ∀ x ∈ T, a.heap.size ≤ x) : Fr a c S := h.comb k (fun _ hx => .inl hx) (fun x hx => .inr (ht x hx))
theorem Fr.alloc (w : World) (o : Obj) (S : List Nat) : Fr w (w.alloc o) S := ⟨rfl, rfl, rfl, by simp, fun k hk _ => Below.heap_alloc w o k hk⟩
theorem Fr.setCell (w : World) (b i : Nat) (v : Value) {S : List Nat} (h : b ∈ S) : Fr w (w.setCell ⟨b, i, none⟩ v) S :=
  ⟨rfl, rfl, rfl, by simp, fun k _ hk => heap_setCell_other w ⟨b, i, none⟩ k v (fun e => hk (by simp only at e; rw [e]; exact h))⟩
theorem Fr.drew (w : World) (S : List Nat) : Fr w w.drew S := ⟨rfl, rfl, rfl, Nat.le_refl _, fun _ _ _ => rfl⟩
theorem Fr.drewN (w : World) (n : Nat) (S : List Nat) : Fr w (w.drewN n) S := ⟨rfl, rfl, rfl, Nat.le_refl _, fun _ _ _ => rfl⟩
theorem Fr.of_grown {w w' : World} (h : w.grownBy w' none) (S : List Nat) : Fr w w' S := ⟨h.os, h.tape, h.output, h.size, fun k hk _ => h.block k hk (by simp)⟩
theorem Fr.of_grown_row {w w' : World} {g : Nat} (h : w.grownBy w' (some g)) {S : List Nat} (hg : g ∈ S) : Fr w w' S := ⟨h.os, h.tape, h.output, h.size, fun k hk hn => h.block k hk (by simp; intro e; subst e; exact hn hg)⟩
theorem Fr.grown {w w' : World} {S : List Nat} (h : Fr w w' S) (hs : ∀ x ∈ S, w.heap.size ≤ x) : w.grownBy w' none := ⟨h.os, h.tape, h.output, h.size, fun k hk _ => h.block k hk (fun hm => by have := hs k hm; omega)⟩
theorem Fr.below {w w' : World} {S : List Nat} (h : Fr w w' S) (B : Nat) (hB : B ≤ w.heap.size) (hs : ∀ x ∈ S, B ≤ x) : Below B w w' := ⟨h.os, h.tape, h.output, h.size, fun k hk => h.block k (by omega) (fun hm => by have := hs k hm; omega)⟩
theorem Fr.cell {w w' : World} {S : List Nat} (h : Fr w w' S) {a : Addr} {v : Value} (hc : w.cell? a = some v) (hn : a.block ∉ S) : w'.cell? a = some v :=
  (World.cell?_of_block (h.block a.block (World.block_lt_of_cell? w a hc) hn)).trans hc
theorem Fr.heap {w w' : World} {S : List Nat} (h : Fr w w' S) {k : Nat} {o : Obj} (hk : w.heap[k]? = some o) (hn : k ∉ S) : w'.heap[k]? = some o := by
  rw [h.block k (Array.getElem?_eq_some_iff.1 hk).1 hn]; exact hk
theorem Holds.fr {k : IntKind} {w w' : World} {v : Value} {l : List Int} {S : List Nat} (h : Holds k w v l) (hg : Fr w w' S) (hne : ∀ r ∈ S, v.ownBlock ≠ some r) : Holds k w' v l := by
  obtain ⟨a, cap, rfl, h1, h2, h3⟩ := h
  refine ⟨a, cap, rfl, h1, h2, fun h0 => ?_⟩
  obtain ⟨b, off, rfl, hc⟩ := h3 h0
  exact ⟨b, off, rfl, fun i hi => hg.cell (hc i hi) (fun hm => hne b hm rfl)⟩
theorem Own.fr {w w' : World} {B : Nat} {v : Value} {l : List Int} {S : List Nat} (h : Own w B v l) (hg : Fr w w' S) (hne : ∀ r ∈ S, v.ownBlock ≠ some r) : Own w' B v l := by
  refine ⟨h.1, ?_⟩
  rcases h.2 with h2 | ⟨g, cap, cur, rfl, hb, hgg, rest⟩
  · exact .inl h2
  · exact .inr ⟨g, cap, cur, rfl, hb, hg.heap hgg (fun hm => hne g hm rfl), rest⟩
end Go.Proofs.Ytjjlajcpngphpaa
