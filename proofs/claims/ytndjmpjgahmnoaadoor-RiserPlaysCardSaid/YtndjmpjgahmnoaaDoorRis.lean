/- Hall buttons: what lies in memory, as plain data: the program's riser and the document's, by buttons in the calls' order. -/
import Derived.Test.YtndjmpjgahmnoaaDoorRow
import Derived.Deep.MidRow
import Derived.Deep.WholeRow
namespace Go.Proofs.YtndjmpjgahmnoaaDoor
open Go.RowKit

/-- What a riser holds: how many floors; of each button (2 * floor, and 1 more: Up) whether it is lit, how many times it was. -/
structure RS where
  n : Nat
  L : Nat → Bool
  G : Nat → Int
def updB (f : Nat → Bool) (k : Nat) (b : Bool) : Nat → Bool := fun j => if j = k then b else f j
def updG (f : Nat → Int) (k : Nat) (b : Int) : Nat → Int := fun j => if j = k then b else f j
theorem updB_at (f : Nat → Bool) (k : Nat) (b : Bool) : updB f k b k = b := by simp [updB]
theorem updB_ne (f : Nat → Bool) {k j : Nat} (b : Bool) (h : j ≠ k) : updB f k b j = f j := by simp [updB, h]
theorem updG_at (f : Nat → Int) (k : Nat) (b : Int) : updG f k b k = b := by simp [updG]
theorem updG_ne (f : Nat → Int) {k j : Nat} (b : Int) (h : j ≠ k) : updG f k b j = f j := by simp [updG, h]
def RS.press (s : RS) (k : Nat) : RS := ⟨s.n, updB s.L k true, updG s.G k (s.G k + 1)⟩
def RS.clear (s : RS) (k : Nat) : RS := ⟨s.n, updB s.L k false, s.G⟩
/-- Button k is that of the call. -/
structure Key (n : Nat) (f d : Int) (k : Nat) : Prop where
  lo : 0 < k
  hi : k + 1 < 2 * n
  fl : f = ((k / 2 : Nat) : Int)
  dr : d = 2 * ((k % 2 : Nat) : Int) - 1
/-- Whether the call may be. -/
def mayB (n : Nat) (f d : Int) : Bool := decide (0 ≤ f) && decide (f < n) && ((decide (d = 1) && decide (f < (n : Int) - 1)) || (decide (d = -1) && decide (0 < f)))
def keyN (f d : Int) : Nat := 2 * f.toNat + (if d = 1 then 1 else 0)
theorem Key.is {n : Nat} {f d : Int} {k : Nat} (h : Key n f d k) : keyN f d = k := by
  obtain ⟨h1, h2, rfl, rfl⟩ := h
  unfold keyN
  by_cases e : k % 2 = 1
  · rw [e, if_pos (by omega)]; omega
  · rw [if_neg (by omega)]; omega
theorem may_key {n : Nat} {f d : Int} (h : mayB n f d = true) : Key n f d (keyN f d) := by
  simp [mayB] at h
  obtain ⟨⟨h0, h1⟩, h2⟩ := h
  unfold keyN
  rcases h2 with ⟨rfl, h2⟩ | ⟨rfl, h2⟩
  · refine ⟨?_, ?_, ?_, ?_⟩ <;> simp <;> omega
  · refine ⟨?_, ?_, ?_, ?_⟩ <;> simp <;> omega
theorem Key.may {n : Nat} {f d : Int} {k : Nat} (h : Key n f d k) : mayB n f d = true := by
  obtain ⟨h1, h2, rfl, rfl⟩ := h
  simp [mayB]
  omega
theorem may_or (n : Nat) (f d : Int) : mayB n f d = false ∨ ∃ k, Key n f d k := by
  cases h : mayB n f d with
  | false => exact .inl rfl
  | true => exact .inr ⟨_, may_key h⟩
theorem Key.same {n : Nat} {f d f' d' : Int} {k : Nat} (h : Key n f d k) (h' : Key n f' d' k) : f = f' ∧ d = d' := ⟨h.fl.trans h'.fl.symm, h.dr.trans h'.dr.symm⟩
theorem Key.eq {n : Nat} {f d : Int} {k k' : Nat} (h : Key n f d k) (h' : Key n f d k') : k = k' := h.is.symm.trans h'.is

/-- What is lit with that number. -/
def RS.isB (s : RS) (f d g : Int) : Bool := mayB s.n f d && s.L (keyN f d) && decide (s.G (keyN f d) = g)
def RS.genB (s : RS) (f d : Int) : Int := if mayB s.n f d then s.G (keyN f d) else 0
/-- All that is lit may be. -/
def RS.ok (s : RS) : Prop := s.n ≤ 64 ∧ ∀ k, s.L k = true → 0 < k ∧ k + 1 < 2 * s.n
theorem RS.ok.press {s : RS} (h : s.ok) {f d : Int} {k : Nat} (hk : Key s.n f d k) : (s.press k).ok := by
  refine ⟨h.1, fun j hj => ?_⟩
  by_cases e : j = k
  · subst e; exact ⟨hk.lo, hk.hi⟩
  · exact h.2 j (by simpa [RS.press, updB, e] using hj)
theorem RS.ok.clear {s : RS} (h : s.ok) (k : Nat) : (s.clear k).ok := by
  refine ⟨h.1, fun j hj => ?_⟩
  by_cases e : j = k
  · subst e; simp [RS.clear, updB] at hj
  · exact h.2 j (by simpa [RS.clear, updB, e] using hj)

/-- A latch: the call, for the how manieth time. -/
structure La where
  f : Int
  d : Int
  g : Int
deriving DecidableEq
def zLa : La := ⟨0, 0, 0⟩
def La.cl (x : La) : List Value := [.int .i64 x.f, .int .i64 x.d, .int .i64 x.g]
def laC (l : List La) : List Value := l.flatMap La.cl
theorem laC_cons (x : La) (l : List La) : laC (x :: l) = .int .i64 x.f :: .int .i64 x.d :: .int .i64 x.g :: laC l := by simp [laC, La.cl]
theorem laC_snoc (l : List La) (x : La) : laC (l ++ [x]) = laC l ++ x.cl := by simp [laC]
theorem laC_get (T : List La) (i : Nat) (h : i < T.length) : (laC T)[i * 3]? = some (.int .i64 (T.getD i zLa).f) ∧ (laC T)[i * 3 + 1]? = some (.int .i64 (T.getD i zLa).d) ∧ (laC T)[i * 3 + 2]? = some (.int .i64 (T.getD i zLa).g) := by
  induction T generalizing i with
  | nil => simp at h
  | cons b l ih =>
    rw [laC_cons]
    cases i with
    | zero => simp
    | succ i =>
      have h' : i < l.length := by simpa using h
      have := ih i h'
      rw [show (i + 1) * 3 = i * 3 + 1 + 1 + 1 by omega]
      simpa using this
theorem infoL : (Tryd.prog.info? 32).map (fun i => (i.zero, i.size, i.bytes)) = some (some (.agg #[.int .i64 0, .int .i64 0, .int .i64 0]), 3, 24) := by kernel_rfl
/-- The slice v is the call's own, and holds the latches. -/
def OwnL (w : World) (B : Nat) (v : Value) (T : List La) : Prop := w.ownsRow B 32 3 v T.length (laC T)
theorem OwnL.nil (w : World) (B : Nat) : OwnL w B (.slice none 0 0) [] := ⟨rfl, .inl ⟨rfl, rfl⟩⟩
theorem OwnL.fr {w w' : World} {B : Nat} {v : Value} {l : List La} {S : List Nat} (h : OwnL w B v l) (hg : Fr w w' S) (hne : ∀ r ∈ S, v.ownBlock ≠ some r) : OwnL w' B v l := row_fr h hg hne
theorem OwnL.keep {w w' : World} {B : Nat} {v : Value} {l : List La} (h : OwnL w B v l) (hg : Fr w w' []) : OwnL w' B v l := h.fr hg (by simp)
theorem OwnL.snoc {w : World} {B : Nat} {v : Value} {l : List La} {x : La} (h : w.ownsRow B 32 3 v (l.length + 1) (laC l ++ x.cl)) : OwnL w B v (l ++ [x]) := by
  unfold OwnL
  rw [laC_snoc]
  simpa using h
theorem OwnL.block {w : World} {B : Nat} {v : Value} {l : List La} (h : OwnL w B v l) : ∀ r, v.ownBlock = some r → B ≤ r ∧ r < w.heap.size := World.ownsRow.lt h
theorem OwnL.shape {w : World} {B : Nat} {v : Value} {l : List La} (h : OwnL w B v l) : ∃ a c, v = .slice a l.length c := row_shape h
/-- The slice v holds the latches. -/
def HLs (w : World) (v : Value) (l : List La) : Prop :=
  ∃ a cap, v = .slice a l.length cap ∧ l.length ≤ cap ∧ cap ≤ maxLen ∧ (0 < l.length → ∃ b off, a = some ⟨b, off, none⟩ ∧ ∀ i, i < l.length →
    w.cell? ⟨b, off + i * 3, none⟩ = some (.int .i64 (l.getD i zLa).f) ∧ w.cell? ⟨b, off + i * 3 + 1, none⟩ = some (.int .i64 (l.getD i zLa).d) ∧ w.cell? ⟨b, off + i * 3 + 2, none⟩ = some (.int .i64 (l.getD i zLa).g))
theorem OwnL.holds {w : World} {B : Nat} {v : Value} {l : List La} (h : OwnL w B v l) : HLs w v l := by
  by_cases h0 : 0 < l.length
  · obtain ⟨g, c, rfl, hc, hm, _⟩ := row_head h h0
    have h2 := World.ownsRow.cellAt h
    refine ⟨_, c, rfl, hc, hm, fun _ => ⟨g, 0, rfl, fun i hi => ?_⟩⟩
    obtain ⟨g0, g1, g2⟩ := laC_get l i hi
    rw [Nat.zero_add]
    exact ⟨(h2 _ (by omega)).trans g0, (h2 _ (by omega)).trans g1, (h2 _ (by omega)).trans g2⟩
  · obtain rfl := List.eq_nil_of_length_eq_zero (by omega : l.length = 0)
    rcases h.2 with ⟨rfl, _⟩ | ⟨g, cap, cur, rfl, hb, hg, hn, hm, _⟩
    · exact ⟨none, 0, rfl, by simp, by decide, fun h => absurd h (by simp)⟩
    · exact ⟨_, cap, rfl, hn, hm, fun h => absurd h (by simp)⟩
theorem HLs.keep {w w' : World} {v : Value} {l : List La} (h : HLs w v l) (hf : Fr w w' []) : HLs w' v l := by
  obtain ⟨a, cap, rfl, h1, h2, h3⟩ := h
  refine ⟨a, cap, rfl, h1, h2, fun h0 => ?_⟩
  obtain ⟨b, off, rfl, hc⟩ := h3 h0
  exact ⟨b, off, rfl, fun i hi => ⟨hf.cell (hc i hi).1 (by simp), hf.cell (hc i hi).2.1 (by simp), hf.cell (hc i hi).2.2 (by simp)⟩⟩

/-- What is lit of the first k buttons, in order. -/
def RS.la (s : RS) (k : Nat) : La := ⟨((k / 2 : Nat) : Int), 2 * ((k % 2 : Nat) : Int) - 1, s.G k⟩
def RS.litTo (s : RS) (k : Nat) : List La := ((List.range k).filter s.L).map s.la
def RS.lit (s : RS) : List La := s.litTo (2 * s.n)
theorem RS.litTo_yes (s : RS) (k : Nat) (h : s.L k = true) : s.litTo (k + 1) = s.litTo k ++ [s.la k] := by
  unfold RS.litTo
  rw [List.range_succ, List.filter_append, List.map_append]
  simp [h]
theorem RS.litTo_no (s : RS) (k : Nat) (h : s.L k = false) : s.litTo (k + 1) = s.litTo k := by
  unfold RS.litTo
  rw [List.range_succ, List.filter_append, List.map_append]
  simp [h]
theorem RS.litTo_len (s : RS) (k : Nat) : (s.litTo k).length ≤ k := by
  unfold RS.litTo
  rw [List.length_map]
  exact Nat.le_trans (List.length_filter_le _ _) (by simp)

/-- The cells of the program's riser: the floors, each button's two. -/
structure RsC (cs : Array Value) (s : RS) : Prop where
  size : cs.size = 257
  n : cs[0]? = some (.int .i64 (s.n : Int))
  at' : ∀ k, k < 128 → cs[1 + 2 * k]? = some (.bool (s.L k)) ∧ cs[1 + 2 * k + 1]? = some (.int .i64 (s.G k))
def Rs (w : World) (p : Nat) (s : RS) : Prop := ∃ cs, w.heap[p]? = some (.cells cs 65 (0, 0)) ∧ RsC cs s
theorem Rs.fr {w w' : World} {p : Nat} {s : RS} {S : List Nat} (h : Rs w p s) (hf : Fr w w' S) (hp : p ∉ S) : Rs w' p s := h.imp fun _ hh => ⟨hf.heap hh.1 hp, hh.2⟩
theorem Rs.keep {w w' : World} {p : Nat} {s : RS} (h : Rs w p s) (hf : Fr w w' []) : Rs w' p s := h.fr hf (by simp)
theorem Rs.lt {w : World} {p : Nat} {s : RS} (h : Rs w p s) : p < w.heap.size := by obtain ⟨cs, h1, _⟩ := h; exact size_of_row h1
theorem Rs.n {w : World} {p : Nat} {s : RS} (h : Rs w p s) : w.cell? ⟨p, 0, none⟩ = some (.int .i64 (s.n : Int)) := by
  obtain ⟨cs, h1, h2, h3, h4⟩ := h
  rw [cell_of_row w p _ _ _ _ h1, h3]
theorem Rs.at' {w : World} {p : Nat} {s : RS} (h : Rs w p s) (k o : Nat) (hk : k < 128) (ho : o = 1 + 2 * k) : w.cell? ⟨p, o, none⟩ = some (.bool (s.L k)) ∧ w.cell? ⟨p, o + 1, none⟩ = some (.int .i64 (s.G k)) := by
  obtain ⟨cs, h1, h2, h3, h4⟩ := h
  subst ho
  exact ⟨by rw [cell_of_row w p _ _ _ _ h1, (h4 k hk).1], by rw [cell_of_row w p _ _ _ _ h1, (h4 k hk).2]⟩
theorem Rs.fz {w : World} {p : Nat} {s : RS} (h : Rs w p s) (j : Nat) : w.frozen? ⟨p, j, none⟩ = false := by
  obtain ⟨cs, h1, h2⟩ := h
  exact frozen_of_row _ _ _ _ _ h1
theorem Rs.setL {w : World} {p : Nat} {s : RS} (h : Rs w p s) (k o : Nat) (hk : k < 128) (ho : o = 1 + 2 * k) (b : Bool) : Rs (w.setCell ⟨p, o, none⟩ (.bool b)) p ⟨s.n, updB s.L k b, s.G⟩ := by
  obtain ⟨cs, h1, h2, h3, h4⟩ := h
  subst ho
  refine ⟨_, heap_setCell_same _ _ _ _ _ _ h1, by simpa using h2, by rw [Array.getElem?_setIfInBounds_ne (by omega)]; exact h3, fun j hj => ?_⟩
  obtain ⟨a, b'⟩ := h4 j hj
  refine ⟨?_, by rw [Array.getElem?_setIfInBounds_ne (by omega)]; exact b'⟩
  by_cases e : j = k
  · subst e
    rw [Array.getElem?_setIfInBounds_self_of_lt (by omega)]; simp [updB]
  · rw [Array.getElem?_setIfInBounds_ne (by omega)]; simpa [updB, e] using a
theorem Rs.setG {w : World} {p : Nat} {s : RS} (h : Rs w p s) (k o : Nat) (hk : k < 128) (ho : o = 1 + 2 * k) (b : Int) : Rs (w.setCell ⟨p, o + 1, none⟩ (.int .i64 b)) p ⟨s.n, s.L, updG s.G k b⟩ := by
  obtain ⟨cs, h1, h2, h3, h4⟩ := h
  subst ho
  refine ⟨_, heap_setCell_same _ _ _ _ _ _ h1, by simpa using h2, by rw [Array.getElem?_setIfInBounds_ne (by omega)]; exact h3, fun j hj => ?_⟩
  obtain ⟨a, b'⟩ := h4 j hj
  refine ⟨by rw [Array.getElem?_setIfInBounds_ne (by omega)]; exact a, ?_⟩
  by_cases e : j = k
  · subst e
    rw [Array.getElem?_setIfInBounds_self_of_lt (by omega)]; simp [updG]
  · rw [Array.getElem?_setIfInBounds_ne (by omega)]; simpa [updG, e] using b'
theorem Rs.press {w : World} {p : Nat} {s : RS} (h : Rs w p s) (k o : Nat) (hk : k < 128) (ho : o = 1 + 2 * k) (g : Int) (hg : s.G k = g) : Rs ((w.setCell ⟨p, o, none⟩ (.bool true)).setCell ⟨p, o + 1, none⟩ (.int .i64 (g + 1))) p (s.press k) := by
  subst hg
  exact (h.setL k o hk ho true).setG k o hk ho (s.G k + 1)
/-- The zero riser of so many floors. -/
def zS (n : Nat) : RS := ⟨n, fun _ => false, fun _ => 0⟩
def zRs (n : Int) : List Value := .int .i64 n :: (List.replicate 128 [Value.bool false, .int .i64 0]).flatten
theorem zpairs : ∀ (m k : Nat), k < m → ((List.replicate m [Value.bool false, .int .i64 0]).flatten)[2 * k]? = some (.bool false) ∧ ((List.replicate m [Value.bool false, .int .i64 0]).flatten)[2 * k + 1]? = some (.int .i64 0)
  | 0, k, h => by omega
  | m + 1, 0, _ => by simp [List.replicate_succ]
  | m + 1, k + 1, h => by
    have := zpairs m k (by omega)
    rw [List.replicate_succ, List.flatten_cons, show 2 * (k + 1) = 2 * k + 1 + 1 by omega]
    simpa using this
set_option maxRecDepth 100000 in
theorem zRs_ok (n : Nat) : RsC (zRs (n : Int)).toArray (zS n) := by
  refine ⟨rfl, rfl, fun k hk => ?_⟩
  obtain ⟨a, b⟩ := zpairs 128 k hk
  rw [Nat.add_comm 1]
  unfold zRs
  simp only [List.getElem?_toArray, List.getElem?_cons_succ]
  exact ⟨a, b⟩
theorem infoRs : (Tryd.prog.info? 65).map (·.size) = some 257 := by kernel_rfl
theorem RsC.one {cs : Array Value} {s : RS} (h : RsC cs s) : cs.all (·.oneCell') = true := by
  rw [Array.all_eq_true]
  intro i hi
  have hs := h.size
  by_cases e : i = 0
  · subst e
    have := h.n
    rw [Array.getElem?_eq_getElem hi] at this
    rw [Option.some.inj this]; rfl
  · obtain ⟨a, b⟩ := h.at' ((i - 1) / 2) (by omega)
    rcases (by omega : i = 1 + 2 * ((i - 1) / 2) ∨ i = 1 + 2 * ((i - 1) / 2) + 1) with e | e
    · rw [← e, Array.getElem?_eq_getElem hi] at a; rw [Option.some.inj a]; rfl
    · rw [← e, Array.getElem?_eq_getElem hi] at b; rw [Option.some.inj b]; rfl
end Go.Proofs.YtndjmpjgahmnoaaDoor
