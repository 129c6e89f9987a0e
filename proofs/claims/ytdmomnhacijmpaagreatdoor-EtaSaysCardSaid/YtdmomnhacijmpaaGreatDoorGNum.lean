/- A slice of integers that came in. Slices of integers of the call's own; the document's copy of integers, and whether two are the same. A number from 0 to below a bound, of any (a helper of the statements). Latches: slices of them, of the call's own and those that came in (out of Ris, for stages without a riser). -/
import Derived.Test.YtdmomnhacijmpaaGreatDoorGBase
import Derived.OpenShut
namespace Go.Proofs.YtdmomnhacijmpaaGreatDoor
open Go.RowKit Go.ChangeShapes Go.WideShapes

/-- A slice of integers that came in: what it holds, and what it may be. -/
theorem holds_of_ints {k : IntKind} {W : World} {a : Option Addr} {len cap : Nat} {zs : List Int} (h : (a = none ∧ len = 0 ∧ cap = 0 ∧ zs = []) ∨
      ∃ x, a = some x ∧ len ≤ cap ∧ cap ≤ maxLen ∧ zs.length = cap ∧ (∀ i, i < zs.length → W.cell? (x.add i) = some (.int k (zs.getD i 0))) ∧ ∀ n ∈ zs, (Lit.int k n).wf = true) :
    Holds k W (.slice a len cap) (zs.take len) ∧ ((Value.slice a len cap = .slice none 0 0 ∧ zs.take len = []) ∨ ∃ x c, Value.slice a len cap = .slice (some x) (zs.take len).length c) ∧ (∀ n ∈ zs.take len, (Lit.int k n).wf = true) := by
  rcases h with ⟨rfl, rfl, rfl, rfl⟩ | ⟨x, rfl, hl, hm, hz, hc, hw⟩
  · exact ⟨⟨none, 0, by simp, by simp, by decide, fun h => by simp at h⟩, .inl ⟨rfl, by simp⟩, fun n hn => by simp at hn⟩
  · have hlen : (zs.take len).length = len := by simp; omega
    refine ⟨⟨some x, cap, by rw [hlen], by rw [hlen]; exact hl, hm, fun h0 => ?_⟩, .inr ⟨x, cap, by rw [hlen]⟩, fun n hn => hw n (List.mem_of_mem_take hn)⟩
    rw [hlen] at h0
    obtain ⟨b, off, spot⟩ := x
    have hc0 := hc 0 (by omega)
    have hspot : spot = none := by simpa [Addr.add] using World.cell?_spot hc0
    subst hspot
    refine ⟨b, off, rfl, fun i hi => ?_⟩
    rw [hlen] at hi
    have := hc i (by omega)
    rw [Addr.add_lit] at this
    rw [this]
    simp [List.getD, hi]
theorem byte_of_wf {l : List Int} (h : ∀ n ∈ l, (Lit.int .u8 n).wf = true) : ∀ x ∈ l, 0 ≤ x ∧ x ≤ 255 := fun x hx => bounds_u8 (h x hx)
end Go.Proofs.YtdmomnhacijmpaaGreatDoor

namespace Go.Proofs.YtdmomnhacijmpaaGreatDoor
open Go.RowKit

theorem infoI : (Tryz.prog.info? 3).map (fun i => (i.zero, i.size, i.bytes)) = some (some (.int .i64 0), 1, 8) := by kernel_rfl
def i64s (l : List Int) : List Value := l.map (Value.int .i64)
@[simp] theorem i64s_len (l : List Int) : (i64s l).length = l.length := by simp [i64s]
theorem i64s_snoc (l : List Int) (x : Int) : i64s (l ++ [x]) = i64s l ++ [.int .i64 x] := by simp [i64s]
def OwnI (w : World) (B : Nat) (v : Value) (l : List Int) : Prop := w.ownsRow B 3 1 v l.length (i64s l)
abbrev HInts (w : World) (v : Value) (l : List Int) : Prop := Holds .i64 w v l
theorem OwnI.holds {w : World} {B : Nat} {v : Value} {l : List Int} (h : OwnI w B v l) : HInts w v l := by
  rcases h.2 with ⟨rfl, h0⟩ | ⟨g, cap, cur, rfl, hb, hg, hn, hm, hs, ht⟩
  · obtain rfl := List.eq_nil_of_length_eq_zero h0
    exact ⟨none, 0, rfl, by simp, by decide, fun h => absurd h (by simp)⟩
  · refine ⟨_, cap, rfl, hn, hm, fun _ => ⟨g, 0, rfl, fun i hi => ?_⟩⟩
    have e : (i64s l)[i]? = some (.int .i64 (l.getD i 0)) := by simp [i64s, hi]
    rw [← ht] at e
    rw [List.getElem?_take_of_lt (by omega)] at e
    rw [Nat.zero_add, cell_of_row w g i _ _ _ hg]
    simpa using e
theorem OwnI.fr {w w' : World} {B : Nat} {v : Value} {l : List Int} {S : List Nat} (h : OwnI w B v l) (hg : Fr w w' S) (hne : ∀ r ∈ S, v.ownBlock ≠ some r) : OwnI w' B v l := row_fr h hg hne
theorem OwnI.keep {w w' : World} {B : Nat} {v : Value} {l : List Int} (h : OwnI w B v l) (hg : Fr w w' []) : OwnI w' B v l := h.fr hg (by simp)
/-- Behind writes to a block of another kind. -/
theorem OwnI.far {w w' : World} {B p : Nat} {v : Value} {l : List Int} (h : OwnI w B v l) (hg : Fr w w' [p]) {cs : Array Value} {T : TypeId} {fz : Nat × Nat} (hp : w.heap[p]? = some (.cells cs T fz)) (hT : T ≠ 3) : OwnI w' B v l :=
  h.fr hg (by intro r hr; obtain rfl := List.mem_singleton.1 hr; exact row_ne h hp hT)
theorem OwnI.nil (w : World) (B : Nat) : OwnI w B (.slice none 0 0) [] := ⟨rfl, .inl ⟨rfl, rfl⟩⟩
theorem OwnI.snoc {w : World} {B : Nat} {v : Value} {l : List Int} {x : Int} (h : w.ownsRow B 3 1 v (l.length + 1) (i64s l ++ [.int .i64 x])) : OwnI w B v (l ++ [x]) := by
  unfold OwnI
  rw [i64s_snoc]
  simpa using h
theorem OwnI.block {w : World} {B : Nat} {v : Value} {l : List Int} (h : OwnI w B v l) : ∀ r, v.ownBlock = some r → B ≤ r ∧ r < w.heap.size := World.ownsRow.lt h
theorem OwnI.mono {w : World} {B B' : Nat} {v : Value} {l : List Int} (h : OwnI w B v l) (hB : B' ≤ B) : OwnI w B' v l := row_mono h hB

end Go.Proofs.YtdmomnhacijmpaaGreatDoor

namespace Go.Proofs.YtdmomnhacijmpaaGreatDoor
open Go.RowKit

theorem emod_walk (n b : Int) (hb : 0 < b) : n % b = if n.tmod b < 0 then n.tmod b + b else n.tmod b := by
  have h1 := Int.emod_nonneg n (show b ≠ 0 by omega)
  have h2 := Int.emod_lt_of_pos n hb
  have h3 := Int.tmod_lt_of_pos n hb
  have h4 := Int.mul_ediv_add_emod n b
  have h5 := Int.mul_tdiv_add_tmod n b
  by_cases h : 0 ≤ n
  · rw [Int.tmod_eq_emod_of_nonneg h, if_neg (by omega)]
  · have h6 : n.tmod b ≤ 0 := by
      have := Int.tmod_nonneg b (show 0 ≤ -n by omega)
      rw [Int.neg_tmod] at this; omega
    have h7 : -b < n.tmod b := by
      have := Int.tmod_lt_of_pos (-n) hb
      rw [Int.neg_tmod] at this; omega
    have key : n.tmod b = n % b ∨ n.tmod b = n % b - b := by
      have e : b * (n / b - n.tdiv b) = n.tmod b - n % b := by rw [Int.mul_sub]; omega
      have hq : n / b - n.tdiv b = 0 ∨ n / b - n.tdiv b = -1 := by
        have hlo : -b * 2 < b * (n / b - n.tdiv b) := by omega
        have hhi : b * (n / b - n.tdiv b) < b := by omega
        have a1 : -2 < n / b - n.tdiv b := by
          apply Int.lt_of_mul_lt_mul_left (a := b) _ (by omega)
          have : b * -2 = -b * 2 := by omega
          omega
        have a2 : n / b - n.tdiv b < 1 := by
          apply Int.lt_of_mul_lt_mul_left (a := b) _ (by omega)
          omega
        omega
      rcases hq with hq | hq
      · rw [hq] at e; left; omega
      · rw [hq] at e; right; omega
    rcases key with h | h
    · rw [h]; split <;> omega
    · rw [h]; split <;> omega

end Go.Proofs.YtdmomnhacijmpaaGreatDoor

namespace Go.Proofs.YtdmomnhacijmpaaGreatDoor
open Go.RowKit

/-- A latch: the call, for the how manieth time. -/
structure La where
  f : Int
  d : Int
  g : Int
deriving DecidableEq
def zLa : La := ⟨0, 0, 0⟩
def La.cl (x : La) : List Value := [.int .i64 x.f, .int .i64 x.d, .int .i64 x.g]
def laC (l : List La) : List Value := l.flatMap La.cl
theorem laC_cons (x : La) (l : List La) : laC (x :: l) = .int .i64 x.f :: .int .i64 x.d :: .int .i64 x.g :: laC l := by simp [laC, La.cl]
theorem laC_snoc (l : List La) (x : La) : laC (l ++ [x]) = laC l ++ x.cl := by simp [laC]
theorem laC_get (T : List La) (i : Nat) (h : i < T.length) : (laC T)[i * 3]? = some (.int .i64 (T.getD i zLa).f) ∧ (laC T)[i * 3 + 1]? = some (.int .i64 (T.getD i zLa).d) ∧ (laC T)[i * 3 + 2]? = some (.int .i64 (T.getD i zLa).g) := by
  induction T generalizing i with
  | nil => simp at h
  | cons b l ih =>
    rw [laC_cons]
    cases i with
    | zero => simp
    | succ i =>
      have h' : i < l.length := by simpa using h
      have := ih i h'
      rw [show (i + 1) * 3 = i * 3 + 1 + 1 + 1 by omega]
      simpa using this
theorem infoL : (Tryz.prog.info? 149).map (fun i => (i.zero, i.size, i.bytes)) = some (some (.agg #[.int .i64 0, .int .i64 0, .int .i64 0]), 3, 24) := by kernel_rfl
/-- The slice v is the call's own, and holds the latches. -/
def OwnL (w : World) (B : Nat) (v : Value) (T : List La) : Prop := w.ownsRow B 149 3 v T.length (laC T)
theorem OwnL.nil (w : World) (B : Nat) : OwnL w B (.slice none 0 0) [] := ⟨rfl, .inl ⟨rfl, rfl⟩⟩
theorem OwnL.fr {w w' : World} {B : Nat} {v : Value} {l : List La} {S : List Nat} (h : OwnL w B v l) (hg : Fr w w' S) (hne : ∀ r ∈ S, v.ownBlock ≠ some r) : OwnL w' B v l := row_fr h hg hne
theorem OwnL.keep {w w' : World} {B : Nat} {v : Value} {l : List La} (h : OwnL w B v l) (hg : Fr w w' []) : OwnL w' B v l := h.fr hg (by simp)
theorem OwnL.snoc {w : World} {B : Nat} {v : Value} {l : List La} {x : La} (h : w.ownsRow B 149 3 v (l.length + 1) (laC l ++ x.cl)) : OwnL w B v (l ++ [x]) := by
  unfold OwnL
  rw [laC_snoc]
  simpa using h
theorem OwnL.block {w : World} {B : Nat} {v : Value} {l : List La} (h : OwnL w B v l) : ∀ r, v.ownBlock = some r → B ≤ r ∧ r < w.heap.size := World.ownsRow.lt h
theorem OwnL.shape {w : World} {B : Nat} {v : Value} {l : List La} (h : OwnL w B v l) : ∃ a c, v = .slice a l.length c := row_shape h
/-- The slice v holds the latches. -/
def HLs (w : World) (v : Value) (l : List La) : Prop :=
  ∃ a cap, v = .slice a l.length cap ∧ l.length ≤ cap ∧ cap ≤ maxLen ∧ (0 < l.length → ∃ b off, a = some ⟨b, off, none⟩ ∧ ∀ i, i < l.length →
    w.cell? ⟨b, off + i * 3, none⟩ = some (.int .i64 (l.getD i zLa).f) ∧ w.cell? ⟨b, off + i * 3 + 1, none⟩ = some (.int .i64 (l.getD i zLa).d) ∧ w.cell? ⟨b, off + i * 3 + 2, none⟩ = some (.int .i64 (l.getD i zLa).g))
theorem OwnL.holds {w : World} {B : Nat} {v : Value} {l : List La} (h : OwnL w B v l) : HLs w v l := by
  by_cases h0 : 0 < l.length
  · obtain ⟨g, c, rfl, hc, hm, _⟩ := row_head h h0
    have h2 := World.ownsRow.cellAt h
    refine ⟨_, c, rfl, hc, hm, fun _ => ⟨g, 0, rfl, fun i hi => ?_⟩⟩
    obtain ⟨g0, g1, g2⟩ := laC_get l i hi
    rw [Nat.zero_add]
    exact ⟨(h2 _ (by omega)).trans g0, (h2 _ (by omega)).trans g1, (h2 _ (by omega)).trans g2⟩
  · obtain rfl := List.eq_nil_of_length_eq_zero (by omega : l.length = 0)
    rcases h.2 with ⟨rfl, _⟩ | ⟨g, cap, cur, rfl, hb, hg, hn, hm, _⟩
    · exact ⟨none, 0, rfl, by simp, by decide, fun h => absurd h (by simp)⟩
    · exact ⟨_, cap, rfl, hn, hm, fun h => absurd h (by simp)⟩
theorem HLs.keep {w w' : World} {v : Value} {l : List La} (h : HLs w v l) (hf : Fr w w' []) : HLs w' v l := by
  obtain ⟨a, cap, rfl, h1, h2, h3⟩ := h
  refine ⟨a, cap, rfl, h1, h2, fun h0 => ?_⟩
  obtain ⟨b, off, rfl, hc⟩ := h3 h0
  exact ⟨b, off, rfl, fun i hi => ⟨hf.cell (hc i hi).1 (by simp), hf.cell (hc i hi).2.1 (by simp), hf.cell (hc i hi).2.2 (by simp)⟩⟩

/-- Its three cells. -/
theorem row3 {w : World} {g : Nat} {a b c : Value} {T : TypeId} (h : w.heap[g]? = some (.cells #[a, b, c] T (0, 0))) :
    w.cell? ⟨g, 0, none⟩ = some a ∧ w.cell? ⟨g, 1, none⟩ = some b ∧ w.cell? ⟨g, 2, none⟩ = some c :=
  ⟨by rw [cell_of_row w g 0 _ _ _ h]; rfl, by rw [cell_of_row w g 1 _ _ _ h]; rfl, by rw [cell_of_row w g 2 _ _ _ h]; rfl⟩

theorem set3_fr (w : World) (g : Nat) (a b c : Value) : Fr w (((w.setCell ⟨g, 0, none⟩ a).setCell ⟨g, 1, none⟩ b).setCell ⟨g, 2, none⟩ c) [g] :=
  ((Fr.setCell w g 0 a (by simp)).trans (Fr.setCell _ g 1 b (by simp))).trans (Fr.setCell _ g 2 c (by simp))
theorem set3_row {w : World} {g : Nat} {x y z : Value} {T : TypeId} (h : w.heap[g]? = some (.cells #[x, y, z] T (0, 0))) (a b c : Value) :
    (((w.setCell ⟨g, 0, none⟩ a).setCell ⟨g, 1, none⟩ b).setCell ⟨g, 2, none⟩ c).heap[g]? = some (.cells #[a, b, c] T (0, 0)) :=
  heap_setCell_same _ _ _ _ _ _ (heap_setCell_same _ _ _ _ _ _ (heap_setCell_same _ _ _ _ _ _ h))
theorem row_new3 (w : World) (a b c : Value) (T : TypeId) : ∀ j u, [a, b, c][j]? = some u → (w.alloc (.cells #[a, b, c] T)).cell? (Addr.add ⟨w.heap.size, 0, none⟩ j) = some u := by
  intro j u hu
  have h := heap_alloc_new w (.cells #[a, b, c] T)
  rw [Addr.add_lit, Nat.zero_add, cell_of_row _ _ _ _ _ _ h]
  simpa using hu
theorem la_one (x : La) : ∀ u ∈ x.cl, u.oneCell' = true := by
  intro u hu
  simp [La.cl] at hu
  rcases hu with rfl | rfl | rfl <;> rfl
end Go.Proofs.YtdmomnhacijmpaaGreatDoor
