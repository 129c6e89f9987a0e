/- The things told that came in (of a table): what they hold. -/
import Derived.Test.YtgpdpembddajhaaRow
import Derived.ProofKit
import Derived.OpenShut
import Derived.Deep.Slices
import Derived.Deep.Fields
import Derived.ChangeSame
namespace Go.Proofs.Ytgpdpembddajhaa
open Go.RowKit Go.ChangeShapes Go.WideShapes Go.Deep

/-- A thing told. -/
structure D5 where
  k : Int
  c : Int
  l : Int
  s : Int
  o : Bool
def zD : D5 := ⟨0, 0, 0, 0, false⟩
/-- The slice v holds the things told. -/
def HD (w : World) (v : Value) (l : List D5) : Prop :=
  ∃ a cap, v = .slice a l.length cap ∧ l.length ≤ cap ∧ cap ≤ maxLen ∧ (0 < l.length → ∃ b off, a = some ⟨b, off, none⟩ ∧ ∀ i, i < l.length →
    w.cell? ⟨b, off + i * 5, none⟩ = some (.int .i64 (l.getD i zD).k) ∧ w.cell? ⟨b, off + i * 5 + 1, none⟩ = some (.int .i64 (l.getD i zD).c) ∧
    w.cell? ⟨b, off + i * 5 + 2, none⟩ = some (.int .i64 (l.getD i zD).l) ∧ w.cell? ⟨b, off + i * 5 + 3, none⟩ = some (.int .i64 (l.getD i zD).s) ∧ w.cell? ⟨b, off + i * 5 + 4, none⟩ = some (.bool (l.getD i zD).o))

section
variable {H : Type} {enc : TypeId × Value → H} {w : World} {base : Nat} {held : Bool}
theorem fld {P : Program} {spare : Nat → Bool} {fuel : Nat} {t : TypeId} {fs : Array Field} {cs : List Value} {x : DataW H × List MemPlace} (ht : P.underlying t = some (.struct fs)) (h : DataW.trod enc P w base spare held fuel t cs = some x) (i : Nat) (f : Field) (hi : fs[i]? = some f) (o k : Nat) (T : TypeId) (hT : f.type = T) (ho : f.offset = o) (hk : P.cellsOf T = k) :
    ∃ n y, DataW.trod enc P w base spare held n T ((cs.drop o).take k) = some y := by
  obtain ⟨xs, n, _, _, _, hl, hf⟩ := DataW.trod_struct ht h
  have h1 := hf i f hi
  have hlt : i < xs.length := by rw [hl]; exact (Array.getElem?_eq_some_iff.1 hi).1
  rw [List.getElem?_eq_getElem hlt] at h1
  subst hT ho hk
  exact ⟨n, _, h1⟩
theorem list_of {α : Type} (d : α) (Q : Nat → α → Prop) : ∀ n, (∀ i, i < n → ∃ a, Q i a) → ∃ l : List α, l.length = n ∧ ∀ i, i < n → Q i (l.getD i d)
  | 0, _ => ⟨[], rfl, fun i hi => by omega⟩
  | n + 1, h => by
    obtain ⟨l, hl, hq⟩ := list_of d Q n (fun i hi => h i (by omega))
    obtain ⟨a, ha⟩ := h n (by omega)
    refine ⟨l ++ [a], by simp [hl], fun i hi => ?_⟩
    by_cases e : i = n
    · subst e
      have : (l ++ [a]).getD i d = a := by simp [List.getD, ← hl]
      rw [this]; exact ha
    · have : (l ++ [a]).getD i d = l.getD i d := by simp [List.getD, List.getElem?_append_left (show i < l.length by omega)]
      rw [this]; exact hq i (by omega)

theorem open_do {fuel : Nat} {c : Value} {x : DataW H × List MemPlace} (h : DataW.trod enc Try.prog w base (fun _ => true) held fuel 39 [c] = some x) : ∃ l, HD w c l := by
  rcases open_slice Try.underlying39 h with ⟨hcs, _⟩ | ⟨a, len, cap, m, n, D, Pl, hcs, _, hl, hm, hmm, _, hi⟩
  · simp at hcs
    subst hcs
    exact ⟨[], none, 0, rfl, by simp, by decide, fun h => absurd h (by simp)⟩
  · simp at hcs
    subst hcs
    have hmc : m = cap := by simpa using hmm
    have hc5 : Try.prog.cellsOf 47 = 5 := by kernel_rfl
    have key : ∀ i, i < len → ∃ e : D5, w.cell? (a.add (i * 5)) = some (.int .i64 e.k) ∧ w.cell? ((a.add (i * 5)).add 1) = some (.int .i64 e.c) ∧ w.cell? ((a.add (i * 5)).add 2) = some (.int .i64 e.l) ∧ w.cell? ((a.add (i * 5)).add 3) = some (.int .i64 e.s) ∧ w.cell? ((a.add (i * 5)).add 4) = some (.bool e.o) := by
      intro i hi'
      obtain ⟨cs, hcells, ht⟩ := hi i (by omega)
      rw [hc5] at hcells
      obtain ⟨_, hlen, hat⟩ := World.cells?_some hcells
      obtain ⟨n0, y0, h0⟩ := fld Try.underlying47 ht 0 _ rfl 0 1 3 rfl rfl (by kernel_rfl)
      obtain ⟨n1, y1, h1⟩ := fld Try.underlying47 ht 1 _ rfl 1 1 3 rfl rfl (by kernel_rfl)
      obtain ⟨n2, y2, h2⟩ := fld Try.underlying47 ht 2 _ rfl 2 1 2 rfl rfl (by kernel_rfl)
      obtain ⟨n3, y3, h3⟩ := fld Try.underlying47 ht 3 _ rfl 3 1 2 rfl rfl (by kernel_rfl)
      obtain ⟨n4, y4, h4⟩ := fld Try.underlying47 ht 4 _ rfl 4 1 4 rfl rfl (by kernel_rfl)
      match cs, hlen with
      | [c0, c1, c2, c3, c4], _ =>
        obtain ⟨q0, e0, _⟩ := DataW.trod_int Try.underlying3 h0
        obtain ⟨q1, e1, _⟩ := DataW.trod_int Try.underlying3 h1
        obtain ⟨q2, e2, _⟩ := DataW.trod_int Try.underlying2 h2
        obtain ⟨q3, e3, _⟩ := DataW.trod_int Try.underlying2 h3
        obtain ⟨q4, e4, _⟩ := DataW.trod_bool Try.underlying4 h4
        simp at e0 e1 e2 e3 e4
        have a0 := hat 0 (by omega)
        have a1 := hat 1 (by omega)
        have a2 := hat 2 (by omega)
        have a3 := hat 3 (by omega)
        have a4 := hat 4 (by omega)
        simp at a0 a1 a2 a3 a4
        refine ⟨⟨q0, q1, q2, q3, q4⟩, ?_, by rw [a1, e1], by rw [a2, e2], by rw [a3, e3], by rw [a4, e4]⟩
        have : (a.add (i * 5)).add 0 = a.add (i * 5) := by unfold Addr.add; simp
        rw [this] at a0
        rw [a0, e0]
    obtain ⟨l, hll, hq⟩ := list_of zD _ len key
    refine ⟨l, some a, cap, by rw [hll], by omega, hm, fun h0 => ?_⟩
    obtain ⟨b, off, spot⟩ := a
    have hspot : spot = none := by
      have := (hq 0 (by omega)).1
      simpa [Addr.add] using World.cell?_spot this
    subst hspot
    refine ⟨b, off, rfl, fun i hi' => ?_⟩
    obtain ⟨g0, g1, g2, g3, g4⟩ := hq i (by omega)
    rw [Addr.add_lit] at g0 g1 g2 g3 g4
    rw [Addr.add_lit] at g1 g2 g3 g4
    exact ⟨g0, g1, g2, g3, g4⟩
end
end Go.Proofs.Ytgpdpembddajhaa
