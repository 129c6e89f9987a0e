/- The things told that came in: what they hold. -/
import Derived.Test.YtlkmpmhbidhfcaaRow
import Derived.Test.YtlkmpmhbidhfcaaInts
import Derived.ProofKit
import Derived.Deep.Slices
import Derived.Deep.Fields
import Derived.ChangeSame
namespace Go.Proofs.Ytlkmpmhbidhfcaa
open Go.RowKit Go.ChangeShapes Go.WideShapes Go.Deep

/-- A thing told. -/
structure D4 where
  k : Int
  a : Int
  b : Int
  bs : List Int
def zD : D4 := ⟨0, 0, 0, []⟩
/-- The slice v holds the things told. -/
def HD (w : World) (v : Value) (l : List D4) : Prop :=
  ∃ a cap, v = .slice a l.length cap ∧ l.length ≤ cap ∧ cap ≤ maxLen ∧ (0 < l.length → ∃ b off, a = some ⟨b, off, none⟩ ∧ ∀ i, i < l.length → ∃ vb,
    w.cell? ⟨b, off + i * 4, none⟩ = some (.int .i64 (l.getD i zD).k) ∧ w.cell? ⟨b, off + i * 4 + 1, none⟩ = some (.int .i64 (l.getD i zD).a) ∧
    w.cell? ⟨b, off + i * 4 + 2, none⟩ = some (.int .i64 (l.getD i zD).b) ∧ w.cell? ⟨b, off + i * 4 + 3, none⟩ = some vb ∧ Bytes w vb (l.getD i zD).bs ∧ ∀ x ∈ (l.getD i zD).bs, 0 ≤ x ∧ x < 256)

section
variable {H : Type} {enc : TypeId × Value → H} {w : World} {base : Nat} {held : Bool}
theorem fld {P : Program} {spare : Nat → Bool} {fuel : Nat} {t : TypeId} {fs : Array Field} {cs : List Value} {x : DataW H × List MemPlace} (ht : P.underlying t = some (.struct fs)) (h : DataW.trod enc P w base spare held fuel t cs = some x) (i : Nat) (f : Field) (hi : fs[i]? = some f) (o k : Nat) (T : TypeId) (hT : f.type = T) (ho : f.offset = o) (hk : P.cellsOf T = k) :
    ∃ n y, DataW.trod enc P w base spare held n T ((cs.drop o).take k) = some y := by
  obtain ⟨xs, n, _, _, _, hl, hf⟩ := DataW.trod_struct ht h
  have h1 := hf i f hi
  have hlt : i < xs.length := by rw [hl]; exact (Array.getElem?_eq_some_iff.1 hi).1
  rw [List.getElem?_eq_getElem hlt] at h1
  subst hT ho hk
  exact ⟨n, _, h1⟩
theorem list_of {α : Type} (d : α) (Q : Nat → α → Prop) : ∀ n, (∀ i, i < n → ∃ a, Q i a) → ∃ l : List α, l.length = n ∧ ∀ i, i < n → Q i (l.getD i d)
  | 0, _ => ⟨[], rfl, fun i hi => by omega⟩
  | n + 1, h => by
    obtain ⟨l, hl, hq⟩ := list_of d Q n (fun i hi => h i (by omega))
    obtain ⟨a, ha⟩ := h n (by omega)
    refine ⟨l ++ [a], by simp [hl], fun i hi => ?_⟩
    by_cases e : i = n
    · subst e
      have : (l ++ [a]).getD i d = a := by simp [List.getD, ← hl]
      rw [this]; exact ha
    · have : (l ++ [a]).getD i d = l.getD i d := by simp [List.getD, List.getElem?_append_left (show i < l.length by omega)]
      rw [this]; exact hq i (by omega)

theorem open_bytes {fuel : Nat} {c : Value} {x : DataW H × List MemPlace} (h : DataW.trod enc Try.prog w base (fun _ => true) held fuel 28 [c] = some x) : ∃ l, Bytes w c l ∧ ∀ x ∈ l, 0 ≤ x ∧ x < 256 := by
  have key : ∃ (a : Option Addr) (len cap : Nat) (zs : List Int), c = .slice a len cap ∧ ((a = none ∧ len = 0 ∧ cap = 0 ∧ zs = []) ∨ ∃ x, a = some x ∧ len ≤ cap ∧ cap ≤ maxLen ∧ zs.length = cap ∧ (∀ i, i < zs.length → w.cell? (x.add i) = some (.int .u8 (zs.getD i 0))) ∧ ∀ n ∈ zs, (Lit.int .u8 n).wf = true) := by
    rcases open_ints Try.underlying28 Try.underlying5 (by kernel_rfl) h with ⟨hcs, _⟩ | ⟨x, l, c', zs, hcs, _, hl, hm, hz, _, hcell, hwz⟩
    · simp at hcs
      exact ⟨none, 0, 0, [], hcs, .inl ⟨rfl, rfl, rfl, rfl⟩⟩
    · simp at hcs
      exact ⟨some x, l, c', zs, hcs, .inr ⟨x, rfl, hl, hm, by simpa using hz, hcell, hwz⟩⟩
  obtain ⟨a, len, cap, zs, rfl, hw⟩ := key
  obtain ⟨h1, _, h3⟩ := holds_of_ints hw
  refine ⟨_, h1, fun x hx => ?_⟩
  have := byte_of_wf h3 x hx
  omega

theorem open_do {fuel : Nat} {c : Value} {x : DataW H × List MemPlace} (h : DataW.trod enc Try.prog w base (fun _ => true) held fuel 37 [c] = some x) : ∃ l, HD w c l := by
  rcases open_slice Try.underlying37 h with ⟨hcs, _⟩ | ⟨a, len, cap, m, n, D, Pl, hcs, _, hl, hm, hmm, _, hi⟩
  · simp at hcs
    subst hcs
    exact ⟨[], none, 0, rfl, by simp, by decide, fun h => absurd h (by simp)⟩
  · simp at hcs
    subst hcs
    have hmc : m = cap := by simpa using hmm
    have hc4 : Try.prog.cellsOf 44 = 4 := by kernel_rfl
    have key : ∀ i, i < len → ∃ e : D4, w.cell? (a.add (i * 4)) = some (.int .i64 e.k) ∧ ∃ vb, w.cell? ((a.add (i * 4)).add 1) = some (.int .i64 e.a) ∧ w.cell? ((a.add (i * 4)).add 2) = some (.int .i64 e.b) ∧ w.cell? ((a.add (i * 4)).add 3) = some vb ∧ Bytes w vb e.bs ∧ ∀ x ∈ e.bs, 0 ≤ x ∧ x < 256 := by
      intro i hi'
      obtain ⟨cs, hcells, ht⟩ := hi i (by omega)
      rw [hc4] at hcells
      obtain ⟨_, hlen, hat⟩ := World.cells?_some hcells
      obtain ⟨n0, y0, h0⟩ := fld Try.underlying44 ht 0 _ rfl 0 1 3 rfl rfl (by kernel_rfl)
      obtain ⟨n1, y1, h1⟩ := fld Try.underlying44 ht 1 _ rfl 1 1 3 rfl rfl (by kernel_rfl)
      obtain ⟨n2, y2, h2⟩ := fld Try.underlying44 ht 2 _ rfl 2 1 3 rfl rfl (by kernel_rfl)
      obtain ⟨n3, y3, h3⟩ := fld Try.underlying44 ht 3 _ rfl 3 1 28 rfl rfl (by kernel_rfl)
      match cs, hlen with
      | [c0, c1, c2, c3], _ =>
        obtain ⟨bs, hb, hr⟩ := open_bytes h3
        obtain ⟨q0, e0, _⟩ := DataW.trod_int Try.underlying3 h0
        obtain ⟨q1, e1, _⟩ := DataW.trod_int Try.underlying3 h1
        obtain ⟨q2, e2, _⟩ := DataW.trod_int Try.underlying3 h2
        simp at e0 e1 e2
        have a0 := hat 0 (by omega)
        have a1 := hat 1 (by omega)
        have a2 := hat 2 (by omega)
        have a3 := hat 3 (by omega)
        simp at a0 a1 a2 a3
        refine ⟨⟨q0, q1, q2, bs⟩, ?_, c3, by rw [a1, e1], by rw [a2, e2], a3, hb, hr⟩
        have : (a.add (i * 4)).add 0 = a.add (i * 4) := by unfold Addr.add; simp
        rw [this] at a0
        rw [a0, e0]
    obtain ⟨l, hll, hq⟩ := list_of zD _ len key
    refine ⟨l, some a, cap, by rw [hll], by omega, hm, fun h0 => ?_⟩
    obtain ⟨b, off, spot⟩ := a
    have hspot : spot = none := by
      have := (hq 0 (by omega)).1
      simpa [Addr.add] using World.cell?_spot this
    subst hspot
    refine ⟨b, off, rfl, fun i hi' => ?_⟩
    obtain ⟨g0, vb, g1, g2, g3, g4, g5⟩ := hq i (by omega)
    rw [Addr.add_lit] at g0 g1 g2 g3
    rw [Addr.add_lit] at g1 g2 g3
    exact ⟨vb, g0, g1, g2, g3, g4, g5⟩
end
end Go.Proofs.Ytlkmpmhbidhfcaa
