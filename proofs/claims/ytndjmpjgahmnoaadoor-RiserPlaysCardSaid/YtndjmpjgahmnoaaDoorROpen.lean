/- The things told that came in (of a riser), a latch by value: what they hold. -/
import Derived.Test.YtndjmpjgahmnoaaDoorRis
import Derived.ProofKit
import Derived.OpenShut
import Derived.Deep.Slices
import Derived.Deep.Fields
import Derived.ChangeSame
namespace Go.Proofs.YtndjmpjgahmnoaaDoor
open Go.RowKit Go.ChangeShapes Go.WideShapes Go.Deep

section
variable {H : Type} {enc : TypeId × Value → H} {w : World} {base : Nat} {held : Bool}
theorem fld {P : Program} {spare : Nat → Bool} {fuel : Nat} {t : TypeId} {fs : Array Field} {cs : List Value} {x : DataW H × List MemPlace} (ht : P.underlying t = some (.struct fs)) (h : DataW.trod enc P w base spare held fuel t cs = some x) (i : Nat) (f : Field) (hi : fs[i]? = some f) (o k : Nat) (T : TypeId) (hT : f.type = T) (ho : f.offset = o) (hk : P.cellsOf T = k) :
    ∃ n y, DataW.trod enc P w base spare held n T ((cs.drop o).take k) = some y := by
  obtain ⟨xs, n, _, _, _, hl, hf⟩ := DataW.trod_struct ht h
  have h1 := hf i f hi
  have hlt : i < xs.length := by rw [hl]; exact (Array.getElem?_eq_some_iff.1 hi).1
  rw [List.getElem?_eq_getElem hlt] at h1
  subst hT ho hk
  exact ⟨n, _, h1⟩
theorem list_of {α : Type} (d : α) (Q : Nat → α → Prop) : ∀ n, (∀ i, i < n → ∃ a, Q i a) → ∃ l : List α, l.length = n ∧ ∀ i, i < n → Q i (l.getD i d)
  | 0, _ => ⟨[], rfl, fun i hi => by omega⟩
  | n + 1, h => by
    obtain ⟨l, hl, hq⟩ := list_of d Q n (fun i hi => h i (by omega))
    obtain ⟨a, ha⟩ := h n (by omega)
    refine ⟨l ++ [a], by simp [hl], fun i hi => ?_⟩
    by_cases e : i = n
    · subst e
      have : (l ++ [a]).getD i d = a := by simp [List.getD, ← hl]
      rw [this]; exact ha
    · have : (l ++ [a]).getD i d = l.getD i d := by simp [List.getD, List.getElem?_append_left (show i < l.length by omega)]
      rw [this]; exact hq i (by omega)
theorem add_zero (a : Addr) : a.add 0 = a := by unfold Addr.add; simp
/-- A latch's cells. -/
theorem open_latch {fuel : Nat} {cs : List Value} {x : DataW H × List MemPlace} (h : DataW.trod enc Tryd.prog w base (fun _ => true) held fuel 32 cs = some x) : ∃ y : La, cs = y.cl := by
  obtain ⟨_, _, _, _, hlen, _⟩ := DataW.trod_struct Tryd.underlying32 h
  rw [show Tryd.prog.cellsOf 32 = 3 by kernel_rfl] at hlen
  obtain ⟨r0, z0, g0⟩ := fld Tryd.underlying32 h 0 _ rfl 0 2 24 rfl rfl (by kernel_rfl)
  obtain ⟨r1, z1, g1⟩ := fld Tryd.underlying32 h 1 _ rfl 2 1 3 rfl rfl (by kernel_rfl)
  obtain ⟨s0, u0, k0⟩ := fld Tryd.underlying24 g0 0 _ rfl 0 1 3 rfl rfl (by kernel_rfl)
  obtain ⟨s1, u1, k1⟩ := fld Tryd.underlying24 g0 1 _ rfl 1 1 3 rfl rfl (by kernel_rfl)
  match cs, hlen with
  | [c0, c1, c2], _ =>
    obtain ⟨q0, e0, _⟩ := DataW.trod_int Tryd.underlying3 k0
    obtain ⟨q1, e1, _⟩ := DataW.trod_int Tryd.underlying3 k1
    obtain ⟨q2, e2, _⟩ := DataW.trod_int Tryd.underlying3 g1
    simp at e0 e1 e2
    subst e0 e1 e2
    exact ⟨⟨q0, q1, q2⟩, rfl⟩
/-- A thing told. -/
structure DV where
  k : Int
  x : La
def zDV : DV := ⟨0, zLa⟩
/-- The slice v holds the things told. -/
def HDs (w : World) (v : Value) (l : List DV) : Prop :=
  ∃ a cap, v = .slice a l.length cap ∧ l.length ≤ cap ∧ cap ≤ maxLen ∧ (0 < l.length → ∃ b off, a = some ⟨b, off, none⟩ ∧ ∀ i, i < l.length →
    w.cell? ⟨b, off + i * 4, none⟩ = some (.int .i64 (l.getD i zDV).k) ∧ w.cell? ⟨b, off + i * 4 + 1, none⟩ = some (.int .i64 (l.getD i zDV).x.f) ∧ w.cell? ⟨b, off + i * 4 + 2, none⟩ = some (.int .i64 (l.getD i zDV).x.d) ∧ w.cell? ⟨b, off + i * 4 + 3, none⟩ = some (.int .i64 (l.getD i zDV).x.g))
theorem open_do {fuel : Nat} {c : Value} {x : DataW H × List MemPlace} (h : DataW.trod enc Tryd.prog w base (fun _ => true) held fuel 22 [c] = some x) : ∃ l, HDs w c l := by
  rcases open_slice Tryd.underlying22 h with ⟨hcs, _⟩ | ⟨a, len, cap, m, n, D, Pl, hcs, _, hl, hm, hmm, _, hi⟩
  · simp at hcs
    subst hcs
    exact ⟨[], none, 0, rfl, by simp, by decide, fun h => absurd h (by simp)⟩
  · simp at hcs
    subst hcs
    have hmc : m = cap := by simpa using hmm
    have hc4 : Tryd.prog.cellsOf 37 = 4 := by kernel_rfl
    have key : ∀ i, i < len → ∃ e : DV, w.cell? (a.add (i * 4)) = some (.int .i64 e.k) ∧ w.cell? ((a.add (i * 4)).add 1) = some (.int .i64 e.x.f) ∧ w.cell? ((a.add (i * 4)).add 2) = some (.int .i64 e.x.d) ∧ w.cell? ((a.add (i * 4)).add 3) = some (.int .i64 e.x.g) := by
      intro i hi'
      obtain ⟨cs, hcells, ht⟩ := hi i (by omega)
      rw [hc4] at hcells
      obtain ⟨_, hlen, hat⟩ := World.cells?_some hcells
      obtain ⟨n0, y0, h0⟩ := fld Tryd.underlying37 ht 0 _ rfl 0 1 3 rfl rfl (by kernel_rfl)
      obtain ⟨n1, y1, h1⟩ := fld Tryd.underlying37 ht 1 _ rfl 1 3 32 rfl rfl (by kernel_rfl)
      match cs, hlen with
      | [c0, c1, c2, c3], _ =>
        obtain ⟨y, hy⟩ := open_latch h1
        obtain ⟨q0, e0, _⟩ := DataW.trod_int Tryd.underlying3 h0
        simp at e0
        simp [La.cl] at hy
        obtain ⟨rfl, rfl, rfl⟩ := hy
        subst e0
        have a0 := hat 0 (by omega)
        have a1 := hat 1 (by omega)
        have a2 := hat 2 (by omega)
        have a3 := hat 3 (by omega)
        simp only [List.getElem?_cons_zero, List.getElem?_cons_succ] at a0 a1 a2 a3
        rw [add_zero] at a0
        exact ⟨⟨q0, y⟩, a0, a1, a2, a3⟩
    obtain ⟨l, hll, hq⟩ := list_of zDV _ len key
    refine ⟨l, some a, cap, by rw [hll], by omega, hm, fun h0 => ?_⟩
    obtain ⟨b, off, spot⟩ := a
    have hspot : spot = none := by
      have := (hq 0 (by omega)).1
      simpa [Addr.add] using World.cell?_spot this
    subst hspot
    refine ⟨b, off, rfl, fun i hi' => ?_⟩
    obtain ⟨g0, g1, g2, g3⟩ := hq i (by omega)
    rw [Addr.add_lit] at g0 g1 g2 g3
    rw [Addr.add_lit] at g1 g2 g3
    exact ⟨g0, g1, g2, g3⟩
end
end Go.Proofs.YtndjmpjgahmnoaaDoor
