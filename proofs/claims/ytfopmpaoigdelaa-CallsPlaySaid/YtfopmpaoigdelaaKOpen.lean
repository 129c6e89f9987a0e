/- What came in: calls, slices of latches, the things told of a set. -/
import Derived.Test.YtfopmpaoigdelaaLOpen
namespace Go.Proofs.Ytfopmpaoigdelaa
open Go.RowKit Go.ChangeShapes Go.WideShapes Go.Deep

section
variable {H : Type} {enc : TypeId × Value → H} {w : World} {base : Nat} {held : Bool}
/-- A call's cells. -/
theorem open_call {fuel : Nat} {cs : List Value} {x : DataW H × List MemPlace} (h : DataW.trod enc Try.prog w base (fun _ => true) held fuel 23 cs = some x) : ∃ f d : Int, cs = [.int .i64 f, .int .i64 d] := by
  obtain ⟨_, _, _, _, hlen, _⟩ := DataW.trod_struct Try.underlying23 h
  rw [show Try.prog.cellsOf 23 = 2 by kernel_rfl] at hlen
  obtain ⟨s0, u0, k0⟩ := fld Try.underlying23 h 0 _ rfl 0 1 3 rfl rfl (by kernel_rfl)
  obtain ⟨s1, u1, k1⟩ := fld Try.underlying23 h 1 _ rfl 1 1 3 rfl rfl (by kernel_rfl)
  match cs, hlen with
  | [c0, c1], _ =>
    obtain ⟨q0, e0, _⟩ := DataW.trod_int Try.underlying3 k0
    obtain ⟨q1, e1, _⟩ := DataW.trod_int Try.underlying3 k1
    simp at e0 e1
    subst e0 e1
    exact ⟨q0, q1, rfl⟩
theorem open_latchs {fuel : Nat} {c : Value} {x : DataW H × List MemPlace} (h : DataW.trod enc Try.prog w base (fun _ => true) held fuel 27 [c] = some x) : ∃ l, HLs w c l := by
  rcases open_slice Try.underlying27 h with ⟨hcs, _⟩ | ⟨a, len, cap, m, n, D, Pl, hcs, _, hl, hm, hmm, _, hi⟩
  · simp at hcs
    subst hcs
    exact ⟨[], none, 0, rfl, by simp, by decide, fun h => absurd h (by simp)⟩
  · simp at hcs
    subst hcs
    have hmc : m = cap := by simpa using hmm
    have hc3 : Try.prog.cellsOf 25 = 3 := by kernel_rfl
    have key : ∀ i, i < len → ∃ e : La, w.cell? (a.add (i * 3)) = some (.int .i64 e.f) ∧ w.cell? ((a.add (i * 3)).add 1) = some (.int .i64 e.d) ∧ w.cell? ((a.add (i * 3)).add 2) = some (.int .i64 e.g) := by
      intro i hi'
      obtain ⟨cs, hcells, ht⟩ := hi i (by omega)
      rw [hc3] at hcells
      obtain ⟨_, hlen, hat⟩ := World.cells?_some hcells
      obtain ⟨y, rfl⟩ := open_latch ht
      have a0 := hat 0 (by omega)
      have a1 := hat 1 (by omega)
      have a2 := hat 2 (by omega)
      simp [La.cl] at a0 a1 a2
      rw [add_zero] at a0
      exact ⟨y, a0, a1, a2⟩
    obtain ⟨l, hll, hq⟩ := list_of zLa _ len key
    refine ⟨l, some a, cap, by rw [hll], by omega, hm, fun h0 => ?_⟩
    obtain ⟨b, off, spot⟩ := a
    have hspot : spot = none := by
      have := (hq 0 (by omega)).1
      simpa [Addr.add] using World.cell?_spot this
    subst hspot
    refine ⟨b, off, rfl, fun i hi' => ?_⟩
    obtain ⟨g0, g1, g2⟩ := hq i (by omega)
    rw [Addr.add_lit] at g0 g1 g2
    rw [Addr.add_lit] at g1 g2
    exact ⟨g0, g1, g2⟩
/-- A thing told. -/
structure KD where
  k : Int
  x : La
  K : List La
def zKD : KD := ⟨0, zLa, []⟩
/-- The slice v holds the things told. -/
def HKDs (w : World) (v : Value) (l : List KD) : Prop :=
  ∃ a cap, v = .slice a l.length cap ∧ l.length ≤ cap ∧ cap ≤ maxLen ∧ (0 < l.length → ∃ b off, a = some ⟨b, off, none⟩ ∧ ∀ i, i < l.length → ∃ vb,
    w.cell? ⟨b, off + i * 5, none⟩ = some (.int .i64 (l.getD i zKD).k) ∧ w.cell? ⟨b, off + i * 5 + 1, none⟩ = some (.int .i64 (l.getD i zKD).x.f) ∧ w.cell? ⟨b, off + i * 5 + 2, none⟩ = some (.int .i64 (l.getD i zKD).x.d) ∧
    w.cell? ⟨b, off + i * 5 + 3, none⟩ = some (.int .i64 (l.getD i zKD).x.g) ∧ w.cell? ⟨b, off + i * 5 + 4, none⟩ = some vb ∧ HLs w vb (l.getD i zKD).K)
theorem open_do {fuel : Nat} {c : Value} {x : DataW H × List MemPlace} (h : DataW.trod enc Try.prog w base (fun _ => true) held fuel 39 [c] = some x) : ∃ l, HKDs w c l := by
  rcases open_slice Try.underlying39 h with ⟨hcs, _⟩ | ⟨a, len, cap, m, n, D, Pl, hcs, _, hl, hm, hmm, _, hi⟩
  · simp at hcs
    subst hcs
    exact ⟨[], none, 0, rfl, by simp, by decide, fun h => absurd h (by simp)⟩
  · simp at hcs
    subst hcs
    have hmc : m = cap := by simpa using hmm
    have hc5 : Try.prog.cellsOf 42 = 5 := by kernel_rfl
    have key : ∀ i, i < len → ∃ e : KD, w.cell? (a.add (i * 5)) = some (.int .i64 e.k) ∧ ∃ vb, w.cell? ((a.add (i * 5)).add 1) = some (.int .i64 e.x.f) ∧ w.cell? ((a.add (i * 5)).add 2) = some (.int .i64 e.x.d) ∧ w.cell? ((a.add (i * 5)).add 3) = some (.int .i64 e.x.g) ∧ w.cell? ((a.add (i * 5)).add 4) = some vb ∧ HLs w vb e.K := by
      intro i hi'
      obtain ⟨cs, hcells, ht⟩ := hi i (by omega)
      rw [hc5] at hcells
      obtain ⟨_, hlen, hat⟩ := World.cells?_some hcells
      obtain ⟨n0, y0, h0⟩ := fld Try.underlying42 ht 0 _ rfl 0 1 3 rfl rfl (by kernel_rfl)
      obtain ⟨n1, y1, h1⟩ := fld Try.underlying42 ht 1 _ rfl 1 3 25 rfl rfl (by kernel_rfl)
      obtain ⟨n2, y2, h2⟩ := fld Try.underlying42 ht 2 _ rfl 4 1 27 rfl rfl (by kernel_rfl)
      match cs, hlen with
      | [c0, c1, c2, c3, c4], _ =>
        obtain ⟨K, hK⟩ := open_latchs h2
        obtain ⟨y, hy⟩ := open_latch h1
        obtain ⟨q0, e0, _⟩ := DataW.trod_int Try.underlying3 h0
        simp [La.cl] at e0 hy
        obtain ⟨e1, e2, e3⟩ := hy
        have a0 := hat 0 (by omega)
        have a1 := hat 1 (by omega)
        have a2 := hat 2 (by omega)
        have a3 := hat 3 (by omega)
        have a4 := hat 4 (by omega)
        simp at a0 a1 a2 a3 a4
        rw [add_zero] at a0
        exact ⟨⟨q0, y, K⟩, by rw [a0, e0], c4, by rw [a1, e1], by rw [a2, e2], by rw [a3, e3], a4, hK⟩
    obtain ⟨l, hll, hq⟩ := list_of zKD _ len key
    refine ⟨l, some a, cap, by rw [hll], by omega, hm, fun h0 => ?_⟩
    obtain ⟨b, off, spot⟩ := a
    have hspot : spot = none := by
      have := (hq 0 (by omega)).1
      simpa [Addr.add] using World.cell?_spot this
    subst hspot
    refine ⟨b, off, rfl, fun i hi' => ?_⟩
    obtain ⟨g0, vb, g1, g2, g3, g4, g5⟩ := hq i (by omega)
    rw [Addr.add_lit] at g0 g1 g2 g3 g4
    rw [Addr.add_lit] at g1 g2 g3 g4
    exact ⟨vb, g0, g1, g2, g3, g4, g5⟩
end
end Go.Proofs.Ytfopmpaoigdelaa
