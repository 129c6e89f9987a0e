/- What came in: a car, slices of stops, of bools. -/
import Derived.Test.YtgcgbiaigbblkaaDoorCar
import Derived.Test.YtgcgbiaigbblkaaDoorPOpen
import Derived.Test.YtgcgbiaigbblkaaDoorAOpen
namespace Go.Proofs.YtgcgbiaigbblkaaDoor
open Go.RowKit Go.ChangeShapes Go.WideShapes Go.Deep

section
variable {H : Type} {enc : TypeId × Value → H} {w : World} {base : Nat} {held : Bool}
/-- A car's cells. -/
theorem open_car {fuel : Nat} {cs : List Value} {x : DataW H × List MemPlace} (h : DataW.trod enc Tryd.prog w base (fun _ => true) held fuel 30 cs = some x) :
    ∃ y : Ca, y.k ≤ 9223372036854775807 ∧ cs = [.int .i64 y.x.p, .int .i64 y.x.e, .int .i64 y.x.o, .bool y.x.r, .int .i64 y.k] := by
  obtain ⟨_, _, _, _, hlen, _⟩ := DataW.trod_struct Tryd.underlying30 h
  rw [show Tryd.prog.cellsOf 30 = 5 by kernel_rfl] at hlen
  obtain ⟨r0, z0, g0⟩ := hfld Tryd.underlying30 h 0 _ rfl 0 4 28 rfl rfl (by kernel_rfl)
  obtain ⟨r1, z1, g1⟩ := hfld Tryd.underlying30 h 1 _ rfl 4 1 3 rfl rfl (by kernel_rfl)
  obtain ⟨y, hy⟩ := open_state g0
  match cs, hlen with
  | [c0, c1, c2, c3, c4], _ =>
    obtain ⟨q, e, _, b⟩ := DataW.trod_int Tryd.underlying3 g1
    simp at e hy
    obtain ⟨rfl, rfl, rfl, rfl⟩ := hy
    subst e
    exact ⟨⟨y, q⟩, (bounds_i64 b).2, rfl⟩
end
/-- A slice of stops that came in. -/
def HSs (w : World) (v : Value) (l : List Sp) : Prop := (∀ s ∈ l, s.ok) ∧ ∃ a cap, v = .slice a l.length cap ∧ l.length ≤ cap ∧ cap ≤ maxLen ∧ (0 < l.length → ∃ b off, a = some ⟨b, off, none⟩ ∧
  ∀ i, i < l.length → w.cell? ⟨b, off + i * 3, none⟩ = some (.int .u64 (l.getD i ⟨0, 0, 0⟩).c) ∧ w.cell? ⟨b, off + i * 3 + 1, none⟩ = some (.int .u64 (l.getD i ⟨0, 0, 0⟩).u) ∧ w.cell? ⟨b, off + i * 3 + 2, none⟩ = some (.int .u64 (l.getD i ⟨0, 0, 0⟩).d))
section
variable {H : Type} {enc : TypeId × Value → H} {w : World} {base : Nat} {held : Bool}
theorem open_stopss {fuel : Nat} {c : Value} {x : DataW H × List MemPlace} (h : DataW.trod enc Tryd.prog w base (fun _ => true) held fuel 24 [c] = some x) : ∃ l, HSs w c l := by
  rcases open_slice Tryd.underlying24 h with ⟨hcs, _⟩ | ⟨a, len, cap, m, n, D, Pl, hcs, _, hl, hm, hmm, _, hi⟩
  · simp at hcs
    subst hcs
    exact ⟨[], by simp, none, 0, rfl, by simp, by decide, fun h => absurd h (by simp)⟩
  · simp at hcs
    subst hcs
    have hmc : m = cap := by simpa using hmm
    have hc3 : Tryd.prog.cellsOf 37 = 3 := by kernel_rfl
    have key : ∀ i, i < len → ∃ e : Sp, e.ok ∧ w.cell? (a.add (i * 3)) = some (.int .u64 e.c) ∧ w.cell? ((a.add (i * 3)).add 1) = some (.int .u64 e.u) ∧ w.cell? ((a.add (i * 3)).add 2) = some (.int .u64 e.d) := by
      intro i hi'
      obtain ⟨cs, hcells, ht⟩ := hi i (by omega)
      rw [hc3] at hcells
      obtain ⟨_, hlen, hat⟩ := World.cells?_some hcells
      obtain ⟨y, ok, rfl⟩ := open_stops ht
      have a0 := hat 0 (by omega)
      have a1 := hat 1 (by omega)
      have a2 := hat 2 (by omega)
      simp at a0 a1 a2
      rw [add_zero] at a0
      exact ⟨y, ok, a0, a1, a2⟩
    obtain ⟨l, hll, hq⟩ := list_of (⟨0, 0, 0⟩ : Sp) _ len key
    refine ⟨l, fun s hs => ?_, some a, cap, by rw [hll], by omega, hm, fun h0 => ?_⟩
    · obtain ⟨i, hi, rfl⟩ := List.mem_iff_getElem.1 hs
      have := (hq i (by omega)).1
      rwa [show l.getD i ⟨0, 0, 0⟩ = l[i] by simp [hi]] at this
    obtain ⟨b, off, spot⟩ := a
    have hspot : spot = none := by
      have := (hq 0 (by omega)).2.1
      simpa [Addr.add] using World.cell?_spot this
    subst hspot
    refine ⟨b, off, rfl, fun i hi' => ?_⟩
    obtain ⟨_, g0, g1, g2⟩ := hq i (by omega)
    rw [Addr.add_lit] at g0 g1 g2
    rw [Addr.add_lit] at g1 g2
    exact ⟨g0, g1, g2⟩
end
/-- A slice of bools that came in. -/
def HBs (w : World) (v : Value) (l : List Bool) : Prop := ∃ a cap, v = .slice a l.length cap ∧ l.length ≤ cap ∧ cap ≤ maxLen ∧ (0 < l.length → ∃ b off, a = some ⟨b, off, none⟩ ∧ ∀ i, i < l.length → w.cell? ⟨b, off + i, none⟩ = some (.bool (l.getD i false)))
section
variable {H : Type} {enc : TypeId × Value → H} {w : World} {base : Nat} {held : Bool}
theorem open_bools {fuel : Nat} {c : Value} {x : DataW H × List MemPlace} (h : DataW.trod enc Tryd.prog w base (fun _ => true) held fuel 49 [c] = some x) : ∃ l, HBs w c l := by
  rcases open_slice Tryd.underlying49 h with ⟨hcs, _⟩ | ⟨a, len, cap, m, n, D, Pl, hcs, _, hl, hm, hmm, _, hi⟩
  · simp at hcs
    subst hcs
    exact ⟨[], none, 0, rfl, by simp, by decide, fun h => absurd h (by simp)⟩
  · simp at hcs
    subst hcs
    have hmc : m = cap := by simpa using hmm
    have hc1 : Tryd.prog.cellsOf 4 = 1 := by kernel_rfl
    have key : ∀ i, i < len → ∃ e : Bool, w.cell? (a.add i) = some (.bool e) := by
      intro i hi'
      obtain ⟨cs, hcells, ht⟩ := hi i (by omega)
      rw [hc1] at hcells
      obtain ⟨_, hlen, hat⟩ := World.cells?_some hcells
      match cs, hlen with
      | [c0], _ =>
        obtain ⟨q, e, _⟩ := DataW.trod_bool Tryd.underlying4 ht
        simp at e
        subst e
        have a0 := hat 0 (by omega)
        simp at a0
        rw [add_zero] at a0
        exact ⟨q, a0⟩
    obtain ⟨l, hll, hq⟩ := list_of false _ len key
    refine ⟨l, some a, cap, by rw [hll], by omega, hm, fun h0 => ?_⟩
    obtain ⟨b, off, spot⟩ := a
    have hspot : spot = none := by
      have := hq 0 (by omega)
      simpa [Addr.add] using World.cell?_spot this
    subst hspot
    refine ⟨b, off, rfl, fun i hi' => ?_⟩
    have g0 := hq i (by omega)
    rwa [Addr.add_lit] at g0
end
end Go.Proofs.YtgcgbiaigbblkaaDoor
