/- What came in: stops, calls, slices of latches. -/
import Derived.Test.YtgcgbiaigbblkaaDoorLOpen
import Derived.Test.YtgcgbiaigbblkaaDoorAhd
namespace Go.Proofs.YtgcgbiaigbblkaaDoor
open Go.RowKit Go.ChangeShapes Go.WideShapes Go.Deep

section
variable {H : Type} {enc : TypeId × Value → H} {w : World} {base : Nat} {held : Bool}
/-- The cells of stops. -/
theorem open_stops {fuel : Nat} {cs : List Value} {x : DataW H × List MemPlace} (h : DataW.trod enc Tryd.prog w base (fun _ => true) held fuel 37 cs = some x) : ∃ s : Sp, s.ok ∧ cs = [.int .u64 s.c, .int .u64 s.u, .int .u64 s.d] := by
  obtain ⟨_, _, _, _, hlen, _⟩ := DataW.trod_struct Tryd.underlying37 h
  rw [show Tryd.prog.cellsOf 37 = 3 by kernel_rfl] at hlen
  obtain ⟨r0, z0, g0⟩ := fld Tryd.underlying37 h 0 _ rfl 0 1 35 rfl rfl (by kernel_rfl)
  obtain ⟨r1, z1, g1⟩ := fld Tryd.underlying37 h 1 _ rfl 1 1 35 rfl rfl (by kernel_rfl)
  obtain ⟨r2, z2, g2⟩ := fld Tryd.underlying37 h 2 _ rfl 2 1 35 rfl rfl (by kernel_rfl)
  match cs, hlen with
  | [c0, c1, c2], _ =>
    obtain ⟨q0, e0, _, w0⟩ := DataW.trod_int Tryd.underlying35 g0
    obtain ⟨q1, e1, _, w1⟩ := DataW.trod_int Tryd.underlying35 g1
    obtain ⟨q2, e2, _, w2⟩ := DataW.trod_int Tryd.underlying35 g2
    simp at e0 e1 e2
    subst e0 e1 e2
    have b0 := bounds_u64 w0
    have b1 := bounds_u64 w1
    have b2 := bounds_u64 w2
    refine ⟨⟨q0.toNat, q1.toNat, q2.toNat⟩, ⟨?_, ?_, ?_⟩, ?_⟩
    · show q0.toNat < _; omega
    · show q1.toNat < _; omega
    · show q2.toNat < _; omega
    · rw [Int.toNat_of_nonneg b0.1, Int.toNat_of_nonneg b1.1, Int.toNat_of_nonneg b2.1]
/-- A call's cells. -/
theorem open_call {fuel : Nat} {cs : List Value} {x : DataW H × List MemPlace} (h : DataW.trod enc Tryd.prog w base (fun _ => true) held fuel 62 cs = some x) : ∃ f d : Int, cs = [.int .i64 f, .int .i64 d] := by
  obtain ⟨_, _, _, _, hlen, _⟩ := DataW.trod_struct Tryd.underlying62 h
  rw [show Tryd.prog.cellsOf 62 = 2 by kernel_rfl] at hlen
  obtain ⟨s0, u0, k0⟩ := fld Tryd.underlying62 h 0 _ rfl 0 1 3 rfl rfl (by kernel_rfl)
  obtain ⟨s1, u1, k1⟩ := fld Tryd.underlying62 h 1 _ rfl 1 1 3 rfl rfl (by kernel_rfl)
  match cs, hlen with
  | [c0, c1], _ =>
    obtain ⟨q0, e0, _⟩ := DataW.trod_int Tryd.underlying3 k0
    obtain ⟨q1, e1, _⟩ := DataW.trod_int Tryd.underlying3 k1
    simp at e0 e1
    subst e0 e1
    exact ⟨q0, q1, rfl⟩
theorem open_latchs {fuel : Nat} {c : Value} {x : DataW H × List MemPlace} (h : DataW.trod enc Tryd.prog w base (fun _ => true) held fuel 78 [c] = some x) : ∃ l, HLs w c l := by
  rcases open_slice Tryd.underlying78 h with ⟨hcs, _⟩ | ⟨a, len, cap, m, n, D, Pl, hcs, _, hl, hm, hmm, _, hi⟩
  · simp at hcs
    subst hcs
    exact ⟨[], none, 0, rfl, by simp, by decide, fun h => absurd h (by simp)⟩
  · simp at hcs
    subst hcs
    have hmc : m = cap := by simpa using hmm
    have hc3 : Tryd.prog.cellsOf 80 = 3 := by kernel_rfl
    have key : ∀ i, i < len → ∃ e : La, w.cell? (a.add (i * 3)) = some (.int .i64 e.f) ∧ w.cell? ((a.add (i * 3)).add 1) = some (.int .i64 e.d) ∧ w.cell? ((a.add (i * 3)).add 2) = some (.int .i64 e.g) := by
      intro i hi'
      obtain ⟨cs, hcells, ht⟩ := hi i (by omega)
      rw [hc3] at hcells
      obtain ⟨_, hlen, hat⟩ := World.cells?_some hcells
      obtain ⟨y, rfl⟩ := open_latch ht
      have a0 := hat 0 (by omega)
      have a1 := hat 1 (by omega)
      have a2 := hat 2 (by omega)
      simp [La.cl] at a0 a1 a2
      rw [add_zero] at a0
      exact ⟨y, a0, a1, a2⟩
    obtain ⟨l, hll, hq⟩ := list_of zLa _ len key
    refine ⟨l, some a, cap, by rw [hll], by omega, hm, fun h0 => ?_⟩
    obtain ⟨b, off, spot⟩ := a
    have hspot : spot = none := by
      have := (hq 0 (by omega)).1
      simpa [Addr.add] using World.cell?_spot this
    subst hspot
    refine ⟨b, off, rfl, fun i hi' => ?_⟩
    obtain ⟨g0, g1, g2⟩ := hq i (by omega)
    rw [Addr.add_lit] at g0 g1 g2
    rw [Addr.add_lit] at g1 g2
    exact ⟨g0, g1, g2⟩
end
end Go.Proofs.YtgcgbiaigbblkaaDoor
