/- What came in: bids, slices of them. -/
import Derived.Test.YtldheaamcnmlgaaLOpen
import Derived.Test.YtldheaamcnmlgaaGLa
namespace Go.Proofs.Ytldheaamcnmlgaa
open Go.RowKit Go.ChangeShapes Go.WideShapes Go.Deep

section
variable {H : Type} {enc : TypeId × Value → H} {w : World} {base : Nat} {held : Bool}
set_option maxRecDepth 100000 in
/-- A bid's cells. -/
theorem open_bid {fuel : Nat} {cs : List Value} {x : DataW H × List MemPlace} (h : DataW.trod enc Try.prog w base (fun _ => true) held fuel 42 cs = some x) : ∃ f d : Int, cs = [.int .i64 f, .int .i64 d] := by
  obtain ⟨_, _, _, _, hlen, _⟩ := DataW.trod_struct Try.underlying42 h
  rw [show Try.prog.cellsOf 42 = 2 by kernel_rfl] at hlen
  obtain ⟨s0, u0, k0⟩ := fld Try.underlying42 h 0 _ rfl 0 1 3 rfl rfl (by kernel_rfl)
  obtain ⟨s1, u1, k1⟩ := fld Try.underlying42 h 1 _ rfl 1 1 3 rfl rfl (by kernel_rfl)
  match cs, hlen with
  | [c0, c1], _ =>
    obtain ⟨q0, e0, _⟩ := DataW.trod_int Try.underlying3 k0
    obtain ⟨q1, e1, _⟩ := DataW.trod_int Try.underlying3 k1
    simp at e0 e1
    subst e0 e1
    exact ⟨q0, q1, rfl⟩
set_option maxRecDepth 100000 in
theorem open_bids {fuel : Nat} {c : Value} {x : DataW H × List MemPlace} (h : DataW.trod enc Try.prog w base (fun _ => true) held fuel 38 [c] = some x) : ∃ l, HB w c l := by
  rcases open_slice Try.underlying38 h with ⟨hcs, _⟩ | ⟨a, len, cap, m, n, D, Pl, hcs, _, hl, hm, hmm, _, hi⟩
  · simp at hcs
    subst hcs
    exact ⟨[], none, 0, rfl, by simp, by decide, fun h => absurd h (by simp)⟩
  · simp at hcs
    subst hcs
    have hmc : m = cap := by simpa using hmm
    have hc3 : Try.prog.cellsOf 42 = 2 := by kernel_rfl
    have key : ∀ i, i < len → ∃ e : Int × Int, w.cell? (a.add (i * 2)) = some (.int .i64 e.1) ∧ w.cell? ((a.add (i * 2)).add 1) = some (.int .i64 e.2) := by
      intro i hi'
      obtain ⟨cs, hcells, ht⟩ := hi i (by omega)
      rw [hc3] at hcells
      obtain ⟨_, hlen, hat⟩ := World.cells?_some hcells
      obtain ⟨y, z, rfl⟩ := open_bid ht
      have a0 := hat 0 (by omega)
      have a1 := hat 1 (by omega)
      simp at a0 a1
      rw [add_zero] at a0
      exact ⟨(y, z), a0, a1⟩
    obtain ⟨l, hll, hq⟩ := list_of ((0, 0) : Int × Int) _ len key
    refine ⟨l, some a, cap, by rw [hll], ⟨by omega, by simp⟩, hm, fun h0 => ?_⟩
    obtain ⟨b, off, spot⟩ := a
    have hspot : spot = none := by
      have := (hq 0 (by omega)).1
      simpa [Addr.add] using World.cell?_spot this
    subst hspot
    refine ⟨b, off, rfl, fun i hi' => ?_⟩
    obtain ⟨g0, g1⟩ := hq i (by omega)
    rw [Addr.add_lit] at g0 g1
    rw [Addr.add_lit] at g1
    exact ⟨g0, g1⟩
end
end Go.Proofs.Ytldheaamcnmlgaa
