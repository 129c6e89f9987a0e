/- What came in: rings. -/
import Derived.Test.YtldheaamcnmlgaaLOpen
import Derived.Test.YtldheaamcnmlgaaBOpen
import Derived.Test.YtldheaamcnmlgaaInts
import Derived.Test.YtldheaamcnmlgaaGLb
namespace Go.Proofs.Ytldheaamcnmlgaa
open Go.RowKit Go.ChangeShapes Go.WideShapes Go.Deep Fm

section
variable {H : Type} {enc : TypeId × Value → H} {w : World} {base : Nat} {held : Bool}
theorem open_nums {fuel : Nat} {c : Value} {x : DataW H × List MemPlace} (h : DataW.trod enc Try.prog w base (fun _ => true) held fuel 24 [c] = some x) : ∃ l, Holds .i64 w c l := by
  have key : ∃ (a : Option Addr) (len cap : Nat) (zs : List Int), c = .slice a len cap ∧ ((a = none ∧ len = 0 ∧ cap = 0 ∧ zs = []) ∨ ∃ x, a = some x ∧ len ≤ cap ∧ cap ≤ maxLen ∧ zs.length = cap ∧ (∀ i, i < zs.length → w.cell? (x.add i) = some (.int .i64 (zs.getD i 0))) ∧ ∀ n ∈ zs, (Lit.int .i64 n).wf = true) := by
    rcases open_ints Try.underlying24 Try.underlying3 (by kernel_rfl) h with ⟨hcs, _⟩ | ⟨x, l, c', zs, hcs, _, hl, hm, hz, _, hcell, hwz⟩
    · simp at hcs
      exact ⟨none, 0, 0, [], hcs, .inl ⟨rfl, rfl, rfl, rfl⟩⟩
    · simp at hcs
      exact ⟨some x, l, c', zs, hcs, .inr ⟨x, rfl, hl, hm, by simpa using hz, hcell, hwz⟩⟩
  obtain ⟨a, len, cap, zs, rfl, hw⟩ := key
  exact ⟨_, (holds_of_ints hw).1⟩

set_option maxRecDepth 100000 in
theorem open_entries {fuel : Nat} {c : Value} {x : DataW H × List MemPlace} (h : DataW.trod enc Try.prog w base (fun _ => true) held fuel 25 [c] = some x) : ∃ l, HE w c l := by
  rcases open_slice Try.underlying25 h with ⟨hcs, _⟩ | ⟨a, len, cap, m, n, D, Pl, hcs, _, hl, hm, hmm, _, hi⟩
  · simp at hcs
    subst hcs
    exact ⟨[], nil_ents⟩
  · simp at hcs
    subst hcs
    have hmc : m = cap := by simpa using hmm
    have hc5 : Try.prog.cellsOf 40 = 5 := by kernel_rfl
    have key : ∀ i, i < len → ∃ e : En, w.cell? (a.add (i * 5)) = some (.int .i64 e.fl) ∧ ∃ vb, w.cell? ((a.add (i * 5)).add 1) = some (.int .i64 e.di) ∧ w.cell? ((a.add (i * 5)).add 2) = some (.int .i64 e.ge) ∧ w.cell? ((a.add (i * 5)).add 3) = some vb ∧ w.cell? ((a.add (i * 5)).add 4) = some (.int .i64 e.aw) ∧ HB w vb e.bs := by
      intro i hi'
      obtain ⟨cs, hcells, ht⟩ := hi i (by omega)
      rw [hc5] at hcells
      obtain ⟨_, hlen, hat⟩ := World.cells?_some hcells
      obtain ⟨n0, y0, h0⟩ := fld Try.underlying40 ht 0 _ rfl 0 3 37 rfl rfl (by kernel_rfl)
      obtain ⟨n1, y1, h1⟩ := fld Try.underlying40 ht 1 _ rfl 3 1 38 rfl rfl (by kernel_rfl)
      obtain ⟨n2, y2, h2⟩ := fld Try.underlying40 ht 2 _ rfl 4 1 3 rfl rfl (by kernel_rfl)
      obtain ⟨n3, y3, h3⟩ := fld Try.underlying37 h0 0 _ rfl 0 2 35 rfl rfl (by kernel_rfl)
      obtain ⟨n4, y4, h4⟩ := fld Try.underlying37 h0 1 _ rfl 2 1 3 rfl rfl (by kernel_rfl)
      obtain ⟨n5, y5, h5⟩ := fld Try.underlying35 h3 0 _ rfl 0 1 3 rfl rfl (by kernel_rfl)
      obtain ⟨n6, y6, h6⟩ := fld Try.underlying35 h3 1 _ rfl 1 1 3 rfl rfl (by kernel_rfl)
      match cs, hlen with
      | [c0, c1, c2, c3, c4], _ =>
        obtain ⟨bs, hb⟩ := open_bids h1
        obtain ⟨q0, e0, _⟩ := DataW.trod_int Try.underlying3 h5
        obtain ⟨q1, e1, _⟩ := DataW.trod_int Try.underlying3 h6
        obtain ⟨q2, e2, _⟩ := DataW.trod_int Try.underlying3 h4
        obtain ⟨q4, e4, _⟩ := DataW.trod_int Try.underlying3 h2
        simp at e0 e1 e2 e4
        have a0 := hat 0 (by omega)
        have a1 := hat 1 (by omega)
        have a2 := hat 2 (by omega)
        have a3 := hat 3 (by omega)
        have a4 := hat 4 (by omega)
        simp at a0 a1 a2 a3 a4
        refine ⟨⟨q0, q1, q2, bs, q4⟩, ?_, c3, by rw [a1, e1], by rw [a2, e2], a3, by rw [a4, e4], hb⟩
        have : (a.add (i * 5)).add 0 = a.add (i * 5) := by unfold Addr.add; simp
        rw [this] at a0
        rw [a0, e0]
    obtain ⟨l, hll, hq⟩ := list_of zeroE _ len key
    refine ⟨l, some a, cap, by rw [hll], ⟨by omega, by simp⟩, hm, fun h0 => ?_⟩
    obtain ⟨b, off, spot⟩ := a
    have hspot : spot = none := by
      have := (hq 0 (by omega)).1
      simpa [Addr.add] using World.cell?_spot this
    subst hspot
    refine ⟨b, off, rfl, fun i hi' => ?_⟩
    obtain ⟨g0, vb, g1, g2, g3, g4, g5⟩ := hq i (by omega)
    rw [Addr.add_lit] at g0 g1 g2 g3 g4
    rw [Addr.add_lit] at g1 g2 g3 g4
    exact ⟨vb, g0, g1, g2, g3, g4, g5⟩

set_option maxRecDepth 100000 in
theorem open_ring {fuel : Nat} {cs : List Value} {x : DataW H × List MemPlace} (h : DataW.trod enc Try.prog w base (fun _ => true) held fuel 27 cs = some x) :
    ∃ (r : Rg) (vm ve : Value), cs = [.int .i64 r.co, .int .i64 r.fo, .int .i64 r.ho, vm, ve] ∧ HInts w vm r.ms ∧ HE w ve r.es ∧ (-9223372036854775808 ≤ r.ho ∧ r.ho ≤ 9223372036854775807) := by
  obtain ⟨_, _, _, _, hlen, _⟩ := DataW.trod_struct Try.underlying27 h
  rw [show Try.prog.cellsOf 27 = 5 by kernel_rfl] at hlen
  obtain ⟨r0, z0, g0⟩ := fld Try.underlying27 h 0 _ rfl 0 2 23 rfl rfl (by kernel_rfl)
  obtain ⟨r1, z1, g1⟩ := fld Try.underlying27 h 1 _ rfl 2 1 2 rfl rfl (by kernel_rfl)
  obtain ⟨r2, z2, g2⟩ := fld Try.underlying27 h 2 _ rfl 3 1 24 rfl rfl (by kernel_rfl)
  obtain ⟨r3, z3, g3⟩ := fld Try.underlying27 h 3 _ rfl 4 1 25 rfl rfl (by kernel_rfl)
  obtain ⟨s0, u0, k0⟩ := fld Try.underlying23 g0 0 _ rfl 0 1 2 rfl rfl (by kernel_rfl)
  obtain ⟨s1, u1, k1⟩ := fld Try.underlying23 g0 1 _ rfl 1 1 3 rfl rfl (by kernel_rfl)
  match cs, hlen with
  | [c0, c1, c2, c3, c4], _ =>
    obtain ⟨ms, hm⟩ := open_nums g2
    obtain ⟨es, he⟩ := open_entries g3
    obtain ⟨q6, e6, _⟩ := DataW.trod_int Try.underlying2 k0
    obtain ⟨q7, e7, _⟩ := DataW.trod_int Try.underlying3 k1
    obtain ⟨q8, e8, _, hw⟩ := DataW.trod_int Try.underlying2 g1
    simp at e6 e7 e8
    subst e6 e7 e8
    exact ⟨⟨q6, q7, q8, ms, es⟩, c3, c4, rfl, hm, he, bounds_i64 hw⟩
end
end Go.Proofs.Ytldheaamcnmlgaa
