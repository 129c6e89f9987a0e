/- A frame that came in: what it holds. -/
import Derived.Test.YtpeocdcciecpoaaDoorFHold
import Derived.Test.YtpeocdcciecpoaaDoorInts
import Derived.Test.YtpeocdcciecpoaaDoorOpen
namespace Go.Proofs.YtpeocdcciecpoaaDoor
open Go.RowKit Go.ChangeShapes Go.WideShapes Go.Deep Fm

section
variable {H : Type} {enc : TypeId × Value → H} {w : World} {base : Nat} {held : Bool}
theorem fld {P : Program} {spare : Nat → Bool} {fuel : Nat} {t : TypeId} {fs : Array Field} {cs : List Value} {x : DataW H × List MemPlace} (ht : P.underlying t = some (.struct fs)) (h : DataW.trod enc P w base spare held fuel t cs = some x) (i : Nat) (f : Field) (hi : fs[i]? = some f) (o k : Nat) (T : TypeId) (hT : f.type = T) (ho : f.offset = o) (hk : P.cellsOf T = k) :
    ∃ n y, DataW.trod enc P w base spare held n T ((cs.drop o).take k) = some y := by
  obtain ⟨xs, n, _, _, _, hl, hf⟩ := DataW.trod_struct ht h
  have h1 := hf i f hi
  have hlt : i < xs.length := by rw [hl]; exact (Array.getElem?_eq_some_iff.1 hi).1
  rw [List.getElem?_eq_getElem hlt] at h1
  subst hT ho hk
  exact ⟨n, _, h1⟩
theorem list_of {α : Type} (d : α) (Q : Nat → α → Prop) : ∀ n, (∀ i, i < n → ∃ a, Q i a) → ∃ l : List α, l.length = n ∧ ∀ i, i < n → Q i (l.getD i d)
  | 0, _ => ⟨[], rfl, fun i hi => by omega⟩
  | n + 1, h => by
    obtain ⟨l, hl, hq⟩ := list_of d Q n (fun i hi => h i (by omega))
    obtain ⟨a, ha⟩ := h n (by omega)
    refine ⟨l ++ [a], by simp [hl], fun i hi => ?_⟩
    by_cases e : i = n
    · subst e
      have : (l ++ [a]).getD i d = a := by simp [List.getD, ← hl]
      rw [this]; exact ha
    · have : (l ++ [a]).getD i d = l.getD i d := by simp [List.getD, List.getElem?_append_left (show i < l.length by omega)]
      rw [this]; exact hq i (by omega)

theorem open_nums {fuel : Nat} {c : Value} {x : DataW H × List MemPlace} (h : DataW.trod enc Tryd.prog w base (fun _ => true) held fuel 24 [c] = some x) : ∃ l, Holds .i64 w c l := by
  have key : ∃ (a : Option Addr) (len cap : Nat) (zs : List Int), c = .slice a len cap ∧ ((a = none ∧ len = 0 ∧ cap = 0 ∧ zs = []) ∨ ∃ x, a = some x ∧ len ≤ cap ∧ cap ≤ maxLen ∧ zs.length = cap ∧ (∀ i, i < zs.length → w.cell? (x.add i) = some (.int .i64 (zs.getD i 0))) ∧ ∀ n ∈ zs, (Lit.int .i64 n).wf = true) := by
    rcases open_ints Tryd.underlying24 Tryd.underlying3 (by kernel_rfl) h with ⟨hcs, _⟩ | ⟨x, l, c', zs, hcs, _, hl, hm, hz, _, hcell, hwz⟩
    · simp at hcs
      exact ⟨none, 0, 0, [], hcs, .inl ⟨rfl, rfl, rfl, rfl⟩⟩
    · simp at hcs
      exact ⟨some x, l, c', zs, hcs, .inr ⟨x, rfl, hl, hm, by simpa using hz, hcell, hwz⟩⟩
  obtain ⟨a, len, cap, zs, rfl, hw⟩ := key
  exact ⟨_, (holds_of_ints hw).1⟩

theorem open_bids {fuel : Nat} {c : Value} {x : DataW H × List MemPlace} (h : DataW.trod enc Tryd.prog w base (fun _ => true) held fuel 59 [c] = some x) : ∃ l, HB w c l := by
  rcases open_slice Tryd.underlying59 h with ⟨hcs, _⟩ | ⟨a, len, cap, m, n, D, Pl, hcs, _, hl, hm, hmm, _, hi⟩
  · simp at hcs
    subst hcs
    exact ⟨[], nil_bids⟩
  · simp at hcs
    subst hcs
    have hmc : m = cap := by simpa using hmm
    have hc2 : Tryd.prog.cellsOf 63 = 2 := by kernel_rfl
    have key : ∀ i, i < len → ∃ b : Int × Int, w.cell? (a.add (i * 2)) = some (.int .i64 b.1) ∧ w.cell? ((a.add (i * 2)).add 1) = some (.int .i64 b.2) := by
      intro i hi'
      obtain ⟨cs, hcells, ht⟩ := hi i (by omega)
      rw [hc2] at hcells
      obtain ⟨_, hlen, hat⟩ := World.cells?_some hcells
      obtain ⟨n0, y0, h0⟩ := fld Tryd.underlying63 ht 0 _ rfl 0 1 3 rfl rfl (by kernel_rfl)
      obtain ⟨n1, y1, h1⟩ := fld Tryd.underlying63 ht 1 _ rfl 1 1 3 rfl rfl (by kernel_rfl)
      match cs, hlen with
      | [c0, c1], _ =>
        obtain ⟨q0, e0, _⟩ := DataW.trod_int Tryd.underlying3 h0
        obtain ⟨q1, e1, _⟩ := DataW.trod_int Tryd.underlying3 h1
        simp at e0 e1
        have a0 := hat 0 (by omega)
        have a1 := hat 1 (by omega)
        simp at a0 a1
        refine ⟨(q0, q1), ?_, ?_⟩
        · have : (a.add (i * 2)).add 0 = a.add (i * 2) := by unfold Addr.add; simp
          rw [this] at a0
          rw [a0, e0]
        · rw [a1, e1]
    obtain ⟨l, hll, hq⟩ := list_of (0, 0) _ len key
    refine ⟨l, some a, cap, by rw [hll], by omega, hm, fun h0 => ?_⟩
    obtain ⟨b, off, spot⟩ := a
    have hspot : spot = none := by
      have := (hq 0 (by omega)).1
      simpa [Addr.add] using World.cell?_spot this
    subst hspot
    refine ⟨b, off, rfl, fun i hi' => ?_⟩
    have := hq i (by omega)
    rw [Addr.add_lit, Addr.add_lit] at this
    exact this

theorem open_entries {fuel : Nat} {c : Value} {x : DataW H × List MemPlace} (h : DataW.trod enc Tryd.prog w base (fun _ => true) held fuel 25 [c] = some x) : ∃ l, HE w c l := by
  rcases open_slice Tryd.underlying25 h with ⟨hcs, _⟩ | ⟨a, len, cap, m, n, D, Pl, hcs, _, hl, hm, hmm, _, hi⟩
  · simp at hcs
    subst hcs
    exact ⟨[], nil_ents⟩
  · simp at hcs
    subst hcs
    have hmc : m = cap := by simpa using hmm
    have hc5 : Tryd.prog.cellsOf 61 = 5 := by kernel_rfl
    have key : ∀ i, i < len → ∃ e : En, w.cell? (a.add (i * 5)) = some (.int .i64 e.fl) ∧ ∃ vb, w.cell? ((a.add (i * 5)).add 1) = some (.int .i64 e.di) ∧ w.cell? ((a.add (i * 5)).add 2) = some (.int .i64 e.ge) ∧ w.cell? ((a.add (i * 5)).add 3) = some vb ∧ w.cell? ((a.add (i * 5)).add 4) = some (.int .i64 e.aw) ∧ HB w vb e.bs := by
      intro i hi'
      obtain ⟨cs, hcells, ht⟩ := hi i (by omega)
      rw [hc5] at hcells
      obtain ⟨_, hlen, hat⟩ := World.cells?_some hcells
      obtain ⟨n0, y0, h0⟩ := fld Tryd.underlying61 ht 0 _ rfl 0 3 58 rfl rfl (by kernel_rfl)
      obtain ⟨n1, y1, h1⟩ := fld Tryd.underlying61 ht 1 _ rfl 3 1 59 rfl rfl (by kernel_rfl)
      obtain ⟨n2, y2, h2⟩ := fld Tryd.underlying61 ht 2 _ rfl 4 1 3 rfl rfl (by kernel_rfl)
      obtain ⟨n3, y3, h3⟩ := fld Tryd.underlying58 h0 0 _ rfl 0 2 56 rfl rfl (by kernel_rfl)
      obtain ⟨n4, y4, h4⟩ := fld Tryd.underlying58 h0 1 _ rfl 2 1 3 rfl rfl (by kernel_rfl)
      obtain ⟨n5, y5, h5⟩ := fld Tryd.underlying56 h3 0 _ rfl 0 1 3 rfl rfl (by kernel_rfl)
      obtain ⟨n6, y6, h6⟩ := fld Tryd.underlying56 h3 1 _ rfl 1 1 3 rfl rfl (by kernel_rfl)
      match cs, hlen with
      | [c0, c1, c2, c3, c4], _ =>
        obtain ⟨bs, hb⟩ := open_bids h1
        obtain ⟨q0, e0, _⟩ := DataW.trod_int Tryd.underlying3 h5
        obtain ⟨q1, e1, _⟩ := DataW.trod_int Tryd.underlying3 h6
        obtain ⟨q2, e2, _⟩ := DataW.trod_int Tryd.underlying3 h4
        obtain ⟨q4, e4, _⟩ := DataW.trod_int Tryd.underlying3 h2
        simp at e0 e1 e2 e4
        have a0 := hat 0 (by omega)
        have a1 := hat 1 (by omega)
        have a2 := hat 2 (by omega)
        have a3 := hat 3 (by omega)
        have a4 := hat 4 (by omega)
        simp at a0 a1 a2 a3 a4
        refine ⟨⟨q0, q1, q2, bs, q4⟩, ?_, c3, by rw [a1, e1], by rw [a2, e2], a3, by rw [a4, e4], hb⟩
        have : (a.add (i * 5)).add 0 = a.add (i * 5) := by unfold Addr.add; simp
        rw [this] at a0
        rw [a0, e0]
    obtain ⟨l, hll, hq⟩ := list_of zeroE _ len key
    refine ⟨l, some a, cap, by rw [hll], by omega, hm, fun h0 => ?_⟩
    obtain ⟨b, off, spot⟩ := a
    have hspot : spot = none := by
      have := (hq 0 (by omega)).1
      simpa [Addr.add] using World.cell?_spot this
    subst hspot
    refine ⟨b, off, rfl, fun i hi' => ?_⟩
    obtain ⟨g0, vb, g1, g2, g3, g4, g5⟩ := hq i (by omega)
    rw [Addr.add_lit] at g0 g1 g2 g3 g4
    rw [Addr.add_lit] at g1 g2 g3 g4
    exact ⟨vb, g0, g1, g2, g3, g4, g5⟩

set_option maxRecDepth 100000 in
theorem open_frame {fuel : Nat} {cs : List Value} {x : DataW H × List MemPlace} (h : DataW.trod enc Tryd.prog w base (fun _ => true) held fuel 29 cs = some x) :
    ∃ f vm ve, (.agg cs.toArray : Value) = frV f vm ve ∧ Holds .i64 w vm f.rg.ms ∧ HE w ve f.rg.es := by
  obtain ⟨_, _, _, _, hlen, _⟩ := DataW.trod_struct Tryd.underlying29 h
  rw [show Tryd.prog.cellsOf 29 = 11 by kernel_rfl] at hlen
  obtain ⟨n0, y0, h0⟩ := fld Tryd.underlying29 h 0 _ rfl 0 1 3 rfl rfl (by kernel_rfl)
  obtain ⟨n1, y1, h1⟩ := fld Tryd.underlying29 h 1 _ rfl 1 1 3 rfl rfl (by kernel_rfl)
  obtain ⟨n2, y2, h2⟩ := fld Tryd.underlying29 h 2 _ rfl 2 1 3 rfl rfl (by kernel_rfl)
  obtain ⟨n3, y3, h3⟩ := fld Tryd.underlying29 h 3 _ rfl 3 1 2 rfl rfl (by kernel_rfl)
  obtain ⟨n4, y4, h4⟩ := fld Tryd.underlying29 h 4 _ rfl 4 1 2 rfl rfl (by kernel_rfl)
  obtain ⟨n5, y5, h5⟩ := fld Tryd.underlying29 h 5 _ rfl 5 1 4 rfl rfl (by kernel_rfl)
  obtain ⟨n6, y6, h6⟩ := fld Tryd.underlying29 h 6 _ rfl 6 5 27 rfl rfl (by kernel_rfl)
  obtain ⟨r0, z0, g0⟩ := fld Tryd.underlying27 h6 0 _ rfl 0 2 23 rfl rfl (by kernel_rfl)
  obtain ⟨r1, z1, g1⟩ := fld Tryd.underlying27 h6 1 _ rfl 2 1 2 rfl rfl (by kernel_rfl)
  obtain ⟨r2, z2, g2⟩ := fld Tryd.underlying27 h6 2 _ rfl 3 1 24 rfl rfl (by kernel_rfl)
  obtain ⟨r3, z3, g3⟩ := fld Tryd.underlying27 h6 3 _ rfl 4 1 25 rfl rfl (by kernel_rfl)
  obtain ⟨s0, u0, k0⟩ := fld Tryd.underlying23 g0 0 _ rfl 0 1 2 rfl rfl (by kernel_rfl)
  obtain ⟨s1, u1, k1⟩ := fld Tryd.underlying23 g0 1 _ rfl 1 1 3 rfl rfl (by kernel_rfl)
  match cs, hlen with
  | [c0, c1, c2, c3, c4, c5, c6, c7, c8, c9, c10], _ =>
    obtain ⟨ms, hm⟩ := open_nums g2
    obtain ⟨es, he⟩ := open_entries g3
    obtain ⟨q0, e0, _⟩ := DataW.trod_int Tryd.underlying3 h0
    obtain ⟨q1, e1, _⟩ := DataW.trod_int Tryd.underlying3 h1
    obtain ⟨q2, e2, _⟩ := DataW.trod_int Tryd.underlying3 h2
    obtain ⟨q3, e3, _⟩ := DataW.trod_int Tryd.underlying2 h3
    obtain ⟨q4, e4, _⟩ := DataW.trod_int Tryd.underlying2 h4
    obtain ⟨q5, e5, _⟩ := DataW.trod_bool Tryd.underlying4 h5
    obtain ⟨q6, e6, _⟩ := DataW.trod_int Tryd.underlying2 k0
    obtain ⟨q7, e7, _⟩ := DataW.trod_int Tryd.underlying3 k1
    obtain ⟨q8, e8, _⟩ := DataW.trod_int Tryd.underlying2 g1
    simp at e0 e1 e2 e3 e4 e5 e6 e7 e8
    subst e0 e1 e2 e3 e4 e5 e6 e7 e8
    exact ⟨⟨q0, q1, q2, q3, q4, q5, ⟨q6, q7, q8, ms, es⟩⟩, c9, c10, rfl, hm, he⟩
end
end Go.Proofs.YtpeocdcciecpoaaDoor
