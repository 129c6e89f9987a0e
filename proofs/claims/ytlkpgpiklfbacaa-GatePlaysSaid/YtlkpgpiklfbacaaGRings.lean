/- Rings: a slice of rings that came in, one of the call's own; the things told. -/
import Derived.Test.YtlkpgpiklfbacaaGTake
import Derived.Test.YtlkpgpiklfbacaaInts
import Derived.ProofKit
import Derived.Deep.Slices
import Derived.Deep.Fields
import Derived.ChangeSame
namespace Go.Proofs.Ytlkpgpiklfbacaa
open Go.RowKit Go.ChangeShapes Go.WideShapes Go.Deep

/-- A ring with its slices. -/
structure RV where
  r : RN
  vm : Value
  ve : Value
def zRV : RV := ⟨⟨0, 0, 0, []⟩, .slice none 0 0, .slice none 0 0⟩
/-- Its slices are there. -/
def RV.ok (w : World) (x : RV) : Prop := HInts w x.vm x.r.ms ∧ IsSl x.ve
theorem RV.ok.keep {w w' : World} {x : RV} (h : x.ok w) (hf : Fr w w' []) : x.ok w' := ⟨h.1.keep hf, h.2⟩
def RV.cl (x : RV) : List Value := [.int .i64 x.r.c, .int .i64 x.r.f, .int .i64 x.r.h, x.vm, x.ve]
def rvC (T : List RV) : List Value := T.flatMap RV.cl
theorem rvC_cons (x : RV) (T : List RV) : rvC (x :: T) = .int .i64 x.r.c :: .int .i64 x.r.f :: .int .i64 x.r.h :: x.vm :: x.ve :: rvC T := by simp [rvC, RV.cl]
theorem rvC_snoc (T : List RV) (x : RV) : rvC (T ++ [x]) = rvC T ++ x.cl := by simp [rvC]
theorem rvC_get (T : List RV) (i : Nat) (h : i < T.length) : (rvC T)[i * 5]? = some (.int .i64 (T.getD i zRV).r.c) ∧ (rvC T)[i * 5 + 1]? = some (.int .i64 (T.getD i zRV).r.f) ∧ (rvC T)[i * 5 + 2]? = some (.int .i64 (T.getD i zRV).r.h) ∧
    (rvC T)[i * 5 + 3]? = some (T.getD i zRV).vm ∧ (rvC T)[i * 5 + 4]? = some (T.getD i zRV).ve := by
  induction T generalizing i with
  | nil => simp at h
  | cons b l ih =>
    rw [rvC_cons]
    cases i with
    | zero => simp
    | succ i =>
      have h' : i < l.length := by simpa using h
      have := ih i h'
      rw [show (i + 1) * 5 = i * 5 + 1 + 1 + 1 + 1 + 1 by omega]
      simpa using this
theorem infoR : (Try.prog.info? 29).map (fun i => (i.zero, i.size, i.bytes)) = some (some (.agg #[.int .i64 0, .int .i64 0, .int .i64 0, .slice none 0 0, .slice none 0 0]), 5, 72) := by kernel_rfl
/-- The slice v is the call's own, and holds the rings. -/
def OwnR (w : World) (B : Nat) (v : Value) (T : List RV) : Prop := w.ownsRow B 29 5 v T.length (rvC T)
theorem OwnR.nil (w : World) (B : Nat) : OwnR w B (.slice none 0 0) [] := ⟨rfl, .inl ⟨rfl, rfl⟩⟩
theorem OwnR.at {w : World} {B : Nat} {v : Value} {T : List RV} (h : OwnR w B v T) (i : Nat) (hi : i < T.length) : ∃ g c, v = .slice (some ⟨g, 0, none⟩) T.length c ∧ T.length ≤ c ∧ c ≤ maxLen ∧
    w.cell? ⟨g, i * 5, none⟩ = some (.int .i64 (T.getD i zRV).r.c) ∧ w.cell? ⟨g, i * 5 + 1, none⟩ = some (.int .i64 (T.getD i zRV).r.f) ∧ w.cell? ⟨g, i * 5 + 2, none⟩ = some (.int .i64 (T.getD i zRV).r.h) ∧
    w.cell? ⟨g, i * 5 + 3, none⟩ = some (T.getD i zRV).vm ∧ w.cell? ⟨g, i * 5 + 4, none⟩ = some (T.getD i zRV).ve := by
  obtain ⟨g, c, rfl, hc, hm, _⟩ := row_head h (by omega)
  have h2 := World.ownsRow.cellAt h
  obtain ⟨g0, g1, g2, g3, g4⟩ := rvC_get T i hi
  exact ⟨g, c, rfl, hc, hm, (h2 _ (by omega)).trans g0, (h2 _ (by omega)).trans g1, (h2 _ (by omega)).trans g2, (h2 _ (by omega)).trans g3, (h2 _ (by omega)).trans g4⟩
/-- The slice v holds the rings. -/
def HRs (w : World) (v : Value) (l : List RV) : Prop :=
  ∃ a cap, v = .slice a l.length cap ∧ l.length ≤ cap ∧ cap ≤ maxLen ∧ (0 < l.length → ∃ b off, a = some ⟨b, off, none⟩ ∧ ∀ i, i < l.length →
    (w.cell? ⟨b, off + i * 5, none⟩ = some (.int .i64 (l.getD i zRV).r.c) ∧ w.cell? ⟨b, off + i * 5 + 1, none⟩ = some (.int .i64 (l.getD i zRV).r.f) ∧
    w.cell? ⟨b, off + i * 5 + 2, none⟩ = some (.int .i64 (l.getD i zRV).r.h) ∧ w.cell? ⟨b, off + i * 5 + 3, none⟩ = some (l.getD i zRV).vm ∧ w.cell? ⟨b, off + i * 5 + 4, none⟩ = some (l.getD i zRV).ve) ∧ (l.getD i zRV).ok w)
/-- A thing told. -/
structure DV where
  k : Int
  a : Int
  b : Int
  x : RV
def zDV : DV := ⟨0, 0, 0, zRV⟩
/-- The slice v holds the things told. -/
def HDs (w : World) (v : Value) (l : List DV) : Prop :=
  ∃ a cap, v = .slice a l.length cap ∧ l.length ≤ cap ∧ cap ≤ maxLen ∧ (0 < l.length → ∃ b off, a = some ⟨b, off, none⟩ ∧ ∀ i, i < l.length →
    (w.cell? ⟨b, off + i * 8, none⟩ = some (.int .i64 (l.getD i zDV).k) ∧ w.cell? ⟨b, off + i * 8 + 1, none⟩ = some (.int .i64 (l.getD i zDV).a) ∧ w.cell? ⟨b, off + i * 8 + 2, none⟩ = some (.int .i64 (l.getD i zDV).b) ∧
    w.cell? ⟨b, off + i * 8 + 3, none⟩ = some (.int .i64 (l.getD i zDV).x.r.c) ∧ w.cell? ⟨b, off + i * 8 + 4, none⟩ = some (.int .i64 (l.getD i zDV).x.r.f) ∧
    w.cell? ⟨b, off + i * 8 + 5, none⟩ = some (.int .i64 (l.getD i zDV).x.r.h) ∧ w.cell? ⟨b, off + i * 8 + 6, none⟩ = some (l.getD i zDV).x.vm ∧ w.cell? ⟨b, off + i * 8 + 7, none⟩ = some (l.getD i zDV).x.ve) ∧ (l.getD i zDV).x.ok w)

section
variable {H : Type} {enc : TypeId × Value → H} {w : World} {base : Nat} {held : Bool}
theorem fld {P : Program} {spare : Nat → Bool} {fuel : Nat} {t : TypeId} {fs : Array Field} {cs : List Value} {x : DataW H × List MemPlace} (ht : P.underlying t = some (.struct fs)) (h : DataW.trod enc P w base spare held fuel t cs = some x) (i : Nat) (f : Field) (hi : fs[i]? = some f) (o k : Nat) (T : TypeId) (hT : f.type = T) (ho : f.offset = o) (hk : P.cellsOf T = k) :
    ∃ n y, DataW.trod enc P w base spare held n T ((cs.drop o).take k) = some y := by
  obtain ⟨xs, n, _, _, _, hl, hf⟩ := DataW.trod_struct ht h
  have h1 := hf i f hi
  have hlt : i < xs.length := by rw [hl]; exact (Array.getElem?_eq_some_iff.1 hi).1
  rw [List.getElem?_eq_getElem hlt] at h1
  subst hT ho hk
  exact ⟨n, _, h1⟩
theorem list_of {α : Type} (d : α) (Q : Nat → α → Prop) : ∀ n, (∀ i, i < n → ∃ a, Q i a) → ∃ l : List α, l.length = n ∧ ∀ i, i < n → Q i (l.getD i d)
  | 0, _ => ⟨[], rfl, fun i hi => by omega⟩
  | n + 1, h => by
    obtain ⟨l, hl, hq⟩ := list_of d Q n (fun i hi => h i (by omega))
    obtain ⟨a, ha⟩ := h n (by omega)
    refine ⟨l ++ [a], by simp [hl], fun i hi => ?_⟩
    by_cases e : i = n
    · subst e
      have : (l ++ [a]).getD i d = a := by simp [List.getD, ← hl]
      rw [this]; exact ha
    · have : (l ++ [a]).getD i d = l.getD i d := by simp [List.getD, List.getElem?_append_left (show i < l.length by omega)]
      rw [this]; exact hq i (by omega)

theorem open_nums {fuel : Nat} {c : Value} {x : DataW H × List MemPlace} (h : DataW.trod enc Try.prog w base (fun _ => true) held fuel 26 [c] = some x) : ∃ l, HInts w c l := by
  have key : ∃ (a : Option Addr) (len cap : Nat) (zs : List Int), c = .slice a len cap ∧ ((a = none ∧ len = 0 ∧ cap = 0 ∧ zs = []) ∨ ∃ x, a = some x ∧ len ≤ cap ∧ cap ≤ maxLen ∧ zs.length = cap ∧ (∀ i, i < zs.length → w.cell? (x.add i) = some (.int .i64 (zs.getD i 0))) ∧ ∀ n ∈ zs, (Lit.int .i64 n).wf = true) := by
    rcases open_ints Try.underlying26 Try.underlying3 (by kernel_rfl) h with ⟨hcs, _⟩ | ⟨x, l, c', zs, hcs, _, hl, hm, hz, _, hcell, hwz⟩
    · simp at hcs
      exact ⟨none, 0, 0, [], hcs, .inl ⟨rfl, rfl, rfl, rfl⟩⟩
    · simp at hcs
      exact ⟨some x, l, c', zs, hcs, .inr ⟨x, rfl, hl, hm, by simpa using hz, hcell, hwz⟩⟩
  obtain ⟨a, len, cap, zs, rfl, hw⟩ := key
  exact ⟨_, (holds_of_ints hw).1⟩
theorem open_sl {fuel : Nat} {c : Value} {x : DataW H × List MemPlace} (h : DataW.trod enc Try.prog w base (fun _ => true) held fuel 27 [c] = some x) : IsSl c := by
  rcases open_slice Try.underlying27 h with ⟨hcs, _⟩ | ⟨a, len, cap, m, n, D, Pl, hcs, _⟩
  · simp at hcs
    exact ⟨_, _, _, hcs⟩
  · simp at hcs
    exact ⟨_, _, _, hcs⟩
/-- A ring's cells. -/
theorem open_ring {fuel : Nat} {cs : List Value} {x : DataW H × List MemPlace} (h : DataW.trod enc Try.prog w base (fun _ => true) held fuel 29 cs = some x) : ∃ y : RV, cs = y.cl ∧ y.ok w := by
  obtain ⟨_, _, _, _, hlen, _⟩ := DataW.trod_struct Try.underlying29 h
  rw [show Try.prog.cellsOf 29 = 5 by kernel_rfl] at hlen
  obtain ⟨r0, z0, g0⟩ := fld Try.underlying29 h 0 _ rfl 0 2 25 rfl rfl (by kernel_rfl)
  obtain ⟨r1, z1, g1⟩ := fld Try.underlying29 h 1 _ rfl 2 1 2 rfl rfl (by kernel_rfl)
  obtain ⟨r2, z2, g2⟩ := fld Try.underlying29 h 2 _ rfl 3 1 26 rfl rfl (by kernel_rfl)
  obtain ⟨r3, z3, g3⟩ := fld Try.underlying29 h 3 _ rfl 4 1 27 rfl rfl (by kernel_rfl)
  obtain ⟨s0, u0, k0⟩ := fld Try.underlying25 g0 0 _ rfl 0 1 2 rfl rfl (by kernel_rfl)
  obtain ⟨s1, u1, k1⟩ := fld Try.underlying25 g0 1 _ rfl 1 1 3 rfl rfl (by kernel_rfl)
  match cs, hlen with
  | [c0, c1, c2, c3, c4], _ =>
    obtain ⟨ms, hm⟩ := open_nums g2
    have he := open_sl g3
    obtain ⟨q0, e0, _⟩ := DataW.trod_int Try.underlying2 k0
    obtain ⟨q1, e1, _⟩ := DataW.trod_int Try.underlying3 k1
    obtain ⟨q2, e2, _⟩ := DataW.trod_int Try.underlying2 g1
    simp at e0 e1 e2
    subst e0 e1 e2
    exact ⟨⟨⟨q0, q1, q2, ms⟩, c3, c4⟩, rfl, hm, he⟩
theorem add_zero (a : Addr) : a.add 0 = a := by unfold Addr.add; simp

theorem open_rings {fuel : Nat} {c : Value} {x : DataW H × List MemPlace} (h : DataW.trod enc Try.prog w base (fun _ => true) held fuel 49 [c] = some x) : ∃ l, HRs w c l := by
  rcases open_slice Try.underlying49 h with ⟨hcs, _⟩ | ⟨a, len, cap, m, n, D, Pl, hcs, _, hl, hm, hmm, _, hi⟩
  · simp at hcs
    subst hcs
    exact ⟨[], none, 0, rfl, by simp, by decide, fun h => absurd h (by simp)⟩
  · simp at hcs
    subst hcs
    have hmc : m = cap := by simpa using hmm
    have hc5 : Try.prog.cellsOf 29 = 5 := by kernel_rfl
    have key : ∀ i, i < len → ∃ y : RV, (w.cell? (a.add (i * 5)) = some (.int .i64 y.r.c) ∧ w.cell? ((a.add (i * 5)).add 1) = some (.int .i64 y.r.f) ∧ w.cell? ((a.add (i * 5)).add 2) = some (.int .i64 y.r.h) ∧ w.cell? ((a.add (i * 5)).add 3) = some y.vm ∧ w.cell? ((a.add (i * 5)).add 4) = some y.ve) ∧ y.ok w := by
      intro i hi'
      obtain ⟨cs, hcells, ht⟩ := hi i (by omega)
      rw [hc5] at hcells
      obtain ⟨_, hlen, hat⟩ := World.cells?_some hcells
      obtain ⟨y, rfl, hy⟩ := open_ring ht
      have a0 := hat 0 (by omega)
      have a1 := hat 1 (by omega)
      have a2 := hat 2 (by omega)
      have a3 := hat 3 (by omega)
      have a4 := hat 4 (by omega)
      simp only [RV.cl, List.getElem?_cons_zero, List.getElem?_cons_succ] at a0 a1 a2 a3 a4
      rw [add_zero] at a0
      exact ⟨y, ⟨a0, a1, a2, a3, a4⟩, hy⟩
    obtain ⟨l, hll, hq⟩ := list_of zRV _ len key
    refine ⟨l, some a, cap, by rw [hll], by omega, hm, fun h0 => ?_⟩
    obtain ⟨b, off, spot⟩ := a
    have hspot : spot = none := by
      have := (hq 0 (by omega)).1.1
      simpa [Addr.add] using World.cell?_spot this
    subst hspot
    refine ⟨b, off, rfl, fun i hi' => ?_⟩
    obtain ⟨⟨g0, g1, g2, g3, g4⟩, g5⟩ := hq i (by omega)
    rw [Addr.add_lit] at g0 g1 g2 g3 g4
    rw [Addr.add_lit] at g1 g2 g3 g4
    exact ⟨⟨g0, g1, g2, g3, g4⟩, g5⟩
theorem open_do {fuel : Nat} {c : Value} {x : DataW H × List MemPlace} (h : DataW.trod enc Try.prog w base (fun _ => true) held fuel 39 [c] = some x) : ∃ l, HDs w c l := by
  rcases open_slice Try.underlying39 h with ⟨hcs, _⟩ | ⟨a, len, cap, m, n, D, Pl, hcs, _, hl, hm, hmm, _, hi⟩
  · simp at hcs
    subst hcs
    exact ⟨[], none, 0, rfl, by simp, by decide, fun h => absurd h (by simp)⟩
  · simp at hcs
    subst hcs
    have hmc : m = cap := by simpa using hmm
    have hc8 : Try.prog.cellsOf 43 = 8 := by kernel_rfl
    have key : ∀ i, i < len → ∃ e : DV, (w.cell? (a.add (i * 8)) = some (.int .i64 e.k) ∧ w.cell? ((a.add (i * 8)).add 1) = some (.int .i64 e.a) ∧ w.cell? ((a.add (i * 8)).add 2) = some (.int .i64 e.b) ∧ w.cell? ((a.add (i * 8)).add 3) = some (.int .i64 e.x.r.c) ∧ w.cell? ((a.add (i * 8)).add 4) = some (.int .i64 e.x.r.f) ∧
        w.cell? ((a.add (i * 8)).add 5) = some (.int .i64 e.x.r.h) ∧ w.cell? ((a.add (i * 8)).add 6) = some e.x.vm ∧ w.cell? ((a.add (i * 8)).add 7) = some e.x.ve) ∧ e.x.ok w := by
      intro i hi'
      obtain ⟨cs, hcells, ht⟩ := hi i (by omega)
      rw [hc8] at hcells
      obtain ⟨_, hlen, hat⟩ := World.cells?_some hcells
      obtain ⟨n0, y0, h0⟩ := fld Try.underlying43 ht 0 _ rfl 0 1 3 rfl rfl (by kernel_rfl)
      obtain ⟨n1, y1, h1⟩ := fld Try.underlying43 ht 1 _ rfl 1 1 3 rfl rfl (by kernel_rfl)
      obtain ⟨n2, y2, h2⟩ := fld Try.underlying43 ht 2 _ rfl 2 1 3 rfl rfl (by kernel_rfl)
      obtain ⟨n3, y3, h3⟩ := fld Try.underlying43 ht 3 _ rfl 3 5 29 rfl rfl (by kernel_rfl)
      match cs, hlen with
      | [c0, c1, c2, c3, c4, c5, c6, c7], _ =>
        obtain ⟨y, hy, hok⟩ := open_ring h3
        obtain ⟨q0, e0, _⟩ := DataW.trod_int Try.underlying3 h0
        obtain ⟨q1, e1, _⟩ := DataW.trod_int Try.underlying3 h1
        obtain ⟨q2, e2, _⟩ := DataW.trod_int Try.underlying3 h2
        simp at e0 e1 e2
        simp [RV.cl] at hy
        obtain ⟨rfl, rfl, rfl, rfl, rfl⟩ := hy
        subst e0 e1 e2
        have a0 := hat 0 (by omega)
        have a1 := hat 1 (by omega)
        have a2 := hat 2 (by omega)
        have a3 := hat 3 (by omega)
        have a4 := hat 4 (by omega)
        have a5 := hat 5 (by omega)
        have a6 := hat 6 (by omega)
        have a7 := hat 7 (by omega)
        simp only [List.getElem?_cons_zero, List.getElem?_cons_succ] at a0 a1 a2 a3 a4 a5 a6 a7
        rw [add_zero] at a0
        exact ⟨⟨q0, q1, q2, y⟩, ⟨a0, a1, a2, a3, a4, a5, a6, a7⟩, hok⟩
    obtain ⟨l, hll, hq⟩ := list_of zDV _ len key
    refine ⟨l, some a, cap, by rw [hll], by omega, hm, fun h0 => ?_⟩
    obtain ⟨b, off, spot⟩ := a
    have hspot : spot = none := by
      have := (hq 0 (by omega)).1.1
      simpa [Addr.add] using World.cell?_spot this
    subst hspot
    refine ⟨b, off, rfl, fun i hi' => ?_⟩
    obtain ⟨⟨g0, g1, g2, g3, g4, g5, g6, g7⟩, g8⟩ := hq i (by omega)
    rw [Addr.add_lit] at g0 g1 g2 g3 g4 g5 g6 g7
    rw [Addr.add_lit] at g1 g2 g3 g4 g5 g6 g7
    exact ⟨⟨g0, g1, g2, g3, g4, g5, g6, g7⟩, g8⟩
end
end Go.Proofs.Ytlkpgpiklfbacaa
