/- A latch by value, fields, lists (ROpen over Lat). What came in: stops, calls, slices of latches. A house, a state by value. What came in: a car, slices of stops, of bools. -/
import Derived.Test.YtdmomnhacijmpaaGreatDoorGNum
import Derived.ProofKit
import Derived.OpenShut
import Derived.Deep.Slices
import Derived.Deep.Fields
import Derived.ChangeSame
import Derived.Test.YtdmomnhacijmpaaGreatDoorGAhd
import Derived.Test.YtdmomnhacijmpaaGreatDoorGPlant
import Derived.Test.YtdmomnhacijmpaaGreatDoorGCar
namespace Go.Proofs.YtdmomnhacijmpaaGreatDoor
open Go.RowKit Go.ChangeShapes Go.WideShapes Go.Deep

section
variable {H : Type} {enc : TypeId × Value → H} {w : World} {base : Nat} {held : Bool}
set_option maxRecDepth 100000 in
theorem fld {P : Program} {spare : Nat → Bool} {fuel : Nat} {t : TypeId} {fs : Array Field} {cs : List Value} {x : DataW H × List MemPlace} (ht : P.underlying t = some (.struct fs)) (h : DataW.trod enc P w base spare held fuel t cs = some x) (i : Nat) (f : Field) (hi : fs[i]? = some f) (o k : Nat) (T : TypeId) (hT : f.type = T) (ho : f.offset = o) (hk : P.cellsOf T = k) :
    ∃ n y, DataW.trod enc P w base spare held n T ((cs.drop o).take k) = some y := by
  obtain ⟨xs, n, _, _, _, hl, hf⟩ := DataW.trod_struct ht h
  have h1 := hf i f hi
  have hlt : i < xs.length := by rw [hl]; exact (Array.getElem?_eq_some_iff.1 hi).1
  rw [List.getElem?_eq_getElem hlt] at h1
  subst hT ho hk
  exact ⟨n, _, h1⟩
set_option maxRecDepth 100000 in
theorem list_of {α : Type} (d : α) (Q : Nat → α → Prop) : ∀ n, (∀ i, i < n → ∃ a, Q i a) → ∃ l : List α, l.length = n ∧ ∀ i, i < n → Q i (l.getD i d)
  | 0, _ => ⟨[], rfl, fun i hi => by omega⟩
  | n + 1, h => by
    obtain ⟨l, hl, hq⟩ := list_of d Q n (fun i hi => h i (by omega))
    obtain ⟨a, ha⟩ := h n (by omega)
    refine ⟨l ++ [a], by simp [hl], fun i hi => ?_⟩
    by_cases e : i = n
    · subst e
      have : (l ++ [a]).getD i d = a := by simp [List.getD, ← hl]
      rw [this]; exact ha
    · have : (l ++ [a]).getD i d = l.getD i d := by simp [List.getD, List.getElem?_append_left (show i < l.length by omega)]
      rw [this]; exact hq i (by omega)
set_option maxRecDepth 100000 in
theorem add_zero (a : Addr) : a.add 0 = a := by unfold Addr.add; simp
set_option maxRecDepth 100000 in
/-- A latch's cells. -/
theorem open_latch {fuel : Nat} {cs : List Value} {x : DataW H × List MemPlace} (h : DataW.trod enc Tryz.prog w base (fun _ => true) held fuel 149 cs = some x) : ∃ y : La, cs = y.cl := by
  obtain ⟨_, _, _, _, hlen, _⟩ := DataW.trod_struct Tryz.underlying149 h
  rw [show Tryz.prog.cellsOf 149 = 3 by kernel_rfl] at hlen
  obtain ⟨r0, z0, g0⟩ := fld Tryz.underlying149 h 0 _ rfl 0 2 32 rfl rfl (by kernel_rfl)
  obtain ⟨r1, z1, g1⟩ := fld Tryz.underlying149 h 1 _ rfl 2 1 3 rfl rfl (by kernel_rfl)
  obtain ⟨s0, u0, k0⟩ := fld Tryz.underlying32 g0 0 _ rfl 0 1 3 rfl rfl (by kernel_rfl)
  obtain ⟨s1, u1, k1⟩ := fld Tryz.underlying32 g0 1 _ rfl 1 1 3 rfl rfl (by kernel_rfl)
  match cs, hlen with
  | [c0, c1, c2], _ =>
    obtain ⟨q0, e0, _⟩ := DataW.trod_int Tryz.underlying3 k0
    obtain ⟨q1, e1, _⟩ := DataW.trod_int Tryz.underlying3 k1
    obtain ⟨q2, e2, _⟩ := DataW.trod_int Tryz.underlying3 g1
    simp at e0 e1 e2
    subst e0 e1 e2
    exact ⟨⟨q0, q1, q2⟩, rfl⟩
end
end Go.Proofs.YtdmomnhacijmpaaGreatDoor

namespace Go.Proofs.YtdmomnhacijmpaaGreatDoor
open Go.RowKit Go.ChangeShapes Go.WideShapes Go.Deep

section
variable {H : Type} {enc : TypeId × Value → H} {w : World} {base : Nat} {held : Bool}
set_option maxRecDepth 100000 in
/-- The cells of stops. -/
theorem open_stops {fuel : Nat} {cs : List Value} {x : DataW H × List MemPlace} (h : DataW.trod enc Tryz.prog w base (fun _ => true) held fuel 30 cs = some x) : ∃ s : Sp, s.ok ∧ cs = [.int .u64 s.c, .int .u64 s.u, .int .u64 s.d] := by
  obtain ⟨_, _, _, _, hlen, _⟩ := DataW.trod_struct Tryz.underlying30 h
  rw [show Tryz.prog.cellsOf 30 = 3 by kernel_rfl] at hlen
  obtain ⟨r0, z0, g0⟩ := fld Tryz.underlying30 h 0 _ rfl 0 1 28 rfl rfl (by kernel_rfl)
  obtain ⟨r1, z1, g1⟩ := fld Tryz.underlying30 h 1 _ rfl 1 1 28 rfl rfl (by kernel_rfl)
  obtain ⟨r2, z2, g2⟩ := fld Tryz.underlying30 h 2 _ rfl 2 1 28 rfl rfl (by kernel_rfl)
  match cs, hlen with
  | [c0, c1, c2], _ =>
    obtain ⟨q0, e0, _, w0⟩ := DataW.trod_int Tryz.underlying28 g0
    obtain ⟨q1, e1, _, w1⟩ := DataW.trod_int Tryz.underlying28 g1
    obtain ⟨q2, e2, _, w2⟩ := DataW.trod_int Tryz.underlying28 g2
    simp at e0 e1 e2
    subst e0 e1 e2
    have b0 := bounds_u64 w0
    have b1 := bounds_u64 w1
    have b2 := bounds_u64 w2
    refine ⟨⟨q0.toNat, q1.toNat, q2.toNat⟩, ⟨?_, ?_, ?_⟩, ?_⟩
    · show q0.toNat < _; omega
    · show q1.toNat < _; omega
    · show q2.toNat < _; omega
    · rw [Int.toNat_of_nonneg b0.1, Int.toNat_of_nonneg b1.1, Int.toNat_of_nonneg b2.1]
set_option maxRecDepth 100000 in
/-- A call's cells. -/
theorem open_call {fuel : Nat} {cs : List Value} {x : DataW H × List MemPlace} (h : DataW.trod enc Tryz.prog w base (fun _ => true) held fuel 32 cs = some x) : ∃ f d : Int, cs = [.int .i64 f, .int .i64 d] := by
  obtain ⟨_, _, _, _, hlen, _⟩ := DataW.trod_struct Tryz.underlying32 h
  rw [show Tryz.prog.cellsOf 32 = 2 by kernel_rfl] at hlen
  obtain ⟨s0, u0, k0⟩ := fld Tryz.underlying32 h 0 _ rfl 0 1 3 rfl rfl (by kernel_rfl)
  obtain ⟨s1, u1, k1⟩ := fld Tryz.underlying32 h 1 _ rfl 1 1 3 rfl rfl (by kernel_rfl)
  match cs, hlen with
  | [c0, c1], _ =>
    obtain ⟨q0, e0, _⟩ := DataW.trod_int Tryz.underlying3 k0
    obtain ⟨q1, e1, _⟩ := DataW.trod_int Tryz.underlying3 k1
    simp at e0 e1
    subst e0 e1
    exact ⟨q0, q1, rfl⟩
set_option maxRecDepth 100000 in
theorem open_latchs {fuel : Nat} {c : Value} {x : DataW H × List MemPlace} (h : DataW.trod enc Tryz.prog w base (fun _ => true) held fuel 147 [c] = some x) : ∃ l, HLs w c l := by
  rcases open_slice Tryz.underlying147 h with ⟨hcs, _⟩ | ⟨a, len, cap, m, n, D, Pl, hcs, _, hl, hm, hmm, _, hi⟩
  · simp at hcs
    subst hcs
    exact ⟨[], none, 0, rfl, by simp, by decide, fun h => absurd h (by simp)⟩
  · simp at hcs
    subst hcs
    have hmc : m = cap := by simpa using hmm
    have hc3 : Tryz.prog.cellsOf 149 = 3 := by kernel_rfl
    have key : ∀ i, i < len → ∃ e : La, w.cell? (a.add (i * 3)) = some (.int .i64 e.f) ∧ w.cell? ((a.add (i * 3)).add 1) = some (.int .i64 e.d) ∧ w.cell? ((a.add (i * 3)).add 2) = some (.int .i64 e.g) := by
      intro i hi'
      obtain ⟨cs, hcells, ht⟩ := hi i (by omega)
      rw [hc3] at hcells
      obtain ⟨_, hlen, hat⟩ := World.cells?_some hcells
      obtain ⟨y, rfl⟩ := open_latch ht
      have a0 := hat 0 (by omega)
      have a1 := hat 1 (by omega)
      have a2 := hat 2 (by omega)
      simp [La.cl] at a0 a1 a2
      rw [add_zero] at a0
      exact ⟨y, a0, a1, a2⟩
    obtain ⟨l, hll, hq⟩ := list_of zLa _ len key
    refine ⟨l, some a, cap, by rw [hll], by omega, hm, fun h0 => ?_⟩
    obtain ⟨b, off, spot⟩ := a
    have hspot : spot = none := by
      have := (hq 0 (by omega)).1
      simpa [Addr.add] using World.cell?_spot this
    subst hspot
    refine ⟨b, off, rfl, fun i hi' => ?_⟩
    obtain ⟨g0, g1, g2⟩ := hq i (by omega)
    rw [Addr.add_lit] at g0 g1 g2
    rw [Addr.add_lit] at g1 g2
    exact ⟨g0, g1, g2⟩
end
end Go.Proofs.YtdmomnhacijmpaaGreatDoor

namespace Go.Proofs.YtdmomnhacijmpaaGreatDoor
open Go.RowKit Go.ChangeShapes Go.WideShapes Go.Deep

section
variable {H : Type} {enc : TypeId × Value → H} {w : World} {base : Nat} {held : Bool}
set_option maxRecDepth 100000 in
theorem hfld {P : Program} {spare : Nat → Bool} {fuel : Nat} {t : TypeId} {fs : Array Field} {cs : List Value} {x : DataW H × List MemPlace} (ht : P.underlying t = some (.struct fs)) (h : DataW.trod enc P w base spare held fuel t cs = some x) (i : Nat) (f : Field) (hi : fs[i]? = some f) (o k : Nat) (T : TypeId) (hT : f.type = T) (ho : f.offset = o) (hk : P.cellsOf T = k) :
    ∃ n y, DataW.trod enc P w base spare held n T ((cs.drop o).take k) = some y := by
  obtain ⟨xs, n, _, _, _, hl, hf⟩ := DataW.trod_struct ht h
  have h1 := hf i f hi
  have hlt : i < xs.length := by rw [hl]; exact (Array.getElem?_eq_some_iff.1 hi).1
  rw [List.getElem?_eq_getElem hlt] at h1
  subst hT ho hk
  exact ⟨n, _, h1⟩
set_option maxRecDepth 100000 in
/-- A house's cells. -/
theorem open_house {fuel : Nat} {cs : List Value} {x : DataW H × List MemPlace} (h : DataW.trod enc Tryz.prog w base (fun _ => true) held fuel 23 cs = some x) : ∃ y : Ho, cs = [.int .i64 y.c, .int .i64 y.f, .int .i64 y.s, .int .i64 y.d] := by
  obtain ⟨_, _, _, _, hlen, _⟩ := DataW.trod_struct Tryz.underlying23 h
  rw [show Tryz.prog.cellsOf 23 = 4 by kernel_rfl] at hlen
  obtain ⟨r0, z0, g0⟩ := hfld Tryz.underlying23 h 0 _ rfl 0 1 3 rfl rfl (by kernel_rfl)
  obtain ⟨r1, z1, g1⟩ := hfld Tryz.underlying23 h 1 _ rfl 1 1 3 rfl rfl (by kernel_rfl)
  obtain ⟨r2, z2, g2⟩ := hfld Tryz.underlying23 h 2 _ rfl 2 1 3 rfl rfl (by kernel_rfl)
  obtain ⟨r3, z3, g3⟩ := hfld Tryz.underlying23 h 3 _ rfl 3 1 3 rfl rfl (by kernel_rfl)
  match cs, hlen with
  | [c0, c1, c2, c3], _ =>
    obtain ⟨q0, e0, _⟩ := DataW.trod_int Tryz.underlying3 g0
    obtain ⟨q1, e1, _⟩ := DataW.trod_int Tryz.underlying3 g1
    obtain ⟨q2, e2, _⟩ := DataW.trod_int Tryz.underlying3 g2
    obtain ⟨q3, e3, _⟩ := DataW.trod_int Tryz.underlying3 g3
    simp at e0 e1 e2 e3
    subst e0 e1 e2 e3
    exact ⟨⟨q0, q1, q2, q3⟩, rfl⟩
set_option maxRecDepth 100000 in
/-- A state's cells. -/
theorem open_state {fuel : Nat} {cs : List Value} {x : DataW H × List MemPlace} (h : DataW.trod enc Tryz.prog w base (fun _ => true) held fuel 25 cs = some x) : ∃ y : St, cs = [.int .i64 y.p, .int .i64 y.e, .int .i64 y.o, .bool y.r] := by
  obtain ⟨_, _, _, _, hlen, _⟩ := DataW.trod_struct Tryz.underlying25 h
  rw [show Tryz.prog.cellsOf 25 = 4 by kernel_rfl] at hlen
  obtain ⟨r0, z0, g0⟩ := hfld Tryz.underlying25 h 0 _ rfl 0 1 3 rfl rfl (by kernel_rfl)
  obtain ⟨r1, z1, g1⟩ := hfld Tryz.underlying25 h 1 _ rfl 1 1 3 rfl rfl (by kernel_rfl)
  obtain ⟨r2, z2, g2⟩ := hfld Tryz.underlying25 h 2 _ rfl 2 1 3 rfl rfl (by kernel_rfl)
  obtain ⟨r3, z3, g3⟩ := hfld Tryz.underlying25 h 3 _ rfl 3 1 4 rfl rfl (by kernel_rfl)
  match cs, hlen with
  | [c0, c1, c2, c3], _ =>
    obtain ⟨q0, e0, _⟩ := DataW.trod_int Tryz.underlying3 g0
    obtain ⟨q1, e1, _⟩ := DataW.trod_int Tryz.underlying3 g1
    obtain ⟨q2, e2, _⟩ := DataW.trod_int Tryz.underlying3 g2
    obtain ⟨q3, e3, _⟩ := DataW.trod_bool Tryz.underlying4 g3
    simp at e0 e1 e2 e3
    subst e0 e1 e2 e3
    exact ⟨⟨q0, q1, q2, q3⟩, rfl⟩
end
end Go.Proofs.YtdmomnhacijmpaaGreatDoor

namespace Go.Proofs.YtdmomnhacijmpaaGreatDoor
open Go.RowKit Go.ChangeShapes Go.WideShapes Go.Deep

section
variable {H : Type} {enc : TypeId × Value → H} {w : World} {base : Nat} {held : Bool}
set_option maxRecDepth 100000 in
/-- A car's cells. -/
theorem open_car {fuel : Nat} {cs : List Value} {x : DataW H × List MemPlace} (h : DataW.trod enc Tryz.prog w base (fun _ => true) held fuel 27 cs = some x) :
    ∃ y : Ca, y.k ≤ 9223372036854775807 ∧ cs = [.int .i64 y.x.p, .int .i64 y.x.e, .int .i64 y.x.o, .bool y.x.r, .int .i64 y.k] := by
  obtain ⟨_, _, _, _, hlen, _⟩ := DataW.trod_struct Tryz.underlying27 h
  rw [show Tryz.prog.cellsOf 27 = 5 by kernel_rfl] at hlen
  obtain ⟨r0, z0, g0⟩ := hfld Tryz.underlying27 h 0 _ rfl 0 4 25 rfl rfl (by kernel_rfl)
  obtain ⟨r1, z1, g1⟩ := hfld Tryz.underlying27 h 1 _ rfl 4 1 3 rfl rfl (by kernel_rfl)
  obtain ⟨y, hy⟩ := open_state g0
  match cs, hlen with
  | [c0, c1, c2, c3, c4], _ =>
    obtain ⟨q, e, _, b⟩ := DataW.trod_int Tryz.underlying3 g1
    simp at e hy
    obtain ⟨rfl, rfl, rfl, rfl⟩ := hy
    subst e
    exact ⟨⟨y, q⟩, (bounds_i64 b).2, rfl⟩
end
/-- A slice of stops that came in. -/
def HSs (w : World) (v : Value) (l : List Sp) : Prop := (∀ s ∈ l, s.ok) ∧ ∃ a cap, v = .slice a l.length cap ∧ l.length ≤ cap ∧ cap ≤ maxLen ∧ (0 < l.length → ∃ b off, a = some ⟨b, off, none⟩ ∧
  ∀ i, i < l.length → w.cell? ⟨b, off + i * 3, none⟩ = some (.int .u64 (l.getD i ⟨0, 0, 0⟩).c) ∧ w.cell? ⟨b, off + i * 3 + 1, none⟩ = some (.int .u64 (l.getD i ⟨0, 0, 0⟩).u) ∧ w.cell? ⟨b, off + i * 3 + 2, none⟩ = some (.int .u64 (l.getD i ⟨0, 0, 0⟩).d))
section
variable {H : Type} {enc : TypeId × Value → H} {w : World} {base : Nat} {held : Bool}
end
/-- A slice of bools that came in. -/
def HBs (w : World) (v : Value) (l : List Bool) : Prop := ∃ a cap, v = .slice a l.length cap ∧ l.length ≤ cap ∧ cap ≤ maxLen ∧ (0 < l.length → ∃ b off, a = some ⟨b, off, none⟩ ∧ ∀ i, i < l.length → w.cell? ⟨b, off + i, none⟩ = some (.bool (l.getD i false)))
section
variable {H : Type} {enc : TypeId × Value → H} {w : World} {base : Nat} {held : Bool}
end
end Go.Proofs.YtdmomnhacijmpaaGreatDoor
