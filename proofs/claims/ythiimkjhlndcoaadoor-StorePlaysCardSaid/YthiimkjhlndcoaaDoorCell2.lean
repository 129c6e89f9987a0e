/- The cell's other calls: Get, Arm, Back, Down, Writes, Size, Clone, New. -/
import Derived.Test.YthiimkjhlndcoaaDoorCell
namespace Go.Proofs.YthiimkjhlndcoaaDoor
open Go.RowKit

/-- A Get: the byte, and the error's number (0: none). -/
def CS.get (s : CS) (i : Int) : Int × Nat := if s.d = true then (0, 5) else if s.has i = true then (s.l.getD i.toNat 0, 0) else (0, 6)

set_option maxRecDepth 100000 in
theorem cellGet_any {is : List Nat} (p g : Nat) (s : CS) (i : Int) (w : World) (A : Nat → Addr) (B : Nat) (h : Cl w p g s) (hE : EV is w A B) (hs : ∀ i ∈ [4, 5], i ∈ is := by decide) :
    Calls Tryd.prog 23 #[.pointer (some ⟨p, 0, none⟩), .int .i64 i] w fun e w' => e = .returned (.tuple #[.int .u8 (s.get i).1, ev A (s.get i).2]) ∧ Drawn w w' := by
  obtain ⟨c0, c1, c2, c3⟩ := h.cells
  have e5 := (hE.cell 4 (hs 4 (by decide))).1
  have e6 := (hE.cell 5 (hs 5 (by decide))).1
  have e5 : w.cell? ⟨1, 0, none⟩ = some (ev A 5) := e5
  have e6 : w.cell? ⟨2, 0, none⟩ = some (ev A 6) := e6
  clear c1 c3 hE
  obtain ⟨v5, hv5⟩ : ∃ v, v = ev A 5 := ⟨_, rfl⟩
  obtain ⟨v6, hv6⟩ : ∃ v, v = ev A 6 := ⟨_, rfl⟩
  rw [← hv5] at e5
  rw [← hv6] at e6
  have H5 := Lib.hid hv5
  have H6 := Lib.hid hv6
  have H := Lib.hid h
  clear hv5 hv6
  obtain ⟨d, hd⟩ : ∃ d, d = s.d := ⟨_, rfl⟩
  rw [← hd] at c2
  cases d with
  | true =>
    have HR : Hid (s.get i = (0, 5)) := by show _ = _; unfold CS.get; rw [if_pos hd.symm]
    clear hd h
    go_enter Tryd.func23, Tryd.ntmps23
    go_wp2
    go_quiet (fail)
    go_wp2
    go_ret2
    rw [HR.out, H5.out]
    exact ⟨rfl, _, rfl⟩
  | false =>
    obtain ⟨m, hm⟩ : ∃ m, m = s.has i := ⟨_, rfl⟩
    have HC := Lib.hid (has_any p g s i w h m hm.symm)
    cases m with
    | false =>
      have HR : Hid (s.get i = (0, 6)) := by show _ = _; unfold CS.get; rw [if_neg (by rw [← hd]; simp), if_neg (by rw [← hm]; simp)]
      clear hd hm h
      go_enter Tryd.func23, Tryd.ntmps23
      go_wp2_with fail
      refine HC.out.mono ?_
      rintro e w2 ⟨rfl, rfl⟩
      go_wp2
      go_quiet (fail)
      go_wp2
      go_ret2
      rw [HR.out, H6.out]
      exact ⟨rfl, _, rfl⟩
    | true =>
      have hi := of_decide_eq_true hm.symm
      obtain ⟨hi0, hi1⟩ := hi
      obtain ⟨k, hk⟩ := Int.eq_ofNat_of_zero_le hi0
      subst hk
      have hkl : k < s.l.length := by omega
      have HR : Hid (s.get k = (s.l.getD k 0, 0)) := by show _ = _; unfold CS.get; rw [if_neg (by rw [← hd]; simp), if_pos hm.symm]; rfl
      obtain ⟨y, hy⟩ : ∃ y, y = s.l.getD k 0 := ⟨_, rfl⟩
      obtain ⟨kb, _⟩ := h.byte k hkl
      rw [← hy] at kb HR
      obtain ⟨_, o2, _⟩ := h.2.2
      obtain ⟨L, hL⟩ : ∃ L, L = s.l.length := ⟨_, rfl⟩
      rw [← hL] at c0 hkl o2
      clear hd hm h hi0 hi1 hL hy
      go_enter Tryd.func23, Tryd.ntmps23
      go_wp2_with fail
      refine HC.out.mono ?_
      rintro e w2 ⟨rfl, rfl⟩
      go_wp2
      go_ret2
      rw [HR.out]
      exact ⟨rfl, 0, rfl⟩

theorem cellArm_any (p g : Nat) (s : CS) (n : Int) (w : World) (h : Cl w p g s) (hn : n ≤ 9223372036854775807) (m : Int) (hm : m = max n 0) :
    Calls Tryd.prog 16 #[.pointer (some ⟨p, 0, none⟩), .int .i64 n] w fun e w' => e = .returned (.tuple #[]) ∧ Cl w' p g { s with a := m } ∧ Fr w w' [p] := by
  obtain ⟨c0, c1, c2, c3⟩ := h.cells
  have f1 := h.frozen 1
  have H := Lib.hid h
  have HM := Lib.hid hm
  clear h hm c0 c2 c3
  go_enter Tryd.func16, Tryd.ntmps16
  go_wp2
  · go_end0
    rw [show m = 0 by rw [HM.out]; omega]
    exact ⟨rfl, H.out.arm 0 (by omega), Fr.setCell _ _ _ _ (by simp)⟩
  · go_end0
    rw [show m = n by rw [HM.out]; omega]
    exact ⟨rfl, H.out.arm n (by omega), Fr.setCell _ _ _ _ (by simp)⟩

theorem cellBack_any (p g : Nat) (s : CS) (w : World) (h : Cl w p g s) :
    Calls Tryd.prog 18 #[.pointer (some ⟨p, 0, none⟩)] w fun e w' => e = .returned (.tuple #[]) ∧ Cl w' p g { s with a := 0, d := false } ∧ Fr w w' [p] := by
  obtain ⟨c0, c1, c2, c3⟩ := h.cells
  have f1 := h.frozen 1
  have f2 := h.frozen 2
  have H := Lib.hid h
  clear h c0 c3
  go_enter Tryd.func18, Tryd.ntmps18
  go_wp2
  go_end0
  exact ⟨rfl, (H.out.dn false).arm 0 (by omega), (Fr.setCell _ _ _ _ (by simp)).trans (Fr.setCell _ _ _ _ (by simp))⟩

theorem cellDown_any (p g : Nat) (s : CS) (w : World) (h : Cl w p g s) :
    Calls Tryd.prog 25 #[.pointer (some ⟨p, 0, none⟩)] w fun e w' => e = .returned (.bool s.d) ∧ w = w' := by
  obtain ⟨c0, c1, c2, c3⟩ := h.cells
  clear h c0 c1 c3
  go_enter Tryd.func25, Tryd.ntmps25
  go_wp2
  go_ret
  exact ⟨rfl, rfl⟩
theorem cellWrites_any (p g : Nat) (s : CS) (w : World) (h : Cl w p g s) :
    Calls Tryd.prog 26 #[.pointer (some ⟨p, 0, none⟩)] w fun e w' => e = .returned (.int .i64 s.n) ∧ w = w' := by
  obtain ⟨c0, c1, c2, c3⟩ := h.cells
  clear h c0 c1 c2
  go_enter Tryd.func26, Tryd.ntmps26
  go_wp2
  go_ret
  exact ⟨rfl, rfl⟩
theorem cellSize_any (p g : Nat) (s : CS) (w : World) (h : Cl w p g s) :
    Calls Tryd.prog 29 #[.pointer (some ⟨p, 0, none⟩)] w fun e w' => e = .returned (.int .i64 (s.l.length : Int)) ∧ w = w' := by
  obtain ⟨c0, c1, c2, c3⟩ := h.cells
  clear h c1 c2 c3
  go_enter Tryd.func29, Tryd.ntmps29
  go_wp2
  go_ret
  exact ⟨rfl, rfl⟩

/-- A cell that is new: all its bytes 0. -/
def CS.new (n : Nat) : CS := ⟨List.replicate n 0, 0, false, 0⟩
/-- A cell of the call's own, by itself and beside no error. -/
def NewCl (w : World) (s : CS) (u : Value) (w' : World) : Prop := ∃ p g, u = .pointer (some ⟨p, 0, none⟩) ∧ Cl w' p g s ∧ w.heap.size ≤ p ∧ w.heap.size ≤ g ∧ Fr w w' []
def NewClT (w : World) (s : CS) (u : Value) (w' : World) : Prop := ∃ p g, u = .tuple #[.pointer (some ⟨p, 0, none⟩), .nilIface] ∧ Cl w' p g s ∧ w.heap.size ≤ p ∧ w.heap.size ≤ g ∧ Fr w w' []
theorem CS.new_get (n j : Nat) : (CS.new n).l.getD j 0 = 0 := by
  unfold CS.new; simp only [List.getD, List.getElem?_replicate]; split <;> rfl
theorem u8s_zero (n : Nat) : u8s (List.replicate n 0) = List.replicate n (.int .u8 0) := by simp [u8s]

set_option maxRecDepth 100000 in
theorem cellNew_ok (n : Nat) (w : World) (h1 : 1 ≤ n) (h2 : n ≤ 4096) :
    Calls Tryd.prog 10 #[.int .i64 (n : Int)] w (Gives (NewClT w (CS.new n))) := by
  have hmk := make_zero w n (by omega) (n : Int) rfl
  obtain ⟨Z, hZ⟩ : ∃ Z, Z = (u8s (List.replicate n 0)).toArray := ⟨_, rfl⟩
  rw [← hZ] at hmk
  have HZ := Lib.hid hZ
  clear hZ
  go_enter Tryd.func10, Tryd.ntmps10
  go_wp2
  go_ret2
  refine gives ⟨w.heap.size + 1, w.heap.size, by simp, ⟨?_, ?_, ?_⟩, by omega, by omega, ?_⟩
  · simp only [CS.new, List.length_replicate]
    have := heap_alloc_new (w.alloc (.cells Z 5)) (.cells #[.slice (some ⟨w.heap.size, 0, none⟩) n n, .int .i64 0, .bool false, .int .i64 0] 66)
    simpa using this
  · rw [Below.heap_alloc _ _ _ (by simp), heap_alloc_new, HZ.out]; rfl
  · simp [CS.ok, CS.new]; omega
  · exact (Fr.alloc _ _ _).trans (Fr.alloc _ _ _)
set_option maxRecDepth 100000 in
theorem cellNew_bad {is : List Nat} (n : Int) (w : World) (A : Nat → Addr) (B : Nat) (hE : EV is w A B) (h : n < 1 ∨ 4096 < n) (hs : ∀ i ∈ [2], i ∈ is := by decide) :
    Calls Tryd.prog 10 #[.int .i64 n] w fun e w' => e = .returned (.tuple #[.pointer none, ev A 3]) ∧ Drawn w w' := by
  have e3 : w.cell? ⟨0, 0, none⟩ = some (ev A 3) := (hE.cell 2 (hs 2 (by decide))).1
  clear hE
  rcases h with h | h
  · go_enter Tryd.func10, Tryd.ntmps10
    go_wp2
    go_quiet (fail)
    go_wp2
    go_ret2
    exact ⟨rfl, _, rfl⟩
  · have h' : ¬ n < 1 := by omega
    go_enter Tryd.func10, Tryd.ntmps10
    go_wp2
    go_quiet (fail)
    go_wp2
    go_ret2
    exact ⟨rfl, _, rfl⟩

end Go.Proofs.YthiimkjhlndcoaaDoor
