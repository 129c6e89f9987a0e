/- The cell's other calls: Get, Arm, Back, Down, Writes, Size, Clone, New. -/
import Derived.Test.YtnpnkadfnidmmaaDoorCell
namespace Go.Proofs.YtnpnkadfnidmmaaDoor
open Go.RowKit

/-- A Get: the byte, and the error's number (0: none). -/
def CS.get (s : CS) (i : Int) : Int × Nat := if s.d = true then (0, 5) else if s.has i = true then (s.l.getD i.toNat 0, 0) else (0, 6)

set_option maxRecDepth 100000 in
theorem cellGet_any (p g : Nat) (s : CS) (i : Int) (w : World) (A : Nat → Addr) (B : Nat) (h : Cl w p g s) (hE : E13 w A B) :
    Calls Tryd.prog 16 #[.pointer (some ⟨p, 0, none⟩), .int .i64 i] w fun e w' => e = .returned (.tuple #[.int .u8 (s.get i).1, ev A (s.get i).2]) ∧ Drawn w w' := by
  obtain ⟨c0, c1, c2, c3⟩ := h.cells
  have e5 := (hE.cell 4 (by decide)).1
  have e6 := (hE.cell 5 (by decide)).1
  have e5 : w.cell? ⟨1, 0, none⟩ = some (ev A 5) := e5
  have e6 : w.cell? ⟨2, 0, none⟩ = some (ev A 6) := e6
  clear c1 c3 hE
  obtain ⟨v5, hv5⟩ : ∃ v, v = ev A 5 := ⟨_, rfl⟩
  obtain ⟨v6, hv6⟩ : ∃ v, v = ev A 6 := ⟨_, rfl⟩
  rw [← hv5] at e5
  rw [← hv6] at e6
  have H5 := Lib.hid hv5
  have H6 := Lib.hid hv6
  have H := Lib.hid h
  clear hv5 hv6
  obtain ⟨d, hd⟩ : ∃ d, d = s.d := ⟨_, rfl⟩
  rw [← hd] at c2
  cases d with
  | true =>
    have HR : Hid (s.get i = (0, 5)) := by show _ = _; unfold CS.get; rw [if_pos hd.symm]
    clear hd h
    go_enter Tryd.func16, Tryd.ntmps16
    go_wp2
    go_quiet (fail)
    go_wp2
    go_ret2
    rw [HR.out, H5.out]
    exact ⟨rfl, _, rfl⟩
  | false =>
    obtain ⟨m, hm⟩ : ∃ m, m = s.has i := ⟨_, rfl⟩
    have HC := Lib.hid (has_any p g s i w h m hm.symm)
    cases m with
    | false =>
      have HR : Hid (s.get i = (0, 6)) := by show _ = _; unfold CS.get; rw [if_neg (by rw [← hd]; simp), if_neg (by rw [← hm]; simp)]
      clear hd hm h
      go_enter Tryd.func16, Tryd.ntmps16
      go_wp2_with fail
      refine HC.out.mono ?_
      rintro e w2 ⟨rfl, rfl⟩
      go_wp2
      go_quiet (fail)
      go_wp2
      go_ret2
      rw [HR.out, H6.out]
      exact ⟨rfl, _, rfl⟩
    | true =>
      have hi := of_decide_eq_true hm.symm
      obtain ⟨hi0, hi1⟩ := hi
      obtain ⟨k, hk⟩ := Int.eq_ofNat_of_zero_le hi0
      subst hk
      have hkl : k < s.l.length := by omega
      have HR : Hid (s.get k = (s.l.getD k 0, 0)) := by show _ = _; unfold CS.get; rw [if_neg (by rw [← hd]; simp), if_pos hm.symm]; rfl
      obtain ⟨y, hy⟩ : ∃ y, y = s.l.getD k 0 := ⟨_, rfl⟩
      obtain ⟨kb, _⟩ := h.byte k hkl
      rw [← hy] at kb HR
      obtain ⟨_, o2, _⟩ := h.2.2
      obtain ⟨L, hL⟩ : ∃ L, L = s.l.length := ⟨_, rfl⟩
      rw [← hL] at c0 hkl o2
      clear hd hm h hi0 hi1 hL hy
      go_enter Tryd.func16, Tryd.ntmps16
      go_wp2_with fail
      refine HC.out.mono ?_
      rintro e w2 ⟨rfl, rfl⟩
      go_wp2
      go_ret2
      rw [HR.out]
      exact ⟨rfl, 0, rfl⟩

theorem cellArm_any (p g : Nat) (s : CS) (n : Int) (w : World) (h : Cl w p g s) (hn : n ≤ 9223372036854775807) (m : Int) (hm : m = max n 0) :
    Calls Tryd.prog 13 #[.pointer (some ⟨p, 0, none⟩), .int .i64 n] w fun e w' => e = .returned (.tuple #[]) ∧ Cl w' p g { s with a := m } ∧ Fr w w' [p] := by
  obtain ⟨c0, c1, c2, c3⟩ := h.cells
  have f1 := h.frozen 1
  have H := Lib.hid h
  have HM := Lib.hid hm
  clear h hm c0 c2 c3
  go_enter Tryd.func13, Tryd.ntmps13
  go_wp2
  · go_end0
    rw [show m = 0 by rw [HM.out]; omega]
    exact ⟨rfl, H.out.arm 0 (by omega), Fr.setCell _ _ _ _ (by simp)⟩
  · go_end0
    rw [show m = n by rw [HM.out]; omega]
    exact ⟨rfl, H.out.arm n (by omega), Fr.setCell _ _ _ _ (by simp)⟩

theorem cellBack_any (p g : Nat) (s : CS) (w : World) (h : Cl w p g s) :
    Calls Tryd.prog 14 #[.pointer (some ⟨p, 0, none⟩)] w fun e w' => e = .returned (.tuple #[]) ∧ Cl w' p g { s with a := 0, d := false } ∧ Fr w w' [p] := by
  obtain ⟨c0, c1, c2, c3⟩ := h.cells
  have f1 := h.frozen 1
  have f2 := h.frozen 2
  have H := Lib.hid h
  clear h c0 c3
  go_enter Tryd.func14, Tryd.ntmps14
  go_wp2
  go_end0
  exact ⟨rfl, (H.out.dn false).arm 0 (by omega), (Fr.setCell _ _ _ _ (by simp)).trans (Fr.setCell _ _ _ _ (by simp))⟩

theorem cellDown_any (p g : Nat) (s : CS) (w : World) (h : Cl w p g s) :
    Calls Tryd.prog 18 #[.pointer (some ⟨p, 0, none⟩)] w fun e w' => e = .returned (.bool s.d) ∧ w = w' := by
  obtain ⟨c0, c1, c2, c3⟩ := h.cells
  clear h c0 c1 c3
  go_enter Tryd.func18, Tryd.ntmps18
  go_wp2
  go_ret
  exact ⟨rfl, rfl⟩
theorem cellWrites_any (p g : Nat) (s : CS) (w : World) (h : Cl w p g s) :
    Calls Tryd.prog 10 #[.pointer (some ⟨p, 0, none⟩)] w fun e w' => e = .returned (.int .i64 s.n) ∧ w = w' := by
  obtain ⟨c0, c1, c2, c3⟩ := h.cells
  clear h c0 c1 c2
  go_enter Tryd.func10, Tryd.ntmps10
  go_wp2
  go_ret
  exact ⟨rfl, rfl⟩
theorem cellSize_any (p g : Nat) (s : CS) (w : World) (h : Cl w p g s) :
    Calls Tryd.prog 19 #[.pointer (some ⟨p, 0, none⟩)] w fun e w' => e = .returned (.int .i64 (s.l.length : Int)) ∧ w = w' := by
  obtain ⟨c0, c1, c2, c3⟩ := h.cells
  clear h c1 c2 c3
  go_enter Tryd.func19, Tryd.ntmps19
  go_wp2
  go_ret
  exact ⟨rfl, rfl⟩

/-- A cell that is new: all its bytes 0. -/
def CS.new (n : Nat) : CS := ⟨List.replicate n 0, 0, false, 0⟩
/-- A cell of the call's own, by itself and beside no error. -/
def NewCl (w : World) (s : CS) (u : Value) (w' : World) : Prop := ∃ p g, u = .pointer (some ⟨p, 0, none⟩) ∧ Cl w' p g s ∧ w.heap.size ≤ p ∧ w.heap.size ≤ g ∧ Fr w w' []
def NewClT (w : World) (s : CS) (u : Value) (w' : World) : Prop := ∃ p g, u = .tuple #[.pointer (some ⟨p, 0, none⟩), .nilIface] ∧ Cl w' p g s ∧ w.heap.size ≤ p ∧ w.heap.size ≤ g ∧ Fr w w' []
theorem CS.new_get (n j : Nat) : (CS.new n).l.getD j 0 = 0 := by
  unfold CS.new; simp only [List.getD, List.getElem?_replicate]; split <;> rfl
theorem u8s_zero (n : Nat) : u8s (List.replicate n 0) = List.replicate n (.int .u8 0) := by simp [u8s]

set_option maxRecDepth 100000 in
theorem cellNew_ok (n : Nat) (w : World) (h1 : 1 ≤ n) (h2 : n ≤ 4096) :
    Calls Tryd.prog 7 #[.int .i64 (n : Int)] w (Gives (NewClT w (CS.new n))) := by
  have hmk := make_zero w n (by omega) (n : Int) rfl
  obtain ⟨Z, hZ⟩ : ∃ Z, Z = (u8s (List.replicate n 0)).toArray := ⟨_, rfl⟩
  rw [← hZ] at hmk
  have HZ := Lib.hid hZ
  clear hZ
  go_enter Tryd.func7, Tryd.ntmps7
  go_wp2
  go_ret2
  refine gives ⟨w.heap.size + 1, w.heap.size, by simp, ⟨?_, ?_, ?_⟩, by omega, by omega, ?_⟩
  · simp only [CS.new, List.length_replicate]
    have := heap_alloc_new (w.alloc (.cells Z 5)) (.cells #[.slice (some ⟨w.heap.size, 0, none⟩) n n, .int .i64 0, .bool false, .int .i64 0] 51)
    simpa using this
  · rw [Below.heap_alloc _ _ _ (by simp), heap_alloc_new, HZ.out]; rfl
  · simp [CS.ok, CS.new]; omega
  · exact (Fr.alloc _ _ _).trans (Fr.alloc _ _ _)
set_option maxRecDepth 100000 in
theorem cellNew_bad (n : Int) (w : World) (A : Nat → Addr) (B : Nat) (hE : E13 w A B) (h : n < 1 ∨ 4096 < n) :
    Calls Tryd.prog 7 #[.int .i64 n] w fun e w' => e = .returned (.tuple #[.pointer none, ev A 3]) ∧ Drawn w w' := by
  have e3 : w.cell? ⟨0, 0, none⟩ = some (ev A 3) := (hE.cell 2 (by decide)).1
  clear hE
  rcases h with h | h
  · go_enter Tryd.func7, Tryd.ntmps7
    go_wp2
    go_quiet (fail)
    go_wp2
    go_ret2
    exact ⟨rfl, _, rfl⟩
  · have h' : ¬ n < 1 := by omega
    go_enter Tryd.func7, Tryd.ntmps7
    go_wp2
    go_quiet (fail)
    go_wp2
    go_ret2
    exact ⟨rfl, _, rfl⟩

set_option maxRecDepth 100000 in
theorem cellClone_any (p g : Nat) (s : CS) (w : World) (h : Cl w p g s) :
    Calls Tryd.prog 9 #[.pointer (some ⟨p, 0, none⟩)] w (Gives (NewCl w s)) := by
  obtain ⟨c0, c1, c2, c3⟩ := h.cells
  have o := h.2.2
  obtain ⟨o1, o2, _⟩ := o
  obtain ⟨hpl, hgl⟩ := h.lt
  have hmk := fun W => make_zero W s.l.length (by omega) (s.l.length : Int) rfl
  obtain ⟨Z, hZ⟩ : ∃ Z, Z = u8s (List.replicate s.l.length 0) := ⟨_, rfl⟩
  rw [← hZ] at hmk
  have HZ := Lib.hid hZ
  clear hZ
  go_enter Tryd.func9, Tryd.ntmps9
  go_wp2
  generalize hW : World.alloc (World.alloc w _) _ = W1
  have hrow : W1.heap[w.heap.size]? = some (.cells #[.slice (some ⟨w.heap.size + 1, 0, none⟩) s.l.length s.l.length, .int .i64 s.a, .bool s.d, .int .i64 s.n] 51 (0, 0)) := by
    rw [← hW, Below.heap_alloc _ _ _ (by simp)]; exact heap_alloc_new w _
  have hz : W1.heap[w.heap.size + 1]? = some (.cells Z.toArray 5 (0, 0)) := by
    rw [← hW]
    have := heap_alloc_new (w.alloc (.cells #[.slice (some ⟨w.heap.size + 1, 0, none⟩) s.l.length s.l.length, .int .i64 s.a, .bool s.d, .int .i64 s.n] 51)) (.cells Z.toArray 5)
    simpa using this
  have hf : Fr w W1 [] := by rw [← hW]; exact (Fr.alloc _ _ _).trans (Fr.alloc _ _ _)
  have hC := h.fr hf (by simp) (by simp)
  have d0 := hC.cells.1
  have d1 : W1.cell? ⟨w.heap.size, 0, none⟩ = some (.slice (some ⟨w.heap.size + 1, 0, none⟩) s.l.length s.l.length) := by rw [cell_of_row W1 _ 0 _ _ _ hrow]; rfl
  have hsrc : 0 < (u8s s.l).length → (some (⟨w.heap.size + 1, 0, none⟩ : Addr)) = some ⟨w.heap.size + 1, 0, none⟩ ∧ ∃ ad, (some (⟨g, 0, none⟩ : Addr)) = some ad ∧ ∀ j v, (u8s s.l)[j]? = some v → W1.cell? (ad.add j) = some v := by
    intro _
    refine ⟨rfl, _, rfl, fun j v hj => ?_⟩
    have hjl : j < s.l.length := by have := (List.getElem?_eq_some_iff.1 hj).1; simpa using this
    rw [Addr.add_lit, Nat.zero_add, (hC.byte j hjl).1, ← hj]
    simp [u8s, hjl]
  have hlen : Z.length = s.l.length := by rw [HZ.out]; simp
  have HW := Lib.hid hW
  have HR := Lib.hid hrow
  have HZZ := Lib.hid hz
  have HF := Lib.hid hf
  have HS := Lib.hid hsrc
  have HL := Lib.hid (show 0 + (u8s s.l).length ≤ Z.length by rw [hlen]; simp)
  have HM := Lib.hid (show (u8s s.l).length = Nat.min s.l.length s.l.length by simp)
  have H := Lib.hid h
  clear hW hrow hz hf hC hsrc hmk c0 c1 c2 c3 h hlen
  go_region_law (refine step_copy_splice rfl (.tmp 15) (.tmp 19) 31 31 rfl 5 Tryd.underlying31 sizeU8 _ _ _ _ _ _ rfl rfl (w.heap.size + 1) 0 Z 5 HZZ.out (u8s s.l) HM.out HS.out HL.out (u8s_one s.l) (w.heap.size + 1) W1 (Below.refl _ W1).drew (Nat.le_refl _) ?_; intro w2 hg2 hb2)
  all_goals go_wp2
  all_goals go_ret
  all_goals
    refine gives ⟨w.heap.size, w.heap.size + 1, rfl, ⟨?_, ?_, H.out.2.2⟩, by omega, by omega, ?_⟩
    · rw [hb2.block _ (by omega)]; exact HR.out
    · rw [hg2.out]
      have e : splice Z 0 (u8s s.l) = u8s s.l := by
        unfold splice
        rw [List.drop_of_length_le (by have := HL.out; have := HM.out; rw [HZ.out]; simp)]
        simp
      rw [e]
    · exact HF.out.new (S := []) (T := [w.heap.size + 1]) ⟨hb2.os, hb2.tape, hb2.output, hb2.size, fun k hk hn => hb2.block k (by rcases Nat.lt_or_ge k (w.heap.size + 1) with h' | h'; exact h'; rw [← HW.out] at hk; simp at hk hn; omega)⟩ (by simp)
end Go.Proofs.YtnpnkadfnidmmaaDoor
