/- The document's cell (a helper of the statements): what it holds, each of its calls. -/
import Derived.Test.YthiimkjhlndcoaaDoorCell2
import Derived.Test.YthiimkjhlndcoaaDoorSee3
namespace Go.Proofs.YthiimkjhlndcoaaDoor
open Go.RowKit

/-- The document's cell at block p, its bytes at block g. -/
def RCl (w : World) (p g : Nat) (s : CS) : Prop :=
  w.heap[p]? = some (.cells #[.slice (some ⟨g, 0, none⟩) s.l.length s.l.length, .int .i64 s.a, .int .i64 s.n, .bool s.d] 44 (0, 0)) ∧
  w.heap[g]? = some (.cells (u8s s.l).toArray 5 (0, 0)) ∧ s.ok
theorem RCl.ne {w : World} {p g : Nat} {s : CS} (h : RCl w p g s) : p ≠ g := by
  intro e; subst e; have := h.1.symm.trans h.2.1; simp at this
theorem RCl.fr {w w' : World} {p g : Nat} {s : CS} {S : List Nat} (h : RCl w p g s) (hf : Fr w w' S) (hp : p ∉ S) (hg : g ∉ S) : RCl w' p g s := ⟨hf.heap h.1 hp, hf.heap h.2.1 hg, h.2.2⟩
theorem RCl.lt {w : World} {p g : Nat} {s : CS} (h : RCl w p g s) : p < w.heap.size ∧ g < w.heap.size := ⟨(Array.getElem?_eq_some_iff.1 h.1).1, (Array.getElem?_eq_some_iff.1 h.2.1).1⟩
theorem RCl.cells {w : World} {p g : Nat} {s : CS} (h : RCl w p g s) : w.cell? ⟨p, 0, none⟩ = some (.slice (some ⟨g, 0, none⟩) s.l.length s.l.length) ∧ w.cell? ⟨p, 1, none⟩ = some (.int .i64 s.a) ∧ w.cell? ⟨p, 2, none⟩ = some (.int .i64 s.n) ∧ w.cell? ⟨p, 3, none⟩ = some (.bool s.d) := by
  refine ⟨?_, ?_, ?_, ?_⟩ <;> (rw [cell_of_row w p _ _ _ _ h.1]; rfl)
theorem RCl.frozen {w : World} {p g : Nat} {s : CS} (h : RCl w p g s) (j : Nat) : w.frozen? ⟨p, j, none⟩ = false := frozen_of_row w p j _ _ h.1
theorem RCl.byte {w : World} {p g : Nat} {s : CS} (h : RCl w p g s) (j : Nat) (hj : j < s.l.length) : w.cell? ⟨g, j, none⟩ = some (.int .u8 (s.l.getD j 0)) ∧ w.frozen? ⟨g, j, none⟩ = false := by
  refine ⟨?_, frozen_of_row w g j _ _ h.2.1⟩
  rw [cell_of_row w g j _ _ _ h.2.1]; simp [u8s, hj]
theorem RCl.arm {w : World} {p g : Nat} {s : CS} (h : RCl w p g s) (a : Int) (ha : 0 ≤ a ∧ a ≤ 9223372036854775807) : RCl (w.setCell ⟨p, 1, none⟩ (.int .i64 a)) p g { s with a := a } := by
  refine ⟨by rw [heap_setCell_same w p 1 _ _ _ h.1]; simp, ?_, ?_⟩
  · rw [heap_setCell_other w _ g _ (fun e => h.ne e.symm)]; exact h.2.1
  · obtain ⟨o1, o2, o3, o4, o5⟩ := h.2.2; exact ⟨o1, o2, ha.1, ha.2, o5⟩
theorem RCl.dn {w : World} {p g : Nat} {s : CS} (h : RCl w p g s) (d : Bool) : RCl (w.setCell ⟨p, 3, none⟩ (.bool d)) p g { s with d := d } := by
  refine ⟨by rw [heap_setCell_same w p 3 _ _ _ h.1]; simp, ?_, h.2.2⟩
  rw [heap_setCell_other w _ g _ (fun e => h.ne e.symm)]; exact h.2.1
theorem RCl.wr {w : World} {p g : Nat} {s : CS} (h : RCl w p g s) (n : Int) (hn : 0 ≤ n ∧ n ≤ 9223372036854775807) : RCl (w.setCell ⟨p, 2, none⟩ (.int .i64 n)) p g { s with n := n } := by
  refine ⟨by rw [heap_setCell_same w p 2 _ _ _ h.1]; simp, ?_, ?_⟩
  · rw [heap_setCell_other w _ g _ (fun e => h.ne e.symm)]; exact h.2.1
  · obtain ⟨o1, o2, o3, o4, o5⟩ := h.2.2; exact ⟨o1, o2, o3, o4, hn⟩
theorem RCl.by' {w : World} {p g : Nat} {s : CS} (h : RCl w p g s) (j : Nat) (x : Int) : RCl (w.setCell ⟨g, j, none⟩ (.int .u8 x)) p g { s with l := s.l.set j x } := by
  refine ⟨?_, ?_, ?_⟩
  · rw [heap_setCell_other w _ p _ h.ne]; simpa using h.1
  · rw [heap_setCell_same w g j _ _ _ h.2.1]; simp [u8s, List.map_set]
  · have := h.2.2; unfold CS.ok at this ⊢; simpa using this

set_option maxHeartbeats 1000000 in
set_option maxRecDepth 100000 in
theorem refPut_cell (p g : Nat) (s : CS) (i x : Int) (w : World) (h : RCl w p g s) (hn : s.n < 9223372036854775807) :
    Calls Tryd.prog 19 #[.pointer (some ⟨p, 0, none⟩), .int .i64 i, .int .u8 x] w fun e w' => e = .returned (.int .i64 (fcode (s.put i x).2)) ∧ RCl w' p g (s.put i x).1 ∧ Fr w w' [p, g] := by
  obtain ⟨c0, c1, c2, c3⟩ := h.cells
  have f1 := h.frozen 1
  have f2 := h.frozen 2
  have f3 := h.frozen 3
  have hne := h.ne
  have H := Lib.hid h
  obtain ⟨o1, o2, o3, o4, o5, o6⟩ := h.2.2
  obtain ⟨d, hd⟩ : ∃ d, d = s.d := ⟨_, rfl⟩
  obtain ⟨n, hnn⟩ : ∃ n, n = s.n := ⟨_, rfl⟩
  obtain ⟨L, hL⟩ : ∃ L, L = s.l.length := ⟨_, rfl⟩
  obtain ⟨a, ha⟩ : ∃ a, a = s.a := ⟨_, rfl⟩
  rw [← hd] at c3
  rw [← hnn] at c2 hn o5 o6
  rw [← hL] at c0 o1 o2
  rw [← ha] at c1 o3 o4
  have HN := Lib.hid hnn
  have HL := Lib.hid hL
  clear hnn hL
  cases d with
  | true =>
    have HR : Hid (s.put i x = (s, 5)) := by show _ = _; unfold CS.put; rw [if_pos hd.symm]
    clear hd h ha
    go_enter Tryd.func19, Tryd.ntmps19
    go_wp2
    go_ret
    rw [HR.out]
    exact ⟨rfl, H.out, Fr.refl _ _⟩
  | false =>
    have HD := Lib.hid hd
    by_cases ha1 : a = 1
    · have HR : Hid (s.put i x = ({ s with a := 0, d := true }, 5)) := by
        show _ = _; unfold CS.put CS.gone CS.fg
        rw [if_neg (by rw [← hd]; simp), if_pos (by simp; omega), if_neg (by omega)]
        simp; omega
      subst ha1
      clear hd ha h
      go_enter Tryd.func19, Tryd.ntmps19
      go_wp2
      go_ret
      rw [HR.out]
      exact ⟨rfl, (H.out.arm 0 (by omega)).dn true, (Fr.setCell _ _ _ _ (by simp)).trans (Fr.setCell _ _ _ _ (by simp))⟩
    · have hgone : s.gone = false := by unfold CS.gone; simp; omega
      have hfg : ∀ X : CS × Nat, X = (if s.has i = true then ({ s.fg with l := s.l.set i.toNat x, n := s.n + 1 }, 0) else (s.fg, 6)) → s.put i x = X := by
        intro X hX; rw [hX]; unfold CS.put; rw [if_neg (by rw [← hd]; simp), if_neg (by rw [hgone]; simp)]
      obtain ⟨m, hm⟩ : ∃ m, m = s.has i := ⟨_, rfl⟩
      rw [← hm] at hfg
      have H' : ∃ W1, (0 < a → W1 = w.setCell ⟨p, 1, none⟩ (.int .i64 (a - 1))) ∧ (¬ 0 < a → W1 = w) := by
        by_cases h0 : 0 < a
        · exact ⟨_, fun _ => rfl, fun h => absurd h0 h⟩
        · exact ⟨_, fun h => absurd h h0, fun _ => rfl⟩
      clear H'
      by_cases h0 : 0 < a
      · have hF : s.fg = { s with a := a - 1 } := by
          unfold CS.fg; rw [if_neg (by omega)]
          have : decide (s.a = 1) = s.d := by rw [← hd]; simp; omega
          rw [this, ← ha]
        have H1 := Lib.hid (h.arm (a - 1) (by omega))
        have hb1 : ((a - 1 : Int) == 0) = false := by simp; omega
        cases m with
        | false =>
          have HR : Hid (s.put i x = (s.fg, 6)) := hfg _ (by simp)
          have HFG := Lib.hid hF
          have hm' := of_decide_eq_false hm.symm
          have hcase : i < 0 ∨ (0 ≤ i ∧ (L : Int) ≤ i) := by have := HL.out; omega
          clear hfg hd ha h hgone hF hm hm' ha1
          rcases hcase with hi | ⟨hi0, hi1⟩
          · go_enter Tryd.func19, Tryd.ntmps19
            go_wp2
            go_ret
            rw [HR.out]
            refine ⟨rfl, ?_, Fr.setCell _ _ _ _ (by simp)⟩
            rw [HFG.out]; exact H1.out
          · go_enter Tryd.func19, Tryd.ntmps19
            go_wp2
            go_ret
            rw [HR.out]
            refine ⟨rfl, ?_, Fr.setCell _ _ _ _ (by simp)⟩
            rw [HFG.out]; exact H1.out
        | true =>
          have HR : Hid (s.put i x = ({ s.fg with l := s.l.set i.toNat x, n := s.n + 1 }, 0)) := hfg _ (by simp)
          have HFG := Lib.hid hF
          have hm' := of_decide_eq_true hm.symm
          obtain ⟨hi0, hi1⟩ := hm'
          obtain ⟨k, hk⟩ := Int.eq_ofNat_of_zero_le hi0
          subst hk
          have hkl : k < L := by have := HL.out; omega
          obtain ⟨kb, kbf⟩ := h.byte k (by have := HL.out; omega)
          clear hfg hd ha h hgone hF hm ha1 hi0 hi1
          go_enter Tryd.func19, Tryd.ntmps19
          go_wp2
          go_ret
          rw [HR.out]
          refine ⟨rfl, ?_, (Fr.setCell _ _ _ _ (by simp)).trans ((Fr.setCell _ _ _ _ (by simp)).trans (Fr.setCell _ _ _ _ (by simp)))⟩
          rw [HFG.out]
          have := (H1.out.by' k x).wr (n + 1) (by omega)
          rw [HN.out] at this ⊢
          simpa using this
      · have ha0 : a = 0 := by omega
        subst ha0
        have hF : s.fg = s := by unfold CS.fg; rw [if_pos ha.symm]
        cases m with
        | false =>
          have HR : Hid (s.put i x = (s.fg, 6)) := hfg _ (by simp)
          have HFG := Lib.hid hF
          have hm' := of_decide_eq_false hm.symm
          have hcase : i < 0 ∨ (0 ≤ i ∧ (L : Int) ≤ i) := by have := HL.out; omega
          clear hfg hd ha h hgone hF hm hm' ha1
          rcases hcase with hi | ⟨hi0, hi1⟩
          · go_enter Tryd.func19, Tryd.ntmps19
            go_wp2
            go_ret
            rw [HR.out]
            refine ⟨rfl, ?_, Fr.refl _ _⟩
            rw [HFG.out]; exact H.out
          · go_enter Tryd.func19, Tryd.ntmps19
            go_wp2
            go_ret
            rw [HR.out]
            refine ⟨rfl, ?_, Fr.refl _ _⟩
            rw [HFG.out]; exact H.out
        | true =>
          have HR : Hid (s.put i x = ({ s.fg with l := s.l.set i.toNat x, n := s.n + 1 }, 0)) := hfg _ (by simp)
          have HFG := Lib.hid hF
          have hm' := of_decide_eq_true hm.symm
          obtain ⟨hi0, hi1⟩ := hm'
          obtain ⟨k, hk⟩ := Int.eq_ofNat_of_zero_le hi0
          subst hk
          have hkl : k < L := by have := HL.out; omega
          obtain ⟨kb, kbf⟩ := h.byte k (by have := HL.out; omega)
          clear hfg hd ha h hgone hF hm ha1 hi0 hi1
          go_enter Tryd.func19, Tryd.ntmps19
          go_wp2
          go_ret
          rw [HR.out]
          refine ⟨rfl, ?_, (Fr.setCell _ _ _ _ (by simp)).trans (Fr.setCell _ _ _ _ (by simp))⟩
          rw [HFG.out]
          have := (H.out.by' k x).wr (n + 1) (by omega)
          rw [HN.out] at this ⊢
          simpa using this

end Go.Proofs.YthiimkjhlndcoaaDoor
