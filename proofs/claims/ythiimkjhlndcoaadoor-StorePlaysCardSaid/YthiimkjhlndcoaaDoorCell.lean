/- A memory whose power may go (package cell): what it holds, each of its calls. -/
import Derived.Test.YthiimkjhlndcoaaDoorErr
namespace Go.Proofs.YthiimkjhlndcoaaDoor
open Go.RowKit

/-- What a cell holds: its bytes, how many Puts till the power goes (0: none), whether it is down, how many did well. -/
structure CS where
  l : List Int
  a : Int
  d : Bool
  n : Int
def CS.ok (s : CS) : Prop := 1 ≤ s.l.length ∧ s.l.length ≤ 4096 ∧ 0 ≤ s.a ∧ s.a ≤ 9223372036854775807 ∧ 0 ≤ s.n ∧ s.n ≤ 9223372036854775807

/-- The cell at block p, its bytes at block g. -/
def Cl (w : World) (p g : Nat) (s : CS) : Prop :=
  w.heap[p]? = some (.cells #[.slice (some ⟨g, 0, none⟩) s.l.length s.l.length, .int .i64 s.a, .bool s.d, .int .i64 s.n] 66 (0, 0)) ∧
  w.heap[g]? = some (.cells (u8s s.l).toArray 5 (0, 0)) ∧ s.ok
theorem Cl.ne {w : World} {p g : Nat} {s : CS} (h : Cl w p g s) : p ≠ g := by
  intro e; subst e; have := h.1.symm.trans h.2.1; simp at this
theorem Cl.fr {w w' : World} {p g : Nat} {s : CS} {S : List Nat} (h : Cl w p g s) (hf : Fr w w' S) (hp : p ∉ S) (hg : g ∉ S) : Cl w' p g s := ⟨hf.heap h.1 hp, hf.heap h.2.1 hg, h.2.2⟩
theorem Cl.lt {w : World} {p g : Nat} {s : CS} (h : Cl w p g s) : p < w.heap.size ∧ g < w.heap.size := ⟨(Array.getElem?_eq_some_iff.1 h.1).1, (Array.getElem?_eq_some_iff.1 h.2.1).1⟩
theorem Cl.cells {w : World} {p g : Nat} {s : CS} (h : Cl w p g s) : w.cell? ⟨p, 0, none⟩ = some (.slice (some ⟨g, 0, none⟩) s.l.length s.l.length) ∧ w.cell? ⟨p, 1, none⟩ = some (.int .i64 s.a) ∧ w.cell? ⟨p, 2, none⟩ = some (.bool s.d) ∧ w.cell? ⟨p, 3, none⟩ = some (.int .i64 s.n) := by
  refine ⟨?_, ?_, ?_, ?_⟩ <;> (rw [cell_of_row w p _ _ _ _ h.1]; rfl)
theorem Cl.frozen {w : World} {p g : Nat} {s : CS} (h : Cl w p g s) (j : Nat) : w.frozen? ⟨p, j, none⟩ = false := frozen_of_row w p j _ _ h.1
theorem Cl.byte {w : World} {p g : Nat} {s : CS} (h : Cl w p g s) (j : Nat) (hj : j < s.l.length) : w.cell? ⟨g, j, none⟩ = some (.int .u8 (s.l.getD j 0)) ∧ w.frozen? ⟨g, j, none⟩ = false := by
  refine ⟨?_, frozen_of_row w g j _ _ h.2.1⟩
  rw [cell_of_row w g j _ _ _ h.2.1]; simp [u8s, hj]
/-- A field is written. -/
theorem Cl.arm {w : World} {p g : Nat} {s : CS} (h : Cl w p g s) (a : Int) (ha : 0 ≤ a ∧ a ≤ 9223372036854775807) : Cl (w.setCell ⟨p, 1, none⟩ (.int .i64 a)) p g { s with a := a } := by
  refine ⟨by rw [heap_setCell_same w p 1 _ _ _ h.1]; simp, ?_, ?_⟩
  · rw [heap_setCell_other w _ g _ (fun e => h.ne e.symm)]; exact h.2.1
  · obtain ⟨o1, o2, o3, o4, o5⟩ := h.2.2; exact ⟨o1, o2, ha.1, ha.2, o5⟩
theorem Cl.dn {w : World} {p g : Nat} {s : CS} (h : Cl w p g s) (d : Bool) : Cl (w.setCell ⟨p, 2, none⟩ (.bool d)) p g { s with d := d } := by
  refine ⟨by rw [heap_setCell_same w p 2 _ _ _ h.1]; simp, ?_, h.2.2⟩
  rw [heap_setCell_other w _ g _ (fun e => h.ne e.symm)]; exact h.2.1
theorem Cl.wr {w : World} {p g : Nat} {s : CS} (h : Cl w p g s) (n : Int) (hn : 0 ≤ n ∧ n ≤ 9223372036854775807) : Cl (w.setCell ⟨p, 3, none⟩ (.int .i64 n)) p g { s with n := n } := by
  refine ⟨by rw [heap_setCell_same w p 3 _ _ _ h.1]; simp, ?_, ?_⟩
  · rw [heap_setCell_other w _ g _ (fun e => h.ne e.symm)]; exact h.2.1
  · obtain ⟨o1, o2, o3, o4, o5⟩ := h.2.2; exact ⟨o1, o2, o3, o4, hn⟩
theorem Cl.by' {w : World} {p g : Nat} {s : CS} (h : Cl w p g s) (j : Nat) (x : Int) : Cl (w.setCell ⟨g, j, none⟩ (.int .u8 x)) p g { s with l := s.l.set j x } := by
  refine ⟨?_, ?_, ?_⟩
  · rw [heap_setCell_other w _ p _ h.ne]; simpa using h.1
  · rw [heap_setCell_same w g j _ _ _ h.2.1]; simp [u8s, List.map_set]
  · have := h.2.2; unfold CS.ok at this ⊢; simpa using this

/-- The power is asked for: what is left, and whether it is gone. -/
def CS.fg (s : CS) : CS := if s.a = 0 then s else { s with a := s.a - 1, d := decide (s.a = 1) }
def CS.gone (s : CS) : Bool := decide (s.a = 1)
def CS.has (s : CS) (i : Int) : Bool := decide (0 ≤ i ∧ i < (s.l.length : Int))

theorem findsGone_any (p g : Nat) (s : CS) (w : World) (h : Cl w p g s) :
    Calls Tryd.prog 27 #[.pointer (some ⟨p, 0, none⟩)] w fun e w' => e = .returned (.bool s.gone) ∧ Cl w' p g s.fg ∧ Fr w w' [p] := by
  obtain ⟨c0, c1, c2, c3⟩ := h.cells
  have f1 := h.frozen 1
  have f2 := h.frozen 2
  obtain ⟨o1, o2, o3, o4, o5, o6⟩ := h.2.2
  obtain ⟨a, ha⟩ : ∃ a, a = s.a := ⟨_, rfl⟩
  rw [← ha] at c1 o3 o4
  by_cases h0 : a = 0
  · have HR : Hid (s.gone = false ∧ s.fg = s) := ⟨by unfold CS.gone; simp; omega, by unfold CS.fg; rw [if_pos (by omega)]⟩
    subst h0
    clear ha
    go_enter Tryd.func27, Tryd.ntmps27
    go_wp2
    go_ret
    rw [HR.out.1, HR.out.2]
    exact ⟨rfl, h, Fr.refl _ _⟩
  · have hb : ((a : Int) == 0) = false := by simp; omega
    have h1 : 1 ≤ a := by omega
    by_cases h1' : a = 1
    · have HR : Hid (s.gone = true ∧ s.fg = { s with a := 0, d := true }) := ⟨by unfold CS.gone; simp; omega, by unfold CS.fg; rw [if_neg (by omega)]; simp; omega⟩
      subst h1'
      have H := Lib.hid h
      clear ha h
      go_enter Tryd.func27, Tryd.ntmps27
      go_wp2
      go_ret
      rw [HR.out.1, HR.out.2]
      exact ⟨rfl, (H.out.arm 0 (by omega)).dn true, (Fr.setCell _ _ _ _ (by simp)).trans (Fr.setCell _ _ _ _ (by simp))⟩
    · have HR : Hid (s.gone = false ∧ s.fg = { s with a := a - 1, d := false }) := ⟨by unfold CS.gone; simp; omega, by unfold CS.fg; rw [if_neg (by omega)]; simp; omega⟩
      have hb1 : ((a - 1 : Int) == 0) = false := by simp; omega
      have H := Lib.hid h
      clear ha h h0 h1'
      go_enter Tryd.func27, Tryd.ntmps27
      go_wp2
      go_ret
      rw [HR.out.1, HR.out.2]
      exact ⟨rfl, (H.out.arm (a - 1) (by omega)).dn false, (Fr.setCell _ _ _ _ (by simp)).trans (Fr.setCell _ _ _ _ (by simp))⟩

theorem has_any (p g : Nat) (s : CS) (i : Int) (w : World) (h : Cl w p g s) (b : Bool) (hb : s.has i = b) :
    Calls Tryd.prog 28 #[.pointer (some ⟨p, 0, none⟩), .int .i64 i] w fun e w' => e = .returned (.bool b) ∧ w = w' := by
  obtain ⟨c0, c1, c2, c3⟩ := h.cells
  obtain ⟨o1, o2, _⟩ := h.2.2
  clear c1 c2 c3 h
  unfold CS.has at hb
  obtain ⟨n, hn⟩ : ∃ n, n = s.l.length := ⟨_, rfl⟩
  rw [← hn] at c0 o1 o2 hb
  have HN := Lib.hid hn
  clear hn
  cases b with
  | true =>
    have hb' := of_decide_eq_true hb
    obtain ⟨h0, h1⟩ := hb'
    clear hb
    go_enter Tryd.func28, Tryd.ntmps28
    go_wp2
    go_ret
    exact ⟨rfl, rfl⟩
  | false =>
    have hb' := of_decide_eq_false hb
    clear hb
    by_cases h0 : 0 ≤ i
    · have h1 : ¬ i < (n : Int) := by omega
      clear hb'
      go_enter Tryd.func28, Tryd.ntmps28
      go_wp2
      go_ret
      exact ⟨rfl, rfl⟩
    · clear hb'
      go_enter Tryd.func28, Tryd.ntmps28
      go_wp2
      go_ret
      exact ⟨rfl, rfl⟩

/-- A Put: what is held behind it, and the error's number (0: none). -/
def CS.put (s : CS) (i x : Int) : CS × Nat :=
  if s.d = true then (s, 5)
  else if s.gone = true then (s.fg, 5)
  else if s.has i = true then ({ s.fg with l := s.l.set i.toNat x, n := s.n + 1 }, 0)
  else (s.fg, 6)
theorem CS.fg_l (s : CS) : s.fg.l = s.l := by unfold CS.fg; split <;> rfl
theorem CS.fg_n (s : CS) : s.fg.n = s.n := by unfold CS.fg; split <;> rfl
theorem CS.fg_has (s : CS) (i : Int) : s.fg.has i = s.has i := by unfold CS.has; rw [s.fg_l]

set_option maxRecDepth 100000 in
theorem cellPut_any {is : List Nat} (p g : Nat) (s : CS) (i x : Int) (w : World) (A : Nat → Addr) (B : Nat) (h : Cl w p g s) (hn : s.n < 9223372036854775807) (hE : EV is w A B) (hBp : B ≤ p) (hBg : B ≤ g) (hs : ∀ i ∈ [4, 5], i ∈ is := by decide) :
    Calls Tryd.prog 11 #[.pointer (some ⟨p, 0, none⟩), .int .i64 i, .int .u8 x] w fun e w' => e = .returned (ev A (s.put i x).2) ∧ Cl w' p g (s.put i x).1 ∧ Fr w w' [p, g] := by
  obtain ⟨c0, c1, c2, c3⟩ := h.cells
  have he : ∀ W, Fr w W [p, g] → W.cell? ⟨1, 0, none⟩ = some (ev A 5) ∧ W.cell? ⟨2, 0, none⟩ = some (ev A 6) := by
    intro W hW
    have hE' := hE.fr hW (by simp; omega)
    exact ⟨(hE'.cell 4 (hs 4 (by decide))).1, (hE'.cell 5 (hs 5 (by decide))).1⟩
  have HEV := Lib.hid he
  have he0 := he w (Fr.refl _ _)
  obtain ⟨e5, e6⟩ := he0
  clear he hE c1 c3
  obtain ⟨v5, hv5⟩ : ∃ v, v = ev A 5 := ⟨_, rfl⟩
  obtain ⟨v6, hv6⟩ : ∃ v, v = ev A 6 := ⟨_, rfl⟩
  rw [← hv5, ← hv6] at HEV
  rw [← hv5] at e5
  rw [← hv6] at e6
  have H5 := Lib.hid hv5
  have H6 := Lib.hid hv6
  clear hv5 hv6
  have H := Lib.hid h
  obtain ⟨d, hd⟩ : ∃ d, d = s.d := ⟨_, rfl⟩
  rw [← hd] at c2
  cases d with
  | true =>
    have HR : Hid (s.put i x = (s, 5)) := by show _ = _; unfold CS.put; rw [if_pos hd.symm]
    clear hd h
    go_enter Tryd.func11, Tryd.ntmps11
    go_wp2
    go_ret
    rw [HR.out, H5.out]
    exact ⟨rfl, H.out, Fr.refl _ _⟩
  | false =>
    have HC := Lib.hid (findsGone_any p g s w h)
    have hsz := h.lt
    obtain ⟨b, hb⟩ : ∃ b, b = s.gone := ⟨_, rfl⟩
    rw [← hb] at HC
    cases b with
    | true =>
      have HR : Hid (s.put i x = (s.fg, 5)) := by show _ = _; unfold CS.put; rw [if_neg (by rw [← hd]; simp), if_pos hb.symm]
      clear hd hb h
      go_enter Tryd.func11, Tryd.ntmps11
      go_wp2_with fail
      refine HC.out.mono ?_
      rintro e w1 ⟨rfl, h1, hf1⟩
      have hg5 := (HEV.out w1 (hf1.mono (by simp))).1
      have HF := Lib.hid hf1
      clear hf1
      go_wp2
      go_ret
      rw [HR.out, H5.out]
      exact ⟨rfl, h1, HF.out.mono (by simp)⟩
    | false =>
      obtain ⟨m, hm⟩ : ∃ m, m = s.has i := ⟨_, rfl⟩
      cases m with
      | false =>
        have HR : Hid (s.put i x = (s.fg, 6)) := by show _ = _; unfold CS.put; rw [if_neg (by rw [← hd]; simp), if_neg (by rw [← hb]; simp), if_neg (by rw [← hm]; simp)]
        have HM := Lib.hid hm
        clear hd hb h hm
        go_enter Tryd.func11, Tryd.ntmps11
        go_wp2_with fail
        refine HC.out.mono ?_
        rintro e w1 ⟨rfl, h1, hf1⟩
        have hg6 := (HEV.out w1 (hf1.mono (by simp))).2
        have HF := Lib.hid hf1
        have H1 := Lib.hid h1
        clear hf1 h1
        go_wp2_with fail
        refine (has_any p g s.fg i w1 H1.out false (by rw [s.fg_has]; exact HM.out.symm)).mono ?_
        rintro e w2 ⟨rfl, rfl⟩
        go_wp2
        go_ret
        rw [HR.out, H6.out]
        exact ⟨rfl, H1.out, HF.out.mono (by simp)⟩
      | true =>
        have HR : Hid (s.put i x = ({ s.fg with l := s.l.set i.toNat x, n := s.n + 1 }, 0)) := by show _ = _; unfold CS.put; rw [if_neg (by rw [← hd]; simp), if_neg (by rw [← hb]; simp), if_pos hm.symm]
        have HM := Lib.hid hm
        have hi := of_decide_eq_true hm.symm
        obtain ⟨hi0, hi1⟩ := hi
        obtain ⟨k, hk⟩ := Int.eq_ofNat_of_zero_le hi0
        subst hk
        have hkl : k < s.l.length := by omega
        clear hd hb h hm hi0 hi1
        go_enter Tryd.func11, Tryd.ntmps11
        go_wp2_with fail
        refine HC.out.mono ?_
        rintro e w1 ⟨rfl, h1, hf1⟩
        have HF := Lib.hid hf1
        have H1 := Lib.hid h1
        clear hf1 h1
        go_wp2_with fail
        refine (has_any p g s.fg k w1 H1.out true (by rw [s.fg_has]; exact HM.out.symm)).mono ?_
        rintro e w2 ⟨rfl, rfl⟩
        obtain ⟨k0, k1, k2, k3⟩ := H1.out.cells
        rw [s.fg_l] at k0
        rw [s.fg_n] at k3
        have kf := H1.out.frozen 3
        have hkb := H1.out.byte k (by rw [s.fg_l]; exact hkl)
        obtain ⟨kb, kbf⟩ := hkb
        have ko := H.out.2.2
        obtain ⟨_, ko2, _, _, ko5, _⟩ := ko
        have hne := H1.out.ne
        clear c0 c2 e5 e6 k1 k2
        obtain ⟨n, hnn⟩ : ∃ n, n = s.n := ⟨_, rfl⟩
        obtain ⟨L, hL⟩ : ∃ L, L = s.l.length := ⟨_, rfl⟩
        rw [← hnn] at k3 hn ko5
        rw [← hL] at k0 hkl ko2
        have HN := Lib.hid hnn
        have HL := Lib.hid hL
        clear hnn hL
        go_wp2
        go_ret
        rw [HR.out]
        refine ⟨rfl, ?_, (HF.out.mono (by simp)).trans ((Fr.setCell _ _ _ _ (by simp)).trans (Fr.setCell _ _ _ _ (by simp)))⟩
        have := (H1.out.by' k x).wr (n + 1) (by omega)
        rw [s.fg_l, HN.out] at this
        rw [HN.out]
        simpa using this
end Go.Proofs.YthiimkjhlndcoaaDoor
