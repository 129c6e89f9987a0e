import Derived.Test.YtiflmkicnkbeaaaGreatDoorZp02
import Derived.RegionTactic
import Derived.ChangeAlike
import Derived.LaidEql
import Derived.LaidEqlPtr
import Derived.Laws.ResultCell
import Derived.Deep.RegionWith
import Derived.Lib.EndianBits
import Derived.IntWalk
import Derived.Deep.RegionHeld3
import Derived.Deep.DeepCutAuto
import Derived.Deep.CutBlock
namespace Go.Proofs.YtiflmkicnkbeaaaGreatDoor
open Go.RowKit
def ev (A : Nat → Addr) (c : Nat) : Value := if c = 0 then .nilIface else .iface 417 (.pointer (some (A c)))
def E3 (w : World) (A : Nat → Addr) (B : Nat) : Prop :=
 (w.cell? ⟨7, 0, none⟩ = some (ev A 1) ∧ 7 < B) ∧ (w.cell? ⟨8, 0, none⟩ = some (ev A 2) ∧ 8 < B) ∧
 (w.cell? ⟨0, 0, none⟩ = some (ev A 3) ∧ 0 < B)
def Drawn (w w' : World) : Prop := ∃ n, w' = w.drewN n
theorem Drawn.fr {w w' : World} (h : Drawn w w') (S : List Nat) : Fr w w' S := by
 obtain ⟨n, rfl⟩ := h; exact Fr.drewN w n S
def errVars : List Nat := [7, 8, 0, 3, 5, 6, 1, 2, 9, 10, 4, 11, 12]
theorem ev_some (A : Nat → Addr) (c : Nat) : ev A (c + 1) = .iface 417 (.pointer (some (A (c + 1)))) := rfl
structure EV (is : List Nat) (w : World) (A : Nat → Addr) (B : Nat) : Prop where
 cell : ∀ i, i ∈ is → w.cell? ⟨errVars.getD i 0, 0, none⟩ = some (ev A (i + 1)) ∧ errVars.getD i 0 < B
theorem EV.fr {is : List Nat} {w w' : World} {A : Nat → Addr} {B : Nat} {S : List Nat} (h : EV is w A B) (hg : Fr w w' S) (hr : ∀ r ∈ S, B ≤ r) : EV is w' A B :=
 ⟨fun i hi => ⟨hg.cell (h.cell i hi).1 (fun e => by have := hr _ e; have := (h.cell i hi).2; simp only at *; omega), (h.cell i hi).2⟩⟩
end Go.Proofs.YtiflmkicnkbeaaaGreatDoor
namespace Go.Proofs.YtiflmkicnkbeaaaGreatDoor
open Go.RowKit
structure CS where
 l : List Int
 a : Int
 d : Bool
 n : Int
def CS.ok (s : CS) : Prop := 1 ≤ s.l.length ∧ s.l.length ≤ 4096 ∧ 0 ≤ s.a ∧ s.a ≤ 9223372036854775807 ∧ 0 ≤ s.n ∧ s.n ≤ 9223372036854775807
def Cl (w : World) (p g : Nat) (s : CS) : Prop :=
 w.heap[p]? = some (.cells #[.slice (some ⟨g, 0, none⟩) s.l.length s.l.length, .int .i64 s.a, .bool s.d, .int .i64 s.n] 143 (0, 0)) ∧
 w.heap[g]? = some (.cells (u8s s.l).toArray 5 (0, 0)) ∧ s.ok
theorem Cl.ne {w : World} {p g : Nat} {s : CS} (h : Cl w p g s) : p ≠ g := by
 intro e; subst e; have := h.1.symm.trans h.2.1; simp at this
theorem Cl.fr {w w' : World} {p g : Nat} {s : CS} {S : List Nat} (h : Cl w p g s) (hf : Fr w w' S) (hp : p ∉ S) (hg : g ∉ S) : Cl w' p g s := ⟨hf.heap h.1 hp, hf.heap h.2.1 hg, h.2.2⟩
theorem Cl.lt {w : World} {p g : Nat} {s : CS} (h : Cl w p g s) : p < w.heap.size ∧ g < w.heap.size := ⟨(Array.getElem?_eq_some_iff.1 h.1).1, (Array.getElem?_eq_some_iff.1 h.2.1).1⟩
theorem Cl.cells {w : World} {p g : Nat} {s : CS} (h : Cl w p g s) : w.cell? ⟨p, 0, none⟩ = some (.slice (some ⟨g, 0, none⟩) s.l.length s.l.length) ∧ w.cell? ⟨p, 1, none⟩ = some (.int .i64 s.a) ∧ w.cell? ⟨p, 2, none⟩ = some (.bool s.d) ∧ w.cell? ⟨p, 3, none⟩ = some (.int .i64 s.n) := by
 refine ⟨?_, ?_, ?_, ?_⟩ <;> (rw [cell_of_row w p _ _ _ _ h.1]; rfl)
theorem Cl.frozen {w : World} {p g : Nat} {s : CS} (h : Cl w p g s) (j : Nat) : w.frozen? ⟨p, j, none⟩ = false := frozen_of_row w p j _ _ h.1
theorem Cl.byte {w : World} {p g : Nat} {s : CS} (h : Cl w p g s) (j : Nat) (hj : j < s.l.length) : w.cell? ⟨g, j, none⟩ = some (.int .u8 (s.l.getD j 0)) ∧ w.frozen? ⟨g, j, none⟩ = false := by
 refine ⟨?_, frozen_of_row w g j _ _ h.2.1⟩
 rw [cell_of_row w g j _ _ _ h.2.1]; simp [u8s, hj]
theorem Cl.arm {w : World} {p g : Nat} {s : CS} (h : Cl w p g s) (a : Int) (ha : 0 ≤ a ∧ a ≤ 9223372036854775807) : Cl (w.setCell ⟨p, 1, none⟩ (.int .i64 a)) p g { s with a := a } := by
 refine ⟨by rw [heap_setCell_same w p 1 _ _ _ h.1]; simp, ?_, ?_⟩
 · rw [heap_setCell_other w _ g _ (fun e => h.ne e.symm)]; exact h.2.1
 · obtain ⟨o1, o2, o3, o4, o5⟩ := h.2.2; exact ⟨o1, o2, ha.1, ha.2, o5⟩
theorem Cl.dn {w : World} {p g : Nat} {s : CS} (h : Cl w p g s) (d : Bool) : Cl (w.setCell ⟨p, 2, none⟩ (.bool d)) p g { s with d := d } := by
 refine ⟨by rw [heap_setCell_same w p 2 _ _ _ h.1]; simp, ?_, h.2.2⟩
 rw [heap_setCell_other w _ g _ (fun e => h.ne e.symm)]; exact h.2.1
theorem Cl.wr {w : World} {p g : Nat} {s : CS} (h : Cl w p g s) (n : Int) (hn : 0 ≤ n ∧ n ≤ 9223372036854775807) : Cl (w.setCell ⟨p, 3, none⟩ (.int .i64 n)) p g { s with n := n } := by
 refine ⟨by rw [heap_setCell_same w p 3 _ _ _ h.1]; simp, ?_, ?_⟩
 · rw [heap_setCell_other w _ g _ (fun e => h.ne e.symm)]; exact h.2.1
 · obtain ⟨o1, o2, o3, o4, o5⟩ := h.2.2; exact ⟨o1, o2, o3, o4, hn⟩
theorem Cl.by' {w : World} {p g : Nat} {s : CS} (h : Cl w p g s) (j : Nat) (x : Int) : Cl (w.setCell ⟨g, j, none⟩ (.int .u8 x)) p g { s with l := s.l.set j x } := by
 refine ⟨?_, ?_, ?_⟩
 · rw [heap_setCell_other w _ p _ h.ne]; simpa using h.1
 · rw [heap_setCell_same w g j _ _ _ h.2.1]; simp [u8s, List.map_set]
 · have := h.2.2; unfold CS.ok at this ⊢; simpa using this
def CS.fg (s : CS) : CS := if s.a = 0 then s else { s with a := s.a - 1, d := decide (s.a = 1) }
def CS.gone (s : CS) : Bool := decide (s.a = 1)
def CS.has (s : CS) (i : Int) : Bool := decide (0 ≤ i ∧ i < (s.l.length : Int))
theorem findsGone_any (p g : Nat) (s : CS) (w : World) (h : Cl w p g s) :
 Calls Tryz.prog 294 #[.pointer (some ⟨p, 0, none⟩)] w fun e w' => e = .returned (.bool s.gone) ∧ Cl w' p g s.fg ∧ Fr w w' [p] := by
 obtain ⟨c0, c1, c2, c3⟩ := h.cells
 have f1 := h.frozen 1
 have f2 := h.frozen 2
 obtain ⟨o1, o2, o3, o4, o5, o6⟩ := h.2.2
 obtain ⟨a, ha⟩ : ∃ a, a = s.a := ⟨_, rfl⟩
 rw [← ha] at c1 o3 o4
 by_cases h0 : a = 0
 · have HR : Hid (s.gone = false ∧ s.fg = s) := ⟨by unfold CS.gone; simp; omega, by unfold CS.fg; rw [if_pos (by omega)]⟩
   subst h0
   clear ha
   go_enter Tryz.func294, Tryz.ntmps294
   go_wp2
   go_ret
   rw [HR.out.1, HR.out.2]
   exact ⟨rfl, h, Fr.refl _ _⟩
 · have hb : ((a : Int) == 0) = false := by simp; omega
   have h1 : 1 ≤ a := by omega
   by_cases h1' : a = 1
   · have HR : Hid (s.gone = true ∧ s.fg = { s with a := 0, d := true }) := ⟨by unfold CS.gone; simp; omega, by unfold CS.fg; rw [if_neg (by omega)]; simp; omega⟩
     subst h1'
     have H := Lib.hid h
     clear ha h
     go_enter Tryz.func294, Tryz.ntmps294
     go_wp2
     go_ret
     rw [HR.out.1, HR.out.2]
     exact ⟨rfl, (H.out.arm 0 (by omega)).dn true, (Fr.setCell _ _ _ _ (by simp)).trans (Fr.setCell _ _ _ _ (by simp))⟩
   · have HR : Hid (s.gone = false ∧ s.fg = { s with a := a - 1, d := false }) := ⟨by unfold CS.gone; simp; omega, by unfold CS.fg; rw [if_neg (by omega)]; simp; omega⟩
     have hb1 : ((a - 1 : Int) == 0) = false := by simp; omega
     have H := Lib.hid h
     clear ha h h0 h1'
     go_enter Tryz.func294, Tryz.ntmps294
     go_wp2
     go_ret
     rw [HR.out.1, HR.out.2]
     exact ⟨rfl, (H.out.arm (a - 1) (by omega)).dn false, (Fr.setCell _ _ _ _ (by simp)).trans (Fr.setCell _ _ _ _ (by simp))⟩
theorem chas_any (p g : Nat) (s : CS) (i : Int) (w : World) (h : Cl w p g s) (b : Bool) (hb : s.has i = b) :
 Calls Tryz.prog 293 #[.pointer (some ⟨p, 0, none⟩), .int .i64 i] w fun e w' => e = .returned (.bool b) ∧ w = w' := by
 obtain ⟨c0, c1, c2, c3⟩ := h.cells
 obtain ⟨o1, o2, _⟩ := h.2.2
 clear c1 c2 c3 h
 unfold CS.has at hb
 obtain ⟨n, hn⟩ : ∃ n, n = s.l.length := ⟨_, rfl⟩
 rw [← hn] at c0 o1 o2 hb
 have HN := Lib.hid hn
 clear hn
 cases b with
 | true =>
   have hb' := of_decide_eq_true hb
   obtain ⟨h0, h1⟩ := hb'
   clear hb
   go_enter Tryz.func293, Tryz.ntmps293
   go_wp2
   go_ret
   exact ⟨rfl, rfl⟩
 | false =>
   have hb' := of_decide_eq_false hb
   clear hb
   by_cases h0 : 0 ≤ i
   · have h1 : ¬ i < (n : Int) := by omega
     clear hb'
     go_enter Tryz.func293, Tryz.ntmps293
     go_wp2
     go_ret
     exact ⟨rfl, rfl⟩
   · clear hb'
     go_enter Tryz.func293, Tryz.ntmps293
     go_wp2
     go_ret
     exact ⟨rfl, rfl⟩
def CS.put (s : CS) (i x : Int) : CS × Nat :=
 if s.d = true then (s, 5)
 else if s.gone = true then (s.fg, 5)
 else if s.has i = true then ({ s.fg with l := s.l.set i.toNat x, n := s.n + 1 }, 0)
 else (s.fg, 6)
theorem CS.fg_l (s : CS) : s.fg.l = s.l := by unfold CS.fg; split <;> rfl
theorem CS.fg_n (s : CS) : s.fg.n = s.n := by unfold CS.fg; split <;> rfl
theorem CS.fg_has (s : CS) (i : Int) : s.fg.has i = s.has i := by unfold CS.has; rw [s.fg_l]
set_option maxRecDepth 100000 in
theorem cellPut_any {is : List Nat} (p g : Nat) (s : CS) (i x : Int) (w : World) (A : Nat → Addr) (B : Nat) (h : Cl w p g s) (hn : s.n < 9223372036854775807) (hE : EV is w A B) (hBp : B ≤ p) (hBg : B ≤ g) (hs : ∀ i ∈ [4, 5], i ∈ is := by decide) :
 Calls Tryz.prog 221 #[.pointer (some ⟨p, 0, none⟩), .int .i64 i, .int .u8 x] w fun e w' => e = .returned (ev A (s.put i x).2) ∧ Cl w' p g (s.put i x).1 ∧ Fr w w' [p, g] := by
 obtain ⟨c0, c1, c2, c3⟩ := h.cells
 have he : ∀ W, Fr w W [p, g] → W.cell? ⟨5, 0, none⟩ = some (ev A 5) ∧ W.cell? ⟨6, 0, none⟩ = some (ev A 6) := by
  intro W hW
  have hE' := hE.fr hW (by simp; omega)
  exact ⟨(hE'.cell 4 (hs 4 (by decide))).1, (hE'.cell 5 (hs 5 (by decide))).1⟩
 have HEV := Lib.hid he
 have he0 := he w (Fr.refl _ _)
 obtain ⟨e5, e6⟩ := he0
 clear he hE c1 c3
 obtain ⟨v5, hv5⟩ : ∃ v, v = ev A 5 := ⟨_, rfl⟩
 obtain ⟨v6, hv6⟩ : ∃ v, v = ev A 6 := ⟨_, rfl⟩
 rw [← hv5, ← hv6] at HEV
 rw [← hv5] at e5
 rw [← hv6] at e6
 have H5 := Lib.hid hv5
 have H6 := Lib.hid hv6
 clear hv5 hv6
 have H := Lib.hid h
 obtain ⟨d, hd⟩ : ∃ d, d = s.d := ⟨_, rfl⟩
 rw [← hd] at c2
 cases d with
 | true =>
   have HR : Hid (s.put i x = (s, 5)) := by show _ = _; unfold CS.put; rw [if_pos hd.symm]
   clear hd h
   go_enter Tryz.func221, Tryz.ntmps221
   go_wp2
   go_ret
   rw [HR.out, H5.out]
   exact ⟨rfl, H.out, Fr.refl _ _⟩
 | false =>
   have HC := Lib.hid (findsGone_any p g s w h)
   have hsz := h.lt
   obtain ⟨b, hb⟩ : ∃ b, b = s.gone := ⟨_, rfl⟩
   rw [← hb] at HC
   cases b with
   | true =>
     have HR : Hid (s.put i x = (s.fg, 5)) := by show _ = _; unfold CS.put; rw [if_neg (by rw [← hd]; simp), if_pos hb.symm]
     clear hd hb h
     go_enter Tryz.func221, Tryz.ntmps221
     go_wp2_with fail
     refine HC.out.mono ?_
     rintro e w1 ⟨rfl, h1, hf1⟩
     have hg5 := (HEV.out w1 (hf1.mono (by simp))).1
     have HF := Lib.hid hf1
     clear hf1
     go_wp2
     go_ret
     rw [HR.out, H5.out]
     exact ⟨rfl, h1, HF.out.mono (by simp)⟩
   | false =>
     obtain ⟨m, hm⟩ : ∃ m, m = s.has i := ⟨_, rfl⟩
     cases m with
     | false =>
       have HR : Hid (s.put i x = (s.fg, 6)) := by show _ = _; unfold CS.put; rw [if_neg (by rw [← hd]; simp), if_neg (by rw [← hb]; simp), if_neg (by rw [← hm]; simp)]
       have HM := Lib.hid hm
       clear hd hb h hm
       go_enter Tryz.func221, Tryz.ntmps221
       go_wp2_with fail
       refine HC.out.mono ?_
       rintro e w1 ⟨rfl, h1, hf1⟩
       have hg6 := (HEV.out w1 (hf1.mono (by simp))).2
       have HF := Lib.hid hf1
       have H1 := Lib.hid h1
       clear hf1 h1
       go_wp2_with fail
       refine (chas_any p g s.fg i w1 H1.out false (by rw [s.fg_has]; exact HM.out.symm)).mono ?_
       rintro e w2 ⟨rfl, rfl⟩
       go_wp2
       go_ret
       rw [HR.out, H6.out]
       exact ⟨rfl, H1.out, HF.out.mono (by simp)⟩
     | true =>
       have HR : Hid (s.put i x = ({ s.fg with l := s.l.set i.toNat x, n := s.n + 1 }, 0)) := by show _ = _; unfold CS.put; rw [if_neg (by rw [← hd]; simp), if_neg (by rw [← hb]; simp), if_pos hm.symm]
       have HM := Lib.hid hm
       have hi := of_decide_eq_true hm.symm
       obtain ⟨hi0, hi1⟩ := hi
       obtain ⟨k, hk⟩ := Int.eq_ofNat_of_zero_le hi0
       subst hk
       have hkl : k < s.l.length := by omega
       clear hd hb h hm hi0 hi1
       go_enter Tryz.func221, Tryz.ntmps221
       go_wp2_with fail
       refine HC.out.mono ?_
       rintro e w1 ⟨rfl, h1, hf1⟩
       have HF := Lib.hid hf1
       have H1 := Lib.hid h1
       clear hf1 h1
       go_wp2_with fail
       refine (chas_any p g s.fg k w1 H1.out true (by rw [s.fg_has]; exact HM.out.symm)).mono ?_
       rintro e w2 ⟨rfl, rfl⟩
       obtain ⟨k0, k1, k2, k3⟩ := H1.out.cells
       rw [s.fg_l] at k0
       rw [s.fg_n] at k3
       have kf := H1.out.frozen 3
       have hkb := H1.out.byte k (by rw [s.fg_l]; exact hkl)
       obtain ⟨kb, kbf⟩ := hkb
       have ko := H.out.2.2
       obtain ⟨_, ko2, _, _, ko5, _⟩ := ko
       have hne := H1.out.ne
       clear c0 c2 e5 e6 k1 k2
       obtain ⟨n, hnn⟩ : ∃ n, n = s.n := ⟨_, rfl⟩
       obtain ⟨L, hL⟩ : ∃ L, L = s.l.length := ⟨_, rfl⟩
       rw [← hnn] at k3 hn ko5
       rw [← hL] at k0 hkl ko2
       have HN := Lib.hid hnn
       have HL := Lib.hid hL
       clear hnn hL
       go_wp2
       go_ret
       rw [HR.out]
       refine ⟨rfl, ?_, (HF.out.mono (by simp)).trans ((Fr.setCell _ _ _ _ (by simp)).trans (Fr.setCell _ _ _ _ (by simp)))⟩
       have := (H1.out.by' k x).wr (n + 1) (by omega)
       rw [s.fg_l, HN.out] at this
       rw [HN.out]
       simpa using this
end Go.Proofs.YtiflmkicnkbeaaaGreatDoor
namespace Go.Proofs.YtiflmkicnkbeaaaGreatDoor
open Go.RowKit
def CS.get (s : CS) (i : Int) : Int × Nat := if s.d = true then (0, 5) else if s.has i = true then (s.l.getD i.toNat 0, 0) else (0, 6)
set_option maxRecDepth 100000 in
theorem cellGet_any {is : List Nat} (p g : Nat) (s : CS) (i : Int) (w : World) (A : Nat → Addr) (B : Nat) (h : Cl w p g s) (hE : EV is w A B) (hs : ∀ i ∈ [4, 5], i ∈ is := by decide) :
 Calls Tryz.prog 219 #[.pointer (some ⟨p, 0, none⟩), .int .i64 i] w fun e w' => e = .returned (.tuple #[.int .u8 (s.get i).1, ev A (s.get i).2]) ∧ Drawn w w' := by
 obtain ⟨c0, c1, c2, c3⟩ := h.cells
 have e5 := (hE.cell 4 (hs 4 (by decide))).1
 have e6 := (hE.cell 5 (hs 5 (by decide))).1
 have e5 : w.cell? ⟨5, 0, none⟩ = some (ev A 5) := e5
 have e6 : w.cell? ⟨6, 0, none⟩ = some (ev A 6) := e6
 clear c1 c3 hE
 obtain ⟨v5, hv5⟩ : ∃ v, v = ev A 5 := ⟨_, rfl⟩
 obtain ⟨v6, hv6⟩ : ∃ v, v = ev A 6 := ⟨_, rfl⟩
 rw [← hv5] at e5
 rw [← hv6] at e6
 have H5 := Lib.hid hv5
 have H6 := Lib.hid hv6
 have H := Lib.hid h
 clear hv5 hv6
 obtain ⟨d, hd⟩ : ∃ d, d = s.d := ⟨_, rfl⟩
 rw [← hd] at c2
 cases d with
 | true =>
   have HR : Hid (s.get i = (0, 5)) := by show _ = _; unfold CS.get; rw [if_pos hd.symm]
   clear hd h
   go_enter Tryz.func219, Tryz.ntmps219
   go_wp2
   go_quiet (fail)
   go_wp2
   go_ret2
   rw [HR.out, H5.out]
   exact ⟨rfl, _, rfl⟩
 | false =>
   obtain ⟨m, hm⟩ : ∃ m, m = s.has i := ⟨_, rfl⟩
   have HC := Lib.hid (chas_any p g s i w h m hm.symm)
   cases m with
   | false =>
     have HR : Hid (s.get i = (0, 6)) := by show _ = _; unfold CS.get; rw [if_neg (by rw [← hd]; simp), if_neg (by rw [← hm]; simp)]
     clear hd hm h
     go_enter Tryz.func219, Tryz.ntmps219
     go_wp2_with fail
     refine HC.out.mono ?_
     rintro e w2 ⟨rfl, rfl⟩
     go_wp2
     go_quiet (fail)
     go_wp2
     go_ret2
     rw [HR.out, H6.out]
     exact ⟨rfl, _, rfl⟩
   | true =>
     have hi := of_decide_eq_true hm.symm
     obtain ⟨hi0, hi1⟩ := hi
     obtain ⟨k, hk⟩ := Int.eq_ofNat_of_zero_le hi0
     subst hk
     have hkl : k < s.l.length := by omega
     have HR : Hid (s.get k = (s.l.getD k 0, 0)) := by show _ = _; unfold CS.get; rw [if_neg (by rw [← hd]; simp), if_pos hm.symm]; rfl
     obtain ⟨y, hy⟩ : ∃ y, y = s.l.getD k 0 := ⟨_, rfl⟩
     obtain ⟨kb, _⟩ := h.byte k hkl
     rw [← hy] at kb HR
     obtain ⟨_, o2, _⟩ := h.2.2
     obtain ⟨L, hL⟩ : ∃ L, L = s.l.length := ⟨_, rfl⟩
     rw [← hL] at c0 hkl o2
     clear hd hm h hi0 hi1 hL hy
     go_enter Tryz.func219, Tryz.ntmps219
     go_wp2_with fail
     refine HC.out.mono ?_
     rintro e w2 ⟨rfl, rfl⟩
     go_wp2
     go_ret2
     rw [HR.out]
     exact ⟨rfl, 0, rfl⟩
theorem cellSize_any (p g : Nat) (s : CS) (w : World) (h : Cl w p g s) :
 Calls Tryz.prog 143 #[.pointer (some ⟨p, 0, none⟩)] w fun e w' => e = .returned (.int .i64 (s.l.length : Int)) ∧ w = w' := by
 obtain ⟨c0, c1, c2, c3⟩ := h.cells
 clear h c1 c2 c3
 go_enter Tryz.func143, Tryz.ntmps143
 go_wp2
 go_ret
 exact ⟨rfl, rfl⟩
def CS.new (n : Nat) : CS := ⟨List.replicate n 0, 0, false, 0⟩
def NewClT (w : World) (s : CS) (u : Value) (w' : World) : Prop := ∃ p g, u = .tuple #[.pointer (some ⟨p, 0, none⟩), .nilIface] ∧ Cl w' p g s ∧ w.heap.size ≤ p ∧ w.heap.size ≤ g ∧ Fr w w' []
theorem CS.new_get (n j : Nat) : (CS.new n).l.getD j 0 = 0 := by
 unfold CS.new; simp only [List.getD, List.getElem?_replicate]; split <;> rfl
set_option maxRecDepth 100000 in
theorem cellNew_ok (n : Nat) (w : World) (h1 : 1 ≤ n) (h2 : n ≤ 4096) :
 Calls Tryz.prog 22 #[.int .i64 (n : Int)] w (Gives (NewClT w (CS.new n))) := by
 have hmk := make_zero w n (by omega) (n : Int) rfl
 obtain ⟨Z, hZ⟩ : ∃ Z, Z = (u8s (List.replicate n 0)).toArray := ⟨_, rfl⟩
 rw [← hZ] at hmk
 have HZ := Lib.hid hZ
 clear hZ
 go_enter Tryz.func22, Tryz.ntmps22
 go_wp2
 go_ret2
 refine gives ⟨w.heap.size + 1, w.heap.size, by simp, ⟨?_, ?_, ?_⟩, by omega, by omega, ?_⟩
 · simp only [CS.new, List.length_replicate]
   have := heap_alloc_new (w.alloc (.cells Z 5)) (.cells #[.slice (some ⟨w.heap.size, 0, none⟩) n n, .int .i64 0, .bool false, .int .i64 0] 143)
   simpa using this
 · rw [Below.heap_alloc _ _ _ (by simp), heap_alloc_new, HZ.out]; rfl
 · simp [CS.ok, CS.new]; omega
 · exact (Fr.alloc _ _ _).trans (Fr.alloc _ _ _)
end Go.Proofs.YtiflmkicnkbeaaaGreatDoor
namespace Go.Proofs.YtiflmkicnkbeaaaGreatDoor
def By8 (l : List Int) : Prop := ∀ x ∈ l, 0 ≤ x ∧ x ≤ 255
theorem By8.get {l : List Int} (h : By8 l) (i : Nat) : 0 ≤ l.getD i 0 ∧ l.getD i 0 ≤ 255 := by
 by_cases hi : i < l.length
 · exact h _ (by simp [hi])
 · simp [List.getD, show l.length ≤ i by omega]
theorem By8.zero (n : Nat) : By8 (List.replicate n 0) := by intro x hx; simp at hx; omega
def numAt (l : List Int) (i : Nat) : Int := ((((l.getD i 0 * 256 + l.getD (i+1) 0) * 256 + l.getD (i+2) 0) * 256 + l.getD (i+3) 0) * 256 + l.getD (i+4) 0) * 256 + l.getD (i+5) 0
theorem numAt_range {l : List Int} (h : By8 l) (i : Nat) : 0 ≤ numAt l i ∧ numAt l i ≤ 281474976710655 := by
 have h0 := h.get i; have h1 := h.get (i+1); have h2 := h.get (i+2); have h3 := h.get (i+3); have h4 := h.get (i+4); have h5 := h.get (i+5)
 unfold numAt; omega
def byteOf (n : Int) (j : Nat) : Int := n / 2 ^ (8 * (5 - j)) % 256
def CS.run : CS → List (Nat × Int) → CS × Nat
 | s, [] => (s, 0)
 | s, o :: ops => if (s.put o.1 o.2).2 = 0 then CS.run (s.put o.1 o.2).1 ops else s.put o.1 o.2
theorem CS.run_append (ops ops' : List (Nat × Int)) : ∀ s : CS, s.run (ops ++ ops') = if (s.run ops).2 = 0 then (s.run ops).1.run ops' else s.run ops := by
 induction ops with
 | nil => intro s; simp [CS.run]
 | cons o ops ih =>
   intro s
   simp only [List.cons_append, CS.run]
   by_cases h : (s.put o.1 o.2).2 = 0
   · simp only [h, if_true]; exact ih _
   · simp only [h, if_false]
theorem CS.run_one (s : CS) (i : Nat) (x : Int) : s.run [(i, x)] = s.put i x := by
 simp only [CS.run]; split
 · rename_i h; rw [← h]
 · rfl
theorem CS.put_n (s : CS) (i : Nat) (x : Int) : (s.put i x).1.n ≤ s.n + 1 := by
 unfold CS.put; split
 · simp only; omega
 · split
   · rw [s.fg_n]; omega
   · split
     · simp
     · rw [s.fg_n]; omega
theorem CS.put_code (s : CS) (i : Int) (x : Int) : (s.put i x).2 ≤ 6 := by
 unfold CS.put; split <;> (try split) <;> (try split) <;> simp
theorem CS.run_n (ops : List (Nat × Int)) : ∀ s : CS, (s.run ops).1.n ≤ s.n + ops.length := by
 induction ops with
 | nil => intro s; simp [CS.run]
 | cons o ops ih =>
   intro s; simp only [CS.run, List.length_cons]
   have := s.put_n o.1 o.2
   have h2 := ih (s.put o.1 o.2).1
   split <;> omega
theorem CS.run_code (ops : List (Nat × Int)) : ∀ s : CS, (s.run ops).2 ≤ 6 := by
 induction ops with
 | nil => intro s; simp [CS.run]
 | cons o ops ih => intro s; simp only [CS.run]; split; exact ih _; exact s.put_code _ _
def setAll (l : List Int) (ops : List (Nat × Int)) : List Int := ops.foldl (fun l o => l.set o.1 o.2) l
theorem CS.put_fine (s : CS) (i : Nat) (x : Int) (hd : s.d = false) (hi : i < s.l.length) (ha : s.a ≠ 1) : s.put i x = ({ s with l := s.l.set i x, a := if s.a = 0 then 0 else s.a - 1, n := s.n + 1 }, 0) := by
 unfold CS.put CS.gone CS.has
 rw [if_neg (by rw [hd]; simp), if_neg (by simpa using ha), if_pos (by simp; omega)]
 unfold CS.fg
 split
 · rename_i h; simp [h]
 · rename_i h; simp [ha]; rw [hd]
theorem CS.run_fine (ops : List (Nat × Int)) : ∀ s : CS, s.d = false → (∀ o ∈ ops, o.1 < s.l.length) → (s.a = 0 ∨ (ops.length : Int) < s.a) → s.run ops = ({ s with l := setAll s.l ops, a := if s.a = 0 then 0 else s.a - ops.length, n := s.n + ops.length }, 0) := by
 induction ops with
 | nil => intro s _ _ _; obtain ⟨l, a, d, n⟩ := s; simp_all [CS.run, setAll]
 | cons o ops ih =>
   intro s hd hi ha
   simp only [List.length_cons] at ha
   have e := s.put_fine o.1 o.2 hd (hi o (by simp)) (by omega)
   simp only [CS.run, e, if_true]
   refine (ih _ ?_ (fun o' h' => ?_) ?_).trans ?_
   · exact hd
   · have := hi o' (by simp [h']); simpa using this
   · simp only; split <;> omega
   simp only [setAll, List.foldl_cons, List.length_cons]
   by_cases h0 : s.a = 0
   · simp [h0]; omega
   · have h1 : ¬ s.a - 1 = 0 := by omega
     simp only [h0, h1, if_false]
     simp; omega
def six (i : Nat) (n : Int) : List (Nat × Int) := [(i, byteOf n 0), (i+1, byteOf n 1), (i+2, byteOf n 2), (i+3, byteOf n 3), (i+4, byteOf n 4), (i+5, byteOf n 5)]
theorem six_take (i : Nat) (n : Int) (j : Nat) (hj : j < 6) : (six i n).take (j + 1) = (six i n).take j ++ [(i + j, byteOf n j)] := by
 match j, hj with
 | 0, _ | 1, _ | 2, _ | 3, _ | 4, _ | 5, _ => rfl
theorem run_six (s : CS) (i : Nat) (n : Int) (j : Nat) (hj : j < 6) (h : (s.run ((six i n).take j)).2 = 0) :
 s.run ((six i n).take (j + 1)) = (s.run ((six i n).take j)).1.put ((i + j : Nat) : Int) (byteOf n j) := by
 rw [six_take i n j hj, CS.run_append, if_pos h, CS.run_one]
theorem run_stop (s : CS) (ops : List (Nat × Int)) (j : Nat) (h : ¬ (s.run (ops.take j)).2 = 0) : s.run ops = s.run (ops.take j) := by
 have e : s.run (ops.take j ++ ops.drop j) = s.run (ops.take j) := by rw [CS.run_append, if_neg h]
 rwa [List.take_append_drop] at e
def plan (k : Nat) (c n : Int) : List (Nat × Int) := (13 * k, 0) :: (six (13 * k + 1) c ++ (six (13 * k + 7) n ++ [(13 * k, 1)]))
theorem plan_len (k : Nat) (c n : Int) : (plan k c n).length = 14 := rfl
theorem plan_in (k : Nat) (c n : Int) (hk : k < 2) : ∀ o ∈ plan k c n, o.1 < 26 := by
 intro o ho; simp [plan, six] at ho; rcases ho with h | h | h | h | h | h | h | h | h | h | h | h | h | h <;> (subst h; simp only; omega)
theorem run_plan (s s1 s2 s3 : CS) (k : Nat) (c n : Int) (h1 : s.put ((13 * k : Nat) : Int) 0 = (s1, 0)) (h2 : s1.run (six (13 * k + 1) c) = (s2, 0)) (h3 : s2.run (six (13 * k + 7) n) = (s3, 0)) :
 s.run (plan k c n) = s3.put ((13 * k : Nat) : Int) 1 := by
 unfold plan
 simp only [CS.run, h1, if_true, CS.run_append, h2, h3]
 split
 · rename_i h; rw [← h]
 · rfl
theorem run_plan1 (s s1 : CS) (k : Nat) (c n : Int) (d : Nat) (h1 : s.put ((13 * k : Nat) : Int) 0 = (s1, d + 1)) : s.run (plan k c n) = (s1, d + 1) := by
 unfold plan; simp only [CS.run, h1]; rw [if_neg (by omega)]
theorem run_plan2 (s s1 s2 : CS) (k : Nat) (c n : Int) (d : Nat) (h1 : s.put ((13 * k : Nat) : Int) 0 = (s1, 0)) (h2 : s1.run (six (13 * k + 1) c) = (s2, d + 1)) : s.run (plan k c n) = (s2, d + 1) := by
 unfold plan; simp only [CS.run, h1, if_true, CS.run_append, h2]; simp
theorem run_plan3 (s s1 s2 s3 : CS) (k : Nat) (c n : Int) (d : Nat) (h1 : s.put ((13 * k : Nat) : Int) 0 = (s1, 0)) (h2 : s1.run (six (13 * k + 1) c) = (s2, 0)) (h3 : s2.run (six (13 * k + 7) n) = (s3, d + 1)) :
 s.run (plan k c n) = (s3, d + 1) := by
 unfold plan; simp only [CS.run, h1, if_true, CS.run_append, h2, h3]; simp
structure SR where
 c : Int
 n : Int
 k : Int
def SR.in (R : SR) : Prop := 0 ≤ R.c ∧ R.c ≤ 281474976710655 ∧ 0 ≤ R.n ∧ R.n ≤ 281474976710655 ∧ (R.k = -1 ∨ R.k = 0 ∨ R.k = 1)
def SR.beat (R : SR) (l : List Int) (k : Nat) : Bool := decide (l.getD (13 * k) 0 = 1 ∧ (R.k = -1 ∨ R.c + R.n < numAt l (13 * k + 1) + numAt l (13 * k + 7)))
def SR.step (R : SR) (l : List Int) (k : Nat) : SR := if R.beat l k = true then ⟨numAt l (13 * k + 1), numAt l (13 * k + 7), (k : Int)⟩ else R
def SR.none : SR := ⟨0, 0, -1⟩
def openOf (l : List Int) : SR := (SR.none.step l 0).step l 1
theorem SR.step_in {R : SR} (h : R.in) {l : List Int} (hl : By8 l) (k : Nat) (hk : k < 2) : (R.step l k).in := by
 unfold SR.step
 split
 · have h1 := numAt_range hl (13 * k + 1); have h2 := numAt_range hl (13 * k + 7)
   exact ⟨h1.1, h1.2, h2.1, h2.2, by simp only; omega⟩
 · exact h
theorem SR.none_in : SR.none.in := by unfold SR.in SR.none; simp
theorem openOf_in {l : List Int} (hl : By8 l) : (openOf l).in := SR.step_in (SR.step_in SR.none_in hl 0 (by omega)) hl 1 (by omega)
def SR.spare (R : SR) : Nat := if R.k = 0 then 1 else 0
def SR.code (R : SR) (c n : Int) : Nat := if c < 0 ∨ n < 0 ∨ 281474976710655 < c ∨ 281474976710655 < n then 3 else if c < R.c ∨ n < R.n ∨ (c = R.c ∧ n = R.n) then 8 else 0
def SR.save (R : SR) (s : CS) (c n : Int) : CS × SR × Nat :=
 if R.code c n = 0 then
  (if (s.run (plan R.spare c n)).2 = 0 then ((s.run (plan R.spare c n)).1, ⟨c, n, (R.spare : Int)⟩, 0) else ((s.run (plan R.spare c n)).1, R, (s.run (plan R.spare c n)).2))
 else (s, R, R.code c n)
theorem beat_no (R : SR) (l : List Int) (k : Nat) (h : ¬ l.getD (13 * k) 0 = 1) : R.step l k = R := by
 unfold SR.step SR.beat; rw [if_neg (by simp only [decide_eq_true_eq]; exact fun h' => h h'.1)]
end Go.Proofs.YtiflmkicnkbeaaaGreatDoor
namespace Go.Proofs.YtiflmkicnkbeaaaGreatDoor
open Go.RowKit
def numL (l : List Int) : Int := l.foldl (fun n x => n * 256 + x) 0
theorem numL_snoc (l : List Int) (x : Int) : numL (l ++ [x]) = numL l * 256 + x := by simp [numL]
theorem fold_range (l : List Int) (h : By8 l) : ∀ a : Int, 0 ≤ a → 0 ≤ l.foldl (fun n x => n * 256 + x) a ∧ l.foldl (fun n x => n * 256 + x) a + 1 ≤ (a + 1) * 256 ^ l.length := by
 induction l with
 | nil => intro a ha; simp; omega
 | cons y l ih =>
   intro a ha
   have hy := h y (by simp)
   obtain ⟨h1, h2⟩ := ih (fun z hz => h z (by simp [hz])) (a * 256 + y) (by omega)
   refine ⟨h1, Int.le_trans h2 ?_⟩
   rw [List.length_cons, Int.pow_succ, Int.mul_comm (256 ^ l.length) 256, ← Int.mul_assoc]
   exact Int.mul_le_mul_of_nonneg_right (by omega) (by exact Int.le_of_lt (Int.pow_pos (by decide)))
theorem numL_range (l : List Int) (h : By8 l) (k : Nat) (hk : l.length ≤ k) : 0 ≤ numL l ∧ numL l + 1 ≤ 256 ^ k := by
 obtain ⟨h1, h2⟩ := fold_range l h 0 (by omega)
 refine ⟨h1, ?_⟩
 have : (256 : Int) ^ l.length ≤ 256 ^ k := by
  have h3 := Nat.pow_le_pow_right (show 0 < 256 by decide) hk
  have e : ∀ m : Nat, ((256 ^ m : Nat) : Int) = (256 : Int) ^ m := fun m => Int.natCast_pow 256 m
  rw [← e, ← e]; exact Int.ofNat_le.2 h3
 unfold numL; omega
theorem By8.take {l : List Int} (h : By8 l) (k : Nat) : By8 (l.take k) := fun x hx => h x (List.mem_of_mem_take hx)
theorem bits_or_comm64 (a b : Int) : bits .or .i64 a b = bits .or .i64 b a := by
 show IntKind.i64.wrap ((BitVec.ofInt 64 a ||| BitVec.ofInt 64 b).toNat : Int) = IntKind.i64.wrap ((BitVec.ofInt 64 b ||| BitVec.ofInt 64 a).toNat : Int)
 rw [BitVec.or_comm]
theorem or_byte (m x : Int) (h0 : 0 ≤ m) (h1 : m < 4294967296 * 256) (hx : 0 ≤ x ∧ x ≤ 255) : bits .or .i64 (m * 256) x = m * 256 + x := by
 rw [bits_or_comm64, bits_join_low .i64 63 (by decide) (fun n h0 h1 => IntWalk.i64_in n (by omega)) 8 x (m * 256) hx.1 (by omega) (by omega) (by omega) (by omega) (by omega)]
 omega
set_option maxRecDepth 100000 in
theorem number_any (l : List Int) (v : Value) (w : World) (h : Bytes w v l) (hb : By8 l) (h6 : l.length ≤ 6) :
 Calls Tryz.prog 220 #[v] w fun e w' => e = .returned (.int .i64 (numL l)) ∧ w = w' := by
 obtain ⟨a, cap, rfl, hcap, hcm, hcell⟩ := h
 unfold maxLen at hcm
 have HCELL := Lib.hid hcell
 have HB := Lib.hid hb
 clear hcell hb
 go_enter Tryz.func220, Tryz.ntmps220
 go_wp2
 go_loop [3, 8] (fun n i => ∃ k : Nat, k ≤ l.length ∧ i = .int .i64 k ∧ n = .int .i64 (numL (l.take k))) (fun _ i => l.length - (intOf i).toNat)
 case atStart => exact ⟨0, Nat.zero_le _, rfl, rfl⟩
 case round =>
  obtain ⟨k, hk, rfl, rfl⟩ := hrel
  by_cases hlt : k < l.length
  · obtain ⟨bb, off, rfl, hcl⟩ := HCELL.out (by omega)
    have hc := hcl k hlt
    have hr := numL_range (l.take k) (HB.out.take k) 5 (by simp; omega)
    obtain ⟨hr0, hr1⟩ := hr
    have hr2 : numL (l.take k) < 4294967296 * 256 := by omega
    have hx := HB.out.get k
    have hor := or_byte _ _ hr0 hr2 hx
    have HS : Hid (numL (l.take (k + 1)) = numL (l.take k) * 256 + l.getD k 0) := by show _ = _; rw [take_snoc l k hlt, numL_snoc]
    obtain ⟨x, hxx⟩ : ∃ x, x = l.getD k 0 := ⟨_, rfl⟩
    obtain ⟨m, hm⟩ : ∃ m, m = numL (l.take k) := ⟨_, rfl⟩
    rw [← hxx] at hc hx hor HS
    rw [← hm] at hr0 hr2 hor HS ⊢
    obtain ⟨hx0, hx1⟩ := hx
    clear hxx hm hr1 hcl
    go_wp2
    go_round
    case rel => exact ⟨k + 1, by omega, by go_num, by rw [HS.out]⟩
    case measure => simp [intOf]; omega
  · obtain rfl : k = l.length := by omega
    go_wp2
    go_ret
    exact ⟨rfl, rfl⟩
theorem sum_any (c n : Int) (w : World) (hc : 0 ≤ c ∧ c ≤ 281474976710655) (hn : 0 ≤ n ∧ n ≤ 281474976710655) :
 Calls Tryz.prog 145 #[.agg #[.int .i64 c, .int .i64 n]] w fun e w' => e = .returned (.int .i64 (c + n)) ∧ Fr w w' [] := by
 obtain ⟨c0, c1⟩ := hc
 obtain ⟨n0, n1⟩ := hn
 go_enter Tryz.func145, Tryz.ntmps145
 go_wp2
 go_ret
 exact ⟨rfl, Fr.alloc _ _ _⟩
theorem inRange_yes (n : Int) (w : World) (h0 : 0 ≤ n) (h1 : n ≤ 281474976710655) :
 Calls Tryz.prog 146 #[.int .i64 n] w fun e w' => e = .returned (.bool true) ∧ w = w' := by
 go_enter Tryz.func146, Tryz.ntmps146
 go_wp2
 go_ret
 exact ⟨rfl, rfl⟩
theorem inRange_no (n : Int) (w : World) (h : n < 0 ∨ 281474976710655 < n) :
 Calls Tryz.prog 146 #[.int .i64 n] w fun e w' => e = .returned (.bool false) ∧ w = w' := by
 have hcase : n < 0 ∨ (0 ≤ n ∧ ¬ n ≤ 281474976710655) := by omega
 clear h
 rcases hcase with h | ⟨h0, h1⟩
 all_goals
  go_enter Tryz.func146, Tryz.ntmps146
  go_wp2
  go_ret
  exact ⟨rfl, rfl⟩
theorem byteOf_lits (n : Int) : byteOf n 0 = n / 1099511627776 % 256 ∧ byteOf n 1 = n / 4294967296 % 256 ∧ byteOf n 2 = n / 16777216 % 256 ∧ byteOf n 3 = n / 65536 % 256 ∧ byteOf n 4 = n / 256 % 256 ∧ byteOf n 5 = n % 256 := by
 refine ⟨rfl, rfl, rfl, rfl, rfl, ?_⟩
 have e : byteOf n 5 = n / 1 % 256 := rfl
 rw [e, Int.ediv_one]
set_option maxHeartbeats 1000000 in
set_option maxRecDepth 100000 in
theorem writeNumber_any {is : List Nat} (p g : Nat) (s : CS) (i : Nat) (n : Int) (w : World) (A : Nat → Addr) (B : Nat) (h : Cl w p g s) (hi : i ≤ 4096) (hsn : s.n < 9223372036854775000) (h0 : 0 ≤ n) (h1 : n ≤ 281474976710655) (hE : EV is w A B) (hBp : B ≤ p) (hBg : B ≤ g) (hs : ∀ i ∈ [4, 5], i ∈ is := by decide) :
 Calls Tryz.prog 222 #[.pointer (some ⟨p, 0, none⟩), .int .i64 (i : Int), .int .i64 n] w fun e w' => e = .returned (ev A (s.run (six i n)).2) ∧ Cl w' p g (s.run (six i n)).1 ∧ Fr w w' [p, g] := by
 have H := Lib.hid h
 have HE := Lib.hid hE
 have HN := Lib.hid hsn
 clear h hE hsn
 go_enter Tryz.func222, Tryz.ntmps222
 go_wp2
 go_loopw [9] (fun x wr => ∃ j : Nat, j ≤ 6 ∧ x = .int .i64 j ∧ (s.run ((six i n).take j)).2 = 0 ∧ Cl wr p g (s.run ((six i n).take j)).1 ∧ Fr w wr [p, g]) (fun x _ => 6 - (intOf x).toNat)
 case atStart => exact ⟨0, Nat.zero_le _, rfl, rfl, H.out, Fr.refl _ _⟩
 case round =>
  obtain ⟨j, hj, rfl, hz, hc, hf⟩ := hrel
  have HZ := Lib.hid hz
  have HC := Lib.hid hc
  have HF := Lib.hid hf
  clear hz hc hf
  by_cases hlt : j < 6
  · have hrun := run_six s i n j hlt HZ.out
    have hput := cellPut_any p g _ ((i + j : Nat) : Int) (byteOf n j) wr A B HC.out (by have := CS.run_n ((six i n).take j) s; have h2 := HN.out; have h3 : ((six i n).take j).length ≤ j := List.length_take_le _ _; omega) (HE.out.fr HF.out (by simp; omega)) hBp hBg hs
    rw [← hrun] at hput
    obtain ⟨t, ht⟩ : ∃ t, t = s.run ((six i n).take (j + 1)) := ⟨_, rfl⟩
    rw [← ht] at hput
    have HT := Lib.hid ht
    clear hrun ht
    obtain ⟨y, I, hy, hI, hs⟩ : ∃ y I : Int, y = byteOf n j ∧ I = ((i + j : Nat) : Int) ∧ ((j = 0 ∧ y = n / 1099511627776 ∧ I = i) ∨ (j = 1 ∧ y = n / 4294967296 % 256 ∧ I = i + 1) ∨ (j = 2 ∧ y = n / 16777216 % 256 ∧ I = i + 2) ∨ (j = 3 ∧ y = n / 65536 % 256 ∧ I = i + 3) ∨ (j = 4 ∧ y = n / 256 % 256 ∧ I = i + 4) ∨ (j = 5 ∧ y = n % 256 ∧ I = i + 5)) := by
     refine ⟨_, _, rfl, rfl, ?_⟩
     have hs : j = 0 ∨ j = 1 ∨ j = 2 ∨ j = 3 ∨ j = 4 ∨ j = 5 := by omega
     obtain ⟨e0, e1, e2, e3, e4, e5⟩ := byteOf_lits n
     rcases hs with rfl | rfl | rfl | rfl | rfl | rfl
     · exact .inl ⟨rfl, by rw [e0]; omega, by omega⟩
     · exact .inr (.inl ⟨rfl, e1, by omega⟩)
     · exact .inr (.inr (.inl ⟨rfl, e2, by omega⟩))
     · exact .inr (.inr (.inr (.inl ⟨rfl, e3, by omega⟩)))
     · exact .inr (.inr (.inr (.inr (.inl ⟨rfl, e4, by omega⟩))))
     · exact .inr (.inr (.inr (.inr (.inr ⟨rfl, e5, by omega⟩))))
    rw [← hy, ← hI] at hput
    clear hy hI
    have hcd := CS.run_code ((six i n).take (j + 1)) s
    rw [← HT.out] at hcd
    obtain ⟨t1, cd⟩ := t
    obtain ⟨J, hJ⟩ : ∃ J, J = j + 1 := ⟨_, rfl⟩
    have HJ := Lib.hid hJ
    clear hJ
    match cd, hput, HT, hcd with
    | 0, hput, HT, _ =>
      rcases hs with ⟨rfl, rfl, rfl⟩ | ⟨rfl, rfl, rfl⟩ | ⟨rfl, rfl, rfl⟩ | ⟨rfl, rfl, rfl⟩ | ⟨rfl, rfl, rfl⟩ | ⟨rfl, rfl, rfl⟩
      all_goals
       rw [show ev A 0 = .nilIface from rfl] at hput
       have HP := Lib.hid hput
       clear hput
       go_wp2_with fail
       refine HP.out.mono ?_
       rintro e w1 ⟨rfl, h1', hf1⟩
       have H1 := Lib.hid h1'
       have HF1 := Lib.hid (HF.out.trans hf1)
       clear h1' hf1
       go_wp2
       go_roundw
       case rel => exact ⟨J, by have := HJ.out; omega, by rw [HJ.out]; rfl, by rw [HJ.out, ← HT.out], by rw [HJ.out, ← HT.out]; exact H1.out, HF1.out⟩
       case measure => simp [intOf]
    | d + 1, hput, HT, hcd =>
      have hst := run_stop s (six i n) (j + 1) (by rw [← HT.out]; simp)
      rw [← HT.out] at hst
      have HST := Lib.hid hst
      clear hst hcd
      rcases hs with ⟨rfl, rfl, rfl⟩ | ⟨rfl, rfl, rfl⟩ | ⟨rfl, rfl, rfl⟩ | ⟨rfl, rfl, rfl⟩ | ⟨rfl, rfl, rfl⟩ | ⟨rfl, rfl, rfl⟩
      all_goals
       rw [ev_some] at hput
       have HP := Lib.hid hput
       clear hput
       go_wp2_with fail
       refine HP.out.mono ?_
       rintro e w1 ⟨rfl, h1', hf1⟩
       have H1 := Lib.hid h1'
       have HF1 := Lib.hid (HF.out.trans hf1)
       clear h1' hf1
       go_wp2
       go_ret
       rw [HST.out]
       exact ⟨rfl, H1.out, HF1.out⟩
  · obtain rfl : j = 6 := by omega
    go_wp2
    go_ret
    refine ⟨?_, HC.out, HF.out⟩
    rw [show (s.run (six i n)).2 = 0 from HZ.out]; rfl
end Go.Proofs.YtiflmkicnkbeaaaGreatDoor
namespace Go.Proofs.YtiflmkicnkbeaaaGreatDoor
open Go.RowKit
set_option maxHeartbeats 2000000 in
set_option maxRecDepth 100000 in
theorem write_any {is : List Nat} (p g : Nat) (s : CS) (k : Nat) (c n : Int) (w : World) (A : Nat → Addr) (B : Nat) (h : Cl w p g s) (hk : k < 2) (hsn : s.n < 9223372036854770000) (hc : 0 ≤ c ∧ c ≤ 281474976710655) (hn : 0 ≤ n ∧ n ≤ 281474976710655)
 (hE : EV is w A B) (hBp : B ≤ p) (hBg : B ≤ g) (hs : ∀ i ∈ [4, 5], i ∈ is := by decide) :
 Calls Tryz.prog 148 #[.pointer (some ⟨p, 0, none⟩), .int .i64 (k : Int), .agg #[.int .i64 c, .int .i64 n]] w fun e w' => e = .returned (ev A (s.run (plan k c n)).2) ∧ Cl w' p g (s.run (plan k c n)).1 ∧ Fr w w' [p, g] := by
 have hlt := h.lt
 have H := Lib.hid h
 have HE := Lib.hid hE
 have HN := Lib.hid hsn
 have HCC := Lib.hid hc
 have HNN := Lib.hid hn
 clear h hE hsn hc hn
 have hf0 : Fr w (w.alloc (.cells #[.int .i64 c, .int .i64 n] 150)) [p, g] := Fr.alloc _ _ _
 have hbox : ∀ W, Fr (w.alloc (.cells #[.int .i64 c, .int .i64 n] 150)) W [p, g] → W.cell? ⟨w.heap.size, 0, none⟩ = some (.int .i64 c) ∧ W.cell? ⟨w.heap.size, 1, none⟩ = some (.int .i64 n) := by
  intro W hW
  have hr := hW.heap (heap_alloc_new w (.cells #[.int .i64 c, .int .i64 n] 150)) (by simp; omega)
  exact ⟨by rw [cell_of_row W _ 0 _ _ _ hr]; rfl, by rw [cell_of_row W _ 1 _ _ _ hr]; rfl⟩
 have HF0 := Lib.hid hf0
 have HBOX := Lib.hid hbox
 clear hf0 hbox
 have put1 := fun W (hW : Fr w W [p, g]) (hC : Cl W p g s) => cellPut_any p g s ((13 * k : Nat) : Int) 0 W A B hC (by have := HN.out; omega) (HE.out.fr hW (by simp; omega)) hBp hBg hs
 have hn1 := s.put_n (13 * k) 0
 obtain ⟨t1, ht1⟩ : ∃ t, t = s.put ((13 * k : Nat) : Int) 0 := ⟨_, rfl⟩
 rw [← ht1] at put1 hn1
 obtain ⟨s1, c1⟩ := t1
 have hnum := fun (s1 : CS) (hs1 : s1.n ≤ s.n + 20) W (hW : Fr w W [p, g]) (hC : Cl W p g s1) => writeNumber_any p g s1 (13 * k + 1) c W A B hC (by omega) (by have := HN.out; omega) HCC.out.1 HCC.out.2 (HE.out.fr hW (by simp; omega)) hBp hBg hs
 have hnum2 := fun (s1 : CS) (hs1 : s1.n ≤ s.n + 20) W (hW : Fr w W [p, g]) (hC : Cl W p g s1) => writeNumber_any p g s1 (13 * k + 7) n W A B hC (by omega) (by have := HN.out; omega) HNN.out.1 HNN.out.2 (HE.out.fr hW (by simp; omega)) hBp hBg hs
 have put2 := fun (s1 : CS) (hs1 : s1.n ≤ s.n + 20) W (hW : Fr w W [p, g]) (hC : Cl W p g s1) => cellPut_any p g s1 ((13 * k : Nat) : Int) 1 W A B hC (by have := HN.out; omega) (HE.out.fr hW (by simp; omega)) hBp hBg hs
 have hl1 : (six (13 * k + 1) c).length = 6 := rfl
 have hl2 : (six (13 * k + 7) n).length = 6 := rfl
 have hpl := (fun (s1 s2 s3 : CS) (h1 : s.put ((13 * k : Nat) : Int) 0 = (s1, 0)) h2 h3 => run_plan s s1 s2 s3 k c n h1 h2 h3)
 have hpl1 := (fun (s1 : CS) (d : Nat) (h1 : s.put ((13 * k : Nat) : Int) 0 = (s1, d + 1)) => run_plan1 s s1 k c n d h1)
 have hpl2 := (fun (s1 s2 : CS) (d : Nat) (h1 : s.put ((13 * k : Nat) : Int) 0 = (s1, 0)) h2 => run_plan2 s s1 s2 k c n d h1 h2)
 have hpl3 := (fun (s1 s2 s3 : CS) (d : Nat) (h1 : s.put ((13 * k : Nat) : Int) 0 = (s1, 0)) h2 h3 => run_plan3 s s1 s2 s3 k c n d h1 h2 h3)
 obtain ⟨r, hr⟩ : ∃ r, r = s.run (plan k c n) := ⟨_, rfl⟩
 rw [← hr] at hpl hpl1 hpl2 hpl3 ⊢
 clear hr
 obtain ⟨S1, hS1⟩ : ∃ S, S = six (13 * k + 1) c := ⟨_, rfl⟩
 obtain ⟨S2, hS2⟩ : ∃ S, S = six (13 * k + 7) n := ⟨_, rfl⟩
 rw [← hS1] at hl1 hnum hpl hpl2 hpl3
 rw [← hS2] at hl2 hnum2 hpl hpl3
 clear hS1 hS2
 have HL1 := Lib.hid hl1
 have HL2 := Lib.hid hl2
 clear hl1 hl2
 obtain ⟨I, I1, I2, hI, hI1, hI2, hcs⟩ : ∃ I I1 I2 : Int, I = ((13 * k : Nat) : Int) ∧ I1 = ((13 * k + 1 : Nat) : Int) ∧ I2 = ((13 * k + 7 : Nat) : Int) ∧ ((k = 0 ∧ I = 0 ∧ I1 = 1 ∧ I2 = 7) ∨ (k = 1 ∧ I = 13 ∧ I1 = 14 ∧ I2 = 20)) := ⟨_, _, _, rfl, rfl, rfl, by omega⟩
 rw [← hI] at put1 put2 ht1 hpl hpl1 hpl2 hpl3
 have HPL := Lib.hid hpl
 have HPL1 := Lib.hid hpl1
 have HPL2 := Lib.hid hpl2
 have HPL3 := Lib.hid hpl3
 clear hpl hpl1 hpl2 hpl3
 rw [← hI1] at hnum
 rw [← hI2] at hnum2
 clear hI hI1 hI2
 have HP1 := Lib.hid put1
 have HP2 := Lib.hid put2
 have HW1 := Lib.hid hnum
 have HW2 := Lib.hid hnum2
 have HT1 := Lib.hid ht1.symm
 have HN1 := Lib.hid hn1
 clear put1 put2 hnum hnum2 ht1 hn1
 rcases hcs with ⟨rfl, rfl, rfl, rfl⟩ | ⟨rfl, rfl, rfl, rfl⟩
 all_goals
  match c1, HP1, HT1, HN1 with
  | d + 1, HP1, HT1, HN1 =>
    have hp1 := HP1.out
    rw [ev_some] at hp1
    have HP := Lib.hid hp1
    have HR := Lib.hid (HPL1.out _ _ HT1.out)
    clear hp1
    go_enter Tryz.func148, Tryz.ntmps148
    go_wp2_with fail
    refine (HP.out _ HF0.out (H.out.fr (Fr.alloc _ _ []) (by simp) (by simp))).mono ?_
    rintro e w1 ⟨rfl, h1, hf1⟩
    have H1 := Lib.hid h1
    have HF1 := Lib.hid (HF0.out.trans hf1)
    clear h1 hf1
    go_wp2
    go_ret
    rw [HR.out]
    exact ⟨rfl, H1.out, HF1.out⟩
  | 0, HP1, HT1, HN1 =>
    have hp1 := HP1.out
    rw [show ev A 0 = .nilIface from rfl] at hp1
    have HP := Lib.hid hp1
    have hw1 := HW1.out s1 (by have := HN1.out; simp only at this; omega)
    have hn2 := CS.run_n S1 s1
    obtain ⟨t2, ht2⟩ : ∃ t, t = s1.run S1 := ⟨_, rfl⟩
    rw [← ht2] at hw1 hn2
    obtain ⟨s2, c2⟩ := t2
    have HT2 := Lib.hid ht2.symm
    have HN2 := Lib.hid (show s2.n ≤ s.n + 7 by have := HN1.out; rw [HL1.out] at hn2; simp only at this hn2; omega)
    clear hp1 ht2 hn2
    match c2, hw1, HT2 with
    | d + 1, hw1, HT2 =>
      rw [ev_some] at hw1
      have HW := Lib.hid hw1
      have HR := Lib.hid (HPL2.out _ _ _ HT1.out HT2.out)
      clear hw1
      go_enter Tryz.func148, Tryz.ntmps148
      go_wp2_with fail
      refine (HP.out _ HF0.out (H.out.fr (Fr.alloc _ _ []) (by simp) (by simp))).mono ?_
      rintro e w1 ⟨rfl, h1, hf1⟩
      obtain ⟨b0, b1⟩ := HBOX.out _ hf1
      have H1 := Lib.hid h1
      have HF1 := Lib.hid (HF0.out.trans hf1)
      clear h1 hf1
      go_wp2_with fail
      refine (HW.out _ HF1.out H1.out).mono ?_
      rintro e w2 ⟨rfl, h2, hf2⟩
      have H2 := Lib.hid h2
      have HF2 := Lib.hid (HF1.out.trans hf2)
      clear h2 hf2
      go_wp2
      go_ret
      rw [HR.out]
      exact ⟨rfl, H2.out, HF2.out⟩
    | 0, hw1, HT2 =>
      rw [show ev A 0 = .nilIface from rfl] at hw1
      have HW := Lib.hid hw1
      have hw2 := HW2.out s2 (by have := HN2.out; omega)
      have hn3 := CS.run_n S2 s2
      obtain ⟨t3, ht3⟩ : ∃ t, t = s2.run S2 := ⟨_, rfl⟩
      rw [← ht3] at hw2 hn3
      obtain ⟨s3, c3⟩ := t3
      have HT3 := Lib.hid ht3.symm
      have HN3 := Lib.hid (show s3.n ≤ s.n + 13 by have := HN2.out; rw [HL2.out] at hn3; simp only at this hn3; omega)
      clear hw1 ht3 hn3
      match c3, hw2, HT3 with
      | d + 1, hw2, HT3 =>
        rw [ev_some] at hw2
        have HWB := Lib.hid hw2
        have HR := Lib.hid (HPL3.out _ _ _ _ HT1.out HT2.out HT3.out)
        clear hw2
        go_enter Tryz.func148, Tryz.ntmps148
        go_wp2_with fail
        refine (HP.out _ HF0.out (H.out.fr (Fr.alloc _ _ []) (by simp) (by simp))).mono ?_
        rintro e w1 ⟨rfl, h1, hf1⟩
        obtain ⟨b0, b1⟩ := HBOX.out _ hf1
        have H1 := Lib.hid h1
        have HF1 := Lib.hid hf1
        clear h1 hf1
        go_wp2_with fail
        refine (HW.out _ (HF0.out.trans HF1.out) H1.out).mono ?_
        rintro e w2 ⟨rfl, h2, hf2⟩
        clear b0 b1
        obtain ⟨b0, b1⟩ := HBOX.out _ (HF1.out.trans hf2)
        have H2 := Lib.hid h2
        have HF2 := Lib.hid (HF0.out.trans (HF1.out.trans hf2))
        clear h2 hf2
        go_wp2_with fail
        refine (HWB.out _ HF2.out H2.out).mono ?_
        rintro e w3 ⟨rfl, h3, hf3⟩
        have H3 := Lib.hid h3
        have HF3 := Lib.hid (HF2.out.trans hf3)
        clear h3 hf3
        go_wp2
        go_ret
        rw [HR.out]
        exact ⟨rfl, H3.out, HF3.out⟩
      | 0, hw2, HT3 =>
        rw [show ev A 0 = .nilIface from rfl] at hw2
        have HWB := Lib.hid hw2
        have HPB := Lib.hid (HP2.out s3 (by have := HN3.out; omega))
        have HR := Lib.hid (HPL.out _ _ _ HT1.out HT2.out HT3.out)
        clear hw2
        go_enter Tryz.func148, Tryz.ntmps148
        go_wp2_with fail
        refine (HP.out _ HF0.out (H.out.fr (Fr.alloc _ _ []) (by simp) (by simp))).mono ?_
        rintro e w1 ⟨rfl, h1, hf1⟩
        obtain ⟨b0, b1⟩ := HBOX.out _ hf1
        have H1 := Lib.hid h1
        have HF1 := Lib.hid hf1
        clear h1 hf1
        go_wp2_with fail
        refine (HW.out _ (HF0.out.trans HF1.out) H1.out).mono ?_
        rintro e w2 ⟨rfl, h2, hf2⟩
        clear b0 b1
        obtain ⟨b0, b1⟩ := HBOX.out _ (HF1.out.trans hf2)
        have H2 := Lib.hid h2
        have HF2 := Lib.hid (HF0.out.trans (HF1.out.trans hf2))
        clear h2 hf2
        go_wp2_with fail
        refine (HWB.out _ HF2.out H2.out).mono ?_
        rintro e w3 ⟨rfl, h3, hf3⟩
        have H3 := Lib.hid h3
        have HF3 := Lib.hid (HF2.out.trans hf3)
        clear h3 hf3
        go_wp2_with fail
        refine (HPB.out _ HF3.out H3.out).mono ?_
        rintro e w4 ⟨rfl, h4, hf4⟩
        have H4 := Lib.hid h4
        have HF4 := Lib.hid (HF3.out.trans hf4)
        clear h4 hf4
        go_wp2
        go_ret
        rw [HR.out]
        exact ⟨rfl, H4.out, HF4.out⟩
end Go.Proofs.YtiflmkicnkbeaaaGreatDoor
namespace Go.Proofs.YtiflmkicnkbeaaaGreatDoor
open Go.RowKit
theorem CS.get_ok (s : CS) (i : Nat) (hd : s.d = false) (hi : i < s.l.length) : s.get (i : Int) = (s.l.getD i 0, 0) := by
 unfold CS.get CS.has
 rw [if_neg (by rw [hd]; simp), if_pos (by simp; omega)]; rfl
set_option maxHeartbeats 2000000 in
set_option maxRecDepth 100000 in
theorem read_any {is : List Nat} (p g : Nat) (s : CS) (k : Nat) (w : World) (A : Nat → Addr) (B : Nat) (h : Cl w p g s) (hd : s.d = false) (hlen : 26 ≤ s.l.length) (hk : k < 2) (hb : By8 s.l) (hE : EV is w A B) (hB : B ≤ w.heap.size) (m : Bool) (hm : m = decide (s.l.getD (13 * k) 0 = 1)) (hs : ∀ i ∈ [4, 5], i ∈ is := by decide) :
 Calls Tryz.prog 144 #[.pointer (some ⟨p, 0, none⟩), .int .i64 (k : Int)] w fun e w' => e = .returned (.tuple #[if m = true then .agg #[.int .i64 (numAt s.l (13 * k + 1)), .int .i64 (numAt s.l (13 * k + 7))] else .agg #[.int .i64 0, .int .i64 0], .bool m, .nilIface]) ∧ Fr w w' [] := by
 have H := Lib.hid h
 have HE := Lib.hid hE
 have HD := Lib.hid hd
 have HLEN := Lib.hid hlen
 have HB := Lib.hid hb
 have HM := Lib.hid hm
 clear h hE hd hlen hb hm
 go_enter Tryz.func144, Tryz.ntmps144
 go_wp2
 generalize hW1 : World.alloc (World.alloc w _) _ = W1
 have hq : W1.heap[w.heap.size + 1]? = some (.cells (u8s (List.replicate 13 0)).toArray 292 (0, 0)) := by
  rw [← hW1]
  have := heap_alloc_new (w.alloc (.cells #[.int .i64 0, .int .i64 0] 150)) (.cells #[.int .u8 0, .int .u8 0, .int .u8 0, .int .u8 0, .int .u8 0, .int .u8 0, .int .u8 0, .int .u8 0, .int .u8 0, .int .u8 0, .int .u8 0, .int .u8 0, .int .u8 0] 292)
  rw [show (u8s (List.replicate 13 0)).toArray = #[.int .u8 0, .int .u8 0, .int .u8 0, .int .u8 0, .int .u8 0, .int .u8 0, .int .u8 0, .int .u8 0, .int .u8 0, .int .u8 0, .int .u8 0, .int .u8 0, .int .u8 0] from rfl]
  simpa using this
 have hr : W1.heap[w.heap.size]? = some (.cells #[.int .i64 0, .int .i64 0] 150 (0, 0)) := by
  rw [← hW1, Below.heap_alloc _ _ _ (by simp)]; exact heap_alloc_new w _
 have hf1 : Fr w W1 [] := by rw [← hW1]; exact (Fr.alloc _ _ _).trans (Fr.alloc _ _ _)
 have hlt := H.out.lt
 have HQ := Lib.hid hq
 have HR := Lib.hid hr
 have HF1 := Lib.hid hf1
 have HS1 := Lib.hid (show W1.heap.size = w.heap.size + 2 by rw [← hW1]; simp)
 have HLT := Lib.hid hlt
 clear hq hr hf1 hW1 hlt
 go_loopw [11] (fun x wr => ∃ (j : Nat) (L : List Int), j ≤ 13 ∧ x = .int .i64 j ∧ L.length = 13 ∧ (∀ i, i < j → L.getD i 0 = s.l.getD (13 * k + i) 0) ∧ wr.heap[w.heap.size + 1]? = some (.cells (u8s L).toArray 292 (0, 0)) ∧ Fr W1 wr [w.heap.size + 1]) (fun x _ => 13 - (intOf x).toNat)
 case atStart => exact ⟨0, _, Nat.zero_le _, rfl, by simp, fun i hi => absurd hi (by omega), HQ.out, Fr.refl _ _⟩
 case round =>
  obtain ⟨j, L, hj, rfl, hL, hg, hrow, hf⟩ := hrel
  have HL := Lib.hid hL
  have HG := Lib.hid hg
  have HROW := Lib.hid hrow
  have HF := Lib.hid (show Fr w wr [w.heap.size + 1] from (HF1.out.mono (by simp)).trans hf)
  have HFW := Lib.hid hf
  clear hL hg hrow hf
  by_cases hlt : j < 13
  · have hget : Calls Tryz.prog 219 #[.pointer (some ⟨p, 0, none⟩), .int .i64 ((k : Int) * 13 + (j : Int))] wr fun e w' => e = .returned (.tuple #[.int .u8 (s.l.getD (13 * k + j) 0), .nilIface]) ∧ Drawn wr w' := by
     have := cellGet_any p g s ((13 * k + j : Nat) : Int) wr A B (H.out.fr HF.out (by have := HLT.out; simp; omega) (by have := HLT.out; simp; omega)) (HE.out.fr HF.out (by simp; omega)) hs
     rw [s.get_ok _ HD.out (by have := HLEN.out; omega), show ((13 * k + j : Nat) : Int) = (k : Int) * 13 + (j : Int) by omega] at this
     exact this
    obtain ⟨y, hy⟩ : ∃ y, y = s.l.getD (13 * k + j) 0 := ⟨_, rfl⟩
    rw [← hy] at hget
    have HGET := Lib.hid hget
    have HY := Lib.hid hy
    clear hget hy
    go_wp2_with fail
    refine HGET.out.mono ?_
    rintro e w2 ⟨rfl, hd2⟩
    have hrow2 := (hd2.fr []).heap HROW.out (by simp)
    have hfz := frozen_of_row w2 (w.heap.size + 1) j _ _ hrow2
    have hcl : w2.cell? ⟨w.heap.size + 1, j, none⟩ = some (.int .u8 (L.getD j 0)) := by rw [cell_of_row w2 _ j _ _ _ hrow2]; have := HL.out; simp [u8s, show j < L.length by omega]
    have HF2 := Lib.hid (HFW.out.trans (hd2.fr [w.heap.size + 1]))
    have HROW2 := Lib.hid hrow2
    clear hrow2 hd2
    go_wp2
    go_roundw
    case rel =>
     refine ⟨j + 1, L.set j y, by omega, by go_num, by simpa using HL.out, fun i hi => ?_, ?_, HF2.out.trans (Fr.setCell _ _ _ _ (by simp))⟩
     · by_cases hij : i = j
       · subst hij; rw [← HY.out]; have := HL.out; simp [show i < L.length by omega]
       · rw [← HG.out i (by omega)]; simp [List.getD, show ¬ j = i by omega]
     · rw [heap_setCell_same w2 _ j _ _ _ HROW2.out]; simp [u8s, List.map_set]
    case measure => simp [intOf]; omega
  · obtain rfl : j = 13 := by omega
    have hc : ∀ W, Fr wr W [w.heap.size] → ∀ i, i < 13 → W.cell? ⟨w.heap.size + 1, i, none⟩ = some (.int .u8 (s.l.getD (13 * k + i) 0)) := by
     intro W hW i hi
     rw [cell_of_row W _ i _ _ _ (hW.heap HROW.out (by simp))]
     have := HL.out
     rw [← HG.out i (by omega)]
     simp [u8s, show i < L.length by omega]
    have hc0 := hc wr (Fr.refl _ _) 0 (by omega)
    have hm := HM.out
    rw [show 13 * k + 0 = 13 * k from rfl] at hc0
    obtain ⟨y, hy⟩ : ∃ y, y = s.l.getD (13 * k) 0 := ⟨_, rfl⟩
    rw [← hy] at hc0 hm
    have HC := Lib.hid hc
    have hrec : wr.heap[w.heap.size]? = some (.cells #[.int .i64 0, .int .i64 0] 150 (0, 0)) := HFW.out.heap HR.out (by simp)
    have r0 := cell_of_row _ _ 0 _ _ _ hrec
    have r1 := cell_of_row _ _ 1 _ _ _ hrec
    have y0 := frozen_of_row _ _ 0 _ _ hrec
    have y1 := frozen_of_row _ _ 1 _ _ hrec
    simp at r0 r1
    have HREC := Lib.hid hrec
    clear hc hrec
    cases m with
    | false =>
      have hne : (y != 1) = true := by have := of_decide_eq_false hm.symm; simpa using this
      clear hm hy
      go_wp2
      refine bodyPost_ret (v := .tuple #[.agg #[.int .i64 0, .int .i64 0], .bool false, .nilIface]) (by simp [results, Tryz.results144, go_sem, r0, r1]) rfl ⟨rfl, ?_⟩
      exact HF1.out.comb (((HFW.out.mono (T := [w.heap.size + 1, w.heap.size]) (by simp)).trans (Fr.setCell _ _ _ _ (by simp))).trans (Fr.setCell _ _ _ _ (by simp))) (by simp) (by simp)
    | true =>
      have hy1 : y = 1 := of_decide_eq_true hm.symm
      subst hy1
      clear hm hy
      have hnum : ∀ (i : Nat), (i = 1 ∨ i = 7) → ∀ W, Fr wr W [] → ∀ v, (∃ cap, 6 ≤ cap ∧ cap ≤ 13 ∧ v = .slice (some ⟨w.heap.size + 1, i, none⟩) 6 cap) → Calls Tryz.prog 220 #[v] W fun e w' => e = .returned (.int .i64 (numAt s.l (13 * k + i))) ∧ W = w' := by
       rintro i hi W hW v ⟨cap, hc6, hc13, rfl⟩
       have := number_any [s.l.getD (13 * k + i) 0, s.l.getD (13 * k + i + 1) 0, s.l.getD (13 * k + i + 2) 0, s.l.getD (13 * k + i + 3) 0, s.l.getD (13 * k + i + 4) 0, s.l.getD (13 * k + i + 5) 0] (.slice (some ⟨w.heap.size + 1, i, none⟩) 6 cap) W ?_ ?_ (by simp)
       · have e : ∀ a b c d e f : Int, numL [a, b, c, d, e, f] = ((((a * 256 + b) * 256 + c) * 256 + d) * 256 + e) * 256 + f := by intros; simp [numL]
         rw [e] at this
         exact this
       · refine ⟨_, cap, rfl, hc6, by unfold maxLen; omega, fun _ => ⟨_, _, rfl, fun j hj => ?_⟩⟩
         have hj' : j < 6 := hj
         have hcl := HC.out W (hW.mono (by simp)) (i + j) (by omega)
         rw [hcl, ← Nat.add_assoc]
         have hs : j = 0 ∨ j = 1 ∨ j = 2 ∨ j = 3 ∨ j = 4 ∨ j = 5 := by omega
         rcases hs with rfl | rfl | rfl | rfl | rfl | rfl <;> rfl
       · intro x hx
         simp only [List.mem_cons, List.not_mem_nil, or_false] at hx
         rcases hx with rfl | rfl | rfl | rfl | rfl | rfl <;> exact HB.out.get _
      have hn1 := fun W (hW : Fr wr W []) => hnum 1 (.inl rfl) W hW _ ⟨12, by omega, by omega, rfl⟩
      have hn7 := fun W (hW : Fr wr W []) => hnum 7 (.inr rfl) W hW _ ⟨6, by omega, by omega, rfl⟩
      obtain ⟨c, hc⟩ : ∃ c, c = numAt s.l (13 * k + 1) := ⟨_, rfl⟩
      obtain ⟨n, hn⟩ : ∃ c, c = numAt s.l (13 * k + 7) := ⟨_, rfl⟩
      rw [← hc] at hn1
      rw [← hn] at hn7
      have HCE := Lib.hid hc
      have HNE := Lib.hid hn
      have HN1 := Lib.hid hn1
      have HN7 := Lib.hid hn7
      clear hnum hn1 hn7 hc hn
      go_wp2
      go_region_with ((first
       | (go_at_call 220; ((with_reducible refine (HN1.out _ (Fr.drew _ _)).mono ?_); rintro e w' ⟨rfl, rfl⟩))
       | (go_at_call 220; ((with_reducible refine (HN7.out _ (Fr.drew _ _)).mono ?_); rintro e w' ⟨rfl, rfl⟩))))
      all_goals
       go_wp2
       rw [← HCE.out, ← HNE.out]
       refine bodyPost_ret (v := .tuple #[.agg #[.int .i64 c, .int .i64 n], .bool true, .nilIface]) (by simp [results, Tryz.results144, go_sem, r0, r1]) rfl ⟨rfl, ?_⟩
       exact HF1.out.comb ((((HFW.out.mono (T := [w.heap.size + 1, w.heap.size]) (by simp)).trans (Fr.setCell _ _ _ _ (by simp))).trans (Fr.setCell _ _ _ _ (by simp))).trans (Fr.drew _ _)) (by simp) (by simp)
end Go.Proofs.YtiflmkicnkbeaaaGreatDoor
namespace Go.Proofs.YtiflmkicnkbeaaaGreatDoor
open Go.RowKit
def Sr (w : World) (sp p : Nat) (R : SR) : Prop :=
 w.heap[sp]? = some (.cells #[.pointer (some ⟨p, 0, none⟩), .int .i64 R.c, .int .i64 R.n, .int .i64 R.k] 235 (0, 0))
theorem Sr.fr {w w' : World} {sp p : Nat} {R : SR} {S : List Nat} (h : Sr w sp p R) (hf : Fr w w' S) (hp : sp ∉ S) : Sr w' sp p R := hf.heap h hp
theorem Sr.lt {w : World} {sp p : Nat} {R : SR} (h : Sr w sp p R) : sp < w.heap.size := (Array.getElem?_eq_some_iff.1 h).1
theorem Sr.cells {w : World} {sp p : Nat} {R : SR} (h : Sr w sp p R) : w.cell? ⟨sp, 0, none⟩ = some (.pointer (some ⟨p, 0, none⟩)) ∧ w.cell? ⟨sp, 1, none⟩ = some (.int .i64 R.c) ∧ w.cell? ⟨sp, 2, none⟩ = some (.int .i64 R.n) ∧ w.cell? ⟨sp, 3, none⟩ = some (.int .i64 R.k) := by
 refine ⟨?_, ?_, ?_, ?_⟩ <;> (rw [cell_of_row w sp _ _ _ _ h]; rfl)
theorem Sr.frozen {w : World} {sp p : Nat} {R : SR} (h : Sr w sp p R) (j : Nat) : w.frozen? ⟨sp, j, none⟩ = false := frozen_of_row w sp j _ _ h
theorem Sr.wr {w : World} {sp p : Nat} {R : SR} (h : Sr w sp p R) (c n k : Int) : Sr (((w.setCell ⟨sp, 1, none⟩ (.int .i64 c)).setCell ⟨sp, 2, none⟩ (.int .i64 n)).setCell ⟨sp, 3, none⟩ (.int .i64 k)) sp p ⟨c, n, k⟩ := by
 have h1 := heap_setCell_same w sp 1 _ _ (Value.int .i64 c) h
 have h2 := heap_setCell_same _ sp 2 _ _ (Value.int .i64 n) h1
 have h3 := heap_setCell_same _ sp 3 _ _ (Value.int .i64 k) h2
 unfold Sr; rw [h3]; simp
def NewSr (w : World) (p : Nat) (R : SR) (u : Value) (w' : World) : Prop := ∃ sp, u = .tuple #[.pointer (some ⟨sp, 0, none⟩), .nilIface] ∧ Sr w' sp p R ∧ w.heap.size ≤ sp ∧ Fr w w' []
def foundAt (l : List Int) : Nat → SR | 0 => SR.none | k + 1 => (foundAt l k).step l k
theorem foundAt_in {l : List Int} (hl : By8 l) : ∀ k, k ≤ 2 → (foundAt l k).in
 | 0, _ => SR.none_in
 | k + 1, h => SR.step_in (foundAt_in hl k (by omega)) hl k (by omega)
set_option maxHeartbeats 4000000 in
set_option maxRecDepth 100000 in
theorem open_any {is : List Nat} (p g : Nat) (s : CS) (w : World) (A : Nat → Addr) (B : Nat) (h : Cl w p g s) (hd : s.d = false) (hlen : 26 ≤ s.l.length) (hb : By8 s.l) (hE : EV is w A B) (hB : B ≤ w.heap.size) (hs : ∀ i ∈ [4, 5], i ∈ is := by decide) :
 Calls Tryz.prog 67 #[.pointer (some ⟨p, 0, none⟩)] w (Gives (NewSr w p (openOf s.l))) := by
 have hsz := cellSize_any p g s w h
 have hlt := h.lt
 have ho := h.2.2
 obtain ⟨L, hL⟩ : ∃ L, L = s.l.length := ⟨_, rfl⟩
 rw [← hL] at hsz
 have hL1 : 26 ≤ L := by omega
 have hL2 : L ≤ 4096 := by have := ho.2.1; omega
 have H := Lib.hid h
 have HE := Lib.hid hE
 have HD := Lib.hid hd
 have HLEN := Lib.hid hlen
 have HB := Lib.hid hb
 have HSZ := Lib.hid hsz
 have HLT := Lib.hid hlt
 clear h hE hd hlen hb hsz hlt ho hL
 go_enter Tryz.func67, Tryz.ntmps67
 go_wp2_with fail
 refine HSZ.out.mono ?_
 rintro e w0 ⟨rfl, rfl⟩
 go_wp2
 generalize hW1 : World.alloc w _ = W1
 have hs1 : Sr W1 w.heap.size p (foundAt s.l 0) := by rw [← hW1]; exact heap_alloc_new w _
 have hf1 : Fr w W1 [] := by rw [← hW1]; exact Fr.alloc _ _ _
 have HS1 := Lib.hid hs1
 have HF1 := Lib.hid hf1
 have HW1 := Lib.hid (show W1.heap.size = w.heap.size + 1 by rw [← hW1]; simp)
 clear hs1 hf1 hW1
 go_loopw [16] (fun x wr => ∃ (k : Nat), k ≤ 2 ∧ x = .int .i64 k ∧ Sr wr w.heap.size p (foundAt s.l k) ∧ Fr W1 wr [w.heap.size]) (fun x _ => 2 - (intOf x).toNat)
 case atStart => exact ⟨0, Nat.zero_le _, rfl, HS1.out, Fr.refl _ _⟩
 case round =>
  obtain ⟨k, hk, rfl, hs, hf⟩ := hrel
  have HS := Lib.hid hs
  have HFW := Lib.hid hf
  have HF := Lib.hid (HF1.out.new hf (by simp))
  clear hs hf
  by_cases hlt : k < 2
  · obtain ⟨m, hm⟩ : ∃ m, m = decide (s.l.getD (13 * k) 0 = 1) := ⟨_, rfl⟩
    have hrd := read_any p g s k wr A B (H.out.fr HF.out (by simp) (by simp)) HD.out HLEN.out hlt HB.out (HE.out.fr HF.out (by simp)) (Nat.le_trans hB HF.out.size) m hm hs
    have hin := foundAt_in HB.out k hk
    have hr1 := numAt_range HB.out (13 * k + 1)
    have hr2 := numAt_range HB.out (13 * k + 7)
    have hstep : foundAt s.l (k + 1) = (foundAt s.l k).step s.l k := rfl
    unfold SR.step SR.beat at hstep
    obtain ⟨R, hR⟩ : ∃ R, R = foundAt s.l k := ⟨_, rfl⟩
    obtain ⟨c, hc⟩ : ∃ c, c = numAt s.l (13 * k + 1) := ⟨_, rfl⟩
    obtain ⟨n, hn⟩ : ∃ c, c = numAt s.l (13 * k + 7) := ⟨_, rfl⟩
    rw [← hR] at hin hstep
    rw [← hc] at hr1 hstep hrd
    rw [← hn] at hr2 hstep hrd
    have hsr := HS.out
    rw [← hR] at hsr
    have HST := Lib.hid hstep
    have HRD := Lib.hid hrd
    have HM := Lib.hid hm
    have HIN := Lib.hid (show (0 ≤ R.c ∧ R.c ≤ 281474976710655) ∧ (0 ≤ R.n ∧ R.n ≤ 281474976710655) from ⟨⟨hin.1, hin.2.1⟩, hin.2.2.1, hin.2.2.2.1⟩)
    have HSR := Lib.hid hsr
    have HR1 := Lib.hid hr1
    have HR2 := Lib.hid hr2
    clear hrd hstep hm hin hsr hR hc hn hr1 hr2
    cases m with
    | false =>
      have hrd := HRD.out
      rw [if_neg (by simp)] at hrd
      have HRD2 := Lib.hid hrd
      clear hrd
      go_wp2_with fail
      refine HRD2.out.mono ?_
      rintro e w2 ⟨rfl, hf2⟩
      have ha := heap_alloc_new w2 (.cells #[.int .i64 0, .int .i64 0] 150)
      have r0 := cell_of_row _ _ 0 _ _ _ ha
      have r1 := cell_of_row _ _ 1 _ _ _ ha
      have y0 := frozen_of_row _ _ 0 _ _ ha
      have y1 := frozen_of_row _ _ 1 _ _ ha
      simp at r0 r1
      have HF2 := Lib.hid hf2
      have HA := Lib.hid ha
      clear hf2 ha
      go_upto_region 10 with fail
      generalize hWX : World.alloc w2 _ = WX
      have HX := Lib.hid (show Fr w2 WX [] by rw [← hWX]; exact Fr.alloc _ _ _)
      have hrx : WX.heap[w2.heap.size]? = some (.cells #[.int .i64 0, .int .i64 0] 150 (0, 0)) := by rw [← hWX]; exact heap_alloc_new w2 _
      clear hWX r0 r1 y0 y1
      have hsx := (HSR.out.fr HF2.out (by simp)).fr HX.out (by simp)
      have HE0 : Hid (foundAt s.l (k + 1) = R) := by show _ = _; rw [HST.out, if_neg]; have := of_decide_eq_false HM.out.symm; simp only [decide_eq_true_eq]; exact fun h => this h.1
      have HSX := Lib.hid hsx
      clear hrx hsx
      go_quiet (fail)
      go_wp2
      have HEND := Lib.hid (show Sr _ w.heap.size p (foundAt s.l (k + 1)) by rw [HE0.out]; exact HSX.out.fr (Fr.drewN WX nq []) (by simp))
      have HFE := Lib.hid (HFW.out.new (((HF2.out.trans HX.out).trans (Fr.drewN WX nq [])) : Fr wr _ []) (by simp))
      go_roundw
      case rel => exact ⟨k + 1, by omega, by go_num, HEND.out, HFE.out⟩
      case measure => simp [intOf]; omega
    | true =>
      have hrd := HRD.out
      rw [if_pos rfl] at hrd
      have HRD2 := Lib.hid hrd
      have hm1 := of_decide_eq_true HM.out.symm
      clear hrd
      by_cases hk1 : R.k = -1
      · have HE0 : Hid (foundAt s.l (k + 1) = ⟨c, n, (k : Int)⟩) := by show _ = _; rw [HST.out, if_pos]; simp only [decide_eq_true_eq]; exact ⟨hm1, .inl hk1⟩
        clear hm1
        go_wp2_with fail
        refine HRD2.out.mono ?_
        rintro e w2 ⟨rfl, hf2⟩
        have ha := heap_alloc_new w2 (.cells #[.int .i64 0, .int .i64 0] 150)
        have r0 := cell_of_row _ _ 0 _ _ _ ha
        have r1 := cell_of_row _ _ 1 _ _ _ ha
        have y0 := frozen_of_row _ _ 0 _ _ ha
        have y1 := frozen_of_row _ _ 1 _ _ ha
        simp at r0 r1
        have HF2 := Lib.hid hf2
        have HA := Lib.hid ha
        clear hf2 ha
        go_upto_region 10 with fail
        generalize hWX : World.alloc w2 _ = WX
        have HX := Lib.hid (show Fr w2 WX [] by rw [← hWX]; exact Fr.alloc _ _ _)
        have hrx : WX.heap[w2.heap.size]? = some (.cells #[.int .i64 c, .int .i64 n] 150 (0, 0)) := by rw [← hWX]; exact heap_alloc_new w2 _
        clear hWX r0 r1 y0 y1
        have hsx := (HSR.out.fr HF2.out (by simp)).fr HX.out (by simp)
        obtain ⟨s0, s1, s2, s3⟩ := hsx.cells
        rw [hk1] at s3
        have z1 := hsx.frozen 1
        have z2 := hsx.frozen 2
        have z3 := hsx.frozen 3
        have x0 := cell_of_row _ _ 0 _ _ _ hrx
        have x1 := cell_of_row _ _ 1 _ _ _ hrx
        simp at x0 x1
        have HSX := Lib.hid hsx
        have hnes : w2.heap.size ≠ w.heap.size := by have := HSR.out.lt; have := HF2.out.size; omega
        clear hrx hsx hk1
        go_quiet (fail)
        go_wp2
        have HEND := Lib.hid (show Sr _ w.heap.size p (foundAt s.l (k + 1)) by rw [HE0.out]; exact (HSX.out.fr (Fr.drewN WX nq []) (by simp)).wr c n k)
        have HFE := Lib.hid (Fr.trans (HFW.out.trans (((HF2.out.trans HX.out).mono (by simp)).trans (Fr.drewN WX nq [w.heap.size]))) (Fr.trans (Fr.trans (Fr.setCell _ _ 1 (.int .i64 c) (List.mem_singleton.2 rfl)) (Fr.setCell _ _ 2 (.int .i64 n) (List.mem_singleton.2 rfl))) (Fr.setCell _ _ 3 (.int .i64 (k : Int)) (List.mem_singleton.2 rfl))))
        go_roundw
        case rel => exact ⟨k + 1, by omega, by go_num, HEND.out, HFE.out⟩
        case measure => simp [intOf]; omega
      · have kb : (R.k == -1) = false := by simpa using hk1
        by_cases hlt2 : R.c + R.n < c + n
        · have HE0 : Hid (foundAt s.l (k + 1) = ⟨c, n, (k : Int)⟩) := by show _ = _; rw [HST.out, if_pos]; simp only [decide_eq_true_eq]; exact ⟨hm1, .inr hlt2⟩
          clear hm1 hk1
          go_wp2_with fail
          refine HRD2.out.mono ?_
          rintro e w2 ⟨rfl, hf2⟩
          have ha := heap_alloc_new w2 (.cells #[.int .i64 0, .int .i64 0] 150)
          have r0 := cell_of_row _ _ 0 _ _ _ ha
          have r1 := cell_of_row _ _ 1 _ _ _ ha
          have y0 := frozen_of_row _ _ 0 _ _ ha
          have y1 := frozen_of_row _ _ 1 _ _ ha
          simp at r0 r1
          have HF2 := Lib.hid hf2
          have HA := Lib.hid ha
          clear hf2 ha
          go_upto_region 10 with fail
          generalize hWX : World.alloc w2 _ = WX
          have HX := Lib.hid (show Fr w2 WX [] by rw [← hWX]; exact Fr.alloc _ _ _)
          have hrx : WX.heap[w2.heap.size]? = some (.cells #[.int .i64 c, .int .i64 n] 150 (0, 0)) := by rw [← hWX]; exact heap_alloc_new w2 _
          clear hWX r0 r1 y0 y1
          have hsx := (HSR.out.fr HF2.out (by simp)).fr HX.out (by simp)
          obtain ⟨s0, s1, s2, s3⟩ := hsx.cells
          have z1 := hsx.frozen 1
          have z2 := hsx.frozen 2
          have z3 := hsx.frozen 3
          have x0 := cell_of_row _ _ 0 _ _ _ hrx
          have x1 := cell_of_row _ _ 1 _ _ _ hrx
          simp at x0 x1
          have HSX := Lib.hid hsx
          have hnes : w2.heap.size ≠ w.heap.size := by have := HSR.out.lt; have := HF2.out.size; omega
          clear hrx hsx
          go_region_held3 (fun w' => w'.cell? ⟨w2.heap.size, 0, none⟩ = some (.int .i64 c) ∧ w'.cell? ⟨w2.heap.size, 1, none⟩ = some (.int .i64 n) ∧ w'.cell? ⟨w.heap.size, 1, none⟩ = some (.int .i64 R.c) ∧ w'.cell? ⟨w.heap.size, 2, none⟩ = some (.int .i64 R.n) ∧ w'.cell? ⟨w.heap.size, 3, none⟩ = some (.int .i64 R.k))
           (first | exact ⟨x0, x1, s1, s2, s3⟩ | exact ⟨x0b, x1b, s1b, s2b, s3b⟩ | exact ⟨x0a, x1a, s1a, s2a, s3a⟩)
           (first
            | (go_at_call 145; ((with_reducible refine (sum_any c n _ HR1.out HR2.out).mono ?_); rintro e wa ⟨rfl, hfa⟩; have hfa0 := (Fr.drew WX []).trans hfa; have x0a := hfa0.cell x0 (by simp); have x1a := hfa0.cell x1 (by simp); have s1a := hfa0.cell s1 (by simp); have s2a := hfa0.cell s2 (by simp); have s3a := hfa0.cell s3 (by simp)))
            | (go_at_call 145; ((with_reducible refine (sum_any R.c R.n _ HIN.out.1 HIN.out.2).mono ?_); rintro e wb ⟨rfl, hfb⟩; have hfb0 := hfa0.trans hfb; have x0b := hfb.cell x0a (by simp); have x1b := hfb.cell x1a (by simp); have s1b := hfb.cell s1a (by simp); have s2b := hfb.cell s2a (by simp); have s3b := hfb.cell s3a (by simp))))
          all_goals
           have hsb := HSX.out.fr hfb0 (by simp)
           have z1 := hsb.frozen 1
           have z2 := hsb.frozen 2
           have z3 := hsb.frozen 3
           have HSB := Lib.hid hsb
           have HFB := Lib.hid hfb0
           clear hsb hfb0 hfa0 hfa hfb x0 x1 s1 s2 s3 x0a x1a s1a s2a s3a s0
           go_wp2
           have HEND := Lib.hid (show Sr _ w.heap.size p (foundAt s.l (k + 1)) by rw [HE0.out]; exact HSB.out.wr c n k)
           have HFE := Lib.hid (Fr.trans (HFW.out.trans (((HF2.out.trans HX.out).trans HFB.out).mono (by simp))) (Fr.trans (Fr.trans (Fr.setCell _ _ 1 (.int .i64 c) (List.mem_singleton.2 rfl)) (Fr.setCell _ _ 2 (.int .i64 n) (List.mem_singleton.2 rfl))) (Fr.setCell _ _ 3 (.int .i64 (k : Int)) (List.mem_singleton.2 rfl))))
           go_roundw
           case rel => exact ⟨k + 1, by omega, by go_num, HEND.out, HFE.out⟩
           case measure => simp [intOf]; omega
        · have HE0 : Hid (foundAt s.l (k + 1) = R) := by show _ = _; rw [HST.out, if_neg]; simp only [decide_eq_true_eq]; exact fun h => h.2.elim hk1 hlt2
          clear hm1 hk1
          go_wp2_with fail
          refine HRD2.out.mono ?_
          rintro e w2 ⟨rfl, hf2⟩
          have ha := heap_alloc_new w2 (.cells #[.int .i64 0, .int .i64 0] 150)
          have r0 := cell_of_row _ _ 0 _ _ _ ha
          have r1 := cell_of_row _ _ 1 _ _ _ ha
          have y0 := frozen_of_row _ _ 0 _ _ ha
          have y1 := frozen_of_row _ _ 1 _ _ ha
          simp at r0 r1
          have HF2 := Lib.hid hf2
          have HA := Lib.hid ha
          clear hf2 ha
          go_upto_region 10 with fail
          generalize hWX : World.alloc w2 _ = WX
          have HX := Lib.hid (show Fr w2 WX [] by rw [← hWX]; exact Fr.alloc _ _ _)
          have hrx : WX.heap[w2.heap.size]? = some (.cells #[.int .i64 c, .int .i64 n] 150 (0, 0)) := by rw [← hWX]; exact heap_alloc_new w2 _
          clear hWX r0 r1 y0 y1
          have hsx := (HSR.out.fr HF2.out (by simp)).fr HX.out (by simp)
          obtain ⟨s0, s1, s2, s3⟩ := hsx.cells
          have z1 := hsx.frozen 1
          have z2 := hsx.frozen 2
          have z3 := hsx.frozen 3
          have x0 := cell_of_row _ _ 0 _ _ _ hrx
          have x1 := cell_of_row _ _ 1 _ _ _ hrx
          simp at x0 x1
          have HSX := Lib.hid hsx
          have hnes : w2.heap.size ≠ w.heap.size := by have := HSR.out.lt; have := HF2.out.size; omega
          clear hrx hsx
          go_region_held3 (fun w' => w'.cell? ⟨w2.heap.size, 0, none⟩ = some (.int .i64 c) ∧ w'.cell? ⟨w2.heap.size, 1, none⟩ = some (.int .i64 n) ∧ w'.cell? ⟨w.heap.size, 1, none⟩ = some (.int .i64 R.c) ∧ w'.cell? ⟨w.heap.size, 2, none⟩ = some (.int .i64 R.n) ∧ w'.cell? ⟨w.heap.size, 3, none⟩ = some (.int .i64 R.k))
           (first | exact ⟨x0, x1, s1, s2, s3⟩ | exact ⟨x0b, x1b, s1b, s2b, s3b⟩ | exact ⟨x0a, x1a, s1a, s2a, s3a⟩)
           (first
            | (go_at_call 145; ((with_reducible refine (sum_any c n _ HR1.out HR2.out).mono ?_); rintro e wa ⟨rfl, hfa⟩; have hfa0 := (Fr.drew WX []).trans hfa; have x0a := hfa0.cell x0 (by simp); have x1a := hfa0.cell x1 (by simp); have s1a := hfa0.cell s1 (by simp); have s2a := hfa0.cell s2 (by simp); have s3a := hfa0.cell s3 (by simp)))
            | (go_at_call 145; ((with_reducible refine (sum_any R.c R.n _ HIN.out.1 HIN.out.2).mono ?_); rintro e wb ⟨rfl, hfb⟩; have hfb0 := hfa0.trans hfb; have x0b := hfb.cell x0a (by simp); have x1b := hfb.cell x1a (by simp); have s1b := hfb.cell s1a (by simp); have s2b := hfb.cell s2a (by simp); have s3b := hfb.cell s3a (by simp))))
          all_goals
           have hsb := HSX.out.fr hfb0 (by simp)
           have z1 := hsb.frozen 1
           have z2 := hsb.frozen 2
           have z3 := hsb.frozen 3
           have HSB := Lib.hid hsb
           have HFB := Lib.hid hfb0
           clear hsb hfb0 hfa0 hfa hfb x0 x1 s1 s2 s3 x0a x1a s1a s2a s3a s0
           go_wp2
           have HEND := Lib.hid (show Sr _ w.heap.size p (foundAt s.l (k + 1)) by rw [HE0.out]; exact HSB.out)
           have HFE := Lib.hid (HFW.out.trans (((HF2.out.trans HX.out).trans HFB.out).mono (by simp)))
           go_roundw
           case rel => exact ⟨k + 1, by omega, by go_num, HEND.out, HFE.out⟩
           case measure => simp [intOf]; omega
  · obtain rfl : k = 2 := by omega
    go_wp2
    go_ret2
    exact gives ⟨w.heap.size, rfl, HS.out, Nat.le_refl _, HF.out⟩
end Go.Proofs.YtiflmkicnkbeaaaGreatDoor
namespace Go.Proofs.YtiflmkicnkbeaaaGreatDoor
open Go.RowKit
theorem Sr.ne {w : World} {sp p q g : Nat} {R : SR} {s : CS} (h : Sr w sp q R) (hc : Cl w p g s) : sp ≠ p ∧ sp ≠ g := by
 refine ⟨fun e => ?_, fun e => ?_⟩
 · subst e; have := h.symm.trans hc.1; simp at this
 · subst e; have := h.symm.trans hc.2.1; simp at this
theorem record_any (sp p : Nat) (R : SR) (w : World) (h : Sr w sp p R) :
 Calls Tryz.prog 68 #[.pointer (some ⟨sp, 0, none⟩)] w fun e w' => e = .returned (.agg #[.int .i64 R.c, .int .i64 R.n]) ∧ Fr w w' [] := by
 obtain ⟨s0, s1, s2, s3⟩ := h.cells
 have hlt := h.lt
 clear h s0 s3
 go_enter Tryz.func68, Tryz.ntmps68
 go_wp2
 exact bodyPost_ret (v := .agg #[.int .i64 R.c, .int .i64 R.n]) (by simp [results, Tryz.results68, go_sem]) rfl ⟨rfl, Fr.alloc _ _ _⟩
theorem spare_any (sp p : Nat) (R : SR) (w : World) (h : Sr w sp p R) :
 Calls Tryz.prog 147 #[.pointer (some ⟨sp, 0, none⟩)] w fun e w' => e = .returned (.int .i64 (R.spare : Int)) ∧ w = w' := by
 obtain ⟨s0, s1, s2, s3⟩ := h.cells
 clear h s0 s1 s2
 obtain ⟨x, hx⟩ : ∃ x, x = R.spare := ⟨_, rfl⟩
 rw [← hx]
 obtain ⟨k, hk⟩ : ∃ k, k = R.k := ⟨_, rfl⟩
 rw [← hk] at s3
 by_cases h0 : k = 0
 · have hx0 : x = 0 + 1 := by rw [hx]; unfold SR.spare; rw [if_pos (by omega)]
   subst h0 hx0
   clear hx hk
   go_enter Tryz.func147, Tryz.ntmps147
   go_wp2
   go_ret
   exact ⟨rfl, rfl⟩
 · have hx0 : x = 0 := by rw [hx]; unfold SR.spare; rw [if_neg (by omega)]
   have hb : (k == 0) = false := by simpa using h0
   subst hx0
   clear hx hk h0
   go_enter Tryz.func147, Tryz.ntmps147
   go_wp2
   go_ret
   exact ⟨rfl, rfl⟩
theorem sub45 : ∀ i ∈ [4, 5], i ∈ [2, 4, 5, 7] := by decide
theorem SR.save_no (R : SR) (s : CS) (c n : Int) (d : Nat) (h : R.code c n = d + 1) : R.save s c n = (s, R, d + 1) := by
 unfold SR.save; rw [if_neg (by omega), h]
theorem SR.save_yes (R : SR) (s s' : CS) (c n : Int) (h : R.code c n = 0) (h2 : s.run (plan R.spare c n) = (s', 0)) : R.save s c n = (s', ⟨c, n, (R.spare : Int)⟩, 0) := by
 unfold SR.save; rw [if_pos h, h2]; simp
theorem SR.save_cut (R : SR) (s s' : CS) (c n : Int) (d : Nat) (h : R.code c n = 0) (h2 : s.run (plan R.spare c n) = (s', d + 1)) : R.save s c n = (s', R, d + 1) := by
 unfold SR.save; rw [if_pos h, h2]; simp
set_option maxHeartbeats 4000000 in
set_option maxRecDepth 100000 in
theorem save_any {is : List Nat} (sp p g : Nat) (R : SR) (s : CS) (c n : Int) (w : World) (A : Nat → Addr) (B : Nat) (hS : Sr w sp p R) (hC : Cl w p g s) (hR : R.in) (hsn : s.n < 9223372036854770000) (hE : EV is w A B) (hBp : B ≤ p) (hBg : B ≤ g) (hs : ∀ i ∈ [2, 4, 5, 7], i ∈ is := by decide) :
 Calls Tryz.prog 69 #[.pointer (some ⟨sp, 0, none⟩), .agg #[.int .i64 c, .int .i64 n]] w fun e w' => e = .returned (ev A (R.save s c n).2.2) ∧ Cl w' p g (R.save s c n).1 ∧ Sr w' sp p (R.save s c n).2.1 ∧ Fr w w' [sp, p, g] := by
 have hlt := hS.lt
 have hltc := hC.lt
 have hne := hS.ne hC
 have hW0 : ∃ W0, W0 = w.alloc (.cells #[.int .i64 c, .int .i64 n] 150) := ⟨_, rfl⟩
 have hf0 : Fr w (w.alloc (.cells #[.int .i64 c, .int .i64 n] 150)) [] := Fr.alloc _ _ _
 have hbox : ∀ W S, Fr (w.alloc (.cells #[.int .i64 c, .int .i64 n] 150)) W S → w.heap.size ∉ S → W.cell? ⟨w.heap.size, 0, none⟩ = some (.int .i64 c) ∧ W.cell? ⟨w.heap.size, 1, none⟩ = some (.int .i64 n) := by
  intro W S hW hS
  have hr := hW.heap (heap_alloc_new w (.cells #[.int .i64 c, .int .i64 n] 150)) hS
  exact ⟨by rw [cell_of_row W _ 0 _ _ _ hr]; rfl, by rw [cell_of_row W _ 1 _ _ _ hr]; rfl⟩
 have HS := Lib.hid hS
 have HC := Lib.hid hC
 have HR := Lib.hid hR
 have HN := Lib.hid hsn
 have HE := Lib.hid hE
 have HLT := Lib.hid hlt
 have HLTC := Lib.hid hltc
 have HNE := Lib.hid hne
 have HF0 := Lib.hid hf0
 have HBOX := Lib.hid hbox
 clear hS hC hR hsn hE hlt hltc hne hW0 hf0 hbox
 by_cases hr : c < 0 ∨ n < 0 ∨ 281474976710655 < c ∨ 281474976710655 < n
 · have HV : Hid (R.save s c n = (s, R, 3)) := by show _ = _; exact R.save_no s c n 2 (by unfold SR.code; rw [if_pos hr])
   have e3 : ∀ W, Fr w W [] → W.cell? ⟨0, 0, none⟩ = some (ev A 3) := fun W hW => ((HE.out.fr hW (by simp)).cell 2 (hs 2 (by decide))).1
   have E3' := Lib.hid (e3 _ HF0.out)
   clear e3
   obtain ⟨v, hv⟩ : ∃ v, v = ev A 3 := ⟨_, rfl⟩
   rw [← hv] at E3'
   have HVV := Lib.hid hv
   clear hv
   have e3 := E3'.out
   have hcase : (c < 0 ∨ 281474976710655 < c) ∨ ((0 ≤ c ∧ c ≤ 281474976710655) ∧ (n < 0 ∨ 281474976710655 < n)) := by omega
   clear hr
   rcases hcase with h1 | ⟨⟨h1, h2⟩, h3⟩
   · have HI := Lib.hid (fun W => inRange_no c W h1)
     clear h1
     go_enter Tryz.func69, Tryz.ntmps69
     go_wp2_with fail
     refine (HI.out _).mono ?_
     rintro e w1 ⟨rfl, rfl⟩
     go_wp2
     go_ret
     rw [HV.out, HVV.out]
     exact ⟨rfl, HC.out.fr HF0.out (by simp) (by simp), HS.out.fr HF0.out (by simp), HF0.out.mono (by simp)⟩
   · have HI := Lib.hid (fun W => inRange_yes c W h1 h2)
     have HJ := Lib.hid (fun W => inRange_no n W h3)
     clear h1 h2 h3
     go_enter Tryz.func69, Tryz.ntmps69
     go_wp2_with fail
     refine (HI.out _).mono ?_
     rintro e w1 ⟨rfl, rfl⟩
     go_wp2_with fail
     refine (HJ.out _).mono ?_
     rintro e w1 ⟨rfl, rfl⟩
     go_wp2
     go_ret
     rw [HV.out, HVV.out]
     exact ⟨rfl, HC.out.fr HF0.out (by simp) (by simp), HS.out.fr HF0.out (by simp), HF0.out.mono (by simp)⟩
 · obtain ⟨c0, c1, n0, n1⟩ : 0 ≤ c ∧ c ≤ 281474976710655 ∧ 0 ≤ n ∧ n ≤ 281474976710655 := by omega
   have HI := Lib.hid (fun W => inRange_yes c W c0 c1)
   have HJ := Lib.hid (fun W => inRange_yes n W n0 n1)
   have HCN := Lib.hid (show (0 ≤ c ∧ c ≤ 281474976710655) ∧ (0 ≤ n ∧ n ≤ 281474976710655) from ⟨⟨c0, c1⟩, n0, n1⟩)
   have hcd : R.code c n = if c < R.c ∨ n < R.n ∨ (c = R.c ∧ n = R.n) then 8 else 0 := by unfold SR.code; rw [if_neg hr]
   have HCD := Lib.hid hcd
   have hs0 := HS.out.fr HF0.out (by simp)
   obtain ⟨s0, s1, s2, s3⟩ := hs0.cells
   obtain ⟨Rc, hRc⟩ : ∃ x, x = R.c := ⟨_, rfl⟩
   obtain ⟨Rn, hRn⟩ : ∃ x, x = R.n := ⟨_, rfl⟩
   rw [← hRc] at s1 HCD
   rw [← hRn] at s2 HCD
   have HRC := Lib.hid hRc
   have HRN := Lib.hid hRn
   clear hr hcd c0 c1 n0 n1 hs0 hRc hRn
   by_cases ho : c < Rc ∨ n < Rn ∨ (c = Rc ∧ n = Rn)
   · have HV : Hid (R.save s c n = (s, R, 8)) := by show _ = _; exact R.save_no s c n 7 (by rw [HCD.out, if_pos ho])
     have e8 : ∀ W, Fr w W [] → W.cell? ⟨2, 0, none⟩ = some (ev A 8) := fun W hW => ((HE.out.fr hW (by simp)).cell 7 (hs 7 (by decide))).1
     obtain ⟨v, hv⟩ : ∃ v, v = ev A 8 := ⟨_, rfl⟩
     rw [← hv] at e8
     have e8' := e8 _ HF0.out
     have HVV := Lib.hid hv
     clear hv e8
     have hcase : c < Rc ∨ (¬ c < Rc ∧ n < Rn) ∨ (c = Rc ∧ n = Rn) := by omega
     clear ho
     rcases hcase with h1 | ⟨h1, h2⟩ | ⟨h1, h2⟩
     · go_enter Tryz.func69, Tryz.ntmps69
       go_wp2_with fail
       refine (HI.out _).mono ?_
       rintro e w1 ⟨rfl, rfl⟩
       go_wp2_with fail
       refine (HJ.out _).mono ?_
       rintro e w1 ⟨rfl, rfl⟩
       go_wp2
       go_quiet (fail)
       go_wp2
       go_ret
       rw [HV.out, HVV.out]
       have HFQ := Lib.hid (HF0.out.trans (Fr.drewN _ nq []))
       exact ⟨rfl, HC.out.fr HFQ.out (by simp) (by simp), HS.out.fr HFQ.out (by simp), HFQ.out.mono (by simp)⟩
     · go_enter Tryz.func69, Tryz.ntmps69
       go_wp2_with fail
       refine (HI.out _).mono ?_
       rintro e w1 ⟨rfl, rfl⟩
       go_wp2_with fail
       refine (HJ.out _).mono ?_
       rintro e w1 ⟨rfl, rfl⟩
       go_wp2
       go_quiet (fail)
       go_wp2
       go_ret
       rw [HV.out, HVV.out]
       have HFQ := Lib.hid (HF0.out.trans (Fr.drewN _ nq []))
       exact ⟨rfl, HC.out.fr HFQ.out (by simp) (by simp), HS.out.fr HFQ.out (by simp), HFQ.out.mono (by simp)⟩
     · subst h1 h2
       go_enter Tryz.func69, Tryz.ntmps69
       go_wp2_with fail
       refine (HI.out _).mono ?_
       rintro e w1 ⟨rfl, rfl⟩
       go_wp2_with fail
       refine (HJ.out _).mono ?_
       rintro e w1 ⟨rfl, rfl⟩
       go_wp2
       go_quiet (fail)
       go_wp2
       go_ret
       rw [HV.out, HVV.out]
       have HFQ := Lib.hid (HF0.out.trans (Fr.drewN _ nq []))
       exact ⟨rfl, HC.out.fr HFQ.out (by simp) (by simp), HS.out.fr HFQ.out (by simp), HFQ.out.mono (by simp)⟩
   · have HV0 : Hid (R.code c n = 0) := by show _ = _; rw [HCD.out, if_neg ho]
     have h1 : ¬ c < Rc := by omega
     have h2 : ¬ n < Rn := by omega
     have h3 : c ≠ Rc ∨ n ≠ Rn := by omega
     clear ho
     have hb1 : decide (c < Rc) = false := by simpa using h1
     have hb2 : decide (n < Rn) = false := by simpa using h2
     have hsp : R.spare < 2 := by unfold SR.spare; split <;> omega
     have hwr := fun W (hW : Fr w W []) => write_any p g s R.spare c n W A B (HC.out.fr hW (by simp) (by simp)) hsp (by have := HN.out; omega) HCN.out.1 HCN.out.2 (HE.out.fr hW (by simp)) hBp hBg (fun i hi => hs i (sub45 i hi))
     have hsv := fun s' h2 => R.save_yes s s' c n HV0.out h2
     have hsc := fun s' d h2 => R.save_cut s s' c n d HV0.out h2
     obtain ⟨t, ht⟩ : ∃ t, t = s.run (plan R.spare c n) := ⟨_, rfl⟩
     rw [← ht] at hwr hsv hsc
     obtain ⟨s', cd⟩ := t
     clear ht
     match cd, hwr, hsv, hsc with
     | d + 1, hwr, hsv, hsc =>
       have HV := Lib.hid (hsc s' d rfl)
       rw [ev_some] at hwr
       have HWR := Lib.hid hwr
       clear hsp hwr hsv hsc
       rcases h3 with h3 | h3
       all_goals
        go_enter Tryz.func69, Tryz.ntmps69
        go_wp2_with fail
        refine (HI.out _).mono ?_
        rintro e w1 ⟨rfl, rfl⟩
        go_wp2_with fail
        refine (HJ.out _).mono ?_
        rintro e w1 ⟨rfl, rfl⟩
        go_wp2
        go_quiet (fail)
        go_wp2_with fail
        generalize hWQ : World.drewN _ nq = WQ
        have HFQ := Lib.hid (show Fr w WQ [] by rw [← hWQ]; exact HF0.out.trans (Fr.drewN _ nq []))
        have HBX := Lib.hid (fun W S (hW : Fr WQ W S) (hS : w.heap.size ∉ S) => HBOX.out W S (by rw [← hWQ] at hW; exact (Fr.drewN _ nq S).trans hW) hS)
        clear hWQ
        refine (spare_any sp p R WQ (HS.out.fr HFQ.out (by simp))).mono ?_
        rintro e w1 ⟨rfl, rfl⟩
        have q0 := (HS.out.fr HFQ.out (by simp)).cells.1
        obtain ⟨b0, b1⟩ := HBX.out _ [] (Fr.refl _ _) (by simp)
        have hns : sp ∉ [p, g] := by have := HNE.out; simp; omega
        have hnw : w.heap.size ∉ [p, g] := by have := HLTC.out; simp; omega
        have HNS := Lib.hid hns
        have HNW := Lib.hid hnw
        clear s0 s1 s2 s3 hb1 hb2 h1 h2 h3 hns hnw
        go_wp2_with fail
        go_region_held3 (fun w' => w'.cell? ⟨sp, 0, none⟩ = some (.pointer (some ⟨p, 0, none⟩)) ∧ w'.cell? ⟨w.heap.size, 0, none⟩ = some (.int .i64 c) ∧ w'.cell? ⟨w.heap.size, 1, none⟩ = some (.int .i64 n))
         (first | exact ⟨q0, b0, b1⟩ | exact ⟨q0x, b0x, b1x⟩)
         (first
          | (go_at_call 148; ((with_reducible refine (HWR.out _ (HFQ.out.trans (Fr.drew WQ []))).mono ?_); rintro e wx ⟨rfl, hcx, hfx⟩; have hfx0 := (Fr.drew WQ [p, g]).trans hfx; have q0x := hfx0.cell q0 HNS.out; have b0x := hfx0.cell b0 HNW.out; have b1x := hfx0.cell b1 HNW.out)))
        all_goals
         have HCX := Lib.hid hcx
         have HFX := Lib.hid (HFQ.out.comb (U := [sp, p, g]) hfx0 (by simp) (by simp))
         have hsx := (HS.out.fr HFQ.out (by simp)).fr hfx0 HNS.out
         have HSX := Lib.hid hsx
         clear hcx hfx hfx0 hsx q0 b0 b1 q0x b0x b1x
         go_wp2
         go_ret
         rw [HV.out]
         exact ⟨rfl, HCX.out, HSX.out, HFX.out⟩
     | 0, hwr, hsv, hsc =>
       have HV := Lib.hid (hsv s' rfl)
       rw [show ev A 0 = .nilIface from rfl] at hwr
       have HWR := Lib.hid hwr
       clear hsp hwr hsv hsc
       rcases h3 with h3 | h3
       all_goals
        go_enter Tryz.func69, Tryz.ntmps69
        go_wp2_with fail
        refine (HI.out _).mono ?_
        rintro e w1 ⟨rfl, rfl⟩
        go_wp2_with fail
        refine (HJ.out _).mono ?_
        rintro e w1 ⟨rfl, rfl⟩
        go_wp2
        go_quiet (fail)
        go_wp2_with fail
        generalize hWQ : World.drewN _ nq = WQ
        have HFQ := Lib.hid (show Fr w WQ [] by rw [← hWQ]; exact HF0.out.trans (Fr.drewN _ nq []))
        have HBX := Lib.hid (fun W S (hW : Fr WQ W S) (hS : w.heap.size ∉ S) => HBOX.out W S (by rw [← hWQ] at hW; exact (Fr.drewN _ nq S).trans hW) hS)
        clear hWQ
        refine (spare_any sp p R WQ (HS.out.fr HFQ.out (by simp))).mono ?_
        rintro e w1 ⟨rfl, rfl⟩
        have q0 := (HS.out.fr HFQ.out (by simp)).cells.1
        obtain ⟨b0, b1⟩ := HBX.out _ [] (Fr.refl _ _) (by simp)
        have hns : sp ∉ [p, g] := by have := HNE.out; simp; omega
        have hnw : w.heap.size ∉ [p, g] := by have := HLTC.out; simp; omega
        have HNS := Lib.hid hns
        have HNW := Lib.hid hnw
        clear s0 s1 s2 s3 hb1 hb2 h1 h2 h3 hns hnw
        go_wp2_with fail
        go_region_held3 (fun w' => w'.cell? ⟨sp, 0, none⟩ = some (.pointer (some ⟨p, 0, none⟩)) ∧ w'.cell? ⟨w.heap.size, 0, none⟩ = some (.int .i64 c) ∧ w'.cell? ⟨w.heap.size, 1, none⟩ = some (.int .i64 n))
         (first | exact ⟨q0, b0, b1⟩ | exact ⟨q0x, b0x, b1x⟩)
         (first
          | (go_at_call 148; ((with_reducible refine (HWR.out _ (HFQ.out.trans (Fr.drew WQ []))).mono ?_); rintro e wx ⟨rfl, hcx, hfx⟩; have hfx0 := (Fr.drew WQ [p, g]).trans hfx; have q0x := hfx0.cell q0 HNS.out; have b0x := hfx0.cell b0 HNW.out; have b1x := hfx0.cell b1 HNW.out)))
        all_goals
         have HCX := Lib.hid hcx
         have HFX := Lib.hid (HFQ.out.comb (U := [sp, p, g]) hfx0 (by simp) (by simp))
         have hsx := (HS.out.fr HFQ.out (by simp)).fr hfx0 HNS.out
         have z1 := hsx.frozen 1
         have z2 := hsx.frozen 2
         have z3 := hsx.frozen 3
         obtain ⟨_, s1, s2, s3⟩ := hsx.cells
         have HSX := Lib.hid hsx
         clear hcx hfx hfx0 hsx q0 b0 b1 q0x
         go_wp2
         go_ret
         rw [HV.out]
         have HFE := Lib.hid (Fr.trans HFX.out (Fr.trans (Fr.trans (Fr.setCell _ sp 1 (.int .i64 c) (List.mem_cons_self)) (Fr.setCell _ sp 2 (.int .i64 n) (List.mem_cons_self))) (Fr.setCell _ sp 3 (.int .i64 (R.spare : Int)) (List.mem_cons_self))))
         have hfs : ∀ W v1 v2 v3, Fr W (((W.setCell ⟨sp, 1, none⟩ v1).setCell ⟨sp, 2, none⟩ v2).setCell ⟨sp, 3, none⟩ v3) [sp] := fun W v1 v2 v3 => Fr.trans (Fr.trans (Fr.setCell _ sp 1 _ (List.mem_cons_self)) (Fr.setCell _ sp 2 _ (List.mem_cons_self))) (Fr.setCell _ sp 3 _ (List.mem_cons_self))
         exact ⟨rfl, HCX.out.fr (hfs _ _ _ _) (by have := HNE.out; simp; omega) (by have := HNE.out; simp; omega), HSX.out.wr c n _, HFE.out⟩
end Go.Proofs.YtiflmkicnkbeaaaGreatDoor
