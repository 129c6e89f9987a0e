import Derived.Test.YtiflmkicnkbeaaaGreatDoorZp00
import Derived.Test.YtiflmkicnkbeaaaGreatDoorZp02
import Derived.Deep.RegionHeld3
import Derived.Lib.MinMax
import Derived.Laws.Bits64b
import Derived.Laws.ShiftsVarLaws
namespace Go.Proofs.YtiflmkicnkbeaaaGreatDoor
open Go.RowKit
structure Ho where
 c : Int
 f : Int
 s : Int
 d : Int
abbrev Ho.v (h : Ho) : Value := .agg #[.int .i64 h.c, .int .i64 h.f, .int .i64 h.s, .int .i64 h.d]
def Ho.ok (h : Ho) : Prop := (1 ≤ h.c ∧ h.c ≤ 16) ∧ (2 ≤ h.f ∧ h.f ≤ 64) ∧ (1 ≤ h.s ∧ h.s ≤ 8) ∧ (1 ≤ h.d ∧ h.d ≤ 8)
instance (h : Ho) : Decidable h.ok := by unfold Ho.ok; infer_instance
def Ho.top (h : Ho) : Int := (h.f - 1) * h.s
theorem top_range (f s : Int) (h1 : 2 ≤ f) (h2 : f ≤ 64) (h3 : 1 ≤ s) (h4 : s ≤ 8) : 1 ≤ (f - 1) * s ∧ (f - 1) * s ≤ 504 := by
 have a : (f - 1) * 1 ≤ (f - 1) * s := Int.mul_le_mul_of_nonneg_left h3 (by omega)
 have b : (f - 1) * s ≤ (f - 1) * 8 := Int.mul_le_mul_of_nonneg_left h4 (by omega)
 omega
theorem Ho.range {h : Ho} (k : h.ok) : 1 ≤ h.top ∧ h.top ≤ 504 := top_range _ _ k.2.1.1 k.2.1.2 k.2.2.1.1 k.2.2.1.2
def Ho.has (h : Ho) (p : Int) : Prop := h.ok ∧ 0 ≤ p ∧ p ≤ h.top
instance (h : Ho) (p : Int) : Decidable (h.has p) := by unfold Ho.has; infer_instance
def Ho.lev (h : Ho) (p : Int) : Prop := h.has p ∧ p % h.s = 0
instance (h : Ho) (p : Int) : Decidable (h.lev p) := by unfold Ho.lev; infer_instance
theorem hrow {w : World} {g : Nat} {a b c d : Value} {T : TypeId} (h : w.heap[g]? = some (.cells #[a, b, c, d] T (0, 0))) :
 w.cell? ⟨g, 0, none⟩ = some a ∧ w.cell? ⟨g, 1, none⟩ = some b ∧ w.cell? ⟨g, 2, none⟩ = some c ∧ w.cell? ⟨g, 3, none⟩ = some d :=
 ⟨by rw [cell_of_row w g 0 _ _ _ h]; rfl, by rw [cell_of_row w g 1 _ _ _ h]; rfl, by rw [cell_of_row w g 2 _ _ _ h]; rfl, by rw [cell_of_row w g 3 _ _ _ h]; rfl⟩
abbrev Ho.box (h : Ho) : Obj := .cells #[.int .i64 h.c, .int .i64 h.f, .int .i64 h.s, .int .i64 h.d] 29
def HBh (w : World) (b : Nat) (h : Ho) : Prop := w.heap[b]? = some h.box
theorem HBh.fr {w w' : World} {b : Nat} {h : Ho} (k : HBh w b h) (hf : Fr w w' []) : HBh w' b h := hf.heap k (by simp)
theorem HBh.new (w : World) (h : Ho) : HBh (w.alloc h.box) w.heap.size h := heap_alloc_new w _
theorem HBh.cells {w : World} {b : Nat} {h : Ho} (k : HBh w b h) : w.cell? ⟨b, 0, none⟩ = some (.int .i64 h.c) ∧ w.cell? ⟨b, 1, none⟩ = some (.int .i64 h.f) ∧ w.cell? ⟨b, 2, none⟩ = some (.int .i64 h.s) ∧ w.cell? ⟨b, 3, none⟩ = some (.int .i64 h.d) := hrow k
theorem within_any (n l m : Int) (w : World) (b : Bool) (hb : b = decide (l ≤ n ∧ n ≤ m)) : Calls Tryz.prog 140 #[.int .i64 n, .int .i64 l, .int .i64 m] w fun e w' => e = .returned (.bool b) ∧ w' = w := by
 by_cases h1 : l ≤ n
 · by_cases h2 : n ≤ m
   · have HBh : Hid (b = true) := by show _ = _; rw [hb]; simp [h1, h2]
     clear hb
     go_enter Tryz.func140, Tryz.ntmps140
     go_wp2
     go_ret
     exact ⟨by rw [HBh.out]; rfl, rfl⟩
   · have HBh : Hid (b = false) := by show _ = _; rw [hb]; simp [h1, h2]
     clear hb
     go_enter Tryz.func140, Tryz.ntmps140
     go_wp2
     go_ret
     exact ⟨by rw [HBh.out]; rfl, rfl⟩
 · have HBh : Hid (b = false) := by show _ = _; rw [hb]; simp [h1]
   clear hb
   go_enter Tryz.func140, Tryz.ntmps140
   go_wp2
   go_ret
   exact ⟨by rw [HBh.out]; rfl, rfl⟩
set_option maxRecDepth 100000 in
theorem valid_any (h : Ho) (w : World) (b : Bool) (hb : b = decide h.ok) : Calls Tryz.prog 65 #[h.v] w fun e w' => e = .returned (.bool b) ∧ Fr w w' [] := by
 obtain ⟨c, f, s, d⟩ := h
 have HBh := Lib.hid (show b = decide ((1 ≤ c ∧ c ≤ 16) ∧ (2 ≤ f ∧ f ≤ 64) ∧ (1 ≤ s ∧ s ≤ 8) ∧ (1 ≤ d ∧ d ≤ 8)) from hb)
 clear hb
 have FA := Lib.hid (Fr.alloc w (Ho.box ⟨c, f, s, d⟩) [])
 dsimp only [Ho.v, Ho.box] at *
 obtain ⟨bc, ec⟩ : ∃ x, x = decide (1 ≤ c ∧ c ≤ 16) := ⟨_, rfl⟩
 obtain ⟨bf, ef⟩ : ∃ x, x = decide (2 ≤ f ∧ f ≤ 64) := ⟨_, rfl⟩
 obtain ⟨bs, es⟩ : ∃ x, x = decide (1 ≤ s ∧ s ≤ 8) := ⟨_, rfl⟩
 obtain ⟨bd, ed⟩ : ∃ x, x = decide (1 ≤ d ∧ d ≤ 8) := ⟨_, rfl⟩
 have HR : Hid (b = (bc && (bf && (bs && bd)))) := by show _ = _; rw [HBh.out, ec, ef, es, ed]; simp only [Bool.decide_and]
 have WC := Lib.hid (fun W => within_any c 1 16 W bc ec)
 have WF := Lib.hid (fun W => within_any f 2 64 W bf ef)
 have WS := Lib.hid (fun W => within_any s 1 8 W bs es)
 have WD := Lib.hid (fun W => within_any d 1 8 W bd ed)
 clear ec ef es ed HBh
 cases bc with
 | false =>
   go_enter Tryz.func65, Tryz.ntmps65
   go_wp2_with fail
   with_reducible refine (WC.out _).mono ?_
   rintro e w' ⟨rfl, rfl⟩
   go_wp2
   go_ret
   exact ⟨by rw [HR.out]; rfl, FA.out⟩
 | true =>
   cases bf with
   | false =>
     go_enter Tryz.func65, Tryz.ntmps65
     go_wp2_with fail
     with_reducible refine (WC.out _).mono ?_
     rintro e w' ⟨rfl, rfl⟩
     go_wp2_with fail
     with_reducible refine (WF.out _).mono ?_
     rintro e w' ⟨rfl, rfl⟩
     go_wp2
     go_ret
     exact ⟨by rw [HR.out]; rfl, FA.out⟩
   | true =>
     cases bs with
     | false =>
       go_enter Tryz.func65, Tryz.ntmps65
       go_wp2_with fail
       with_reducible refine (WC.out _).mono ?_
       rintro e w' ⟨rfl, rfl⟩
       go_wp2_with fail
       with_reducible refine (WF.out _).mono ?_
       rintro e w' ⟨rfl, rfl⟩
       go_wp2_with fail
       with_reducible refine (WS.out _).mono ?_
       rintro e w' ⟨rfl, rfl⟩
       go_wp2
       go_ret
       exact ⟨by rw [HR.out]; rfl, FA.out⟩
     | true =>
       go_enter Tryz.func65, Tryz.ntmps65
       go_wp2_with fail
       with_reducible refine (WC.out _).mono ?_
       rintro e w' ⟨rfl, rfl⟩
       go_wp2_with fail
       with_reducible refine (WF.out _).mono ?_
       rintro e w' ⟨rfl, rfl⟩
       go_wp2_with fail
       with_reducible refine (WS.out _).mono ?_
       rintro e w' ⟨rfl, rfl⟩
       go_wp2_with fail
       with_reducible refine (WD.out _).mono ?_
       rintro e w' ⟨rfl, rfl⟩
       go_wp2
       go_ret
       exact ⟨by rw [HR.out]; rfl, FA.out⟩
def Ho.topR (h : Ho) : Int := if h.ok then h.top else 0
set_option maxRecDepth 100000 in
theorem top_any (h : Ho) (w : World) (r : Int) (hr : r = h.topR) : Calls Tryz.prog 179 #[h.v] w fun e w' => e = .returned (.int .i64 r) ∧ Fr w w' [] := by
 have FA := Lib.hid (Fr.alloc w h.box [])
 have HBh := Lib.hid (HBh.new w h)
 by_cases hk : h.ok
 · have HR : Hid (r = h.top) := by show _ = _; rw [hr, Ho.topR, if_pos hk]
   have V := Lib.hid (fun W => valid_any h W true (decide_eq_true hk).symm)
   have ha := Ho.range hk
   obtain ⟨_, ⟨_, _⟩, ⟨_, _⟩, _⟩ := hk
   clear hr
   obtain ⟨c, f, s, d⟩ := h
   dsimp only [Ho.v, Ho.box, Ho.top] at *
   go_enter Tryz.func179, Tryz.ntmps179
   go_wp2_with fail
   with_reducible refine (V.out _).mono ?_
   rintro e w2 ⟨rfl, hf⟩
   obtain ⟨c0, c1, c2, c3⟩ := (HBh.out.fr hf).cells
   have F2 := Lib.hid (FA.out.trans hf)
   clear hf
   dsimp only at c0 c1 c2 c3
   go_wp2
   go_ret
   exact ⟨by rw [HR.out]; rfl, F2.out⟩
 · have HR : Hid (r = 0) := by show _ = _; rw [hr, Ho.topR, if_neg hk]
   have V := Lib.hid (fun W => valid_any h W false (decide_eq_false hk).symm)
   clear hr hk
   obtain ⟨c, f, s, d⟩ := h
   dsimp only [Ho.v, Ho.box, Ho.top] at *
   go_enter Tryz.func179, Tryz.ntmps179
   go_wp2_with fail
   with_reducible refine (V.out _).mono ?_
   rintro e w2 ⟨rfl, hf⟩
   go_wp2
   go_ret
   exact ⟨by rw [HR.out]; rfl, FA.out.trans hf⟩
set_option maxRecDepth 100000 in
theorem inside_any (h : Ho) (p : Int) (w : World) (b : Bool) (hb : b = decide (h.has p)) : Calls Tryz.prog 217 #[h.v, .int .i64 p] w fun e w' => e = .returned (.bool b) ∧ Fr w w' [] := by
 have FA := Lib.hid (Fr.alloc w h.box [])
 have HBh := Lib.hid (HBh.new w h)
 by_cases hk : h.ok
 · have V := Lib.hid (fun W => valid_any h W true (decide_eq_true hk).symm)
   have T := Lib.hid (fun W => top_any h W h.top (by rw [Ho.topR, if_pos hk]))
   have HI := Lib.hid (fun W => within_any p 0 h.top W b (by rw [hb]; simp [Ho.has, hk]))
   clear hb hk
   obtain ⟨t, ht⟩ : ∃ t, t = h.top := ⟨_, rfl⟩
   rw [← ht] at T HI
   clear ht
   obtain ⟨c, f, s, d⟩ := h
   dsimp only [Ho.v, Ho.box] at *
   go_enter Tryz.func217, Tryz.ntmps217
   go_wp2_with fail
   with_reducible refine (V.out _).mono ?_
   rintro e w2 ⟨rfl, hf⟩
   obtain ⟨c0, c1, c2, c3⟩ := (HBh.out.fr hf).cells
   have F2 := Lib.hid (FA.out.trans hf)
   clear hf
   dsimp only at c0 c1 c2 c3
   go_wp2_with fail
   with_reducible refine (T.out _).mono ?_
   rintro e w3 ⟨rfl, hf⟩
   go_wp2_with fail
   with_reducible refine (HI.out _).mono ?_
   rintro e w4 ⟨rfl, rfl⟩
   go_wp2
   go_ret
   exact ⟨rfl, F2.out.trans hf⟩
 · have V := Lib.hid (fun W => valid_any h W false (decide_eq_false hk).symm)
   have HR : Hid (b = false) := by show _ = _; rw [hb]; simp [Ho.has, hk]
   clear hb hk
   obtain ⟨c, f, s, d⟩ := h
   dsimp only [Ho.v, Ho.box] at *
   go_enter Tryz.func217, Tryz.ntmps217
   go_wp2_with fail
   with_reducible refine (V.out _).mono ?_
   rintro e w2 ⟨rfl, hf⟩
   go_wp2
   go_ret
   exact ⟨by rw [HR.out]; rfl, FA.out.trans hf⟩
theorem tmod_zero {p s : Int} (h : 0 ≤ p) : p.tmod s = p % s := Int.tmod_eq_emod_of_nonneg h
set_option maxRecDepth 100000 in
theorem level_any (h : Ho) (p : Int) (w : World) (b : Bool) (hb : b = decide (h.lev p)) : Calls Tryz.prog 141 #[h.v, .int .i64 p] w fun e w' => e = .returned (.bool b) ∧ Fr w w' [] := by
 have FA := Lib.hid (Fr.alloc w h.box [])
 have HBh := Lib.hid (HBh.new w h)
 by_cases hk : h.has p
 · have I := Lib.hid (fun W => inside_any h p W true (decide_eq_true hk).symm)
   have HM := tmod_zero (s := h.s) hk.2.1
   have hs := hk.1.2.2.1.1
   by_cases hm : p % h.s = 0
   · have HR : Hid (b = true) := by show _ = _; rw [hb]; simp [Ho.lev, hk, hm]
     have hm' : p.tmod h.s = 0 := by rw [HM]; exact hm
     clear hb hk HM hm
     obtain ⟨c, f, s, d⟩ := h
     dsimp only [Ho.v, Ho.box] at *
     have hn : ¬ s = 0 := by omega
     go_enter Tryz.func141, Tryz.ntmps141
     go_wp2_with fail
     with_reducible refine (I.out _).mono ?_
     rintro e w2 ⟨rfl, hf⟩
     obtain ⟨c0, c1, c2, c3⟩ := (HBh.out.fr hf).cells
     have F2 := Lib.hid (FA.out.trans hf)
     clear hf
     dsimp only at c0 c1 c2 c3
     go_wp2
     go_ret
     exact ⟨by rw [HR.out]; rfl, F2.out⟩
   · have HR : Hid (b = false) := by show _ = _; rw [hb]; simp [Ho.lev, hm]
     have hm' : (p.tmod h.s == 0) = false := by rw [HM]; simpa using hm
     clear hb hk HM hm
     obtain ⟨c, f, s, d⟩ := h
     dsimp only [Ho.v, Ho.box] at *
     have hn : ¬ s = 0 := by omega
     go_enter Tryz.func141, Tryz.ntmps141
     go_wp2_with fail
     with_reducible refine (I.out _).mono ?_
     rintro e w2 ⟨rfl, hf⟩
     obtain ⟨c0, c1, c2, c3⟩ := (HBh.out.fr hf).cells
     have F2 := Lib.hid (FA.out.trans hf)
     clear hf
     dsimp only at c0 c1 c2 c3
     go_wp2
     go_ret
     exact ⟨by rw [HR.out]; rfl, F2.out⟩
 · have I := Lib.hid (fun W => inside_any h p W false (decide_eq_false hk).symm)
   have HR : Hid (b = false) := by show _ = _; rw [hb]; simp [Ho.lev, hk]
   clear hb hk
   obtain ⟨c, f, s, d⟩ := h
   dsimp only [Ho.v, Ho.box] at *
   go_enter Tryz.func141, Tryz.ntmps141
   go_wp2_with fail
   with_reducible refine (I.out _).mono ?_
   rintro e w2 ⟨rfl, hf⟩
   go_wp2
   go_ret
   exact ⟨by rw [HR.out]; rfl, FA.out.trans hf⟩
end Go.Proofs.YtiflmkicnkbeaaaGreatDoor
namespace Go.Proofs.YtiflmkicnkbeaaaGreatDoor
open Go.RowKit
def HS (W : World) (b : Nat) (c f s d : Int) (a : World) : Prop := Fr W a [] ∧ a.cell? ⟨b, 0, none⟩ = some (.int .i64 c) ∧ a.cell? ⟨b, 1, none⟩ = some (.int .i64 f) ∧ a.cell? ⟨b, 2, none⟩ = some (.int .i64 s) ∧ a.cell? ⟨b, 3, none⟩ = some (.int .i64 d)
theorem HS.fr {W : World} {b : Nat} {c f s d : Int} {a a' : World} (h : HS W b c f s d a) (k : Fr a a' []) : HS W b c f s d a' := by
 obtain ⟨h0, h1, h2, h3, h4⟩ := h
 exact ⟨h0.trans k, k.cell h1 (by simp), k.cell h2 (by simp), k.cell h3 (by simp), k.cell h4 (by simp)⟩
theorem HS.of {W a : World} {b : Nat} {h : Ho} (hf : Fr W a []) (k : HBh a b h) : HS W b h.c h.f h.s h.d a := ⟨hf, k.cells⟩
def Ho.flr (h : Ho) (p : Int) : Int := if h.ok then min (max p 0) h.top / h.s else 0
set_option maxRecDepth 100000 in
theorem floor_any (h : Ho) (p : Int) (w : World) (r : Int) (hr : r = h.flr p) : Calls Tryz.prog 99 #[h.v, .int .i64 p] w fun e w' => e = .returned (.int .i64 r) ∧ Fr w w' [] := by
 have FA := Lib.hid (Fr.alloc w h.box [])
 have HBh := Lib.hid (HBh.new w h)
 by_cases hk : h.ok
 · have V := Lib.hid (fun W => valid_any h W true (decide_eq_true hk).symm)
   have T := Lib.hid (fun W => top_any h W h.top (by rw [Ho.topR, if_pos hk]))
   have ha := Ho.range hk
   have hs := hk.2.2.1
   rw [Ho.flr, if_pos hk] at hr
   obtain ⟨t, ht⟩ : ∃ t, t = h.top := ⟨_, rfl⟩
   rw [← ht] at T hr ha
   clear ht hk
   obtain ⟨m0, hm0⟩ : ∃ m, max p 0 = m := ⟨_, rfl⟩
   obtain ⟨m, hm⟩ : ∃ m, min m0 t = m := ⟨_, rfl⟩
   rw [hm0, hm] at hr
   have hmm : 0 ≤ m ∧ m ≤ 504 := by omega
   have hq0 : 0 ≤ m / h.s := Int.ediv_nonneg hmm.1 (by omega)
   have hq1 : m / h.s ≤ m := Int.ediv_le_self _ hmm.1
   rw [← Int.tdiv_eq_ediv_of_nonneg hmm.1] at hr hq0 hq1
   have hwq : IntKind.i64.wrap (m.tdiv h.s) = r := by rw [hr]; exact IntWalk.i64_in _ (by omega)
   clear hr hq0 hq1
   obtain ⟨c, f, s, d⟩ := h
   dsimp only [Ho.v, Ho.box] at *
   have hn : ¬ s = 0 := by omega
   have hn1 : ¬ s = -1 := by omega
   go_enter Tryz.func99, Tryz.ntmps99
   go_wp2_with fail
   with_reducible refine (V.out _).mono ?_
   rintro e w2 ⟨rfl, hf⟩
   have HS0 := Lib.hid (HS.of (h := ⟨c, f, s, d⟩) ((FA.out.trans hf).trans (Fr.drew _ [])) (HBh.out.fr (hf.trans (Fr.drew _ []))))
   clear hf
   go_wp2
   refine wp_region_det (S := HS w w.heap.size c f s d) (by kernel_rfl) HS0.out ?_
   refine zDU fun hU => ?_
   try dsimp only [HS] at hU
   refine zD 0 ?_
   refine zD 1 ?_
   refine zD 2 ?_
   refine zD 3 ?_ (hv := by (intro w hSw; go_simp; exact Came.call ((T.out w).mono fun e w' ⟨he, hf⟩ => ⟨he, hSw.fr hf⟩) (by with_reducible rfl)))
   refine zD 4 ?_
   refine zD 5 ?_
   refine zD 6 ?_
   refine zD 7 ?_
   refine zD 8 ?_
   refine wpDet_done (by kernel_rfl) ?_ _
   rintro w3 ⟨hF, _⟩
   go_wp2
   go_ret
   exact ⟨rfl, hF⟩
 · have V := Lib.hid (fun W => valid_any h W false (decide_eq_false hk).symm)
   have HR : Hid (r = 0) := by show _ = _; rw [hr, Ho.flr, if_neg hk]
   clear hr hk
   obtain ⟨c, f, s, d⟩ := h
   dsimp only [Ho.v, Ho.box] at *
   go_enter Tryz.func99, Tryz.ntmps99
   go_wp2_with fail
   with_reducible refine (V.out _).mono ?_
   rintro e w2 ⟨rfl, hf⟩
   go_wp2
   go_ret
   exact ⟨by rw [HR.out]; rfl, FA.out.trans hf⟩
theorem isnan_any (a : Int) (w : World) : Calls Tryz.prog 330 #[.int .i64 a] w fun e w' => e = .returned (.bool false) ∧ w' = w := by
 have h : (a != a) = false := by simp
 go_enter Tryz.func330, Tryz.ntmps330
 go_wp2
 go_ret
 exact ⟨rfl, rfl⟩
def sgn (m : Int) : Int := if 0 < m then 1 else if m < 0 then -1 else 0
theorem sgn_range (m : Int) : sgn m = -1 ∨ sgn m = 0 ∨ sgn m = 1 := by
 unfold sgn
 split
 · simp
 · split <;> simp
theorem sgn_any (m : Int) (w : World) (g : Int) (hg : g = sgn m) : Calls Tryz.prog 352 #[.int .i64 m, .int .i64 0] w fun e w' => e = .returned (.int .i64 g) ∧ w' = w := by
 by_cases h : m < 0
 · have HC := Lib.hid (show g = -1 by rw [hg, sgn, if_neg (by omega), if_pos h])
   clear hg
   go_enter Tryz.func352, Tryz.ntmps352
   go_wp2_with (go_at_call 330; refine (isnan_any _ _).mono ?_; rintro e w' ⟨rfl, rfl⟩)
   go_ret
   exact ⟨by rw [HC.out]; rfl, rfl⟩
 · by_cases h' : 0 < m
   · have HC := Lib.hid (show g = 1 by rw [hg, sgn, if_pos h'])
     clear hg
     go_enter Tryz.func352, Tryz.ntmps352
     go_wp2_with (go_at_call 330; refine (isnan_any _ _).mono ?_; rintro e w' ⟨rfl, rfl⟩)
     go_ret
     exact ⟨by rw [HC.out]; rfl, rfl⟩
   · have HC := Lib.hid (show g = 0 by rw [hg, sgn, if_neg h', if_neg h])
     clear hg
     go_enter Tryz.func352, Tryz.ntmps352
     go_wp2_with (go_at_call 330; refine (isnan_any _ _).mono ?_; rintro e w' ⟨rfl, rfl⟩)
     go_ret
     exact ⟨by rw [HC.out]; rfl, rfl⟩
theorem wrap_go (h : Ho) (p g : Int) (h0 : -9223372036854775808 ≤ p) (h1 : p ≤ 9223372036854775807) (hg : g = -1 ∨ g = 0 ∨ g = 1) :
 (h.has (IntKind.i64.wrap (p + g)) ↔ h.has (p + g)) ∧ (h.has (p + g) → IntKind.i64.wrap (p + g) = p + g) := by
 by_cases hin : -9223372036854775808 ≤ p + g ∧ p + g ≤ 9223372036854775807
 · rw [IntWalk.i64_in _ hin]
   exact ⟨Iff.rfl, fun _ => rfl⟩
 · have hno : ¬ h.has (p + g) := fun hk => by have := Ho.range hk.1; have := hk.2; omega
   refine ⟨⟨fun hk => ?_, fun hk => absurd hk hno⟩, fun hk => absurd hk hno⟩
   exfalso
   have hr := Ho.range hk.1
   have hp : (p = 9223372036854775807 ∧ g = 1) ∨ (p = -9223372036854775808 ∧ g = -1) := by omega
   rcases hp with ⟨rfl, rfl⟩ | ⟨rfl, rfl⟩
   · rw [show IntKind.i64.wrap (9223372036854775807 + 1) = -9223372036854775808 by decide] at hk
     have := hk.2; omega
   · rw [show IntKind.i64.wrap (-9223372036854775808 + -1) = 9223372036854775807 by decide] at hk
     have := hk.2; omega
set_option maxRecDepth 100000 in
theorem go_any (h : Ho) (p m : Int) (h0 : -9223372036854775808 ≤ p) (h1 : p ≤ 9223372036854775807) (w : World) (b : Bool) (hb : b = decide (h.has (p + sgn m))) (r : Int) (hr : r = if b = true then p + sgn m else 0) :
 Calls Tryz.prog 324 #[h.v, .int .i64 p, .int .i64 m] w fun e w' => e = .returned (.tuple #[.int .i64 r, .bool b]) ∧ Fr w w' [] := by
 have FA := Lib.hid (Fr.alloc w h.box [])
 have HBh := Lib.hid (HBh.new w h)
 obtain ⟨g, hg⟩ : ∃ g, g = sgn m := ⟨_, rfl⟩
 have C := Lib.hid (fun W => sgn_any m W g hg)
 have hgr := sgn_range m
 rw [← hg] at hb hr hgr
 have hw := wrap_go h p g h0 h1 hgr
 obtain ⟨q, hq⟩ : ∃ q, IntKind.i64.wrap (p + g) = q := ⟨_, rfl⟩
 rw [hq] at hw
 have I := Lib.hid (fun W => inside_any h q W b (by rw [hb]; exact decide_eq_decide.2 hw.1.symm))
 have HR : Hid (r = if b = true then q else 0) := by
  show _ = _
  rw [hr]
  cases hbb : b with
  | false => simp
  | true =>
    rw [hbb] at hb
    simp
    exact (hw.2 (of_decide_eq_true hb.symm)).symm
 clear hb hr hgr hw hg h0 h1
 obtain ⟨c, f, s, d⟩ := h
 dsimp only [Ho.v, Ho.box] at *
 cases b with
 | true =>
   have HR1 : Hid (r = q) := by show _ = _; rw [HR.out]; simp
   clear HR
   go_enter Tryz.func324, Tryz.ntmps324
   go_wp2_with fail
   with_reducible refine (C.out _).mono ?_
   rintro e w2 ⟨rfl, rfl⟩
   go_wp2_with fail
   with_reducible refine (I.out _).mono ?_
   rintro e w2 ⟨rfl, hf⟩
   go_wp2
   go_ret2
   exact ⟨by rw [HR1.out]; rfl, FA.out.trans hf⟩
 | false =>
   have HR1 : Hid (r = 0) := by show _ = _; rw [HR.out]; simp
   clear HR
   go_enter Tryz.func324, Tryz.ntmps324
   go_wp2_with fail
   with_reducible refine (C.out _).mono ?_
   rintro e w2 ⟨rfl, rfl⟩
   go_wp2_with fail
   with_reducible refine (I.out _).mono ?_
   rintro e w2 ⟨rfl, hf⟩
   go_wp2
   go_ret2
   exact ⟨by rw [HR1.out]; rfl, FA.out.trans hf⟩
end Go.Proofs.YtiflmkicnkbeaaaGreatDoor
namespace Go.Proofs.YtiflmkicnkbeaaaGreatDoor
theorem top_mod (h : Ho) : h.top % h.s = 0 := by unfold Ho.top; exact Int.mul_emod_left _ _
theorem top_div {h : Ho} (k : h.ok) : h.top / h.s = h.f - 1 := by
 unfold Ho.top
 exact Int.mul_ediv_cancel _ (by have := k.2.2.1.1; omega)
theorem lev_zero {h : Ho} (k : h.ok) : h.lev 0 := ⟨⟨k, by omega, by have := Ho.range k; omega⟩, Int.zero_emod _⟩
theorem lev_top {h : Ho} (k : h.ok) : h.lev h.top := ⟨⟨k, by have := Ho.range k; omega, by omega⟩, top_mod h⟩
theorem flr_in {h : Ho} (k : h.ok) {p : Int} (h0 : 0 ≤ p) (h1 : p ≤ h.top) : h.flr p = p / h.s := by
 rw [Ho.flr, if_pos k, show min (max p 0) h.top = p by omega]
theorem flr_facts {h : Ho} (k : h.ok) {p : Int} (h0 : 0 ≤ p) (h1 : p ≤ h.top) :
 0 ≤ h.flr p ∧ h.flr p < h.f ∧ (0 ≤ h.flr p * h.s ∧ h.flr p * h.s ≤ 504) ∧ (0 ≤ p - h.flr p * h.s ∧ p - h.flr p * h.s < h.s) ∧ (h.lev p ↔ h.flr p * h.s = p) := by
 rw [flr_in k h0 h1]
 have hs := k.2.2.1.1
 have a := Int.ediv_nonneg h0 (show 0 ≤ h.s by omega)
 have b : p / h.s ≤ h.top / h.s := Int.ediv_le_ediv (by omega) h1
 rw [top_div k] at b
 have c := Int.mul_ediv_add_emod p h.s
 rw [Int.mul_comm] at c
 have d := Int.emod_nonneg p (show h.s ≠ 0 by omega)
 have e := Int.emod_lt_of_pos p (show 0 < h.s by omega)
 have g : 0 ≤ p / h.s * h.s := Int.mul_nonneg a (by omega)
 have r := Ho.range k
 refine ⟨a, by omega, ⟨g, by omega⟩, ⟨by omega, by omega⟩, fun q => ?_, fun q => ⟨⟨k, h0, h1⟩, by omega⟩⟩
 have := q.2
 omega
theorem sgn_small {m : Int} (h0 : -1 ≤ m) (h1 : m ≤ 1) : sgn m = m := by
 unfold sgn
 split
 · omega
 · split <;> omega
end Go.Proofs.YtiflmkicnkbeaaaGreatDoor
namespace Go.Proofs.YtiflmkicnkbeaaaGreatDoor
open Go.RowKit
structure St where
 p : Int
 e : Int
 o : Int
 r : Bool
abbrev St.v (x : St) : Value := .agg #[.int .i64 x.p, .int .i64 x.e, .int .i64 x.o, .bool x.r]
abbrev St.box (x : St) : Obj := .cells #[.int .i64 x.p, .int .i64 x.e, .int .i64 x.o, .bool x.r] 91
def SB (w : World) (b : Nat) (x : St) : Prop := w.heap[b]? = some x.box
theorem SB.fr {w w' : World} {b : Nat} {x : St} (k : SB w b x) (hf : Fr w w' []) : SB w' b x := hf.heap k (by simp)
theorem SB.new (w : World) (x : St) : SB (w.alloc x.box) w.heap.size x := heap_alloc_new w _
theorem SB.cells {w : World} {b : Nat} {x : St} (k : SB w b x) : w.cell? ⟨b, 0, none⟩ = some (.int .i64 x.p) ∧ w.cell? ⟨b, 1, none⟩ = some (.int .i64 x.e) ∧ w.cell? ⟨b, 2, none⟩ = some (.int .i64 x.o) ∧ w.cell? ⟨b, 3, none⟩ = some (.bool x.r) := hrow k
theorem two_box (w : World) (h : Ho) (x : St) : Fr w ((w.alloc h.box).alloc x.box) [] ∧ HBh ((w.alloc h.box).alloc x.box) w.heap.size h ∧ SB ((w.alloc h.box).alloc x.box) (w.heap.size + 1) x := by
 refine ⟨(Fr.alloc _ _ []).trans (Fr.alloc _ _ []), (HBh.new w h).fr (Fr.alloc _ _ []), ?_⟩
 have := SB.new (w.alloc h.box) x
 rwa [show (w.alloc h.box).heap.size = w.heap.size + 1 by simp] at this
def Ho.may (h : Ho) (x : St) : Bool := decide (h.has x.p) && (decide (-1 ≤ x.e ∧ x.e ≤ 1) && (decide (0 ≤ x.o ∧ x.o ≤ h.d) && (if 0 < x.o then decide (h.lev x.p) && !x.r else decide (h.lev x.p) || (decide (x.e ≠ 0) || x.r))))
set_option maxRecDepth 100000 in
theorem right_any (h : Ho) (x : St) (w : World) (b : Bool) (hb : b = h.may x) : Calls Tryz.prog 218 #[h.v, x.v] w fun e w' => e = .returned (.bool b) ∧ Fr w w' [] := by
 have TB := Lib.hid (two_box w h x)
 obtain ⟨bi, ei⟩ : ∃ y, y = decide (h.has x.p) := ⟨_, rfl⟩
 obtain ⟨be, ee⟩ : ∃ y, y = decide (-1 ≤ x.e ∧ x.e ≤ 1) := ⟨_, rfl⟩
 obtain ⟨bo, eo⟩ : ∃ y, y = decide (0 ≤ x.o ∧ x.o ≤ h.d) := ⟨_, rfl⟩
 obtain ⟨bl, el⟩ : ∃ y, y = decide (h.lev x.p) := ⟨_, rfl⟩
 have HV0 := Lib.hid (show b = (bi && (be && (bo && (if 0 < x.o then bl && !x.r else bl || (decide (x.e ≠ 0) || x.r))))) by rw [hb, Ho.may, ei, ee, eo, el])
 have I := Lib.hid (fun W => inside_any h x.p W bi ei)
 have E := Lib.hid (fun W => within_any x.e (-1) 1 W be ee)
 have O := Lib.hid (fun W => within_any x.o 0 h.d W bo eo)
 have L := Lib.hid (fun W => level_any h x.p W bl el)
 clear hb ei ee eo el
 obtain ⟨c, f, s, d⟩ := h
 obtain ⟨xp, xe, xo, xr⟩ := x
 have HV := Lib.hid (show b = (bi && (be && (bo && (if 0 < xo then bl && !xr else bl || (decide (xe ≠ 0) || xr))))) from HV0.out)
 clear HV0
 dsimp only [Ho.v, Ho.box, St.v, St.box] at *
 cases bi with
 | false =>
   have HR : Hid (b = false) := by show _ = _; rw [HV.out]; simp [*]
   clear HV
   go_enter Tryz.func218, Tryz.ntmps218
   go_wp2_with fail
   with_reducible refine (I.out _).mono ?_
   rintro e2 w2 ⟨rfl, hf⟩
   have F2 := Lib.hid (TB.out.1.trans hf)
   have HB2 := Lib.hid (TB.out.2.1.fr hf)
   have SB2 := Lib.hid (TB.out.2.2.fr hf)
   clear hf
   obtain ⟨c0, c1, c2, c3⟩ := HB2.out.cells
   obtain ⟨s0, s1, s2, s3⟩ := SB2.out.cells
   dsimp only at c0 c1 c2 c3 s0 s1 s2 s3
   go_wp2
   go_ret
   exact ⟨by rw [HR.out]; rfl, F2.out⟩
 | true =>
   cases be with
   | false =>
     have HR : Hid (b = false) := by show _ = _; rw [HV.out]; simp [*]
     clear HV
     go_enter Tryz.func218, Tryz.ntmps218
     go_wp2_with fail
     with_reducible refine (I.out _).mono ?_
     rintro e2 w2 ⟨rfl, hf⟩
     have F2 := Lib.hid (TB.out.1.trans hf)
     have HB2 := Lib.hid (TB.out.2.1.fr hf)
     have SB2 := Lib.hid (TB.out.2.2.fr hf)
     clear hf
     obtain ⟨c0, c1, c2, c3⟩ := HB2.out.cells
     obtain ⟨s0, s1, s2, s3⟩ := SB2.out.cells
     dsimp only at c0 c1 c2 c3 s0 s1 s2 s3
     go_wp2_with fail
     with_reducible refine (E.out _).mono ?_
     rintro e2 w3 ⟨rfl, rfl⟩
     go_wp2
     go_ret
     exact ⟨by rw [HR.out]; rfl, F2.out⟩
   | true =>
     cases bo with
     | false =>
       have HR : Hid (b = false) := by show _ = _; rw [HV.out]; simp [*]
       clear HV
       go_enter Tryz.func218, Tryz.ntmps218
       go_wp2_with fail
       with_reducible refine (I.out _).mono ?_
       rintro e2 w2 ⟨rfl, hf⟩
       have F2 := Lib.hid (TB.out.1.trans hf)
       have HB2 := Lib.hid (TB.out.2.1.fr hf)
       have SB2 := Lib.hid (TB.out.2.2.fr hf)
       clear hf
       obtain ⟨c0, c1, c2, c3⟩ := HB2.out.cells
       obtain ⟨s0, s1, s2, s3⟩ := SB2.out.cells
       dsimp only at c0 c1 c2 c3 s0 s1 s2 s3
       go_wp2_with fail
       with_reducible refine (E.out _).mono ?_
       rintro e2 w3 ⟨rfl, rfl⟩
       go_wp2_with fail
       with_reducible refine (O.out _).mono ?_
       rintro e2 w3 ⟨rfl, rfl⟩
       go_wp2
       go_ret
       exact ⟨by rw [HR.out]; rfl, F2.out⟩
     | true =>
       by_cases ho : 0 < xo
       · cases bl with
         | false =>
           have HR : Hid (b = false) := by show _ = _; rw [HV.out]; simp [*]
           clear HV
           go_enter Tryz.func218, Tryz.ntmps218
           go_wp2_with fail
           with_reducible refine (I.out _).mono ?_
           rintro e2 w2 ⟨rfl, hf⟩
           have F2 := Lib.hid (TB.out.1.trans hf)
           have HB2 := Lib.hid (TB.out.2.1.fr hf)
           have SB2 := Lib.hid (TB.out.2.2.fr hf)
           clear hf
           obtain ⟨c0, c1, c2, c3⟩ := HB2.out.cells
           obtain ⟨s0, s1, s2, s3⟩ := SB2.out.cells
           dsimp only at c0 c1 c2 c3 s0 s1 s2 s3
           go_wp2_with fail
           with_reducible refine (E.out _).mono ?_
           rintro e2 w3 ⟨rfl, rfl⟩
           go_wp2_with fail
           with_reducible refine (O.out _).mono ?_
           rintro e2 w3 ⟨rfl, rfl⟩
           go_wp2_with fail
           with_reducible refine (L.out _).mono ?_
           rintro e2 w3 ⟨rfl, hf⟩
           have F3 := Lib.hid (F2.out.trans hf)
           have SB3 := Lib.hid (SB2.out.fr hf)
           clear hf s0 s1 s2 s3 c0 c1 c2 c3
           obtain ⟨s0, s1, s2, s3⟩ := SB3.out.cells
           dsimp only at s0 s1 s2 s3
           go_wp2
           go_ret
           exact ⟨by rw [HR.out]; rfl, F3.out⟩
         | true =>
           cases xr with
           | false =>
             have HR : Hid (b = true) := by show _ = _; rw [HV.out]; simp [*]
             clear HV
             go_enter Tryz.func218, Tryz.ntmps218
             go_wp2_with fail
             with_reducible refine (I.out _).mono ?_
             rintro e2 w2 ⟨rfl, hf⟩
             have F2 := Lib.hid (TB.out.1.trans hf)
             have HB2 := Lib.hid (TB.out.2.1.fr hf)
             have SB2 := Lib.hid (TB.out.2.2.fr hf)
             clear hf
             obtain ⟨c0, c1, c2, c3⟩ := HB2.out.cells
             obtain ⟨s0, s1, s2, s3⟩ := SB2.out.cells
             dsimp only at c0 c1 c2 c3 s0 s1 s2 s3
             go_wp2_with fail
             with_reducible refine (E.out _).mono ?_
             rintro e2 w3 ⟨rfl, rfl⟩
             go_wp2_with fail
             with_reducible refine (O.out _).mono ?_
             rintro e2 w3 ⟨rfl, rfl⟩
             go_wp2_with fail
             with_reducible refine (L.out _).mono ?_
             rintro e2 w3 ⟨rfl, hf⟩
             have F3 := Lib.hid (F2.out.trans hf)
             have SB3 := Lib.hid (SB2.out.fr hf)
             clear hf s0 s1 s2 s3 c0 c1 c2 c3
             obtain ⟨s0, s1, s2, s3⟩ := SB3.out.cells
             dsimp only at s0 s1 s2 s3
             go_wp2
             go_ret
             exact ⟨by rw [HR.out]; rfl, F3.out⟩
           | true =>
             have HR : Hid (b = false) := by show _ = _; rw [HV.out]; simp [*]
             clear HV
             go_enter Tryz.func218, Tryz.ntmps218
             go_wp2_with fail
             with_reducible refine (I.out _).mono ?_
             rintro e2 w2 ⟨rfl, hf⟩
             have F2 := Lib.hid (TB.out.1.trans hf)
             have HB2 := Lib.hid (TB.out.2.1.fr hf)
             have SB2 := Lib.hid (TB.out.2.2.fr hf)
             clear hf
             obtain ⟨c0, c1, c2, c3⟩ := HB2.out.cells
             obtain ⟨s0, s1, s2, s3⟩ := SB2.out.cells
             dsimp only at c0 c1 c2 c3 s0 s1 s2 s3
             go_wp2_with fail
             with_reducible refine (E.out _).mono ?_
             rintro e2 w3 ⟨rfl, rfl⟩
             go_wp2_with fail
             with_reducible refine (O.out _).mono ?_
             rintro e2 w3 ⟨rfl, rfl⟩
             go_wp2_with fail
             with_reducible refine (L.out _).mono ?_
             rintro e2 w3 ⟨rfl, hf⟩
             have F3 := Lib.hid (F2.out.trans hf)
             have SB3 := Lib.hid (SB2.out.fr hf)
             clear hf s0 s1 s2 s3 c0 c1 c2 c3
             obtain ⟨s0, s1, s2, s3⟩ := SB3.out.cells
             dsimp only at s0 s1 s2 s3
             go_wp2
             go_ret
             exact ⟨by rw [HR.out]; rfl, F3.out⟩
       · cases bl with
         | true =>
           have HR : Hid (b = true) := by show _ = _; rw [HV.out]; simp [*]
           clear HV
           go_enter Tryz.func218, Tryz.ntmps218
           go_wp2_with fail
           with_reducible refine (I.out _).mono ?_
           rintro e2 w2 ⟨rfl, hf⟩
           have F2 := Lib.hid (TB.out.1.trans hf)
           have HB2 := Lib.hid (TB.out.2.1.fr hf)
           have SB2 := Lib.hid (TB.out.2.2.fr hf)
           clear hf
           obtain ⟨c0, c1, c2, c3⟩ := HB2.out.cells
           obtain ⟨s0, s1, s2, s3⟩ := SB2.out.cells
           dsimp only at c0 c1 c2 c3 s0 s1 s2 s3
           go_wp2_with fail
           with_reducible refine (E.out _).mono ?_
           rintro e2 w3 ⟨rfl, rfl⟩
           go_wp2_with fail
           with_reducible refine (O.out _).mono ?_
           rintro e2 w3 ⟨rfl, rfl⟩
           go_wp2_with fail
           with_reducible refine (L.out _).mono ?_
           rintro e2 w3 ⟨rfl, hf⟩
           have F3 := Lib.hid (F2.out.trans hf)
           have SB3 := Lib.hid (SB2.out.fr hf)
           clear hf s0 s1 s2 s3 c0 c1 c2 c3
           obtain ⟨s0, s1, s2, s3⟩ := SB3.out.cells
           dsimp only at s0 s1 s2 s3
           go_wp2
           go_ret
           exact ⟨by rw [HR.out]; rfl, F3.out⟩
         | false =>
           by_cases he : xe = 0
           · subst he
             have hen : ((0 : Int) != 0) = false := by decide
             have HR : Hid (b = xr) := by show _ = _; rw [HV.out]; simp [*]
             clear HV
             go_enter Tryz.func218, Tryz.ntmps218
             go_wp2_with fail
             with_reducible refine (I.out _).mono ?_
             rintro e2 w2 ⟨rfl, hf⟩
             have F2 := Lib.hid (TB.out.1.trans hf)
             have HB2 := Lib.hid (TB.out.2.1.fr hf)
             have SB2 := Lib.hid (TB.out.2.2.fr hf)
             clear hf
             obtain ⟨c0, c1, c2, c3⟩ := HB2.out.cells
             obtain ⟨s0, s1, s2, s3⟩ := SB2.out.cells
             dsimp only at c0 c1 c2 c3 s0 s1 s2 s3
             go_wp2_with fail
             with_reducible refine (E.out _).mono ?_
             rintro e2 w3 ⟨rfl, rfl⟩
             go_wp2_with fail
             with_reducible refine (O.out _).mono ?_
             rintro e2 w3 ⟨rfl, rfl⟩
             go_wp2_with fail
             with_reducible refine (L.out _).mono ?_
             rintro e2 w3 ⟨rfl, hf⟩
             have F3 := Lib.hid (F2.out.trans hf)
             have SB3 := Lib.hid (SB2.out.fr hf)
             clear hf s0 s1 s2 s3 c0 c1 c2 c3
             obtain ⟨s0, s1, s2, s3⟩ := SB3.out.cells
             dsimp only at s0 s1 s2 s3
             go_wp2
             go_ret
             exact ⟨by rw [HR.out]; rfl, F3.out⟩
           · have hen : (xe != 0) = true := by simpa using he
             have HR : Hid (b = true) := by show _ = _; rw [HV.out]; simp [*]
             clear HV
             go_enter Tryz.func218, Tryz.ntmps218
             go_wp2_with fail
             with_reducible refine (I.out _).mono ?_
             rintro e2 w2 ⟨rfl, hf⟩
             have F2 := Lib.hid (TB.out.1.trans hf)
             have HB2 := Lib.hid (TB.out.2.1.fr hf)
             have SB2 := Lib.hid (TB.out.2.2.fr hf)
             clear hf
             obtain ⟨c0, c1, c2, c3⟩ := HB2.out.cells
             obtain ⟨s0, s1, s2, s3⟩ := SB2.out.cells
             dsimp only at c0 c1 c2 c3 s0 s1 s2 s3
             go_wp2_with fail
             with_reducible refine (E.out _).mono ?_
             rintro e2 w3 ⟨rfl, rfl⟩
             go_wp2_with fail
             with_reducible refine (O.out _).mono ?_
             rintro e2 w3 ⟨rfl, rfl⟩
             go_wp2_with fail
             with_reducible refine (L.out _).mono ?_
             rintro e2 w3 ⟨rfl, hf⟩
             have F3 := Lib.hid (F2.out.trans hf)
             have SB3 := Lib.hid (SB2.out.fr hf)
             clear hf s0 s1 s2 s3 c0 c1 c2 c3
             obtain ⟨s0, s1, s2, s3⟩ := SB3.out.cells
             dsimp only at s0 s1 s2 s3
             go_wp2
             go_ret
             exact ⟨by rw [HR.out]; rfl, F3.out⟩
end Go.Proofs.YtiflmkicnkbeaaaGreatDoor
namespace Go.Proofs.YtiflmkicnkbeaaaGreatDoor
open Go.RowKit
abbrev dv (l h : Int) : Value := .agg #[.int .i64 l, .int .i64 h]
abbrev dbox (T : TypeId) (l h : Int) : Obj := .cells #[.int .i64 l, .int .i64 h] T
theorem drow {w : World} {g : Nat} {a b : Value} {T : TypeId} (h : w.heap[g]? = some (.cells #[a, b] T (0, 0))) :
 w.cell? ⟨g, 0, none⟩ = some a ∧ w.cell? ⟨g, 1, none⟩ = some b :=
 ⟨by rw [cell_of_row w g 0 _ _ _ h]; rfl, by rw [cell_of_row w g 1 _ _ _ h]; rfl⟩
theorem dset {w : World} {g : Nat} {a b : Value} {T : TypeId} (h : w.heap[g]? = some (.cells #[a, b] T (0, 0))) (x y : Value) :
 ((w.setCell ⟨g, 0, none⟩ x).setCell ⟨g, 1, none⟩ y).heap[g]? = some (.cells #[x, y] T (0, 0)) := by
 have h1 : (w.setCell ⟨g, 0, none⟩ x).heap[g]? = some (.cells #[x, b] T (0, 0)) := by rw [heap_setCell_same _ g 0 _ _ _ h]; rfl
 rw [heap_setCell_same _ g 1 _ _ _ h1]; rfl
theorem dset_fr (w : World) (g : Nat) (x y : Value) : Fr w ((w.setCell ⟨g, 0, none⟩ x).setCell ⟨g, 1, none⟩ y) [g] :=
 (Fr.setCell w g 0 x (S := [g]) (by simp)).trans (Fr.setCell _ g 1 y (S := [g]) (by simp))
set_option maxRecDepth 100000 in
theorem dis_any (l h : Int) (w : World) (b : Bool) (hb : b = decide (0 < l)) : Calls Tryz.prog 97 #[dv l h] w fun e w' => e = .returned (.bool b) ∧ Fr w w' [] := by
 have FA := Lib.hid (Fr.alloc w (dbox 195 l h) [])
 have HB := Lib.hid hb
 clear hb
 dsimp only [dv, dbox] at *
 go_enter Tryz.func97, Tryz.ntmps97
 go_wp2
 go_ret
 exact ⟨by rw [HB.out]; rfl, FA.out⟩
set_option maxRecDepth 100000 in
theorem dopen_any (n : Int) (w : World) (r : Int) (hr : min (max n 1) 8 = r) : Calls Tryz.prog 277 #[.int .i64 n] w fun e w' => e = .returned (dv r 0) ∧ Fr w w' [] := by
 obtain ⟨m, hm⟩ : ∃ m, max n 1 = m := ⟨_, rfl⟩
 rw [hm] at hr
 have FA := Lib.hid (Fr.alloc w (dbox 195 r 0) [])
 obtain ⟨x0, x1⟩ := drow (heap_alloc_new w (dbox 195 r 0))
 dsimp only [dv, dbox] at *
 go_enter Tryz.func277, Tryz.ntmps277
 go_wp2
 exact bodyPost_ret (v := .agg #[.int .i64 r, .int .i64 0]) (by simp [results, Tryz.results277, go_sem, x0, x1]) rfl ⟨rfl, FA.out⟩
def thirdB (n : Int) : Int := if 0 < n.tmod 3 then n.tdiv 3 + 1 else n.tdiv 3
theorem thirdB_facts (n : Int) : 3 * n.tdiv 3 + n.tmod 3 = n ∧ -3 < n.tmod 3 ∧ n.tmod 3 < 3 := by
 refine ⟨Int.mul_tdiv_add_tmod n 3, ?_, Int.tmod_lt_of_pos n (by decide)⟩
 have := Int.tmod_lt_of_pos (-n) (show (0 : Int) < 3 by decide)
 rw [Int.neg_tmod] at this; omega
theorem thirdB_lt (n k : Int) : k < thirdB n ↔ 3 * k < n := by
 obtain ⟨h1, h2, h3⟩ := thirdB_facts n
 unfold thirdB
 split <;> constructor <;> intro h <;> omega
set_option maxRecDepth 100000 in
theorem third_any (n : Int) (w : World) (r : Int) (hr : r = thirdB n) (h0 : -9223372036854775808 ≤ n) (h1 : n ≤ 9223372036854775807) : Calls Tryz.prog 209 #[.int .i64 n] w fun e w' => e = .returned (.int .i64 r) ∧ w' = w := by
 obtain ⟨k1, k2, k3⟩ := thirdB_facts n
 by_cases hc : 0 < n.tmod 3
 · have HR : Hid (r = n.tdiv 3 + 1) := by show _ = _; rw [hr, thirdB, if_pos hc]
   have w1 : IntKind.i64.wrap (n.tdiv 3) = n.tdiv 3 := IntWalk.i64_in _ (by omega)
   have w2 : IntKind.i64.wrap (n.tdiv 3 + 1) = n.tdiv 3 + 1 := IntWalk.i64_in _ (by omega)
   clear hr k1 k2 k3 h0 h1
   go_enter Tryz.func209, Tryz.ntmps209
   go_wp2
   go_ret
   exact ⟨by rw [HR.out]; rfl, rfl⟩
 · have HR : Hid (r = n.tdiv 3) := by show _ = _; rw [hr, thirdB, if_neg hc]
   have w1 : IntKind.i64.wrap (n.tdiv 3) = n.tdiv 3 := IntWalk.i64_in _ (by omega)
   clear hr k1 k2 k3 h0 h1
   go_enter Tryz.func209, Tryz.ntmps209
   go_wp2
   go_ret
   exact ⟨by rw [HR.out]; rfl, rfl⟩
set_option maxRecDepth 100000 in
theorem stuck_any (l h n : Int) (w : World) (b : Bool) (hb : b = decide (0 < l ∧ 3 * n < h)) (h0 : -9223372036854775808 ≤ h) (h1 : h ≤ 9223372036854775807) : Calls Tryz.prog 128 #[dv l h, .int .i64 n] w fun e w' => e = .returned (.bool b) ∧ Fr w w' [] := by
 have FA := Lib.hid (Fr.alloc w (dbox 195 l h) [])
 have HN := Lib.hid (heap_alloc_new w (dbox 195 l h))
 by_cases hl : 0 < l
 · obtain ⟨t, ht⟩ : ∃ t, t = thirdB h := ⟨_, rfl⟩
   have HR : Hid (b = decide (n < t)) := by show _ = _; rw [hb, ht]; simp [hl, thirdB_lt]
   have T := Lib.hid (fun W => third_any h W t ht h0 h1)
   have I := Lib.hid (fun W => dis_any l h W true (decide_eq_true hl).symm)
   clear hb ht h0 h1 hl
   dsimp only [dv, dbox] at *
   go_enter Tryz.func128, Tryz.ntmps128
   go_wp2_with fail
   with_reducible refine (I.out _).mono ?_
   rintro e w2 ⟨rfl, hf⟩
   obtain ⟨c0, c1⟩ := drow (hf.heap HN.out (by simp))
   have F2 := Lib.hid (FA.out.trans hf)
   clear hf
   go_wp2_with fail
   with_reducible refine (T.out _).mono ?_
   rintro e w3 ⟨rfl, rfl⟩
   go_wp2
   go_ret
   exact ⟨by rw [HR.out]; rfl, F2.out⟩
 · have HR : Hid (b = false) := by show _ = _; rw [hb]; simp [hl]
   have I := Lib.hid (fun W => dis_any l h W false (decide_eq_false hl).symm)
   clear hb h0 h1 hl
   dsimp only [dv, dbox] at *
   go_enter Tryz.func128, Tryz.ntmps128
   go_wp2_with fail
   with_reducible refine (I.out _).mono ?_
   rintro e w2 ⟨rfl, hf⟩
   go_wp2
   go_ret
   exact ⟨by rw [HR.out]; rfl, FA.out.trans hf⟩
end Go.Proofs.YtiflmkicnkbeaaaGreatDoor
namespace Go.Proofs.YtiflmkicnkbeaaaGreatDoor
open Go.RowKit
def tickL (l : Int) (o : Bool) : Int := if l ≤ 0 then 0 else if 1 < l then l - 1 else if o = true then 1 else 0
def tickB (l : Int) (o : Bool) : Bool := if l ≤ 0 then false else if 1 < l then false else !o
theorem two_new (w : World) (o1 o2 : Obj) : ((w.alloc o1).alloc o2).heap[w.heap.size]? = some o1 ∧ ((w.alloc o1).alloc o2).heap[w.heap.size + 1]? = some o2 := by
 refine ⟨(Fr.alloc (w.alloc o1) o2 []).heap (heap_alloc_new w o1) (by simp), ?_⟩
 have h := heap_alloc_new (w.alloc o1) o2
 rwa [show (w.alloc o1).heap.size = w.heap.size + 1 by simp] at h
end Go.Proofs.YtiflmkicnkbeaaaGreatDoor
namespace Go.Proofs.YtiflmkicnkbeaaaGreatDoor
def heldK (l k : Int) (o : Bool) : Int := if l ≤ 0 then 0 else if 1 < l then k else if o = true then min k 9223372036854775806 + 1 else 0
end Go.Proofs.YtiflmkicnkbeaaaGreatDoor
namespace Go.Proofs.YtiflmkicnkbeaaaGreatDoor
open Go.RowKit
structure Sp where
 c : Nat
 u : Nat
 d : Nat
abbrev Sp.v (s : Sp) : Value := .agg #[.int .u64 s.c, .int .u64 s.u, .int .u64 s.d]
abbrev Sp.box (T : TypeId) (s : Sp) : Obj := .cells #[.int .u64 s.c, .int .u64 s.u, .int .u64 s.d] T
structure Sp.ok (s : Sp) : Prop where
 c : s.c < 18446744073709551616
 u : s.u < 18446744073709551616
 d : s.d < 18446744073709551616
def Sp.all (s : Sp) : Nat := s.c ||| s.u ||| s.d
theorem Sp.ok.all {s : Sp} (h : s.ok) : s.all < 18446744073709551616 := or_lt (or_lt h.c h.u) h.d
theorem arow {w : World} {g : Nat} {a b c : Value} {T : TypeId} (h : w.heap[g]? = some (.cells #[a, b, c] T (0, 0))) :
 w.cell? ⟨g, 0, none⟩ = some a ∧ w.cell? ⟨g, 1, none⟩ = some b ∧ w.cell? ⟨g, 2, none⟩ = some c :=
 ⟨by rw [cell_of_row w g 0 _ _ _ h]; rfl, by rw [cell_of_row w g 1 _ _ _ h]; rfl, by rw [cell_of_row w g 2 _ _ _ h]; rfl⟩
theorem one_shl (z : Int) (h0 : 0 ≤ z) (h : z < 64) : IntKind.u64.wrap ((2 : Int) ^ z.toNat) = ((oneN z : Nat) : Int) := by
 have := oneN_lt z
 have e : (2 : Int) ^ z.toNat = ((oneN z : Nat) : Int) := by rw [oneN_in h0 h]; simp
 rw [e, IntKind.wrap_u64]
 omega
theorem bit_any (z : Int) (w : World) : Calls Tryz.prog 278 #[.int .i64 z] w fun e w' => e = .returned (.int .u64 (oneN z)) ∧ w' = w := by
 by_cases h0 : z < 0
 · have HR : Hid (((oneN z : Nat) : Int) = 0) := by show _ = _; rw [oneN_out (by omega)]; rfl
   go_enter Tryz.func278, Tryz.ntmps278
   go_wp2
   go_ret
   exact ⟨by rw [HR.out]; rfl, rfl⟩
 · by_cases h1 : 64 ≤ z
   · have HR : Hid (((oneN z : Nat) : Int) = 0) := by show _ = _; rw [oneN_out (by omega)]; rfl
     have h0' : 0 ≤ z := by omega
     clear h0
     go_enter Tryz.func278, Tryz.ntmps278
     go_wp2
     go_ret
     exact ⟨by rw [HR.out]; rfl, rfl⟩
   · have h0' : 0 ≤ z := by omega
     have h1' : z < 64 := by omega
     have HR := Lib.hid (one_shl z h0' h1')
     clear h0 h1
     go_enter Tryz.func278, Tryz.ntmps278
     go_wp2
     go_ret
     exact ⟨by rw [← HR.out]; rfl, rfl⟩
theorem all_any (s : Sp) (w : World) (h : s.ok) (n : Nat) (hn : n = s.all) : Calls Tryz.prog 382 #[s.v] w fun e w' => e = .returned (.int .u64 n) ∧ Fr w w' [] := by
 obtain ⟨c, u, d⟩ := s
 have FA := Lib.hid (Fr.alloc w (Sp.box 214 ⟨c, u, d⟩) [])
 have E1 := bits_or_u64_nat c u h.c h.u
 have E2 := bits_or_u64_nat (c ||| u) d (or_lt h.c h.u) h.d
 have HN := Lib.hid hn
 clear hn h
 dsimp only [Sp.v, Sp.box] at *
 go_enter Tryz.func382, Tryz.ntmps382
 go_wp2
 go_ret
 exact ⟨by rw [HN.out]; rfl, FA.out⟩
theorem cut_any (z c : Int) (w : World) (hc : c = min (max z (-1)) 64) : Calls Tryz.prog 383 #[.int .i64 z] w fun e w' => e = .returned (.int .i64 c) ∧ w' = w := by
 obtain ⟨m, hm⟩ : ∃ m, max z (-1) = m := ⟨_, rfl⟩
 obtain ⟨k, hk⟩ : ∃ k, min m 64 = k := ⟨_, rfl⟩
 rw [hm, hk] at hc
 have HC := Lib.hid hc
 clear hc
 go_enter Tryz.func383, Tryz.ntmps383
 go_wp2
 go_ret
 exact ⟨by rw [HC.out]; rfl, rfl⟩
theorem up_shr (n k : Nat) (hn : n < 18446744073709551616) : (n : Int) / 2 ^ min k 64 = ((n / 2 ^ k : Nat) : Int) := by
 by_cases h : k ≤ 64
 · rw [Nat.min_eq_left h]; simp
 · have e : n / 2 ^ k = 0 := Nat.div_eq_of_lt (Nat.lt_of_lt_of_le hn (by rw [show 18446744073709551616 = 2 ^ 64 from rfl]; exact Nat.pow_le_pow_right (by decide) (by omega)))
   rw [Nat.min_eq_right (by omega), e]
   omega
theorem dn_shl (n k : Nat) : IntKind.u64.wrap ((n : Int) * 2 ^ min k 64) = ((n * 2 ^ k % 18446744073709551616 : Nat) : Int) := by
 have e : (n : Int) * 2 ^ min k 64 = ((n * 2 ^ min k 64 : Nat) : Int) := by simp
 rw [e, IntKind.wrap_u64]
 by_cases h : k ≤ 64
 · rw [Nat.min_eq_left h]; omega
 · obtain ⟨j, rfl⟩ : ∃ j, k = 64 + j := ⟨k - 64, by omega⟩
   rw [Nat.min_eq_right (by omega), Nat.pow_add, show (2 : Nat) ^ 64 = 18446744073709551616 from rfl, Nat.mul_comm 18446744073709551616, ← Nat.mul_assoc, Nat.mul_mod_left]
   omega
theorem aabove_any (s : Sp) (z : Int) (w : World) (h : s.ok) (c : Int) (hc : c = min (max z (-1)) 64) (r : Nat) (hr : r = upN s.all c) : Calls Tryz.prog 375 #[s.v, .int .i64 z] w fun e w' => e = .returned (.int .u64 r) ∧ Fr w w' [] := by
 have hcc : -1 ≤ c ∧ c ≤ 64 := by omega
 obtain ⟨n, hn⟩ : ∃ n, n = s.all := ⟨_, rfl⟩
 have AL := Lib.hid (fun W => all_any s W h n hn)
 have CU := Lib.hid (fun W => cut_any z c W hc)
 obtain ⟨p, u, d⟩ := s
 have FA := Lib.hid (Fr.alloc w (Sp.box 214 ⟨p, u, d⟩) [])
 have HR : Hid (((r : Nat) : Int) = (n : Int) / 2 ^ min (c + 1).toNat 64) := by show _ = _; rw [up_shr _ _ (by rw [hn]; exact h.all), hr, hn]; rfl
 have hw : IntKind.i64.wrap (c + 1) = c + 1 := IntWalk.i64_in _ (by omega)
 have hc0 : 0 ≤ c + 1 := by omega
 have hc1 : c + 1 ≤ 65 := by omega
 clear hn hr hc hcc h
 dsimp only [Sp.v, Sp.box] at *
 go_enter Tryz.func375, Tryz.ntmps375
 go_wp2_with fail
 with_reducible refine (AL.out _).mono ?_
 rintro e w2 ⟨rfl, hf⟩
 have F2 := Lib.hid (FA.out.trans hf)
 clear hf
 go_wp2_with fail
 with_reducible refine (CU.out _).mono ?_
 rintro e w3 ⟨rfl, rfl⟩
 go_wp2
 go_ret
 exact ⟨by rw [HR.out]; rfl, F2.out⟩
theorem below_any (s : Sp) (z : Int) (w : World) (h : s.ok) (c : Int) (hc : c = min (max z (-1)) 64) (r : Nat) (hr : r = dnN s.all c) : Calls Tryz.prog 376 #[s.v, .int .i64 z] w fun e w' => e = .returned (.int .u64 r) ∧ Fr w w' [] := by
 have hcc : -1 ≤ c ∧ c ≤ 64 := by omega
 obtain ⟨n, hn⟩ : ∃ n, n = s.all := ⟨_, rfl⟩
 have AL := Lib.hid (fun W => all_any s W h n hn)
 have CU := Lib.hid (fun W => cut_any z c W hc)
 obtain ⟨p, u, d⟩ := s
 have FA := Lib.hid (Fr.alloc w (Sp.box 214 ⟨p, u, d⟩) [])
 obtain ⟨k, hk⟩ : ∃ k : Nat, 64 - c = (k : Int) := ⟨(64 - c).toNat, by omega⟩
 have hw : IntKind.i64.wrap (64 - c) = (k : Int) := by rw [← hk]; exact IntWalk.i64_in _ (by omega)
 have HR : Hid (((r : Nat) : Int) = IntKind.u64.wrap ((n : Int) * 2 ^ min k 64)) := by show _ = _; rw [dn_shl, hr, hn, dnN, hk]; rfl
 clear hk
 clear hn hr hc hcc h
 dsimp only [Sp.v, Sp.box] at *
 go_enter Tryz.func376, Tryz.ntmps376
 go_wp2_with fail
 with_reducible refine (AL.out _).mono ?_
 rintro e w2 ⟨rfl, hf⟩
 have F2 := Lib.hid (FA.out.trans hf)
 clear hf
 go_wp2_with fail
 with_reducible refine (CU.out _).mono ?_
 rintro e w3 ⟨rfl, rfl⟩
 go_wp2
 go_ret
 exact ⟨by rw [HR.out]; rfl, F2.out⟩
end Go.Proofs.YtiflmkicnkbeaaaGreatDoor
namespace Go.Proofs.YtiflmkicnkbeaaaGreatDoor
open Go.RowKit
def SS (W : World) (b : Nat) (p u d : Nat) (a : World) : Prop := Fr W a [] ∧ a.cell? ⟨b, 0, none⟩ = some (.int .u64 p) ∧ a.cell? ⟨b, 1, none⟩ = some (.int .u64 u) ∧ a.cell? ⟨b, 2, none⟩ = some (.int .u64 d)
theorem SS.fr {W : World} {b : Nat} {p u d : Nat} {a a' : World} (h : SS W b p u d a) (k : Fr a a' []) : SS W b p u d a' := by
 obtain ⟨h0, h1, h2, h3⟩ := h
 exact ⟨h0.trans k, k.cell h1 (by simp), k.cell h2 (by simp), k.cell h3 (by simp)⟩
theorem SS.new (w : World) (T : TypeId) (p u d : Nat) : SS w w.heap.size p u d (w.alloc (.cells #[.int .u64 p, .int .u64 u, .int .u64 d] T)) :=
 ⟨Fr.alloc w _ [], arow (heap_alloc_new w _)⟩
theorem and_ne (n : Nat) (z : Int) (b : Bool) (hn : n < 18446744073709551616) (hb : b = hasB n z) :
 bits .and .u64 (n : Int) ((oneN z : Nat) : Int) = ((n &&& oneN z : Nat) : Int) ∧ ((((n &&& oneN z : Nat) : Int)) != 0) = b := by
 refine ⟨bits_and_u64_nat _ _ hn (oneN_lt z), ?_⟩
 have := and_one n hn z
 rw [hb]
 cases h : hasB n z
 · rw [h] at this
   have : n &&& oneN z = 0 := Decidable.not_not.1 (fun e => by simpa using this.1 e)
   rw [this]; rfl
 · have := this.2 h
   simp
   omega
theorem at_any (s : Sp) (z : Int) (w : World) (h : s.ok) (b : Bool) (hb : b = hasB s.c z) : Calls Tryz.prog 205 #[s.v, .int .i64 z] w fun e w' => e = .returned (.bool b) ∧ Fr w w' [] := by
 have BI := Lib.hid (fun W => bit_any z W)
 obtain ⟨E1, E2⟩ := and_ne s.c z b h.c hb
 obtain ⟨p, u, d⟩ := s
 have HS := Lib.hid ((SS.new w 214 p u d).fr (Fr.drew _ []))
 clear hb h
 generalize oneN z = o at *
 dsimp only [Sp.v, Sp.box] at *
 go_enter Tryz.func205, Tryz.ntmps205
 go_wp2
 refine wp_region_det (S := SS w w.heap.size p u d) (by kernel_rfl) HS.out ?_
 refine zDU fun hU => ?_
 try dsimp only [SS] at hU
 refine zD 0 ?_
 refine zD 1 ?_
 refine zD 2 ?_
 refine zD 3 ?_ (hv := by (intro w hSw; go_simp; exact Came.call ((BI.out w).mono fun e w' ⟨he, hw⟩ => ⟨he, hw ▸ hSw⟩) (by with_reducible rfl)))
 refine zD 4 ?_
 refine zD 5 ?_
 refine zD 6 ?_
 refine wpDet_done (by kernel_rfl) ?_ _
 rintro w3 ⟨hF, _⟩
 go_wp2
 go_ret
 exact ⟨rfl, hF⟩
def Sp.hall (s : Sp) (z e : Int) : Bool := if e = 1 then hasB s.u z else if e = -1 then hasB s.d z else false
theorem hall_any (s : Sp) (z e : Int) (w : World) (h : s.ok) (b : Bool) (hb : b = s.hall z e) : Calls Tryz.prog 207 #[s.v, .int .i64 z, .int .i64 e] w fun e w' => e = .returned (.bool b) ∧ Fr w w' [] := by
 have BI := Lib.hid (fun W => bit_any z W)
 obtain ⟨p, u, d⟩ := s
 by_cases h1 : e = 1
 · obtain ⟨E1, E2⟩ := and_ne u z b h.u (by rw [hb, Sp.hall, if_pos h1])
   have HS := Lib.hid ((SS.new w 214 p u d).fr (Fr.drew _ []))
   subst h1
   clear hb h
   generalize oneN z = o at *
   dsimp only [Sp.v, Sp.box] at *
   go_enter Tryz.func207, Tryz.ntmps207
   go_wp2
   refine wp_region_det (S := SS w w.heap.size p u d) (by kernel_rfl) HS.out ?_
   refine zDU fun hU => ?_
   try dsimp only [SS] at hU
   refine zD 0 ?_
   refine zD 1 ?_
   refine zD 2 ?_
   refine zD 3 ?_ (hv := by (intro w hSw; go_simp; exact Came.call ((BI.out w).mono fun e w' ⟨he, hw⟩ => ⟨he, hw ▸ hSw⟩) (by with_reducible rfl)))
   refine zD 4 ?_
   refine zD 5 ?_
   refine zD 6 ?_
   refine wpDet_done (by kernel_rfl) ?_ _
   rintro w3 ⟨hF, _⟩
   go_wp2
   go_ret
   exact ⟨rfl, hF⟩
 · by_cases h2 : e = -1
   · obtain ⟨E1, E2⟩ := and_ne d z b h.d (by rw [hb, Sp.hall, if_neg h1, if_pos h2])
     have HS := Lib.hid ((SS.new w 214 p u d).fr (Fr.drew _ []))
     subst h2
     clear hb h h1
     generalize oneN z = o at *
     dsimp only [Sp.v, Sp.box] at *
     go_enter Tryz.func207, Tryz.ntmps207
     go_wp2
     refine wp_region_det (S := SS w w.heap.size p u d) (by kernel_rfl) HS.out ?_
     refine zDU fun hU => ?_
     try dsimp only [SS] at hU
     refine zD 0 ?_
     refine zD 1 ?_
     refine zD 2 ?_
     refine zD 3 ?_ (hv := by (intro w hSw; go_simp; exact Came.call ((BI.out w).mono fun e w' ⟨he, hw⟩ => ⟨he, hw ▸ hSw⟩) (by with_reducible rfl)))
     refine zD 4 ?_
     refine zD 5 ?_
     refine zD 6 ?_
     refine wpDet_done (by kernel_rfl) ?_ _
     rintro w3 ⟨hF, _⟩
     go_wp2
     go_ret
     exact ⟨rfl, hF⟩
   · have HR : Hid (b = false) := by show _ = _; rw [hb, Sp.hall, if_neg h1, if_neg h2]
     have FA := Lib.hid (Fr.alloc w (.cells #[.int .u64 p, .int .u64 u, .int .u64 d] 214) [])
     have e1 : (e == 1) = false := by simp [h1]
     have e2 : (e == -1) = false := by simp [h2]
     clear hb h h1 h2
     dsimp only [Sp.v, Sp.box] at *
     go_enter Tryz.func207, Tryz.ntmps207
     go_wp2
     go_ret
     exact ⟨by rw [HR.out]; rfl, FA.out⟩
def Sp.put (s : Sp) (f e : Int) : Sp := if e = 1 then ⟨s.c, s.u ||| oneN f, s.d⟩ else if e = -1 then ⟨s.c, s.u, s.d ||| oneN f⟩ else s
theorem Sp.put_ok {s : Sp} (h : s.ok) (f e : Int) : (s.put f e).ok := by
 unfold Sp.put
 split
 · exact ⟨h.c, or_lt h.u (oneN_lt f), h.d⟩
 · split
   · exact ⟨h.c, h.u, or_lt h.d (oneN_lt f)⟩
   · exact h
theorem aset {w : World} {g : Nat} {a b c : Value} {T : TypeId} (h : w.heap[g]? = some (.cells #[a, b, c] T (0, 0))) (x y z : Value) :
 (((w.setCell ⟨g, 0, none⟩ x).setCell ⟨g, 1, none⟩ y).setCell ⟨g, 2, none⟩ z).heap[g]? = some (.cells #[x, y, z] T (0, 0)) := by
 have h1 : (w.setCell ⟨g, 0, none⟩ x).heap[g]? = some (.cells #[x, b, c] T (0, 0)) := by rw [heap_setCell_same _ g 0 _ _ _ h]; rfl
 have h2 : ((w.setCell ⟨g, 0, none⟩ x).setCell ⟨g, 1, none⟩ y).heap[g]? = some (.cells #[x, y, c] T (0, 0)) := by rw [heap_setCell_same _ g 1 _ _ _ h1]; rfl
 rw [heap_setCell_same _ g 2 _ _ _ h2]; rfl
theorem aset_fr (w : World) (g : Nat) (x y z : Value) : Fr w (((w.setCell ⟨g, 0, none⟩ x).setCell ⟨g, 1, none⟩ y).setCell ⟨g, 2, none⟩ z) [g] :=
 ((Fr.setCell w g 0 x (S := [g]) (by simp)).trans (Fr.setCell _ g 1 y (S := [g]) (by simp))).trans (Fr.setCell _ g 2 z (S := [g]) (by simp))
theorem aboveB_any (s : Sp) (z : Int) (w : World) (h : s.ok) (b : Bool) (hb : b = true ↔ ∃ y, z < y ∧ hasB s.all y = true) : Calls Tryz.prog 379 #[s.v, .int .i64 z] w fun e w' => e = .returned (.bool b) ∧ Fr w w' [] := by
 obtain ⟨c, hc⟩ : ∃ c, c = min (max z (-1)) 64 := ⟨_, rfl⟩
 obtain ⟨r, hr⟩ : ∃ r, r = upN s.all c := ⟨_, rfl⟩
 have AB := Lib.hid (fun W => aabove_any s z W h c hc r hr)
 have HR : ((r : Int) != 0) = b := by
  have k := upN_some (n := s.all) (c := c) (by omega)
  rw [← hr] at k
  have e : r ≠ 0 ↔ b = true := k.trans (Iff.trans ⟨fun ⟨y, a, q⟩ => ⟨y, ((near_cut h.all hc y q).1).2 a, q⟩, fun ⟨y, a, q⟩ => ⟨y, ((near_cut h.all hc y q).1).1 a, q⟩⟩ hb.symm)
  cases b
  · have : r = 0 := Decidable.not_not.1 (fun a => by simpa using e.1 a)
    rw [this]; rfl
  · have := e.2 rfl
    simp
    omega
 clear hb hc hr h
 obtain ⟨p, u, d⟩ := s
 have FA := Lib.hid (Fr.alloc w (.cells #[.int .u64 p, .int .u64 u, .int .u64 d] 214) [])
 dsimp only [Sp.v, Sp.box] at *
 go_enter Tryz.func379, Tryz.ntmps379
 go_wp2_with fail
 with_reducible refine (AB.out _).mono ?_
 rintro e w2 ⟨rfl, hf⟩
 have F2 := Lib.hid (FA.out.trans hf)
 clear hf
 go_wp2
 go_ret
 exact ⟨rfl, F2.out⟩
theorem belowB_any (s : Sp) (z : Int) (w : World) (h : s.ok) (b : Bool) (hb : b = true ↔ ∃ y, y < z ∧ hasB s.all y = true) : Calls Tryz.prog 380 #[s.v, .int .i64 z] w fun e w' => e = .returned (.bool b) ∧ Fr w w' [] := by
 obtain ⟨c, hc⟩ : ∃ c, c = min (max z (-1)) 64 := ⟨_, rfl⟩
 obtain ⟨r, hr⟩ : ∃ r, r = dnN s.all c := ⟨_, rfl⟩
 have AB := Lib.hid (fun W => below_any s z W h c hc r hr)
 have HR : ((r : Int) != 0) = b := by
  have k := dnN_some (n := s.all) (c := c) (by omega)
  rw [← hr] at k
  have e : r ≠ 0 ↔ b = true := k.trans (Iff.trans ⟨fun ⟨y, a, q⟩ => ⟨y, ((near_cut h.all hc y q).2).2 a, q⟩, fun ⟨y, a, q⟩ => ⟨y, ((near_cut h.all hc y q).2).1 a, q⟩⟩ hb.symm)
  cases b
  · have : r = 0 := Decidable.not_not.1 (fun a => by simpa using e.1 a)
    rw [this]; rfl
  · have := e.2 rfl
    simp
    omega
 clear hb hc hr h
 obtain ⟨p, u, d⟩ := s
 have FA := Lib.hid (Fr.alloc w (.cells #[.int .u64 p, .int .u64 u, .int .u64 d] 214) [])
 dsimp only [Sp.v, Sp.box] at *
 go_enter Tryz.func380, Tryz.ntmps380
 go_wp2_with fail
 with_reducible refine (AB.out _).mono ?_
 rintro e w2 ⟨rfl, hf⟩
 have F2 := Lib.hid (FA.out.trans hf)
 clear hf
 go_wp2
 go_ret
 exact ⟨rfl, F2.out⟩
end Go.Proofs.YtiflmkicnkbeaaaGreatDoor
namespace Go.Proofs.YtiflmkicnkbeaaaGreatDoor
def upB (n : Nat) (f : Int) : Bool := decide (upN n (min (max f (-1)) 64) ≠ 0)
def dnB (n : Nat) (f : Int) : Bool := decide (dnN n (min (max f (-1)) 64) ≠ 0)
theorem upB_iff {n : Nat} (hn : n < 18446744073709551616) (f : Int) : upB n f = true ↔ ∃ y, f < y ∧ hasB n y = true := by
 obtain ⟨c, hc⟩ : ∃ c, c = min (max f (-1)) 64 := ⟨_, rfl⟩
 rw [upB, ← hc, decide_eq_true_iff]
 exact (upN_some (by omega)).trans ⟨fun ⟨y, a, q⟩ => ⟨y, ((near_cut hn hc y q).1).2 a, q⟩, fun ⟨y, a, q⟩ => ⟨y, ((near_cut hn hc y q).1).1 a, q⟩⟩
theorem dnB_iff {n : Nat} (hn : n < 18446744073709551616) (f : Int) : dnB n f = true ↔ ∃ y, y < f ∧ hasB n y = true := by
 obtain ⟨c, hc⟩ : ∃ c, c = min (max f (-1)) 64 := ⟨_, rfl⟩
 rw [dnB, ← hc, decide_eq_true_iff]
 exact (dnN_some (by omega)).trans ⟨fun ⟨y, a, q⟩ => ⟨y, ((near_cut hn hc y q).2).2 a, q⟩, fun ⟨y, a, q⟩ => ⟨y, ((near_cut hn hc y q).2).1 a, q⟩⟩
def ah (e f y : Int) : Prop := (e = 1 ∧ f < y) ∨ (e = -1 ∧ y < f)
def towB (n : Nat) (f e : Int) : Bool := if e = 1 then upB n f else if e = -1 then dnB n f else false
theorem towB_iff {n : Nat} (hn : n < 18446744073709551616) (f e : Int) : towB n f e = true ↔ ∃ y, ah e f y ∧ hasB n y = true := by
 unfold towB ah
 split
 · rename_i h; subst h
   rw [upB_iff hn]
   exact ⟨fun ⟨y, a, b⟩ => ⟨y, .inl ⟨rfl, a⟩, b⟩, fun ⟨y, a, b⟩ => ⟨y, by omega, b⟩⟩
 · split
   · rename_i h; subst h
     rw [dnB_iff hn]
     exact ⟨fun ⟨y, a, b⟩ => ⟨y, .inr ⟨rfl, a⟩, b⟩, fun ⟨y, a, b⟩ => ⟨y, by omega, b⟩⟩
   · refine ⟨fun e => (by cases e), fun ⟨y, a, b⟩ => by omega⟩
def nearN (n : Nat) (f : Int) : Int := nearC (upN n (min (max f (-1)) 64)) (dnN n (min (max f (-1)) 64))
theorem nearN_is {n : Nat} (hn : n < 18446744073709551616) (f : Int) : NearIs n (min (max f (-1)) 64) (nearN n f) := near_code hn (by omega) (by omega)
def Sp.head (s : Sp) (f d : Int) : Int :=
 if d = 0 then (if s.hall f 1 = true then 1 else if s.hall f (-1) = true then -1 else nearN s.all f)
 else if (towB s.all f d || s.hall f d) = true then d
 else if (towB s.all f (-d) || s.hall f (-d)) = true then -d else 0
def Sp.stop (s : Sp) (f d : Int) : Bool := hasB s.c f || s.hall f (s.head f d)
structure De where
 stop : Bool
 dir : Int
 move : Int
def zDe : De := ⟨false, 0, 0⟩
def Sp.deed (s : Sp) (f d : Int) : De :=
 if 0 ≤ f ∧ f < 64 ∧ -1 ≤ d ∧ d ≤ 1 then ⟨s.stop f d, s.head f d, if s.stop f d = true then 0 else s.head f d⟩ else zDe
theorem deed_in {s : Sp} {f d : Int} (h : 0 ≤ f ∧ f < 64 ∧ -1 ≤ d ∧ d ≤ 1) : s.deed f d = ⟨s.stop f d, s.head f d, if s.stop f d = true then 0 else s.head f d⟩ := if_pos h
theorem deed_out {s : Sp} {f d : Int} (h : ¬ (0 ≤ f ∧ f < 64 ∧ -1 ≤ d ∧ d ≤ 1)) : s.deed f d = zDe := if_neg h
theorem hall_all {s : Sp} {f e : Int} (h : s.hall f e = true) : hasB s.all f = true := by
 unfold Sp.hall at h
 rw [Sp.all, hasB_or, hasB_or]
 split at h
 · rw [h]; simp
 · split at h
   · rw [h]; simp
   · cases h
theorem car_all {s : Sp} {f : Int} (h : hasB s.c f = true) : hasB s.all f = true := by
 rw [Sp.all, hasB_or, hasB_or, h]; rfl
theorem all_parts (s : Sp) (f : Int) : hasB s.all f = (hasB s.c f || s.hall f 1 || s.hall f (-1)) := by
 rw [Sp.all, hasB_or, hasB_or]; rfl
theorem hall_dir {s : Sp} {f e : Int} (h : s.hall f e = true) : e = 1 ∨ e = -1 := by
 unfold Sp.hall at h
 split at h
 · rename_i k; exact .inl k
 · split at h
   · rename_i k; exact .inr k
   · cases h
structure HeadIs (s : Sp) (f d x : Int) : Prop where
 small : x = 0 ∨ x = 1 ∨ x = -1
 keep : d ≠ 0 → (towB s.all f d = true ∨ s.hall f d = true) → x = d
 turn : d ≠ 0 → x = -d → towB s.all f d = false ∧ s.hall f d = false
 why : x ≠ 0 → towB s.all f x = true ∨ s.hall f x = true
 none : x = 0 → towB s.all f 1 = false ∧ towB s.all f (-1) = false ∧ s.hall f 1 = false ∧ s.hall f (-1) = false
theorem head_is {s : Sp} (h : s.ok) {f d : Int} (f0 : 0 ≤ f) (f1 : f < 64) (hd : d = 0 ∨ d = 1 ∨ d = -1) : HeadIs s f d (s.head f d) := by
 have NI := nearN_is h.all f
 rw [show min (max f (-1)) 64 = f by omega] at NI
 obtain ⟨x, hx⟩ : ∃ x, x = s.head f d := ⟨_, rfl⟩
 rw [← hx]
 unfold Sp.head at hx
 by_cases d0 : d = 0
 · rw [if_pos d0] at hx
   subst d0
   by_cases h1 : s.hall f 1 = true
   · rw [if_pos h1] at hx
     subst hx
     exact ⟨by simp, fun a => absurd rfl a, fun a => absurd rfl a, fun _ => .inr h1, fun a => by cases a⟩
   · rw [if_neg h1] at hx
     by_cases h2 : s.hall f (-1) = true
     · rw [if_pos h2] at hx
       subst hx
       exact ⟨by simp, fun a => absurd rfl a, fun a => absurd rfl a, fun _ => .inr h2, fun a => by cases a⟩
     · rw [if_neg h2] at hx
       rw [← hx] at NI
       refine ⟨NI.small, fun a => absurd rfl a, fun a => absurd rfl a, fun hne => .inl ?_, fun h0 => ?_⟩
       · rw [towB_iff h.all]
         rcases NI with ⟨rfl, _⟩ | ⟨rfl, k, hk, hb, _⟩ | ⟨rfl, k, hk, hb, _⟩
         · exact absurd rfl hne
         · exact ⟨_, .inl ⟨rfl, by omega⟩, hb⟩
         · exact ⟨_, .inr ⟨rfl, by omega⟩, hb⟩
       · subst h0
         rcases NI with ⟨_, a⟩ | ⟨a, _⟩ | ⟨a, _⟩
         · refine ⟨?_, ?_, by simpa using h1, by simpa using h2⟩
           · refine Bool.eq_false_iff.2 fun t => ?_
             obtain ⟨y, q, r⟩ := (towB_iff h.all f 1).1 t
             have := (a (y - f) (by unfold ah at q; omega)).1
             rw [show f + (y - f) = y by omega, r] at this
             cases this
           · refine Bool.eq_false_iff.2 fun t => ?_
             obtain ⟨y, q, r⟩ := (towB_iff h.all f (-1)).1 t
             have := (a (f - y) (by unfold ah at q; omega)).2
             rw [show f - (f - y) = y by omega, r] at this
             cases this
         · cases a
         · cases a
 · rw [if_neg d0] at hx
   by_cases h1 : (towB s.all f d || s.hall f d) = true
   · rw [if_pos h1] at hx
     subst hx
     rw [Bool.or_eq_true] at h1
     exact ⟨hd, fun _ _ => rfl, fun _ a => by omega, fun _ => h1, fun a => absurd a d0⟩
   · rw [if_neg h1] at hx
     have g1 : towB s.all f d = false ∧ s.hall f d = false := by simpa using h1
     by_cases h2 : (towB s.all f (-d) || s.hall f (-d)) = true
     · rw [if_pos h2] at hx
       subst hx
       rw [Bool.or_eq_true] at h2
       exact ⟨by omega, fun _ a => by rw [g1.1, g1.2] at a; simp at a, fun _ _ => g1, fun _ => h2, fun a => by omega⟩
     · rw [if_neg h2] at hx
       subst hx
       have g2 : towB s.all f (-d) = false ∧ s.hall f (-d) = false := by simpa using h2
       refine ⟨by simp, fun _ a => by rw [g1.1, g1.2] at a; simp at a, fun _ a => by omega, fun a => absurd rfl a, fun _ => ?_⟩
       rcases hd with rfl | rfl | rfl
       · exact absurd rfl d0
       · exact ⟨g1.1, g2.1, g1.2, g2.2⟩
       · exact ⟨g2.1, g1.1, g2.2, g1.2⟩
end Go.Proofs.YtiflmkicnkbeaaaGreatDoor
namespace Go.Proofs.YtiflmkicnkbeaaaGreatDoor
def clrN (n : Nat) (f : Int) : Nat := n &&& (18446744073709551615 - oneN f)
theorem clrN_lt {n : Nat} (h : n < 18446744073709551616) (f : Int) : clrN n f < 18446744073709551616 := Nat.lt_of_le_of_lt Nat.and_le_left h
theorem hasB_clr {n : Nat} (hn : n < 18446744073709551616) {f : Int} (_ : 0 ≤ f) (_ : f < 64) (z : Int) : hasB (clrN n f) z = (hasB n z && !decide (z = f)) := by
 by_cases hz : z < 0
 · rw [hasB_neg hz, hasB_neg hz]; rfl
 · by_cases hb : 64 ≤ z
   · rw [hasB_big (clrN_lt hn f) hb, hasB_big hn hb]; rfl
   · obtain ⟨i, rfl⟩ : ∃ i : Nat, z = (i : Int) := ⟨z.toNat, by omega⟩
     rw [hasB_nat, hasB_nat, clrN, Nat.testBit_and, show 18446744073709551615 - oneN f = 2 ^ 64 - (oneN f + 1) by rw [show (2 : Nat) ^ 64 = 18446744073709551616 from rfl]; omega,
      Nat.testBit_two_pow_sub_succ (show oneN f < 2 ^ 64 by have := oneN_lt f; simpa using this), decide_eq_true (by omega), Bool.true_and, ← hasB_nat (oneN f), hasB_one]
     congr 2
     exact decide_eq_decide.2 (by omega)
structure Sp.sub (t s : Sp) : Prop where
 c : ∀ z, hasB t.c z = true → hasB s.c z = true
 u : ∀ z, hasB t.u z = true → hasB s.u z = true
 d : ∀ z, hasB t.d z = true → hasB s.d z = true
theorem Sp.sub.hall {t s : Sp} (h : t.sub s) {y e : Int} (k : s.hall y e = false) : t.hall y e = false := by
 unfold Sp.hall at *
 split
 · rename_i g
   rw [if_pos g] at k
   exact Bool.eq_false_iff.2 fun q => by rw [h.u y q] at k; cases k
 · rename_i g
   rw [if_neg g] at k
   split
   · rename_i g'
     rw [if_pos g'] at k
     exact Bool.eq_false_iff.2 fun q => by rw [h.d y q] at k; cases k
   · rfl
theorem no_all {s : Sp} {y : Int} (k : hasB s.all y = false) (e : Int) : hasB s.c y = false ∧ s.hall y e = false := by
 refine ⟨Bool.eq_false_iff.2 fun q => ?_, Bool.eq_false_iff.2 fun q => ?_⟩
 · rw [car_all q] at k; cases k
 · rw [hall_all q] at k; cases k
theorem all_zero {s : Sp} (h : s.all = 0) (f e : Int) : towB s.all f e = false ∧ s.hall f e = false ∧ hasB s.c f = false := by
 have z : hasB s.all f = false := by rw [h]; exact hasB_zero f
 refine ⟨Bool.eq_false_iff.2 fun q => ?_, (no_all z e).2, (no_all z e).1⟩
 rw [h] at q
 obtain ⟨y, _, r⟩ := (towB_iff (by decide) f e).1 q
 rw [hasB_zero] at r; cases r
end Go.Proofs.YtiflmkicnkbeaaaGreatDoor
namespace Go.Proofs.YtiflmkicnkbeaaaGreatDoor
def lowN (n : Nat) (k : Int) : Nat := n % 2 ^ k.toNat
theorem lowN_lt {n : Nat} (h : n < 18446744073709551616) (k : Int) : lowN n k < 18446744073709551616 := Nat.lt_of_le_of_lt (Nat.mod_le _ _) h
theorem hasB_low (n : Nat) {k : Int} (hk : 0 ≤ k) (z : Int) : hasB (lowN n k) z = (hasB n z && decide (z < k)) := by
 by_cases hz : z < 0
 · rw [hasB_neg hz, hasB_neg hz]; rfl
 · obtain ⟨i, rfl⟩ : ∃ i : Nat, z = (i : Int) := ⟨z.toNat, by omega⟩
   rw [hasB_nat, hasB_nat, lowN, Nat.testBit_mod_two_pow, Bool.and_comm]
   congr 1
   exact decide_eq_decide.2 (by omega)
def Ho.fit (h : Ho) (s : Sp) : Sp := ⟨lowN s.c h.f, lowN s.u (h.f - 1), clrN (lowN s.d h.f) 0⟩
theorem fit_ok (h : Ho) {s : Sp} (k : s.ok) : (h.fit s).ok := ⟨lowN_lt k.c _, lowN_lt k.u _, clrN_lt (lowN_lt k.d _) 0⟩
theorem fit_car {h : Ho} (k : h.ok) (s : Sp) (z : Int) : hasB (h.fit s).c z = (hasB s.c z && decide (z < h.f)) := hasB_low _ (by have := k.2.1.1; omega) z
theorem fit_up {h : Ho} (k : h.ok) (s : Sp) (z : Int) : hasB (h.fit s).u z = (hasB s.u z && decide (z < h.f - 1)) := hasB_low _ (by have := k.2.1.1; omega) z
theorem fit_dn {h : Ho} (k : h.ok) {s : Sp} (ok : s.ok) (z : Int) : hasB (h.fit s).d z = (hasB s.d z && decide (z ≠ 0 ∧ z < h.f)) := by
 show hasB (clrN (lowN s.d h.f) 0) z = _
 rw [hasB_clr (lowN_lt ok.d _) (by omega) (by omega), hasB_low _ (by have := k.2.1.1; omega), Bool.and_assoc, Bool.decide_and, Bool.and_comm (decide (z < h.f)), decide_not]
def mayC (f z e : Int) : Prop := 0 ≤ z ∧ z < f ∧ ((e = 1 ∧ z < f - 1) ∨ (e = -1 ∧ 0 < z))
instance (f z e : Int) : Decidable (mayC f z e) := by unfold mayC; infer_instance
theorem fit_hall {h : Ho} (k : h.ok) {s : Sp} (ok : s.ok) (z e : Int) : (h.fit s).hall z e = (s.hall z e && decide (mayC h.f z e)) := by
 unfold Sp.hall
 by_cases h1 : e = 1
 · rw [if_pos h1, if_pos h1, fit_up k]
   cases q : hasB s.u z with
   | false => rfl
   | true =>
     have := hasB_range ok.u q
     congr 1
     exact decide_eq_decide.2 (by unfold mayC; omega)
 · rw [if_neg h1, if_neg h1]
   by_cases h2 : e = -1
   · rw [if_pos h2, if_pos h2, fit_dn k ok]
     cases q : hasB s.d z with
     | false => rfl
     | true =>
       have := hasB_range ok.d q
       congr 1
       exact decide_eq_decide.2 (by unfold mayC; omega)
   · rw [if_neg h2, if_neg h2]; rfl
theorem fit_sub {h : Ho} (k : h.ok) {s : Sp} (ok : s.ok) : (h.fit s).sub s :=
 ⟨fun z q => by rw [fit_car k, Bool.and_eq_true] at q; exact q.1, fun z q => by rw [fit_up k, Bool.and_eq_true] at q; exact q.1, fun z q => by rw [fit_dn k ok, Bool.and_eq_true] at q; exact q.1⟩
theorem fit_in {h : Ho} (k : h.ok) {s : Sp} (ok : s.ok) {z : Int} (q : hasB (h.fit s).all z = true) : 0 ≤ z ∧ z < h.f := by
 refine ⟨(hasB_range (fit_ok h ok).all q).1, ?_⟩
 rw [all_parts, fit_car k, fit_hall k ok, fit_hall k ok] at q
 simp only [Bool.or_eq_true, Bool.and_eq_true, decide_eq_true_eq] at q
 unfold mayC at q
 omega
structure Ca where
 x : St
 k : Int
structure Dn where
 op : Bool
 cl : Bool
 fl : Int
 la : Int
 mv : Int
 st : Sp
def zSp : Sp := ⟨0, 0, 0⟩
def zDn : Dn := ⟨false, false, 0, 0, 0, zSp⟩
def doneS (s t : Sp) (q e : Int) : Sp := ⟨if hasB s.c q = true then oneN q else 0, if t.hall q e = true ∧ e = 1 then oneN q else 0, if t.hall q e = true ∧ e = -1 then oneN q else 0⟩
def Ca.right (h : Ho) (c : Ca) : Bool := h.may c.x && (decide (c.k = 0) || (decide (0 < c.k) && decide (c.x.o = 1)))
def Ca.way (c : Ca) : Int := if c.x.r = true then -1 else c.x.e
def Ca.tick (h : Ho) (c : Ca) (s : Sp) (ob : Bool) : Ca × Dn :=
 if c.right h = true then
  if 0 < c.x.o then (⟨⟨c.x.p, c.x.e, tickL c.x.o ob, c.x.r⟩, heldK c.x.o c.k ob⟩, ⟨false, tickB c.x.o ob, h.flr c.x.p, 0, 0, zSp⟩)
  else if h.lev c.x.p then
   if (h.fit s).stop (h.flr c.x.p) c.x.e = true then
    (⟨⟨c.x.p, (h.fit s).head (h.flr c.x.p) c.x.e, h.d, false⟩, 0⟩,
     ⟨true, false, h.flr c.x.p, (h.fit s).head (h.flr c.x.p) c.x.e, 0, doneS s (h.fit s) (h.flr c.x.p) ((h.fit s).head (h.flr c.x.p) c.x.e)⟩)
   else (⟨⟨c.x.p + (h.fit s).head (h.flr c.x.p) c.x.e, (h.fit s).head (h.flr c.x.p) c.x.e, 0, false⟩, 0⟩,
    ⟨false, false, h.flr (c.x.p + (h.fit s).head (h.flr c.x.p) c.x.e), 0, (h.fit s).head (h.flr c.x.p) c.x.e, zSp⟩)
  else if h.lev (c.x.p + c.way) ∧ c.x.r = true then (⟨⟨c.x.p + c.way, 0, 0, false⟩, 0⟩, ⟨false, false, h.flr (c.x.p + c.way), 0, c.way, zSp⟩)
  else (⟨⟨c.x.p + c.way, c.way, 0, c.x.r⟩, 0⟩, ⟨false, false, h.flr (c.x.p + c.way), 0, c.way, zSp⟩)
 else (c, zDn)
structure RightIs (h : Ho) (c : Ca) : Prop where
 ok : h.ok
 p0 : 0 ≤ c.x.p
 p1 : c.x.p ≤ h.top
 e0 : -1 ≤ c.x.e
 e1 : c.x.e ≤ 1
 o0 : 0 ≤ c.x.o
 o1 : c.x.o ≤ h.d
 opn : 0 < c.x.o → h.lev c.x.p ∧ c.x.r = false
 btw : h.lev c.x.p ∨ c.x.e ≠ 0 ∨ c.x.r = true
 held : c.k = 0 ∨ (0 < c.k ∧ c.x.o = 1)
theorem right_iff (h : Ho) (c : Ca) : c.right h = true ↔ RightIs h c := by
 unfold Ca.right Ho.may
 simp only [Bool.and_eq_true, decide_eq_true_eq, Bool.or_eq_true]
 constructor
 · rintro ⟨⟨⟨ok, p0, p1⟩, ⟨e0, e1⟩, ⟨o0, o1⟩, m⟩, hk⟩
   refine ⟨ok, p0, p1, e0, e1, o0, o1, fun g => ?_, ?_, hk⟩
   · rw [if_pos g] at m
     simpa using m
   · by_cases g : 0 < c.x.o
     · rw [if_pos g] at m
       have m' : h.lev c.x.p ∧ c.x.r = false := by simpa using m
       exact .inl m'.1
     · rw [if_neg g] at m
       simpa using m
 · intro R
   refine ⟨⟨⟨R.ok, R.p0, R.p1⟩, ⟨R.e0, R.e1⟩, ⟨R.o0, R.o1⟩, ?_⟩, R.held⟩
   by_cases g : 0 < c.x.o
   · rw [if_pos g]
     have := R.opn g
     simp [this.1, this.2]
   · rw [if_neg g]
     simpa using R.btw
theorem mul_lt_lev {a b s : Int} (hs : 1 ≤ s) (h : a < b) : a * s + s ≤ b * s := by
 have := Int.mul_le_mul_of_nonneg_right (show a + 1 ≤ b by omega) (show 0 ≤ s by omega)
 rw [Int.add_mul, Int.one_mul] at this
 exact this
theorem tick_open {h : Ho} {c : Ca} (R : RightIs h c) (g : 0 < c.x.o) (s : Sp) (ob : Bool) :
 c.tick h s ob = (⟨⟨c.x.p, c.x.e, tickL c.x.o ob, c.x.r⟩, heldK c.x.o c.k ob⟩, ⟨false, tickB c.x.o ob, h.flr c.x.p, 0, 0, zSp⟩) := by
 rw [Ca.tick, if_pos ((right_iff h c).2 R), if_pos g]
theorem tick_stop {h : Ho} {c : Ca} (R : RightIs h c) (g : ¬ 0 < c.x.o) (l : h.lev c.x.p) {s : Sp} (ob : Bool) (k : (h.fit s).stop (h.flr c.x.p) c.x.e = true) :
 c.tick h s ob = (⟨⟨c.x.p, (h.fit s).head (h.flr c.x.p) c.x.e, h.d, false⟩, 0⟩,
  ⟨true, false, h.flr c.x.p, (h.fit s).head (h.flr c.x.p) c.x.e, 0, doneS s (h.fit s) (h.flr c.x.p) ((h.fit s).head (h.flr c.x.p) c.x.e)⟩) := by
 rw [Ca.tick, if_pos ((right_iff h c).2 R), if_neg g, if_pos l, if_pos k]
theorem tick_go {h : Ho} {c : Ca} (R : RightIs h c) (g : ¬ 0 < c.x.o) (l : h.lev c.x.p) {s : Sp} (ob : Bool) (k : (h.fit s).stop (h.flr c.x.p) c.x.e = false) :
 c.tick h s ob = (⟨⟨c.x.p + (h.fit s).head (h.flr c.x.p) c.x.e, (h.fit s).head (h.flr c.x.p) c.x.e, 0, false⟩, 0⟩,
  ⟨false, false, h.flr (c.x.p + (h.fit s).head (h.flr c.x.p) c.x.e), 0, (h.fit s).head (h.flr c.x.p) c.x.e, zSp⟩) := by
 rw [Ca.tick, if_pos ((right_iff h c).2 R), if_neg g, if_pos l, if_neg (by rw [k]; simp)]
theorem tick_relev {h : Ho} {c : Ca} (R : RightIs h c) (g : ¬ 0 < c.x.o) (l : ¬ h.lev c.x.p) (s : Sp) (ob : Bool) (k : h.lev (c.x.p + c.way) ∧ c.x.r = true) :
 c.tick h s ob = (⟨⟨c.x.p + c.way, 0, 0, false⟩, 0⟩, ⟨false, false, h.flr (c.x.p + c.way), 0, c.way, zSp⟩) := by
 rw [Ca.tick, if_pos ((right_iff h c).2 R), if_neg g, if_neg l, if_pos k]
theorem tick_on {h : Ho} {c : Ca} (R : RightIs h c) (g : ¬ 0 < c.x.o) (l : ¬ h.lev c.x.p) (s : Sp) (ob : Bool) (k : ¬ (h.lev (c.x.p + c.way) ∧ c.x.r = true)) :
 c.tick h s ob = (⟨⟨c.x.p + c.way, c.way, 0, c.x.r⟩, 0⟩, ⟨false, false, h.flr (c.x.p + c.way), 0, c.way, zSp⟩) := by
 rw [Ca.tick, if_pos ((right_iff h c).2 R), if_neg g, if_neg l, if_neg k]
theorem tick_wrong {h : Ho} {c : Ca} (R : ¬ RightIs h c) (s : Sp) (ob : Bool) : c.tick h s ob = (c, zDn) := by
 rw [Ca.tick, if_neg (fun q => R ((right_iff h c).1 q))]
theorem way_is {h : Ho} {c : Ca} (R : RightIs h c) (l : ¬ h.lev c.x.p) : c.way = 1 ∨ c.way = -1 := by
 unfold Ca.way
 have := R.e0
 have := R.e1
 split
 · exact .inr rfl
 · rename_i g
   have := (R.btw.resolve_left l).resolve_right g
   omega
theorem btw_room {h : Ho} {c : Ca} (R : RightIs h c) (l : ¬ h.lev c.x.p) : 0 < c.x.p ∧ c.x.p < h.top := by
 have p0 := R.p0
 have p1 := R.p1
 refine ⟨?_, ?_⟩
 · refine Int.not_le.1 fun q => l ?_
   rw [show c.x.p = 0 by omega]
   exact lev_zero R.ok
 · refine Int.not_le.1 fun q => l ?_
   rw [show c.x.p = h.top by omega]
   exact lev_top R.ok
theorem door_more {o : Int} (g : 1 < o) {b : Bool} : tickL o b = o - 1 := by rw [tickL, if_neg (by omega), if_pos g]
theorem doorH_more {o : Int} (g : 1 < o) {k : Int} {b : Bool} : heldK o k b = k := by rw [heldK, if_neg (by omega), if_pos g]
theorem small_dir {e : Int} (e0 : -1 ≤ e) (e1 : e ≤ 1) : e = 0 ∨ e = 1 ∨ e = -1 := by omega
theorem go_room {h : Ho} {c : Ca} (R : RightIs h c) (l : h.lev c.x.p) {s : Sp} (ok : s.ok) (k : (h.fit s).stop (h.flr c.x.p) c.x.e = false) :
 0 ≤ c.x.p + (h.fit s).head (h.flr c.x.p) c.x.e ∧ c.x.p + (h.fit s).head (h.flr c.x.p) c.x.e ≤ h.top := by
 obtain ⟨q0, q1, _, _, q4⟩ := flr_facts R.ok R.p0 R.p1
 have q5 := q4.1 l
 have hs := R.ok.2.2.1.1
 have hf := R.ok.2.1.2
 have p0 := R.p0
 have p1 := R.p1
 have K := head_is (fit_ok h ok) q0 (show h.flr c.x.p < 64 by omega) (small_dir R.e0 R.e1)
 unfold Sp.stop at k
 rw [Bool.or_eq_false_iff] at k
 generalize (h.fit s).head (h.flr c.x.p) c.x.e = x at *
 rcases K.small with rfl | rfl | rfl
 · omega
 · have t := (K.why (by omega)).resolve_right (by rw [k.2]; simp)
   obtain ⟨y, a, b⟩ := (towB_iff (fit_ok h ok).all _ _).1 t
   have r := fit_in R.ok ok b
   unfold ah at a
   have := mul_lt_lev hs (show h.flr c.x.p < h.f - 1 by omega)
   unfold Ho.top
   omega
 · have t := (K.why (by omega)).resolve_right (by rw [k.2]; simp)
   obtain ⟨y, a, b⟩ := (towB_iff (fit_ok h ok).all _ _).1 t
   have r := fit_in R.ok ok b
   unfold ah at a
   have := mul_lt_lev hs (show 0 < h.flr c.x.p by omega)
   omega
theorem RightIs.tick {h : Ho} {c : Ca} (R : RightIs h c) {s : Sp} (ok : s.ok) (ob : Bool) : RightIs h (c.tick h s ob).1 := by
 have hd := R.ok.2.2.2
 by_cases g : 0 < c.x.o
 · rw [tick_open R g]
   have op := R.opn g
   have := R.o1
   have hk := R.held
   by_cases g1 : 1 < c.x.o
   · rw [door_more g1, doorH_more g1]
     exact ⟨R.ok, R.p0, R.p1, R.e0, R.e1, by dsimp only; omega, by dsimp only; omega, fun _ => op, .inl op.1, .inl (by dsimp only; omega)⟩
   · have o1 : c.x.o = 1 := by omega
     rw [o1]
     cases ob
     · exact ⟨R.ok, R.p0, R.p1, R.e0, R.e1, show (0 : Int) ≤ 0 by decide, show (0 : Int) ≤ h.d by omega, fun _ => op, .inl op.1, .inl rfl⟩
     · exact ⟨R.ok, R.p0, R.p1, R.e0, R.e1, show (0 : Int) ≤ 1 by decide, show (1 : Int) ≤ h.d by omega, fun _ => op, .inl op.1, .inr ⟨show 0 < min c.k 9223372036854775806 + 1 by omega, rfl⟩⟩
 · by_cases l : h.lev c.x.p
   · cases k : (h.fit s).stop (h.flr c.x.p) c.x.e with
     | true =>
       rw [tick_stop R g l ob k]
       obtain ⟨q0, q1, _⟩ := flr_facts R.ok R.p0 R.p1
       have hf := R.ok.2.1.2
       have K := (head_is (fit_ok h ok) q0 (show h.flr c.x.p < 64 by omega) (small_dir R.e0 R.e1)).small
       exact ⟨R.ok, R.p0, R.p1, by dsimp only; omega, by dsimp only; omega, by dsimp only; omega, by dsimp only; omega, fun _ => ⟨l, rfl⟩, .inl l, .inl rfl⟩
     | false =>
       have rm := go_room R l ok k
       rw [tick_go R g l ob k]
       obtain ⟨q0, q1, _⟩ := flr_facts R.ok R.p0 R.p1
       have hf := R.ok.2.1.2
       have K := (head_is (fit_ok h ok) q0 (show h.flr c.x.p < 64 by omega) (small_dir R.e0 R.e1)).small
       refine ⟨R.ok, rm.1, rm.2, by dsimp only; omega, by dsimp only; omega, by dsimp only; omega, by dsimp only; omega, fun q => absurd q (by dsimp only; omega), ?_, .inl rfl⟩
       by_cases z : (h.fit s).head (h.flr c.x.p) c.x.e = 0
       · left
         dsimp only
         rw [z, Int.add_zero]; exact l
       · exact .inr (.inl z)
   · have w := way_is R l
     have b := btw_room R l
     by_cases k : h.lev (c.x.p + c.way) ∧ c.x.r = true
     · rw [tick_relev R g l s ob k]
       exact ⟨R.ok, by dsimp only; omega, by dsimp only; omega, by dsimp only; omega, by dsimp only; omega, by dsimp only; omega, by dsimp only; omega, fun q => absurd q (by dsimp only; omega), .inl k.1, .inl rfl⟩
     · rw [tick_on R g l s ob k]
       exact ⟨R.ok, by dsimp only; omega, by dsimp only; omega, by dsimp only; omega, by dsimp only; omega, by dsimp only; omega, by dsimp only; omega, fun q => absurd q (by dsimp only; omega), .inr (.inl (by dsimp only; omega)), .inl rfl⟩
end Go.Proofs.YtiflmkicnkbeaaaGreatDoor
namespace Go.Proofs.YtiflmkicnkbeaaaGreatDoor
theorem zero_head {s : Sp} (ok : s.ok) (h : s.all = 0) {f d : Int} (f0 : 0 ≤ f) (f1 : f < 64) (hd : d = 0 ∨ d = 1 ∨ d = -1) : s.head f d = 0 ∧ s.stop f d = false := by
 have K := head_is ok f0 f1 hd
 have z := fun e => all_zero h f e
 have e : s.head f d = 0 := by
  refine Decidable.not_not.1 fun g => ?_
  have := K.why g
  rw [(z _).1, (z _).2.1] at this
  simp at this
 refine ⟨e, ?_⟩
 rw [Sp.stop, e, (z 0).2.2, (z 0).2.1]; rfl
theorem flr_is {h : Ho} (k : h.ok) {p y : Int} (p0 : 0 ≤ p) (p1 : p ≤ h.top) (a : y * h.s ≤ p) (b : p < y * h.s + h.s) : h.flr p = y := by
 obtain ⟨_, _, _, c, _⟩ := flr_facts k p0 p1
 have hs := k.2.2.1.1
 rcases Int.lt_trichotomy (h.flr p) y with g | g | g
 · have := mul_lt_lev hs g
   omega
 · exact g
 · have := mul_lt_lev hs g
   omega
theorem lev_iff {h : Ho} (k : h.ok) {p y : Int} (p0 : 0 ≤ p) (p1 : p ≤ h.top) (e : h.flr p = y) : h.lev p ↔ y * h.s = p := by
 rw [← e]; exact (flr_facts k p0 p1).2.2.2.2
end Go.Proofs.YtiflmkicnkbeaaaGreatDoor
namespace Go.Proofs.YtiflmkicnkbeaaaGreatDoor
structure StopIs (h : Ho) (c : Ca) (s : Sp) (x : Ca × Dn) : Prop where
 R : RightIs h c
 o0 : c.x.o = 0
 lev : h.lev c.x.p
 car : x.1 = ⟨⟨c.x.p, x.2.la, h.d, false⟩, 0⟩
 fl : x.2.fl = h.flr c.x.p
 cl : x.2.cl = false
 mv : x.2.mv = 0
 la : x.2.la = 0 ∨ x.2.la = 1 ∨ x.2.la = -1
 st : x.2.st = doneS s (h.fit s) x.2.fl x.2.la
 why : hasB (h.fit s).c x.2.fl = true ∨ (h.fit s).hall x.2.fl x.2.la = true
theorem tick_opens (h : Ho) (c : Ca) {s : Sp} (ok : s.ok) (ob : Bool) : ((c.tick h s ob).2.op = true ∧ StopIs h c s (c.tick h s ob)) ∨ ((c.tick h s ob).2.op = false ∧ (c.tick h s ob).2.st = zSp ∧ (c.tick h s ob).2.la = 0) := by
 by_cases R : RightIs h c
 · by_cases g : 0 < c.x.o
   · rw [tick_open R g]; exact .inr ⟨rfl, rfl, rfl⟩
   · by_cases l : h.lev c.x.p
     · obtain ⟨q0, q1, _⟩ := flr_facts R.ok R.p0 R.p1
       have hf := R.ok.2.1.2
       cases k : (h.fit s).stop (h.flr c.x.p) c.x.e with
       | true =>
         rw [tick_stop R g l ob k]
         have K := head_is (fit_ok h ok) q0 (show h.flr c.x.p < 64 by omega) (small_dir R.e0 R.e1)
         unfold Sp.stop at k
         rw [Bool.or_eq_true] at k
         exact .inl ⟨rfl, R, by have := R.o0; omega, l, rfl, rfl, rfl, rfl, K.small, rfl, k⟩
       | false => rw [tick_go R g l ob k]; exact .inr ⟨rfl, rfl, rfl⟩
     · by_cases k : h.lev (c.x.p + c.way) ∧ c.x.r = true
       · rw [tick_relev R g l _ ob k]; exact .inr ⟨rfl, rfl, rfl⟩
       · rw [tick_on R g l _ ob k]; exact .inr ⟨rfl, rfl, rfl⟩
 · rw [tick_wrong R]; exact .inr ⟨rfl, rfl, rfl⟩
theorem one_bits {q : Int} (q0 : 0 ≤ q) (q1 : q < 64) : bitsOf (oneN q) = [q] := by
 obtain ⟨i, rfl⟩ : ∃ i : Nat, q = (i : Int) := ⟨q.toNat, by omega⟩
 have e : bitsN (oneN (i : Int)) = [i] := by
  unfold bitsN
  have : (List.range 64).filter (oneN (i : Int)).testBit = (List.range 64).filter (fun j => decide (j = i)) := by
   apply List.filter_congr
   intro j _
   rw [← hasB_nat, hasB_one]
   exact decide_eq_decide.2 (by omega)
  rw [this, range_cut i (by omega), List.filter_append, List.filter_cons_of_pos (by simp)]
  have l1 : (List.range i).filter (fun j => decide (j = i)) = [] := List.filter_eq_nil_iff.2 fun j hj => by
   have := List.mem_range.1 hj
   simp; omega
  have l2 : ((List.range (63 - i)).map (· + (i + 1))).filter (fun j => decide (j = i)) = [] := List.filter_eq_nil_iff.2 fun j hj => by
   obtain ⟨y, _, rfl⟩ := List.mem_map.1 hj
   simp; omega
  rw [l1, l2]; rfl
 rw [bitsOf, e]; rfl
theorem done_facts {h : Ho} {c : Ca} {s : Sp} (ok : s.ok) {x : Ca × Dn} (H : StopIs h c s x) :
 (hasB s.c x.2.fl = true ∨ (x.2.la ≠ 0 ∧ s.hall x.2.fl x.2.la = true)) ∧ hasB x.2.st.c x.2.fl = hasB s.c x.2.fl ∧ bitsOf x.2.st.all = [x.2.fl] ∧
 (x.2.la ≠ 0 → x.2.st.hall x.2.fl (-x.2.la) = false) ∧ x.1.x.e = x.2.la ∧ x.2.st.ok ∧ ¬ (x.2.st.c = 0 ∧ x.2.st.u = 0 ∧ x.2.st.d = 0) := by
 have R := H.R
 obtain ⟨q0, q1, _⟩ := flr_facts R.ok R.p0 R.p1
 have hf := R.ok.2.1.2
 have S := fit_sub R.ok ok
 have la := H.la
 have why := H.why
 have st := H.st
 have cr := H.car
 have fl := H.fl
 obtain ⟨x1, ⟨op, cl, f, a, mv, d⟩⟩ := x
 dsimp only at *
 rw [← fl] at q0 q1
 have hz : ∀ y, hasB 0 y = false := hasB_zero
 have ho : hasB (oneN f) f = true := by rw [hasB_one]; exact decide_eq_true (by omega)
 have w : hasB s.c f = true ∨ (a ≠ 0 ∧ (h.fit s).hall f a = true) := by
  rcases why with k | k
  · exact .inl (S.c _ k)
  · have := hall_dir k
    exact .inr ⟨by omega, k⟩
 have ct : hasB d.c f = hasB s.c f := by
  rw [st, doneS]
  dsimp only
  cases q : hasB s.c f with
  | true => rw [if_pos rfl]; exact ho
  | false => rw [if_neg (by simp)]; exact hz f
 have cu : d.u = if (h.fit s).hall f a = true ∧ a = 1 then oneN f else 0 := by rw [st]; rfl
 have cd : d.d = if (h.fit s).hall f a = true ∧ a = -1 then oneN f else 0 := by rw [st]; rfl
 have cc : d.c = if hasB s.c f = true then oneN f else 0 := by rw [st]; rfl
 have dok : d.ok := by
  refine ⟨?_, ?_, ?_⟩
  · rw [cc]; split; exact oneN_lt f; decide
  · rw [cu]; split; exact oneN_lt f; decide
  · rw [cd]; split; exact oneN_lt f; decide
 have al : d.all = oneN f := by
  refine ext_hasB fun z => ?_
  rw [Sp.all, hasB_or, hasB_or]
  have le : ∀ n : Nat, n = 0 ∨ n = oneN f → hasB n z = true → hasB (oneN f) z = true := fun n k q => by
   rcases k with k | k
   · rw [k, hz] at q; cases q
   · rw [k] at q; exact q
  have c1 : d.c = 0 ∨ d.c = oneN f := by rw [cc]; split <;> simp
  have c2 : d.u = 0 ∨ d.u = oneN f := by rw [cu]; split <;> simp
  have c3 : d.d = 0 ∨ d.d = oneN f := by rw [cd]; split <;> simp
  rw [Bool.eq_iff_iff, Bool.or_eq_true, Bool.or_eq_true]
  constructor
  · rintro ((k | k) | k)
    · exact le _ c1 k
    · exact le _ c2 k
    · exact le _ c3 k
  · intro k
    rcases w with q | ⟨a0, q⟩
    · rw [cc, if_pos q]; exact .inl (.inl k)
    · rcases hall_dir q with e | e
      · rw [cu, if_pos ⟨q, e⟩]; exact .inl (.inr k)
      · rw [cd, if_pos ⟨q, e⟩]; exact .inr k
 refine ⟨?_, ct, by rw [al]; exact one_bits q0 (by omega), fun a0 => ?_, by rw [cr], dok, ?_⟩
 · rcases w with q | ⟨a0, q⟩
   · exact .inl q
   · refine .inr ⟨a0, Bool.not_eq_false _ ▸ fun k => ?_⟩
     rw [S.hall k] at q; cases q
 · rcases la with e | e | e
   · exact absurd e a0
   · rw [e]
     show hasB d.d f = false
     rw [cd, if_neg (fun k => by omega)]; exact hz f
   · rw [e]
     show hasB d.u f = false
     rw [cu, if_neg (fun k => by omega)]; exact hz f
 · rintro ⟨k1, k2, k3⟩
   have : d.all = 0 := by unfold Sp.all; rw [k1, k2, k3]; rfl
   rw [al] at this
   rw [this, hz] at ho
   cases ho
end Go.Proofs.YtiflmkicnkbeaaaGreatDoor
namespace Go.Proofs.YtiflmkicnkbeaaaGreatDoor
open Go.RowKit
def PS (W : World) (T : TypeId) (p u d : Nat) (f e : Int) (a : World) : Prop := Fr W a [] ∧
 (a.cell? ⟨W.heap.size, 0, none⟩ = some (.int .u64 p) ∧ a.cell? ⟨W.heap.size, 1, none⟩ = some (.int .u64 u) ∧ a.cell? ⟨W.heap.size, 2, none⟩ = some (.int .u64 d)) ∧
 (a.cell? ⟨W.heap.size + 1, 0, none⟩ = some (.int .i64 f) ∧ a.cell? ⟨W.heap.size + 1, 1, none⟩ = some (.int .i64 e)) ∧
 a.heap[W.heap.size]? = some (.cells #[.int .u64 p, .int .u64 u, .int .u64 d] T (0, 0)) ∧
 a.heap[W.heap.size + 2]? = some (.cells #[.int .u64 0, .int .u64 0, .int .u64 0] T (0, 0))
theorem PS.fr {W : World} {T : TypeId} {p u d : Nat} {f e : Int} {a a' : World} (h : PS W T p u d f e a) (k : Fr a a' []) : PS W T p u d f e a' := by
 obtain ⟨h0, ⟨h1, h2, h3⟩, ⟨h4, h5⟩, h6, h7⟩ := h
 exact ⟨h0.trans k, ⟨k.cell h1 (by simp), k.cell h2 (by simp), k.cell h3 (by simp)⟩, ⟨k.cell h4 (by simp), k.cell h5 (by simp)⟩, k.heap h6 (by simp), k.heap h7 (by simp)⟩
theorem PS.new (w : World) (T : TypeId) (p u d : Nat) (f e : Int) : PS w T p u d f e (((w.alloc (.cells #[.int .u64 p, .int .u64 u, .int .u64 d] T)).alloc (.cells #[.int .i64 f, .int .i64 e] 44)).alloc (.cells #[.int .u64 0, .int .u64 0, .int .u64 0] T)) := by
 have a1 := heap_alloc_new w (.cells #[.int .u64 p, .int .u64 u, .int .u64 d] T)
 have f1 := Fr.alloc w (.cells #[.int .u64 p, .int .u64 u, .int .u64 d] T) []
 have s1 : (w.alloc (.cells #[.int .u64 p, .int .u64 u, .int .u64 d] T)).heap.size = w.heap.size + 1 := by simp
 generalize w.alloc (.cells #[.int .u64 p, .int .u64 u, .int .u64 d] T) = w1 at *
 have a2 := heap_alloc_new w1 (.cells #[.int .i64 f, .int .i64 e] 44)
 have f2 := Fr.alloc w1 (.cells #[.int .i64 f, .int .i64 e] 44) []
 have s2 : (w1.alloc (.cells #[.int .i64 f, .int .i64 e] 44)).heap.size = w1.heap.size + 1 := by simp
 generalize w1.alloc (.cells #[.int .i64 f, .int .i64 e] 44) = w2 at *
 have a3 := heap_alloc_new w2 (.cells #[.int .u64 0, .int .u64 0, .int .u64 0] T)
 have f3 := Fr.alloc w2 (.cells #[.int .u64 0, .int .u64 0, .int .u64 0] T) []
 rw [s2, s1] at a3
 rw [s1] at a2
 generalize w2.alloc (.cells #[.int .u64 0, .int .u64 0, .int .u64 0] T) = w3 at *
 have r1 := f3.heap (f2.heap a1 (by simp)) (by simp)
 have r2 := f3.heap a2 (by simp)
 exact ⟨(f1.trans f2).trans f3, arow r1, ⟨by rw [cell_of_row w3 _ 0 _ _ _ r2]; rfl, by rw [cell_of_row w3 _ 1 _ _ _ r2]; rfl⟩, r1, a3⟩
theorem aput0 {w : World} {g : Nat} {a b c : Value} {T : TypeId} (h : w.heap[g]? = some (.cells #[a, b, c] T (0, 0))) (x : Value) : (w.setCell ⟨g, 0, none⟩ x).heap[g]? = some (.cells #[x, b, c] T (0, 0)) := by rw [heap_setCell_same _ g 0 _ _ _ h]; rfl
theorem aput1 {w : World} {g : Nat} {a b c : Value} {T : TypeId} (h : w.heap[g]? = some (.cells #[a, b, c] T (0, 0))) (x : Value) : (w.setCell ⟨g, 1, none⟩ x).heap[g]? = some (.cells #[a, x, c] T (0, 0)) := by rw [heap_setCell_same _ g 1 _ _ _ h]; rfl
theorem aput2 {w : World} {g : Nat} {a b c : Value} {T : TypeId} (h : w.heap[g]? = some (.cells #[a, b, c] T (0, 0))) (x : Value) : (w.setCell ⟨g, 2, none⟩ x).heap[g]? = some (.cells #[a, b, x] T (0, 0)) := by rw [heap_setCell_same _ g 2 _ _ _ h]; rfl
set_option maxHeartbeats 1000000 in
set_option maxRecDepth 100000 in
theorem put_any (s : Sp) (f e : Int) (w : World) (h : s.ok) (r : Sp) (hr : r = s.put f e) : Calls Tryz.prog 279 #[s.v, .agg #[.int .i64 f, .int .i64 e]] w fun x w' => x = .returned r.v ∧ Fr w w' [] := by
 have BI := Lib.hid (fun W => bit_any f W)
 have ho := oneN_lt f
 obtain ⟨p, u, d⟩ := s
 obtain ⟨rp, ru, rd⟩ := r
 have HS := Lib.hid ((PS.new w 214 p u d f e).fr (Fr.drew _ []))
 have HS0 := Lib.hid (PS.new w 214 p u d f e)
 by_cases h1 : e = 1
 · have E1 := bits_or_u64_nat u (oneN f) h.u ho
   obtain ⟨rfl, rfl, rfl⟩ : p = rp ∧ u ||| oneN f = ru ∧ d = rd := by
    rw [Sp.put, if_pos h1] at hr
    simp only [Sp.mk.injEq] at hr
    exact ⟨hr.1.symm, hr.2.1.symm, hr.2.2.symm⟩
   subst h1
   clear hr h ho
   generalize oneN f = o at *
   dsimp only [Sp.v, Sp.box] at *
   go_enter Tryz.func279, Tryz.ntmps279
   obtain ⟨_, _, ⟨k0, k1⟩, _⟩ := HS0.out
   go_wp2
   refine wp_region_detL 7 (S := PS w 214 p u d f (1)) (by kernel_rfl) HS.out ?_
   refine wpDetL_take (j := 7) (by decide) (by kernel_rfl) (i := 0) (v := ?dv1) (by simp only [List.getElem?_toArray, List.getElem?_cons_zero]; rfl) (by kernel_rfl) (by kernel_rfl) (by kernel_rfl) (Or.inl ⟨by rfl, ?dy1⟩) ?dr1
   case dy1 => (intro w hSw; have hS0 := hSw; (try dsimp only [PS] at hSw); go_simp; refine Came.value ?_ hS0; with_reducible rfl)
   try simp only [Act.put, List.setIfInBounds_toArray, List.set_cons_zero, List.set_cons_succ]
   refine wpDetL_take (j := 7) (by decide) (by kernel_rfl) (i := 1) (v := ?dv2) (by simp only [List.getElem?_toArray, List.getElem?_cons_zero, List.getElem?_cons_succ]; rfl) (by kernel_rfl) (by kernel_rfl) (by kernel_rfl) (Or.inl ⟨by rfl, ?dy2⟩) ?dr2
   case dy2 => (intro w hSw; have hS0 := hSw; (try dsimp only [PS] at hSw); go_simp; refine Came.value ?_ hS0; with_reducible rfl)
   try simp only [Act.put, List.setIfInBounds_toArray, List.set_cons_zero, List.set_cons_succ]
   refine wpDetL_take (j := 7) (by decide) (by kernel_rfl) (i := 2) (v := ?dv3) (by simp only [List.getElem?_toArray, List.getElem?_cons_zero, List.getElem?_cons_succ]; rfl) (by kernel_rfl) (by kernel_rfl) (by kernel_rfl) (Or.inl ⟨by rfl, ?dy3⟩) ?dr3
   case dy3 => (intro w hSw; have hS0 := hSw; (try dsimp only [PS] at hSw); go_simp; refine Came.value ?_ hS0; with_reducible rfl)
   try simp only [Act.put, List.setIfInBounds_toArray, List.set_cons_zero, List.set_cons_succ]
   refine wpDetL_take (j := 7) (by decide) (by kernel_rfl) (i := 3) (v := ?dv4) (by simp only [List.getElem?_toArray, List.getElem?_cons_zero, List.getElem?_cons_succ]; rfl) (by kernel_rfl) (by kernel_rfl) (by kernel_rfl) (Or.inl ⟨by rfl, ?dy4⟩) ?dr4
   case dy4 => (intro w hSw; have hS0 := hSw; (try dsimp only [PS] at hSw); go_simp; refine Came.value ?_ hS0; with_reducible rfl)
   try simp only [Act.put, List.setIfInBounds_toArray, List.set_cons_zero, List.set_cons_succ]
   refine wpDetL_take (j := 7) (by decide) (by kernel_rfl) (i := 4) (v := ?dv5) (by simp only [List.getElem?_toArray, List.getElem?_cons_zero, List.getElem?_cons_succ]; rfl) (by kernel_rfl) (by kernel_rfl) (by kernel_rfl) (Or.inl ⟨by rfl, ?dy5⟩) ?dr5
   case dy5 => (intro w hSw; go_simp; exact Came.call ((BI.out w).mono fun e w' ⟨he, hw⟩ => ⟨he, hw ▸ hSw⟩) (by with_reducible rfl))
   try simp only [Act.put, List.setIfInBounds_toArray, List.set_cons_zero, List.set_cons_succ]
   refine wpDetL_take (j := 7) (by decide) (by kernel_rfl) (i := 5) (v := ?dv6) (by simp only [List.getElem?_toArray, List.getElem?_cons_zero, List.getElem?_cons_succ]; rfl) (by kernel_rfl) (by kernel_rfl) (by kernel_rfl) (Or.inl ⟨by rfl, ?dy6⟩) ?dr6
   case dy6 => (intro w hSw; have hS0 := hSw; (try dsimp only [PS] at hSw); go_simp; refine Came.value ?_ hS0; with_reducible rfl)
   try simp only [Act.put, List.setIfInBounds_toArray, List.set_cons_zero, List.set_cons_succ]
   refine wpDetL_take (j := 7) (by decide) (by kernel_rfl) (i := 6) (v := ?dv7) (by simp only [List.getElem?_toArray, List.getElem?_cons_zero, List.getElem?_cons_succ]; rfl) (by kernel_rfl) (by kernel_rfl) (by kernel_rfl) (Or.inl ⟨by rfl, ?dy7⟩) ?dr7
   case dy7 => (intro w hSw; have hS0 := hSw; (try dsimp only [PS] at hSw); go_simp; refine Came.value ?_ hS0; with_reducible rfl)
   try simp only [Act.put, List.setIfInBounds_toArray, List.set_cons_zero, List.set_cons_succ]
   refine wpDetL_last (oj := _) (by kernel_rfl) (by kernel_rfl) (by simp only [List.getElem?_toArray, List.getElem?_cons_zero, List.getElem?_cons_succ]; rfl) ?_
   intro w3 hS K hK
   obtain ⟨hF, ⟨c0, c1, c2⟩, ⟨k0, k1⟩, hR, hZ⟩ := hS
   have zb := fun i => frozen_of_row w3 _ i _ _ hR
   have zb0 := zb 0
   have zb1 := zb 1
   have zb2 := zb 2
   have hR2 := Lib.hid (aput1 hR (.int .u64 (((u ||| o : Nat)) : Int)))
   have FX := Fr.setCell w3 w.heap.size 1 (.int .u64 (((u ||| o : Nat)) : Int)) (S := [w.heap.size]) (by simp)
   have FS := Lib.hid (hF.new FX (by simp))
   have hZ2 := Lib.hid (FX.heap hZ (by simp))
   have m0 := Lib.hid (FX.cell k0 (by simp))
   have m1 := Lib.hid (FX.cell k1 (by simp))
   clear FX
   go_simp
   refine hK.out _ _ ?_
   clear hK zb hF hZ hR K zb0 zb1 zb2 c0 c1 c2 k0 k1
   generalize World.setCell w3 _ _ = w4 at *
   have k0 := m0.out
   have k1 := m1.out
   obtain ⟨c0, c1, c2⟩ := arow hR2.out
   obtain ⟨x0, x1, x2⟩ := arow hZ2.out
   have z := fun i => frozen_of_row w4 _ i _ _ hZ2.out
   have z0 := z 0
   have z1 := z 1
   have z2 := z 2
   have AF := Lib.hid (FS.out.new (aset_fr w4 (w.heap.size + 2) (.int .u64 (p : Int)) (.int .u64 (((u ||| o : Nat)) : Int)) (.int .u64 (d : Int))) (by simp))
   obtain ⟨y0, y1, y2⟩ := arow (aset hZ2.out (.int .u64 (p : Int)) (.int .u64 (((u ||| o : Nat)) : Int)) (.int .u64 (d : Int)))
   clear z
   go_wp2
   exact bodyPost_ret (v := .agg #[.int .u64 (p : Int), .int .u64 (((u ||| o : Nat)) : Int), .int .u64 (d : Int)]) (by simp [results, Tryz.results279, go_sem, y0, y1, y2]) rfl ⟨rfl, AF.out⟩
 · by_cases h2 : e = -1
   · have E1 := bits_or_u64_nat d (oneN f) h.d ho
     obtain ⟨rfl, rfl, rfl⟩ : p = rp ∧ u = ru ∧ d ||| oneN f = rd := by
      rw [Sp.put, if_neg h1, if_pos h2] at hr
      simp only [Sp.mk.injEq] at hr
      exact ⟨hr.1.symm, hr.2.1.symm, hr.2.2.symm⟩
     subst h2
     clear hr h ho h1
     generalize oneN f = o at *
     dsimp only [Sp.v, Sp.box] at *
     go_enter Tryz.func279, Tryz.ntmps279
     obtain ⟨_, _, ⟨k0, k1⟩, _⟩ := HS0.out
     go_wp2
     refine wp_region_detL 7 (S := PS w 214 p u d f (-1)) (by kernel_rfl) HS.out ?_
     refine wpDetL_take (j := 7) (by decide) (by kernel_rfl) (i := 0) (v := ?dv8) (by simp only [List.getElem?_toArray, List.getElem?_cons_zero]; rfl) (by kernel_rfl) (by kernel_rfl) (by kernel_rfl) (Or.inl ⟨by rfl, ?dy8⟩) ?dr8
     case dy8 => (intro w hSw; have hS0 := hSw; (try dsimp only [PS] at hSw); go_simp; refine Came.value ?_ hS0; with_reducible rfl)
     try simp only [Act.put, List.setIfInBounds_toArray, List.set_cons_zero, List.set_cons_succ]
     refine wpDetL_take (j := 7) (by decide) (by kernel_rfl) (i := 1) (v := ?dv9) (by simp only [List.getElem?_toArray, List.getElem?_cons_zero, List.getElem?_cons_succ]; rfl) (by kernel_rfl) (by kernel_rfl) (by kernel_rfl) (Or.inl ⟨by rfl, ?dy9⟩) ?dr9
     case dy9 => (intro w hSw; have hS0 := hSw; (try dsimp only [PS] at hSw); go_simp; refine Came.value ?_ hS0; with_reducible rfl)
     try simp only [Act.put, List.setIfInBounds_toArray, List.set_cons_zero, List.set_cons_succ]
     refine wpDetL_take (j := 7) (by decide) (by kernel_rfl) (i := 2) (v := ?dv10) (by simp only [List.getElem?_toArray, List.getElem?_cons_zero, List.getElem?_cons_succ]; rfl) (by kernel_rfl) (by kernel_rfl) (by kernel_rfl) (Or.inl ⟨by rfl, ?dy10⟩) ?dr10
     case dy10 => (intro w hSw; have hS0 := hSw; (try dsimp only [PS] at hSw); go_simp; refine Came.value ?_ hS0; with_reducible rfl)
     try simp only [Act.put, List.setIfInBounds_toArray, List.set_cons_zero, List.set_cons_succ]
     refine wpDetL_take (j := 7) (by decide) (by kernel_rfl) (i := 3) (v := ?dv11) (by simp only [List.getElem?_toArray, List.getElem?_cons_zero, List.getElem?_cons_succ]; rfl) (by kernel_rfl) (by kernel_rfl) (by kernel_rfl) (Or.inl ⟨by rfl, ?dy11⟩) ?dr11
     case dy11 => (intro w hSw; have hS0 := hSw; (try dsimp only [PS] at hSw); go_simp; refine Came.value ?_ hS0; with_reducible rfl)
     try simp only [Act.put, List.setIfInBounds_toArray, List.set_cons_zero, List.set_cons_succ]
     refine wpDetL_take (j := 7) (by decide) (by kernel_rfl) (i := 4) (v := ?dv12) (by simp only [List.getElem?_toArray, List.getElem?_cons_zero, List.getElem?_cons_succ]; rfl) (by kernel_rfl) (by kernel_rfl) (by kernel_rfl) (Or.inl ⟨by rfl, ?dy12⟩) ?dr12
     case dy12 => (intro w hSw; go_simp; exact Came.call ((BI.out w).mono fun e w' ⟨he, hw⟩ => ⟨he, hw ▸ hSw⟩) (by with_reducible rfl))
     try simp only [Act.put, List.setIfInBounds_toArray, List.set_cons_zero, List.set_cons_succ]
     refine wpDetL_take (j := 7) (by decide) (by kernel_rfl) (i := 5) (v := ?dv13) (by simp only [List.getElem?_toArray, List.getElem?_cons_zero, List.getElem?_cons_succ]; rfl) (by kernel_rfl) (by kernel_rfl) (by kernel_rfl) (Or.inl ⟨by rfl, ?dy13⟩) ?dr13
     case dy13 => (intro w hSw; have hS0 := hSw; (try dsimp only [PS] at hSw); go_simp; refine Came.value ?_ hS0; with_reducible rfl)
     try simp only [Act.put, List.setIfInBounds_toArray, List.set_cons_zero, List.set_cons_succ]
     refine wpDetL_take (j := 7) (by decide) (by kernel_rfl) (i := 6) (v := ?dv14) (by simp only [List.getElem?_toArray, List.getElem?_cons_zero, List.getElem?_cons_succ]; rfl) (by kernel_rfl) (by kernel_rfl) (by kernel_rfl) (Or.inl ⟨by rfl, ?dy14⟩) ?dr14
     case dy14 => (intro w hSw; have hS0 := hSw; (try dsimp only [PS] at hSw); go_simp; refine Came.value ?_ hS0; with_reducible rfl)
     try simp only [Act.put, List.setIfInBounds_toArray, List.set_cons_zero, List.set_cons_succ]
     refine wpDetL_last (oj := _) (by kernel_rfl) (by kernel_rfl) (by simp only [List.getElem?_toArray, List.getElem?_cons_zero, List.getElem?_cons_succ]; rfl) ?_
     intro w3 hS K hK
     obtain ⟨hF, ⟨c0, c1, c2⟩, ⟨k0, k1⟩, hR, hZ⟩ := hS
     have zb := fun i => frozen_of_row w3 _ i _ _ hR
     have zb0 := zb 0
     have zb1 := zb 1
     have zb2 := zb 2
     have hR2 := Lib.hid (aput2 hR (.int .u64 (((d ||| o : Nat)) : Int)))
     have FX := Fr.setCell w3 w.heap.size 2 (.int .u64 (((d ||| o : Nat)) : Int)) (S := [w.heap.size]) (by simp)
     have FS := Lib.hid (hF.new FX (by simp))
     have hZ2 := Lib.hid (FX.heap hZ (by simp))
     have m0 := Lib.hid (FX.cell k0 (by simp))
     have m1 := Lib.hid (FX.cell k1 (by simp))
     clear FX
     go_simp
     refine hK.out _ _ ?_
     clear hK zb hF hZ hR K zb0 zb1 zb2 c0 c1 c2 k0 k1
     generalize World.setCell w3 _ _ = w4 at *
     have k0 := m0.out
     have k1 := m1.out
     obtain ⟨c0, c1, c2⟩ := arow hR2.out
     obtain ⟨x0, x1, x2⟩ := arow hZ2.out
     have z := fun i => frozen_of_row w4 _ i _ _ hZ2.out
     have z0 := z 0
     have z1 := z 1
     have z2 := z 2
     have AF := Lib.hid (FS.out.new (aset_fr w4 (w.heap.size + 2) (.int .u64 (p : Int)) (.int .u64 (u : Int)) (.int .u64 (((d ||| o : Nat)) : Int))) (by simp))
     obtain ⟨y0, y1, y2⟩ := arow (aset hZ2.out (.int .u64 (p : Int)) (.int .u64 (u : Int)) (.int .u64 (((d ||| o : Nat)) : Int)))
     clear z
     go_wp2
     exact bodyPost_ret (v := .agg #[.int .u64 (p : Int), .int .u64 (u : Int), .int .u64 (((d ||| o : Nat)) : Int)]) (by simp [results, Tryz.results279, go_sem, y0, y1, y2]) rfl ⟨rfl, AF.out⟩
   · obtain ⟨rfl, rfl, rfl⟩ : p = rp ∧ u = ru ∧ d = rd := by
      rw [Sp.put, if_neg h1, if_neg h2] at hr
      simp only [Sp.mk.injEq] at hr
      exact ⟨hr.1.symm, hr.2.1.symm, hr.2.2.symm⟩
     have e1 : (e == 1) = false := by simp [h1]
     have e2 : (e == -1) = false := by simp [h2]
     clear hr h ho h1 h2 HS
     dsimp only [Sp.v, Sp.box] at *
     go_enter Tryz.func279, Tryz.ntmps279
     obtain ⟨_, _, ⟨k0, k1⟩, _⟩ := HS0.out
     have F4 := Lib.hid (((Fr.alloc w (.cells #[.int .u64 p, .int .u64 u, .int .u64 d] 214) []).trans (Fr.alloc _ (.cells #[.int .i64 f, .int .i64 e] 44) [])).trans (Fr.alloc _ (.cells #[.int .u64 p, .int .u64 u, .int .u64 d] 214) []))
     go_wp2
     exact bodyPost_ret (v := .agg #[.int .u64 p, .int .u64 u, .int .u64 d]) (by simp [results, Tryz.results279, go_sem]) rfl ⟨rfl, F4.out⟩
end Go.Proofs.YtiflmkicnkbeaaaGreatDoor
