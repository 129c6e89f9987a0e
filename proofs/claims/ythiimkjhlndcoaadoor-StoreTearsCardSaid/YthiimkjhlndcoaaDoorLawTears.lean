/- The walk of the law of tears: the power gone at any byte of a save, again and again, what is opened then is what was ahead, or what was being saved. -/
import Derived.Test.YthiimkjhlndcoaaDoorSFirst
import Derived.Deep.RegionWith
import Derived.Deep.RegionHeld3
import Derived.Deep.DeepCutAuto
import Derived.Deep.CutBlock
namespace Go.Proofs.YthiimkjhlndcoaaDoor
open Go.RowKit

/-- What is there behind k saves. -/
def TearI (k : Nat) (R : SR) (s : CS) : Prop :=
  (s.d = false ∧ s.a = 0 ∧ s.l.length = 26 ∧ s.n ≤ 14 * (k : Int)) ∧ R = openOf s.l ∧ (0 ≤ R.c ∧ R.c ≤ 2 * (k : Int)) ∧ (0 ≤ R.n ∧ R.n ≤ 2 * (k : Int))
theorem tear_zero : TearI 0 SR.none (CS.new 26) := ⟨⟨rfl, rfl, by simp [CS.new], by simp [CS.new]⟩, (open_new 26).symm, by simp [SR.none], by simp [SR.none]⟩
/-- A save that the power may leave. -/
def TearO (k : Nat) (R : SR) (c n : Int) (s2 : CS) (code : Nat) : Prop :=
  ((code = 0 ∧ s2.d = false ∧ (openOf s2.l).c = c ∧ (openOf s2.l).n = n) ∨ (code = 5 ∧ s2.d = true ∧ openOf s2.l = R)) ∧ TearI (k + 1) (openOf s2.l) { s2 with a := 0, d := false }
theorem tear_step (k a : Nat) (R : SR) (s : CS) (h : TearI k R s) (hk : k ≤ 100) (c n : Int) (hc : R.c ≤ c ∧ c ≤ R.c + 2) (hn : R.n ≤ n ∧ n ≤ R.n + 2) (hne : ¬ (c = R.c ∧ n = R.n)) :
    ∃ s2 R2 code, R.save { s with a := (a : Int) } c n = (s2, R2, code) ∧ TearO k R c n s2 code := by
  obtain ⟨⟨hd, ha, hl, hnn⟩, ho, hc', hn'⟩ := h
  have hcode : R.code c n = 0 := by unfold SR.code; rw [if_neg (by omega), if_neg (by omega)]
  have hk2 : R.spare < 2 := by unfold SR.spare; split <;> omega
  have hin : ∀ o ∈ plan R.spare c n, o.1 < s.l.length := fun o h => by have := plan_in R.spare c n hk2 o h; omega
  by_cases hcut : a = 0 ∨ 14 < a
  · have hrun := CS.run_fine (plan R.spare c n) { s with a := (a : Int) } hd hin (by rw [plan_len]; simp only; omega)
    obtain ⟨L, hL⟩ : ∃ L, L = setAll s.l (plan R.spare c n) := ⟨_, rfl⟩
    have hop : openOf L = ⟨c, n, (R.spare : Int)⟩ := by
      have := open_full s.l c n (by omega) (by rw [← ho]; exact hcode)
      rw [← ho, ← hL] at this; exact this
    have hlen : L.length = 26 := by rw [hL, setAll_len]; exact hl
    simp only [plan_len] at hrun
    rw [← hL] at hrun
    refine ⟨_, _, _, R.save_yes _ _ c n hcode hrun, .inl ⟨rfl, hd, by simp only [hop], by simp only [hop]⟩, ⟨rfl, rfl, hlen, by simp only; omega⟩, rfl, ?_, ?_⟩
    · simp only [hop]; omega
    · simp only [hop]; omega
  · obtain ⟨b, hb⟩ : ∃ b, a = b + 1 := ⟨a - 1, by omega⟩
    have hrun := CS.run_cut (plan R.spare c n) { s with a := (a : Int) } b hd hin (by simp only; omega) (by rw [plan_len]; omega)
    obtain ⟨L, hL⟩ : ∃ L, L = setAll s.l ((plan R.spare c n).take b) := ⟨_, rfl⟩
    have hop : openOf L = R := by
      have := open_part s.l c n b (by omega) (by omega)
      rw [← ho, ← hL] at this; exact this
    have hlen : L.length = 26 := by rw [hL, setAll_len]; exact hl
    rw [← hL] at hrun
    refine ⟨_, _, _, R.save_cut _ _ c n 4 hcode hrun, .inr ⟨rfl, rfl, hop⟩, ⟨rfl, rfl, hlen, by simp only; omega⟩, rfl, ?_, ?_⟩
    · simp only [hop]; omega
    · simp only [hop]; omega

theorem tear_mono {k : Nat} {R : SR} {s : CS} (h : TearI k R s) : TearI (k + 1) R s := by
  obtain ⟨⟨hd, ha, hl, hnn⟩, ho, hc', hn'⟩ := h
  exact ⟨⟨hd, ha, hl, by omega⟩, ho, by omega, by omega⟩
theorem arm_back (s : CS) (a : Int) (h : s.a = 0) : ({ ({ s with a := a } : CS) with a := 0 } : CS) = s := by
  obtain ⟨l, b, d, n⟩ := s; simp only at h; subst h; rfl
theorem tdiv_range (x : Int) (h0 : -9223372036854775808 ≤ x) (h1 : x ≤ 9223372036854775807) : -9223372036854775808 ≤ x.tdiv 3 ∧ x.tdiv 3 ≤ 9223372036854775807 := by
  by_cases h : 0 ≤ x
  · rw [Int.tdiv_eq_ediv_of_nonneg h]; omega
  · have e : x.tdiv 3 = -((-x).tdiv 3) := by rw [Int.neg_tdiv, Int.neg_neg]
    rw [e, Int.tdiv_eq_ediv_of_nonneg (by omega)]; omega
theorem number3 (y : Int) (b : Nat) (C : Int) (hC : C = (b : Int)) (hb : 0 < b) (hb1 : b ≤ 1000) (h0 : -9223372036854775808 ≤ y) (h1 : y ≤ 9223372036854775807) : ∃ q : Nat, q < b ∧ ∀ w : World, Calls Tryd.prog 12 #[.int .i64 y, .int .i64 C] w fun e w' => e = .returned (.int .i64 (q : Int)) ∧ w = w' := by
  subst hC
  obtain ⟨k, hk⟩ := Int.eq_ofNat_of_zero_le (Int.emod_nonneg y (show (b : Int) ≠ 0 by omega))
  refine ⟨k, ?_, fun w => ?_⟩
  · have := Int.emod_lt_of_pos y (show (0 : Int) < (b : Int) by omega); omega
  · have := numberTo_any y b w (by omega) (by omega) h0 h1
    rw [hk] at this; exact this

set_option maxHeartbeats 8000000 in
set_option maxRecDepth 100000 in
theorem tears_walk (v u : Value) (l ar : List Int) (hl : ∀ x ∈ l, (Lit.int .i64 x).wf = true) (har : ∀ x ∈ ar, (Lit.int .i64 x).wf = true) (w : World) (A : Nat → Addr) (hE : E13 w A w.heap.size) (hv : Holds .i64 w v l) (hu : Holds .i64 w u ar) :
    Calls Tryd.prog 5 #[v, u] w fun e w' => e = .returned (.bool true) ∧ w.grownBy w' none := by
  have HE := Lib.hid hE
  obtain ⟨a, cap, rfl, hcap, hcm, hcell⟩ := hv
  obtain ⟨a2, cap2, rfl, hcap2, hcm2, hcell2⟩ := hu
  unfold maxLen at hcm hcm2
  have HCELL := Lib.hid hcell
  have HCELL2 := Lib.hid hcell2
  have HL := Lib.hid hl
  have HAR := Lib.hid har
  clear hE hcell hcell2 hl har
  by_cases h30 : 30 < l.length ∨ 30 < ar.length
  · have hcase : 30 < l.length ∨ (¬ 30 < l.length ∧ 30 < ar.length) := by omega
    clear h30
    rcases hcase with h | ⟨h, h'⟩
    all_goals
      go_enter Tryd.func5, Tryd.ntmps5
      go_wp2_with fail
      refine (first3_any _ A (HE.out.evs [2, 4, 5, 7])).mono ?_
      rintro e w1 ⟨rfl, hg1⟩
      go_wp2
      go_ret
      exact ⟨rfl, hg1⟩
  · have h1 : ¬ 30 < l.length := by omega
    have h2 : ¬ 30 < ar.length := by omega
    clear h30
    go_enter Tryd.func5, Tryd.ntmps5
    go_wp2_with fail
    refine (first3_any _ A (HE.out.evs [2, 4, 5, 7])).mono ?_
    rintro e w1 ⟨rfl, hg1⟩
    have HF1 := Lib.hid (Fr.of_grown hg1 [])
    have hop := opened_any w1 A w.heap.size ((HE.out.evs [4, 5]).fr HF1.out (by simp)) HF1.out.size
    have HO := Lib.hid hop
    clear hg1 hop
    go_wp2_with fail
    refine HO.out.mono ?_
    rintro e w2 ⟨u, rfl, sp0, p, g, rfl, hs, hsp, hp, hg, hf2⟩
    have hl1 := hs.sr.lt
    have hl2 := hs.cl.lt
    have HS := Lib.hid hs
    have HF2 := Lib.hid (HF1.out.trans hf2)
    have HPG := Lib.hid (show w.heap.size ≤ sp0 ∧ w.heap.size ≤ p ∧ w.heap.size ≤ g from ⟨Nat.le_trans HF1.out.size hsp, Nat.le_trans HF1.out.size hp, Nat.le_trans HF1.out.size hg⟩)
    have HLT := Lib.hid (show sp0 < w2.heap.size ∧ p < w2.heap.size ∧ g < w2.heap.size from ⟨hl1, hl2.1, hl2.2⟩)
    clear hs hf2 hl1 hl2 hsp hp hg
    go_wp2
    generalize hW3 : World.alloc w2 _ = W3
    have HF3 := Lib.hid (show Fr w2 W3 [] by rw [← hW3]; exact Fr.alloc _ _ _)
    have HNOW := Lib.hid (show W3.heap[w2.heap.size]? = some (.cells #[.int .i64 0, .int .i64 0] 35 (0, 0)) by rw [← hW3]; exact heap_alloc_new w2 _)
    have hnb : ∃ nb, nb = w2.heap.size := ⟨_, rfl⟩
    have HNB := Lib.hid (show w.heap.size ≤ w2.heap.size from HF2.out.size)
    clear hW3 hnb
    go_loopw [6, 9] (fun y x wr => ∃ (k : Nat) (sp : Nat) (R : SR) (s : CS), k ≤ l.length ∧ x = .int .i64 k ∧ y = .pointer (some ⟨sp, 0, none⟩) ∧ TearI k R s ∧ St wr sp p g R s ∧ (w.heap.size ≤ sp ∧ sp ≠ w2.heap.size) ∧ wr.heap[w2.heap.size]? = some (.cells #[.int .i64 R.c, .int .i64 R.n] 35 (0, 0)) ∧ Fr w wr []) (fun _ x _ => l.length - (intOf x).toNat)
    case atStart => exact ⟨0, sp0, _, _, Nat.zero_le _, rfl, rfl, tear_zero, HS.out.fr HF3.out (by simp), ⟨HPG.out.1, by have := HLT.out; omega⟩, HNOW.out, HF2.out.trans HF3.out⟩
    case round =>
      obtain ⟨k, sp, R, s, hk, rfl, rfl, hT, hs, hspp, hnow, hf⟩ := hrel
      have HT := Lib.hid hT
      have HSS := Lib.hid hs
      have HF := Lib.hid hf
      have HSP := Lib.hid hspp
      have HNW := Lib.hid hnow
      clear hT hs hf hspp hnow HS HNOW
      by_cases hlt : k < l.length
      · obtain ⟨bb, off, rfl, hcl⟩ := HCELL.out (by omega)
        have hcell := HF.out.cell (hcl k hlt) (by simp)
        obtain ⟨hx0, hx1⟩ := bounds_i64 (HL.out (l.getD k 0) (by simp [hlt]))
        obtain ⟨x, hxx⟩ : ∃ x, x = l.getD k 0 := ⟨_, rfl⟩
        rw [← hxx] at hcell hx0 hx1
        clear hxx hcl
        obtain ⟨q1, hq1, hn1⟩ := number3 x 3 3 rfl (by omega) (by omega) hx0 hx1
        obtain ⟨hy0, hy1⟩ := tdiv_range x hx0 hx1
        obtain ⟨q2, hq2, hn2⟩ := number3 (x.tdiv 3) 3 3 rfl (by omega) (by omega) hy0 hy1
        have HN1 := Lib.hid hn1
        have HN2 := Lib.hid hn2
        have d0 := cell_of_row _ _ 0 _ _ _ HNW.out
        have d1 := cell_of_row _ _ 1 _ _ _ HNW.out
        simp at d0 d1
        obtain ⟨⟨hRc0, hRc1⟩, hRn0, hRn1⟩ := HT.out.2.2
        obtain ⟨Rc, hRc⟩ : ∃ x, x = R.c := ⟨_, rfl⟩
        obtain ⟨Rn, hRn⟩ : ∃ x, x = R.n := ⟨_, rfl⟩
        rw [← hRc] at d0 hRc0 hRc1
        rw [← hRn] at d1 hRn0 hRn1
        have HRC := Lib.hid hRc
        have HRN := Lib.hid hRn
        clear hn1 hn2 hRc hRn
        go_upto_region 13 with fail
        have hne0 := World.block_lt_of_cell? wr _ d0
        have hne1 := World.block_lt_of_cell? wr _ hcell
        simp at hne0 hne1
        go_cut [10] (fun s10 wx => s10 = .pointer (some ⟨wr.heap.size, 0, none⟩) ∧ wx.heap[wr.heap.size]? = some (.cells #[.int .i64 (Rc + (q1 : Int)), .int .i64 (Rn + (q2 : Int))] 35 (0, 0)) ∧ Fr wr wx [])
        case first =>
          have hwa : IntKind.i64.wrap (Rc + (q1 : Int)) = Rc + (q1 : Int) := IntWalk.i64_in _ (by omega)
          have hwb : IntKind.i64.wrap (Rn + (q2 : Int)) = Rn + (q2 : Int) := IntWalk.i64_in _ (by omega)
          have hwc : IntKind.i64.wrap (x.tdiv 3) = x.tdiv 3 := IntWalk.i64_in _ (by omega)
          go_region_held3 (fun w' => w'.cell? ⟨w2.heap.size, 0, none⟩ = some (.int .i64 Rc) ∧ w'.cell? ⟨w2.heap.size, 1, none⟩ = some (.int .i64 Rn) ∧ w'.cell? ⟨bb, off + k, none⟩ = some (.int .i64 x))
            (first | exact ⟨d0, d1, hcell⟩ | go_keep)
            (first
              | (go_at_call 12; ((with_reducible refine (HN1.out _).mono ?_); rintro e w' ⟨rfl, rfl⟩))
              | (go_at_call 12; ((with_reducible refine (HN2.out _).mono ?_); rintro e w' ⟨rfl, rfl⟩)))
          all_goals (go_wp2_with fail; go_meet; exact ⟨rfl, heap_alloc_new wr _, (Fr.alloc _ _ _).trans (Fr.drew _ _)⟩)
        case rest =>
          obtain ⟨rfl, hnx, hfc⟩ := hcut
          have hlt1 := HSS.out.sr.lt
          have hlt2 := HSS.out.cl.lt
          have HB := Lib.hid (show sp < wr.heap.size ∧ p < wr.heap.size ∧ g < wr.heap.size ∧ w2.heap.size < wr.heap.size from ⟨hlt1, hlt2.1, hlt2.2, hne0⟩)
          obtain ⟨c, hc⟩ : ∃ c, c = Rc + (q1 : Int) := ⟨_, rfl⟩
          obtain ⟨n, hn⟩ : ∃ n, n = Rn + (q2 : Int) := ⟨_, rfl⟩
          rw [← hc, ← hn] at hnx
          have HCN := Lib.hid (show (R.c ≤ c ∧ c ≤ R.c + 2) ∧ (R.n ≤ n ∧ n ≤ R.n + 2) by have := HRC.out; have := HRN.out; omega)
          have HNX := Lib.hid hnx
          have HNWC := Lib.hid (hfc.heap HNW.out (by simp))
          have HSC := Lib.hid (HSS.out.fr hfc (by simp))
          have HFC := Lib.hid (HF.out.trans hfc)
          clear hc hn hnx hfc d0 d1 hne0 hne1 hcell hlt1 hlt2 hRc0 hRc1 hRn0 hRn1
          have hways : (k < ar.length) ∨ (¬ k < ar.length) := by omega
          rcases hways with hk2 | hk2
          · obtain ⟨bb2, off2, rfl, hcl2⟩ := HCELL2.out (by omega)
            have hcell2 := HFC.out.cell (hcl2 k hk2) (by simp)
            obtain ⟨hz0, hz1⟩ := bounds_i64 (HAR.out (ar.getD k 0) (by simp [hk2]))
            obtain ⟨z, hzz⟩ : ∃ z, z = ar.getD k 0 := ⟨_, rfl⟩
            rw [← hzz] at hcell2 hz0 hz1
            clear hzz hcl2
            obtain ⟨a3, ha3, hn3⟩ := number3 z 18 18 rfl (by omega) (by omega) hz0 hz1
            have HN3 := Lib.hid hn3
            clear hn3
            go_wp2_with fail
            refine (HN3.out _).mono ?_
            rintro e w5 ⟨rfl, rfl⟩
            go_wp2_with fail
            refine (cellArm_any p g _ a3 _ HSC.out.cl (by omega) a3 (by omega)).mono ?_
            rintro e w5 ⟨rfl, h5, hf5⟩
            have hpp : sp ∉ [p] ∧ w2.heap.size ∉ [p] ∧ wr.heap.size ∉ [p] := by have := (HSC.out.sr.ne HSC.out.cl).1; have := HLT.out; have := HB.out; simp; omega
            have HST5 := Lib.hid (show St w5 sp p g R { s with a := (a3 : Int) } from ⟨HSC.out.sr.fr hf5 hpp.1, h5, HSC.out.r, HSC.out.b⟩)
            have HN5 := Lib.hid (hf5.heap HNWC.out hpp.2.1)
            have HX5 := Lib.hid (hf5.heap HNX.out hpp.2.2)
            have HF5 := Lib.hid (HFC.out.new hf5 (by have := HPG.out; simp; omega))
            clear h5 hf5 hpp hcell2
            have hnb5 : sp ∉ [sp, p, g] → False := fun h => h (by simp)
            have HOUT := Lib.hid (show w2.heap.size ∉ [sp, p, g] ∧ wr.heap.size ∉ [sp, p, g] by have := HLT.out; have := HB.out; have := HSP.out; simp; omega)
            have hsv := st_save sp p g R { s with a := (a3 : Int) } c n w5 A w.heap.size HST5.out (by have := HT.out.1.2.2.2; simp only; omega) ((HE.out.evs [2, 4, 5, 7]).fr HF5.out (by simp)) HPG.out.2.1 HPG.out.2.2
            have x0 := cell_of_row _ _ 0 _ _ _ HX5.out
            have x1 := cell_of_row _ _ 1 _ _ _ HX5.out
            simp at x0 x1
            clear hnb5
            by_cases hsame : c = R.c ∧ n = R.n
            · have HT1 := Lib.hid (tear_mono HT.out)
              rw [R.save_no _ c n 7 (by unfold SR.code; rw [if_neg (by have := HCN.out; have := HT.out.2.2; omega), if_pos (by omega)]), show ev A 8 = .iface 95 (.pointer (some (A 8))) from rfl] at hsv
              have HSV := Lib.hid hsv
              have HSM := Lib.hid (fun W => same3_any c n R.c R.n true W (by rw [eq_comm]; exact decide_eq_true hsame))
              clear hsv hsame
              go_wp2_with fail
              with_reducible refine HSV.out.mono ?_
              rintro e w6 ⟨rfl, hs6, hf6⟩
              clear x0 x1
              have HS6 := Lib.hid hs6
              have HX6 := Lib.hid (hf6.heap HX5.out HOUT.out.2)
              have HN6 := Lib.hid (hf6.heap HN5.out HOUT.out.1)
              have HF6 := Lib.hid (HF5.out.new hf6 (by have := HPG.out; have := HSP.out; simp; omega))
              have x0 := cell_of_row _ _ 0 _ _ _ HX6.out
              have x1 := cell_of_row _ _ 1 _ _ _ HX6.out
              have d0 := cell_of_row _ _ 0 _ _ _ HN6.out
              have d1 := cell_of_row _ _ 1 _ _ _ HN6.out
              simp at x0 x1 d0 d1
              clear hs6 hf6
              go_wp2_with fail
              with_reducible refine (HSM.out _).mono ?_
              rintro e w7 ⟨rfl, hf7⟩
              have HF7 := Lib.hid hf7
              clear hf7 x0 x1 d0 d1
              go_wp2_with fail
              refine (cellArm_any p g _ 0 _ (HS6.out.cl.fr HF7.out (by simp) (by simp)) (by omega) 0 (by omega)).mono ?_
              rintro e w8 ⟨rfl, h8, hf8⟩
              rw [arm_back s _ HT.out.1.2.1] at h8
              have H8 := Lib.hid h8
              have hnp := (HS6.out.sr.ne HS6.out.cl).1
              have HO1 := Lib.hid (show w2.heap.size ∉ [p] by have := HOUT.out.1; simp at this ⊢; omega)
              have HS8 := Lib.hid (((HS6.out.sr.fr HF7.out (by simp)).fr hf8 (by simpa using hnp)))
              have HN8 := Lib.hid ((HF7.out.heap HN6.out (by simp)) |> fun h => hf8.heap h HO1.out)
              have HF8 := Lib.hid ((HF6.out.trans HF7.out).new hf8 (by have := HPG.out; simp; omega))
              clear h8 hf8 hnp
              go_wp2_with fail
              refine (is_any A w.heap.size 8 _ _ (HE.out.fr HF8.out (by simp)) (by decide) rfl).mono ?_
              rintro e w9 ⟨rfl, hg9⟩
              have HF9 := Lib.hid (Fr.of_grown hg9 [])
              clear hg9
              go_wp2
              go_roundw
              case rel => exact ⟨k + 1, sp, R, s, by omega, by go_num, rfl, HT1.out, ⟨HS8.out.fr HF9.out (by simp), H8.out.fr HF9.out (by simp) (by simp), HSS.out.r, HSS.out.b⟩, HSP.out, HF9.out.heap HN8.out (by simp), HF8.out.trans HF9.out⟩
              case measure => simp [intOf]; omega
            · obtain ⟨s2, R2, code, he, hO, hTI⟩ := tear_step k a3 R s HT.out (by omega) c n HCN.out.1 HCN.out.2 hsame
              rw [he] at hsv
              have HTI := Lib.hid hTI
              clear hTI he
              rcases hO with ⟨rfl, hd2, hoc, hon⟩ | ⟨rfl, hd2, hoR⟩
              · have HD2 := Lib.hid hd2
                have HOC := Lib.hid (show (openOf s2.l).c = c ∧ (openOf s2.l).n = n from ⟨hoc, hon⟩)
                rw [show ev A 0 = .nilIface from rfl] at hsv
                have HSV := Lib.hid hsv
                clear hd2 hoc hon
                have HSM := Lib.hid (fun W => same3_any c n R.c R.n false W (by rw [eq_comm]; exact decide_eq_false hsame))
                clear hsv
                go_wp2_with fail
                with_reducible refine HSV.out.mono ?_
                rintro e w6 ⟨rfl, hs6, hf6⟩
                clear x0 x1
                have HS6 := Lib.hid hs6
                have HX6 := Lib.hid (hf6.heap HX5.out HOUT.out.2)
                have HN6 := Lib.hid (hf6.heap HN5.out HOUT.out.1)
                have HF6 := Lib.hid (HF5.out.new hf6 (by have := HPG.out; have := HSP.out; simp; omega))
                have x0 := cell_of_row _ _ 0 _ _ _ HX6.out
                have x1 := cell_of_row _ _ 1 _ _ _ HX6.out
                have d0 := cell_of_row _ _ 0 _ _ _ HN6.out
                have d1 := cell_of_row _ _ 1 _ _ _ HN6.out
                simp at x0 x1 d0 d1
                clear hs6 hf6
                go_wp2_with fail
                with_reducible refine (HSM.out _).mono ?_
                rintro e w7 ⟨rfl, hf7⟩
                have HF7 := Lib.hid hf7
                clear hf7 x0 x1 d0 d1
                have hdn := fun W (hW : Fr w7 W []) => cellDown_any p g s2 W ((HS6.out.cl.fr HF7.out (by simp) (by simp)).fr hW (by simp) (by simp))
                rw [HD2.out] at hdn
                have HDN := Lib.hid hdn
                clear hdn
                go_wp2
                go_quiet ((go_at_call 25; exact quiet_same (HDN.out _ (Fr.drewN _ _ _))))
                go_wp2_with fail
                generalize hWQ : World.drewN w7 nq = WQ
                have HFQ := Lib.hid (show Fr w6 WQ [] by rw [← hWQ]; exact HF7.out.trans (Fr.drewN w7 nq []))
                clear hWQ
                refine (cellBack_any p g s2 WQ (HS6.out.cl.fr HFQ.out (by simp) (by simp))).mono ?_
                rintro e w8 ⟨rfl, h8, hf8⟩
                have hnp := (HS6.out.sr.ne HS6.out.cl).1
                have HO1 := Lib.hid (show w2.heap.size ∉ [p] ∧ wr.heap.size ∉ [p] by have := HOUT.out; simp at this ⊢; omega)
                have H8 := Lib.hid h8
                have HN8 := Lib.hid ((HFQ.out.heap HN6.out (by simp)) |> fun h => hf8.heap h HO1.out.1)
                have HX8 := Lib.hid ((HFQ.out.heap HX6.out (by simp)) |> fun h => hf8.heap h HO1.out.2)
                have HF8 := Lib.hid ((HF6.out.trans HFQ.out).new hf8 (by have := HPG.out; simp; omega))
                have hop := open_any p g _ w8 A w.heap.size h8 rfl (by have := HTI.out.1.2.2.1; simp only at this ⊢; omega) HS6.out.b ((HE.out.evs [4, 5]).fr HF8.out (by simp)) HF8.out.size
                have HOP := Lib.hid hop
                clear h8 hf8 hnp hop
                go_wp2_with fail
                with_reducible refine HOP.out.mono ?_
                rintro e w9 ⟨u, rfl, tp, rfl, ht, htp, hf9⟩
                have HT9 := Lib.hid ht
                have HTP := Lib.hid (show w.heap.size ≤ tp ∧ tp ≠ w2.heap.size by have := HF8.out.size; have h1 := (Array.getElem?_eq_some_iff.1 HN8.out).1; omega)
                have HN9 := Lib.hid (hf9.heap HN8.out (by simp))
                have HX9 := Lib.hid (hf9.heap HX8.out (by simp))
                have HC9 := Lib.hid (H8.out.fr hf9 (by simp) (by simp))
                have HF9 := Lib.hid (HF8.out.trans hf9)
                have hrec := record_any tp p _ w9 ht
                rw [HOC.out.1, HOC.out.2] at hrec
                have HREC := Lib.hid hrec
                clear ht htp hf9 hrec
                go_wp2_with fail
                with_reducible refine HREC.out.mono ?_
                rintro e wa ⟨rfl, hfa⟩
                have HNA := Lib.hid (hfa.heap HN9.out (by simp))
                have HXA := Lib.hid (hfa.heap HX9.out (by simp))
                have HCA := Lib.hid (HC9.out.fr hfa (by simp) (by simp))
                have HTA := Lib.hid (HT9.out.fr hfa (by simp))
                have HFA := Lib.hid (HF9.out.trans hfa)
                clear hfa
                go_upto_region 28 with fail
                generalize hWB : World.alloc wa _ = WB
                have hfb : Fr wa WB [] := by rw [← hWB]; exact Fr.alloc _ _ _
                have hgot : WB.heap[wa.heap.size]? = some (.cells #[.int .i64 c, .int .i64 n] 35 (0, 0)) := by rw [← hWB]; exact heap_alloc_new wa _
                have HNB2 := Lib.hid (hfb.heap HNA.out (by simp))
                have HXB := Lib.hid (hfb.heap HXA.out (by simp))
                have HCB := Lib.hid (HCA.out.fr hfb (by simp) (by simp))
                have HTB := Lib.hid (HTA.out.fr hfb (by simp))
                have HFB := Lib.hid (HFA.out.trans hfb)
                have HGOT := Lib.hid hgot
                have g0 := cell_of_row _ _ 0 _ _ _ hgot
                have g1 := cell_of_row _ _ 1 _ _ _ hgot
                have d0 := cell_of_row _ _ 0 _ _ _ HNB2.out
                have d1 := cell_of_row _ _ 1 _ _ _ HNB2.out
                simp at g0 g1 d0 d1
                have HNEQ := Lib.hid (show w2.heap.size ≠ wa.heap.size by have := (Array.getElem?_eq_some_iff.1 HNA.out).1; omega)
                clear hfb hgot hWB
                have HSME := Lib.hid (fun W => same3_any c n c n true W (by simp))
                have x0 := cell_of_row _ _ 0 _ _ _ HXB.out
                have x1 := cell_of_row _ _ 1 _ _ _ HXB.out
                simp at x0 x1
                go_wp2_with fail
                with_reducible refine (HSM.out _).mono ?_
                rintro e wc1 ⟨rfl, hc1⟩
                have ga0 := hc1.cell g0 (by simp)
                have ga1 := hc1.cell g1 (by simp)
                have xa0 := hc1.cell x0 (by simp)
                have xa1 := hc1.cell x1 (by simp)
                clear g0 g1 x0 x1 d0 d1
                go_wp2_with fail
                with_reducible refine (HSME.out _).mono ?_
                rintro e wc2 ⟨rfl, hc2⟩
                have gb0 := hc2.cell ga0 (by simp)
                have gb1 := hc2.cell ga1 (by simp)
                have xb0 := hc2.cell xa0 (by simp)
                have xb1 := hc2.cell xa1 (by simp)
                clear ga0 ga1 xa0 xa1
                go_wp2_with fail
                with_reducible refine (HSME.out _).mono ?_
                rintro e wc3 ⟨rfl, hc3⟩
                have gc0 := hc3.cell gb0 (by simp)
                have gc1 := hc3.cell gb1 (by simp)
                have HFE := Lib.hid ((hc1.trans hc2).trans hc3)
                have HNE := Lib.hid (HFE.out.heap HNB2.out (by simp))
                clear gb0 gb1 xb0 xb1 hc1 hc2 hc3
                have e0 := cell_of_row _ _ 0 _ _ _ HNE.out
                have e1 := cell_of_row _ _ 1 _ _ _ HNE.out
                simp at e0 e1
                have y0 := frozen_of_row _ _ 0 _ _ HNE.out
                have y1 := frozen_of_row _ _ 1 _ _ HNE.out
                go_wp2
                have hrow := heap_setCell_same _ w2.heap.size 1 _ _ (Value.int .i64 n) (heap_setCell_same _ w2.heap.size 0 _ _ (Value.int .i64 c) HNE.out)
                have HROW := Lib.hid hrow
                have hfs : ∀ W v1 v2, Fr W ((W.setCell ⟨w2.heap.size, 0, none⟩ v1).setCell ⟨w2.heap.size, 1, none⟩ v2) [w2.heap.size] := fun W v1 v2 => Fr.trans (Fr.setCell _ _ 0 _ (List.mem_singleton.2 rfl)) (Fr.setCell _ _ 1 _ (List.mem_singleton.2 rfl))
                have HFS := Lib.hid hfs
                clear hrow hfs
                go_roundw
                case rel => exact ⟨k + 1, tp, _, _, by omega, by go_num, rfl, HTI.out, ⟨((HTB.out.fr HFE.out (by simp)).fr (HFS.out _ _ _) (by have := HTP.out; simp; omega)), ((HCB.out.fr HFE.out (by simp) (by simp)).fr (HFS.out _ _ _) (by have := HOUT.out.1; simp at this ⊢; omega) (by have := HOUT.out.1; simp at this ⊢; omega)), openOf_in HS6.out.b, HS6.out.b⟩, HTP.out, by rw [HOC.out.1, HOC.out.2]; exact HROW.out, (HFB.out.trans HFE.out).new (HFS.out _ _ _) (by have := HNB.out; simp; omega)⟩
                case measure => simp [intOf]; omega
              · have HD2 := Lib.hid hd2
                have HOC := Lib.hid (show (openOf s2.l).c = R.c ∧ (openOf s2.l).n = R.n by rw [hoR]; exact ⟨rfl, rfl⟩)
                rw [show ev A 5 = .iface 95 (.pointer (some (A 5))) from rfl] at hsv
                have HSV := Lib.hid hsv
                clear hd2 hoR
                have HSM := Lib.hid (fun W => same3_any c n R.c R.n false W (by rw [eq_comm]; exact decide_eq_false hsame))
                clear hsv
                go_wp2_with fail
                with_reducible refine HSV.out.mono ?_
                rintro e w6 ⟨rfl, hs6, hf6⟩
                clear x0 x1
                have HS6 := Lib.hid hs6
                have HX6 := Lib.hid (hf6.heap HX5.out HOUT.out.2)
                have HN6 := Lib.hid (hf6.heap HN5.out HOUT.out.1)
                have HF6 := Lib.hid (HF5.out.new hf6 (by have := HPG.out; have := HSP.out; simp; omega))
                have x0 := cell_of_row _ _ 0 _ _ _ HX6.out
                have x1 := cell_of_row _ _ 1 _ _ _ HX6.out
                have d0 := cell_of_row _ _ 0 _ _ _ HN6.out
                have d1 := cell_of_row _ _ 1 _ _ _ HN6.out
                simp at x0 x1 d0 d1
                clear hs6 hf6
                go_wp2_with fail
                with_reducible refine (HSM.out _).mono ?_
                rintro e w7 ⟨rfl, hf7⟩
                have HF7 := Lib.hid hf7
                clear hf7 x0 x1 d0 d1
                have hdn := fun W (hW : Fr w7 W []) => cellDown_any p g s2 W ((HS6.out.cl.fr HF7.out (by simp) (by simp)).fr hW (by simp) (by simp))
                rw [HD2.out] at hdn
                have HDN := Lib.hid hdn
                clear hdn
                go_wp2
                go_quiet ((go_at_call 25; exact quiet_same (HDN.out _ (Fr.drewN _ _ _))))
                go_wp2_with fail
                generalize hWQ : World.drewN w7 nq = WQ
                have HFQ := Lib.hid (show Fr w6 WQ [] by rw [← hWQ]; exact HF7.out.trans (Fr.drewN w7 nq []))
                clear hWQ
                refine (cellBack_any p g s2 WQ (HS6.out.cl.fr HFQ.out (by simp) (by simp))).mono ?_
                rintro e w8 ⟨rfl, h8, hf8⟩
                have hnp := (HS6.out.sr.ne HS6.out.cl).1
                have HO1 := Lib.hid (show w2.heap.size ∉ [p] ∧ wr.heap.size ∉ [p] by have := HOUT.out; simp at this ⊢; omega)
                have H8 := Lib.hid h8
                have HN8 := Lib.hid ((HFQ.out.heap HN6.out (by simp)) |> fun h => hf8.heap h HO1.out.1)
                have HX8 := Lib.hid ((HFQ.out.heap HX6.out (by simp)) |> fun h => hf8.heap h HO1.out.2)
                have HF8 := Lib.hid ((HF6.out.trans HFQ.out).new hf8 (by have := HPG.out; simp; omega))
                have hop := open_any p g _ w8 A w.heap.size h8 rfl (by have := HTI.out.1.2.2.1; simp only at this ⊢; omega) HS6.out.b ((HE.out.evs [4, 5]).fr HF8.out (by simp)) HF8.out.size
                have HOP := Lib.hid hop
                clear h8 hf8 hnp hop
                go_wp2_with fail
                with_reducible refine HOP.out.mono ?_
                rintro e w9 ⟨u, rfl, tp, rfl, ht, htp, hf9⟩
                have HT9 := Lib.hid ht
                have HTP := Lib.hid (show w.heap.size ≤ tp ∧ tp ≠ w2.heap.size by have := HF8.out.size; have h1 := (Array.getElem?_eq_some_iff.1 HN8.out).1; omega)
                have HN9 := Lib.hid (hf9.heap HN8.out (by simp))
                have HX9 := Lib.hid (hf9.heap HX8.out (by simp))
                have HC9 := Lib.hid (H8.out.fr hf9 (by simp) (by simp))
                have HF9 := Lib.hid (HF8.out.trans hf9)
                have hrec := record_any tp p _ w9 ht
                rw [HOC.out.1, HOC.out.2] at hrec
                have HREC := Lib.hid hrec
                clear ht htp hf9 hrec
                go_wp2_with fail
                with_reducible refine HREC.out.mono ?_
                rintro e wa ⟨rfl, hfa⟩
                have HNA := Lib.hid (hfa.heap HN9.out (by simp))
                have HXA := Lib.hid (hfa.heap HX9.out (by simp))
                have HCA := Lib.hid (HC9.out.fr hfa (by simp) (by simp))
                have HTA := Lib.hid (HT9.out.fr hfa (by simp))
                have HFA := Lib.hid (HF9.out.trans hfa)
                clear hfa
                go_upto_region 28 with fail
                generalize hWB : World.alloc wa _ = WB
                have hfb : Fr wa WB [] := by rw [← hWB]; exact Fr.alloc _ _ _
                have hgot : WB.heap[wa.heap.size]? = some (.cells #[.int .i64 R.c, .int .i64 R.n] 35 (0, 0)) := by rw [← hWB]; exact heap_alloc_new wa _
                have HNB2 := Lib.hid (hfb.heap HNA.out (by simp))
                have HXB := Lib.hid (hfb.heap HXA.out (by simp))
                have HCB := Lib.hid (HCA.out.fr hfb (by simp) (by simp))
                have HTB := Lib.hid (HTA.out.fr hfb (by simp))
                have HFB := Lib.hid (HFA.out.trans hfb)
                have HGOT := Lib.hid hgot
                have g0 := cell_of_row _ _ 0 _ _ _ hgot
                have g1 := cell_of_row _ _ 1 _ _ _ hgot
                have d0 := cell_of_row _ _ 0 _ _ _ HNB2.out
                have d1 := cell_of_row _ _ 1 _ _ _ HNB2.out
                simp at g0 g1 d0 d1
                have HNEQ := Lib.hid (show w2.heap.size ≠ wa.heap.size by have := (Array.getElem?_eq_some_iff.1 HNA.out).1; omega)
                clear hfb hgot hWB
                have HSME := Lib.hid (fun W => same3_any R.c R.n R.c R.n true W (by simp))
                go_wp2_with fail
                with_reducible refine (HSME.out _).mono ?_
                rintro e wc1 ⟨rfl, hc1⟩
                have ga0 := hc1.cell g0 (by simp)
                have ga1 := hc1.cell g1 (by simp)
                have HFE := Lib.hid hc1
                have HNE := Lib.hid (HFE.out.heap HNB2.out (by simp))
                clear g0 g1 d0 d1 hc1
                have e0 := cell_of_row _ _ 0 _ _ _ HNE.out
                have e1 := cell_of_row _ _ 1 _ _ _ HNE.out
                simp at e0 e1
                have y0 := frozen_of_row _ _ 0 _ _ HNE.out
                have y1 := frozen_of_row _ _ 1 _ _ HNE.out
                go_wp2
                have hrow := heap_setCell_same _ w2.heap.size 1 _ _ (Value.int .i64 R.n) (heap_setCell_same _ w2.heap.size 0 _ _ (Value.int .i64 R.c) HNE.out)
                have HROW := Lib.hid hrow
                have hfs : ∀ W v1 v2, Fr W ((W.setCell ⟨w2.heap.size, 0, none⟩ v1).setCell ⟨w2.heap.size, 1, none⟩ v2) [w2.heap.size] := fun W v1 v2 => Fr.trans (Fr.setCell _ _ 0 _ (List.mem_singleton.2 rfl)) (Fr.setCell _ _ 1 _ (List.mem_singleton.2 rfl))
                have HFS := Lib.hid hfs
                clear hrow hfs
                go_roundw
                case rel => exact ⟨k + 1, tp, _, _, by omega, by go_num, rfl, HTI.out, ⟨((HTB.out.fr HFE.out (by simp)).fr (HFS.out _ _ _) (by have := HTP.out; simp; omega)), ((HCB.out.fr HFE.out (by simp) (by simp)).fr (HFS.out _ _ _) (by have := HOUT.out.1; simp at this ⊢; omega) (by have := HOUT.out.1; simp at this ⊢; omega)), openOf_in HS6.out.b, HS6.out.b⟩, HTP.out, by rw [HOC.out.1, HOC.out.2]; exact HROW.out, (HFB.out.trans HFE.out).new (HFS.out _ _ _) (by have := HNB.out; simp; omega)⟩
                case measure => simp [intOf]; omega
          · obtain ⟨a3, ha3⟩ : ∃ a3 : Nat, a3 = 0 := ⟨_, rfl⟩
            have HST5 := Lib.hid (show St wc sp p g R { s with a := (a3 : Int) } by
              have e : ({ s with a := (a3 : Int) } : CS) = s := by
                have h0 := HT.out.1.2.1
                rw [ha3]
                obtain ⟨l, b, d, n⟩ := s
                simp only at h0
                subst h0; rfl
              rw [e]; exact HSC.out)
            have HN5 := Lib.hid HNWC.out
            have HX5 := Lib.hid HNX.out
            have HF5 := Lib.hid HFC.out
            clear ha3
            have hnb5 : sp ∉ [sp, p, g] → False := fun h => h (by simp)
            have HOUT := Lib.hid (show w2.heap.size ∉ [sp, p, g] ∧ wr.heap.size ∉ [sp, p, g] by have := HLT.out; have := HB.out; have := HSP.out; simp; omega)
            have hsv := st_save sp p g R { s with a := (a3 : Int) } c n wc A w.heap.size HST5.out (by have := HT.out.1.2.2.2; simp only; omega) ((HE.out.evs [2, 4, 5, 7]).fr HF5.out (by simp)) HPG.out.2.1 HPG.out.2.2
            have x0 := cell_of_row _ _ 0 _ _ _ HX5.out
            have x1 := cell_of_row _ _ 1 _ _ _ HX5.out
            simp at x0 x1
            clear hnb5
            by_cases hsame : c = R.c ∧ n = R.n
            · have HT1 := Lib.hid (tear_mono HT.out)
              rw [R.save_no _ c n 7 (by unfold SR.code; rw [if_neg (by have := HCN.out; have := HT.out.2.2; omega), if_pos (by omega)]), show ev A 8 = .iface 95 (.pointer (some (A 8))) from rfl] at hsv
              have HSV := Lib.hid hsv
              have HSM := Lib.hid (fun W => same3_any c n R.c R.n true W (by rw [eq_comm]; exact decide_eq_true hsame))
              clear hsv hsame
              go_wp2_with fail
              with_reducible refine HSV.out.mono ?_
              rintro e w6 ⟨rfl, hs6, hf6⟩
              clear x0 x1
              have HS6 := Lib.hid hs6
              have HX6 := Lib.hid (hf6.heap HX5.out HOUT.out.2)
              have HN6 := Lib.hid (hf6.heap HN5.out HOUT.out.1)
              have HF6 := Lib.hid (HF5.out.new hf6 (by have := HPG.out; have := HSP.out; simp; omega))
              have x0 := cell_of_row _ _ 0 _ _ _ HX6.out
              have x1 := cell_of_row _ _ 1 _ _ _ HX6.out
              have d0 := cell_of_row _ _ 0 _ _ _ HN6.out
              have d1 := cell_of_row _ _ 1 _ _ _ HN6.out
              simp at x0 x1 d0 d1
              clear hs6 hf6
              go_wp2_with fail
              with_reducible refine (HSM.out _).mono ?_
              rintro e w7 ⟨rfl, hf7⟩
              have HF7 := Lib.hid hf7
              clear hf7 x0 x1 d0 d1
              go_wp2_with fail
              refine (cellArm_any p g _ 0 _ (HS6.out.cl.fr HF7.out (by simp) (by simp)) (by omega) 0 (by omega)).mono ?_
              rintro e w8 ⟨rfl, h8, hf8⟩
              rw [arm_back s _ HT.out.1.2.1] at h8
              have H8 := Lib.hid h8
              have hnp := (HS6.out.sr.ne HS6.out.cl).1
              have HO1 := Lib.hid (show w2.heap.size ∉ [p] by have := HOUT.out.1; simp at this ⊢; omega)
              have HS8 := Lib.hid (((HS6.out.sr.fr HF7.out (by simp)).fr hf8 (by simpa using hnp)))
              have HN8 := Lib.hid ((HF7.out.heap HN6.out (by simp)) |> fun h => hf8.heap h HO1.out)
              have HF8 := Lib.hid ((HF6.out.trans HF7.out).new hf8 (by have := HPG.out; simp; omega))
              clear h8 hf8 hnp
              go_wp2_with fail
              refine (is_any A w.heap.size 8 _ _ (HE.out.fr HF8.out (by simp)) (by decide) rfl).mono ?_
              rintro e w9 ⟨rfl, hg9⟩
              have HF9 := Lib.hid (Fr.of_grown hg9 [])
              clear hg9
              go_wp2
              go_roundw
              case rel => exact ⟨k + 1, sp, R, s, by omega, by go_num, rfl, HT1.out, ⟨HS8.out.fr HF9.out (by simp), H8.out.fr HF9.out (by simp) (by simp), HSS.out.r, HSS.out.b⟩, HSP.out, HF9.out.heap HN8.out (by simp), HF8.out.trans HF9.out⟩
              case measure => simp [intOf]; omega
            · obtain ⟨s2, R2, code, he, hO, hTI⟩ := tear_step k a3 R s HT.out (by omega) c n HCN.out.1 HCN.out.2 hsame
              rw [he] at hsv
              have HTI := Lib.hid hTI
              clear hTI he
              rcases hO with ⟨rfl, hd2, hoc, hon⟩ | ⟨rfl, hd2, hoR⟩
              · have HD2 := Lib.hid hd2
                have HOC := Lib.hid (show (openOf s2.l).c = c ∧ (openOf s2.l).n = n from ⟨hoc, hon⟩)
                rw [show ev A 0 = .nilIface from rfl] at hsv
                have HSV := Lib.hid hsv
                clear hd2 hoc hon
                have HSM := Lib.hid (fun W => same3_any c n R.c R.n false W (by rw [eq_comm]; exact decide_eq_false hsame))
                clear hsv
                go_wp2_with fail
                with_reducible refine HSV.out.mono ?_
                rintro e w6 ⟨rfl, hs6, hf6⟩
                clear x0 x1
                have HS6 := Lib.hid hs6
                have HX6 := Lib.hid (hf6.heap HX5.out HOUT.out.2)
                have HN6 := Lib.hid (hf6.heap HN5.out HOUT.out.1)
                have HF6 := Lib.hid (HF5.out.new hf6 (by have := HPG.out; have := HSP.out; simp; omega))
                have x0 := cell_of_row _ _ 0 _ _ _ HX6.out
                have x1 := cell_of_row _ _ 1 _ _ _ HX6.out
                have d0 := cell_of_row _ _ 0 _ _ _ HN6.out
                have d1 := cell_of_row _ _ 1 _ _ _ HN6.out
                simp at x0 x1 d0 d1
                clear hs6 hf6
                go_wp2_with fail
                with_reducible refine (HSM.out _).mono ?_
                rintro e w7 ⟨rfl, hf7⟩
                have HF7 := Lib.hid hf7
                clear hf7 x0 x1 d0 d1
                have hdn := fun W (hW : Fr w7 W []) => cellDown_any p g s2 W ((HS6.out.cl.fr HF7.out (by simp) (by simp)).fr hW (by simp) (by simp))
                rw [HD2.out] at hdn
                have HDN := Lib.hid hdn
                clear hdn
                go_wp2
                go_quiet ((go_at_call 25; exact quiet_same (HDN.out _ (Fr.drewN _ _ _))))
                go_wp2_with fail
                generalize hWQ : World.drewN w7 nq = WQ
                have HFQ := Lib.hid (show Fr w6 WQ [] by rw [← hWQ]; exact HF7.out.trans (Fr.drewN w7 nq []))
                clear hWQ
                refine (cellBack_any p g s2 WQ (HS6.out.cl.fr HFQ.out (by simp) (by simp))).mono ?_
                rintro e w8 ⟨rfl, h8, hf8⟩
                have hnp := (HS6.out.sr.ne HS6.out.cl).1
                have HO1 := Lib.hid (show w2.heap.size ∉ [p] ∧ wr.heap.size ∉ [p] by have := HOUT.out; simp at this ⊢; omega)
                have H8 := Lib.hid h8
                have HN8 := Lib.hid ((HFQ.out.heap HN6.out (by simp)) |> fun h => hf8.heap h HO1.out.1)
                have HX8 := Lib.hid ((HFQ.out.heap HX6.out (by simp)) |> fun h => hf8.heap h HO1.out.2)
                have HF8 := Lib.hid ((HF6.out.trans HFQ.out).new hf8 (by have := HPG.out; simp; omega))
                have hop := open_any p g _ w8 A w.heap.size h8 rfl (by have := HTI.out.1.2.2.1; simp only at this ⊢; omega) HS6.out.b ((HE.out.evs [4, 5]).fr HF8.out (by simp)) HF8.out.size
                have HOP := Lib.hid hop
                clear h8 hf8 hnp hop
                go_wp2_with fail
                with_reducible refine HOP.out.mono ?_
                rintro e w9 ⟨u, rfl, tp, rfl, ht, htp, hf9⟩
                have HT9 := Lib.hid ht
                have HTP := Lib.hid (show w.heap.size ≤ tp ∧ tp ≠ w2.heap.size by have := HF8.out.size; have h1 := (Array.getElem?_eq_some_iff.1 HN8.out).1; omega)
                have HN9 := Lib.hid (hf9.heap HN8.out (by simp))
                have HX9 := Lib.hid (hf9.heap HX8.out (by simp))
                have HC9 := Lib.hid (H8.out.fr hf9 (by simp) (by simp))
                have HF9 := Lib.hid (HF8.out.trans hf9)
                have hrec := record_any tp p _ w9 ht
                rw [HOC.out.1, HOC.out.2] at hrec
                have HREC := Lib.hid hrec
                clear ht htp hf9 hrec
                go_wp2_with fail
                with_reducible refine HREC.out.mono ?_
                rintro e wa ⟨rfl, hfa⟩
                have HNA := Lib.hid (hfa.heap HN9.out (by simp))
                have HXA := Lib.hid (hfa.heap HX9.out (by simp))
                have HCA := Lib.hid (HC9.out.fr hfa (by simp) (by simp))
                have HTA := Lib.hid (HT9.out.fr hfa (by simp))
                have HFA := Lib.hid (HF9.out.trans hfa)
                clear hfa
                go_upto_region 28 with fail
                generalize hWB : World.alloc wa _ = WB
                have hfb : Fr wa WB [] := by rw [← hWB]; exact Fr.alloc _ _ _
                have hgot : WB.heap[wa.heap.size]? = some (.cells #[.int .i64 c, .int .i64 n] 35 (0, 0)) := by rw [← hWB]; exact heap_alloc_new wa _
                have HNB2 := Lib.hid (hfb.heap HNA.out (by simp))
                have HXB := Lib.hid (hfb.heap HXA.out (by simp))
                have HCB := Lib.hid (HCA.out.fr hfb (by simp) (by simp))
                have HTB := Lib.hid (HTA.out.fr hfb (by simp))
                have HFB := Lib.hid (HFA.out.trans hfb)
                have HGOT := Lib.hid hgot
                have g0 := cell_of_row _ _ 0 _ _ _ hgot
                have g1 := cell_of_row _ _ 1 _ _ _ hgot
                have d0 := cell_of_row _ _ 0 _ _ _ HNB2.out
                have d1 := cell_of_row _ _ 1 _ _ _ HNB2.out
                simp at g0 g1 d0 d1
                have HNEQ := Lib.hid (show w2.heap.size ≠ wa.heap.size by have := (Array.getElem?_eq_some_iff.1 HNA.out).1; omega)
                clear hfb hgot hWB
                have HSME := Lib.hid (fun W => same3_any c n c n true W (by simp))
                have x0 := cell_of_row _ _ 0 _ _ _ HXB.out
                have x1 := cell_of_row _ _ 1 _ _ _ HXB.out
                simp at x0 x1
                go_wp2_with fail
                with_reducible refine (HSM.out _).mono ?_
                rintro e wc1 ⟨rfl, hc1⟩
                have ga0 := hc1.cell g0 (by simp)
                have ga1 := hc1.cell g1 (by simp)
                have xa0 := hc1.cell x0 (by simp)
                have xa1 := hc1.cell x1 (by simp)
                clear g0 g1 x0 x1 d0 d1
                go_wp2_with fail
                with_reducible refine (HSME.out _).mono ?_
                rintro e wc2 ⟨rfl, hc2⟩
                have gb0 := hc2.cell ga0 (by simp)
                have gb1 := hc2.cell ga1 (by simp)
                have xb0 := hc2.cell xa0 (by simp)
                have xb1 := hc2.cell xa1 (by simp)
                clear ga0 ga1 xa0 xa1
                go_wp2_with fail
                with_reducible refine (HSME.out _).mono ?_
                rintro e wc3 ⟨rfl, hc3⟩
                have gc0 := hc3.cell gb0 (by simp)
                have gc1 := hc3.cell gb1 (by simp)
                have HFE := Lib.hid ((hc1.trans hc2).trans hc3)
                have HNE := Lib.hid (HFE.out.heap HNB2.out (by simp))
                clear gb0 gb1 xb0 xb1 hc1 hc2 hc3
                have e0 := cell_of_row _ _ 0 _ _ _ HNE.out
                have e1 := cell_of_row _ _ 1 _ _ _ HNE.out
                simp at e0 e1
                have y0 := frozen_of_row _ _ 0 _ _ HNE.out
                have y1 := frozen_of_row _ _ 1 _ _ HNE.out
                go_wp2
                have hrow := heap_setCell_same _ w2.heap.size 1 _ _ (Value.int .i64 n) (heap_setCell_same _ w2.heap.size 0 _ _ (Value.int .i64 c) HNE.out)
                have HROW := Lib.hid hrow
                have hfs : ∀ W v1 v2, Fr W ((W.setCell ⟨w2.heap.size, 0, none⟩ v1).setCell ⟨w2.heap.size, 1, none⟩ v2) [w2.heap.size] := fun W v1 v2 => Fr.trans (Fr.setCell _ _ 0 _ (List.mem_singleton.2 rfl)) (Fr.setCell _ _ 1 _ (List.mem_singleton.2 rfl))
                have HFS := Lib.hid hfs
                clear hrow hfs
                go_roundw
                case rel => exact ⟨k + 1, tp, _, _, by omega, by go_num, rfl, HTI.out, ⟨((HTB.out.fr HFE.out (by simp)).fr (HFS.out _ _ _) (by have := HTP.out; simp; omega)), ((HCB.out.fr HFE.out (by simp) (by simp)).fr (HFS.out _ _ _) (by have := HOUT.out.1; simp at this ⊢; omega) (by have := HOUT.out.1; simp at this ⊢; omega)), openOf_in HS6.out.b, HS6.out.b⟩, HTP.out, by rw [HOC.out.1, HOC.out.2]; exact HROW.out, (HFB.out.trans HFE.out).new (HFS.out _ _ _) (by have := HNB.out; simp; omega)⟩
                case measure => simp [intOf]; omega
              · have HD2 := Lib.hid hd2
                have HOC := Lib.hid (show (openOf s2.l).c = R.c ∧ (openOf s2.l).n = R.n by rw [hoR]; exact ⟨rfl, rfl⟩)
                rw [show ev A 5 = .iface 95 (.pointer (some (A 5))) from rfl] at hsv
                have HSV := Lib.hid hsv
                clear hd2 hoR
                have HSM := Lib.hid (fun W => same3_any c n R.c R.n false W (by rw [eq_comm]; exact decide_eq_false hsame))
                clear hsv
                go_wp2_with fail
                with_reducible refine HSV.out.mono ?_
                rintro e w6 ⟨rfl, hs6, hf6⟩
                clear x0 x1
                have HS6 := Lib.hid hs6
                have HX6 := Lib.hid (hf6.heap HX5.out HOUT.out.2)
                have HN6 := Lib.hid (hf6.heap HN5.out HOUT.out.1)
                have HF6 := Lib.hid (HF5.out.new hf6 (by have := HPG.out; have := HSP.out; simp; omega))
                have x0 := cell_of_row _ _ 0 _ _ _ HX6.out
                have x1 := cell_of_row _ _ 1 _ _ _ HX6.out
                have d0 := cell_of_row _ _ 0 _ _ _ HN6.out
                have d1 := cell_of_row _ _ 1 _ _ _ HN6.out
                simp at x0 x1 d0 d1
                clear hs6 hf6
                go_wp2_with fail
                with_reducible refine (HSM.out _).mono ?_
                rintro e w7 ⟨rfl, hf7⟩
                have HF7 := Lib.hid hf7
                clear hf7 x0 x1 d0 d1
                have hdn := fun W (hW : Fr w7 W []) => cellDown_any p g s2 W ((HS6.out.cl.fr HF7.out (by simp) (by simp)).fr hW (by simp) (by simp))
                rw [HD2.out] at hdn
                have HDN := Lib.hid hdn
                clear hdn
                go_wp2
                go_quiet ((go_at_call 25; exact quiet_same (HDN.out _ (Fr.drewN _ _ _))))
                go_wp2_with fail
                generalize hWQ : World.drewN w7 nq = WQ
                have HFQ := Lib.hid (show Fr w6 WQ [] by rw [← hWQ]; exact HF7.out.trans (Fr.drewN w7 nq []))
                clear hWQ
                refine (cellBack_any p g s2 WQ (HS6.out.cl.fr HFQ.out (by simp) (by simp))).mono ?_
                rintro e w8 ⟨rfl, h8, hf8⟩
                have hnp := (HS6.out.sr.ne HS6.out.cl).1
                have HO1 := Lib.hid (show w2.heap.size ∉ [p] ∧ wr.heap.size ∉ [p] by have := HOUT.out; simp at this ⊢; omega)
                have H8 := Lib.hid h8
                have HN8 := Lib.hid ((HFQ.out.heap HN6.out (by simp)) |> fun h => hf8.heap h HO1.out.1)
                have HX8 := Lib.hid ((HFQ.out.heap HX6.out (by simp)) |> fun h => hf8.heap h HO1.out.2)
                have HF8 := Lib.hid ((HF6.out.trans HFQ.out).new hf8 (by have := HPG.out; simp; omega))
                have hop := open_any p g _ w8 A w.heap.size h8 rfl (by have := HTI.out.1.2.2.1; simp only at this ⊢; omega) HS6.out.b ((HE.out.evs [4, 5]).fr HF8.out (by simp)) HF8.out.size
                have HOP := Lib.hid hop
                clear h8 hf8 hnp hop
                go_wp2_with fail
                with_reducible refine HOP.out.mono ?_
                rintro e w9 ⟨u, rfl, tp, rfl, ht, htp, hf9⟩
                have HT9 := Lib.hid ht
                have HTP := Lib.hid (show w.heap.size ≤ tp ∧ tp ≠ w2.heap.size by have := HF8.out.size; have h1 := (Array.getElem?_eq_some_iff.1 HN8.out).1; omega)
                have HN9 := Lib.hid (hf9.heap HN8.out (by simp))
                have HX9 := Lib.hid (hf9.heap HX8.out (by simp))
                have HC9 := Lib.hid (H8.out.fr hf9 (by simp) (by simp))
                have HF9 := Lib.hid (HF8.out.trans hf9)
                have hrec := record_any tp p _ w9 ht
                rw [HOC.out.1, HOC.out.2] at hrec
                have HREC := Lib.hid hrec
                clear ht htp hf9 hrec
                go_wp2_with fail
                with_reducible refine HREC.out.mono ?_
                rintro e wa ⟨rfl, hfa⟩
                have HNA := Lib.hid (hfa.heap HN9.out (by simp))
                have HXA := Lib.hid (hfa.heap HX9.out (by simp))
                have HCA := Lib.hid (HC9.out.fr hfa (by simp) (by simp))
                have HTA := Lib.hid (HT9.out.fr hfa (by simp))
                have HFA := Lib.hid (HF9.out.trans hfa)
                clear hfa
                go_upto_region 28 with fail
                generalize hWB : World.alloc wa _ = WB
                have hfb : Fr wa WB [] := by rw [← hWB]; exact Fr.alloc _ _ _
                have hgot : WB.heap[wa.heap.size]? = some (.cells #[.int .i64 R.c, .int .i64 R.n] 35 (0, 0)) := by rw [← hWB]; exact heap_alloc_new wa _
                have HNB2 := Lib.hid (hfb.heap HNA.out (by simp))
                have HXB := Lib.hid (hfb.heap HXA.out (by simp))
                have HCB := Lib.hid (HCA.out.fr hfb (by simp) (by simp))
                have HTB := Lib.hid (HTA.out.fr hfb (by simp))
                have HFB := Lib.hid (HFA.out.trans hfb)
                have HGOT := Lib.hid hgot
                have g0 := cell_of_row _ _ 0 _ _ _ hgot
                have g1 := cell_of_row _ _ 1 _ _ _ hgot
                have d0 := cell_of_row _ _ 0 _ _ _ HNB2.out
                have d1 := cell_of_row _ _ 1 _ _ _ HNB2.out
                simp at g0 g1 d0 d1
                have HNEQ := Lib.hid (show w2.heap.size ≠ wa.heap.size by have := (Array.getElem?_eq_some_iff.1 HNA.out).1; omega)
                clear hfb hgot hWB
                have HSME := Lib.hid (fun W => same3_any R.c R.n R.c R.n true W (by simp))
                go_wp2_with fail
                with_reducible refine (HSME.out _).mono ?_
                rintro e wc1 ⟨rfl, hc1⟩
                have ga0 := hc1.cell g0 (by simp)
                have ga1 := hc1.cell g1 (by simp)
                have HFE := Lib.hid hc1
                have HNE := Lib.hid (HFE.out.heap HNB2.out (by simp))
                clear g0 g1 d0 d1 hc1
                have e0 := cell_of_row _ _ 0 _ _ _ HNE.out
                have e1 := cell_of_row _ _ 1 _ _ _ HNE.out
                simp at e0 e1
                have y0 := frozen_of_row _ _ 0 _ _ HNE.out
                have y1 := frozen_of_row _ _ 1 _ _ HNE.out
                go_wp2
                have hrow := heap_setCell_same _ w2.heap.size 1 _ _ (Value.int .i64 R.n) (heap_setCell_same _ w2.heap.size 0 _ _ (Value.int .i64 R.c) HNE.out)
                have HROW := Lib.hid hrow
                have hfs : ∀ W v1 v2, Fr W ((W.setCell ⟨w2.heap.size, 0, none⟩ v1).setCell ⟨w2.heap.size, 1, none⟩ v2) [w2.heap.size] := fun W v1 v2 => Fr.trans (Fr.setCell _ _ 0 _ (List.mem_singleton.2 rfl)) (Fr.setCell _ _ 1 _ (List.mem_singleton.2 rfl))
                have HFS := Lib.hid hfs
                clear hrow hfs
                go_roundw
                case rel => exact ⟨k + 1, tp, _, _, by omega, by go_num, rfl, HTI.out, ⟨((HTB.out.fr HFE.out (by simp)).fr (HFS.out _ _ _) (by have := HTP.out; simp; omega)), ((HCB.out.fr HFE.out (by simp) (by simp)).fr (HFS.out _ _ _) (by have := HOUT.out.1; simp at this ⊢; omega) (by have := HOUT.out.1; simp at this ⊢; omega)), openOf_in HS6.out.b, HS6.out.b⟩, HTP.out, by rw [HOC.out.1, HOC.out.2]; exact HROW.out, (HFB.out.trans HFE.out).new (HFS.out _ _ _) (by have := HNB.out; simp; omega)⟩
                case measure => simp [intOf]; omega
      · go_wp2
        go_ret
        exact ⟨rfl, HF.out.grown (by simp)⟩
end Go.Proofs.YthiimkjhlndcoaaDoor
