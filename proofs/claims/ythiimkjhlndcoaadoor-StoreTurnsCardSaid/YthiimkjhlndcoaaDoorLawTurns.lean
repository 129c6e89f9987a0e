/- The walk of the law of turns: saves go from slot to slot: a whole one stays while the other is written; opened anew at any time it is the last. -/
import Derived.Test.YthiimkjhlndcoaaDoorSFirst
namespace Go.Proofs.YthiimkjhlndcoaaDoor
open Go.RowKit

/-- The numbers of the j-th record. -/
def turnC (lives : Bool) (j : Nat) : Int := if lives = true then 0 else (j : Int)
def turnN (lives : Bool) (j : Nat) : Int := if lives = true then (j : Int) else 0
/-- What is there behind j saves. -/
def TurnI (lives : Bool) (j : Nat) (R : SR) (s : CS) : Prop :=
  (s.d = false ∧ s.a = 0 ∧ s.l.length = 26 ∧ s.n = 14 * (j : Int)) ∧ R = openOf s.l ∧ R.c = turnC lives j ∧ R.n = turnN lives j ∧
  ((j = 0 ∧ s.l.getD 0 0 = 0 ∧ s.l.getD 13 0 = 0 ∧ R.k = -1) ∨ (j = 1 ∧ s.l.getD 0 0 = 1 ∧ s.l.getD 13 0 = 0 ∧ R.k = 0) ∨ (2 ≤ j ∧ s.l.getD 0 0 = 1 ∧ s.l.getD 13 0 = 1 ∧ (R.k = 0 ∨ R.k = 1)))
theorem turn_zero (lives : Bool) : TurnI lives 0 SR.none (CS.new 26) :=
  ⟨⟨rfl, rfl, by simp [CS.new], rfl⟩, (open_new 26).symm, by cases lives <;> rfl, by cases lives <;> rfl, .inl ⟨rfl, CS.new_get 26 0, CS.new_get 26 13, rfl⟩⟩
theorem turn_step (lives : Bool) (j : Nat) (R : SR) (s : CS) (h : TurnI lives j R s) (hj : j ≤ 100) :
    ∃ s' R', R.save s (turnC lives (j + 1)) (turnN lives (j + 1)) = (s', R', 0) ∧ TurnI lives (j + 1) R' s' := by
  obtain ⟨⟨hd, ha, hl, hn⟩, ho, hc, hnn, hm⟩ := h
  obtain ⟨c, hcc⟩ : ∃ c : Int, c = turnC lives (j + 1) := ⟨_, rfl⟩
  obtain ⟨n, hnc⟩ : ∃ c : Int, c = turnN lives (j + 1) := ⟨_, rfl⟩
  rw [← hcc, ← hnc]
  have hb : 0 ≤ c ∧ c ≤ 281474976710655 ∧ 0 ≤ n ∧ n ≤ 281474976710655 ∧ R.c ≤ c ∧ R.n ≤ n ∧ ¬ (c = R.c ∧ n = R.n) := by
    cases lives <;> simp [turnC, turnN] at hc hnn hcc hnc <;> omega
  have hcode : R.code c n = 0 := code_up R c n (by omega) (by omega) ⟨hb.2.2.2.2.1, hb.2.2.2.2.2.1, hb.2.2.2.2.2.2⟩
  have hsv := R.save_ok s c n hd (by omega) ha hcode
  have hop : (⟨c, n, (R.spare : Int)⟩ : SR) = openOf (setAll s.l (plan R.spare c n)) := by
    have := open_full s.l c n (by omega) (by rw [← ho]; exact hcode)
    rw [← ho] at this; exact this.symm
  have hlen : (setAll s.l (plan R.spare c n)).length = 26 := by rw [setAll_len]; exact hl
  have hmarks : (j + 1 = 0 ∧ (setAll s.l (plan R.spare c n)).getD 0 0 = 0 ∧ (setAll s.l (plan R.spare c n)).getD 13 0 = 0 ∧ (R.spare : Int) = -1) ∨ (j + 1 = 1 ∧ (setAll s.l (plan R.spare c n)).getD 0 0 = 1 ∧ (setAll s.l (plan R.spare c n)).getD 13 0 = 0 ∧ (R.spare : Int) = 0) ∨ (2 ≤ j + 1 ∧ (setAll s.l (plan R.spare c n)).getD 0 0 = 1 ∧ (setAll s.l (plan R.spare c n)).getD 13 0 = 1 ∧ ((R.spare : Int) = 0 ∨ (R.spare : Int) = 1)) := by
    clear hsv hop hlen hcc hnc
    have hk : R.spare < 2 := by unfold SR.spare; split <;> omega
    obtain ⟨f1, _, _⟩ := full_slot s.l R.spare c n hk (by omega) (by omega) (by omega)
    have hoth : ∀ o, o < 2 → R.spare ≠ o → (setAll s.l (plan R.spare c n)).getD (13 * o) 0 = s.l.getD (13 * o) 0 := fun o h1 h2 => full_alike s.l R.spare o c n hk h1 h2 0 (by omega)
    rcases hm with ⟨rfl, m0, m1, hk'⟩ | ⟨rfl, m0, m1, hk'⟩ | ⟨h2, m0, m1, hk'⟩
    · have hs : R.spare = 0 := by unfold SR.spare; rw [if_neg (by omega)]
      rw [hs] at f1 hoth ⊢
      exact .inr (.inl ⟨rfl, f1, (hoth 1 (by omega) (by omega)).trans m1, rfl⟩)
    · have hs : R.spare = 1 := by unfold SR.spare; rw [if_pos hk']
      rw [hs] at f1 hoth ⊢
      exact .inr (.inr ⟨by omega, (hoth 0 (by omega) (by omega)).trans m0, f1, .inr rfl⟩)
    · refine .inr (.inr ⟨by omega, ?_⟩)
      rcases hk' with hk' | hk'
      · have hs : R.spare = 1 := by unfold SR.spare; rw [if_pos hk']
        rw [hs] at f1 hoth ⊢
        exact ⟨(hoth 0 (by omega) (by omega)).trans m0, f1, .inr rfl⟩
      · have hs : R.spare = 0 := by unfold SR.spare; rw [if_neg (by omega)]
        rw [hs] at f1 hoth ⊢
        exact ⟨f1, (hoth 1 (by omega) (by omega)).trans m1, .inl rfl⟩
  have hn' : s.n + 14 = 14 * ((j + 1 : Nat) : Int) := by omega
  obtain ⟨L, hL⟩ : ∃ L, L = setAll s.l (plan R.spare c n) := ⟨_, rfl⟩
  rw [← hL] at hsv hop hlen hmarks
  exact ⟨_, _, hsv, ⟨hd, ha, hlen, hn'⟩, hop, hcc, hnc, hmarks⟩

set_option maxHeartbeats 8000000 in
set_option maxRecDepth 100000 in
theorem turns_walk (n0 : Int) (lives : Bool) (hn : (Lit.int .i64 n0).wf = true) (w : World) (A : Nat → Addr) (hE : EV [2, 4, 5, 7] w A w.heap.size) :
    Calls Tryd.prog 7 #[.int .i64 n0, .bool lives] w fun e w' => e = .returned (.bool true) ∧ w.grownBy w' none := by
  obtain ⟨M, hM, _, hMc⟩ := numberTo_nat n0 30 (by omega) (by omega) hn
  have HM := Lib.hid hMc
  have HE := Lib.hid hE
  clear hMc hE hn
  have hT0 := turn_zero lives
  have HT0 := Lib.hid hT0
  have HSTEP := Lib.hid (fun j R s (h : TurnI lives j R s) hj => turn_step lives j R s h hj)
  clear hT0
  cases lives
  all_goals
    go_enter Tryd.func7, Tryd.ntmps7
    go_wp2_with fail
    refine (first3_any _ A HE.out).mono ?_
    rintro e w1 ⟨rfl, hg1⟩
    have HF1 := Lib.hid (Fr.of_grown hg1 [])
    have hop := opened_any w1 A w.heap.size (HE.out.fr HF1.out (by simp)) HF1.out.size
    have HO := Lib.hid hop
    clear hg1 hop
    go_wp2_with fail
    refine (HM.out _).mono ?_
    rintro e w2 ⟨rfl, rfl⟩
    go_wp2_with fail
    refine HO.out.mono ?_
    rintro e w2 ⟨u, rfl, sp, p, g, rfl, hs, hsp, hp, hg, hf2⟩
    have HS := Lib.hid hs
    have HF2 := Lib.hid (HF1.out.trans hf2)
    have HPG := Lib.hid (show w.heap.size ≤ sp ∧ w.heap.size ≤ p ∧ w.heap.size ≤ g from ⟨Nat.le_trans HF1.out.size hsp, Nat.le_trans HF1.out.size hp, Nat.le_trans HF1.out.size hg⟩)
    clear hs hf2 hsp hp hg
    go_wp2
    go_loopw [8] (fun x wr => ∃ (k : Nat) (R : SR) (s : CS), 1 ≤ k ∧ k ≤ M + 3 ∧ x = .int .i64 k ∧ TurnI _ (k - 1) R s ∧ St wr sp p g R s ∧ Fr w wr []) (fun x _ => M + 3 - (intOf x).toNat)
    case atStart => exact ⟨1, _, _, by omega, by omega, rfl, HT0.out, HS.out, HF2.out⟩
    case round =>
      obtain ⟨k, R, s, hk1, hk2, rfl, hT, hs, hf⟩ := hrel
      have HT := Lib.hid hT
      have HSS := Lib.hid hs
      have HF := Lib.hid hf
      clear hT hs hf HS HF2
      by_cases hlt : (k : Int) ≤ (M : Int) + 2
      · obtain ⟨s', R', hsv, hT'⟩ := HSTEP.out (k - 1) R s HT.out (by omega)
        rw [show k - 1 + 1 = k by omega] at hsv hT'
        first
          | rw [show turnC true k = 0 from rfl, show turnN true k = (k : Int) from rfl] at hsv
          | rw [show turnC false k = (k : Int) from rfl, show turnN false k = 0 from rfl] at hsv
        obtain ⟨⟨hd', ha', hl', hn'⟩, ho', hc', hn2', hm'⟩ := hT'
        have HT' := Lib.hid (show TurnI _ k R' s' from ⟨⟨hd', ha', hl', hn'⟩, ho', hc', hn2', hm'⟩)
        first
          | (rw [show turnC true k = 0 from rfl] at hc'; rw [show turnN true k = (k : Int) from rfl] at hn2')
          | (rw [show turnC false k = (k : Int) from rfl] at hc'; rw [show turnN false k = 0 from rfl] at hn2')
        have hns : s.n < 9223372036854770000 := by rw [HT.out.1.2.2.2]; omega
        have hcall := fun W (hW : Fr wr W []) => fun C N (h : R.save s C N = (s', R', 0)) => (show Calls Tryd.prog 17 #[.pointer (some ⟨sp, 0, none⟩), .agg #[.int .i64 C, .int .i64 N]] W fun e w' => e = .returned .nilIface ∧ St w' sp p g R' s' ∧ Fr W w' [sp, p, g] by
          have h1 := st_save sp p g R s C N W A w.heap.size (HSS.out.fr hW (by simp)) hns (HE.out.fr (HF.out.trans hW) (by simp)) HPG.out.2.1 HPG.out.2.2
          rw [h] at h1; exact h1)
        have HCALL := Lib.hid (fun W hW => hcall W hW _ _ hsv)
        have HD' := Lib.hid hd'
        have HL' := Lib.hid hl'
        have HN' := Lib.hid hn'
        have HO' := Lib.hid ho'
        have HC' := Lib.hid hc'
        have HN2' := Lib.hid hn2'
        have HM' := Lib.hid hm'
        clear hcall hsv hd' ha' hl' hn' ho' hc' hn2' hm' hns
        have hlt2 := HSS.out.sr.lt
        have hlt3 := HSS.out.cl.lt
        have HLT := Lib.hid (show sp < wr.heap.size ∧ p < wr.heap.size ∧ g < wr.heap.size from ⟨hlt2, hlt3⟩)
        clear hlt2 hlt3
        go_wp2_with fail
        generalize hW3 : World.alloc wr _ = W3
        have HF3 := Lib.hid (show Fr wr W3 [] by rw [← hW3]; exact Fr.alloc _ _ _)
        obtain ⟨C, N, hCN, hr3⟩ : ∃ C N : Int, (R'.c = C ∧ R'.n = N) ∧ W3.heap[wr.heap.size]? = some (.cells #[.int .i64 C, .int .i64 N] 35 (0, 0)) :=
          ⟨_, _, ⟨HC'.out, HN2'.out⟩, by rw [← hW3]; exact heap_alloc_new wr _⟩
        have HR3 := Lib.hid hr3
        have HCN := Lib.hid hCN
        clear hW3 hr3 hCN
        refine (HCALL.out W3 HF3.out).mono ?_
        rintro e w4 ⟨rfl, hs4, hf4⟩
        have HS4 := Lib.hid hs4
        have HFR := Lib.hid hf4
        have HF4 := Lib.hid ((HF.out.trans HF3.out).new hf4 (by have := HPG.out; simp; omega))
        have hr4 := hf4.heap HR3.out (by have := HLT.out; simp; omega)
        have HR4 := Lib.hid hr4
        clear hs4 hf4 hr4
        have hg0 := fun W (hW : Fr w4 W []) => cellGet_any p g s' 0 W A w.heap.size (HS4.out.cl.fr hW (by simp) (by simp)) (HE.out.fr (HF4.out.trans hW) (by simp))
        have hg13 := fun W (hW : Fr w4 W []) => cellGet_any p g s' 13 W A w.heap.size (HS4.out.cl.fr hW (by simp) (by simp)) (HE.out.fr (HF4.out.trans hW) (by simp))
        rw [show s'.get 0 = (s'.l.getD 0 0, 0) from s'.get_ok 0 HD'.out (by rw [HL'.out]; omega), show ev A 0 = .nilIface from rfl] at hg0
        rw [show s'.get 13 = (s'.l.getD 13 0, 0) from s'.get_ok 13 HD'.out (by rw [HL'.out]; omega), show ev A 0 = .nilIface from rfl] at hg13
        have hmk : s'.l.getD 0 0 = 1 ∧ ((k = 1 ∧ s'.l.getD 13 0 = 0) ∨ (1 < k ∧ s'.l.getD 13 0 = 1)) := by
          rcases HM'.out with ⟨h, _⟩ | ⟨h, h1, h2, _⟩ | ⟨h, h1, h2, _⟩
          · omega
          · exact ⟨h1, .inl ⟨h, h2⟩⟩
          · exact ⟨h1, .inr ⟨by omega, h2⟩⟩
        obtain ⟨hm0, hm1⟩ := hmk
        rw [hm0] at hg0
        have HG0 := Lib.hid hg0
        clear hg0 hm0
        rcases hm1 with ⟨hk, hm1⟩ | ⟨hk, hm1⟩
        · rw [hm1] at hg13
          have HG13 := Lib.hid hg13
          clear hg13 hm1
          subst hk
          go_wp2_with fail
          refine (HG0.out _ (Fr.refl _ _)).mono ?_
          rintro e w5 ⟨rfl, hd5⟩
          have HF5 := Lib.hid (hd5.fr [])
          clear hd5
          go_wp2_with fail
          refine (HG13.out _ HF5.out).mono ?_
          rintro e w6 ⟨rfl, hd6⟩
          have HF6 := Lib.hid (HF5.out.trans (hd6.fr []))
          clear hd6
          go_wp2_with fail
          have hop := open_any p g s' w6 A w.heap.size (HS4.out.cl.fr HF6.out (by simp) (by simp)) HD'.out (by rw [HL'.out]; omega) HS4.out.b (HE.out.fr (HF4.out.trans HF6.out) (by simp)) (Nat.le_trans HF4.out.size HF6.out.size)
          rw [← HO'.out] at hop
          have HOP := Lib.hid hop
          clear hop
          refine HOP.out.mono ?_
          rintro e w7 ⟨u, rfl, tp, rfl, ht, htp, hf7⟩
          have HT7 := Lib.hid ht
          have HF7 := Lib.hid (HF6.out.trans hf7)
          have hr7 := (HF6.out.trans hf7).heap HR4.out (by simp)
          have x0a := cell_of_row _ _ 0 _ _ _ hr7
          have x1a := cell_of_row _ _ 1 _ _ _ hr7
          simp at x0a x1a
          have hrec := fun W (hW : Fr w7 W []) => record_any tp p R' W (HT7.out.fr hW (by simp))
          rw [HCN.out.1, HCN.out.2] at hrec
          have HREC := Lib.hid hrec
          have HSM := Lib.hid (fun W => same3_any C N C N true W (by simp))
          have hwr := fun W (hW : Fr w4 W []) => cellWrites_any p g s' W (HS4.out.cl.fr hW (by simp) (by simp))
          rw [HN'.out] at hwr
          rw [show (14 : Int) * ((1 : Nat) : Int) = 14 from rfl] at hwr
          have HWR := Lib.hid hwr
          clear ht hf7 hr7 hrec hwr
          go_wp2_with fail
          first | (go_region_held3 (fun w' => w'.cell? ⟨wr.heap.size, 0, none⟩ = some (.int .i64 C) ∧ w'.cell? ⟨wr.heap.size, 1, none⟩ = some (.int .i64 N))
            (first | exact ⟨x0a, x1a⟩ | exact ⟨x0c, x1c⟩ | exact ⟨x0b, x1b⟩)
            (first
              | (go_at_call 14; ((with_reducible refine (HREC.out _ (Fr.drew w7 [])).mono ?_); rintro e wa ⟨rfl, hfa⟩; have hfa0 := (Fr.drew w7 []).trans hfa; have x0b := hfa0.cell x0a (by simp); have x1b := hfa0.cell x1a (by simp)))
              | (go_at_call 15; ((with_reducible refine (HSM.out _).mono ?_); rintro e wb ⟨rfl, hfb⟩; have hfb0 := hfa0.trans hfb; have x0c := hfb.cell x0b (by simp); have x1c := hfb.cell x1b (by simp)))
              | (go_at_call 26; ((with_reducible refine (HWR.out _ (HF7.out.trans hfb0)).mono ?_); rintro e wd ⟨rfl, rfl⟩)))) | fail
          all_goals
            have HFE := Lib.hid (HF7.out.trans hfb0)
            clear hfa hfb hfa0 hfb0 x0a x0b x0c x1a x1b x1c 
            go_wp2
            go_roundw
            case rel => exact ⟨1 + 1, R', s', by omega, by omega, by go_num, HT'.out, HS4.out.fr HFE.out (by simp), HF4.out.trans HFE.out⟩
            case measure => (first | (simp [intOf]; done) | (simp [intOf]; omega))
        · rw [hm1] at hg13
          have HG13 := Lib.hid hg13
          have hk1 : ((k : Int) == 1) = false := by simp; omega
          have hk2 : 1 < k := hk
          clear hg13 hm1 hk
          go_wp2_with fail
          refine (HG0.out _ (Fr.refl _ _)).mono ?_
          rintro e w5 ⟨rfl, hd5⟩
          have HF5 := Lib.hid (hd5.fr [])
          clear hd5
          go_wp2_with fail
          refine (HG13.out _ HF5.out).mono ?_
          rintro e w6 ⟨rfl, hd6⟩
          have HF6 := Lib.hid (HF5.out.trans (hd6.fr []))
          clear hd6
          go_wp2_with fail
          have hop := open_any p g s' w6 A w.heap.size (HS4.out.cl.fr HF6.out (by simp) (by simp)) HD'.out (by rw [HL'.out]; omega) HS4.out.b (HE.out.fr (HF4.out.trans HF6.out) (by simp)) (Nat.le_trans HF4.out.size HF6.out.size)
          rw [← HO'.out] at hop
          have HOP := Lib.hid hop
          clear hop
          refine HOP.out.mono ?_
          rintro e w7 ⟨u, rfl, tp, rfl, ht, htp, hf7⟩
          have HT7 := Lib.hid ht
          have HF7 := Lib.hid (HF6.out.trans hf7)
          have hr7 := (HF6.out.trans hf7).heap HR4.out (by simp)
          have x0a := cell_of_row _ _ 0 _ _ _ hr7
          have x1a := cell_of_row _ _ 1 _ _ _ hr7
          simp at x0a x1a
          have hrec := fun W (hW : Fr w7 W []) => record_any tp p R' W (HT7.out.fr hW (by simp))
          rw [HCN.out.1, HCN.out.2] at hrec
          have HREC := Lib.hid hrec
          have HSM := Lib.hid (fun W => same3_any C N C N true W (by simp))
          have hwr := fun W (hW : Fr w4 W []) => cellWrites_any p g s' W (HS4.out.cl.fr hW (by simp) (by simp))
          rw [HN'.out] at hwr
          have hwp : IntKind.i64.wrap (14 * (k : Int)) = 14 * (k : Int) := IntWalk.i64_in _ (by omega)
          have hne : (14 * (k : Int) != 14 * (k : Int)) = false := by simp
          have HWR := Lib.hid hwr
          clear ht hf7 hr7 hrec hwr
          go_wp2_with fail
          first | (go_region_held3 (fun w' => w'.cell? ⟨wr.heap.size, 0, none⟩ = some (.int .i64 C) ∧ w'.cell? ⟨wr.heap.size, 1, none⟩ = some (.int .i64 N))
            (first | exact ⟨x0a, x1a⟩ | exact ⟨x0c, x1c⟩ | exact ⟨x0b, x1b⟩)
            (first
              | (go_at_call 14; ((with_reducible refine (HREC.out _ (Fr.drew w7 [])).mono ?_); rintro e wa ⟨rfl, hfa⟩; have hfa0 := (Fr.drew w7 []).trans hfa; have x0b := hfa0.cell x0a (by simp); have x1b := hfa0.cell x1a (by simp)))
              | (go_at_call 15; ((with_reducible refine (HSM.out _).mono ?_); rintro e wb ⟨rfl, hfb⟩; have hfb0 := hfa0.trans hfb; have x0c := hfb.cell x0b (by simp); have x1c := hfb.cell x1b (by simp)))
              | (go_at_call 26; ((with_reducible refine (HWR.out _ (HF7.out.trans hfb0)).mono ?_); rintro e wd ⟨rfl, rfl⟩)))) | fail
          all_goals
            have HFE := Lib.hid (HF7.out.trans hfb0)
            clear hfa hfb hfa0 hfb0 x0a x0b x0c x1a x1b x1c hwp hne
            go_wp2
            go_roundw
            case rel => exact ⟨k + 1, R', s', by omega, by omega, by go_num, HT'.out, HS4.out.fr HFE.out (by simp), HF4.out.trans HFE.out⟩
            case measure => simp [intOf]; omega
      · go_wp2
        go_ret
        exact ⟨rfl, HF.out.grown (by simp)⟩
end Go.Proofs.YthiimkjhlndcoaaDoor
