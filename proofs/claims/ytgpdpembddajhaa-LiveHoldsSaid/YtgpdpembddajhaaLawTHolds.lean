/- The law of holding: who is heard again in time stays alive; who says that it is out is not; an elder life counts for nothing: its walk. -/
import Derived.Test.YtgpdpembddajhaaTFirst
import Derived.Test.YtgpdpembddajhaaArr
import Derived.Test.YtgpdpembddajhaaNum
namespace Go.Proofs.Ytgpdpembddajhaa
open Go.RowKit

theorem upP_same (f : Nat → Pe) (k : Nat) (x : Pe) : upP f k x k = x := by simp [upP]
theorem upP_other (f : Nat → Pe) (k : Nat) (x : Pe) (j : Nat) (h : j ≠ k) : upP f k x j = f j := by simp [upP, h]
/-- How car 3 is, so many ticks since it was heard. -/
def capV (old : Int) : Int := if old < 4 then old else 4
structure HS (o : Bool) (f : Nat → Pe) (old : Int) : Prop where
  off : ∀ j, j < 16 → j ≠ 3 → f j = zP
  three : f 3 = ⟨true, o, 5, capV old⟩
  lo : 0 ≤ old
theorem HS.ag {o : Bool} {f : Nat → Pe} {old : Int} (h : HS o f old) : AgOk f := by
  intro i hi
  by_cases e : i = 3
  · subst e
    rw [h.three]
    have := h.lo
    unfold capV
    simp only
    split <;> omega
  · rw [h.off i hi e]; decide
theorem tk_zP : tk zP = zP := rfl
theorem HS.tick {o : Bool} {f : Nat → Pe} {old : Int} (h : HS o f old) : HS o (tkP f) (old + 1) := by
  have h0 := h.lo
  refine ⟨fun j hj hne => by unfold tkP; rw [h.off j hj hne]; rfl, ?_, by omega⟩
  unfold tkP
  rw [h.three]
  unfold tk hd
  simp only [Bool.true_and]
  by_cases e : old < 4
  · have e1 : capV old = old := if_pos e
    rw [if_pos (by rw [e1]; simp; omega), e1]
    unfold capV
    by_cases e2 : old + 1 < 4
    · rw [if_pos e2]
    · rw [if_neg e2]; simp only [Pe.mk.injEq, true_and]; omega
  · have e1 : capV old = 4 := if_neg e
    rw [if_neg (by rw [e1]; simp), e1]
    unfold capV
    rw [if_neg (by omega)]
theorem HS.hear {o : Bool} {f : Nat → Pe} {old : Int} (h : HS o f old) (o' : Bool) : HS o' (upP f 3 ⟨true, o', 5, 0⟩) 0 :=
  ⟨fun j hj hne => by rw [upP_other _ _ _ _ hne]; exact h.off j hj hne, by rw [upP_same]; rfl, Int.le_refl _⟩
theorem HS.first : HS false (upP nP 3 ⟨true, false, 5, 0⟩) 0 :=
  ⟨fun j _ hne => by rw [upP_other _ _ _ _ hne]; rfl, by rw [upP_same]; rfl, Int.le_refl _⟩
theorem HS.alive {o : Bool} {f : Nat → Pe} {old : Int} (h : HS o f old) : alV f 16 = if old ≤ 3 ∧ o = false then [3] else [] := by
  have h0 := h.lo
  have e3 : on (f 3) = decide (old ≤ 3 ∧ o = false) := by
    rw [h.three]
    unfold on hd
    simp only [Bool.true_and]
    have : (decide (capV old ≤ 3)) = decide (old ≤ 3) := by
      unfold capV
      by_cases e : old ≤ 3
      · rw [if_pos (by omega)]
      · rw [if_neg (by omega), decide_eq_false e]; rfl
    rw [this]
    cases o <;> simp
  have e : alV f 16 = flt (fun j => decide (j = 3) && on (f 3)) 16 := by
    rw [alV_flt]
    refine flt_congr _ _ _ (fun j hj => ?_)
    by_cases e : j = 3
    · subst e; simp
    · rw [h.off j hj e]; simp [e]; rfl
  rw [e, e3]
  by_cases hc : old ≤ 3 ∧ o = false
  · rw [if_pos hc, decide_eq_true hc]; rfl
  · rw [if_neg hc, decide_eq_false hc]; rfl

set_option maxHeartbeats 2000000 in
set_option maxRecDepth 100000 in
theorem tholds_walk (a b : Int) (out : Bool) (ha : (Lit.int .i64 a).wf = true) (hb : (Lit.int .i64 b).wf = true) (w : World) :
    Calls Try.prog 5 #[.int .i64 a, .int .i64 b, .bool out] w fun e w' => e = .returned (.bool true) ∧ w.grownBy w' none := by
  obtain ⟨E, hE, _, hnum⟩ := numberTo_nat a 6 (by omega) (by omega) ha
  obtain ⟨N, hN, _, hnum2⟩ := numberTo_nat b 20 (by omega) (by omega) hb
  have HN := Lib.hid hnum
  have HN2 := Lib.hid hnum2
  have hz := zeroTb
  clear hnum hnum2
  go_enter Try.func5, Try.ntmps5
  go_wp2_with fail
  refine (first_any _).mono ?_
  rintro e w1 ⟨rfl, hf⟩
  have T1 := Lib.hid (new_tb w1)
  have F1 := Lib.hid (hf.trans (Fr.alloc w1 (.cells zTb 28) []))
  have HP := Lib.hid hf.size
  clear hf
  go_wp2_with fail
  refine (HN.out _).mono ?_
  rintro e w2 ⟨rfl, rfl⟩
  go_wp2_with fail
  refine (HN2.out _).mono ?_
  rintro e w2 ⟨rfl, rfl⟩
  go_wp2_with fail
  refine (hear_yes w1.heap.size (fun _ => zP) 0 3 5 1 false _ T1.out (by omega) (by omega) (by omega) (by decide)).mono ?_
  rintro e w2 ⟨rfl, ht, hf⟩
  have T2 := Lib.hid (show Tb w2 w1.heap.size (upP nP 3 ⟨true, false, 5, 0⟩) 1 from ht)
  have F2 := Lib.hid (F1.out.new hf (by have := HP.out; simp; omega))
  clear ht hf T1 F1
  go_wp2
  go_loopw [9, 10] (fun old i wr => ∃ (d : Nat) (f : Nat → Pe) (s q : Int), d ≤ N ∧ i = .int .i64 ((d : Int) + 1) ∧ old = .int .i64 q ∧ q ≤ d ∧ 0 ≤ s ∧ s < 99 ∧ HS (decide (E + 1 ≤ d) && out) f q ∧ Tb wr w1.heap.size f s ∧ Fr w wr []) (fun _ i _ => N + 1 - (intOf i).toNat)
  case atStart => exact ⟨0, _, 1, 0, by omega, rfl, rfl, by omega, by omega, by omega, HS.first, T2.out, F2.out⟩
  case round =>
    obtain ⟨d, f, s, q, hd, rfl, rfl, hq, hs0, hs1, hs, ht, hf⟩ := hrel
    clear T2 F2
    have S0 := Lib.hid hs
    have T0 := Lib.hid ht
    have F0 := Lib.hid hf
    have hq0 := hs.lo
    clear hs ht hf
    by_cases hlt : d < N
    · go_wp2_with fail
      refine (tick_any w1.heap.size f s _ T0.out S0.out.ag).mono ?_
      rintro e w3 ⟨rfl, ht, hf⟩
      have S3 := Lib.hid S0.out.tick
      have T3 := Lib.hid ht
      have F3 := Lib.hid (F0.out.new hf (by have := HP.out; simp; omega))
      clear ht hf
      have H3 := Lib.hid S3.out.three
      by_cases hm : ((d : Int) + 1) % ((E : Int) + 1) = 0
      · have he : (((d : Int) + 1) % ((E : Int) + 1) == 0) = true := by simpa using hm
        have hEd : E ≤ d := by
          by_cases e : E ≤ d
          · exact e
          · rw [Int.emod_eq_of_lt (by omega) (by omega)] at hm; omega
        have hno := Lib.hid (show ¬ ((0 : Int) ≤ 3 ∧ (3 : Int) < 16 ∧ (0 : Int) ≤ 4 ∧ (0 : Int) ≤ 99 ∧ (tkP f (3 : Int).toNat).li ≤ 4) from fun h => by
          have := h.2.2.2.2
          rw [show (3 : Int).toNat = 3 from rfl, H3.out] at this
          exact absurd this (by simp))
        have hyes := Lib.hid (show (tkP f 3).li ≤ 5 by rw [H3.out]; simp)
        clear hm
        go_wp2_with fail
        refine (hear_no w1.heap.size _ s 3 4 99 true _ T3.out hno.out).mono ?_
        rintro e w4 ⟨rfl, rfl⟩
        go_wp2_with fail
        refine (hear_yes w1.heap.size _ s 3 5 ((d : Int) + 1) out _ T3.out (by omega) (by omega) (by omega) hyes.out).mono ?_
        rintro e w4 ⟨rfl, ht, hf⟩
        have S4 := Lib.hid (S3.out.hear out)
        have T4 := Lib.hid ht
        have F4 := Lib.hid (F3.out.new hf (by have := HP.out; simp; omega))
        clear ht hf
        go_wp2_with fail
        refine (alive_any w1.heap.size _ _ _ T4.out).mono ?_
        rintro e w5 ⟨u, rfl, ho, hf⟩
        have T5 := Lib.hid (T4.out.fr hf (by simp))
        have F5 := Lib.hid (F4.out.trans hf)
        have HO := Lib.hid (show decide (E + 1 ≤ d + 1) = true by simp; omega)
        have hms : (mx s ((d : Int) + 1) < 99) ∧ 0 ≤ mx s ((d : Int) + 1) := by unfold mx; omega
        have HM := Lib.hid hms
        rw [S4.out.alive] at ho
        clear hf hms
        cases out with
        | false =>
          rw [if_pos ⟨by decide, rfl⟩] at ho
          obtain ⟨ua, uc, hv⟩ := row_shape ho
          replace hv : u = .slice ua 1 uc := hv
          subst hv
          clear ho
          go_wp2
          go_roundw
          case rel => exact ⟨d + 1, _, _, 0, by omega, by go_num, rfl, by omega, HM.out.2, HM.out.1, by rw [HO.out]; exact S4.out, T5.out, F5.out⟩
          case measure => simp [intOf]; omega
        | true =>
          rw [if_neg (by simp)] at ho
          obtain ⟨ua, uc, hv⟩ := row_shape ho
          replace hv : u = .slice ua 0 uc := hv
          subst hv
          clear ho
          go_wp2
          go_roundw
          case rel => exact ⟨d + 1, _, _, 0, by omega, by go_num, rfl, by omega, HM.out.2, HM.out.1, by rw [HO.out]; exact S4.out, T5.out, F5.out⟩
          case measure => simp [intOf]; omega
      · have he : (((d : Int) + 1) % ((E : Int) + 1) == 0) = false := by simpa using hm
        have hne : d ≠ E := by rintro rfl; exact hm (Int.emod_self)
        have HO := Lib.hid (show decide (E + 1 ≤ d + 1) = decide (E + 1 ≤ d) from decide_eq_decide.2 (by omega))
        clear hm
        go_wp2_with fail
        refine (alive_any w1.heap.size _ _ _ T3.out).mono ?_
        rintro e w5 ⟨u, rfl, ho, hf⟩
        have T5 := Lib.hid (T3.out.fr hf (by simp))
        have F5 := Lib.hid (F3.out.trans hf)
        rw [S3.out.alive] at ho
        clear hf
        by_cases hq3 : q + 1 ≤ 3
        · by_cases hoo : (decide (E + 1 ≤ d) && out) = false
          · rw [if_pos ⟨hq3, hoo⟩] at ho
            obtain ⟨ua, uc, hv⟩ := row_shape ho
            replace hv : u = .slice ua 1 uc := hv
            subst hv
            have HOO := Lib.hid hoo
            by_cases hEd : d + 1 < E + 1
            · have hEd2 : d < E := by omega
              have hEd3 : decide ((d : Int) < (E : Int)) = true := by simp; omega
              clear ho hoo hne
              cases out with
              | false =>
                go_wp2
                go_roundw
                case rel => exact ⟨d + 1, _, _, _, by omega, by go_num, rfl, by omega, by omega, by omega, by rw [HO.out]; exact S3.out, T5.out, F5.out⟩
                case measure => simp [intOf]; omega
              | true =>
                go_wp2
                go_roundw
                case rel => exact ⟨d + 1, _, _, _, by omega, by go_num, rfl, by omega, by omega, by omega, by rw [HO.out]; exact S3.out, T5.out, F5.out⟩
                case measure => simp [intOf]; omega
            · obtain rfl : out = false := by
                have h1 : decide (E + 1 ≤ d) = true := by simp; omega
                simpa [h1] using hoo
              clear ho hoo hne
              go_wp2
              all_goals
                go_roundw
                case rel => exact ⟨d + 1, _, _, _, by omega, by go_num, rfl, by omega, by omega, by omega, by rw [HO.out]; exact S3.out, T5.out, F5.out⟩
                case measure => simp [intOf]; omega
          · rw [if_neg (fun h => hoo h.2)] at ho
            obtain ⟨ua, uc, hv⟩ := row_shape ho
            replace hv : u = .slice ua 0 uc := hv
            subst hv
            have hoo' : (decide (E + 1 ≤ d) && out) = true := by simpa using hoo
            have hEd : ¬ d + 1 < E + 1 := by
              have := (Bool.and_eq_true_iff.1 hoo').1
              simp at this; omega
            obtain rfl : out = true := (Bool.and_eq_true_iff.1 hoo').2
            clear ho hoo hoo' hne
            go_wp2
            all_goals
              go_roundw
              case rel => exact ⟨d + 1, _, _, _, by omega, by go_num, rfl, by omega, by omega, by omega, by rw [HO.out]; exact S3.out, T5.out, F5.out⟩
              case measure => simp [intOf]; omega
        · rw [if_neg (fun h => hq3 h.1)] at ho
          obtain ⟨ua, uc, hv⟩ := row_shape ho
          replace hv : u = .slice ua 0 uc := hv
          subst hv
          clear ho hne
          go_wp2
          all_goals
            go_roundw
            case rel => exact ⟨d + 1, _, _, _, by omega, by go_num, rfl, by omega, by omega, by omega, by rw [HO.out]; exact S3.out, T5.out, F5.out⟩
            case measure => simp [intOf]; omega
    · obtain rfl : d = N := by omega
      have HL := Lib.hid (life_yes w1.heap.size f s 3 _ T0.out (by omega))
      rw [S0.out.three] at HL
      go_wp2_with fail
      refine HL.out.mono ?_
      rintro e w4 ⟨rfl, hf⟩
      have T4 := Lib.hid (T0.out.fr hf (by simp))
      have F4 := Lib.hid (F0.out.trans hf)
      clear hf
      go_wp2_with fail
      refine (seen_any w1.heap.size f s _ T4.out).mono ?_
      rintro e w5 ⟨rfl, rfl⟩
      go_wp2
      go_ret
      exact ⟨rfl, F4.out.grown (by simp)⟩
end Go.Proofs.Ytgpdpembddajhaa
