/- All have bid as soon as the last one has. -/
import Derived.Test.YtfphihhcclfmnaaBiC
namespace Go.Proofs.Ytfphihhcclfmnaa
open Go.RowKit

/-- Who bids next, of n, from k on. -/
def nextM (ms : List Int) (k i : Nat) : Int := ms.getD ((i + k) % ms.length) 0
/-- The bids behind i of them. -/
def bidsM (ms : List Int) (k : Nat) : Nat → List (Int × Int)
  | 0 => []
  | i + 1 => putB (bidsM ms k i) (nextM ms k i, (i : Int))
theorem bidsM_len (ms : List Int) (k : Nat) : ∀ i, (bidsM ms k i).length ≤ i
  | 0 => Nat.le_refl _
  | i + 1 => by
    have := bidsM_len ms k i
    show (putB _ _).length ≤ _
    unfold putB
    split
    · omega
    · rw [insB_length]; omega
/-- How many have not bid, of the first j. -/
def leftM (ms : List Int) (l : List (Int × Int)) (j : Nat) : Nat := (ms.take j).countP fun m => (bidOf l m).isNone
theorem leftM_more {ms : List Int} {l : List (Int × Int)} {j : Nat} (h : j < ms.length) : leftM ms l (j + 1) = leftM ms l j + if (bidOf l (ms.getD j 0)).isNone = true then 1 else 0 := by
  unfold leftM
  rw [List.take_succ_eq_append_getElem h, List.countP_append, List.countP_singleton]
  have e : ms.getD j 0 = ms[j] := by rw [List.getD_eq_getElem?_getD, List.getElem?_eq_getElem h]; rfl
  rw [e]
theorem leftM_le (ms : List Int) (l : List (Int × Int)) (j : Nat) : leftM ms l j ≤ j := by
  unfold leftM
  have := List.countP_le_length (p := fun m => (bidOf l m).isNone) (l := ms.take j)
  rw [List.length_take] at this
  omega
theorem leftM_full (ms : List Int) (l : List (Int × Int)) : fullB ms l = decide (leftM ms l ms.length = 0) := by
  rw [Bool.eq_iff_iff, decide_eq_true_iff]
  unfold fullB leftM
  rw [List.take_length, List.all_eq_true, List.countP_eq_zero]
  constructor
  · intro h m hm q
    have := h m hm
    rw [Option.isNone_iff_eq_none] at q
    rw [q] at this
    cases this
  · intro h m hm
    have := h m hm
    cases e : bidOf l m with
    | none => rw [e] at this; simp at this
    | some y => rfl
theorem fullB_all (ms : List Int) (k : Nat) (hk : k ≤ ms.length) : fullB ms (bidsM ms k ms.length) = true := by
  have key : ∀ i j, j < i → i ≤ ms.length → (bidOf (bidsM ms k i) (nextM ms k j)).isSome = true := by
    intro i
    induction i with
    | zero => intro j hj; omega
    | succ i ih =>
      intro j hj hi
      show (bidOf (putB (bidsM ms k i) (nextM ms k i, (i : Int))) (nextM ms k j)).isSome = true
      rw [bidOf_put, Bool.or_eq_true, decide_eq_true_iff]
      by_cases e : j = i
      · right; rw [e]
      · left; exact ih j (by omega) (by omega)
  unfold fullB
  rw [List.all_eq_true]
  intro m hm
  obtain ⟨i, hi, rfl⟩ := List.getElem_of_mem hm
  have hn : 0 < ms.length := by omega
  obtain ⟨j, hj, e⟩ : ∃ j, j < ms.length ∧ (j + k) % ms.length = i := by
    by_cases g : k ≤ i
    · exact ⟨i - k, by omega, by rw [show i - k + k = i by omega]; exact Nat.mod_eq_of_lt hi⟩
    · refine ⟨i + ms.length - k, by omega, ?_⟩
      rw [show i + ms.length - k + k = i + ms.length by omega, Nat.add_mod_right]
      exact Nat.mod_eq_of_lt hi
  have := key ms.length j hj (Nat.le_refl _)
  unfold nextM at this
  rw [e, List.getD_eq_getElem?_getD, List.getElem?_eq_getElem hi] at this
  exact this

set_option maxHeartbeats 4000000 in
set_option maxRecDepth 100000 in
theorem bfull_true (vm : Value) (ms : List Int) (k1 : Int) (a10 : -9223372036854775808 ≤ k1) (a11 : k1 ≤ 9223372036854775807) (w : World) (hm : HInts w vm ms) :
    Calls Try.prog 6 #[vm, .int .i64 k1] w fun x w' => x = .returned (.bool true) ∧ Fr w w' [] := by
  have HM := Lib.hid hm
  obtain ⟨a, cap, rfl, p1, q1, r1⟩ := hm
  unfold maxLen at q1
  have HLS := Lib.hid r1
  clear r1
  go_enter Try.func6, Try.ntmps6
  go_wp2_with fail
  with_reducible refine (bfirst_any _).mono ?_
  rintro v w1 ⟨rfl, hf⟩
  have F1 := Lib.hid hf
  clear hf
  by_cases h10 : 10 < ms.length
  · have hlen : decide (10 < (ms.length : Int)) = true := decide_eq_true (by omega)
    go_wp2
    go_ret
    exact ⟨rfl, F1.out⟩
  · have hlen : decide (10 < (ms.length : Int)) = false := decide_eq_false (by omega)
    obtain ⟨n, hn⟩ : ∃ n, n = ms.length := ⟨_, rfl⟩
    have HN := Lib.hid hn
    rw [← hn] at hlen h10 p1 HLS HM ⊢
    clear hn
    have hw1 : IntKind.i64.wrap ((n : Int) + 1) = (n : Int) + 1 := IntWalk.i64_in _ (by omega)
    have NU := Lib.hid (fun W => numberTo_any k1 ((n : Int) + 1) W (by omega) (by omega) a10 a11)
    have K0 := Int.emod_nonneg k1 (show (n : Int) + 1 ≠ 0 by omega)
    have K1 := Int.emod_lt_of_pos k1 (show 0 < (n : Int) + 1 by omega)
    obtain ⟨k, hk⟩ := Int.eq_ofNat_of_zero_le K0
    rw [hk] at NU K1
    clear K0 hk a10 a11
    go_wp2_with fail
    with_reducible refine (NU.out _).mono ?_
    rintro v w2 ⟨rfl, rfl⟩
    clear NU hw1
    have N0 := Lib.hid (nil_bids (w := w1))
    go_wp2
    go_loopw [6, 8] (fun s6 s8 wx => ∃ i : Nat, s8 = .int .i64 i ∧ Hid (i ≤ n) ∧ Hid (HB wx s6 (bidsM ms k i)) ∧ Hid (Fr w wx [])) (fun _ s8 _ => n - (intOf s8).toNat)
    case atStart => exact ⟨0, rfl, Lib.hid (Nat.zero_le _), N0, F1⟩
    case round =>
      clear N0 F1
      obtain ⟨i, rfl, HI, HBx, HF⟩ := hrel
      have hi := HI.out
      have hBL := bidsM_len ms k i
      obtain ⟨L, hL⟩ : ∃ L, L = bidsM ms k i := ⟨_, rfl⟩
      rw [← hL] at HBx hBL
      by_cases hlt : i < n
      · obtain ⟨bk, off, rfl, hc⟩ := HLS.out (by omega)
        obtain ⟨e, he⟩ : ∃ e, e = (i + k) % n := ⟨_, rfl⟩
        have hen : e < n := by rw [he]; exact Nat.mod_lt _ (by omega)
        have x0 := HF.out.cell (hc e hen) (by simp)
        obtain ⟨m, hm⟩ : ∃ m, m = ms.getD e 0 := ⟨_, rfl⟩
        rw [← hm] at x0
        have HMm := Lib.hid (show m = nextM ms k i by rw [hm, he]; unfold nextM; rw [← HN.out])
        obtain ⟨s, hs⟩ : ∃ s, s = (i : Int) + (k : Int) := ⟨_, rfl⟩
        have W1 : IntKind.i64.wrap ((i : Int) + (k : Int)) = s := by rw [hs]; exact IntWalk.i64_in _ (by omega)
        have W2 : s.tmod (n : Int) = (e : Int) := by
          rw [Int.tmod_eq_emod_of_nonneg (by omega), he, hs, ← Int.natCast_add]; exact (Int.natCast_emod _ _).symm
        have W3 : IntKind.i64.wrap (e : Int) = (e : Int) := IntWalk.i64_in _ (by omega)
        have hne : ¬ (n : Int) = 0 := by omega
        have hne2 : ¬ n = 0 := by omega
        obtain ⟨g, hg⟩ : ∃ g, g = (bidOf L m).isSome := ⟨_, rfl⟩
        have PU := Lib.hid (bput_any u6 L (m, (i : Int)) wr HBx.out (by omega) (!g) (by rw [hg]; cases bidOf L m <;> rfl))
        obtain ⟨y, hy⟩ := bidOf_some L m
        rw [← hg] at hy
        have OF := Lib.hid (fun W (f : Fr wr W []) => bof_any u6 L m W (HBx.out.keep f) (by omega) y g hy)
        have HE : ((!g) == g) = false := by cases g <;> rfl
        obtain ⟨M, hM⟩ : ∃ M, M = putB L (m, (i : Int)) := ⟨_, rfl⟩
        have HMM := Lib.hid (show bidsM ms k (i + 1) = M by rw [hM, hL, HMm.out]; rfl)
        have hML : M.length ≤ i + 1 := by rw [← HMM.out]; exact bidsM_len ms k (i + 1)
        rw [← hM] at PU
        clear he hs hm hc hg hy hM hL HMm HBx
        dsimp only [bidV] at PU OF
        go_wp2_with fail
        with_reducible refine (PU.out).mono ?_
        rintro v w2 ⟨u', rfl, hb, hf⟩
        have B2 := Lib.hid hb
        have F2 := Lib.hid (HF.out.trans hf)
        have OF1 := Lib.hid (OF.out w2 hf)
        clear hb hf PU OF x0 W1 W2 W3
        go_wp2_with fail
        with_reducible refine (OF1.out).mono ?_
        rintro v w3 ⟨rfl, hf⟩
        have B3 := Lib.hid ((B2.out.keep hf).keep (Fr.alloc w3 (.cells #[.int .i64 y.1, .int .i64 y.2] 24) []))
        have F3 := Lib.hid ((F2.out.trans hf).trans (Fr.alloc w3 (.cells #[.int .i64 y.1, .int .i64 y.2] 24) []))
        clear hf B2 F2 OF1 HF
        go_upto_region 16 with fail
        generalize World.alloc w3 _ = w4 at *
        clear HE
        go_wp2
        go_loopw [14, 15] (fun s14 s15 wx => ∃ j : Nat, s15 = .int .i64 j ∧ s14 = .int .i64 (leftM ms M j) ∧ Hid (j ≤ n) ∧ Hid (HB wx u' M) ∧ Hid (Fr w wx [])) (fun _ s15 _ => n - (intOf s15).toNat)
        case atStart => exact ⟨0, rfl, by simp [leftM], Lib.hid (Nat.zero_le _), B3, F3⟩
        case round =>
          clear B3 F3
          obtain ⟨j, rfl, rfl, HJ, HBy, HFy⟩ := hrel
          have hj := HJ.out
          have hlf := leftM_le ms M j
          by_cases hlt2 : j < n
          · obtain ⟨bk2, off2, e2, hc2⟩ := HLS.out (by omega)
            simp only [Option.some.injEq, Addr.mk.injEq, and_true] at e2
            obtain ⟨rfl, rfl⟩ := e2
            have x0 := HFy.out.cell (hc2 j hlt2) (by simp)
            have HMO := Lib.hid (leftM_more (l := M) (show j < ms.length by rw [← HN.out]; exact hlt2))
            obtain ⟨q, hq⟩ : ∃ q, q = ms.getD j 0 := ⟨_, rfl⟩
            rw [← hq] at x0 HMO
            obtain ⟨y2, hy2⟩ := bidOf_some M q
            obtain ⟨g2, hg2⟩ : ∃ g2, g2 = (bidOf M q).isSome := ⟨_, rfl⟩
            rw [← hg2] at hy2
            have HG2 := Lib.hid hg2
            have OF2 := Lib.hid (bof_any u' M q wr HBy.out (by omega) y2 g2 hy2)
            clear hq hy2 hc2 hg2
            dsimp only [bidV] at OF2
            go_wp2_with fail
            with_reducible refine (OF2.out).mono ?_
            rintro v w5 ⟨rfl, hf⟩
            have B5 := Lib.hid ((HBy.out.keep hf).keep (Fr.alloc w5 (.cells #[.int .i64 y2.1, .int .i64 y2.2] 24) []))
            have F5 := Lib.hid ((HFy.out.trans hf).trans (Fr.alloc w5 (.cells #[.int .i64 y2.1, .int .i64 y2.2] 24) []))
            clear hf HBy HFy OF2 x0
            have hw2 : IntKind.i64.wrap ((leftM ms M j : Int) + 1) = (leftM ms M j : Int) + 1 := IntWalk.i64_in _ (by omega)
            cases g2 with
            | true =>
              have HL2 := Lib.hid (show leftM ms M (j + 1) = leftM ms M j by
                rw [HMO.out]
                have := HG2.out
                cases e : bidOf M q with
                | none => rw [e] at this; cases this
                | some z => simp)
              clear HMO HG2 hw2
              go_wp2
              go_roundw
              case rel => exact ⟨j + 1, by go_num, by rw [HL2.out], Lib.hid (by omega), B5, F5⟩
              case measure => simp [intOf]; omega
            | false =>
              have HL2 := Lib.hid (show leftM ms M (j + 1) = leftM ms M j + 1 by
                rw [HMO.out]
                have := HG2.out
                cases e : bidOf M q with
                | none => simp
                | some z => rw [e] at this; cases this)
              clear HMO HG2
              go_wp2
              go_roundw
              case rel => exact ⟨j + 1, by go_num, by rw [HL2.out]; simp, Lib.hid (by omega), B5, F5⟩
              case measure => simp [intOf]; omega
          · obtain rfl : j = n := by omega
            obtain ⟨ff, hff⟩ : ∃ ff, ff = fullB ms M := ⟨_, rfl⟩
            have FU := Lib.hid (bfull_any (.slice (some ⟨bk, off, none⟩) j cap) ms u' M wr (HM.out.fr HFy.out (by simp)) HBy.out (by omega) (by rw [← HN.out]; omega) ff hff)
            have HZ : decide (leftM ms M j = 0) = ff := by rw [hff, leftM_full, ← HN.out]
            have HZ1 : ((leftM ms M j : Int) == 0) = ff := by
              rw [← HZ]
              by_cases z : leftM ms M j = 0
              · rw [z]; rfl
              · rw [decide_eq_false z]; simp [z]
            have HZ2 : (leftM ms M j == 0) = ff := by
              rw [← HZ]
              by_cases z : leftM ms M j = 0
              · rw [z]; rfl
              · rw [decide_eq_false z]; simp [z]
            clear hff
            go_wp2_with fail
            with_reducible refine (FU.out).mono ?_
            rintro v w5 ⟨rfl, hf⟩
            have B5 : Hid (HB w5 u' (bidsM ms k (i + 1))) := by rw [HMM.out]; exact Lib.hid (HBy.out.keep hf)
            have F5 := Lib.hid (HFy.out.trans hf)
            clear hf HBy HFy FU
            have hw3 : IntKind.i64.wrap ((i : Int) + 1) = (i : Int) + 1 := IntWalk.i64_in _ (by omega)
            go_wp2
            go_roundw
            case rel => exact ⟨i + 1, by go_num, Lib.hid (by omega), B5, F5⟩
            case measure => simp [intOf]; omega
      · obtain rfl : i = n := by omega
        have FU := Lib.hid (bfull_any (.slice a i cap) ms u6 L wr (HM.out.fr HF.out (by simp)) HBx.out (by omega) (by rw [← HN.out]; omega) true (by rw [hL, HN.out]; exact (fullB_all ms k (by rw [← HN.out]; omega)).symm))
        have FV := Lib.hid (fun W => bfull_any (.slice none 0 0) [] (.slice none 0 0) [] W ⟨none, 0, rfl, by simp, by decide, fun h => absurd h (by simp)⟩ nil_bids (by simp) (by simp) true rfl)
        clear hL HBx hBL
        go_wp2_with fail
        with_reducible refine (FU.out).mono ?_
        rintro v w5 ⟨rfl, hf⟩
        have F5 := Lib.hid (HF.out.trans hf)
        clear hf HF FU
        go_wp2_with fail
        with_reducible refine (FV.out _).mono ?_
        rintro v w6 ⟨rfl, hf⟩
        have F6 := Lib.hid (F5.out.trans hf)
        clear hf
        go_wp2
        go_ret
        exact ⟨rfl, F6.out⟩
theorem bfull_walk (vm : Value) (ms : List Int) (k1 : Int) (a10 : -9223372036854775808 ≤ k1) (a11 : k1 ≤ 9223372036854775807) (W : World) (hm : HInts W vm ms) :
    Calls Try.prog 6 #[vm, .int .i64 k1] W fun x w' => x = .returned (.bool true) ∧ W.grownBy w' none :=
  (bfull_true vm ms k1 a10 a11 W hm).mono fun _ _ ⟨he, hf⟩ => ⟨he, hf.grown (by simp)⟩
end Go.Proofs.Ytfphihhcclfmnaa
