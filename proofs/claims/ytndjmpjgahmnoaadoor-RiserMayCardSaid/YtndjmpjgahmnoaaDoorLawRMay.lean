/- The law of what may be: of a house just two calls a floor may be, but at its ends one; all pressed all are lit, by floors, Down ahead of Up: its walk. -/
import Derived.Test.YtndjmpjgahmnoaaDoorRFirst
import Derived.Test.YtndjmpjgahmnoaaDoorRSame
import Derived.Test.YtndjmpjgahmnoaaDoorNum
import Derived.Deep.DeepCutAuto
import Derived.Deep.CutBlock
namespace Go.Proofs.YtndjmpjgahmnoaaDoor
open Go.RowKit

def vB (n k : Nat) : Bool := decide (0 < k) && decide (k + 1 < 2 * n)
theorem vB_iff (n k : Nat) : vB n k = true ↔ 0 < k ∧ k + 1 < 2 * n := by simp [vB]
/-- All from button t on were pressed. -/
def mS (n : Nat) (t : Int) : RS := ⟨n, fun k => decide (t ≤ (k : Int)) && vB n k, fun k => if decide (t ≤ (k : Int)) && vB n k then 1 else 0⟩
theorem mS_press (n k : Nat) (hv : vB n k = true) : (mS n ((k : Int) + 1)).press k = mS n (k : Int) := by
  unfold mS RS.press
  congr 1
  · funext j
    by_cases e : j = k
    · subst e; simp [updB, hv]
    · have : (((k : Int) + 1 ≤ (j : Int)) ↔ ((k : Int) ≤ (j : Int))) := by omega
      simp [updB, e, this]
  · funext j
    by_cases e : j = k
    · subst e; simp [updG, hv]; omega
    · have : (((k : Int) + 1 ≤ (j : Int)) ↔ ((k : Int) ≤ (j : Int))) := by omega
      simp [updG, e, this]
theorem mS_skip (n : Nat) (t t' : Int) (h : ∀ k : Nat, vB n k = true → (t ≤ (k : Int) ↔ t' ≤ (k : Int))) : mS n t = mS n t' := by
  have : (fun k : Nat => decide (t ≤ (k : Int)) && vB n k) = fun k : Nat => decide (t' ≤ (k : Int)) && vB n k := by
    funext k
    cases e : vB n k with
    | false => simp
    | true => simp [h k e]
  unfold mS
  rw [this]
  congr 1
  funext k
  rw [show (decide (t ≤ (k : Int)) && vB n k) = (decide (t' ≤ (k : Int)) && vB n k) from congrFun this k]
theorem mS_zero (n : Nat) (t : Int) (h : 2 * (n : Int) ≤ t) : mS n t = zS n := by
  have : ∀ k : Nat, (decide (t ≤ (k : Int)) && vB n k) = false := by
    intro k
    cases e : vB n k with
    | false => simp
    | true => have := (vB_iff n k).1 e; simp; omega
  unfold mS zS
  congr 1
  · funext k; exact this k
  · funext k; rw [this k]; rfl
theorem mS_ok (n : Nat) (t : Int) (h : n ≤ 64) : (mS n t).ok := by
  refine ⟨h, fun k hk => ?_⟩
  simp [mS] at hk
  exact (vB_iff n k).1 hk.2
/-- From which button on all were pressed, ahead of floor f, way d. -/
def thr (f d : Int) : Int := if 1 ≤ d then 2 * f + 2 else if -1 ≤ d then 2 * f + 1 else 2 * f
theorem thr_key {n : Nat} {f d : Int} {k : Nat} (h : Key n f d k) : thr f d = (k : Int) + 1 ∧ thr f (d - 1) = (k : Int) ∧ vB n k = true := by
  obtain ⟨h1, h2, rfl, rfl⟩ := h
  refine ⟨?_, ?_, (vB_iff n k).2 ⟨h1, h2⟩⟩
  · unfold thr; split <;> (try split) <;> omega
  · unfold thr; split <;> (try split) <;> omega
theorem thr_no {n : Nat} {f d : Int} (h : mayB n f d = false) : mS n (thr f d) = mS n (thr f (d - 1)) := by
  refine mS_skip _ _ _ (fun k hv => ?_)
  have hv' := (vB_iff n k).1 hv
  have hno : ¬ Key n f d k := fun hk => by rw [hk.may] at h; cases h
  have h1 : d = 1 → (k : Int) ≠ 2 * f + 1 := fun hd e => hno ⟨hv'.1, hv'.2, by omega, by omega⟩
  have h2 : d = -1 → (k : Int) ≠ 2 * f := fun hd e => hno ⟨hv'.1, hv'.2, by omega, by omega⟩
  unfold thr
  by_cases e1 : d = 1
  · subst e1; have := h1 rfl; simp; omega
  · by_cases e2 : d = -1
    · subst e2; have := h2 rfl; simp; omega
    · split <;> (try split) <;> (try split) <;> (try split) <;> omega
theorem thr_hi (f : Int) : thr f 2 = 2 * f + 2 := rfl
theorem thr_lo (f : Int) : thr f (-3) = 2 * (f - 1) + 2 := by show 2 * f = _; omega
theorem mS_L_no {n k : Nat} {t : Int} (h : (k : Int) < t) : (mS n t).L k = false := by simp [mS]; intro; omega
theorem mS_G_no {n k : Nat} {t : Int} (h : (k : Int) < t) : (mS n t).G k = 0 := by simp [mS]; omega
/-- How many may be. -/
theorem all_list (n : Nat) : ∀ N, N + 2 ≤ 2 * n → (List.range (N + 1)).filter (vB n) = (List.range N).map (· + 1)
  | 0, _ => by simp [vB, List.range_succ]
  | N + 1, h => by
    rw [List.range_succ, List.filter_append, all_list n N (by omega), List.range_succ (n := N), List.map_append]
    have : vB n (N + 1) = true := (vB_iff _ _).2 ⟨by omega, by omega⟩
    simp [this]
theorem mS_all (n : Nat) (h : 2 ≤ n) (t : Int) (ht : t ≤ 0) : (mS n t).lit = ((List.range (2 * n - 2)).map (· + 1)).map (mS n t).la := by
  unfold RS.lit RS.litTo
  have e : (mS n t).L = vB n := by
    funext k
    show (decide (t ≤ (k : Int)) && vB n k) = vB n k
    rw [decide_eq_true (by omega)]; rfl
  rw [e, show 2 * (mS n t).n = (2 * n - 2 + 1) + 1 by show 2 * n = _; omega, List.range_succ, List.filter_append, all_list n (2 * n - 2) (by omega)]
  have : vB n (2 * n - 2 + 1) = false := by
    cases e : vB n (2 * n - 2 + 1) with
    | false => rfl
    | true => have := (vB_iff _ _).1 e; omega
  simp [this]
theorem mS_len (n : Nat) (h : 2 ≤ n) (t : Int) (ht : t ≤ 0) : (mS n t).lit.length = 2 * n - 2 := by
  rw [mS_all n h t ht]; simp
theorem mS_get (n : Nat) (h : 2 ≤ n) (t : Int) (ht : t ≤ 0) (i : Nat) (hi : i < 2 * n - 2) : (mS n t).lit.getD i zLa = ⟨(((i + 1) / 2 : Nat) : Int), 2 * (((i + 1) % 2 : Nat) : Int) - 1, 1⟩ := by
  rw [mS_all n h t ht]
  have hv : vB n (i + 1) = true := (vB_iff _ _).2 ⟨by omega, by omega⟩
  have hg : (mS n t).G (i + 1) = 1 := by
    show (if decide (t ≤ ((i + 1 : Nat) : Int)) && vB n (i + 1) then (1 : Int) else 0) = 1
    rw [hv, decide_eq_true (by omega)]; rfl
  simp [List.getD, hi, RS.la, hg]

theorem mS_cnt (n k : Nat) (hv : vB n k = true) : (mS n (k : Int)).lit.length = (mS n ((k : Int) + 1)).lit.length + 1 := by
  rw [lit_cnt, lit_cnt, ← mS_press n k hv]
  exact cnt_up _ k (mS_L_no (by omega)) _ (by have := (vB_iff n k).1 hv; show k < 2 * n; omega)
set_option maxHeartbeats 4000000 in
set_option maxRecDepth 100000 in
theorem rmay_walk (x : Int) (hx : (Lit.int .i64 x).wf = true) (w : World) :
    Calls Tryd.prog 6 #[.int .i64 x] w fun e w' => e = .returned (.bool true) ∧ w.grownBy w' none := by
  obtain ⟨F, hF, _, hn0⟩ := numberTo_nat x 63 (by omega) (by omega) hx
  have N0 := Lib.hid hn0
  clear hn0 hx
  go_enter Tryd.func6, Tryd.ntmps6
  go_wp2_with fail
  refine (first_any _).mono ?_
  rintro e w1 ⟨rfl, hf⟩
  have F1 := Lib.hid hf
  clear hf
  go_wp2_with fail
  refine (N0.out _).mono ?_
  rintro e w2 ⟨rfl, rfl⟩
  go_wp2_with fail
  refine (new_at (F + 2) _ (by omega) (by omega) (by omega) _).mono ?_
  rintro e w2 ⟨rfl, hs, hf⟩
  have HP := Lib.hid F1.out.size
  obtain ⟨p, hp⟩ : ∃ p, p = w1.heap.size := ⟨_, rfl⟩
  rw [← hp] at hs HP ⊢
  have S2 := Lib.hid (show Rs w2 p (mS (F + 2) (2 * ((F : Int) + 3) + 2)) by rw [mS_zero _ _ (by omega)]; exact hs)
  have F2 := Lib.hid (F1.out.trans hf)
  have HZ := Lib.hid (show (mS (F + 2) (2 * ((F : Int) + 3) + 2)).lit.length = 0 by rw [mS_zero _ _ (by omega), lit_cnt]; exact cnt_zero _)
  clear hs hf hp
  go_wp2
  go_loopw [6, 7] (fun c i wr => ∃ (f : Int), -3 ≤ f ∧ f ≤ (F : Int) + 3 ∧ i = .int .i64 f ∧ c = .int .i64 (((mS (F + 2) (2 * f + 2)).lit.length : Nat) : Int) ∧ Rs wr p (mS (F + 2) (2 * f + 2)) ∧ Fr w wr []) (fun _ i _ => (intOf i + 3).toNat)
  case atStart => exact ⟨(F : Int) + 3, by omega, by omega, by go_num, by rw [HZ.out]; rfl, S2.out, F2.out⟩
  case round =>
    obtain ⟨f, hf0, hf1, rfl, rfl, hs, hf⟩ := hrel
    have S3 := Lib.hid hs
    have F3 := Lib.hid hf
    clear hs hf S2 F2 HZ
    by_cases hgo : -2 ≤ f
    · go_wp2
      go_loopw [6, 8] (fun c i wr => ∃ (d : Int), -3 ≤ d ∧ d ≤ 2 ∧ i = .int .i64 d ∧ c = .int .i64 (((mS (F + 2) (thr f d)).lit.length : Nat) : Int) ∧ Rs wr p (mS (F + 2) (thr f d)) ∧ Fr w wr []) (fun _ i _ => (intOf i + 3).toNat)
      case atStart => exact ⟨2, by omega, by omega, rfl, rfl, S3.out, F3.out⟩
      case round =>
        obtain ⟨d, hd0, hd1, rfl, rfl, hs, hf⟩ := hrel
        have S4 := Lib.hid hs
        have F4 := Lib.hid hf
        clear hs hf S3 F3
        by_cases hgo2 : -2 ≤ d
        · have AC := Lib.hid (Fr.alloc wr (.cells #[.int .i64 f, .int .i64 d] 24) [])
          have BC := Lib.hid (heap_alloc_new wr (.cells #[.int .i64 f, .int .i64 d] 24))
          obtain ⟨q0, q1⟩ := row2 BC.out
          rcases may_or (F + 2) f d with hm | ⟨k, hk⟩
          · have HM := Lib.hid hm
            have HT := Lib.hid (thr_no hm)
            obtain ⟨c, hc⟩ : ∃ c, (mS (F + 2) (thr f d)).lit.length = c := ⟨_, rfl⟩
            rw [hc]
            have HC := Lib.hid hc
            clear hm hc
            go_wp2_with fail
            refine (may_at (F + 2) _ (by omega) (by omega) _ _ _ false HM.out).mono ?_
            rintro e w3 ⟨rfl, hf⟩
            have S5 := Lib.hid ((S4.out.keep AC.out).keep hf)
            have F5 := Lib.hid ((F4.out.trans AC.out).trans hf)
            clear q0 q1
            obtain ⟨q0, q1⟩ := row2 (hf.heap BC.out (by simp))
            clear hf
            go_wp2_with fail
            refine (press_no p _ f d _ S5.out (by show F + 2 ≤ 64; omega) (by rw [show (mS (F + 2) (thr f d)).n = F + 2 from rfl, HM.out]; rfl)).mono ?_
            rintro e w4 ⟨rfl, hf⟩
            have A6 := Lib.hid (Fr.alloc w4 (.cells #[.int .i64 0, .int .i64 0, .int .i64 0] 32) [])
            have S6 := Lib.hid ((S5.out.keep hf).keep A6.out)
            have F6 := Lib.hid ((F5.out.trans hf).trans A6.out)
            clear hf q0 q1
            go_wp2
            go_roundw
            case rel => exact ⟨d - 1, by omega, by omega, by go_num, by rw [← HT.out, HC.out], by rw [← HT.out]; exact S6.out, F6.out⟩
            case measure => simp [intOf]; omega
          · obtain ⟨t1, t2, hv⟩ := thr_key hk
            have hk1 := hk.may
            have hfd : 0 ≤ f ∧ f < (F : Int) + 2 ∧ (d = 1 ∨ d = -1) := by
              obtain ⟨a1, a2, a3, a4⟩ := hk
              refine ⟨by omega, by omega, by omega⟩
            obtain ⟨hf0', hf1', hdd⟩ := hfd
            have HM := Lib.hid hk1
            have HK := Lib.hid hk
            have T2 := Lib.hid t2
            have S4' := S4.out
            rw [t1] at S4'
            have h1 := press_yes p _ f d k _ ((S4'.keep AC.out)) (by show F + 2 ≤ 64; omega) hk (mS_L_no (by omega)) (by rw [mS_G_no (by omega)]; omega) (by rw [mS_G_no (by omega)]; omega)
            have HCN := Lib.hid (mS_cnt (F + 2) k hv)
            have HPR := Lib.hid (mS_press (F + 2) k hv)
            obtain ⟨c, hc⟩ : ∃ c, (mS (F + 2) (thr f d)).lit.length = c := ⟨_, rfl⟩
            rw [hc]
            rw [t1] at hc
            have HC := Lib.hid hc
            have hc128 : c ≤ 128 := by rw [← hc]; exact Nat.le_trans (RS.litTo_len _ _) (by show 2 * (F + 2) ≤ 128; omega)
            clear hk1 hk t1 t2 hv S4' h1 hc
            rcases hdd with rfl | rfl
            all_goals
              go_wp2_with fail
              refine (may_at (F + 2) _ (by omega) (by omega) _ _ _ true HM.out).mono ?_
              rintro e w3 ⟨rfl, hf⟩
              have S5 := Lib.hid ((S4.out.keep AC.out).keep hf)
              have F5 := Lib.hid ((F4.out.trans AC.out).trans hf)
              clear q0 q1
              obtain ⟨q0, q1⟩ := row2 (hf.heap BC.out (by simp))
              clear hf
              go_wp2_with fail
              refine (press_yes p _ f _ k _ S5.out (by show F + 2 ≤ 64; omega) HK.out (mS_L_no (by have := (thr_key HK.out).1; omega)) (by rw [mS_G_no (by have := (thr_key HK.out).1; omega)]; omega) (by rw [mS_G_no (by have := (thr_key HK.out).1; omega)]; omega)).mono ?_
              rintro e w4 ⟨rfl, hs, hf⟩
              rw [mS_G_no (by have := (thr_key HK.out).1; omega)]
              rw [(thr_key HK.out).1, HPR.out] at hs
              have hz4 := F4.out.size
              have A6 := Lib.hid (fun d g : Int => Fr.alloc w4 (.cells #[.int .i64 f, .int .i64 d, .int .i64 g] 32) [])
              have S6 := Lib.hid hs
              have F6 := Lib.hid (F5.out.new hf (by have := HP.out; simp; omega))
              clear hf hs q0 q1 hz4
              go_wp2
              go_roundw
              case rel => first | exact ⟨1 - 1, by omega, by omega, by go_num, by rw [T2.out, HCN.out, HC.out]; rfl, by rw [T2.out]; exact S6.out.keep (A6.out _ _), F6.out.trans (A6.out _ _)⟩ | exact ⟨-1 - 1, by omega, by omega, by go_num, by rw [T2.out, HCN.out, HC.out]; rfl, by rw [T2.out]; exact S6.out.keep (A6.out _ _), F6.out.trans (A6.out _ _)⟩
              case measure => simp [intOf]
        · obtain rfl : d = -3 := by omega
          rw [thr_lo f] at S4 ⊢
          go_wp2
          go_roundw
          case rel => exact ⟨f - 1, by omega, by omega, by go_num, rfl, S4.out, F4.out⟩
          case measure => simp [intOf]; omega
    · obtain rfl : f = -3 := by omega
      obtain ⟨M, hM⟩ : ∃ M : Nat, M = 2 * F + 2 := ⟨_, rfl⟩
      have hlen : (mS (F + 2) (2 * -3 + 2)).lit.length = M := by rw [mS_len _ (by omega) _ (by omega), hM]; omega
      have hget : ∀ i, i < M → (mS (F + 2) (2 * -3 + 2)).lit.getD i zLa = ⟨(((i + 1) / 2 : Nat) : Int), 2 * (((i + 1) % 2 : Nat) : Int) - 1, 1⟩ := fun i hi => mS_get _ (by omega) _ (by omega) i (by omega)
      obtain ⟨s, hs⟩ : ∃ s, mS (F + 2) (2 * -3 + 2) = s := ⟨_, rfl⟩
      have hok : s.ok := by rw [← hs]; exact mS_ok _ _ (by omega)
      rw [hs] at S3 hlen hget ⊢
      have HOK := Lib.hid hok
      have HGET := Lib.hid hget
      have HLEN := Lib.hid hlen
      rw [hlen]
      have hne : ((M : Int) != 2 * ((F : Int) + 2) - 2) = false := by simp; omega
      have hm1 : 2 ≤ M := by omega
      have hm2 : M ≤ 128 := by omega
      clear hget hok hlen hs hM
      go_wp2_with fail
      refine (lit_any p _ _ S3.out HOK.out).mono ?_
      rintro e w3 ⟨u, rfl, ho, hf⟩
      have S4 := Lib.hid (S3.out.keep hf)
      have F4 := Lib.hid (F3.out.trans hf)
      have hh := ho.holds
      have HL := Lib.hid hh
      obtain ⟨ad, cap, rfl, hl1, hl2, hcells⟩ := hh
      rw [HLEN.out] at HL hl1 hcells ⊢
      unfold maxLen at hl2
      have HCE := Lib.hid hcells
      clear ho hf S3 F3 hcells
      go_wp2
      go_loopw [14] (fun i wr => ∃ j : Nat, j + 1 ≤ M ∧ i = .int .i64 ((j : Int) + 1) ∧ Fr w3 wr []) (fun i _ => M + 1 - (intOf i).toNat)
      case atStart => exact ⟨0, by omega, rfl, Fr.refl _ _⟩
      case round =>
        obtain ⟨j, hj, rfl, hf⟩ := hrel
        have F5 := Lib.hid hf
        clear hf
        by_cases hlt : j + 1 < M
        · obtain ⟨b1, o1, rfl, hc⟩ := HCE.out (by omega)
          have g := hc j (by omega)
          have g' := hc (j + 1) hlt
          rw [HGET.out j (by omega)] at g
          rw [HGET.out (j + 1) hlt] at g'
          obtain ⟨q, hq⟩ : ∃ q, j + 1 = 2 * q ∨ j + 1 = 2 * q + 1 := ⟨(j + 1) / 2, by omega⟩
          rcases hq with hq | hq
          · rw [show (j + 1) / 2 = q by omega, show (j + 1) % 2 = 0 by omega] at g
            rw [show (j + 1 + 1) / 2 = q by omega, show (j + 1 + 1) % 2 = 1 by omega] at g'
            obtain ⟨g0, g1, g2⟩ := g
            obtain ⟨k0, k1, k2⟩ := g'
            replace g0 := F5.out.cell g0 (by simp)
            replace g1 := F5.out.cell g1 (by simp)
            replace k0 := F5.out.cell k0 (by simp)
            replace k1 := F5.out.cell k1 (by simp)
            replace k2 := F5.out.cell k2 (by simp)
            clear hc g2 hq
            have hb : b1 < wr.heap.size := World.block_lt_of_cell? wr _ g0
            have A6 := Lib.hid (fun a b c d : Int => (Fr.alloc wr (.cells #[.int .i64 a, .int .i64 b] 24) []).trans (Fr.alloc _ (.cells #[.int .i64 c, .int .i64 d] 24) []))
            go_wp2
            go_roundw
            case rel => exact ⟨j + 1, by omega, by go_num, F5.out.trans (A6.out _ _ _ _)⟩
            case measure => simp [intOf]; omega
          · rw [show (j + 1) / 2 = q by omega, show (j + 1) % 2 = 1 by omega] at g
            rw [show (j + 1 + 1) / 2 = q + 1 by omega, show (j + 1 + 1) % 2 = 0 by omega] at g'
            obtain ⟨g0, g1, g2⟩ := g
            obtain ⟨k0, k1, k2⟩ := g'
            replace g0 := F5.out.cell g0 (by simp)
            replace g1 := F5.out.cell g1 (by simp)
            replace k0 := F5.out.cell k0 (by simp)
            replace k1 := F5.out.cell k1 (by simp)
            replace k2 := F5.out.cell k2 (by simp)
            clear hc g2 hq
            have hb : b1 < wr.heap.size := World.block_lt_of_cell? wr _ g0
            have hq1 : ¬ (q : Int) > ((q + 1 : Nat) : Int) := by omega
            have hq2 : ((q : Int) == ((q + 1 : Nat) : Int)) = false := by simp; omega
            have A6 := Lib.hid (fun a b c d : Int => (Fr.alloc wr (.cells #[.int .i64 a, .int .i64 b] 24) []).trans (Fr.alloc _ (.cells #[.int .i64 c, .int .i64 d] 24) []))
            go_wp2
            go_roundw
            case rel => exact ⟨j + 1, by omega, by go_num, F5.out.trans (A6.out _ _ _ _)⟩
            case measure => simp [intOf]; omega
        · obtain rfl : M = j + 1 := by omega
          have S5 := Lib.hid (S4.out.keep F5.out)
          have L5 := Lib.hid (HL.out.keep F5.out)
          go_wp2_with fail
          refine (clone_any p s _ S5.out).mono ?_
          rintro e w5 ⟨u, rfl, hu⟩
          obtain ⟨q, hq, hs, hf⟩ : ∃ q, u = .pointer (some ⟨q, 0, none⟩) ∧ Rs w5 q s ∧ Fr wr w5 [] := ⟨_, hu⟩
          clear hu
          subst hq
          have Q6 := Lib.hid hs
          have L6 := Lib.hid (L5.out.keep hf)
          have F6 := Lib.hid ((F4.out.trans F5.out).trans hf)
          clear hs hf
          go_wp2_with fail
          refine (lit_any q _ _ Q6.out HOK.out).mono ?_
          rintro e w7 ⟨u, rfl, ho, hf⟩
          have hh := ho.holds
          have L7 := Lib.hid (L6.out.keep hf)
          have F7 := Lib.hid (F6.out.trans hf)
          have H7 := Lib.hid hh
          clear hh ho hf
          go_wp2_with fail
          refine (latchs_same _ s.lit _ s.lit _ L7.out H7.out true (by simp)).mono ?_
          rintro e w8 ⟨rfl, hf⟩
          have F8 := Lib.hid (F7.out.trans hf)
          clear hf
          go_wp2
          go_ret
          exact ⟨rfl, F8.out.grown (by simp)⟩
end Go.Proofs.YtndjmpjgahmnoaaDoor
