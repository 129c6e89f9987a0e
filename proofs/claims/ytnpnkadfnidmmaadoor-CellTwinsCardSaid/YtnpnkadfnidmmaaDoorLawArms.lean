/- The walk of the law of arms: armed for the n-th write, those ahead do well, that one and all behind it find the power gone. -/
import Derived.Test.YtnpnkadfnidmmaaDoorCell2
import Derived.Test.YtnpnkadfnidmmaaDoorSee3
import Derived.Test.YtnpnkadfnidmmaaDoorNum
namespace Go.Proofs.YtnpnkadfnidmmaaDoor
open Go.RowKit

/-- The chapter's example. -/
theorem first_any (w : World) (A : Nat → Addr) (hE : E13 w A w.heap.size) : Calls Tryd.prog 6 #[] w fun e w' => e = .returned (.bool true) ∧ w.grownBy w' none := by
  have HE := Lib.hid hE
  clear hE
  go_enter Tryd.func6, Tryd.ntmps6
  go_wp2_with fail
  refine (cellNew_ok 4 _ (by omega) (by omega)).mono ?_
  rintro e w1 ⟨u, rfl, p, g, rfl, h1, hp, hg, hf1⟩
  have H1 := Lib.hid h1
  have HF1 := Lib.hid hf1
  clear h1 hf1
  go_wp2_with fail
  refine (cellArm_any p g _ 1 _ H1.out (by omega) 1 (by omega)).mono ?_
  rintro e w2 ⟨rfl, h2, hf2⟩
  have H2 := Lib.hid h2
  have HF2 := Lib.hid (HF1.out.new hf2 (by simp; omega))
  clear h2 hf2
  go_wp2_with fail
  have hput := cellPut_any p g { (CS.new 4) with a := 1 } 0 1 w2 A w.heap.size H2.out (by decide) (HE.out.fr HF2.out (by simp)) hp hg
  rw [show ({ (CS.new 4) with a := 1 } : CS).put 0 1 = ({ (CS.new 4) with a := 0, d := true }, 5) from rfl] at hput
  refine hput.mono ?_
  rintro e w3 ⟨rfl, h3, hf3⟩
  have H3 := Lib.hid h3
  have HF3 := Lib.hid (HF2.out.new hf3 (by simp; omega))
  clear h3 hf3 hput
  go_wp2_with fail
  refine (is_any A w.heap.size 5 _ w3 (HE.out.fr HF3.out (by simp)) (by decide) rfl).mono ?_
  rintro e w4 ⟨rfl, hg4⟩
  have HF4 := Lib.hid (HF3.out.trans (Fr.of_grown hg4 []))
  have H4 := Lib.hid (H3.out.fr (Fr.of_grown hg4 []) (by simp) (by simp))
  clear hg4
  go_wp2_with fail
  refine (cellDown_any p g _ w4 H4.out).mono ?_
  rintro e w5 ⟨rfl, rfl⟩
  go_wp2
  go_ret
  exact ⟨rfl, HF4.out.grown (by simp)⟩

/-- What the law's cell holds behind k writes, armed for the n-th. -/
def armL (m : Nat) : List Int := (List.range 30).map (fun j => if j < m then (j : Int) + 1 else 0)
def armS (n k : Nat) : CS := if n = 0 ∨ k < n then ⟨armL k, (n : Int) - (if n = 0 then 0 else (k : Int)), false, k⟩ else ⟨armL (n - 1), 0, true, (n : Int) - 1⟩
theorem armL_len (m : Nat) : (armL m).length = 30 := by simp [armL]
theorem armL_get (m j : Nat) (h : j < 30) : (armL m).getD j 0 = if j < m then (j : Int) + 1 else 0 := by simp [armL, h]
theorem armL_set (k : Nat) : (armL k).set k ((k : Int) + 1) = armL (k + 1) := by
  refine List.ext_getElem (by simp [armL]) (fun i h1 h2 => ?_)
  simp only [List.getElem_set, armL, List.getElem_map, List.getElem_range]
  by_cases h : k = i
  · rw [if_pos h, if_pos (by omega)]; omega
  · rw [if_neg h]
    by_cases h' : i < k
    · rw [if_pos h', if_pos (by omega)]
    · rw [if_neg h', if_neg (by omega)]
theorem armS_zero (n : Nat) : armS n 0 = { (CS.new 30) with a := (n : Int) } := by
  have e : armL 0 = List.replicate 30 0 := by decide
  unfold armS CS.new
  rw [if_pos (by omega), e]
  split <;> simp
theorem armS_put (n k : Nat) (hk : k < 30) : (armS n k).put (k : Int) ((k : Int) + 1) = (armS n (k + 1), if n = 0 ∨ k + 1 < n then 0 else 5) := by
  by_cases h0 : n = 0 ∨ k < n
  · have e : armS n k = ⟨armL k, (n : Int) - (if n = 0 then 0 else (k : Int)), false, k⟩ := if_pos h0
    rw [e]
    unfold CS.put CS.gone CS.has
    simp only [armL_len]
    by_cases h1 : n = 0 ∨ k + 1 < n
    · rw [if_neg (by simp), if_neg (by simp only [decide_eq_true_eq]; split <;> omega), if_pos (by simp; omega), if_pos h1]
      have e2 : armS n (k + 1) = ⟨armL (k + 1), (n : Int) - (if n = 0 then 0 else ((k + 1 : Nat) : Int)), false, ((k + 1 : Nat) : Int)⟩ := if_pos h1
      rw [e2]
      unfold CS.fg
      by_cases hn : n = 0
      · subst hn
        simp only [if_true]
        rw [if_pos (by simp)]
        simp [armL_set]
      · simp only [if_neg hn]
        rw [if_neg (by omega)]
        simp [armL_set]
        omega
    · rw [if_neg (by simp), if_pos (by simp only [decide_eq_true_eq]; split <;> omega), if_neg h1]
      have e2 : armS n (k + 1) = ⟨armL (n - 1), 0, true, (n : Int) - 1⟩ := if_neg h1
      rw [e2]
      unfold CS.fg
      have hn : ¬ n = 0 := by omega
      have hk1 : k = n - 1 := by omega
      simp only [if_neg hn]
      rw [if_neg (by omega)]
      subst hk1
      simp
      omega
  · have e : armS n k = ⟨armL (n - 1), 0, true, (n : Int) - 1⟩ := if_neg h0
    have e2 : armS n (k + 1) = ⟨armL (n - 1), 0, true, (n : Int) - 1⟩ := if_neg (by omega)
    rw [e, e2, if_neg (by omega)]
    unfold CS.put
    rw [if_pos rfl]
theorem armS_back (n m i : Nat) (hi : i < 30) : ({ (armS n m) with a := 0, d := false } : CS).get (i : Int) = ((if i < m ∧ (n < 1 ∨ i + 1 < n) then (i : Int) + 1 else 0), 0) := by
  have key : ∀ (s : CS), s.l.length = 30 → ({ s with a := 0, d := false } : CS).get (i : Int) = (s.l.getD i 0, 0) := by
    intro s hs
    unfold CS.get CS.has
    simp only [hs]
    rw [if_neg (by simp), if_pos (by simp; omega)]
    simp
  have hl : (armS n m).l.length = 30 := by unfold armS; split <;> simp [armL_len]
  rw [key _ hl]
  congr 1
  unfold armS
  split
  · simp only
    rw [armL_get _ _ hi]
    by_cases h : i < m
    · rw [if_pos h, if_pos (by omega)]
    · rw [if_neg h, if_neg (by omega)]
  · simp only
    rw [armL_get _ _ hi]
    by_cases h : i < n - 1
    · rw [if_pos h, if_pos (by omega)]
    · rw [if_neg h, if_neg (by omega)]
theorem armS_n (n m : Nat) : (armS n m).n ≤ (n : Int) + (m : Int) := by unfold armS; split <;> simp <;> omega
theorem armS_last (n m : Nat) : ({ (armS n m) with a := 0, d := false } : CS).put 0 9 = ({ (armS n m) with l := (armS n m).l.set 0 9, a := 0, d := false, n := (armS n m).n + 1 }, 0) := by
  have hl : (armS n m).l.length = 30 := by unfold armS; split <;> simp [armL_len]
  unfold CS.put CS.gone CS.has CS.fg
  simp only [hl]
  rw [if_neg (by simp), if_neg (by simp), if_pos (by simp)]
  simp

set_option maxHeartbeats 4000000 in
set_option maxRecDepth 100000 in
theorem arms_walk (n0 m0 : Int) (hn : (Lit.int .i64 n0).wf = true) (hm : (Lit.int .i64 m0).wf = true) (w : World) (A : Nat → Addr) (hE : E13 w A w.heap.size) :
    Calls Tryd.prog 4 #[.int .i64 n0, .int .i64 m0] w fun e w' => e = .returned (.bool true) ∧ w.grownBy w' none := by
  obtain ⟨N, hN, _, hNc⟩ := numberTo_nat n0 30 (by omega) (by omega) hn
  obtain ⟨M, hM, _, hMc⟩ := numberTo_nat m0 30 (by omega) (by omega) hm
  have HN := Lib.hid hNc
  have HM := Lib.hid hMc
  have HE := Lib.hid hE
  clear hNc hMc hE
  go_enter Tryd.func4, Tryd.ntmps4
  go_wp2_with fail
  refine (first_any _ A HE.out).mono ?_
  rintro e w1 ⟨rfl, hg1⟩
  have HF1 := Lib.hid (Fr.of_grown hg1 [])
  clear hg1
  go_wp2_with fail
  refine (HN.out _).mono ?_
  rintro e w2 ⟨rfl, rfl⟩
  go_wp2_with fail
  refine (HM.out _).mono ?_
  rintro e w2 ⟨rfl, rfl⟩
  go_wp2_with fail
  refine (cellNew_ok 30 _ (by omega) (by omega)).mono ?_
  rintro e w2 ⟨u, rfl, p, g, rfl, h2, hp, hg, hf2⟩
  have hp0 : w.heap.size ≤ p := Nat.le_trans HF1.out.size hp
  have hg0 : w.heap.size ≤ g := Nat.le_trans HF1.out.size hg
  have H2 := Lib.hid h2
  have HF2 := Lib.hid (HF1.out.trans hf2)
  clear h2 hf2 hp hg
  go_wp2_with fail
  refine (cellArm_any p g _ N _ H2.out (by omega) N (by omega)).mono ?_
  rintro e w3 ⟨rfl, h3, hf3⟩
  rw [← armS_zero] at h3
  have H3 := Lib.hid h3
  have HF3 := Lib.hid (HF2.out.new hf3 (by simp; omega))
  clear h3 hf3
  go_wp2
  go_loopw [8] (fun i wr => ∃ k : Nat, k ≤ M ∧ i = .int .i64 k ∧ Cl wr p g (armS N k) ∧ Fr w wr []) (fun i _ => M - (intOf i).toNat)
  case atStart => exact ⟨0, Nat.zero_le _, rfl, H3.out, HF3.out⟩
  case round =>
    obtain ⟨k, hk, rfl, hc, hf⟩ := hrel
    have HC := Lib.hid hc
    have HF := Lib.hid hf
    clear hc hf
    by_cases hlt : k < M
    · have hput := cellPut_any p g (armS N k) k (k + 1) wr A w.heap.size HC.out (by have := armS_n N k; omega) (HE.out.fr HF.out (by simp)) hp0 hg0
      rw [armS_put N k (by omega)] at hput
      by_cases hz : N = 0 ∨ k + 1 < N
      · rw [if_pos hz, show ev A 0 = .nilIface from rfl] at hput
        have HP := Lib.hid hput
        clear hput
        by_cases hz1 : (N : Int) < 1
        · clear hz
          go_wp2_with fail
          try rw [IntWalk.u8_in _ (by omega)]
          refine HP.out.mono ?_
          rintro e w4 ⟨rfl, h4, hf4⟩
          have H4 := Lib.hid h4
          have HF4 := Lib.hid (HF.out.new hf4 (by simp; omega))
          clear h4 hf4
          go_wp2
          go_roundw
          case rel => exact ⟨k + 1, by omega, by go_num, H4.out, HF4.out⟩
          case measure => simp [intOf]; omega
        · have hz2 : (k : Int) + 1 < N := by omega
          clear hz
          go_wp2_with fail
          try rw [IntWalk.u8_in _ (by omega)]
          refine HP.out.mono ?_
          rintro e w4 ⟨rfl, h4, hf4⟩
          have H4 := Lib.hid h4
          have HF4 := Lib.hid (HF.out.new hf4 (by simp; omega))
          clear h4 hf4
          go_wp2
          go_roundw
          case rel => exact ⟨k + 1, by omega, by go_num, H4.out, HF4.out⟩
          case measure => simp [intOf]; omega
      · rw [if_neg hz, show ev A 5 = .iface 69 (.pointer (some (A 5))) from rfl] at hput
        have HP := Lib.hid hput
        have hz1 : ¬ (N : Int) < 1 := by omega
        have hz2 : ¬ (k : Int) + 1 < N := by omega
        clear hput hz
        go_wp2_with fail
        try rw [IntWalk.u8_in _ (by omega)]
        refine HP.out.mono ?_
        rintro e w4 ⟨rfl, h4, hf4⟩
        have H4 := Lib.hid h4
        have HF4 := Lib.hid (HF.out.new hf4 (by simp; omega))
        clear h4 hf4
        go_wp2
        go_roundw
        case rel => exact ⟨k + 1, by omega, by go_num, H4.out, HF4.out⟩
        case measure => simp [intOf]; omega
    · obtain rfl : k = M := by omega
      go_wp2_with fail
      refine (cellBack_any p g _ _ HC.out).mono ?_
      rintro e w4 ⟨rfl, h4, hf4⟩
      have H4 := Lib.hid h4
      have HF4 := Lib.hid (HF.out.new hf4 (by simp; omega))
      clear h4 hf4
      go_wp2
      go_loopw [10] (fun i wr => ∃ j : Nat, j ≤ 30 ∧ i = .int .i64 j ∧ Cl wr p g { (armS N k) with a := 0, d := false } ∧ Fr w wr []) (fun i _ => 30 - (intOf i).toNat)
      case atStart => exact ⟨0, Nat.zero_le _, rfl, H4.out, HF4.out⟩
      case round =>
        obtain ⟨j, hj, rfl, hc, hf⟩ := hrel
        have HC5 := Lib.hid hc
        have HF5 := Lib.hid hf
        clear hc hf
        by_cases hlt2 : j < 30
        · have hget := cellGet_any p g { (armS N k) with a := 0, d := false } j wr A w.heap.size HC5.out (HE.out.fr HF5.out (by simp))
          rw [armS_back N k j hlt2, show ev A 0 = .nilIface from rfl] at hget
          by_cases hz : j < k ∧ (N < 1 ∨ j + 1 < N)
          · rw [if_pos hz] at hget
            have HG := Lib.hid hget
            obtain ⟨hz1, hz2⟩ := hz
            clear hget
            by_cases hz3 : (N : Int) < 1
            · clear hz2
              go_wp2_with fail
              refine HG.out.mono ?_
              rintro e w6 ⟨rfl, hd6⟩
              have HD6 := Lib.hid (hd6.fr [])
              clear hd6
              go_wp2
              go_roundw
              case rel => exact ⟨j + 1, by omega, by go_num, HC5.out.fr HD6.out (by simp) (by simp), HF5.out.trans HD6.out⟩
              case measure => simp [intOf]; omega
            · have hz4 : (j : Int) + 1 < N := by omega
              clear hz2
              go_wp2_with fail
              refine HG.out.mono ?_
              rintro e w6 ⟨rfl, hd6⟩
              have HD6 := Lib.hid (hd6.fr [])
              clear hd6
              go_wp2
              go_roundw
              case rel => exact ⟨j + 1, by omega, by go_num, HC5.out.fr HD6.out (by simp) (by simp), HF5.out.trans HD6.out⟩
              case measure => simp [intOf]; omega
          · rw [if_neg hz] at hget
            have HG := Lib.hid hget
            have hcase : ¬ j < k ∨ (j < k ∧ ¬ (N : Int) < 1 ∧ ¬ (j : Int) + 1 < N) := by omega
            clear hget hz
            rcases hcase with hz1 | ⟨hz1, hz2, hz3⟩
            · go_wp2_with fail
              refine HG.out.mono ?_
              rintro e w6 ⟨rfl, hd6⟩
              have HD6 := Lib.hid (hd6.fr [])
              clear hd6
              go_wp2
              go_roundw
              case rel => exact ⟨j + 1, by omega, by go_num, HC5.out.fr HD6.out (by simp) (by simp), HF5.out.trans HD6.out⟩
              case measure => simp [intOf]; omega
            · go_wp2_with fail
              refine HG.out.mono ?_
              rintro e w6 ⟨rfl, hd6⟩
              have HD6 := Lib.hid (hd6.fr [])
              clear hd6
              go_wp2
              go_roundw
              case rel => exact ⟨j + 1, by omega, by go_num, HC5.out.fr HD6.out (by simp) (by simp), HF5.out.trans HD6.out⟩
              case measure => simp [intOf]; omega
        · go_wp2_with fail
          refine (cellDown_any p g _ _ HC5.out).mono ?_
          rintro e w6 ⟨rfl, rfl⟩
          have hput := cellPut_any p g _ 0 9 wr A w.heap.size HC5.out (by have := armS_n N k; show (armS N k).n < _; omega) (HE.out.fr HF5.out (by simp)) hp0 hg0
          rw [armS_last N k, show ev A 0 = .nilIface from rfl] at hput
          have HP := Lib.hid hput
          clear hput
          go_wp2_with fail
          refine HP.out.mono ?_
          rintro e w7 ⟨rfl, h7, hf7⟩
          have HF7 := Lib.hid (HF5.out.new hf7 (by simp; omega))
          clear h7 hf7
          go_wp2
          go_ret
          exact ⟨rfl, HF7.out.grown (by simp)⟩
end Go.Proofs.YtnpnkadfnidmmaaDoor
