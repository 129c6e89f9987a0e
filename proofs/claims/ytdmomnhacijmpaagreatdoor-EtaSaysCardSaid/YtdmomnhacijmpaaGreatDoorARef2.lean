/- The document's stops: what lies above, below, toward, which way is nearer; toward (the package's). -/
import Derived.Test.YtdmomnhacijmpaaGreatDoorARef
import Derived.Test.YtdmomnhacijmpaaGreatDoorGPlan
namespace Go.Proofs.YtdmomnhacijmpaaGreatDoor
open Go.RowKit

set_option maxRecDepth 100000 in
theorem rabove_any (s : Sp) (z : Int) (w : World) (h : s.ok) (b : Bool) (hb : b = true ↔ ∃ y, z < y ∧ hasB s.all y = true) : Calls Tryz.prog 66 #[s.v, .int .i64 z] w fun e w' => e = .returned (.bool b) ∧ Fr w w' [] := by
  obtain ⟨n, hn⟩ : ∃ n, n = s.all := ⟨_, rfl⟩
  have hlt : n < 18446744073709551616 := by rw [hn]; exact h.all
  have AN := Lib.hid (fun (i : Int) (x : Bool) (hx : x = hasB n i) W => rany_any s i W h x (by rw [← hn]; exact hx))
  rw [← hn] at hb
  have HB := Lib.hid hb
  have HLT := Lib.hid hlt
  clear hn hb hlt h
  obtain ⟨p, u, d⟩ := s
  have HS := Lib.hid (SS.new w 37 p u d)
  dsimp only [Sp.v] at *
  go_enter Tryz.func66, Tryz.ntmps66
  go_wp2
  go_loopw [5] (fun i wr => ∃ k : Nat, k ≤ 64 ∧ i = .int .i64 k ∧ Hid (∀ j : Nat, j < k → ¬ (z < (j : Int) ∧ hasB n j = true)) ∧ Hid (SS w w.heap.size p u d wr)) (fun i _ => 64 - (intOf i).toNat)
  case atStart => exact ⟨0, Nat.zero_le _, rfl, Lib.hid (fun j hj => by omega), HS⟩
  case round =>
    clear HS
    obtain ⟨k, hk, rfl, HN, HS⟩ := hrel
    by_cases hlt : k < 64
    · by_cases hc : z < (k : Int)
      · obtain ⟨x, hx⟩ : ∃ x, x = hasB n k := ⟨_, rfl⟩
        have AX := Lib.hid (fun W => AN.out k x hx W)
        obtain ⟨_, c0, c1, c2⟩ := HS.out
        go_wp2_with fail
        with_reducible refine (AX.out _).mono ?_
        rintro e w2 ⟨rfl, hf⟩
        have HS2 := Lib.hid (HS.out.fr hf)
        clear hf c0 c1 c2
        cases x with
        | true =>
          have HV : Hid (b = true) := by show _ = _; exact HB.out.2 ⟨k, hc, hx.symm⟩
          clear hx
          go_wp2
          go_ret
          exact ⟨by rw [HV.out]; rfl, HS2.out.1⟩
        | false =>
          have HN2 : Hid (∀ j : Nat, j < k + 1 → ¬ (z < (j : Int) ∧ hasB n j = true)) := by
            refine Lib.hid fun j hj q => ?_
            by_cases e : j = k
            · subst e; rw [← hx] at q; cases q.2
            · exact HN.out j (by omega) q
          clear hx
          go_wp2
          go_roundw
          case rel => exact ⟨k + 1, by omega, by go_num, HN2, HS2⟩
          case measure => simp [intOf]; omega
      · have HN2 : Hid (∀ j : Nat, j < k + 1 → ¬ (z < (j : Int) ∧ hasB n j = true)) := by
          refine Lib.hid fun j hj q => ?_
          by_cases e : j = k
          · subst e; exact hc q.1
          · exact HN.out j (by omega) q
        have hd : decide (z < (k : Int)) = false := decide_eq_false hc
        go_wp2
        go_roundw
        case rel => exact ⟨k + 1, by omega, by go_num, HN2, HS⟩
        case measure => simp [intOf]; omega
    · have HV : Hid (b = false) := by
        show _ = _
        cases b with
        | false => rfl
        | true =>
          obtain ⟨y, hy, q⟩ := HB.out.1 rfl
          have r := hasB_range HLT.out q
          exact absurd ⟨by omega, by rw [Int.toNat_of_nonneg r.1]; exact q⟩ (HN.out y.toNat (by omega))
      go_wp2
      go_ret
      exact ⟨by rw [HV.out]; rfl, HS.out.1⟩

set_option maxRecDepth 100000 in
theorem rbelow_any (s : Sp) (z : Int) (w : World) (h : s.ok) (b : Bool) (hb : b = true ↔ ∃ y, y < z ∧ hasB s.all y = true) : Calls Tryz.prog 67 #[s.v, .int .i64 z] w fun e w' => e = .returned (.bool b) ∧ Fr w w' [] := by
  obtain ⟨n, hn⟩ : ∃ n, n = s.all := ⟨_, rfl⟩
  have hlt : n < 18446744073709551616 := by rw [hn]; exact h.all
  have AN := Lib.hid (fun (i : Int) (x : Bool) (hx : x = hasB n i) W => rany_any s i W h x (by rw [← hn]; exact hx))
  rw [← hn] at hb
  have HB := Lib.hid hb
  have HLT := Lib.hid hlt
  clear hn hb hlt h
  obtain ⟨p, u, d⟩ := s
  have HS := Lib.hid (SS.new w 37 p u d)
  dsimp only [Sp.v] at *
  go_enter Tryz.func67, Tryz.ntmps67
  go_wp2
  go_loopw [5] (fun i wr => ∃ k : Nat, k ≤ 64 ∧ i = .int .i64 k ∧ Hid (∀ j : Nat, j < k → ¬ ((j : Int) < z ∧ hasB n j = true)) ∧ Hid (SS w w.heap.size p u d wr)) (fun i _ => 64 - (intOf i).toNat)
  case atStart => exact ⟨0, Nat.zero_le _, rfl, Lib.hid (fun j hj => by omega), HS⟩
  case round =>
    clear HS
    obtain ⟨k, hk, rfl, HN, HS⟩ := hrel
    by_cases hlt : k < 64
    · by_cases hc : (k : Int) < z
      · obtain ⟨x, hx⟩ : ∃ x, x = hasB n k := ⟨_, rfl⟩
        have AX := Lib.hid (fun W => AN.out k x hx W)
        obtain ⟨_, c0, c1, c2⟩ := HS.out
        go_wp2_with fail
        with_reducible refine (AX.out _).mono ?_
        rintro e w2 ⟨rfl, hf⟩
        have HS2 := Lib.hid (HS.out.fr hf)
        clear hf c0 c1 c2
        cases x with
        | true =>
          have HV : Hid (b = true) := by show _ = _; exact HB.out.2 ⟨k, hc, hx.symm⟩
          clear hx
          go_wp2
          go_ret
          exact ⟨by rw [HV.out]; rfl, HS2.out.1⟩
        | false =>
          have HN2 : Hid (∀ j : Nat, j < k + 1 → ¬ ((j : Int) < z ∧ hasB n j = true)) := by
            refine Lib.hid fun j hj q => ?_
            by_cases e : j = k
            · subst e; rw [← hx] at q; cases q.2
            · exact HN.out j (by omega) q
          clear hx
          go_wp2
          go_roundw
          case rel => exact ⟨k + 1, by omega, by go_num, HN2, HS2⟩
          case measure => simp [intOf]; omega
      · have HN2 : Hid (∀ j : Nat, j < k + 1 → ¬ ((j : Int) < z ∧ hasB n j = true)) := by
          refine Lib.hid fun j hj q => ?_
          by_cases e : j = k
          · subst e; exact hc q.1
          · exact HN.out j (by omega) q
        have hd : decide ((k : Int) < z) = false := decide_eq_false hc
        go_wp2
        go_roundw
        case rel => exact ⟨k + 1, by omega, by go_num, HN2, HS⟩
        case measure => simp [intOf]; omega
    · have HV : Hid (b = false) := by
        show _ = _
        cases b with
        | false => rfl
        | true =>
          obtain ⟨y, hy, q⟩ := HB.out.1 rfl
          have r := hasB_range HLT.out q
          exact absurd ⟨by omega, by rw [Int.toNat_of_nonneg r.1]; exact q⟩ (HN.out y.toNat (by omega))
      go_wp2
      go_ret
      exact ⟨by rw [HV.out]; rfl, HS.out.1⟩

/-- Does something lie that way? -/
theorem rtoward_any (s : Sp) (z e : Int) (w : World) (h : s.ok) (b : Bool) (h1 : e = 1 → (b = true ↔ ∃ y, z < y ∧ hasB s.all y = true)) (h2 : e = -1 → (b = true ↔ ∃ y, y < z ∧ hasB s.all y = true)) (h3 : e ≠ 1 → e ≠ -1 → b = false) :
    Calls Tryz.prog 51 #[s.v, .int .i64 z, .int .i64 e] w fun x w' => x = .returned (.bool b) ∧ Fr w w' [] := by
  have AB := Lib.hid (fun (hb : e = 1) W => rabove_any s z W h b (h1 hb))
  have BE := Lib.hid (fun (hb : e = -1) W => rbelow_any s z W h b (h2 hb))
  have H3 := Lib.hid h3
  obtain ⟨p, u, d⟩ := s
  have HS := Lib.hid (SS.new w 37 p u d)
  clear h1 h2 h3 h
  dsimp only [Sp.v] at *
  by_cases e1 : e = 1
  · have AX := Lib.hid (fun W => AB.out e1 W)
    subst e1
    clear AB BE H3
    obtain ⟨_, c0, c1, c2⟩ := HS.out
    go_enter Tryz.func51, Tryz.ntmps51
    go_wp2_with fail
    with_reducible refine (AX.out _).mono ?_
    rintro e w2 ⟨rfl, hf⟩
    have F2 := Lib.hid (HS.out.1.trans hf)
    clear hf c0 c1 c2
    cases b with
    | true =>
      go_wp2
      go_ret
      exact ⟨rfl, F2.out⟩
    | false =>
      go_wp2
      go_ret
      exact ⟨rfl, F2.out⟩
  · have k1 : (e == 1) = false := by simp [e1]
    by_cases e2 : e = -1
    · have AX := Lib.hid (fun W => BE.out e2 W)
      have k2 : (e == -1) = true := by simp [e2]
      clear AB BE H3 e1 e2
      obtain ⟨_, c0, c1, c2⟩ := HS.out
      go_enter Tryz.func51, Tryz.ntmps51
      go_wp2_with fail
      with_reducible refine (AX.out _).mono ?_
      rintro x w2 ⟨rfl, hf⟩
      have F2 := Lib.hid (HS.out.1.trans hf)
      clear hf c0 c1 c2
      go_wp2
      go_ret
      exact ⟨rfl, F2.out⟩
    · have HV := Lib.hid (H3.out e1 e2)
      have k2 : (e == -1) = false := by simp [e2]
      clear AB BE H3 e1 e2
      go_enter Tryz.func51, Tryz.ntmps51
      go_wp2
      go_ret
      exact ⟨by rw [HV.out]; rfl, HS.out.1⟩

set_option maxRecDepth 100000 in
theorem rnear_any (s : Sp) (z : Int) (w : World) (h : s.ok) (x : Int) (hx : NearIs s.all (min (max z (-1)) 64) x) :
    Calls Tryz.prog 50 #[s.v, .int .i64 z] w fun e w' => e = .returned (.int .i64 x) ∧ Fr w w' [] := by
  obtain ⟨c, hc⟩ : ∃ c, c = min (max z (-1)) 64 := ⟨_, rfl⟩
  rw [← hc] at hx
  obtain ⟨n, hn⟩ : ∃ n, n = s.all := ⟨_, rfl⟩
  have hlt : n < 18446744073709551616 := by rw [hn]; exact h.all
  have AN := Lib.hid (fun (i : Int) (y : Bool) (hy : y = hasB n i) W => rany_any s i W h y (by rw [← hn]; exact hy))
  rw [← hn] at hx
  have HX := Lib.hid hx
  have HLT := Lib.hid hlt
  clear hn hx hlt h
  have hcr : -1 ≤ c ∧ c ≤ 64 := by omega
  obtain ⟨hc0, hc1⟩ := hcr
  obtain ⟨p, u, d⟩ := s
  have HS := Lib.hid (SS.new w 37 p u d)
  dsimp only [Sp.v] at *
  go_enter Tryz.func50, Tryz.ntmps50
  by_cases hz : z < 0
  · obtain rfl : c = -1 := by omega
    have hm : min (-1 : Int) 64 = -1 := by decide
    clear hc
    go_wp2
    go_loopw [5] (fun i wr => ∃ k : Nat, 1 ≤ k ∧ k ≤ 65 ∧ i = .int .i64 k ∧ Hid (∀ j : Int, 0 < j → j < k → hasB n ((-1) + j) = false ∧ hasB n ((-1) - j) = false) ∧ Hid (SS w w.heap.size p u d wr)) (fun i _ => 65 - (intOf i).toNat)
    case atStart => exact ⟨1, by omega, by omega, rfl, Lib.hid (fun j hj hj2 => by omega), HS⟩
    case round =>
      clear HS
      obtain ⟨k, hk0, hk1, rfl, HN, HS⟩ := hrel
      by_cases hlt : k ≤ 64
      · skip
        obtain ⟨x1, hx1⟩ : ∃ x, x = hasB n ((-1) + (k : Int)) := ⟨_, rfl⟩
        obtain ⟨x2, hx2⟩ : ∃ x, x = hasB n ((-1) - (k : Int)) := ⟨_, rfl⟩
        have A1 := Lib.hid (fun W => AN.out _ x1 hx1 W)
        have A2 := Lib.hid (fun W => AN.out _ x2 hx2 W)
        have HX1 := Lib.hid hx1
        have HX2 := Lib.hid hx2
        clear hx1 hx2
        obtain ⟨i1, hi1⟩ : ∃ i, (-1) + (k : Int) = i := ⟨_, rfl⟩
        obtain ⟨i2, hi2⟩ : ∃ i, (-1) - (k : Int) = i := ⟨_, rfl⟩
        have K1 := Lib.hid hi1
        have K2 := Lib.hid hi2
        have hw1 : IntKind.i64.wrap (-1 + (k : Int)) = i1 := (IntWalk.i64_in _ (by omega)).trans hi1
        rw [hi1] at A1 HX1
        have hw2 : IntKind.i64.wrap (-1 - (k : Int)) = i2 := (IntWalk.i64_in _ (by omega)).trans hi2
        rw [hi2] at A2 HX2
        clear hi1 hi2
        obtain ⟨_, c0, c1, c2⟩ := HS.out
        go_wp2_with fail
        with_reducible refine (A1.out _).mono ?_
        rintro e w2 ⟨rfl, hf⟩
        have HS2 := Lib.hid (HS.out.fr hf)
        clear hf c0 c1 c2
        cases x1 with
        | true =>
          have HV : Hid (x = 1) := by
            show _ = _
            exact HX.out.unique (.inr (.inl ⟨rfl, k, by omega, by rw [K1.out]; exact HX1.out.symm, fun j hj hj2 => (HN.out j hj hj2).2⟩))
          go_wp2
          go_ret
          exact ⟨by rw [HV.out]; rfl, HS2.out.1⟩
        | false =>
          obtain ⟨_, c0, c1, c2⟩ := HS2.out
          go_wp2_with fail
          with_reducible refine (A2.out _).mono ?_
          rintro e w3 ⟨rfl, hf⟩
          have HS3 := Lib.hid (HS2.out.fr hf)
          clear hf c0 c1 c2
          cases x2 with
          | true =>
            have HV : Hid (x = -1) := by
              show _ = _
              refine HX.out.unique (.inr (.inr ⟨rfl, k, by omega, by rw [K2.out]; exact HX2.out.symm, fun j hj hj2 => ?_⟩))
              by_cases e : j = k
              · subst e; rw [K1.out]; exact HX1.out.symm
              · exact (HN.out j hj (by omega)).1
            go_wp2
            go_ret
            exact ⟨by rw [HV.out]; rfl, HS3.out.1⟩
          | false =>
            have HN2 : Hid (∀ j : Int, 0 < j → j < (k + 1 : Nat) → hasB n ((-1) + j) = false ∧ hasB n ((-1) - j) = false) := by
              refine Lib.hid fun j hj hj2 => ?_
              by_cases e : j = k
              · subst e; rw [K1.out, K2.out]; exact ⟨HX1.out.symm, HX2.out.symm⟩
              · exact HN.out j hj (by omega)
            go_wp2
            go_roundw
            case rel => exact ⟨k + 1, by omega, by omega, by go_num, HN2, HS3⟩
            case measure => simp [intOf]; omega
      · have HV : Hid (x = 0) := by
          show _ = _
          refine HX.out.unique (.inl ⟨rfl, fun j hj => ?_⟩)
          by_cases e : j < k
          · exact HN.out j hj e
          · exact ⟨hasB_big HLT.out (by omega), hasB_neg (by omega)⟩
        go_wp2
        go_ret
        exact ⟨by rw [HV.out]; rfl, HS.out.1⟩
  · have hm : min z 64 = c := by omega
    have hz0 : 0 ≤ z := by omega
    clear hc hz
    go_wp2
    go_loopw [5] (fun i wr => ∃ k : Nat, 1 ≤ k ∧ k ≤ 65 ∧ i = .int .i64 k ∧ Hid (∀ j : Int, 0 < j → j < k → hasB n (c + j) = false ∧ hasB n (c - j) = false) ∧ Hid (SS w w.heap.size p u d wr)) (fun i _ => 65 - (intOf i).toNat)
    case atStart => exact ⟨1, by omega, by omega, rfl, Lib.hid (fun j hj hj2 => by omega), HS⟩
    case round =>
      clear HS
      obtain ⟨k, hk0, hk1, rfl, HN, HS⟩ := hrel
      by_cases hlt : k ≤ 64
      · skip
        obtain ⟨x1, hx1⟩ : ∃ x, x = hasB n (c + (k : Int)) := ⟨_, rfl⟩
        obtain ⟨x2, hx2⟩ : ∃ x, x = hasB n (c - (k : Int)) := ⟨_, rfl⟩
        have A1 := Lib.hid (fun W => AN.out _ x1 hx1 W)
        have A2 := Lib.hid (fun W => AN.out _ x2 hx2 W)
        have HX1 := Lib.hid hx1
        have HX2 := Lib.hid hx2
        clear hx1 hx2
        obtain ⟨i1, hi1⟩ : ∃ i, c + (k : Int) = i := ⟨_, rfl⟩
        obtain ⟨i2, hi2⟩ : ∃ i, c - (k : Int) = i := ⟨_, rfl⟩
        have K1 := Lib.hid hi1
        have K2 := Lib.hid hi2
        have hw1 : IntKind.i64.wrap (c + (k : Int)) = i1 := (IntWalk.i64_in _ (by omega)).trans hi1
        rw [hi1] at A1 HX1
        have hw2 : IntKind.i64.wrap (c - (k : Int)) = i2 := (IntWalk.i64_in _ (by omega)).trans hi2
        rw [hi2] at A2 HX2
        clear hi1 hi2
        obtain ⟨_, c0, c1, c2⟩ := HS.out
        go_wp2_with fail
        with_reducible refine (A1.out _).mono ?_
        rintro e w2 ⟨rfl, hf⟩
        have HS2 := Lib.hid (HS.out.fr hf)
        clear hf c0 c1 c2
        cases x1 with
        | true =>
          have HV : Hid (x = 1) := by
            show _ = _
            exact HX.out.unique (.inr (.inl ⟨rfl, k, by omega, by rw [K1.out]; exact HX1.out.symm, fun j hj hj2 => (HN.out j hj hj2).2⟩))
          go_wp2
          go_ret
          exact ⟨by rw [HV.out]; rfl, HS2.out.1⟩
        | false =>
          obtain ⟨_, c0, c1, c2⟩ := HS2.out
          go_wp2_with fail
          with_reducible refine (A2.out _).mono ?_
          rintro e w3 ⟨rfl, hf⟩
          have HS3 := Lib.hid (HS2.out.fr hf)
          clear hf c0 c1 c2
          cases x2 with
          | true =>
            have HV : Hid (x = -1) := by
              show _ = _
              refine HX.out.unique (.inr (.inr ⟨rfl, k, by omega, by rw [K2.out]; exact HX2.out.symm, fun j hj hj2 => ?_⟩))
              by_cases e : j = k
              · subst e; rw [K1.out]; exact HX1.out.symm
              · exact (HN.out j hj (by omega)).1
            go_wp2
            go_ret
            exact ⟨by rw [HV.out]; rfl, HS3.out.1⟩
          | false =>
            have HN2 : Hid (∀ j : Int, 0 < j → j < (k + 1 : Nat) → hasB n (c + j) = false ∧ hasB n (c - j) = false) := by
              refine Lib.hid fun j hj hj2 => ?_
              by_cases e : j = k
              · subst e; rw [K1.out, K2.out]; exact ⟨HX1.out.symm, HX2.out.symm⟩
              · exact HN.out j hj (by omega)
            go_wp2
            go_roundw
            case rel => exact ⟨k + 1, by omega, by omega, by go_num, HN2, HS3⟩
            case measure => simp [intOf]; omega
      · have HV : Hid (x = 0) := by
          show _ = _
          refine HX.out.unique (.inl ⟨rfl, fun j hj => ?_⟩)
          by_cases e : j < k
          · exact HN.out j hj e
          · exact ⟨hasB_big HLT.out (by omega), hasB_neg (by omega)⟩
        go_wp2
        go_ret
        exact ⟨by rw [HV.out]; rfl, HS.out.1⟩
end Go.Proofs.YtdmomnhacijmpaaGreatDoor
