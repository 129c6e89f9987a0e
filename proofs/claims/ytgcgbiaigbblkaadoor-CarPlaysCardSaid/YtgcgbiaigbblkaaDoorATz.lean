/- The lowest bit's place, the highest's; which way is nearer; the floors. -/
import Derived.Test.YtgcgbiaigbblkaaDoorAhd2
import Derived.Test.YtgcgbiaigbblkaaDoorLead
import Derived.Test.YtgcgbiaigbblkaaDoorOwnI
import Derived.Shelf.Spec.TrailingZeros
import Derived.Deep.DeepCutAuto
import Derived.Deep.CutBlock
namespace Go.Proofs.YtgcgbiaigbblkaaDoor
open Go.RowKit

/-- The library's table, as its initialiser lays it. -/
def Tz (w : World) : Prop := ∀ j, j < 64 → w.cell? ⟨0, j, none⟩ = some (.int .u8 (Lib.deBruijn64tab.getD j 0))
theorem Tz.fr {w w' : World} (h : Tz w) (k : Fr w w' []) : Tz w' := fun j hj => k.cell (h j hj) (by simp)

set_option maxHeartbeats 1000000 in
theorem tz_core (x k idx : Nat) (w : World) (hx0 : ((x : Int) == 0) = false)
    (key : IntKind.u64.wrap (bits BinOp.and IntKind.u64 (x : Int) (IntKind.u64.wrap (-(x : Int))) * 285870213051353865) / 288230376151711744 = (idx : Int))
    (hi : idx < 64) (hk : k < 64) (hcell : w.cell? ⟨0, idx, none⟩ = some (.int .u8 k)) :
    Calls Tryd.prog 35 #[.int .u64 x] w fun e w' => e = .returned (.int .i64 k) ∧ w' = w := by
  go_enter Tryd.func35, Tryd.ntmps35
  go_wp2_with (simp only [key])
  go_ret
  exact ⟨rfl, rfl⟩
theorem tz_any (x : Nat) (hx : x < 18446744073709551616) (hx0 : x ≠ 0) (w : World) (hT : Tz w) (r : Nat) (hr : r = Lib.ctz 64 x) :
    Calls Tryd.prog 35 #[.int .u64 x] w fun e w' => e = .returned (.int .i64 r) ∧ w' = w := by
  subst hr
  obtain ⟨hlow, hk⟩ := Lib.lowest_bit 64 x hx0 hx
  obtain ⟨hi, htab⟩ := Lib.deBruijn64_at _ hk
  have hcell := hT _ hi
  rw [htab] at hcell
  exact tz_core x _ _ w (by simp; omega) (tz64_key x _ hx hx0 hlow) hi hk hcell
theorem tz_zero (w : World) : Calls Tryd.prog 35 #[.int .u64 0] w fun e w' => e = .returned (.int .i64 64) ∧ w' = w := by
  go_enter Tryd.func35, Tryd.ntmps35
  go_wp2
  go_ret
  exact ⟨rfl, rfl⟩
theorem tz_all (x : Nat) (hx : x < 18446744073709551616) (w : World) (hT : Tz w) (r : Nat) (hr : r = Lib.ctz 64 x) :
    Calls Tryd.prog 35 #[.int .u64 x] w fun e w' => e = .returned (.int .i64 r) ∧ w' = w := by
  by_cases h0 : x = 0
  · subst h0
    subst hr
    exact tz_zero w
  · exact tz_any x hx h0 w hT r hr
theorem lz_any (x : Nat) (hx : x < 18446744073709551616) (w : World) (r : Int) (hr : r = 64 - (Lib.bitLen x : Int)) :
    Calls Tryd.prog 56 #[.int .u64 x] w fun e w' => e = .returned (.int .i64 r) ∧ w' = w := by
  have := Tryd.bits_LeadingZeros64 (x : Int) w (by omega) (by omega)
  rw [Int.toNat_natCast, ← hr] at this
  exact this

theorem near_any (s : Sp) (z : Int) (w : World) (h : s.ok) (hT : Tz w) (x : Int) (hx : NearIs s.all (min (max z (-1)) 64) x) :
    Calls Tryd.prog 51 #[s.v, .int .i64 z] w fun e w' => e = .returned (.int .i64 x) ∧ Fr w w' [] := by
  obtain ⟨c, hc⟩ : ∃ c, c = min (max z (-1)) 64 := ⟨_, rfl⟩
  rw [← hc] at hx
  obtain ⟨u, hu⟩ : ∃ u, u = upN s.all c := ⟨_, rfl⟩
  obtain ⟨d, hd⟩ : ∃ d, d = dnN s.all c := ⟨_, rfl⟩
  have AB := Lib.hid (fun W => above_any s z W h c hc u hu)
  have BE := Lib.hid (fun W => below_any s z W h c hc d hd)
  have hul : u < 18446744073709551616 := by rw [hu]; exact upN_lt h.all c
  have hdl : d < 18446744073709551616 := by rw [hd]; exact dnN_lt _ c
  have HX : Hid (x = nearC u d) := by
    show _ = _
    refine hx.unique ?_
    rw [hu, hd]
    exact near_code h.all (by omega) (by omega)
  have HT := Lib.hid hT
  clear hx hc hu hd h hT
  obtain ⟨sp, su, sd⟩ := s
  have HS := Lib.hid ((SS.new w 37 sp su sd).fr (Fr.drew _ []))
  obtain ⟨t, ht⟩ : ∃ t, t = Lib.ctz 64 u := ⟨_, rfl⟩
  obtain ⟨l, hl⟩ : ∃ l, l = 64 - (Lib.bitLen d : Int) := ⟨_, rfl⟩
  have LZ := Lib.hid (fun W => lz_any d hdl W l hl)
  have TZ := Lib.hid (fun W hT => tz_all u hul W hT t ht)
  have HC : Hid (x = if u = 0 ∧ d = 0 then 0 else if (t : Int) ≤ l then 1 else -1) := by
    show _ = _
    rw [HX.out, nearC, ht, hl]
    have hb : Lib.bitLen d ≤ 64 := Lib.bitLen_le d 64 (by decide) hdl
    by_cases h1 : u = 0 ∧ d = 0
    · rw [if_pos h1, if_pos h1]
    · rw [if_neg h1, if_neg h1]
      by_cases h2 : Lib.ctz 64 u ≤ 64 - Lib.bitLen d
      · rw [if_pos h2, if_pos (by omega)]
      · rw [if_neg h2, if_neg (by omega)]
  clear ht hl HX
  dsimp only [Sp.v, Sp.box] at *
  go_enter Tryd.func51, Tryd.ntmps51
  go_wp2
  refine wp_region_det (S := SS w w.heap.size sp su sd) (by kernel_rfl) HS.out ?_
  refine wpDet_take (i := 0) (oi := _) (v := ?dv1) (by simp only [List.getElem?_toArray, List.getElem?_cons_zero]; rfl) (by kernel_rfl) (by kernel_rfl) (by kernel_rfl) (Or.inl ⟨by rfl, ?dy1⟩) ?dr1
  case dy1 => (intro w hSw; have hS0 := hSw; (try dsimp only [SS] at hSw); go_simp; refine Came.value ?_ hS0; with_reducible rfl)
  try simp only [Act.put, List.setIfInBounds_toArray, List.set_cons_zero, List.set_cons_succ]
  refine wpDet_take (i := 1) (oi := _) (v := ?dv2) (by simp only [List.getElem?_toArray, List.getElem?_cons_zero, List.getElem?_cons_succ]; rfl) (by kernel_rfl) (by kernel_rfl) (by kernel_rfl) (Or.inl ⟨by rfl, ?dy2⟩) ?dr2
  case dy2 => (intro w hSw; have hS0 := hSw; (try dsimp only [SS] at hSw); go_simp; refine Came.value ?_ hS0; with_reducible rfl)
  try simp only [Act.put, List.setIfInBounds_toArray, List.set_cons_zero, List.set_cons_succ]
  refine wpDet_take (i := 2) (oi := _) (v := ?dv3) (by simp only [List.getElem?_toArray, List.getElem?_cons_zero, List.getElem?_cons_succ]; rfl) (by kernel_rfl) (by kernel_rfl) (by kernel_rfl) (Or.inl ⟨by rfl, ?dy3⟩) ?dr3
  case dy3 => (intro w hSw; go_simp; exact Came.call ((AB.out w).mono fun e w' ⟨he, hf⟩ => ⟨he, hSw.fr hf⟩) (by with_reducible rfl))
  try simp only [Act.put, List.setIfInBounds_toArray, List.set_cons_zero, List.set_cons_succ]
  refine wpDet_take (i := 3) (oi := _) (v := ?dv4) (by simp only [List.getElem?_toArray, List.getElem?_cons_zero, List.getElem?_cons_succ]; rfl) (by kernel_rfl) (by kernel_rfl) (by kernel_rfl) (Or.inl ⟨by rfl, ?dy4⟩) ?dr4
  case dy4 => (intro w hSw; have hS0 := hSw; (try dsimp only [SS] at hSw); go_simp; refine Came.value ?_ hS0; with_reducible rfl)
  try simp only [Act.put, List.setIfInBounds_toArray, List.set_cons_zero, List.set_cons_succ]
  refine wpDet_take (i := 4) (oi := _) (v := ?dv5) (by simp only [List.getElem?_toArray, List.getElem?_cons_zero, List.getElem?_cons_succ]; rfl) (by kernel_rfl) (by kernel_rfl) (by kernel_rfl) (Or.inl ⟨by rfl, ?dy5⟩) ?dr5
  case dy5 => (intro w hSw; have hS0 := hSw; (try dsimp only [SS] at hSw); go_simp; refine Came.value ?_ hS0; with_reducible rfl)
  try simp only [Act.put, List.setIfInBounds_toArray, List.set_cons_zero, List.set_cons_succ]
  refine wpDet_take (i := 5) (oi := _) (v := ?dv6) (by simp only [List.getElem?_toArray, List.getElem?_cons_zero, List.getElem?_cons_succ]; rfl) (by kernel_rfl) (by kernel_rfl) (by kernel_rfl) (Or.inl ⟨by rfl, ?dy6⟩) ?dr6
  case dy6 => (intro w hSw; go_simp; exact Came.call ((BE.out w).mono fun e w' ⟨he, hf⟩ => ⟨he, hSw.fr hf⟩) (by with_reducible rfl))
  try simp only [Act.put, List.setIfInBounds_toArray, List.set_cons_zero, List.set_cons_succ]
  refine wpDet_take (i := 6) (oi := _) (v := ?dv7) (by simp only [List.getElem?_toArray, List.getElem?_cons_zero, List.getElem?_cons_succ]; rfl) (by kernel_rfl) (by kernel_rfl) (by kernel_rfl) (Or.inl ⟨by rfl, ?dy7⟩) ?dr7
  case dy7 => (intro w hSw; have hS0 := hSw; (try dsimp only [SS] at hSw); go_simp; refine Came.value ?_ hS0; with_reducible rfl)
  try simp only [Act.put, List.setIfInBounds_toArray, List.set_cons_zero, List.set_cons_succ]
  refine wpDet_take (i := 7) (oi := _) (v := ?dv8) (by simp only [List.getElem?_toArray, List.getElem?_cons_zero, List.getElem?_cons_succ]; rfl) (by kernel_rfl) (by kernel_rfl) (by kernel_rfl) (Or.inl ⟨by rfl, ?dy8⟩) ?dr8
  case dy8 => (intro w hSw; have hS0 := hSw; (try dsimp only [SS] at hSw); go_simp; refine Came.value ?_ hS0; with_reducible rfl)
  try simp only [Act.put, List.setIfInBounds_toArray, List.set_cons_zero, List.set_cons_succ]
  refine wpDet_done (by kernel_rfl) ?_ _
  rintro w3 ⟨hF, _⟩
  have F3 := Lib.hid hF
  have T3 := Lib.hid (HT.out.fr hF)
  clear hF HS HT
  by_cases h1 : u = 0 ∧ d = 0
  · have HV : Hid (x = 0) := by show _ = _; rw [HC.out, if_pos h1]
    obtain ⟨rfl, rfl⟩ := h1
    clear HC
    go_wp2
    go_ret
    exact ⟨by rw [HV.out]; rfl, F3.out⟩
  · have HB : Hid ((((u : Int) == 0) && ((d : Int) == 0)) = false) := by
      show _ = _
      by_cases a : u = 0
      · have b : ¬ d = 0 := fun e => h1 ⟨a, e⟩
        simp [b]
      · simp [a]
    go_upto_region 2 with fail
    go_cut [13] (fun s13 wx => s13 = .bool false ∧ wx = w3)
    case first =>
      by_cases a : u = 0
      · have b : ¬ d = 0 := fun e => h1 ⟨a, e⟩
        have e1 : ((d : Int) == 0) = false := by simp [b]
        subst a
        clear h1 HB b
        go_wp2
        go_meet
        exact ⟨rfl, rfl⟩
      · have e1 : ((u : Int) == 0) = false := by simp [a]
        clear h1 HB a
        go_wp2
        go_meet
        exact ⟨rfl, rfl⟩
    case rest =>
      obtain ⟨rfl, rfl⟩ := hcut
      have HV : Hid (x = if (t : Int) ≤ l then 1 else -1) := by show _ = _; rw [HC.out, if_neg h1]
      clear HC h1 HB
      go_wp2_with fail
      with_reducible refine (TZ.out _ T3.out).mono ?_
      rintro e w4 ⟨rfl, rfl⟩
      go_wp2_with fail
      with_reducible refine (LZ.out _).mono ?_
      rintro e w4 ⟨rfl, rfl⟩
      by_cases h2 : (t : Int) ≤ l
      · have HW : Hid (x = 1) := by show _ = _; rw [HV.out, if_pos h2]
        clear HV
        go_wp2
        go_ret
        exact ⟨by rw [HW.out]; rfl, F3.out⟩
      · have HW : Hid (x = -1) := by show _ = _; rw [HV.out, if_neg h2]
        clear HV
        go_wp2
        go_ret
        exact ⟨by rw [HW.out]; rfl, F3.out⟩

theorem bitsOf_step {n : Nat} (h0 : n ≠ 0) (h : n < 18446744073709551616) : bitsOf n = (Lib.ctz 64 n : Int) :: bitsOf (n &&& (n - 1)) := by
  rw [bitsOf, bits_step h0 h, List.map_cons]; rfl
set_option maxHeartbeats 1000000 in
set_option maxRecDepth 100000 in
theorem floors_any (s : Sp) (w : World) (h : s.ok) (hT : Tz w) (L : List Int) (hL : L = bitsOf s.all) :
    Calls Tryd.prog 19 #[s.v] w (Gives fun v w' => OwnI w' w.heap.size v L ∧ Fr w w' []) := by
  obtain ⟨i0, hi, hz0, hz1, hz2⟩ := info_parts infoI
  obtain ⟨n0, hn0⟩ : ∃ n, n = s.all := ⟨_, rfl⟩
  have AL := Lib.hid (fun W => all_any s W h n0 hn0)
  have hl64 : L.length ≤ 64 := by rw [hL, bitsOf_len]; exact bits_len _
  have hlt0 : n0 < 18446744073709551616 := by rw [hn0]; exact h.all
  rw [← hn0] at hL
  have HL := Lib.hid hL
  have HT := Lib.hid hT
  obtain ⟨p, u, d⟩ := s
  have FA := Lib.hid (Fr.alloc w (.cells #[.int .u64 p, .int .u64 u, .int .u64 d] 37) [])
  clear hn0 hL hT h
  dsimp only [Sp.v, Sp.box] at *
  go_enter Tryd.func19, Tryd.ntmps19
  go_wp2_with fail
  with_reducible refine (AL.out _).mono ?_
  rintro e w1 ⟨rfl, hf⟩
  have F1 := Lib.hid (FA.out.trans hf)
  clear hf
  go_wp2
  go_loopw [3, 4] (fun v r wr => ∃ (n : Nat) (l : List Int), r = .int .u64 n ∧ n < 18446744073709551616 ∧ Hid (l ++ bitsOf n = L) ∧ Hid (OwnI wr w.heap.size v l) ∧ Hid (Fr w wr [])) (fun _ r _ => (intOf r).toNat)
  case atStart => exact ⟨n0, [], rfl, hlt0, Lib.hid HL.out.symm, Lib.hid (OwnI.nil _ _), F1⟩
  case round =>
    obtain ⟨n, l, rfl, hn, HE, HO, HF⟩ := hrel
    by_cases h0 : n = 0
    · subst h0
      have HO2 : Hid (OwnI wr w.heap.size u3 L) := by
        have e := HE.out
        have b : bitsOf 0 = [] := by simp [bitsOf, bits_zero]
        rw [b, List.append_nil] at e
        rw [← e]
        exact HO
      go_wp2
      go_ret
      exact gives ⟨HO2.out, HF.out⟩
    · have e0 : ((n : Int) != 0) = true := by simp [h0]
      obtain ⟨k, hk⟩ : ∃ k, k = Lib.ctz 64 n := ⟨_, rfl⟩
      have TZ := Lib.hid (tz_any n hn h0 wr (HT.out.fr HF.out) k hk)
      obtain ⟨m, hm⟩ : ∃ m, m = n &&& (n - 1) := ⟨_, rfl⟩
      have HE2 : Hid ((l ++ [(k : Int)]) ++ bitsOf m = L) := by
        show _ = _
        rw [← HE.out, bitsOf_step h0 hn, hk, hm, List.append_assoc]; rfl
      have hmn : m < n := by rw [hm]; exact cut_lt h0
      have hw : IntKind.u64.wrap ((n : Int) - 1) = ((n - 1 : Nat) : Int) := by rw [IntKind.wrap_u64]; omega
      have ha : bits .and .u64 (n : Int) ((n - 1 : Nat) : Int) = (m : Int) := by rw [hm]; exact bits_and_u64_nat _ _ hn (by omega)
      have hll : l.length < 64 := by
        have := congrArg List.length HE2.out
        simp at this
        omega
      have HLL := Lib.hid hll
      have HMN := Lib.hid hmn
      generalize n - 1 = n1 at *
      clear hk hm h0 hll hmn
      go_wp2_with fail
      with_reducible refine TZ.out.mono ?_
      rintro e w2 ⟨rfl, rfl⟩
      go_wp2_with (at_builtin; refine wpList_append_own _ rfl _ _ 44 rfl w.heap.size 3 i0 (.int .i64 0) 1 8 Tryd.underlying44 hi hz0 hz1 hz2 rfl (by decide) _ _ _ rfl (World.ownsRow.alloc HO.out _) ⟨w2.heap.size, 0, none⟩ 1 1 [.int .i64 k] rfl rfl (cell_one_new _ _ _) (one_cell _ _) (by have := HLL.out; unfold maxLen; omega) (by have := HLL.out; omega) (by have := HF.out.size; simp; omega) ?_; intro v' w3 hown3 hg3 _)
      have HG := Lib.hid (Fr.of_grown (grown_new (HF.out.grown (by simp)) (grown_trans (World.grownBy_alloc w2 _ _) hg3) (fun r hr => (HO.out.block r hr).1)) [])
      have HN := Lib.hid (OwnI.snoc hown3)
      clear hown3 hg3
      go_wp2
      go_roundw
      case rel => exact ⟨m, _, rfl, by have := HMN.out; omega, HE2, HN, HG⟩
      case measure => have := HMN.out; simp [intOf]; omega
end Go.Proofs.YtgcgbiaigbblkaaDoor
