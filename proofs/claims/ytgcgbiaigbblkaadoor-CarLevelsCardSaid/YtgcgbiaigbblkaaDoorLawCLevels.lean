/- A car whose power went finds its level first. -/
import Derived.Test.YtgcgbiaigbblkaaDoorCLaw
namespace Go.Proofs.YtgcgbiaigbblkaaDoor
open Go.RowKit

/-- The car behind k ticks, of n that it takes. -/
def cL (pos n k : Int) : Ca := ⟨⟨pos - k, if k = 0 ∨ k = n then 0 else -1, 0, decide (k < n)⟩, 0⟩
theorem off_mod {h : Ho} (hk : h.ok) {pos k : Int} (_p0 : 0 ≤ pos) (k0 : 0 ≤ k) (k1 : k ≤ pos % h.s) : (pos - k) % h.s = pos % h.s - k := by
  have hs := hk.2.2.1.1
  have a := Int.emod_nonneg pos (show h.s ≠ 0 by omega)
  have b := Int.emod_lt_of_pos pos (show 0 < h.s by omega)
  have c := Int.mul_ediv_add_emod pos h.s
  have e : pos - k = (pos % h.s - k) + h.s * (pos / h.s) := by omega
  rw [e, Int.add_mul_emod_self_left]
  exact Int.emod_eq_of_lt (by omega) (by omega)
theorem cL_start {h : Ho} (hk : h.ok) {pos : Int} (p0 : 0 ≤ pos) (p1 : pos ≤ h.top) : startC h pos = cL pos (pos % h.s) 0 := by
  have hs := hk.2.2.1.1
  have a := Int.emod_nonneg pos (show h.s ≠ 0 by omega)
  unfold startC cL
  rw [if_pos (.inl rfl), show pos - 0 = pos by omega]
  congr 2
  rw [← decide_not]
  exact decide_eq_decide.2 ⟨fun q => by
    refine Int.not_le.1 fun g => q ⟨⟨hk, p0, p1⟩, by omega⟩, fun q l => by have := l.2; omega⟩
theorem cL_step {h : Ho} (hk : h.ok) {pos n : Int} (p0 : 0 ≤ pos) (p1 : pos ≤ h.top) (hn : pos % h.s = n) {k : Int} (k0 : 0 ≤ k) (k1 : k < n) (s : Sp) :
    (cL pos n k).tick h s false = (cL pos n (k + 1), ⟨false, false, h.flr (pos - (k + 1)), 0, -1, zSp⟩) := by
  have hs := hk.2.2.1
  have b := Int.emod_lt_of_pos pos (show 0 < h.s by omega)
  have c := Int.mul_ediv_add_emod pos h.s
  have hq : 0 ≤ h.s * (pos / h.s) := Int.mul_nonneg (by omega) (Int.ediv_nonneg p0 (by omega))
  have m1 := off_mod hk p0 k0 (show k ≤ pos % h.s by omega)
  have m2 := off_mod hk p0 (show 0 ≤ k + 1 by omega) (show k + 1 ≤ pos % h.s by omega)
  rw [hn] at b c m1 m2
  have nl : ¬ h.lev (pos - k) := fun l => by have := l.2; omega
  have g : ¬ 0 < (cL pos n k).x.o := show ¬ (0 : Int) < 0 by decide
  have R : RightIs h (cL pos n k) := by
    refine ⟨hk, show 0 ≤ pos - k by omega, show pos - k ≤ h.top by omega, ?_, ?_, show (0 : Int) ≤ 0 by decide, show (0 : Int) ≤ h.d by have := hk.2.2.2.1; omega, fun q => absurd q g, .inr (.inr (decide_eq_true k1)), .inl rfl⟩
    · unfold cL; dsimp only; split <;> decide
    · unfold cL; dsimp only; split <;> decide
  have w : (cL pos n k).way = -1 := if_pos (decide_eq_true k1)
  have e : (cL pos n k).x.p + (cL pos n k).way = pos - (k + 1) := by rw [w]; show pos - k + -1 = _; omega
  have rr : (cL pos n k).x.r = true := decide_eq_true k1
  by_cases z : k + 1 = n
  · have lv : h.lev (pos - (k + 1)) := ⟨⟨hk, by omega, by omega⟩, by omega⟩
    rw [tick_relev R g nl s false (by rw [e]; exact ⟨lv, rr⟩), e, w]
    unfold cL
    rw [if_pos (.inr z), decide_eq_false (by omega)]
  · have lv : ¬ h.lev (pos - (k + 1)) := fun l => by have := l.2; omega
    rw [tick_on R g nl s false (by rw [e]; exact fun q => lv q.1), e, w, rr]
    unfold cL
    rw [if_neg (show ¬ (k + 1 = 0 ∨ k + 1 = n) by omega), decide_eq_true (show k + 1 < n by omega)]

set_option maxHeartbeats 4000000 in
set_option maxRecDepth 100000 in
theorem levels_true (h : Ho) (k1 : Int) (s : Sp) (ok : s.ok) (a10 : -9223372036854775808 ≤ k1) (a11 : k1 ≤ 9223372036854775807) (w : World) (hT : Tz w) :
    Calls Tryd.prog 7 #[h.v, .int .i64 k1, s.v] w fun x w' => x = .returned (.bool true) ∧ Fr w w' [] := by
  have TB := Lib.hid (LA.new w h s)
  have HT := Lib.hid hT
  by_cases hk : h.ok
  · have V := Lib.hid (fun W => valid_any h W true (decide_eq_true hk).symm)
    have TO := Lib.hid (fun W => top_any h W h.top (by rw [Ho.topR, if_pos hk]))
    have hr := Ho.range hk
    have NU := Lib.hid (fun W => numberTo_any k1 (h.top + 1) W (by omega) (by omega) a10 a11)
    have P0 := Int.emod_nonneg k1 (show h.top + 1 ≠ 0 by omega)
    have P1 := Int.emod_lt_of_pos k1 (show 0 < h.top + 1 by omega)
    obtain ⟨pos, hpos⟩ : ∃ pos, k1 % (h.top + 1) = pos := ⟨_, rfl⟩
    rw [hpos] at NU P0 P1
    clear hpos a10 a11
    have hw1 : IntKind.i64.wrap (h.top + 1) = h.top + 1 := IntWalk.i64_in _ (by omega)
    have hs := hk.2.2.1
    have N0 := Int.emod_nonneg pos (show h.s ≠ 0 by omega)
    have N1 := Int.emod_lt_of_pos pos (show 0 < h.s by omega)
    obtain ⟨n, hn⟩ : ∃ n, n = pos % h.s := ⟨_, rfl⟩
    have SA := Lib.hid (fun W => cstart_any h pos W hk P0 (by omega) ⟨⟨pos, 0, 0, decide (0 < n)⟩, 0⟩ (by rw [cL_start hk P0 (by omega), ← hn]; unfold cL; rw [if_pos (.inl rfl), show pos - 0 = pos by omega]))
    have TI := Lib.hid (fun (k : Int) (k0 : 0 ≤ k) (k1 : k < n) W hT => ctick_any h (cL pos n k) s false W ok hT (by decide : (0 : Int) ≤ 9223372036854775807) (cL pos n (k + 1)) ⟨false, false, h.flr (pos - (k + 1)), 0, -1, zSp⟩ (cL_step hk P0 (by omega) hn.symm k0 k1 s))
    obtain ⟨bl, hbl⟩ : ∃ bl, bl = decide (h.lev pos) := ⟨_, rfl⟩
    have LV := Lib.hid (fun W => level_any h pos W bl hbl)
    have HBL : Hid ((decide (0 < n) == bl) = false) := by
      show _ = _
      have c0 := congrArg (fun c : Ca => c.x.r) (cL_start hk P0 (show pos ≤ h.top by omega))
      have e : (!decide (h.lev pos)) = decide (0 < pos % h.s) := c0
      rw [hbl, hn, ← e]
      cases decide (h.lev pos) <;> rfl
    have LE := Lib.hid (fun W => level_any h (pos - n) W true (by
      have m := off_mod hk P0 N0 (show pos % h.s ≤ pos % h.s by omega)
      have c := Int.mul_ediv_add_emod pos h.s
      have hq : 0 ≤ h.s * (pos / h.s) := Int.mul_nonneg (by omega) (Int.ediv_nonneg P0 (by omega))
      rw [hn]
      exact (decide_eq_true ⟨⟨hk, by omega, by omega⟩, by omega⟩).symm))
    obtain ⟨r0, hr0⟩ : ∃ r0, r0 = decide (0 < n) := ⟨_, rfl⟩
    rw [← hr0] at SA HBL
    have C0 : Hid (cL pos n 0 = ⟨⟨pos, 0, 0, r0⟩, 0⟩) := by
      show _ = _
      unfold cL
      rw [if_pos (.inl rfl), show pos - 0 = pos by omega, hr0]
    clear hr0
    have hnw : pos % h.s = n := hn.symm
    rw [hnw] at N0 N1
    have hne : ¬ h.s = 0 := by omega
    have hwp : IntKind.i64.wrap (pos - n) = pos - n := IntWalk.i64_in _ (by omega)
    clear hn hbl hk ok hT
    obtain ⟨t, ht⟩ : ∃ t, t = h.top := ⟨_, rfl⟩
    rw [← ht] at *
    clear ht
    obtain ⟨hc, hfl, hs', hd⟩ := h
    obtain ⟨sp, su, sd⟩ := s
    dsimp only [Ho.v, Ho.box, Ca.v, Ca.box, Sp.v, Sp.box, Dn.v, Dn.box, zSp] at *
    go_enter Tryd.func7, Tryd.ntmps7
    go_wp2_with fail
    have Z0 := Lib.hid (HT.out.fr TB.out.f)
    with_reducible refine (cfirst_any _ Z0.out).mono ?_
    rintro v w1 ⟨rfl, hf⟩
    have T1 := Lib.hid (TB.out.fr hf)
    clear hf TB Z0
    obtain ⟨c0, c1, c2, c3⟩ := T1.out.h.cells
    dsimp only at c0 c1 c2 c3
    go_wp2_with fail
    with_reducible refine (V.out _).mono ?_
    rintro v w2 ⟨rfl, hf⟩
    have T2 := Lib.hid (T1.out.fr hf)
    clear hf c0 c1 c2 c3 T1
    obtain ⟨c0, c1, c2, c3⟩ := T2.out.h.cells
    dsimp only at c0 c1 c2 c3
    go_wp2_with fail
    with_reducible refine (TO.out _).mono ?_
    rintro v w3 ⟨rfl, hf⟩
    have T3 := Lib.hid (T2.out.fr hf)
    clear hf c0 c1 c2 c3 T2
    obtain ⟨c0, c1, c2, c3⟩ := T3.out.h.cells
    dsimp only at c0 c1 c2 c3
    go_wp2_with fail
    with_reducible refine (NU.out _).mono ?_
    rintro v w4 ⟨rfl, rfl⟩
    go_wp2_with fail
    with_reducible refine (SA.out _).mono ?_
    rintro v w4 ⟨rfl, hf⟩
    have T4 := Lib.hid ((T3.out.fr hf).own ⟨⟨pos, 0, 0, r0⟩, 0⟩)
    clear hf c0 c1 c2 c3 T3
    go_upto_region 8 with fail
    dsimp only [Ca.box] at T4
    generalize World.alloc w4 _ = w5 at *
    obtain ⟨b, hb⟩ : ∃ b, w4.heap.size = b := ⟨_, rfl⟩
    rw [hb] at T4
    rw [hb]
    clear hb w4
    have D5 := Lib.hid (F5.lasts _ _ _ _ _ _ _ (F5.of (Fr.refl w5 []) T4.out.h T4.out.c) (Fr.drew w5 []))
    have hB := HBL.out
    refine wp_region_det (S := F5 w5 w.heap.size b ⟨hc, hfl, hs', hd⟩ ⟨⟨pos, 0, 0, r0⟩, 0⟩) (by kernel_rfl) D5.out ?_
    refine wpDet_take (i := 0) (oi := _) (v := ?dv1) (by simp only [List.getElem?_toArray, List.getElem?_cons_zero]; rfl) (by kernel_rfl) (by kernel_rfl) (by kernel_rfl) (Or.inl ⟨by rfl, ?dy1⟩) ?dr1
    case dy1 => (intro w hSw; have hS0 := hSw; (try dsimp only [F5] at hSw); go_simp; refine Came.value ?_ hS0; with_reducible rfl)
    try simp only [Act.put, List.setIfInBounds_toArray, List.set_cons_zero, List.set_cons_succ]
    refine wpDet_take (i := 1) (oi := _) (v := ?dv2) (by simp only [List.getElem?_toArray, List.getElem?_cons_zero, List.getElem?_cons_succ]; rfl) (by kernel_rfl) (by kernel_rfl) (by kernel_rfl) (Or.inl ⟨by rfl, ?dy2⟩) ?dr2
    case dy2 => (intro w hSw; have hS0 := hSw; (try dsimp only [F5] at hSw); go_simp; refine Came.value ?_ hS0; with_reducible rfl)
    try simp only [Act.put, List.setIfInBounds_toArray, List.set_cons_zero, List.set_cons_succ]
    refine wpDet_take (i := 2) (oi := _) (v := ?dv3) (by simp only [List.getElem?_toArray, List.getElem?_cons_zero, List.getElem?_cons_succ]; rfl) (by kernel_rfl) (by kernel_rfl) (by kernel_rfl) (Or.inl ⟨by rfl, ?dy3⟩) ?dr3
    case dy3 => (intro w hSw; have hS0 := hSw; (try dsimp only [F5] at hSw); go_simp; refine Came.value ?_ hS0; with_reducible rfl)
    try simp only [Act.put, List.setIfInBounds_toArray, List.set_cons_zero, List.set_cons_succ]
    refine wpDet_take (i := 3) (oi := _) (v := ?dv4) (by simp only [List.getElem?_toArray, List.getElem?_cons_zero, List.getElem?_cons_succ]; rfl) (by kernel_rfl) (by kernel_rfl) (by kernel_rfl) (Or.inl ⟨by rfl, ?dy4⟩) ?dr4
    case dy4 => (intro w hSw; have hS0 := hSw; (try dsimp only [F5] at hSw); go_simp; refine Came.value ?_ hS0; with_reducible rfl)
    try simp only [Act.put, List.setIfInBounds_toArray, List.set_cons_zero, List.set_cons_succ]
    refine wpDet_take (i := 4) (oi := _) (v := ?dv5) (by simp only [List.getElem?_toArray, List.getElem?_cons_zero, List.getElem?_cons_succ]; rfl) (by kernel_rfl) (by kernel_rfl) (by kernel_rfl) (Or.inl ⟨by rfl, ?dy5⟩) ?dr5
    case dy5 => (intro w hSw; have hS0 := hSw; (try dsimp only [F5] at hSw); go_simp; refine Came.value ?_ hS0; with_reducible rfl)
    try simp only [Act.put, List.setIfInBounds_toArray, List.set_cons_zero, List.set_cons_succ]
    refine wpDet_take (i := 5) (oi := _) (v := ?dv6) (by simp only [List.getElem?_toArray, List.getElem?_cons_zero, List.getElem?_cons_succ]; rfl) (by kernel_rfl) (by kernel_rfl) (by kernel_rfl) (Or.inl ⟨by rfl, ?dy6⟩) ?dr6
    case dy6 => (intro w hSw; have hS0 := hSw; (try dsimp only [F5] at hSw); go_simp; refine Came.value ?_ hS0; with_reducible rfl)
    try simp only [Act.put, List.setIfInBounds_toArray, List.set_cons_zero, List.set_cons_succ]
    refine wpDet_take (i := 6) (oi := _) (v := ?dv7) (by simp only [List.getElem?_toArray, List.getElem?_cons_zero, List.getElem?_cons_succ]; rfl) (by kernel_rfl) (by kernel_rfl) (by kernel_rfl) (Or.inl ⟨by rfl, ?dy7⟩) ?dr7
    case dy7 => (intro w hSw; have hS0 := hSw; (try dsimp only [F5] at hSw); go_simp; refine Came.value ?_ hS0; with_reducible rfl)
    try simp only [Act.put, List.setIfInBounds_toArray, List.set_cons_zero, List.set_cons_succ]
    refine wpDet_take (i := 7) (oi := _) (v := ?dv8) (by simp only [List.getElem?_toArray, List.getElem?_cons_zero, List.getElem?_cons_succ]; rfl) (by kernel_rfl) (by kernel_rfl) (by kernel_rfl) (Or.inl ⟨by rfl, ?dy8⟩) ?dr8
    case dy8 => (intro w hSw; have hS0 := hSw; (try dsimp only [F5] at hSw); go_simp; refine Came.value ?_ hS0; with_reducible rfl)
    try simp only [Act.put, List.setIfInBounds_toArray, List.set_cons_zero, List.set_cons_succ]
    refine wpDet_take (i := 8) (oi := _) (v := ?dv9) (by simp only [List.getElem?_toArray, List.getElem?_cons_zero, List.getElem?_cons_succ]; rfl) (by kernel_rfl) (by kernel_rfl) (by kernel_rfl) (Or.inl ⟨by rfl, ?dy9⟩) ?dr9
    case dy9 => (intro w hSw; have hS0 := hSw; (try dsimp only [F5] at hSw); go_simp; refine Came.value ?_ hS0; with_reducible rfl)
    try simp only [Act.put, List.setIfInBounds_toArray, List.set_cons_zero, List.set_cons_succ]
    refine wpDet_take (i := 9) (oi := _) (v := ?dv10) (by simp only [List.getElem?_toArray, List.getElem?_cons_zero, List.getElem?_cons_succ]; rfl) (by kernel_rfl) (by kernel_rfl) (by kernel_rfl) (Or.inl ⟨by rfl, ?dy10⟩) ?dr10
    case dy10 => (intro w hSw; have hS0 := hSw; (try dsimp only [F5] at hSw); go_simp; refine Came.value ?_ hS0; with_reducible rfl)
    try simp only [Act.put, List.setIfInBounds_toArray, List.set_cons_zero, List.set_cons_succ]
    refine wpDet_take (i := 10) (oi := _) (v := ?dv11) (by simp only [List.getElem?_toArray, List.getElem?_cons_zero, List.getElem?_cons_succ]; rfl) (by kernel_rfl) (by kernel_rfl) (by kernel_rfl) (Or.inl ⟨by rfl, ?dy11⟩) ?dr11
    case dy11 => (intro w hSw; have hS0 := hSw; (try dsimp only [F5] at hSw); go_simp; refine Came.value ?_ hS0; with_reducible rfl)
    try simp only [Act.put, List.setIfInBounds_toArray, List.set_cons_zero, List.set_cons_succ]
    refine wpDet_take (i := 11) (oi := _) (v := ?dv12) (by simp only [List.getElem?_toArray, List.getElem?_cons_zero, List.getElem?_cons_succ]; rfl) (by kernel_rfl) (by kernel_rfl) (by kernel_rfl) (Or.inl ⟨by rfl, ?dy12⟩) ?dr12
    case dy12 => (intro w hSw; have hS0 := hSw; (try dsimp only [F5] at hSw); go_simp; refine Came.value ?_ hS0; with_reducible rfl)
    try simp only [Act.put, List.setIfInBounds_toArray, List.set_cons_zero, List.set_cons_succ]
    refine wpDet_take (i := 12) (oi := _) (v := ?dv13) (by simp only [List.getElem?_toArray, List.getElem?_cons_zero, List.getElem?_cons_succ]; rfl) (by kernel_rfl) (by kernel_rfl) (by kernel_rfl) (Or.inl ⟨by rfl, ?dy13⟩) ?dr13
    case dy13 => (intro w hSw; have hS0 := hSw; (try dsimp only [F5] at hSw); go_simp; refine Came.value ?_ hS0; with_reducible rfl)
    try simp only [Act.put, List.setIfInBounds_toArray, List.set_cons_zero, List.set_cons_succ]
    refine wpDet_take (i := 13) (oi := _) (v := ?dv14) (by simp only [List.getElem?_toArray, List.getElem?_cons_zero, List.getElem?_cons_succ]; rfl) (by kernel_rfl) (by kernel_rfl) (by kernel_rfl) (Or.inl ⟨by rfl, ?dy14⟩) ?dr14
    case dy14 => (intro w hSw; have hS0 := hSw; (try dsimp only [F5] at hSw); go_simp; refine Came.value ?_ hS0; with_reducible rfl)
    try simp only [Act.put, List.setIfInBounds_toArray, List.set_cons_zero, List.set_cons_succ]
    refine wpDet_take (i := 14) (oi := _) (v := ?dv15) (by simp only [List.getElem?_toArray, List.getElem?_cons_zero, List.getElem?_cons_succ]; rfl) (by kernel_rfl) (by kernel_rfl) (by kernel_rfl) (Or.inl ⟨by rfl, ?dy15⟩) ?dr15
    case dy15 => (intro w hSw; have hS0 := hSw; (try dsimp only [F5] at hSw); go_simp; refine Came.value ?_ hS0; with_reducible rfl)
    try simp only [Act.put, List.setIfInBounds_toArray, List.set_cons_zero, List.set_cons_succ]
    refine wpDet_take (i := 15) (oi := _) (v := ?dv16) (by simp only [List.getElem?_toArray, List.getElem?_cons_zero, List.getElem?_cons_succ]; rfl) (by kernel_rfl) (by kernel_rfl) (by kernel_rfl) (Or.inl ⟨by rfl, ?dy16⟩) ?dr16
    case dy16 => (intro w hSw; have hS0 := hSw; (try dsimp only [F5] at hSw); go_simp; refine Came.value ?_ hS0; with_reducible rfl)
    try simp only [Act.put, List.setIfInBounds_toArray, List.set_cons_zero, List.set_cons_succ]
    refine wpDet_take (i := 16) (oi := _) (v := ?dv17) (by simp only [List.getElem?_toArray, List.getElem?_cons_zero, List.getElem?_cons_succ]; rfl) (by kernel_rfl) (by kernel_rfl) (by kernel_rfl) (Or.inl ⟨by rfl, ?dy17⟩) ?dr17
    case dy17 => (intro w hSw; have hS0 := hSw; (try dsimp only [F5] at hSw); go_simp; refine Came.value ?_ hS0; with_reducible rfl)
    try simp only [Act.put, List.setIfInBounds_toArray, List.set_cons_zero, List.set_cons_succ]
    refine wpDet_take (i := 17) (oi := _) (v := ?dv18) (by simp only [List.getElem?_toArray, List.getElem?_cons_zero, List.getElem?_cons_succ]; rfl) (by kernel_rfl) (by kernel_rfl) (by kernel_rfl) (Or.inl ⟨by rfl, ?dy18⟩) ?dr18
    case dy18 => (intro w hSw; have hS0 := hSw; (try dsimp only [F5] at hSw); go_simp; refine Came.value ?_ hS0; with_reducible rfl)
    try simp only [Act.put, List.setIfInBounds_toArray, List.set_cons_zero, List.set_cons_succ]
    refine wpDet_take (i := 18) (oi := _) (v := ?dv19) (by simp only [List.getElem?_toArray, List.getElem?_cons_zero, List.getElem?_cons_succ]; rfl) (by kernel_rfl) (by kernel_rfl) (by kernel_rfl) (Or.inl ⟨by rfl, ?dy19⟩) ?dr19
    case dy19 => (intro w hSw; have hS0 := hSw; (try dsimp only [F5] at hSw); go_simp; refine Came.value ?_ hS0; with_reducible rfl)
    try simp only [Act.put, List.setIfInBounds_toArray, List.set_cons_zero, List.set_cons_succ]
    refine wpDet_take (i := 19) (oi := _) (v := ?dv20) (by simp only [List.getElem?_toArray, List.getElem?_cons_zero, List.getElem?_cons_succ]; rfl) (by kernel_rfl) (by kernel_rfl) (by kernel_rfl) (Or.inl ⟨by rfl, ?dy20⟩) ?dr20
    case dy20 => (intro w hSw; have hS0 := hSw; (try dsimp only [F5] at hSw); go_simp; refine Came.value ?_ hS0; with_reducible rfl)
    try simp only [Act.put, List.setIfInBounds_toArray, List.set_cons_zero, List.set_cons_succ]
    refine wpDet_take (i := 20) (oi := _) (v := ?dv21) (by simp only [List.getElem?_toArray, List.getElem?_cons_zero, List.getElem?_cons_succ]; rfl) (by kernel_rfl) (by kernel_rfl) (by kernel_rfl) (Or.inl ⟨by rfl, ?dy21⟩) ?dr21
    case dy21 => (intro w hSw; go_simp; exact Came.call ((LV.out w).mono fun e w' ⟨he, hf⟩ => ⟨he, F5.lasts _ _ _ _ _ _ _ hSw hf⟩) (by with_reducible rfl))
    try simp only [Act.put, List.setIfInBounds_toArray, List.set_cons_zero, List.set_cons_succ]
    refine wpDet_take (i := 21) (oi := _) (v := ?dv22) (by simp only [List.getElem?_toArray, List.getElem?_cons_zero, List.getElem?_cons_succ]; rfl) (by kernel_rfl) (by kernel_rfl) (by kernel_rfl) (Or.inl ⟨by rfl, ?dy22⟩) ?dr22
    case dy22 => (intro w hSw; have hS0 := hSw; (try dsimp only [F5] at hSw); go_simp; refine Came.value ?_ hS0; with_reducible rfl)
    try simp only [Act.put, List.setIfInBounds_toArray, List.set_cons_zero, List.set_cons_succ]
    refine wpDet_take (i := 22) (oi := _) (v := ?dv23) (by simp only [List.getElem?_toArray, List.getElem?_cons_zero, List.getElem?_cons_succ]; rfl) (by kernel_rfl) (by kernel_rfl) (by kernel_rfl) (Or.inl ⟨by rfl, ?dy23⟩) ?dr23
    case dy23 => (intro w hSw; have hS0 := hSw; (try dsimp only [F5] at hSw); go_simp; refine Came.value ?_ hS0; with_reducible rfl)
    try simp only [Act.put, List.setIfInBounds_toArray, List.set_cons_zero, List.set_cons_succ]
    refine wpDet_done (by kernel_rfl) ?_ _
    rintro w6 hS
    have T6 := Lib.hid (T4.out.fr hS.1)
    clear hS hB HBL LV D5 T4 TO NU SA V hw1
    obtain ⟨c0, c1, c2, c3⟩ := T6.out.h.cells
    dsimp only at c0 c1 c2 c3 hnw hne hs
    go_wp2
    rw [hnw]
    clear c0 c1 c2 c3 hnw hne
    go_loopw [12] (fun i wx => ∃ k P e : Int, ∃ r, i = .int .i64 k ∧ Hid (0 ≤ k ∧ k ≤ n) ∧ Hid (cL pos n k = ⟨⟨P, e, 0, r⟩, 0⟩) ∧ Hid (LL w b ⟨hc, hfl, hs', hd⟩ ⟨sp, su, sd⟩ ⟨⟨P, e, 0, r⟩, 0⟩ wx)) (fun i _ => (n - intOf i).toNat)
    case atStart => exact ⟨0, pos, 0, r0, rfl, (by show _ ∧ _; omega), C0, T6⟩
    case round =>
      clear T6 C0
      obtain ⟨k, P, e, r, rfl, HK, HC, HLx⟩ := hrel
      obtain ⟨hk0, hk1⟩ := HK.out
      obtain ⟨i0, i1, i2, i3⟩ := HLx.out.h.cells
      obtain ⟨c0, c1, c2, c3, c4⟩ := HLx.out.c.cells
      obtain ⟨s0, s1, s2⟩ := arow HLx.out.s
      have ZT := Lib.hid (HT.out.fr HLx.out.f)
      dsimp only at i0 i1 i2 i3 c0 c1 c2 c3 c4 s0 s1 s2
      by_cases hlt : k < n
      · obtain ⟨P', e', r', HC'⟩ : ∃ P' e' r', cL pos n (k + 1) = ⟨⟨P', e', 0, r'⟩, 0⟩ := ⟨_, _, _, rfl⟩
        obtain ⟨fl, hfl'⟩ : ∃ fl, fl = Ho.flr ⟨hc, hfl, hs', hd⟩ (pos - (k + 1)) := ⟨_, rfl⟩
        have TK := TI.out k hk0 hlt
        rw [HC.out, HC', ← hfl'] at TK
        dsimp only at TK
        have TK := Lib.hid TK
        have HC' := Lib.hid HC'
        have hm1 : ((-1 : Int) != -1) = false := by decide
        clear hfl' TI
        go_wp2_with fail
        with_reducible refine (TK.out _ ZT.out).mono ?_
        rintro v w3 ⟨rfl, hf⟩
        have T7 := Lib.hid ((HLx.out.fr hf).fr (two_fr w3 ⟨⟨P', e', 0, r'⟩, 0⟩ ⟨false, false, fl, 0, -1, zSp⟩))
        have T8 := Lib.hid (T7.out.car ⟨⟨P', e', 0, r'⟩, 0⟩)
        clear hf i0 i1 i2 i3 c0 c1 c2 c3 c4 s0 s1 s2 HLx ZT TK
        obtain ⟨c0, c1, c2, c3, c4⟩ := T7.out.c.cells
        have y0 := T7.out.c.fz 0
        have y1 := T7.out.c.fz 1
        have y2 := T7.out.c.fz 2
        have y3 := T7.out.c.fz 3
        have y4 := T7.out.c.fz 4
        dsimp only [Ca.box, Dn.box, zSp, carSet] at T8 c0 c1 c2 c3 c4 y0 y1 y2 y3 y4
        simp only [show ((0 : Nat) : Int) = 0 from rfl] at T8 c0 c1 c2 c3 c4 y0 y1 y2 y3 y4
        go_wp2
        go_roundw
        case rel => exact ⟨k + 1, P', e', r', by go_num, (by show _ ∧ _; omega), HC', T8⟩
        case measure => simp [intOf]; omega
      · obtain rfl : n = k := by omega
        have hC := HC.out
        unfold cL at hC
        rw [if_pos (.inr rfl), decide_eq_false (by omega)] at hC
        simp only [Ca.mk.injEq, St.mk.injEq, and_true, true_and] at hC
        obtain ⟨h1, h2, h3⟩ := hC
        subst h1 h2 h3
        clear TI HC
        go_wp2_with fail
        with_reducible refine (LE.out _).mono ?_
        rintro v w3 ⟨rfl, hf⟩
        have T7 := Lib.hid (HLx.out.fr hf)
        clear hf i0 i1 i2 i3 c0 c1 c2 c3 c4 s0 s1 s2
        obtain ⟨c0, c1, c2, c3, c4⟩ := T7.out.c.cells
        dsimp only at c0 c1 c2 c3 c4
        go_wp2
        go_ret
        exact ⟨rfl, T7.out.f⟩
  · have V := Lib.hid (fun W => valid_any h W false (decide_eq_false hk).symm)
    clear hk ok hT a10 a11
    obtain ⟨hc, hfl, hs', hd⟩ := h
    obtain ⟨sp, su, sd⟩ := s
    dsimp only [Ho.v, Ho.box, Sp.v, Sp.box] at *
    go_enter Tryd.func7, Tryd.ntmps7
    go_wp2_with fail
    have Z0 := Lib.hid (HT.out.fr TB.out.f)
    with_reducible refine (cfirst_any _ Z0.out).mono ?_
    rintro v w1 ⟨rfl, hf⟩
    have T1 := Lib.hid (TB.out.fr hf)
    clear hf TB Z0
    obtain ⟨c0, c1, c2, c3⟩ := T1.out.h.cells
    dsimp only at c0 c1 c2 c3
    go_wp2_with fail
    with_reducible refine (V.out _).mono ?_
    rintro v w2 ⟨rfl, hf⟩
    have T2 := Lib.hid (T1.out.fr hf)
    clear hf
    go_wp2
    go_ret
    exact ⟨rfl, T2.out.f⟩
theorem clevels_walk (h : Ho) (s : Sp) (k1 : Int) (ok : s.ok) (a10 : -9223372036854775808 ≤ k1) (a11 : k1 ≤ 9223372036854775807) (W : World) (hT : Tz W) :
    Calls Tryd.prog 7 #[h.v, .int .i64 k1, s.v] W fun x w' => x = .returned (.bool true) ∧ W.grownBy w' none :=
  (levels_true h k1 s ok a10 a11 W hT).mono fun _ _ ⟨he, hf⟩ => ⟨he, hf.grown (by simp)⟩
end Go.Proofs.YtgcgbiaigbblkaaDoor
