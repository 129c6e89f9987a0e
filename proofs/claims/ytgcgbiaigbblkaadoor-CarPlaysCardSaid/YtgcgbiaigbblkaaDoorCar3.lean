/- A car by value: what counts of the stops. -/
import Derived.Test.YtgcgbiaigbblkaaDoorCar2
import Derived.Test.YtgcgbiaigbblkaaDoorAhd3
import Derived.Laws.BitsAllLaws
namespace Go.Proofs.YtgcgbiaigbblkaaDoor
open Go.RowKit

theorem ones_shr (f : Nat) (h : f ≤ 64) : (18446744073709551615 : Int) / 2 ^ min (64 - f) 64 = ((2 ^ f - 1 : Nat) : Int) := by
  have a : (18446744073709551615 : Nat) / 2 ^ (64 - f) = 2 ^ f - 1 := by
    have p : 2 ^ f * 2 ^ (64 - f) = 18446744073709551616 := by rw [← Nat.pow_add, show f + (64 - f) = 64 by omega]
    have q := Nat.two_pow_pos (64 - f)
    have r := Nat.two_pow_pos f
    refine (Nat.div_eq_iff q).2 ⟨?_, ?_⟩
    · rw [Nat.sub_mul, p]; omega
    · have : (2 ^ f - 1) * 2 ^ (64 - f) = 18446744073709551616 - 2 ^ (64 - f) := by rw [Nat.sub_mul, p, Nat.one_mul]
      rw [this]
      have : 2 ^ (64 - f) ≤ 18446744073709551616 := by rw [← p]; exact Nat.le_mul_of_pos_left _ r
      omega
  rw [Nat.min_eq_left (by omega)]
  have e : (18446744073709551615 : Int) / 2 ^ (64 - f) = (((18446744073709551615 : Nat) / 2 ^ (64 - f) : Nat) : Int) := by simp
  rw [e, a]
theorem half_ones (f : Nat) (h : 1 ≤ f) : (2 ^ f - 1) / 2 = 2 ^ (f - 1) - 1 := by
  obtain ⟨g, rfl⟩ : ∃ g, f = g + 1 := ⟨f - 1, by omega⟩
  rw [Nat.pow_succ, Nat.add_sub_cancel]
  have := Nat.two_pow_pos g
  omega
set_option maxHeartbeats 1000000 in
set_option maxRecDepth 100000 in
theorem fit_any (h : Ho) (s : Sp) (w : World) (k : h.ok) (ok : s.ok) (r : Sp) (hr : r = h.fit s) : Calls Tryd.prog 31 #[h.v, s.v] w fun e w' => e = .returned r.v ∧ Fr w w' [] := by
  obtain ⟨f, hf⟩ : ∃ f : Nat, h.f = (f : Int) := ⟨h.f.toNat, by have := k.2.1.1; omega⟩
  have k0 := k.2.1
  rw [hf] at k0
  have f0 : 2 ≤ f := by omega
  have f1 : f ≤ 64 := by omega
  have lt : ∀ g : Nat, g ≤ 64 → 2 ^ g - 1 < 18446744073709551616 := fun g hg => by
    have : 2 ^ g ≤ 2 ^ 64 := Nat.pow_le_pow_right (by decide) hg
    rw [show (2 : Nat) ^ 64 = 18446744073709551616 from rfl] at this
    have := Nat.two_pow_pos g
    omega
  have S1 := ones_shr f f1
  have S2 := half_ones f (by omega)
  have l1 := lt f f1
  have l2 := lt (f - 1) (by omega)
  obtain ⟨F, hF⟩ : ∃ F, F = 2 ^ f - 1 := ⟨_, rfl⟩
  obtain ⟨G, hG⟩ : ∃ G, G = 2 ^ (f - 1) - 1 := ⟨_, rfl⟩
  rw [← hF] at S1 S2 l1
  rw [← hG] at S2 l2
  have E1 := bits_and_u64_nat s.c F ok.c l1
  have E2 : bits .and .u64 (s.u : Int) ((F : Int) / 2) = ((s.u &&& G : Nat) : Int) := by
    have e : ((F : Int) / 2) = ((G : Nat) : Int) := by rw [← S2]; simp
    rw [e]; exact bits_and_u64_nat s.u G ok.u l2
  have E3 := bits_and_u64_nat s.d F ok.d l1
  have ld : s.d &&& F < 18446744073709551616 := Nat.lt_of_le_of_lt Nat.and_le_left ok.d
  have E4 : bits .andNot .u64 ((s.d &&& F : Nat) : Int) 1 = (((s.d &&& F) &&& (18446744073709551615 - 1) : Nat) : Int) := u64_andNot_nat (s.d &&& F) 1 ld (by decide)
  obtain ⟨j, hj⟩ : ∃ j : Nat, j = 64 - f := ⟨_, rfl⟩
  rw [← hj] at S1
  have hw : IntKind.i64.wrap (64 - (f : Int)) = (j : Int) := by rw [show (64 : Int) - (f : Int) = (j : Int) by omega]; exact IntWalk.i64_in _ (by omega)
  have HV : Hid (r = ⟨s.c &&& F, s.u &&& G, (s.d &&& F) &&& (18446744073709551615 - 1)⟩) := by
    show _ = _
    have t : h.f.toNat = f := by rw [hf]; rfl
    have t2 : (h.f - 1).toNat = f - 1 := by rw [hf]; omega
    have o : oneN 0 = 1 := by decide
    rw [hr, Ho.fit, lowN, lowN, lowN, clrN, t, t2, hF, hG, Nat.and_two_pow_sub_one_eq_mod, Nat.and_two_pow_sub_one_eq_mod, Nat.and_two_pow_sub_one_eq_mod, o]
  clear hr k k0 f0 f1 lt l1 l2 hF hG ok ld hj S2
  obtain ⟨hc, hfl, hs, hd⟩ := h
  dsimp only at hf
  subst hf
  obtain ⟨p, u, d⟩ := s
  dsimp only [Ho.v, Sp.v] at *
  go_enter Tryd.func31, Tryd.ntmps31
  obtain ⟨A, hA⟩ : ∃ A, A = p &&& F := ⟨_, rfl⟩
  obtain ⟨B, hB⟩ : ∃ B, B = u &&& G := ⟨_, rfl⟩
  obtain ⟨D, hD⟩ : ∃ D, D = (d &&& F) &&& (18446744073709551615 - 1) := ⟨_, rfl⟩
  rw [← hA] at E1
  rw [← hB] at E2
  rw [← hD] at E4
  rw [← hA, ← hB, ← hD] at HV
  clear hA hB hD
  have FA := Lib.hid (((Fr.alloc w (Ho.box ⟨hc, f, hs, hd⟩) []).trans (Fr.alloc _ (.cells #[.int .u64 p, .int .u64 u, .int .u64 d] 37) [])).trans (Fr.alloc _ (.cells #[.int .u64 A, .int .u64 B, .int .u64 D] 37) []))
  have x := arow (heap_alloc_new ((w.alloc (Ho.box ⟨hc, f, hs, hd⟩)).alloc (.cells #[.int .u64 p, .int .u64 u, .int .u64 d] 37)) (.cells #[.int .u64 A, .int .u64 B, .int .u64 D] 37))
  rw [show ((w.alloc (Ho.box ⟨hc, f, hs, hd⟩)).alloc (.cells #[.int .u64 p, .int .u64 u, .int .u64 d] 37)).heap.size = w.heap.size + 1 + 1 by simp] at x
  obtain ⟨x0, x1, x2⟩ := x
  dsimp only [Ho.box] at *
  go_wp2
  exact bodyPost_ret (v := .agg #[.int .u64 A, .int .u64 B, .int .u64 D]) (by simp [results, Tryd.results31, go_sem, x0, x1, x2]) rfl ⟨by rw [HV.out], FA.out⟩

/-- A box of stops. -/
abbrev SR (w : World) (b : Nat) (s : Sp) : Prop := w.heap[b]? = some (Sp.box 37 s)
theorem zeroS : (.int .u64 0 : Value) = .int .u64 ((0 : Nat) : Int) := rfl
structure SV (W : World) (s t : Sp) (a : World) : Prop where
  f : Fr W a []
  s : SR a W.heap.size s
  r : SR a (W.heap.size + 1) zSp
  t : SR a (W.heap.size + 2) t
theorem SV.fr {W : World} {s t : Sp} {a a' : World} (q : SV W s t a) (k : Fr a a' []) : SV W s t a' := ⟨q.f.trans k, k.heap q.s (by simp), k.heap q.r (by simp), k.heap q.t (by simp)⟩
def spSet (w : World) (b : Nat) (s : Sp) : World := ((w.setCell ⟨b, 0, none⟩ (.int .u64 s.c)).setCell ⟨b, 1, none⟩ (.int .u64 s.u)).setCell ⟨b, 2, none⟩ (.int .u64 s.d)
theorem SV.turn {W : World} {s t : Sp} {a : World} (q : SV W s t a) (x : Sp) : SV W s x (spSet a (W.heap.size + 2) x) :=
  ⟨q.f.new (aset_fr a _ _ _ _) (by simp), (aset_fr a _ _ _ _).heap q.s (by simp), (aset_fr a _ _ _ _).heap q.r (by simp), aset q.t _ _ _⟩
theorem SV.ends {W : World} {s t : Sp} {a : World} (q : SV W s t a) (x : Sp) : Fr W (spSet a (W.heap.size + 1) x) [] ∧ SR (spSet a (W.heap.size + 1) x) (W.heap.size + 1) x :=
  ⟨q.f.new (aset_fr a _ _ _ _) (by simp), aset q.r _ _ _⟩
theorem SV.new (w : World) (s : Sp) : SV w s zSp (((w.alloc (Sp.box 37 s)).alloc (Sp.box 37 zSp)).alloc (Sp.box 37 zSp)) := by
  have a1 := heap_alloc_new w (Sp.box 37 s)
  have a2 := heap_alloc_new (w.alloc (Sp.box 37 s)) (Sp.box 37 zSp)
  have a3 := heap_alloc_new ((w.alloc (Sp.box 37 s)).alloc (Sp.box 37 zSp)) (Sp.box 37 zSp)
  rw [show (w.alloc (Sp.box 37 s)).heap.size = w.heap.size + 1 by simp] at a2
  rw [show ((w.alloc (Sp.box 37 s)).alloc (Sp.box 37 zSp)).heap.size = w.heap.size + 2 by simp] at a3
  exact ⟨((Fr.alloc _ _ []).trans (Fr.alloc _ _ [])).trans (Fr.alloc _ _ []), (Fr.alloc _ _ []).heap ((Fr.alloc _ _ []).heap a1 (by simp)) (by simp), (Fr.alloc _ _ []).heap a2 (by simp), a3⟩
theorem done_put (s : Sp) (q e : Int) : doneS s s q e = if s.hall q e = true then Sp.put ⟨if hasB s.c q = true then oneN q else 0, 0, 0⟩ q e else ⟨if hasB s.c q = true then oneN q else 0, 0, 0⟩ := by
  unfold doneS
  generalize (if hasB s.c q = true then oneN q else 0) = A
  by_cases k : s.hall q e = true
  · rw [if_pos k]
    rcases hall_dir k with rfl | rfl
    · simp [Sp.put, k]
    · simp [Sp.put, k]
  · rw [if_neg k, if_neg (fun h => k h.1), if_neg (fun h => k h.1)]
set_option maxHeartbeats 2000000 in
set_option maxRecDepth 100000 in
theorem served_any (s : Sp) (q e : Int) (w : World) (ok : s.ok) (r : Sp) (hr : r = doneS s s q e) : Calls Tryd.prog 43 #[s.v, .int .i64 q, .int .i64 e] w fun x w' => x = .returned r.v ∧ Fr w w' [] := by
  rw [done_put] at hr
  obtain ⟨b1, h1⟩ : ∃ b1, b1 = hasB s.c q := ⟨_, rfl⟩
  obtain ⟨b2, h2⟩ : ∃ b2, b2 = s.hall q e := ⟨_, rfl⟩
  have AT := Lib.hid (fun W => at_any s q W ok b1 h1)
  have HA := Lib.hid (fun W => hall_any s q e W ok b2 h2)
  obtain ⟨n, hn⟩ : ∃ n, n = oneN q := ⟨_, rfl⟩
  rw [← h1, ← h2, ← hn] at hr
  have hh : ∀ W : World, HInts (W.alloc (.cells #[.int .i64 q] 3)) (.slice (some ⟨W.heap.size, 0, none⟩) 1 1) [q] := fun W => by
    refine ⟨_, 1, rfl, Nat.le_refl 1, by decide, fun _ => ⟨W.heap.size, 0, rfl, fun i hi => ?_⟩⟩
    rw [Nat.zero_add, cell_of_row _ _ _ _ _ _ (heap_alloc_new W _)]
    have hi' : i < 1 := hi
    match i, hi' with
    | 0, _ => rfl
  have hl : ∀ W : World, HLs (W.alloc (.cells #[.int .i64 q] 3)) (.slice none 0 0) [] := fun W => ⟨none, 0, rfl, by simp, by decide, fun h => absurd h (by simp)⟩
  have O := Lib.hid (fun (W : World) (m : Nat) (em : m = W.heap.size) => show Calls Tryd.prog 24 #[.slice (some ⟨m, 0, none⟩) 1 1, .slice none 0 0] (W.alloc (.cells #[.int .i64 q] 3)) (fun x w' => x = .returned (Sp.mk n 0 0).v ∧ Fr (W.alloc (.cells #[.int .i64 q] 3)) w' []) by rw [em]; exact of_any _ [q] _ [] _ (hh W) (hl W) ⟨n, 0, 0⟩ (by rw [hn]; show _ = Sp.mk (0 ||| oneN q) 0 0; rw [Nat.zero_or]))
  have P1 := Lib.hid (fun (z : Nat) (hz : z < 18446744073709551616) (t : Sp) (ht : t = Sp.put ⟨z, 0, 0⟩ q e) W => put_any ⟨z, 0, 0⟩ q e W ⟨hz, (by decide : (0 : Nat) < 18446744073709551616), (by decide : (0 : Nat) < 18446744073709551616)⟩ t ht)
  have hlt : n < 18446744073709551616 := by rw [hn]; exact oneN_lt q
  have TB := Lib.hid (SV.new w s)
  clear hh hl h1 h2 hn ok
  obtain ⟨p, u, d⟩ := s
  obtain ⟨rc, ru, rd⟩ := r
  dsimp only [Sp.v, Sp.box, zSp] at *
  try simp only [show ((0 : Nat) : Int) = 0 from rfl] at O P1 TB
  cases b1 with
  | true =>
    go_enter Tryd.func43, Tryd.ntmps43
    go_wp2_with fail
    with_reducible refine (AT.out _).mono ?_
    rintro x w2 ⟨rfl, hf⟩
    have T2 := Lib.hid (TB.out.fr hf)
    clear hf
    go_wp2_with fail
    with_reducible refine (O.out _ _ (by simp)).mono ?_
    rintro x w3 ⟨rfl, hf⟩
    have T3 := Lib.hid (T2.out.fr ((Fr.alloc w2 (.cells #[.int .i64 q] 3) []).trans hf))
    clear hf T2
    have T4 := Lib.hid (T3.out.turn ⟨n, 0, 0⟩)
    obtain ⟨d0, d1, d2⟩ := arow T3.out.t
    have y := fun i => frozen_of_row _ _ i _ _ T3.out.t
    have y0 := y 0
    have y1 := y 1
    have y2 := y 2
    clear y
    obtain ⟨c0, c1, c2⟩ := arow T4.out.s
    dsimp only [spSet] at *
    try simp only [show ((0 : Nat) : Int) = 0 from rfl] at T4 c0 c1 c2 d0 d1 d2
    go_wp2_with fail
    generalize World.setCell (World.setCell (World.setCell w3 _ _) _ _) _ _ = W4 at *
    with_reducible refine (HA.out _).mono ?_
    rintro x w5 ⟨rfl, hf⟩
    have T5 := Lib.hid (T4.out.fr hf)
    clear hf c0 c1 c2 d0 d1 d2 y0 y1 y2 T4 T3
    cases b2 with
    | true =>
      have PU := Lib.hid (fun W => P1.out n (by exact hlt) ⟨rc, ru, rd⟩ (by rw [hr]; rfl) W)
      dsimp only [Sp.v] at PU
      try simp only [show ((0 : Nat) : Int) = 0 from rfl] at PU
      obtain ⟨c0, c1, c2⟩ := arow T5.out.t
      dsimp only [zSp] at c0 c1 c2
      try simp only [show ((0 : Nat) : Int) = 0 from rfl] at c0 c1 c2
      go_wp2_with fail
      with_reducible refine (PU.out _).mono ?_
      rintro x w6 ⟨rfl, hf⟩
      have T6 := Lib.hid (T5.out.fr hf)
      clear hf c0 c1 c2 T5
      have T7 := Lib.hid (T6.out.turn ⟨rc, ru, rd⟩)
      obtain ⟨d0, d1, d2⟩ := arow T6.out.t
      have z := fun i => frozen_of_row _ _ i _ _ T6.out.t
      have z0 := z 0
      have z1 := z 1
      have z2 := z 2
      clear z
      dsimp only [zSp, spSet] at *
      try simp only [show ((0 : Nat) : Int) = 0 from rfl] at d0 d1 d2
      obtain ⟨q1, q2⟩ := T7.out.ends ⟨rc, ru, rd⟩
      have q1 := Lib.hid q1
      have q2 := Lib.hid q2
      obtain ⟨c0, c1, c2⟩ := arow T7.out.t
      obtain ⟨r0, r1, r2⟩ := arow T7.out.r
      have y := fun i => frozen_of_row _ _ i _ _ T7.out.r
      have y0 := y 0
      have y1 := y 1
      have y2 := y 2
      clear y
      dsimp only [zSp, spSet, SR] at *
      try simp only [show ((0 : Nat) : Int) = 0 from rfl] at r0 r1 r2 c0 c1 c2
      go_wp2
      generalize World.setCell (World.setCell (World.setCell w6 _ _) _ _) _ _ = W7 at *
      generalize World.setCell (World.setCell (World.setCell W7 _ _) _ _) _ _ = W at *
      obtain ⟨x0, x1, x2⟩ := arow q2.out
      dsimp only at x0 x1 x2
      exact bodyPost_ret (v := .agg #[.int .u64 rc, .int .u64 ru, .int .u64 rd]) (by simp [results, Tryd.results43, go_sem, x0, x1, x2]) rfl ⟨rfl, q1.out⟩
    | false =>
      obtain ⟨rfl, rfl, rfl⟩ : n = rc ∧ 0 = ru ∧ 0 = rd := by
        have e : (Sp.mk rc ru rd) = ⟨n, 0, 0⟩ := hr
        simp only [Sp.mk.injEq] at e
        exact ⟨e.1.symm, e.2.1.symm, e.2.2.symm⟩
      obtain ⟨q1, q2⟩ := T5.out.ends ⟨n, 0, 0⟩
      have q1 := Lib.hid q1
      have q2 := Lib.hid q2
      obtain ⟨c0, c1, c2⟩ := arow T5.out.t
      obtain ⟨r0, r1, r2⟩ := arow T5.out.r
      have y := fun i => frozen_of_row _ _ i _ _ T5.out.r
      have y0 := y 0
      have y1 := y 1
      have y2 := y 2
      clear y
      dsimp only [zSp, spSet, SR] at *
      try simp only [show ((0 : Nat) : Int) = 0 from rfl] at q1 q2 r0 r1 r2 c0 c1 c2
      go_wp2
      generalize World.setCell (World.setCell (World.setCell w5 _ _) _ _) _ _ = W at *
      obtain ⟨x0, x1, x2⟩ := arow q2.out
      dsimp only at x0 x1 x2
      try simp only [show ((0 : Nat) : Int) = 0 from rfl] at x0 x1 x2
      exact bodyPost_ret (v := .agg #[.int .u64 n, .int .u64 0, .int .u64 0]) (by simp [results, Tryd.results43, go_sem, x0, x1, x2]) rfl ⟨rfl, q1.out⟩
  | false =>
    go_enter Tryd.func43, Tryd.ntmps43
    go_wp2_with fail
    with_reducible refine (AT.out _).mono ?_
    rintro x w2 ⟨rfl, hf⟩
    have T2 := Lib.hid (TB.out.fr hf)
    clear hf
    obtain ⟨c0, c1, c2⟩ := arow T2.out.s
    dsimp only at c0 c1 c2
    go_wp2_with fail
    with_reducible refine (HA.out _).mono ?_
    rintro x w5 ⟨rfl, hf⟩
    have T5 := Lib.hid (T2.out.fr hf)
    clear hf c0 c1 c2 T2
    cases b2 with
    | true =>
      have PU := Lib.hid (fun W => P1.out 0 (by decide) ⟨rc, ru, rd⟩ (by rw [hr]; rfl) W)
      dsimp only [Sp.v] at PU
      try simp only [show ((0 : Nat) : Int) = 0 from rfl] at PU
      obtain ⟨c0, c1, c2⟩ := arow T5.out.t
      dsimp only [zSp] at c0 c1 c2
      try simp only [show ((0 : Nat) : Int) = 0 from rfl] at c0 c1 c2
      go_wp2_with fail
      with_reducible refine (PU.out _).mono ?_
      rintro x w6 ⟨rfl, hf⟩
      have T6 := Lib.hid (T5.out.fr hf)
      clear hf c0 c1 c2 T5
      have T7 := Lib.hid (T6.out.turn ⟨rc, ru, rd⟩)
      obtain ⟨d0, d1, d2⟩ := arow T6.out.t
      have z := fun i => frozen_of_row _ _ i _ _ T6.out.t
      have z0 := z 0
      have z1 := z 1
      have z2 := z 2
      clear z
      dsimp only [zSp, spSet] at *
      try simp only [show ((0 : Nat) : Int) = 0 from rfl] at d0 d1 d2
      obtain ⟨q1, q2⟩ := T7.out.ends ⟨rc, ru, rd⟩
      have q1 := Lib.hid q1
      have q2 := Lib.hid q2
      obtain ⟨c0, c1, c2⟩ := arow T7.out.t
      obtain ⟨r0, r1, r2⟩ := arow T7.out.r
      have y := fun i => frozen_of_row _ _ i _ _ T7.out.r
      have y0 := y 0
      have y1 := y 1
      have y2 := y 2
      clear y
      dsimp only [zSp, spSet, SR] at *
      try simp only [show ((0 : Nat) : Int) = 0 from rfl] at r0 r1 r2 c0 c1 c2
      go_wp2
      generalize World.setCell (World.setCell (World.setCell w6 _ _) _ _) _ _ = W7 at *
      generalize World.setCell (World.setCell (World.setCell W7 _ _) _ _) _ _ = W at *
      obtain ⟨x0, x1, x2⟩ := arow q2.out
      dsimp only at x0 x1 x2
      exact bodyPost_ret (v := .agg #[.int .u64 rc, .int .u64 ru, .int .u64 rd]) (by simp [results, Tryd.results43, go_sem, x0, x1, x2]) rfl ⟨rfl, q1.out⟩
    | false =>
      obtain ⟨rfl, rfl, rfl⟩ : 0 = rc ∧ 0 = ru ∧ 0 = rd := by
        have e : (Sp.mk rc ru rd) = ⟨0, 0, 0⟩ := hr
        simp only [Sp.mk.injEq] at e
        exact ⟨e.1.symm, e.2.1.symm, e.2.2.symm⟩
      obtain ⟨q1, q2⟩ := T5.out.ends ⟨0, 0, 0⟩
      have q1 := Lib.hid q1
      have q2 := Lib.hid q2
      obtain ⟨c0, c1, c2⟩ := arow T5.out.t
      obtain ⟨r0, r1, r2⟩ := arow T5.out.r
      have y := fun i => frozen_of_row _ _ i _ _ T5.out.r
      have y0 := y 0
      have y1 := y 1
      have y2 := y 2
      clear y
      dsimp only [zSp, spSet, SR] at *
      try simp only [show ((0 : Nat) : Int) = 0 from rfl] at q1 q2 r0 r1 r2 c0 c1 c2
      go_wp2
      generalize World.setCell (World.setCell (World.setCell w5 _ _) _ _) _ _ = W at *
      obtain ⟨x0, x1, x2⟩ := arow q2.out
      dsimp only at x0 x1 x2
      try simp only [show ((0 : Nat) : Int) = 0 from rfl] at x0 x1 x2
      exact bodyPost_ret (v := .agg #[.int .u64 0, .int .u64 0, .int .u64 0]) (by simp [results, Tryd.results43, go_sem, x0, x1, x2]) rfl ⟨rfl, q1.out⟩
end Go.Proofs.YtgcgbiaigbblkaaDoor
