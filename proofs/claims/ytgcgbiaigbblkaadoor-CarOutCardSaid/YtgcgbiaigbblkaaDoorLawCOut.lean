/- Stops that are of no floor of the house, or lead out of it, count for nothing. -/
import Derived.Test.YtgcgbiaigbblkaaDoorCLaw
import Derived.Test.YtgcgbiaigbblkaaDoorCaOut
import Derived.Laws.BitsAllLaws
namespace Go.Proofs.YtgcgbiaigbblkaaDoor
open Go.RowKit

/-- The boxes of what came in. -/
structure LO (W : World) (h : Ho) (c : Ca) (s m : Sp) (a : World) : Prop where
  f : Fr W a []
  h : HB a W.heap.size h
  c : CB a (W.heap.size + 1) c
  s : SR a (W.heap.size + 2) s
  m : SR a (W.heap.size + 3) m
theorem LO.fr {W : World} {h : Ho} {c : Ca} {s m : Sp} {a a' : World} (q : LO W h c s m a) (f : Fr a a' []) : LO W h c s m a' := ⟨q.f.trans f, q.h.fr f, q.c.fr f (by simp), f.heap q.s (by simp), f.heap q.m (by simp)⟩
theorem LO.new (w : World) (h : Ho) (c : Ca) (s m : Sp) : LO w h c s m ((((w.alloc h.box).alloc c.box).alloc (Sp.box 37 s)).alloc (Sp.box 37 m)) := by
  have a1 := heap_alloc_new w h.box
  have a2 := heap_alloc_new (w.alloc h.box) c.box
  have a3 := heap_alloc_new ((w.alloc h.box).alloc c.box) (Sp.box 37 s)
  have a4 := heap_alloc_new (((w.alloc h.box).alloc c.box).alloc (Sp.box 37 s)) (Sp.box 37 m)
  rw [show (w.alloc h.box).heap.size = w.heap.size + 1 by simp] at a2
  rw [show ((w.alloc h.box).alloc c.box).heap.size = w.heap.size + 2 by simp] at a3
  rw [show (((w.alloc h.box).alloc c.box).alloc (Sp.box 37 s)).heap.size = w.heap.size + 3 by simp] at a4
  have f1 := Fr.alloc w h.box []
  have f2 := Fr.alloc (w.alloc h.box) c.box []
  have f3 := Fr.alloc ((w.alloc h.box).alloc c.box) (Sp.box 37 s) []
  have f4 := Fr.alloc (((w.alloc h.box).alloc c.box).alloc (Sp.box 37 s)) (Sp.box 37 m) []
  exact ⟨((f1.trans f2).trans f3).trans f4, ((f2.trans f3).trans f4).heap a1 (by simp), (f3.trans f4).heap a2 (by simp), f4.heap a3 (by simp), a4⟩
/-- Two boxes of stops behind them. -/
theorem two_st (w : World) (s t : Sp) : Fr w ((w.alloc (Sp.box 37 s)).alloc (Sp.box 37 t)) [] ∧ SR ((w.alloc (Sp.box 37 s)).alloc (Sp.box 37 t)) w.heap.size s ∧ SR ((w.alloc (Sp.box 37 s)).alloc (Sp.box 37 t)) (w.heap.size + 1) t :=
  ⟨(Fr.alloc _ _ []).trans (Fr.alloc _ _ []), two_new w _ _⟩
set_option maxHeartbeats 8000000 in
set_option maxRecDepth 100000 in
theorem out_true (h : Ho) (c : Ca) (s m : Sp) (ob : Bool) (hkk : c.k ≤ 9223372036854775807) (ok : s.ok) (okm : m.ok) (w : World) (hT : Tz w) :
    Calls Tryd.prog 4 #[h.v, c.v, s.v, m.v, .bool ob] w fun x w' => x = .returned (.bool true) ∧ Fr w w' [] := by
  have TB := Lib.hid (LO.new w h c s m)
  have HT := Lib.hid hT
  by_cases hk : h.ok
  · have V := Lib.hid (fun W => valid_any h W true (decide_eq_true hk).symm)
    by_cases hf63 : h.f ≤ 63
    · obtain ⟨f, hf⟩ : ∃ f : Nat, h.f = (f : Int) := ⟨h.f.toNat, by have := hk.2.1.1; omega⟩
      have f0 : 2 ≤ f := by have := hk.2.1.1; omega
      have f1 : f ≤ 63 := by omega
      obtain ⟨x, d, hx⟩ : ∃ x d, c.tick h (outT f s m) ob = (x, d) := ⟨_, _, rfl⟩
      have TI1 := Lib.hid (fun W hT => ctick_any h c (outT f s m) ob W (outT_ok f ok okm) hT hkk x d hx)
      have TI2 := Lib.hid (fun W hT => ctick_any h c (outU f s) ob W (outU_ok f ok) hT hkk x d (by rw [← out_same hk hf63 c hf ok okm ob]; exact hx))
      clear hx hk hf63 hkk hT
      obtain ⟨hc, hfl, hs, hd⟩ := h
      dsimp only at hf
      subst hf
      obtain ⟨⟨xp, xe, xo, xr⟩, xk⟩ := c
      obtain ⟨⟨yp, ye, yo, yr⟩, yk⟩ := x
      obtain ⟨eo, ec, ef, ea, em, ⟨sc, sv, sw⟩⟩ := d
      obtain ⟨sp, su, sd⟩ := s
      obtain ⟨mp, mu, md⟩ := m
      have f1' : decide (63 < (f : Int)) = false := decide_eq_false (by omega)
      have g1 : IntKind.i64.wrap ((f : Int) - 1) = (f : Int) - 1 := IntWalk.i64_in _ (by omega)
      obtain ⟨O, hO⟩ : ∃ O, O = outN f := ⟨_, rfl⟩
      obtain ⟨g, hg⟩ : ∃ g, g = oneN ((f : Int) - 1) := ⟨_, rfl⟩
      have lO : O < 18446744073709551616 := by rw [hO]; exact outN_lt f
      have lg : g < 18446744073709551616 := by rw [hg]; exact oneN_lt _
      have W1 : IntKind.u64.wrap (f : Int) = (f : Int) := by rw [IntKind.wrap_u64]; omega
      have W2 : IntKind.u64.wrap ((f : Int) - 1) = ((f - 1 : Nat) : Int) := by rw [IntKind.wrap_u64]; omega
      have E0 : IntKind.u64.wrap (18446744073709551615 * 2 ^ min (IntKind.u64.wrap (f : Int)).toNat 64) = ((O : Nat) : Int) := by
        rw [W1, Int.toNat_natCast, Nat.min_eq_left (by omega), IntKind.wrap_u64, hO, outN]
        have e : (18446744073709551615 : Int) * 2 ^ f = ((18446744073709551615 * 2 ^ f : Nat) : Int) := by simp
        rw [e]; omega
      have E1 : IntKind.u64.wrap (2 ^ min (IntKind.u64.wrap ((f : Int) - 1)).toNat 64) = ((g : Nat) : Int) := by
        rw [W2, Int.toNat_natCast, Nat.min_eq_left (by omega)]
        have := one_shl ((f : Int) - 1) (by omega) (by omega)
        rw [show ((f : Int) - 1).toNat = f - 1 by omega] at this
        rw [this, hg]
      have lA : ∀ n, n &&& O < 18446744073709551616 := fun n => Nat.lt_of_le_of_lt Nat.and_le_right lO
      dsimp only [outT, outU, Sp.v] at TI1 TI2
      rw [← hO, ← hg] at TI1 TI2
      clear hO hg
      have A1 := bits_and_u64_nat mp O okm.c lO
      have A2 := bits_and_u64_nat mu O okm.u lO
      have A3 := bits_and_u64_nat md O okm.d lO
      have B1 := bits_or_u64_nat sp (mp &&& O) ok.c (lA _)
      have B2 := bits_or_u64_nat su (mu &&& O) ok.u (lA _)
      have B3 := bits_or_u64_nat sd (md &&& O) ok.d (lA _)
      have C2 := bits_or_u64_nat (su ||| mu &&& O) g (or_lt ok.u (lA _)) lg
      have C3 : bits .or .u64 ((sd ||| md &&& O : Nat) : Int) 1 = ((sd ||| md &&& O ||| 1 : Nat) : Int) := bits_or_u64_nat (sd ||| md &&& O) 1 (or_lt ok.d (lA _)) (by decide)
      have D1 : bits .andNot .u64 (sp : Int) (O : Int) = ((andN sp O : Nat) : Int) := u64_andNot_nat sp O ok.c lO
      have D2 : bits .andNot .u64 (su : Int) (O : Int) = ((andN su O : Nat) : Int) := u64_andNot_nat su O ok.u lO
      have D3 : bits .andNot .u64 (sd : Int) (O : Int) = ((andN sd O : Nat) : Int) := u64_andNot_nat sd O ok.d lO
      have E2 : bits .andNot .u64 ((andN su O : Nat) : Int) (g : Int) = ((andN (andN su O) g : Nat) : Int) := u64_andNot_nat _ g (andN_lt ok.u _) lg
      have E3 : bits .andNot .u64 ((andN sd O : Nat) : Int) 1 = ((andN (andN sd O) 1 : Nat) : Int) := u64_andNot_nat _ 1 (andN_lt ok.d _) (by decide)
      obtain ⟨uc, huc⟩ : ∃ n, n = andN sp O := ⟨_, rfl⟩
      obtain ⟨vu, hvu⟩ : ∃ n, n = andN su O := ⟨_, rfl⟩
      obtain ⟨vd, hvd⟩ : ∃ n, n = andN sd O := ⟨_, rfl⟩
      rw [← huc] at D1 TI2
      rw [← hvu] at D2 E2 TI2
      rw [← hvd] at D3 E3 TI2
      obtain ⟨uu, huu⟩ : ∃ n, n = andN vu g := ⟨_, rfl⟩
      obtain ⟨ud, hud⟩ : ∃ n, n = andN vd 1 := ⟨_, rfl⟩
      rw [← huu] at E2 TI2
      rw [← hud] at E3 TI2
      clear huc hvu hvd huu hud
      obtain ⟨ac, hac⟩ : ∃ n, n = mp &&& O := ⟨_, rfl⟩
      obtain ⟨au, hau⟩ : ∃ n, n = mu &&& O := ⟨_, rfl⟩
      obtain ⟨ad, had⟩ : ∃ n, n = md &&& O := ⟨_, rfl⟩
      rw [← hac] at A1 B1 TI1
      rw [← hau] at A2 B2 C2 TI1
      rw [← had] at A3 B3 C3 TI1
      clear hac hau had
      obtain ⟨tc, htc⟩ : ∃ n, n = sp ||| ac := ⟨_, rfl⟩
      obtain ⟨bu, hbu⟩ : ∃ n, n = su ||| au := ⟨_, rfl⟩
      obtain ⟨bd, hbd⟩ : ∃ n, n = sd ||| ad := ⟨_, rfl⟩
      rw [← htc] at B1 TI1
      rw [← hbu] at B2 C2 TI1
      rw [← hbd] at B3 C3 TI1
      obtain ⟨tu, htu⟩ : ∃ n, n = bu ||| g := ⟨_, rfl⟩
      obtain ⟨td, htd⟩ : ∃ n, n = bd ||| 1 := ⟨_, rfl⟩
      rw [← htu] at C2 TI1
      rw [← htd] at C3 TI1
      clear htc hbu hbd htu htd lA lO lg ok okm f0 f1 W1 W2
      dsimp only [Ho.v, Ho.box, Ca.v, Ca.box, Sp.v, Sp.box, Dn.v, Dn.box] at *
      go_enter Tryd.func4, Tryd.ntmps4
      go_wp2_with fail
      have Z0 := Lib.hid (HT.out.fr TB.out.f)
      with_reducible refine (cfirst_any _ Z0.out).mono ?_
      rintro v w1 ⟨rfl, hg⟩
      have T1 := Lib.hid (TB.out.fr hg)
      clear hg TB Z0
      obtain ⟨c0, c1, c2, c3⟩ := T1.out.h.cells
      dsimp only at c0 c1 c2 c3
      go_wp2_with fail
      with_reducible refine (V.out _).mono ?_
      rintro v w2 ⟨rfl, hg⟩
      have T2 := Lib.hid (T1.out.fr hg)
      clear hg c0 c1 c2 c3 T1
      obtain ⟨c0, c1, c2, c3⟩ := T2.out.h.cells
      obtain ⟨s0, s1, s2⟩ := arow T2.out.s
      obtain ⟨m0, m1, m2⟩ := arow T2.out.m
      dsimp only at c0 c1 c2 c3 s0 s1 s2 m0 m1 m2
      have T3 := Lib.hid (T2.out.fr (Fr.alloc w2 (Sp.box 37 ⟨tc, tu, td⟩) []))
      obtain ⟨d0, d1, d2, d3⟩ := T3.out.h.cells
      obtain ⟨p0, p1, p2⟩ := arow T3.out.s
      obtain ⟨q1, q2, q3⟩ := two_st w2 ⟨tc, tu, td⟩ ⟨uc, uu, ud⟩
      have T4 := Lib.hid (T2.out.fr q1)
      have r2 := Lib.hid q2
      have r3 := Lib.hid q3
      obtain ⟨h0, h1, h2, h3⟩ := T4.out.h.cells
      obtain ⟨x0, x1, x2, x3, x4⟩ := T4.out.c.cells
      dsimp only [Sp.box] at d0 d1 d2 d3 p0 p1 p2 h0 h1 h2 h3 x0 x1 x2 x3 x4 T4 r2 r3
      clear q1 q2 q3
      go_wp2_with fail
      have Z4 := Lib.hid (HT.out.fr T4.out.f)
      with_reducible refine (TI1.out _ Z4.out).mono ?_
      rintro v w3 ⟨rfl, hg⟩
      have T5 := Lib.hid ((T4.out.fr hg).fr (two_fr w3 ⟨⟨yp, ye, yo, yr⟩, yk⟩ ⟨eo, ec, ef, ea, em, ⟨sc, sv, sw⟩⟩))
      have r3' := Lib.hid (((hg.trans (two_fr w3 ⟨⟨yp, ye, yo, yr⟩, yk⟩ ⟨eo, ec, ef, ea, em, ⟨sc, sv, sw⟩⟩)).heap r3.out (by simp)))
      have PX := Lib.hid (PD.new w3 ⟨⟨yp, ye, yo, yr⟩, yk⟩ ⟨eo, ec, ef, ea, em, ⟨sc, sv, sw⟩⟩)
      clear hg d0 d1 d2 d3 p0 p1 p2 h0 h1 h2 h3 x0 x1 x2 x3 x4 T4 T3 T2 r2 r3 c0 c1 c2 c3 s0 s1 s2 m0 m1 m2
      dsimp only [Ca.box, Dn.box] at T5 r3' PX
      obtain ⟨h0, h1, h2, h3⟩ := T5.out.h.cells
      obtain ⟨x0, x1, x2, x3, x4⟩ := T5.out.c.cells
      obtain ⟨u0, u1, u2⟩ := arow r3'.out
      have Z5 := Lib.hid (HT.out.fr T5.out.f)
      dsimp only at h0 h1 h2 h3 x0 x1 x2 x3 x4 u0 u1 u2
      go_wp2_with fail
      generalize World.alloc (World.alloc w3 _) _ = w4 at *
      with_reducible refine (TI2.out _ Z5.out).mono ?_
      rintro v w5 ⟨rfl, hg⟩
      have P5 := Lib.hid (PX.out.fr (hg.trans (two_fr w5 ⟨⟨yp, ye, yo, yr⟩, yk⟩ ⟨eo, ec, ef, ea, em, ⟨sc, sv, sw⟩⟩)))
      have F5 := Lib.hid (T5.out.f.trans (hg.trans (two_fr w5 ⟨⟨yp, ye, yo, yr⟩, yk⟩ ⟨eo, ec, ef, ea, em, ⟨sc, sv, sw⟩⟩)))
      clear hg h0 h1 h2 h3 x0 x1 x2 x3 x4 u0 u1 u2 T5 r3' PX Z4 Z5 TI1 TI2
      clear E0 E1 A1 A2 A3 B1 B2 B3 C2 C3 D1 D2 D3 E2 E3 f1' g1
      obtain ⟨x0, x1, x2, x3, x4⟩ := P5.out.x.cells
      obtain ⟨n0, n1, n2, n3, n4, n5, n6, n7⟩ := P5.out.d.cells
      dsimp only [Ca.box, Dn.box] at x0 x1 x2 x3 x4 n0 n1 n2 n3 n4 n5 n6 n7
      go_wp2
      go_ret
      exact ⟨rfl, F5.out⟩
    · clear hkk hT ok okm
      have hg63 : 63 < h.f := by omega
      clear hf63 hk
      obtain ⟨hc, hfl, hs, hd⟩ := h
      dsimp only [Ho.v, Ho.box, Ca.v, Ca.box, Sp.v, Sp.box] at *
      go_enter Tryd.func4, Tryd.ntmps4
      go_wp2_with fail
      have Z0 := Lib.hid (HT.out.fr TB.out.f)
      with_reducible refine (cfirst_any _ Z0.out).mono ?_
      rintro v w1 ⟨rfl, hg⟩
      have T1 := Lib.hid (TB.out.fr hg)
      clear hg TB Z0
      obtain ⟨c0, c1, c2, c3⟩ := T1.out.h.cells
      dsimp only at c0 c1 c2 c3
      go_wp2_with fail
      with_reducible refine (V.out _).mono ?_
      rintro v w2 ⟨rfl, hg⟩
      have T2 := Lib.hid (T1.out.fr hg)
      clear hg c0 c1 c2 c3 T1
      obtain ⟨c0, c1, c2, c3⟩ := T2.out.h.cells
      dsimp only at c0 c1 c2 c3
      go_wp2
      go_ret
      exact ⟨rfl, T2.out.f⟩
  · have V := Lib.hid (fun W => valid_any h W false (decide_eq_false hk).symm)
    clear hk hkk hT ok okm
    obtain ⟨hc, hfl, hs, hd⟩ := h
    dsimp only [Ho.v, Ho.box, Ca.v, Ca.box, Sp.v, Sp.box] at *
    go_enter Tryd.func4, Tryd.ntmps4
    go_wp2_with fail
    have Z0 := Lib.hid (HT.out.fr TB.out.f)
    with_reducible refine (cfirst_any _ Z0.out).mono ?_
    rintro v w1 ⟨rfl, hg⟩
    have T1 := Lib.hid (TB.out.fr hg)
    clear hg TB Z0
    obtain ⟨c0, c1, c2, c3⟩ := T1.out.h.cells
    dsimp only at c0 c1 c2 c3
    go_wp2_with fail
    with_reducible refine (V.out _).mono ?_
    rintro v w2 ⟨rfl, hg⟩
    have T2 := Lib.hid (T1.out.fr hg)
    clear hg
    go_wp2
    go_ret
    exact ⟨rfl, T2.out.f⟩
theorem cout_walk (h : Ho) (c : Ca) (s m : Sp) (ob : Bool) (hkk : c.k ≤ 9223372036854775807) (ok : s.ok) (okm : m.ok) (W : World) (hT : Tz W) :
    Calls Tryd.prog 4 #[h.v, c.v, s.v, m.v, .bool ob] W fun x w' => x = .returned (.bool true) ∧ W.grownBy w' none :=
  (out_true h c s m ob hkk ok okm W hT).mono fun _ _ ⟨he, hf⟩ => ⟨he, hf.grown (by simp)⟩
end Go.Proofs.YtgcgbiaigbblkaaDoor
