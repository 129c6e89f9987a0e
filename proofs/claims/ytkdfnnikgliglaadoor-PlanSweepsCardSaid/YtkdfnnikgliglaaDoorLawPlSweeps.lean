/- From any floor, floor by floor, a car does all that there is, with four turns at most; then it stays. -/
import Derived.Test.YtkdfnnikgliglaaDoorPlFirst
import Derived.Test.YtkdfnnikgliglaaDoorPlSweep
import Derived.Test.YtkdfnnikgliglaaDoorNum
import Derived.Laws.BitsAllLaws
namespace Go.Proofs.YtkdfnnikgliglaaDoor
open Go.RowKit

/-- The stops' box, which the call turns; in a world that came of W. -/
def SX (W : World) (s : Sp) (a : World) : Prop := Fr W a [] ∧ a.heap[W.heap.size]? = some (s.box 24)
theorem SX.fr {W : World} {s : Sp} {a a' : World} (h : SX W s a) (k : Fr a a' []) : SX W s a' := ⟨h.1.trans k, k.heap h.2 (by simp)⟩
theorem SX.cells {W : World} {s : Sp} {a : World} (h : SX W s a) : a.cell? ⟨W.heap.size, 0, none⟩ = some (.int .u64 s.c) ∧ a.cell? ⟨W.heap.size, 1, none⟩ = some (.int .u64 s.u) ∧ a.cell? ⟨W.heap.size, 2, none⟩ = some (.int .u64 s.d) := arow h.2
theorem SX.fz {W : World} {s : Sp} {a : World} (h : SX W s a) (i : Nat) : a.frozen? ⟨W.heap.size, i, none⟩ = false := frozen_of_row _ _ i _ _ h.2
theorem SX.turn {W : World} {s s' : Sp} {a a' : World} (h : SX W s a) (k : Fr a a' [W.heap.size]) (r : a'.heap[W.heap.size]? = some (s'.box 24)) : SX W s' a' := ⟨h.1.new k (by simp), r⟩
theorem SX.put1 {W : World} {s : Sp} {a : World} (h : SX W s a) (x : Nat) : SX W ⟨s.c, x, s.d⟩ (a.setCell ⟨W.heap.size, 1, none⟩ (.int .u64 x)) := h.turn (Fr.setCell a _ 1 _ (by simp)) (aput1 h.2 _)
theorem SX.put2 {W : World} {s : Sp} {a : World} (h : SX W s a) (x : Nat) : SX W ⟨s.c, s.u, x⟩ (a.setCell ⟨W.heap.size, 2, none⟩ (.int .u64 x)) := h.turn (Fr.setCell a _ 2 _ (by simp)) (aput2 h.2 _)
theorem SX.set {W : World} {s : Sp} {a : World} (h : SX W s a) (x y z : Nat) : SX W ⟨x, y, z⟩ (((a.setCell ⟨W.heap.size, 0, none⟩ (.int .u64 x)).setCell ⟨W.heap.size, 1, none⟩ (.int .u64 y)).setCell ⟨W.heap.size, 2, none⟩ (.int .u64 z)) := h.turn (aset_fr a _ _ _ _) (aset h.2 _ _ _)
theorem SX.new (w : World) (s : Sp) : SX w s (w.alloc (s.box 24)) := ⟨Fr.alloc w _ [], heap_alloc_new _ _⟩
/-- Beside them a deed's box. -/
def SD (W : World) (s : Sp) (b : Nat) (xs : Bool) (xd xm : Int) (a : World) : Prop := SX W s a ∧ W.heap.size < b ∧ a.heap[b]? = some (.cells #[.bool xs, .int .i64 xd, .int .i64 xm] 31 (0, 0))
theorem SD.fr {W : World} {s : Sp} {b : Nat} {xs : Bool} {xd xm : Int} {a a' : World} (h : SD W s b xs xd xm a) (k : Fr a a' []) : SD W s b xs xd xm a' := ⟨h.1.fr k, h.2.1, k.heap h.2.2 (by simp)⟩
theorem SD.cells {W : World} {s : Sp} {b : Nat} {xs : Bool} {xd xm : Int} {a : World} (h : SD W s b xs xd xm a) :
    (a.cell? ⟨W.heap.size, 0, none⟩ = some (.int .u64 s.c) ∧ a.cell? ⟨W.heap.size, 1, none⟩ = some (.int .u64 s.u) ∧ a.cell? ⟨W.heap.size, 2, none⟩ = some (.int .u64 s.d)) ∧
    a.cell? ⟨b, 0, none⟩ = some (.bool xs) ∧ a.cell? ⟨b, 1, none⟩ = some (.int .i64 xd) ∧ a.cell? ⟨b, 2, none⟩ = some (.int .i64 xm) := ⟨h.1.cells, arow h.2.2⟩
theorem SD.set {W : World} {s : Sp} {b : Nat} {xs : Bool} {xd xm : Int} {a : World} (h : SD W s b xs xd xm a) (x y z : Nat) :
    SD W ⟨x, y, z⟩ b xs xd xm (((a.setCell ⟨W.heap.size, 0, none⟩ (.int .u64 x)).setCell ⟨W.heap.size, 1, none⟩ (.int .u64 y)).setCell ⟨W.heap.size, 2, none⟩ (.int .u64 z)) :=
  ⟨h.1.set x y z, h.2.1, (aset_fr a _ _ _ _).heap h.2.2 (by have := h.2.1; simp; omega)⟩
theorem clr_any (n : Nat) (hn : n < 18446744073709551616) (f : Int) : bits .andNot .u64 (n : Int) ((oneN f : Nat) : Int) = ((clrN n f : Nat) : Int) := u64_andNot_nat n (oneN f) hn (oneN_lt f)
theorem clr_same {n : Nat} (hn : n < 18446744073709551616) {f : Int} (f0 : 0 ≤ f) (f1 : f < 64) (h : hasB n f = false) : clrN n f = n := by
  refine ext_hasB fun z => ?_
  rw [hasB_clr hn f0 f1]
  by_cases e : z = f
  · rw [e, h]; rfl
  · rw [decide_eq_false e]; simp
theorem clr_other {n : Nat} (hn : n < 18446744073709551616) {f : Int} (f0 : 0 ≤ f) (f1 : f < 64) (h : hasB n f = true) : clrN n f ≠ n := fun e => by
  have := clr_self hn f0 f1
  rw [e, h] at this; cases this
theorem clr_eq {n : Nat} (hn : n < 18446744073709551616) {f : Int} (f0 : 0 ≤ f) (f1 : f < 64) : ((clrN n f : Int) == (n : Int)) = !hasB n f := by
  cases h : hasB n f with
  | false => rw [clr_same hn f0 f1 h]; simp
  | true =>
    have := clr_other hn f0 f1 h
    simp; omega

set_option maxHeartbeats 8000000 in
set_option maxRecDepth 100000 in
theorem sweeps_true (s : Sp) (k1 k2 : Int) (h : s.ok) (a10 : -9223372036854775808 ≤ k1) (a11 : k1 ≤ 9223372036854775807) (a20 : -9223372036854775808 ≤ k2) (a21 : k2 ≤ 9223372036854775807) (w : World) (hT : Tz w) :
    Calls Tryd.prog 7 #[s.v, .int .i64 k1, .int .i64 k2] w fun x w' => x = .returned (.bool true) ∧ Fr w w' [] := by
  have N1 := Lib.hid (fun W => numberTo_any k1 64 W (by omega) (by omega) a10 a11)
  have N2 := Lib.hid (fun W => numberTo_any k2 3 W (by omega) (by omega) a20 a21)
  have P10 := Int.emod_nonneg k1 (show (64 : Int) ≠ 0 by omega)
  have P11 := Int.emod_lt_of_pos k1 (show (0 : Int) < 64 by omega)
  have P20 := Int.emod_nonneg k2 (show (3 : Int) ≠ 0 by omega)
  have P21 := Int.emod_lt_of_pos k2 (show (0 : Int) < 3 by omega)
  obtain ⟨f, hf⟩ : ∃ f, k1 % 64 = f := ⟨_, rfl⟩
  obtain ⟨r, hr⟩ : ∃ r, k2 % 3 = r := ⟨_, rfl⟩
  rw [hf] at N1 P10 P11
  rw [hr] at N2 P20 P21
  clear hf hr a10 a11 a20 a21
  obtain ⟨fn, rfl⟩ : ∃ n : Nat, f = (n : Int) := ⟨f.toNat, by omega⟩
  obtain ⟨e, he⟩ : ∃ e, e = r - 1 := ⟨_, rfl⟩
  have hw3 : IntKind.i64.wrap (r - 1) = e := by rw [he]; exact IntWalk.i64_in _ (by omega)
  obtain ⟨p, u, d⟩ := s
  have E1 : bits .andNot .u64 (u : Int) 9223372036854775808 = ((clrN u 63 : Nat) : Int) := clr_any u h.u 63
  have E2 : bits .andNot .u64 (d : Int) 1 = ((clrN d 0 : Nat) : Int) := clr_any d h.d 0
  have ok1 : (Sp.mk p (clrN u 63) (clrN d 0)).ok := ⟨h.c, clrN_lt h.u 63, clrN_lt h.d 0⟩
  have HW0 := Lib.hid (Sw.first ok1 P10 P11 (show e = 0 ∨ e = 1 ∨ e = -1 by omega))
  have HS := Lib.hid (SX.new w ⟨p, u, d⟩)
  have HT := Lib.hid hT
  have T0 := Lib.hid (hT.fr HS.out.1)
  have DE := Lib.hid (fun (s : Sp) (f e : Int) W (h : s.ok) hT (r : De) hr => deed_any s f e W h hT r hr)
  have FL := Lib.hid (fun (s : Sp) W (h : s.ok) hT (L : List Int) hL => floors_any s W h hT L hL)
  clear h he hT P10 P11 P20 P21 ok1
  dsimp only [Sp.v, De.v, Sp.box] at *
  go_enter Tryd.func7, Tryd.ntmps7
  go_wp2_with fail
  with_reducible refine (first_any _ T0.out).mono ?_
  rintro x w1 ⟨rfl, hf⟩
  have HS1 := Lib.hid (HS.out.fr hf)
  clear hf T0 HS
  obtain ⟨c0, c1, c2⟩ := HS1.out.cells
  dsimp only at c0 c1 c2
  have z1 := HS1.out.fz 1
  have HS2 := Lib.hid (HS1.out.put1 (clrN u 63))
  dsimp only at HS2
  go_upto_region 5 with fail
  clear c0 c1 c2 z1 HS1 E1
  generalize World.setCell _ _ _ = w2 at *
  obtain ⟨c0, c1, c2⟩ := HS2.out.cells
  dsimp only at c0 c1 c2
  have z2 := HS2.out.fz 2
  have HS3 := Lib.hid (HS2.out.put2 (clrN d 0))
  dsimp only at HS3
  go_upto_region 6 with fail
  clear c0 c1 c2 z2 HS2 E2
  generalize World.setCell _ _ _ = w3 at *
  go_wp2_with fail
  with_reducible refine (N1.out _).mono ?_
  rintro x w4 ⟨rfl, rfl⟩
  go_wp2_with fail
  with_reducible refine (N2.out _).mono ?_
  rintro x w4 ⟨rfl, rfl⟩
  go_wp2
  go_loopw [1, 2, 8, 9] (fun s1 s2 s8 s9 wr => ∃ (k fn : Nat) (s : Sp) (e t M : Int), k ≤ 600 ∧ s9 = .int .i64 k ∧ s1 = .int .i64 fn ∧ s2 = .int .i64 e ∧ s8 = .int .i64 t ∧ Hid (Sw s fn e t M) ∧ Hid ((k : Int) + M ≤ 599) ∧ Hid (SX w s wr)) (fun _ _ _ i _ => 600 - (intOf i).toNat)
  case atStart => exact ⟨0, fn, _, e, 0, 381, by omega, rfl, rfl, rfl, rfl, HW0, Lib.hid (by omega), HS3⟩
  case round =>
    clear HW0 HS3 N1 N2
    obtain ⟨k, fn, s, e, t, M, hk, rfl, rfl, rfl, rfl, HW, HM, HX⟩ := hrel
    have H := HW.out
    have hm0 := H.m0
    have hkm := HM.out
    have hk6 : k < 600 := by omega
    have f0 := H.f0
    have f1 := H.f1
    have hf64 : fn < 64 := by omega
    have ok := H.ok
    have t0 := H.t0
    have t2 := H.t2
    have hd := H.hd
    have HI := head_is ok f0 f1 hd
    have hdeed := deed_in (s := s) (f := (fn : Int)) (d := e) (by omega)
    have hst : s.stop fn e = (hasB s.c fn || s.hall fn (s.head fn e)) := rfl
    have HSTOP := fun hs => H.stop hs
    have HMOVE := fun hs hx => H.move hs hx
    have HENDS := fun hs hx => H.ends hs hx
    obtain ⟨xd, hxd⟩ : ∃ x, x = s.head fn e := ⟨_, rfl⟩
    obtain ⟨xs, hxs⟩ : ∃ x, x = s.stop fn e := ⟨_, rfl⟩
    rw [← hxd] at HI hdeed hst HSTOP HMOVE HENDS
    rw [← hxs] at hdeed hst HSTOP HMOVE HENDS
    obtain ⟨xm, hxm⟩ : ∃ x, x = if xs = true then 0 else xd := ⟨_, rfl⟩
    rw [← hxm] at hdeed
    have DE := Lib.hid (fun W hT => DE.out s fn e W ok hT ⟨xs, xd, xm⟩ hdeed.symm)
    obtain ⟨L, hL⟩ : ∃ L, L = bitsOf s.all := ⟨_, rfl⟩
    have FL := Lib.hid (fun W hT => FL.out s W ok hT L hL)
    have HLN := Lib.hid (show L.length ≤ 64 by rw [hL, bitsOf_len]; exact bits_len _)
    have HL0 : Hid (s.all = 0 → L.length = 0) := fun q => by rw [hL, q]; simp [bitsOf, bits_zero]
    have HL1 : Hid (s.all ≠ 0 → ((L.length : Int) == 0) = false) := fun q => by
      obtain ⟨y, hy⟩ := hasB_some q
      have := List.length_pos_of_mem ((mem_bits ok.all y).2 hy)
      rw [← hL] at this
      simp; intro z; rw [z] at this; simp at this
    have hxs3 := HI.small
    obtain ⟨b3, hb3⟩ : ∃ b, b = hasB s.c fn := ⟨_, rfl⟩
    rw [← hb3] at hst
    have CC := clr_any s.c ok.c fn
    have CU := clr_any s.u ok.u fn
    have CD := clr_any s.d ok.d fn
    have QC := clr_eq ok.c f0 f1
    have QU := clr_eq ok.u f0 f1
    have QD := clr_eq ok.d f0 f1
    rw [← hb3] at QC
    have hsh : IntKind.u64.wrap ((2 : Int) ^ fn) = ((oneN fn : Nat) : Int) := by
      have := one_shl (fn : Int) f0 f1
      rwa [Int.toNat_natCast] at this
    obtain ⟨ne, hne⟩ : ∃ ne, ne = -e := ⟨_, rfl⟩
    have hwn : IntKind.i64.wrap (-e) = ne := by rw [hne]; exact IntWalk.i64_in _ (by omega)
    have hw1 : IntKind.i64.wrap (t + 1) = t + 1 := IntWalk.i64_in _ (by omega)
    have hwf : IntKind.i64.wrap ((fn : Int) + xd) = (fn : Int) + xd := IntWalk.i64_in _ (by omega)
    have HSM := Lib.hid hxs3
    have HXM := Lib.hid hxm
    have HST := Lib.hid hst
    have HSTOP := Lib.hid HSTOP
    have HMOVE := Lib.hid HMOVE
    have HENDS := Lib.hid HENDS
    have HNE := Lib.hid hne
    have HT2 := Lib.hid (And.intro t0 t2)
    have TR := Lib.hid (HT.out.fr HX.out.1)
    have hlen := HX.out.1.size
    have hsz : w.heap.size < wr.heap.size := by
      have := HX.out.2
      have := (Array.getElem?_eq_some_iff.1 this).1
      exact this
    have HSZ := Lib.hid hsz
    clear HI H hdeed hst hxd hxs hxm hxs3 hb3 hne hd hm0 hkm f0 f1 t0 t2 hL hlen hsz HW
    obtain ⟨p, u, d⟩ := s
    generalize ho : oneN (fn : Int) = o at *
    clear ho
    obtain ⟨lc, hlc⟩ : ∃ x, x = clrN p fn := ⟨_, rfl⟩
    obtain ⟨lu, hlu⟩ : ∃ x, x = clrN u fn := ⟨_, rfl⟩
    obtain ⟨ld, hld⟩ : ∃ x, x = clrN d fn := ⟨_, rfl⟩
    dsimp only [Sp.v, De.v, Sp.left] at *
    rw [← hlc] at CC QC HSTOP
    rw [← hlu] at CU QU HSTOP
    rw [← hld] at CD QD HSTOP
    clear hlc hlu hld ok
    obtain ⟨c0, c1, c2⟩ := HX.out.cells
    dsimp only at c0 c1 c2
    go_wp2_with fail
    with_reducible refine (DE.out _ TR.out).mono ?_
    rintro x w5 ⟨rfl, hf⟩
    have HD := Lib.hid (show SD w ⟨p, u, d⟩ w5.heap.size xs xd xm (w5.alloc (.cells #[.bool xs, .int .i64 xd, .int .i64 xm] 31)) from
      ⟨(HX.out.fr hf).fr (Fr.alloc _ _ []), by have := hf.size; have := HSZ.out; omega, heap_alloc_new _ _⟩)
    clear hf c0 c1 c2 TR HX DE HSZ
    by_cases ez : e = 0
    · have ke : (e != 0) = false := by simp [ez]
      have TU : Hid (turnN e xd = 0) := if_neg (fun q => q.1 ez)
      cases xs with
      | true =>
        obtain rfl : xm = 0 := by rw [HXM.out]; rfl
        rcases HSM.out with rfl | rfl | rfl
        · have S1 : Hid (Sw ⟨lc, u, d⟩ fn 0 (t) (M - 1)) := by
            have := HSTOP.out rfl
            have q := this.1
            rw [TU.out] at q
            refine Lib.hid ?_
            simpa using q
          have SM := Lib.hid (HSTOP.out rfl).2.1
          have SA := HL1.out (HSTOP.out rfl).2.2.1
          obtain ⟨⟨c0, c1, c2⟩, x0, x1, x2⟩ := HD.out.cells
          dsimp only at c0 c1 c2
          have K1 := Lib.hid (FL.out _ (HT.out.fr HD.out.1.1))
          clear HSTOP HMOVE HENDS HL0 HL1 TU
          go_wp2_with fail
          with_reducible refine K1.out.mono ?_
          rintro x w6 ⟨v, rfl, ho, hf⟩
          have HD6 := Lib.hid (HD.out.fr hf)
          obtain ⟨a, cap, rfl, p1, q1, r1⟩ := ho.holds
          unfold maxLen at q1
          clear hf ho c0 c1 c2 x0 x1 x2 K1 HD FL r1
          obtain ⟨⟨c0, c1, c2⟩, x0, x1, x2⟩ := HD6.out.cells
          dsimp only at c0 c1 c2
          cases b3 with
          | true =>
            replace QC : ((lc : Int) == (p : Int)) = false := QC
            have HD7 := Lib.hid (HD6.out.fr (Fr.alloc w6 (.cells #[.int .u64 lc, .int .u64 u, .int .u64 d] 24) []))
            obtain ⟨⟨e0, e1, e2⟩, y0, y1, y2⟩ := HD7.out.cells
            obtain ⟨l0, l1, l2⟩ := arow (heap_alloc_new w6 (.cells #[.int .u64 lc, .int .u64 u, .int .u64 d] 24))
            dsimp only at e0 e1 e2
            clear HD6 QU QD HST
            go_upto_region 25 with fail
            skip
            clear c0 c1 c2 x0 x1 x2
            generalize World.alloc _ _ = w8 at *
            have z0 := HD7.out.1.fz 0
            have z1 := HD7.out.1.fz 1
            have z2 := HD7.out.1.fz 2
            have HD8 := Lib.hid (HD7.out.set lc u d)
            clear y0 y1 y2
            obtain ⟨_, y0, y1, y2⟩ := HD8.out.cells
            go_wp2
            go_roundw
            case rel => exact ⟨k + 1, fn, ⟨lc, u, d⟩, 0, t, M - 1, by omega, by go_num, rfl, rfl, rfl, S1, Lib.hid (by have := HM.out; omega), Lib.hid HD8.out.1⟩
            case measure => simp [intOf]; omega
          | false =>
            have := HST.out
            simp [Sp.hall] at this
        · have S1 : Hid (Sw ⟨lc, lu, d⟩ fn 1 (t) (M - 1)) := by
            have := HSTOP.out rfl
            have q := this.1
            rw [TU.out] at q
            refine Lib.hid ?_
            simpa using q
          have SM := Lib.hid (HSTOP.out rfl).2.1
          have SA := HL1.out (HSTOP.out rfl).2.2.1
          obtain ⟨⟨c0, c1, c2⟩, x0, x1, x2⟩ := HD.out.cells
          dsimp only at c0 c1 c2
          have K1 := Lib.hid (FL.out _ (HT.out.fr HD.out.1.1))
          clear HSTOP HMOVE HENDS HL0 HL1 TU
          go_wp2_with fail
          with_reducible refine K1.out.mono ?_
          rintro x w6 ⟨v, rfl, ho, hf⟩
          have HD6 := Lib.hid (HD.out.fr hf)
          obtain ⟨a, cap, rfl, p1, q1, r1⟩ := ho.holds
          unfold maxLen at q1
          clear hf ho c0 c1 c2 x0 x1 x2 K1 HD FL r1
          obtain ⟨⟨c0, c1, c2⟩, x0, x1, x2⟩ := HD6.out.cells
          dsimp only at c0 c1 c2
          cases b3 with
          | true =>
            replace QC : ((lc : Int) == (p : Int)) = false := QC
            have HA := HD6.out.fr (Fr.alloc w6 (.cells #[.int .u64 lc, .int .u64 u, .int .u64 d] 24) [])
            obtain ⟨_, _, ax1, _⟩ := HA.cells
            clear HA
            have HD7 := Lib.hid (HD6.out.fr (Fr.alloc w6 (.cells #[.int .u64 lc, .int .u64 lu, .int .u64 d] 24) []))
            obtain ⟨⟨e0, e1, e2⟩, y0, y1, y2⟩ := HD7.out.cells
            obtain ⟨l0, l1, l2⟩ := arow (heap_alloc_new w6 (.cells #[.int .u64 lc, .int .u64 lu, .int .u64 d] 24))
            dsimp only at e0 e1 e2
            clear HD6 QU QD HST
            go_upto_region 25 with fail
            clear ax1
            clear c0 c1 c2 x0 x1 x2
            generalize World.alloc _ _ = w8 at *
            have z0 := HD7.out.1.fz 0
            have z1 := HD7.out.1.fz 1
            have z2 := HD7.out.1.fz 2
            have HD8 := Lib.hid (HD7.out.set lc lu d)
            clear y0 y1 y2
            obtain ⟨_, y0, y1, y2⟩ := HD8.out.cells
            go_wp2
            go_roundw
            case rel => exact ⟨k + 1, fn, ⟨lc, lu, d⟩, 1, t, M - 1, by omega, by go_num, rfl, rfl, rfl, S1, Lib.hid (by have := HM.out; omega), Lib.hid HD8.out.1⟩
            case measure => simp [intOf]; omega
          | false =>
            replace QC : ((lc : Int) == (p : Int)) = true := QC
            have QX : ((lu : Int) == (u : Int)) = false := by
              rw [QU]
              have := HST.out
              rw [Bool.false_or] at this
              have e2 : hasB u fn = true := this.symm
              rw [e2]; rfl
            have HA := HD6.out.fr (Fr.alloc w6 (.cells #[.int .u64 lc, .int .u64 u, .int .u64 d] 24) [])
            obtain ⟨_, _, ax1, _⟩ := HA.cells
            clear HA
            have HD7 := Lib.hid (HD6.out.fr (Fr.alloc w6 (.cells #[.int .u64 lc, .int .u64 lu, .int .u64 d] 24) []))
            obtain ⟨⟨e0, e1, e2⟩, y0, y1, y2⟩ := HD7.out.cells
            obtain ⟨l0, l1, l2⟩ := arow (heap_alloc_new w6 (.cells #[.int .u64 lc, .int .u64 lu, .int .u64 d] 24))
            dsimp only at e0 e1 e2
            clear HD6 QU QD HST
            go_upto_region 25 with fail
            clear ax1
            clear c0 c1 c2 x0 x1 x2
            generalize World.alloc _ _ = w8 at *
            have z0 := HD7.out.1.fz 0
            have z1 := HD7.out.1.fz 1
            have z2 := HD7.out.1.fz 2
            have HD8 := Lib.hid (HD7.out.set lc lu d)
            clear y0 y1 y2
            obtain ⟨_, y0, y1, y2⟩ := HD8.out.cells
            go_wp2
            go_roundw
            case rel => exact ⟨k + 1, fn, ⟨lc, lu, d⟩, 1, t, M - 1, by omega, by go_num, rfl, rfl, rfl, S1, Lib.hid (by have := HM.out; omega), Lib.hid HD8.out.1⟩
            case measure => simp [intOf]; omega
        · have S1 : Hid (Sw ⟨lc, u, ld⟩ fn (-1) (t) (M - 1)) := by
            have := HSTOP.out rfl
            have q := this.1
            rw [TU.out] at q
            refine Lib.hid ?_
            simpa using q
          have SM := Lib.hid (HSTOP.out rfl).2.1
          have SA := HL1.out (HSTOP.out rfl).2.2.1
          obtain ⟨⟨c0, c1, c2⟩, x0, x1, x2⟩ := HD.out.cells
          dsimp only at c0 c1 c2
          have K1 := Lib.hid (FL.out _ (HT.out.fr HD.out.1.1))
          clear HSTOP HMOVE HENDS HL0 HL1 TU
          go_wp2_with fail
          with_reducible refine K1.out.mono ?_
          rintro x w6 ⟨v, rfl, ho, hf⟩
          have HD6 := Lib.hid (HD.out.fr hf)
          obtain ⟨a, cap, rfl, p1, q1, r1⟩ := ho.holds
          unfold maxLen at q1
          clear hf ho c0 c1 c2 x0 x1 x2 K1 HD FL r1
          obtain ⟨⟨c0, c1, c2⟩, x0, x1, x2⟩ := HD6.out.cells
          dsimp only at c0 c1 c2
          cases b3 with
          | true =>
            replace QC : ((lc : Int) == (p : Int)) = false := QC
            have HA := HD6.out.fr (Fr.alloc w6 (.cells #[.int .u64 lc, .int .u64 u, .int .u64 d] 24) [])
            obtain ⟨_, _, ax1, _⟩ := HA.cells
            clear HA
            have HD7 := Lib.hid (HD6.out.fr (Fr.alloc w6 (.cells #[.int .u64 lc, .int .u64 u, .int .u64 ld] 24) []))
            obtain ⟨⟨e0, e1, e2⟩, y0, y1, y2⟩ := HD7.out.cells
            obtain ⟨l0, l1, l2⟩ := arow (heap_alloc_new w6 (.cells #[.int .u64 lc, .int .u64 u, .int .u64 ld] 24))
            dsimp only at e0 e1 e2
            clear HD6 QU QD HST
            go_upto_region 25 with fail
            clear ax1
            clear c0 c1 c2 x0 x1 x2
            generalize World.alloc _ _ = w8 at *
            have z0 := HD7.out.1.fz 0
            have z1 := HD7.out.1.fz 1
            have z2 := HD7.out.1.fz 2
            have HD8 := Lib.hid (HD7.out.set lc u ld)
            clear y0 y1 y2
            obtain ⟨_, y0, y1, y2⟩ := HD8.out.cells
            go_wp2
            go_roundw
            case rel => exact ⟨k + 1, fn, ⟨lc, u, ld⟩, (-1), t, M - 1, by omega, by go_num, rfl, rfl, rfl, S1, Lib.hid (by have := HM.out; omega), Lib.hid HD8.out.1⟩
            case measure => simp [intOf]; omega
          | false =>
            replace QC : ((lc : Int) == (p : Int)) = true := QC
            have QX : ((ld : Int) == (d : Int)) = false := by
              rw [QD]
              have := HST.out
              rw [Bool.false_or] at this
              have e2 : hasB d fn = true := this.symm
              rw [e2]; rfl
            have HA := HD6.out.fr (Fr.alloc w6 (.cells #[.int .u64 lc, .int .u64 u, .int .u64 d] 24) [])
            obtain ⟨_, _, ax1, _⟩ := HA.cells
            clear HA
            have HD7 := Lib.hid (HD6.out.fr (Fr.alloc w6 (.cells #[.int .u64 lc, .int .u64 u, .int .u64 ld] 24) []))
            obtain ⟨⟨e0, e1, e2⟩, y0, y1, y2⟩ := HD7.out.cells
            obtain ⟨l0, l1, l2⟩ := arow (heap_alloc_new w6 (.cells #[.int .u64 lc, .int .u64 u, .int .u64 ld] 24))
            dsimp only at e0 e1 e2
            clear HD6 QU QD HST
            go_upto_region 25 with fail
            clear ax1
            clear c0 c1 c2 x0 x1 x2
            generalize World.alloc _ _ = w8 at *
            have z0 := HD7.out.1.fz 0
            have z1 := HD7.out.1.fz 1
            have z2 := HD7.out.1.fz 2
            have HD8 := Lib.hid (HD7.out.set lc u ld)
            clear y0 y1 y2
            obtain ⟨_, y0, y1, y2⟩ := HD8.out.cells
            go_wp2
            go_roundw
            case rel => exact ⟨k + 1, fn, ⟨lc, u, ld⟩, (-1), t, M - 1, by omega, by go_num, rfl, rfl, rfl, S1, Lib.hid (by have := HM.out; omega), Lib.hid HD8.out.1⟩
            case measure => simp [intOf]; omega
      | false =>
        by_cases zx : xd = 0
        · subst zx
          obtain rfl : xm = 0 := by rw [HXM.out]; rfl
          have kl : ((L.length : Int) == 0) = true := by rw [HL0.out (HENDS.out rfl rfl)]; rfl
          have ht4 : t ≤ 4 := by have := HT2.out; omega
          obtain ⟨⟨c0, c1, c2⟩, x0, x1, x2⟩ := HD.out.cells
          dsimp only at c0 c1 c2
          have K1 := Lib.hid (FL.out _ (HT.out.fr HD.out.1.1))
          clear HSTOP HMOVE HENDS HL0 HL1 TU QU QD QC
          go_wp2_with fail
          with_reducible refine K1.out.mono ?_
          rintro x w6 ⟨v, rfl, ho, hf⟩
          have HD6 := Lib.hid (HD.out.fr hf)
          obtain ⟨a, cap, rfl, p1, q1, r1⟩ := ho.holds
          unfold maxLen at q1
          clear hf ho c0 c1 c2 x0 x1 x2 K1 HD FL r1
          go_wp2
          go_ret
          exact ⟨rfl, HD6.out.1.1⟩
        · have kz : (xd == 0) = false := by simp [zx]
          obtain rfl : xd = xm := by rw [HXM.out]; rfl
          obtain ⟨S1, S2, S3⟩ := HMOVE.out rfl zx
          rw [TU.out] at S1
          obtain ⟨fm, hfm⟩ : ∃ m : Nat, (fn : Int) + xd = (m : Int) := ⟨((fn : Int) + xd).toNat, by omega⟩
          have hwf1 : IntKind.i64.wrap ((fn : Int) + xd) = (fm : Int) := by rw [hwf, hfm]
          rw [hfm] at S1 S2 S3
          have S1 : Hid (Sw ⟨p, u, d⟩ fm xd (t) (M - 1)) := by
            refine Lib.hid ?_
            simpa using S1
          have hfm64 : fm < 64 := by omega
          have hwf2 : wrap64 ((fn : Int) + xd) = (fm : Int) := by rw [← hwf1, IntKind.wrap_i64, wrap64]
          obtain ⟨⟨c0, c1, c2⟩, x0, x1, x2⟩ := HD.out.cells
          dsimp only at c0 c1 c2
          clear HSTOP HMOVE HENDS HL0 HL1 TU QU QD QC FL S2 S3 zx hwf
          have HFM := Lib.hid hfm
          clear hfm
          go_wp2
          go_roundw
          case rel => exact ⟨k + 1, fm, ⟨p, u, d⟩, xd, t, M - 1, by omega, by go_num, rfl, rfl, rfl, S1, Lib.hid (by have := HM.out; omega), Lib.hid HD.out.1⟩
          case measure => simp [intOf]; omega
    · have ke : (e != 0) = true := by simp [ez]
      by_cases q : xd = ne
      · subst q
        have kq : (xd == xd) = true := by simp
        have TU : Hid (turnN e xd = 1) := if_pos ⟨ez, HNE.out⟩
        cases xs with
        | true =>
          obtain rfl : xm = 0 := by rw [HXM.out]; rfl
          rcases HSM.out with rfl | rfl | rfl
          · exfalso; have := HNE.out; omega
          · have S1 : Hid (Sw ⟨lc, lu, d⟩ fn 1 (t + 1) (M - 1)) := by
              have := HSTOP.out rfl
              have q := this.1
              rw [TU.out] at q
              refine Lib.hid ?_
              simpa using q
            have SM := Lib.hid (HSTOP.out rfl).2.1
            have SA := HL1.out (HSTOP.out rfl).2.2.1
            obtain ⟨⟨c0, c1, c2⟩, x0, x1, x2⟩ := HD.out.cells
            dsimp only at c0 c1 c2
            have K1 := Lib.hid (FL.out _ (HT.out.fr HD.out.1.1))
            clear HSTOP HMOVE HENDS HL0 HL1 TU
            go_wp2_with fail
            with_reducible refine K1.out.mono ?_
            rintro x w6 ⟨v, rfl, ho, hf⟩
            have HD6 := Lib.hid (HD.out.fr hf)
            obtain ⟨a, cap, rfl, p1, q1, r1⟩ := ho.holds
            unfold maxLen at q1
            clear hf ho c0 c1 c2 x0 x1 x2 K1 HD FL r1
            obtain ⟨⟨c0, c1, c2⟩, x0, x1, x2⟩ := HD6.out.cells
            dsimp only at c0 c1 c2
            cases b3 with
            | true =>
              replace QC : ((lc : Int) == (p : Int)) = false := QC
              have HA := HD6.out.fr (Fr.alloc w6 (.cells #[.int .u64 lc, .int .u64 u, .int .u64 d] 24) [])
              obtain ⟨_, _, ax1, _⟩ := HA.cells
              clear HA
              have HD7 := Lib.hid (HD6.out.fr (Fr.alloc w6 (.cells #[.int .u64 lc, .int .u64 lu, .int .u64 d] 24) []))
              obtain ⟨⟨e0, e1, e2⟩, y0, y1, y2⟩ := HD7.out.cells
              obtain ⟨l0, l1, l2⟩ := arow (heap_alloc_new w6 (.cells #[.int .u64 lc, .int .u64 lu, .int .u64 d] 24))
              dsimp only at e0 e1 e2
              clear HD6 QU QD HST
              go_upto_region 25 with fail
              clear ax1
              clear c0 c1 c2 x0 x1 x2
              generalize World.alloc _ _ = w8 at *
              have z0 := HD7.out.1.fz 0
              have z1 := HD7.out.1.fz 1
              have z2 := HD7.out.1.fz 2
              have HD8 := Lib.hid (HD7.out.set lc lu d)
              clear y0 y1 y2
              obtain ⟨_, y0, y1, y2⟩ := HD8.out.cells
              go_wp2
              go_roundw
              case rel => exact ⟨k + 1, fn, ⟨lc, lu, d⟩, 1, t + 1, M - 1, by omega, by go_num, rfl, rfl, rfl, S1, Lib.hid (by have := HM.out; omega), Lib.hid HD8.out.1⟩
              case measure => simp [intOf]; omega
            | false =>
              replace QC : ((lc : Int) == (p : Int)) = true := QC
              have QX : ((lu : Int) == (u : Int)) = false := by
                rw [QU]
                have := HST.out
                rw [Bool.false_or] at this
                have e2 : hasB u fn = true := this.symm
                rw [e2]; rfl
              have HA := HD6.out.fr (Fr.alloc w6 (.cells #[.int .u64 lc, .int .u64 u, .int .u64 d] 24) [])
              obtain ⟨_, _, ax1, _⟩ := HA.cells
              clear HA
              have HD7 := Lib.hid (HD6.out.fr (Fr.alloc w6 (.cells #[.int .u64 lc, .int .u64 lu, .int .u64 d] 24) []))
              obtain ⟨⟨e0, e1, e2⟩, y0, y1, y2⟩ := HD7.out.cells
              obtain ⟨l0, l1, l2⟩ := arow (heap_alloc_new w6 (.cells #[.int .u64 lc, .int .u64 lu, .int .u64 d] 24))
              dsimp only at e0 e1 e2
              clear HD6 QU QD HST
              go_upto_region 25 with fail
              clear ax1
              clear c0 c1 c2 x0 x1 x2
              generalize World.alloc _ _ = w8 at *
              have z0 := HD7.out.1.fz 0
              have z1 := HD7.out.1.fz 1
              have z2 := HD7.out.1.fz 2
              have HD8 := Lib.hid (HD7.out.set lc lu d)
              clear y0 y1 y2
              obtain ⟨_, y0, y1, y2⟩ := HD8.out.cells
              go_wp2
              go_roundw
              case rel => exact ⟨k + 1, fn, ⟨lc, lu, d⟩, 1, t + 1, M - 1, by omega, by go_num, rfl, rfl, rfl, S1, Lib.hid (by have := HM.out; omega), Lib.hid HD8.out.1⟩
              case measure => simp [intOf]; omega
          · have S1 : Hid (Sw ⟨lc, u, ld⟩ fn (-1) (t + 1) (M - 1)) := by
              have := HSTOP.out rfl
              have q := this.1
              rw [TU.out] at q
              refine Lib.hid ?_
              simpa using q
            have SM := Lib.hid (HSTOP.out rfl).2.1
            have SA := HL1.out (HSTOP.out rfl).2.2.1
            obtain ⟨⟨c0, c1, c2⟩, x0, x1, x2⟩ := HD.out.cells
            dsimp only at c0 c1 c2
            have K1 := Lib.hid (FL.out _ (HT.out.fr HD.out.1.1))
            clear HSTOP HMOVE HENDS HL0 HL1 TU
            go_wp2_with fail
            with_reducible refine K1.out.mono ?_
            rintro x w6 ⟨v, rfl, ho, hf⟩
            have HD6 := Lib.hid (HD.out.fr hf)
            obtain ⟨a, cap, rfl, p1, q1, r1⟩ := ho.holds
            unfold maxLen at q1
            clear hf ho c0 c1 c2 x0 x1 x2 K1 HD FL r1
            obtain ⟨⟨c0, c1, c2⟩, x0, x1, x2⟩ := HD6.out.cells
            dsimp only at c0 c1 c2
            cases b3 with
            | true =>
              replace QC : ((lc : Int) == (p : Int)) = false := QC
              have HA := HD6.out.fr (Fr.alloc w6 (.cells #[.int .u64 lc, .int .u64 u, .int .u64 d] 24) [])
              obtain ⟨_, _, ax1, _⟩ := HA.cells
              clear HA
              have HD7 := Lib.hid (HD6.out.fr (Fr.alloc w6 (.cells #[.int .u64 lc, .int .u64 u, .int .u64 ld] 24) []))
              obtain ⟨⟨e0, e1, e2⟩, y0, y1, y2⟩ := HD7.out.cells
              obtain ⟨l0, l1, l2⟩ := arow (heap_alloc_new w6 (.cells #[.int .u64 lc, .int .u64 u, .int .u64 ld] 24))
              dsimp only at e0 e1 e2
              clear HD6 QU QD HST
              go_upto_region 25 with fail
              clear ax1
              clear c0 c1 c2 x0 x1 x2
              generalize World.alloc _ _ = w8 at *
              have z0 := HD7.out.1.fz 0
              have z1 := HD7.out.1.fz 1
              have z2 := HD7.out.1.fz 2
              have HD8 := Lib.hid (HD7.out.set lc u ld)
              clear y0 y1 y2
              obtain ⟨_, y0, y1, y2⟩ := HD8.out.cells
              go_wp2
              go_roundw
              case rel => exact ⟨k + 1, fn, ⟨lc, u, ld⟩, (-1), t + 1, M - 1, by omega, by go_num, rfl, rfl, rfl, S1, Lib.hid (by have := HM.out; omega), Lib.hid HD8.out.1⟩
              case measure => simp [intOf]; omega
            | false =>
              replace QC : ((lc : Int) == (p : Int)) = true := QC
              have QX : ((ld : Int) == (d : Int)) = false := by
                rw [QD]
                have := HST.out
                rw [Bool.false_or] at this
                have e2 : hasB d fn = true := this.symm
                rw [e2]; rfl
              have HA := HD6.out.fr (Fr.alloc w6 (.cells #[.int .u64 lc, .int .u64 u, .int .u64 d] 24) [])
              obtain ⟨_, _, ax1, _⟩ := HA.cells
              clear HA
              have HD7 := Lib.hid (HD6.out.fr (Fr.alloc w6 (.cells #[.int .u64 lc, .int .u64 u, .int .u64 ld] 24) []))
              obtain ⟨⟨e0, e1, e2⟩, y0, y1, y2⟩ := HD7.out.cells
              obtain ⟨l0, l1, l2⟩ := arow (heap_alloc_new w6 (.cells #[.int .u64 lc, .int .u64 u, .int .u64 ld] 24))
              dsimp only at e0 e1 e2
              clear HD6 QU QD HST
              go_upto_region 25 with fail
              clear ax1
              clear c0 c1 c2 x0 x1 x2
              generalize World.alloc _ _ = w8 at *
              have z0 := HD7.out.1.fz 0
              have z1 := HD7.out.1.fz 1
              have z2 := HD7.out.1.fz 2
              have HD8 := Lib.hid (HD7.out.set lc u ld)
              clear y0 y1 y2
              obtain ⟨_, y0, y1, y2⟩ := HD8.out.cells
              go_wp2
              go_roundw
              case rel => exact ⟨k + 1, fn, ⟨lc, u, ld⟩, (-1), t + 1, M - 1, by omega, by go_num, rfl, rfl, rfl, S1, Lib.hid (by have := HM.out; omega), Lib.hid HD8.out.1⟩
              case measure => simp [intOf]; omega
        | false =>
          by_cases zx : xd = 0
          · exfalso; have := HNE.out; omega
          · have kz : (xd == 0) = false := by simp [zx]
            obtain rfl : xd = xm := by rw [HXM.out]; rfl
            obtain ⟨S1, S2, S3⟩ := HMOVE.out rfl zx
            rw [TU.out] at S1
            obtain ⟨fm, hfm⟩ : ∃ m : Nat, (fn : Int) + xd = (m : Int) := ⟨((fn : Int) + xd).toNat, by omega⟩
            have hwf1 : IntKind.i64.wrap ((fn : Int) + xd) = (fm : Int) := by rw [hwf, hfm]
            rw [hfm] at S1 S2 S3
            have S1 : Hid (Sw ⟨p, u, d⟩ fm xd (t + 1) (M - 1)) := by
              refine Lib.hid ?_
              simpa using S1
            have hfm64 : fm < 64 := by omega
            have hwf2 : wrap64 ((fn : Int) + xd) = (fm : Int) := by rw [← hwf1, IntKind.wrap_i64, wrap64]
            obtain ⟨⟨c0, c1, c2⟩, x0, x1, x2⟩ := HD.out.cells
            dsimp only at c0 c1 c2
            clear HSTOP HMOVE HENDS HL0 HL1 TU QU QD QC FL S2 S3 zx hwf
            have HFM := Lib.hid hfm
            clear hfm
            go_wp2
            go_roundw
            case rel => exact ⟨k + 1, fm, ⟨p, u, d⟩, xd, t + 1, M - 1, by omega, by go_num, rfl, rfl, rfl, S1, Lib.hid (by have := HM.out; omega), Lib.hid HD.out.1⟩
            case measure => simp [intOf]; omega
      · have kq : (xd == ne) = false := by simp [q]
        have TU : Hid (turnN e xd = 0) := if_neg (fun z => q (by rw [HNE.out]; exact z.2))
        cases xs with
        | true =>
          obtain rfl : xm = 0 := by rw [HXM.out]; rfl
          rcases HSM.out with rfl | rfl | rfl
          · have S1 : Hid (Sw ⟨lc, u, d⟩ fn 0 (t) (M - 1)) := by
              have := HSTOP.out rfl
              have q := this.1
              rw [TU.out] at q
              refine Lib.hid ?_
              simpa using q
            have SM := Lib.hid (HSTOP.out rfl).2.1
            have SA := HL1.out (HSTOP.out rfl).2.2.1
            obtain ⟨⟨c0, c1, c2⟩, x0, x1, x2⟩ := HD.out.cells
            dsimp only at c0 c1 c2
            have K1 := Lib.hid (FL.out _ (HT.out.fr HD.out.1.1))
            clear HSTOP HMOVE HENDS HL0 HL1 TU
            go_wp2_with fail
            with_reducible refine K1.out.mono ?_
            rintro x w6 ⟨v, rfl, ho, hf⟩
            have HD6 := Lib.hid (HD.out.fr hf)
            obtain ⟨a, cap, rfl, p1, q1, r1⟩ := ho.holds
            unfold maxLen at q1
            clear hf ho c0 c1 c2 x0 x1 x2 K1 HD FL r1
            obtain ⟨⟨c0, c1, c2⟩, x0, x1, x2⟩ := HD6.out.cells
            dsimp only at c0 c1 c2
            cases b3 with
            | true =>
              replace QC : ((lc : Int) == (p : Int)) = false := QC
              have HD7 := Lib.hid (HD6.out.fr (Fr.alloc w6 (.cells #[.int .u64 lc, .int .u64 u, .int .u64 d] 24) []))
              obtain ⟨⟨e0, e1, e2⟩, y0, y1, y2⟩ := HD7.out.cells
              obtain ⟨l0, l1, l2⟩ := arow (heap_alloc_new w6 (.cells #[.int .u64 lc, .int .u64 u, .int .u64 d] 24))
              dsimp only at e0 e1 e2
              clear HD6 QU QD HST
              go_upto_region 25 with fail
              skip
              clear c0 c1 c2 x0 x1 x2
              generalize World.alloc _ _ = w8 at *
              have z0 := HD7.out.1.fz 0
              have z1 := HD7.out.1.fz 1
              have z2 := HD7.out.1.fz 2
              have HD8 := Lib.hid (HD7.out.set lc u d)
              clear y0 y1 y2
              obtain ⟨_, y0, y1, y2⟩ := HD8.out.cells
              go_wp2
              go_roundw
              case rel => exact ⟨k + 1, fn, ⟨lc, u, d⟩, 0, t, M - 1, by omega, by go_num, rfl, rfl, rfl, S1, Lib.hid (by have := HM.out; omega), Lib.hid HD8.out.1⟩
              case measure => simp [intOf]; omega
            | false =>
              have := HST.out
              simp [Sp.hall] at this
          · have S1 : Hid (Sw ⟨lc, lu, d⟩ fn 1 (t) (M - 1)) := by
              have := HSTOP.out rfl
              have q := this.1
              rw [TU.out] at q
              refine Lib.hid ?_
              simpa using q
            have SM := Lib.hid (HSTOP.out rfl).2.1
            have SA := HL1.out (HSTOP.out rfl).2.2.1
            obtain ⟨⟨c0, c1, c2⟩, x0, x1, x2⟩ := HD.out.cells
            dsimp only at c0 c1 c2
            have K1 := Lib.hid (FL.out _ (HT.out.fr HD.out.1.1))
            clear HSTOP HMOVE HENDS HL0 HL1 TU
            go_wp2_with fail
            with_reducible refine K1.out.mono ?_
            rintro x w6 ⟨v, rfl, ho, hf⟩
            have HD6 := Lib.hid (HD.out.fr hf)
            obtain ⟨a, cap, rfl, p1, q1, r1⟩ := ho.holds
            unfold maxLen at q1
            clear hf ho c0 c1 c2 x0 x1 x2 K1 HD FL r1
            obtain ⟨⟨c0, c1, c2⟩, x0, x1, x2⟩ := HD6.out.cells
            dsimp only at c0 c1 c2
            cases b3 with
            | true =>
              replace QC : ((lc : Int) == (p : Int)) = false := QC
              have HA := HD6.out.fr (Fr.alloc w6 (.cells #[.int .u64 lc, .int .u64 u, .int .u64 d] 24) [])
              obtain ⟨_, _, ax1, _⟩ := HA.cells
              clear HA
              have HD7 := Lib.hid (HD6.out.fr (Fr.alloc w6 (.cells #[.int .u64 lc, .int .u64 lu, .int .u64 d] 24) []))
              obtain ⟨⟨e0, e1, e2⟩, y0, y1, y2⟩ := HD7.out.cells
              obtain ⟨l0, l1, l2⟩ := arow (heap_alloc_new w6 (.cells #[.int .u64 lc, .int .u64 lu, .int .u64 d] 24))
              dsimp only at e0 e1 e2
              clear HD6 QU QD HST
              go_upto_region 25 with fail
              clear ax1
              clear c0 c1 c2 x0 x1 x2
              generalize World.alloc _ _ = w8 at *
              have z0 := HD7.out.1.fz 0
              have z1 := HD7.out.1.fz 1
              have z2 := HD7.out.1.fz 2
              have HD8 := Lib.hid (HD7.out.set lc lu d)
              clear y0 y1 y2
              obtain ⟨_, y0, y1, y2⟩ := HD8.out.cells
              go_wp2
              go_roundw
              case rel => exact ⟨k + 1, fn, ⟨lc, lu, d⟩, 1, t, M - 1, by omega, by go_num, rfl, rfl, rfl, S1, Lib.hid (by have := HM.out; omega), Lib.hid HD8.out.1⟩
              case measure => simp [intOf]; omega
            | false =>
              replace QC : ((lc : Int) == (p : Int)) = true := QC
              have QX : ((lu : Int) == (u : Int)) = false := by
                rw [QU]
                have := HST.out
                rw [Bool.false_or] at this
                have e2 : hasB u fn = true := this.symm
                rw [e2]; rfl
              have HA := HD6.out.fr (Fr.alloc w6 (.cells #[.int .u64 lc, .int .u64 u, .int .u64 d] 24) [])
              obtain ⟨_, _, ax1, _⟩ := HA.cells
              clear HA
              have HD7 := Lib.hid (HD6.out.fr (Fr.alloc w6 (.cells #[.int .u64 lc, .int .u64 lu, .int .u64 d] 24) []))
              obtain ⟨⟨e0, e1, e2⟩, y0, y1, y2⟩ := HD7.out.cells
              obtain ⟨l0, l1, l2⟩ := arow (heap_alloc_new w6 (.cells #[.int .u64 lc, .int .u64 lu, .int .u64 d] 24))
              dsimp only at e0 e1 e2
              clear HD6 QU QD HST
              go_upto_region 25 with fail
              clear ax1
              clear c0 c1 c2 x0 x1 x2
              generalize World.alloc _ _ = w8 at *
              have z0 := HD7.out.1.fz 0
              have z1 := HD7.out.1.fz 1
              have z2 := HD7.out.1.fz 2
              have HD8 := Lib.hid (HD7.out.set lc lu d)
              clear y0 y1 y2
              obtain ⟨_, y0, y1, y2⟩ := HD8.out.cells
              go_wp2
              go_roundw
              case rel => exact ⟨k + 1, fn, ⟨lc, lu, d⟩, 1, t, M - 1, by omega, by go_num, rfl, rfl, rfl, S1, Lib.hid (by have := HM.out; omega), Lib.hid HD8.out.1⟩
              case measure => simp [intOf]; omega
          · have S1 : Hid (Sw ⟨lc, u, ld⟩ fn (-1) (t) (M - 1)) := by
              have := HSTOP.out rfl
              have q := this.1
              rw [TU.out] at q
              refine Lib.hid ?_
              simpa using q
            have SM := Lib.hid (HSTOP.out rfl).2.1
            have SA := HL1.out (HSTOP.out rfl).2.2.1
            obtain ⟨⟨c0, c1, c2⟩, x0, x1, x2⟩ := HD.out.cells
            dsimp only at c0 c1 c2
            have K1 := Lib.hid (FL.out _ (HT.out.fr HD.out.1.1))
            clear HSTOP HMOVE HENDS HL0 HL1 TU
            go_wp2_with fail
            with_reducible refine K1.out.mono ?_
            rintro x w6 ⟨v, rfl, ho, hf⟩
            have HD6 := Lib.hid (HD.out.fr hf)
            obtain ⟨a, cap, rfl, p1, q1, r1⟩ := ho.holds
            unfold maxLen at q1
            clear hf ho c0 c1 c2 x0 x1 x2 K1 HD FL r1
            obtain ⟨⟨c0, c1, c2⟩, x0, x1, x2⟩ := HD6.out.cells
            dsimp only at c0 c1 c2
            cases b3 with
            | true =>
              replace QC : ((lc : Int) == (p : Int)) = false := QC
              have HA := HD6.out.fr (Fr.alloc w6 (.cells #[.int .u64 lc, .int .u64 u, .int .u64 d] 24) [])
              obtain ⟨_, _, ax1, _⟩ := HA.cells
              clear HA
              have HD7 := Lib.hid (HD6.out.fr (Fr.alloc w6 (.cells #[.int .u64 lc, .int .u64 u, .int .u64 ld] 24) []))
              obtain ⟨⟨e0, e1, e2⟩, y0, y1, y2⟩ := HD7.out.cells
              obtain ⟨l0, l1, l2⟩ := arow (heap_alloc_new w6 (.cells #[.int .u64 lc, .int .u64 u, .int .u64 ld] 24))
              dsimp only at e0 e1 e2
              clear HD6 QU QD HST
              go_upto_region 25 with fail
              clear ax1
              clear c0 c1 c2 x0 x1 x2
              generalize World.alloc _ _ = w8 at *
              have z0 := HD7.out.1.fz 0
              have z1 := HD7.out.1.fz 1
              have z2 := HD7.out.1.fz 2
              have HD8 := Lib.hid (HD7.out.set lc u ld)
              clear y0 y1 y2
              obtain ⟨_, y0, y1, y2⟩ := HD8.out.cells
              go_wp2
              go_roundw
              case rel => exact ⟨k + 1, fn, ⟨lc, u, ld⟩, (-1), t, M - 1, by omega, by go_num, rfl, rfl, rfl, S1, Lib.hid (by have := HM.out; omega), Lib.hid HD8.out.1⟩
              case measure => simp [intOf]; omega
            | false =>
              replace QC : ((lc : Int) == (p : Int)) = true := QC
              have QX : ((ld : Int) == (d : Int)) = false := by
                rw [QD]
                have := HST.out
                rw [Bool.false_or] at this
                have e2 : hasB d fn = true := this.symm
                rw [e2]; rfl
              have HA := HD6.out.fr (Fr.alloc w6 (.cells #[.int .u64 lc, .int .u64 u, .int .u64 d] 24) [])
              obtain ⟨_, _, ax1, _⟩ := HA.cells
              clear HA
              have HD7 := Lib.hid (HD6.out.fr (Fr.alloc w6 (.cells #[.int .u64 lc, .int .u64 u, .int .u64 ld] 24) []))
              obtain ⟨⟨e0, e1, e2⟩, y0, y1, y2⟩ := HD7.out.cells
              obtain ⟨l0, l1, l2⟩ := arow (heap_alloc_new w6 (.cells #[.int .u64 lc, .int .u64 u, .int .u64 ld] 24))
              dsimp only at e0 e1 e2
              clear HD6 QU QD HST
              go_upto_region 25 with fail
              clear ax1
              clear c0 c1 c2 x0 x1 x2
              generalize World.alloc _ _ = w8 at *
              have z0 := HD7.out.1.fz 0
              have z1 := HD7.out.1.fz 1
              have z2 := HD7.out.1.fz 2
              have HD8 := Lib.hid (HD7.out.set lc u ld)
              clear y0 y1 y2
              obtain ⟨_, y0, y1, y2⟩ := HD8.out.cells
              go_wp2
              go_roundw
              case rel => exact ⟨k + 1, fn, ⟨lc, u, ld⟩, (-1), t, M - 1, by omega, by go_num, rfl, rfl, rfl, S1, Lib.hid (by have := HM.out; omega), Lib.hid HD8.out.1⟩
              case measure => simp [intOf]; omega
        | false =>
          by_cases zx : xd = 0
          · subst zx
            obtain rfl : xm = 0 := by rw [HXM.out]; rfl
            have kl : ((L.length : Int) == 0) = true := by rw [HL0.out (HENDS.out rfl rfl)]; rfl
            have ht4 : t ≤ 4 := by have := HT2.out; omega
            obtain ⟨⟨c0, c1, c2⟩, x0, x1, x2⟩ := HD.out.cells
            dsimp only at c0 c1 c2
            have K1 := Lib.hid (FL.out _ (HT.out.fr HD.out.1.1))
            clear HSTOP HMOVE HENDS HL0 HL1 TU QU QD QC
            go_wp2_with fail
            with_reducible refine K1.out.mono ?_
            rintro x w6 ⟨v, rfl, ho, hf⟩
            have HD6 := Lib.hid (HD.out.fr hf)
            obtain ⟨a, cap, rfl, p1, q1, r1⟩ := ho.holds
            unfold maxLen at q1
            clear hf ho c0 c1 c2 x0 x1 x2 K1 HD FL r1
            go_wp2
            go_ret
            exact ⟨rfl, HD6.out.1.1⟩
          · have kz : (xd == 0) = false := by simp [zx]
            obtain rfl : xd = xm := by rw [HXM.out]; rfl
            obtain ⟨S1, S2, S3⟩ := HMOVE.out rfl zx
            rw [TU.out] at S1
            obtain ⟨fm, hfm⟩ : ∃ m : Nat, (fn : Int) + xd = (m : Int) := ⟨((fn : Int) + xd).toNat, by omega⟩
            have hwf1 : IntKind.i64.wrap ((fn : Int) + xd) = (fm : Int) := by rw [hwf, hfm]
            rw [hfm] at S1 S2 S3
            have S1 : Hid (Sw ⟨p, u, d⟩ fm xd (t) (M - 1)) := by
              refine Lib.hid ?_
              simpa using S1
            have hfm64 : fm < 64 := by omega
            have hwf2 : wrap64 ((fn : Int) + xd) = (fm : Int) := by rw [← hwf1, IntKind.wrap_i64, wrap64]
            obtain ⟨⟨c0, c1, c2⟩, x0, x1, x2⟩ := HD.out.cells
            dsimp only at c0 c1 c2
            clear HSTOP HMOVE HENDS HL0 HL1 TU QU QD QC FL S2 S3 zx hwf
            have HFM := Lib.hid hfm
            clear hfm
            go_wp2
            go_roundw
            case rel => exact ⟨k + 1, fm, ⟨p, u, d⟩, xd, t, M - 1, by omega, by go_num, rfl, rfl, rfl, S1, Lib.hid (by have := HM.out; omega), Lib.hid HD.out.1⟩
            case measure => simp [intOf]; omega
theorem plsweeps_walk (s : Sp) (h : s.ok) (k1 k2 : Int) (a10 : -9223372036854775808 ≤ k1) (a11 : k1 ≤ 9223372036854775807) (a20 : -9223372036854775808 ≤ k2) (a21 : k2 ≤ 9223372036854775807) (W : World) (hT : Tz W) :
    Calls Tryd.prog 7 #[s.v, .int .i64 k1, .int .i64 k2] W fun x w' => x = .returned (.bool true) ∧ W.grownBy w' none :=
  (sweeps_true s k1 k2 h a10 a11 a20 a21 W hT).mono fun _ _ ⟨he, hf⟩ => ⟨he, hf.grown (by simp)⟩
end Go.Proofs.YtkdfnnikgliglaaDoor
