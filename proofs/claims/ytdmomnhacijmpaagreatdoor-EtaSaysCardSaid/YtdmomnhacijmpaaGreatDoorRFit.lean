/- The document's stops: what counts of them. -/
import Derived.Test.YtdmomnhacijmpaaGreatDoorARef
import Derived.Test.YtdmomnhacijmpaaGreatDoorGEta
import Derived.Test.YtdmomnhacijmpaaGreatDoorGCar2
namespace Go.Proofs.YtdmomnhacijmpaaGreatDoor
open Go.RowKit

/-- What counts of the floors below f; behind it, of f itself too, the ways below e. -/
def Ho.fitN (h : Ho) (s : Sp) (f : Int) : Sp := ⟨lowN s.c f, lowN s.u (min f (h.f - 1)), clrN (lowN s.d f) 0⟩
def Ho.fitI (h : Ho) (s : Sp) (f e : Int) : Sp := ⟨lowN s.c (f + 1), lowN s.u (min (if e ≤ 1 then f else f + 1) (h.f - 1)), clrN (lowN s.d (if e ≤ -1 then f else f + 1)) 0⟩
theorem fitN_ok (h : Ho) {s : Sp} (k : s.ok) (f : Int) : (h.fitN s f).ok := ⟨lowN_lt k.c _, lowN_lt k.u _, clrN_lt (lowN_lt k.d _) 0⟩
theorem fitI_ok (h : Ho) {s : Sp} (k : s.ok) (f e : Int) : (h.fitI s f e).ok := ⟨lowN_lt k.c _, lowN_lt k.u _, clrN_lt (lowN_lt k.d _) 0⟩
theorem low_zero (n : Nat) : lowN n 0 = 0 := by unfold lowN; simp [Nat.mod_one]
theorem fitN_zero {h : Ho} (hk : h.ok) (s : Sp) : h.fitN s 0 = zSp := by
  have := hk.2.1.1
  unfold Ho.fitN
  rw [show min 0 (h.f - 1) = 0 by omega, low_zero, low_zero, low_zero]
  unfold clrN
  rw [Nat.zero_and]; rfl
theorem fitN_top {h : Ho} (s : Sp) : h.fitN s h.f = h.fit s := by
  unfold Ho.fitN Ho.fit
  rw [show min h.f (h.f - 1) = h.f - 1 by omega]
theorem fitI_end (h : Ho) (s : Sp) (f : Int) : h.fitI s f 3 = h.fitN s (f + 1) := by
  unfold Ho.fitI Ho.fitN
  rw [if_neg (by decide), if_neg (by decide)]
/-- A bit more. -/
theorem low_more {n : Nat} (_hn : n < 18446744073709551616) {f : Int} (f0 : 0 ≤ f) (f1 : f < 64) : lowN n (f + 1) = if hasB n f = true then lowN n f ||| oneN f else lowN n f := by
  refine ext_hasB fun z => ?_
  rw [hasB_low n (by omega)]
  split
  · rename_i g
    rw [hasB_or, hasB_low n f0, hasB_one]
    by_cases e : z = f
    · subst e
      rw [g, decide_eq_true (by omega : z < z + 1), decide_eq_true (by omega : z = z ∧ 0 ≤ z ∧ z < 64)]; simp
    · rw [decide_eq_false (show ¬ (z = f ∧ 0 ≤ f ∧ f < 64) by omega), Bool.or_false]
      congr 1
      exact decide_eq_decide.2 (by omega)
  · rename_i g
    rw [hasB_low n f0]
    by_cases e : z = f
    · subst e
      rw [Bool.not_eq_true] at g
      rw [g]; rfl
    · congr 1
      exact decide_eq_decide.2 (by omega)
theorem fitN_car {h : Ho} {s : Sp} (ok : s.ok) {f : Int} (f0 : 0 ≤ f) (f1 : f < h.f) (f2 : h.f ≤ 64) : h.fitI s f (-1) = if hasB s.c f = true then ⟨(h.fitN s f).c ||| oneN f, (h.fitN s f).u, (h.fitN s f).d⟩ else h.fitN s f := by
  unfold Ho.fitI Ho.fitN
  rw [if_pos (by decide), if_pos (by decide), low_more ok.c f0 (by omega)]
  split <;> rfl
theorem clr_zero_or {a : Nat} (ha : a < 18446744073709551616) {f : Int} (f0 : 0 < f) (f1 : f < 64) : clrN (a ||| oneN f) 0 = clrN a 0 ||| oneN f := by
  have hf := oneN_lt f
  refine ext_hasB fun z => ?_
  rw [hasB_clr (or_lt ha hf) (by omega) (by omega), hasB_or, hasB_or, hasB_clr ha (by omega) (by omega), hasB_one]
  by_cases e : z = 0
  · rw [decide_eq_true e, decide_eq_false (show ¬ (z = f ∧ 0 ≤ f ∧ f < 64) by omega)]; simp
  · rw [decide_eq_false e]; simp
theorem clr_zero_one {a : Nat} (ha : a < 18446744073709551616) : clrN (a ||| oneN 0) 0 = clrN a 0 := by
  have hf := oneN_lt 0
  refine ext_hasB fun z => ?_
  rw [hasB_clr (or_lt ha hf) (by omega) (by omega), hasB_or, hasB_clr ha (by omega) (by omega), hasB_one]
  by_cases e : z = 0
  · rw [decide_eq_true e]; simp
  · rw [decide_eq_false e, decide_eq_false (show ¬ (z = 0 ∧ (0 : Int) ≤ 0 ∧ (0 : Int) < 64) by omega)]; simp
theorem fitI_step {h : Ho} {s : Sp} (ok : s.ok) {f e : Int} (f0 : 0 ≤ f) (f1 : f < h.f) (f2 : h.f ≤ 64) (he : e = -1 ∨ e = 1) :
    h.fitI s f (e + 2) = if s.hall f e = true ∧ mayC h.f f e then (h.fitI s f e).put f e else h.fitI s f e := by
  rcases he with rfl | rfl
  · have hd : s.hall f (-1) = hasB s.d f := rfl
    unfold Ho.fitI
    rw [hd, if_pos (by decide : (-1 : Int) + 2 ≤ 1), if_neg (by decide : ¬ (-1 : Int) + 2 ≤ -1), if_pos (by decide : (-1 : Int) ≤ 1), if_pos (by decide : (-1 : Int) ≤ -1), low_more ok.d f0 (by omega)]
    by_cases g : hasB s.d f = true
    · rw [if_pos g]
      by_cases z : f = 0
      · subst z
        rw [if_neg (fun k => by have := k.2; unfold mayC at this; omega), clr_zero_one (lowN_lt ok.d _)]
      · rw [if_pos ⟨g, by unfold mayC; omega⟩, clr_zero_or (lowN_lt ok.d _) (by omega) (by omega)]
        rfl
    · rw [if_neg g, if_neg (fun k => g k.1)]
  · have hd : s.hall f 1 = hasB s.u f := rfl
    unfold Ho.fitI
    rw [hd, if_neg (by decide : ¬ (1 : Int) + 2 ≤ 1), if_neg (by decide : ¬ (1 : Int) + 2 ≤ -1), if_pos (by decide : (1 : Int) ≤ 1), if_neg (by decide : ¬ (1 : Int) ≤ -1)]
    by_cases q : f < h.f - 1
    · rw [show min (f + 1) (h.f - 1) = f + 1 by omega, show min f (h.f - 1) = f by omega, low_more ok.u f0 (by omega)]
      by_cases g : hasB s.u f = true
      · rw [if_pos g, if_pos ⟨g, by unfold mayC; omega⟩]; rfl
      · rw [if_neg g, if_neg (fun k => g k.1)]
    · rw [show min (f + 1) (h.f - 1) = h.f - 1 by omega, show min f (h.f - 1) = h.f - 1 by omega, if_neg (fun k => by have := k.2; unfold mayC at this; omega)]

/-- A box of the document's stops. -/
abbrev SQ (w : World) (b : Nat) (s : Sp) : Prop := w.heap[b]? = some (Sp.box 37 s)
structure RF (W : World) (h : Ho) (s x : Sp) (a : World) : Prop where
  f : Fr W a []
  h : HB a W.heap.size h
  s : SQ a (W.heap.size + 1) s
  r : SQ a (W.heap.size + 2) zSp
  x : SQ a (W.heap.size + 3) x
theorem RF.fr {W : World} {h : Ho} {s x : Sp} {a a' : World} (k : RF W h s x a) (f : Fr a a' []) : RF W h s x a' := ⟨k.f.trans f, k.h.fr f, f.heap k.s (by simp), f.heap k.r (by simp), f.heap k.x (by simp)⟩
theorem RF.put {W : World} {h : Ho} {s x : Sp} {a : World} (k : RF W h s x a) (y : Sp) : RF W h s y (spSet a (W.heap.size + 3) y) :=
  have f := aset_fr a (W.heap.size + 3) (.int .u64 y.c) (.int .u64 y.u) (.int .u64 y.d)
  ⟨k.f.new f (by simp), f.heap k.h (by simp), f.heap k.s (by simp), f.heap k.r (by simp), aset k.x _ _ _⟩
theorem RF.car {W : World} {h : Ho} {s x : Sp} {a : World} (k : RF W h s x a) (n : Nat) : RF W h s ⟨n, x.u, x.d⟩ (a.setCell ⟨W.heap.size + 3, 0, none⟩ (.int .u64 n)) :=
  have f := Fr.setCell a (W.heap.size + 3) 0 (.int .u64 n) (S := [W.heap.size + 3]) (by simp)
  ⟨k.f.new f (by simp), f.heap k.h (by simp), f.heap k.s (by simp), f.heap k.r (by simp), aput0 k.x _⟩
theorem RF.ends {W : World} {h : Ho} {s x : Sp} {a : World} (k : RF W h s x a) (y : Sp) : Fr W (spSet a (W.heap.size + 2) y) [] ∧ SQ (spSet a (W.heap.size + 2) y) (W.heap.size + 2) y :=
  ⟨k.f.new (aset_fr a _ _ _ _) (by simp), aset k.r _ _ _⟩
theorem RF.new (w : World) (h : Ho) (s : Sp) : RF w h s zSp ((((w.alloc h.box).alloc (Sp.box 37 s)).alloc (Sp.box 37 zSp)).alloc (Sp.box 37 zSp)) := by
  have a1 := heap_alloc_new w h.box
  have a2 := heap_alloc_new (w.alloc h.box) (Sp.box 37 s)
  have a3 := heap_alloc_new ((w.alloc h.box).alloc (Sp.box 37 s)) (Sp.box 37 zSp)
  have a4 := heap_alloc_new (((w.alloc h.box).alloc (Sp.box 37 s)).alloc (Sp.box 37 zSp)) (Sp.box 37 zSp)
  rw [show (w.alloc h.box).heap.size = w.heap.size + 1 by simp] at a2
  rw [show ((w.alloc h.box).alloc (Sp.box 37 s)).heap.size = w.heap.size + 2 by simp] at a3
  rw [show (((w.alloc h.box).alloc (Sp.box 37 s)).alloc (Sp.box 37 zSp)).heap.size = w.heap.size + 3 by simp] at a4
  have f1 := Fr.alloc w h.box []
  have f2 := Fr.alloc (w.alloc h.box) (Sp.box 37 s) []
  have f3 := Fr.alloc ((w.alloc h.box).alloc (Sp.box 37 s)) (Sp.box 37 zSp) []
  have f4 := Fr.alloc (((w.alloc h.box).alloc (Sp.box 37 s)).alloc (Sp.box 37 zSp)) (Sp.box 37 zSp) []
  have f34 := f3.trans f4
  exact ⟨(f1.trans f2).trans f34, (f2.trans f34).heap a1 (by simp), f34.heap a2 (by simp), f4.heap a3 (by simp), a4⟩
/-- What the drawn region reads. -/
def R6 (V : World) (m : Nat) (x : Sp) (a : World) : Prop := Fr V a [] ∧ a.cell? ⟨m, 0, none⟩ = some (.int .u64 x.c) ∧ a.cell? ⟨m, 1, none⟩ = some (.int .u64 x.u) ∧ a.cell? ⟨m, 2, none⟩ = some (.int .u64 x.d)
theorem R6.lasts (V : World) (m : Nat) (x : Sp) : Lasts (R6 V m x) := fun _ _ k f => ⟨k.1.trans f, f.cell k.2.1 (by simp), f.cell k.2.2.1 (by simp), f.cell k.2.2.2 (by simp)⟩
theorem R6.size {V : World} {m : Nat} {x : Sp} (w : World) (k : R6 V m x w) : V.heap.size ≤ w.heap.size := k.1.size

set_option maxHeartbeats 8000000 in
set_option maxRecDepth 100000 in
theorem rfit_any (h : Ho) (s : Sp) (w : World) (hk : h.ok) (ok : s.ok) (r : Sp) (hr : r = h.fit s) :
    Calls Tryz.prog 34 #[h.v, s.v] w fun x w' => x = .returned r.v ∧ Fr w w' [] := by
  have TB := Lib.hid (RF.new w h s)
  have AT := Lib.hid (fun (z : Int) (b : Bool) (hb : b = hasB s.c z) W => rat_any s z W ok b hb)
  have HA := Lib.hid (fun (z e : Int) (b : Bool) (hb : b = s.hall z e) W => rhall_any s z e W ok b hb)
  have MA := Lib.hid (fun (z e : Int) (b : Bool) (hb : b = decide (mayC h.f z e)) W => dmay_any h.f z e hk.2.1.1 hk.2.1.2 W b hb)
  have PU := Lib.hid (fun (x : Sp) (xk : x.ok) (z e : Int) (y : Sp) (hy : y = x.put z e) W => rput_any x z e W xk y hy)
  have CA := Lib.hid (fun (f : Int) (f0 : 0 ≤ f) (f1 : f < h.f) => fitN_car (h := h) ok f0 f1 hk.2.1.2)
  have NO := Lib.hid (fun f => fitN_ok h ok f)
  have IO := Lib.hid (fun f e => fitI_ok h ok f e)
  have SP := Lib.hid (fun (f e : Int) (f0 : 0 ≤ f) (f1 : f < h.f) (he : e = -1 ∨ e = 1) => fitI_step (h := h) ok f0 f1 hk.2.1.2 he)
  have EN := Lib.hid (fun f => fitI_end h s f)
  have HR := Lib.hid (show r = h.fitN s h.f by rw [hr, fitN_top])
  have Z0 := Lib.hid (fitN_zero hk s).symm
  have HF := Lib.hid hk.2.1
  obtain ⟨gN, hgN⟩ : ∃ gN, gN = h.fitN s := ⟨_, rfl⟩
  obtain ⟨gI, hgI⟩ : ∃ gI, gI = h.fitI s := ⟨_, rfl⟩
  obtain ⟨bc, hbc⟩ : ∃ bc, bc = fun f : Int => hasB s.c f := ⟨_, rfl⟩
  obtain ⟨bh, hbh⟩ : ∃ bh, bh = fun f e : Int => s.hall f e := ⟨_, rfl⟩
  rw [← hgN] at CA NO EN HR Z0
  rw [← hgI] at CA IO SP EN
  replace AT := Lib.hid (fun (z : Int) W => AT.out z (bc z) (by rw [hbc]) W)
  replace HA := Lib.hid (fun (z e : Int) W => HA.out z e (bh z e) (by rw [hbh]) W)
  replace CA : Hid (∀ f : Int, 0 ≤ f → f < h.f → gI f (-1) = if bc f = true then ⟨(gN f).c ||| oneN f, (gN f).u, (gN f).d⟩ else gN f) := Lib.hid (by rw [hbc]; exact CA.out)
  replace SP : Hid (∀ f e : Int, 0 ≤ f → f < h.f → (e = -1 ∨ e = 1) → gI f (e + 2) = if bh f e = true ∧ mayC h.f f e then (gI f e).put f e else gI f e) := Lib.hid (by rw [hbh]; exact SP.out)
  clear hk ok hr hgN hgI hbc hbh
  obtain ⟨hc, hfl, hs, hd⟩ := h
  obtain ⟨sp, su, sd⟩ := s
  dsimp only [Ho.v, Ho.box, Sp.v, Sp.box, zSp] at *
  simp only [show ((0 : Nat) : Int) = 0 from rfl] at *
  go_enter Tryz.func34, Tryz.ntmps34
  go_upto_region 2 with fail
  generalize World.alloc (World.alloc (World.alloc (World.alloc w _) _) _) _ = w0 at *
  go_wp2
  go_loopw [6] (fun s6 wx => ∃ f : Int, s6 = .int .i64 f ∧ Hid (0 ≤ f ∧ f ≤ hfl) ∧ Hid (RF w ⟨hc, hfl, hs, hd⟩ ⟨sp, su, sd⟩ (gN f) wx)) (fun s6 _ => (hfl - intOf s6).toNat)
  case atStart => exact ⟨0, rfl, Lib.hid (by have := HF.out; omega), by rw [← Z0.out]; exact TB⟩
  case round =>
    clear TB Z0
    obtain ⟨f, rfl, HK, HLx⟩ := hrel
    obtain ⟨f0, f1⟩ := HK.out
    have hf := HF.out
    obtain ⟨i0, i1, i2, i3⟩ := HLx.out.h.cells
    dsimp only at i0 i1 i2 i3
    by_cases hlt : f < hfl
    · have AT1 := Lib.hid (fun W => AT.out f W)
      have CA1 := Lib.hid (CA.out f f0 hlt)
      have NO1 := Lib.hid (NO.out f)
      clear AT CA NO HR
      obtain ⟨X, hX⟩ : ∃ X, X = gN f := ⟨_, rfl⟩
      rw [← hX] at HLx CA1 NO1
      clear hX
      obtain ⟨s0, s1, s2⟩ := arow HLx.out.s
      dsimp only at s0 s1 s2
      go_wp2_with fail
      with_reducible refine (AT1.out _).mono ?_
      rintro v w2 ⟨rfl, hg⟩
      have T2 := Lib.hid (HLx.out.fr hg)
      clear hg i0 i1 i2 i3 s0 s1 s2 HLx AT1
      go_upto_if 18 with fail
      go_cut [] (fun wx => Hid (RF w ⟨hc, hfl, hs, hd⟩ ⟨sp, su, sd⟩ (gI f (-1)) wx))
      case first =>
        obtain ⟨b, hb⟩ : ∃ b, b = bc f := ⟨_, rfl⟩
        have CA2 := Lib.hid (show gI f (-1) = if b = true then ⟨X.c ||| oneN f, X.u, X.d⟩ else X by rw [hb]; exact CA1.out)
        rw [← hb]
        clear hb CA1
        cases b with
        | false =>
          have e : gI f (-1) = X := CA2.out
          have T3 : Hid (RF w ⟨hc, hfl, hs, hd⟩ ⟨sp, su, sd⟩ (gI f (-1)) w2) := by rw [e]; exact T2
          clear e CA2
          go_wp2_with fail
          go_meet
          exact T3
        | true =>
          have e : gI f (-1) = ⟨X.c ||| oneN f, X.u, X.d⟩ := CA2.out
          have ON := Lib.hid (fun W => rone_any f W)
          have O1 := bits_or_u64_nat X.c (oneN f) NO1.out.c (oneN_lt f)
          obtain ⟨o, ho⟩ : ∃ o, o = oneN f := ⟨_, rfl⟩
          rw [← ho] at ON O1 e
          obtain ⟨y, hy⟩ : ∃ y, y = X.c ||| o := ⟨_, rfl⟩
          rw [← hy] at O1 e
          clear ho hy CA2
          go_wp2_with fail
          refine wp_region_noPanic ?_
          refine wp_region_mix (M := R6 w2 (w.heap.size + 3) X) (fun _ => none) [] w2.heap.size 6 (by kernel_rfl) (by kernel_rfl) (by kernel_rfl) (R6.lasts _ _ _) R6.size (R6.lasts _ _ _ _ _ ⟨Fr.refl _ _, arow T2.out.x⟩ (Fr.drew _ [])) ?_
          refine wpMixU_take (i := 0) (oi := _) (v := ?mv1) (by decide) (by kernel_rfl) (by simp only [List.getElem?_toArray, List.getElem?_cons_zero]; rfl) (by rfl) (by kernel_rfl) (by kernel_rfl) (by kernel_rfl) (by rfl) ?my1 ?mr1
          case my1 => (intro M' hst him w hM; have hSw := him w hM; (try dsimp only [R6] at hSw); go_simp; refine Came.value ?_ hM; with_reducible rfl)
          try simp only [Act.put, List.setIfInBounds_toArray, List.set_cons_zero, List.set_cons_succ]
          refine wpMixU_take (i := 1) (oi := _) (v := ?mv2) (by decide) (by kernel_rfl) (by simp only [List.getElem?_toArray, List.getElem?_cons_zero, List.getElem?_cons_succ]; rfl) (by rfl) (by kernel_rfl) (by kernel_rfl) (by kernel_rfl) (by rfl) ?my2 ?mr2
          case my2 => (intro M' hst him w hM; have hSw := him w hM; (try dsimp only [R6] at hSw); go_simp; refine Came.value ?_ hM; with_reducible rfl)
          try simp only [Act.put, List.setIfInBounds_toArray, List.set_cons_zero, List.set_cons_succ]
          refine wpMixU_take (i := 2) (oi := _) (v := ?mv3) (by decide) (by kernel_rfl) (by simp only [List.getElem?_toArray, List.getElem?_cons_zero, List.getElem?_cons_succ]; rfl) (by rfl) (by kernel_rfl) (by kernel_rfl) (by kernel_rfl) (by rfl) ?my3 ?mr3
          case my3 => (intro M' hst him w hM; have hSw := him w hM; (try dsimp only [R6] at hSw); go_simp; refine Came.value ?_ hM; with_reducible rfl)
          try simp only [Act.put, List.setIfInBounds_toArray, List.set_cons_zero, List.set_cons_succ]
          refine wpMixU_take (i := 3) (oi := _) (v := ?mv4) (by decide) (by kernel_rfl) (by simp only [List.getElem?_toArray, List.getElem?_cons_zero, List.getElem?_cons_succ]; rfl) (by rfl) (by kernel_rfl) (by kernel_rfl) (by kernel_rfl) (by rfl) ?my4 ?mr4
          case my4 => (intro M' hst him w hM; have hSw := him w hM; (try dsimp only [R6] at hSw); go_simp; exact Came.call ((ON.out w).mono fun e w' ⟨he, hf⟩ => ⟨he, hf ▸ hM⟩) (by with_reducible rfl))
          try simp only [Act.put, List.setIfInBounds_toArray, List.set_cons_zero, List.set_cons_succ]
          refine wpMixU_take (i := 4) (oi := _) (v := ?mv5) (by decide) (by kernel_rfl) (by simp only [List.getElem?_toArray, List.getElem?_cons_zero, List.getElem?_cons_succ]; rfl) (by rfl) (by kernel_rfl) (by kernel_rfl) (by kernel_rfl) (by rfl) ?my5 ?mr5
          case my5 => (intro M' hst him w hM; have hSw := him w hM; (try dsimp only [R6] at hSw); go_simp; refine Came.value ?_ hM; with_reducible rfl)
          try simp only [Act.put, List.setIfInBounds_toArray, List.set_cons_zero, List.set_cons_succ]
          refine wpMixU_take (i := 5) (oi := _) (v := ?mv6) (by decide) (by kernel_rfl) (by simp only [List.getElem?_toArray, List.getElem?_cons_zero, List.getElem?_cons_succ]; rfl) (by rfl) (by kernel_rfl) (by kernel_rfl) (by kernel_rfl) (by rfl) ?my6 ?mr6
          case my6 => (intro M' hst him w hM; have hSw := him w hM; (try dsimp only [R6] at hSw); go_simp; refine Came.value ?_ hM; with_reducible rfl)
          try simp only [Act.put, List.setIfInBounds_toArray, List.set_cons_zero, List.set_cons_succ]
          refine wpMixU_tail (fun _ => True) (by kernel_rfl) (fun _ _ => trivial) ?_
          intro w5 hM
          have T5 := Lib.hid (T2.out.fr hM.1)
          clear hM T2 ON
          have T6 : Hid (RF w ⟨hc, hfl, hs, hd⟩ ⟨sp, su, sd⟩ (gI f (-1)) (w5.setCell ⟨w.heap.size + 3, 0, none⟩ (.int .u64 y))) := by rw [e]; exact Lib.hid (T5.out.car y)
          obtain ⟨x0, x1, x2⟩ := arow T5.out.x
          have z0 := frozen_of_row _ _ 0 _ _ T5.out.x
          clear e
          refine wpAnyH_ready (rs := [6]) (by kernel_rfl) (by simp) ?_
          refine AllReadyH.cons (o := _) rfl (fun K hK => ?_) AllReadyH.nil
          go_simp
          refine hK.out _ _ trivial (fun hHeld => ?_)
          clear hK K
          try simp only [Act.put, List.setIfInBounds_toArray, List.set_cons_zero, List.set_cons_succ]
          refine wpAnyH_done (by kernel_rfl) ?_ _
          refine NoPanic.normal ?_
          clear hHeld
          generalize World.setCell w5 _ _ = w6 at *
          clear x0 x1 x2 z0 T5
          go_wp2_with fail
          go_meet
          exact T6
      case rest =>
        have T3 := hcut
        clear hcut T2 CA1 NO1
        go_wp2
        go_loopw [7] (fun s7 wx => ∃ e : Int, s7 = .int .i64 e ∧ Hid (e = -1 ∨ e = 1 ∨ e = 3) ∧ Hid (RF w ⟨hc, hfl, hs, hd⟩ ⟨sp, su, sd⟩ (gI f e) wx)) (fun s7 _ => (3 - intOf s7).toNat)
        case atStart => exact ⟨-1, rfl, Lib.hid (.inl rfl), T3⟩
        case round =>
          clear T3
          obtain ⟨e, rfl, HE, HLy⟩ := hrel
          have he := HE.out
          by_cases hle : e ≤ 1
          · have he2 : e = -1 ∨ e = 1 := by omega
            have SP1 := Lib.hid (SP.out f e f0 hlt he2)
            have HA1 := Lib.hid (fun W => HA.out f e W)
            obtain ⟨bm, hbm⟩ : ∃ b, b = decide (mayC hfl f e) := ⟨_, rfl⟩
            have MA1 := Lib.hid (fun W => MA.out f e bm hbm W)
            obtain ⟨b1, hb1⟩ : ∃ b, b = bh f e := ⟨_, rfl⟩
            obtain ⟨Y, hY⟩ : ∃ Y, Y = gI f e := ⟨_, rfl⟩
            have yk : Y.ok := by rw [hY]; exact IO.out f e
            obtain ⟨Z, hZ⟩ : ∃ Z, Z = Y.put f e := ⟨_, rfl⟩
            have PU1 := Lib.hid (fun W => PU.out Y yk f e Z hZ W)
            have SP2 := Lib.hid (show gI f (e + 2) = if b1 = true ∧ bm = true then Z else Y by
              rw [SP1.out, hb1, hbm, hZ, hY]
              by_cases g : bh f e = true ∧ mayC hfl f e
              · rw [if_pos g, if_pos ⟨g.1, decide_eq_true g.2⟩]
              · rw [if_neg g, if_neg (fun k => g ⟨k.1, of_decide_eq_true k.2⟩)])
            rw [← hb1] at HA1
            rw [← hY] at HLy
            have hw1 : IntKind.i64.wrap (e + 2) = e + 2 := IntWalk.i64_in _ (by omega)
            clear SP1 hbm hb1 hY hZ yk SP HA MA PU IO
            have T5 := Lib.hid (HLy.out.fr (Fr.alloc wr (callBox f e) []))
            have C5 := Lib.hid (heap_alloc_new wr (callBox f e))
            dsimp only [callBox] at T5 C5
            go_upto_region 11 with fail
            obtain ⟨bq, hbq⟩ : ∃ b, wr.heap.size = b := ⟨_, rfl⟩
            rw [hbq] at C5
            rw [hbq]
            clear hbq
            generalize World.alloc wr _ = w5 at *
            clear HLy
            obtain ⟨s0, s1, s2⟩ := arow T5.out.s
            dsimp only at s0 s1 s2
            go_wp2_with fail
            with_reducible refine (HA1.out _).mono ?_
            rintro v w6 ⟨rfl, hg⟩
            have T6 := Lib.hid (T5.out.fr hg)
            have C6 := Lib.hid (hg.heap C5.out (by simp))
            clear hg s0 s1 s2 T5 C5 HA1
            cases b1 with
            | false =>
              have e1 : gI f (e + 2) = Y := SP2.out
              have T7 : Hid (RF w ⟨hc, hfl, hs, hd⟩ ⟨sp, su, sd⟩ (gI f (e + 2)) w6) := by rw [e1]; exact T6
              clear e1 SP2 MA1 PU1
              go_wp2
              go_roundw
              case rel => exact ⟨e + 2, by go_num, Lib.hid (by omega), T7⟩
              case measure => simp [intOf]; omega
            | true =>
              obtain ⟨i0, i1, i2, i3⟩ := T6.out.h.cells
              obtain ⟨t0, t1⟩ := two_row C6.out
              dsimp only at i0 i1 i2 i3
              go_wp2_with fail
              with_reducible refine (MA1.out _).mono ?_
              rintro v w7 ⟨rfl, hg⟩
              have T7 := Lib.hid (T6.out.fr hg)
              have C7 := Lib.hid (hg.heap C6.out (by simp))
              clear hg i0 i1 i2 i3 t0 t1 T6 C6 MA1
              cases bm with
              | false =>
                have e1 : gI f (e + 2) = Y := SP2.out
                have T8 : Hid (RF w ⟨hc, hfl, hs, hd⟩ ⟨sp, su, sd⟩ (gI f (e + 2)) w7) := by rw [e1]; exact T7
                clear e1 SP2 PU1
                go_wp2
                go_roundw
                case rel => exact ⟨e + 2, by go_num, Lib.hid (by omega), T8⟩
                case measure => simp [intOf]; omega
              | true =>
                have e1 : gI f (e + 2) = Z := SP2.out
                obtain ⟨x0, x1, x2⟩ := arow T7.out.x
                obtain ⟨t0, t1⟩ := two_row C7.out
                clear SP2
                go_wp2_with fail
                with_reducible refine (PU1.out _).mono ?_
                rintro v w8 ⟨rfl, hg⟩
                have T8 := Lib.hid (T7.out.fr hg)
                clear hg x0 x1 x2 t0 t1 T7 C7 PU1
                have T9 : Hid (RF w ⟨hc, hfl, hs, hd⟩ ⟨sp, su, sd⟩ (gI f (e + 2)) (spSet w8 (w.heap.size + 3) Z)) := by rw [e1]; exact Lib.hid (T8.out.put Z)
                obtain ⟨x0, x1, x2⟩ := arow T8.out.x
                have z0 := frozen_of_row _ _ 0 _ _ T8.out.x
                have z1 := frozen_of_row _ _ 1 _ _ T8.out.x
                have z2 := frozen_of_row _ _ 2 _ _ T8.out.x
                dsimp only [spSet] at T9
                clear e1
                go_wp2
                go_roundw
                case rel => exact ⟨e + 2, by go_num, Lib.hid (by omega), T9⟩
                case measure => simp [intOf]; omega
          · obtain rfl : e = 3 := by omega
            have e1 := EN.out f
            have T5 : Hid (RF w ⟨hc, hfl, hs, hd⟩ ⟨sp, su, sd⟩ (gN (f + 1)) wr) := by rw [← e1]; exact HLy
            have hw1 : IntKind.i64.wrap (f + 1) = f + 1 := IntWalk.i64_in _ (by omega)
            clear e1 HA MA PU SP IO EN HLy HE
            go_wp2
            go_roundw
            case rel => exact ⟨f + 1, by go_num, Lib.hid (by omega), T5⟩
            case measure => simp [intOf]; omega
    · obtain rfl : f = hfl := by omega
      have e1 : r = gN f := HR.out
      have T5 : Hid (RF w ⟨hc, f, hs, hd⟩ ⟨sp, su, sd⟩ r wr) := by rw [e1]; exact HLx
      clear AT CA NO IO SP EN HA MA PU HR e1 HLx
      obtain ⟨rp, ru, rd⟩ := r
      have T6 := Lib.hid (T5.out.ends ⟨rp, ru, rd⟩)
      obtain ⟨x0, x1, x2⟩ := arow T5.out.x
      obtain ⟨r0, r1, r2⟩ := arow T5.out.r
      have z0 := frozen_of_row _ _ 0 _ _ T5.out.r
      have z1 := frozen_of_row _ _ 1 _ _ T5.out.r
      have z2 := frozen_of_row _ _ 2 _ _ T5.out.r
      dsimp only [spSet] at x0 x1 x2 r0 r1 r2 T6
      go_upto_region 13 with fail
      obtain ⟨y0, y1, y2⟩ := arow T6.out.2
      dsimp only at y0 y1 y2
      go_wp2
      exact bodyPost_ret (v := .agg #[.int .u64 rp, .int .u64 ru, .int .u64 rd]) (by simp [results, Tryz.results34, go_sem, y0, y1, y2]) rfl ⟨rfl, T6.out.1⟩
end Go.Proofs.YtdmomnhacijmpaaGreatDoor
