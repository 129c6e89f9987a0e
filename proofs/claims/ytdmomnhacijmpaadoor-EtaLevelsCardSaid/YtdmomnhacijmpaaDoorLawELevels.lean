/- A car that has to find its level first takes the ticks down to it, and from there as long as one that stands there. -/
import Derived.Test.YtdmomnhacijmpaaDoorELaw
namespace Go.Proofs.YtdmomnhacijmpaaDoor
open Go.RowKit

/-- A house's, the stops', a call's boxes. -/
structure LV (W : World) (h : Ho) (s : Sp) (q e : Int) (a : World) : Prop where
  f : Fr W a []
  h : HB a W.heap.size h
  s : SR a (W.heap.size + 1) s
  t : a.heap[W.heap.size + 2]? = some (callBox q e)
theorem LV.fr {W : World} {h : Ho} {s : Sp} {q e : Int} {a a' : World} (k : LV W h s q e a) (f : Fr a a' []) : LV W h s q e a' := ⟨k.f.trans f, k.h.fr f, f.heap k.s (by simp), f.heap k.t (by simp)⟩
theorem LV.car {W : World} {h : Ho} {s : Sp} {q e : Int} {a : World} {b : Nat} (k : LV W h s q e a) (lo : W.heap.size + 2 < b) (z : Ca) : LV W h s q e (carSet a b z) :=
  have f := carSet_fr a b z
  ⟨k.f.new f (by simp; omega), f.heap k.h (by simp; omega), f.heap k.s (by simp; omega), f.heap k.t (by simp; omega)⟩
theorem LV.new (w : World) (h : Ho) (s : Sp) (q e : Int) : LV w h s q e (((w.alloc h.box).alloc (Sp.box 39 s)).alloc (callBox q e)) := by
  have a2 := heap_alloc_new (w.alloc h.box) (Sp.box 39 s)
  have a3 := heap_alloc_new ((w.alloc h.box).alloc (Sp.box 39 s)) (callBox q e)
  rw [show (w.alloc h.box).heap.size = w.heap.size + 1 by simp] at a2
  rw [show ((w.alloc h.box).alloc (Sp.box 39 s)).heap.size = w.heap.size + 2 by simp] at a3
  have f3 := Fr.alloc ((w.alloc h.box).alloc (Sp.box 39 s)) (callBox q e) []
  exact ⟨((Fr.alloc _ _ []).trans (Fr.alloc _ _ [])).trans f3, ((HB.new w h).fr (Fr.alloc _ _ [])).fr f3, f3.heap a2 (by simp), a3⟩
/-- What the last region reads. -/
def E9 (V : World) (m bc bd : Nat) (h : Ho) (s : Sp) (q e : Int) (c d : Ca) (a : World) : Prop := Fr V a [] ∧
  (a.cell? ⟨m, 0, none⟩ = some (.int .i64 h.c) ∧ a.cell? ⟨m, 1, none⟩ = some (.int .i64 h.f) ∧ a.cell? ⟨m, 2, none⟩ = some (.int .i64 h.s) ∧ a.cell? ⟨m, 3, none⟩ = some (.int .i64 h.d)) ∧
  (a.cell? ⟨bc, 0, none⟩ = some (.int .i64 c.x.p) ∧ a.cell? ⟨bc, 1, none⟩ = some (.int .i64 c.x.e) ∧ a.cell? ⟨bc, 2, none⟩ = some (.int .i64 c.x.o) ∧ a.cell? ⟨bc, 3, none⟩ = some (.bool c.x.r) ∧ a.cell? ⟨bc, 4, none⟩ = some (.int .i64 c.k)) ∧
  (a.cell? ⟨bd, 0, none⟩ = some (.int .i64 d.x.p) ∧ a.cell? ⟨bd, 1, none⟩ = some (.int .i64 d.x.e) ∧ a.cell? ⟨bd, 2, none⟩ = some (.int .i64 d.x.o) ∧ a.cell? ⟨bd, 3, none⟩ = some (.bool d.x.r) ∧ a.cell? ⟨bd, 4, none⟩ = some (.int .i64 d.k)) ∧
  (a.cell? ⟨m + 1, 0, none⟩ = some (.int .u64 s.c) ∧ a.cell? ⟨m + 1, 1, none⟩ = some (.int .u64 s.u) ∧ a.cell? ⟨m + 1, 2, none⟩ = some (.int .u64 s.d)) ∧
  (a.cell? ⟨m + 2, 0, none⟩ = some (.int .i64 q) ∧ a.cell? ⟨m + 2, 1, none⟩ = some (.int .i64 e))
theorem E9.lasts (V : World) (m bc bd : Nat) (h : Ho) (s : Sp) (q e : Int) (c d : Ca) : Lasts (E9 V m bc bd h s q e c d) := fun _ _ k f =>
  ⟨k.1.trans f, ⟨f.cell k.2.1.1 (by simp), f.cell k.2.1.2.1 (by simp), f.cell k.2.1.2.2.1 (by simp), f.cell k.2.1.2.2.2 (by simp)⟩,
    ⟨f.cell k.2.2.1.1 (by simp), f.cell k.2.2.1.2.1 (by simp), f.cell k.2.2.1.2.2.1 (by simp), f.cell k.2.2.1.2.2.2.1 (by simp), f.cell k.2.2.1.2.2.2.2 (by simp)⟩,
    ⟨f.cell k.2.2.2.1.1 (by simp), f.cell k.2.2.2.1.2.1 (by simp), f.cell k.2.2.2.1.2.2.1 (by simp), f.cell k.2.2.2.1.2.2.2.1 (by simp), f.cell k.2.2.2.1.2.2.2.2 (by simp)⟩,
    ⟨f.cell k.2.2.2.2.1.1 (by simp), f.cell k.2.2.2.2.1.2.1 (by simp), f.cell k.2.2.2.2.1.2.2 (by simp)⟩, f.cell k.2.2.2.2.2.1 (by simp), f.cell k.2.2.2.2.2.2 (by simp)⟩
theorem E9.of {W : World} {h : Ho} {s : Sp} {q e : Int} {bc bd : Nat} {c d : Ca} {a : World} (k : LV W h s q e a) (x : CB a bc c) (y : CB a bd d) : E9 a W.heap.size bc bd h s q e c d a := ⟨Fr.refl _ _, k.h.cells, x.cells, y.cells, arow k.s, two_row k.t⟩
/-- From where it starts, from the level below it. -/
theorem levels_eta {h : Ho} (hk : h.ok) {s : Sp} (ok : s.ok) {q e p r r' : Int} (p0 : 0 ≤ p) (p1 : p ≤ h.top) (m : mayC h.f q e) (H : EtaV h (startC h p) s q e r) (H' : EtaV h ⟨⟨p - p % h.s, 0, 0, false⟩, 0⟩ s q e r') : r = r' + p % h.s := by
  have hs := hk.2.2.1
  have M0 := Int.emod_nonneg p (show h.s ≠ 0 by omega)
  have M1 := Int.emod_lt_of_pos p (show 0 < h.s by omega)
  have c := Int.mul_ediv_add_emod p h.s
  have hq : 0 ≤ h.s * (p / h.s) := Int.mul_nonneg (by omega) (Int.ediv_nonneg p0 (by omega))
  have lv : h.lev (p - p % h.s) := by
    refine ⟨⟨hk, by omega, by omega⟩, ?_⟩
    rw [show p - p % h.s = h.s * (p / h.s) by omega]
    exact Int.mul_emod_right _ _
  rcases H' with ⟨R', _, n, a, _, _, rfl⟩ | ⟨k, _⟩
  · have L := level_eta hk (Sp.put_ok ok q e) (q := q) (e := e) (n := n) (p % h.s).toNat p 0 p0 p1 (by omega) (.inl rfl) (by rw [show p - (((p % h.s).toNat : Nat) : Int) = p - p % h.s by omega]; exact a)
    have S : startC h p = ⟨⟨p, if (p % h.s).toNat = 0 then 0 else 0, 0, decide (0 < (p % h.s).toNat)⟩, 0⟩ := by
      unfold startC
      rw [ite_self, ← decide_not]
      congr 2
      exact decide_eq_decide.2 ⟨fun g => Decidable.by_contra fun z => g ⟨⟨hk, p0, p1⟩, by omega⟩, fun g l => by have := l.2; omega⟩
    rw [← S] at L
    rcases H with ⟨_, _, n', b, _, _, rfl⟩ | ⟨k, _⟩
    · have := b.one L
      omega
    · exact absurd ⟨start_right hk p0 p1, m⟩ k
  · exact absurd ⟨lev_right hk lv (Int.le_refl 0) (by have := hk.2.2.2; omega), m⟩ k

set_option maxHeartbeats 4000000 in
set_option maxRecDepth 100000 in
theorem elevels_true (h : Ho) (k1 : Int) (s : Sp) (q e : Int) (a10 : -9223372036854775808 ≤ k1) (a11 : k1 ≤ 9223372036854775807) (ok : s.ok) (w : World) (hT : Tz w) :
    Calls Tryd.prog 4 #[h.v, .int .i64 k1, s.v, callV q e] w fun x w' => x = .returned (.bool true) ∧ Fr w w' [] := by
  have TB := Lib.hid (LV.new w h s q e)
  have HT := Lib.hid hT
  by_cases hk : h.ok
  · have V := Lib.hid (fun W => valid_any h W true (decide_eq_true hk).symm)
    have TO := Lib.hid (fun W => top_any h W h.top (by rw [Ho.topR, if_pos hk]))
    have hs := hk.2.2.1
    have hd := hk.2.2.2
    have hr := Ho.range hk
    have NU := Lib.hid (fun W => numberTo_any k1 (h.top + 1) W (by omega) (by omega) a10 a11)
    have P0 := Int.emod_nonneg k1 (show h.top + 1 ≠ 0 by omega)
    have P1 := Int.emod_lt_of_pos k1 (show 0 < h.top + 1 by omega)
    obtain ⟨pos, hpos⟩ : ∃ pos, k1 % (h.top + 1) = pos := ⟨_, rfl⟩
    rw [hpos] at NU P0 P1
    clear hpos a10 a11
    have hw1 : IntKind.i64.wrap (h.top + 1) = h.top + 1 := IntWalk.i64_in _ (by omega)
    obtain ⟨r0, hr0⟩ : ∃ r0, r0 = !decide (h.lev pos) := ⟨_, rfl⟩
    have hst0 : startC h pos = ⟨⟨pos, 0, 0, r0⟩, 0⟩ := by rw [startC, hr0]
    have SA := Lib.hid (fun W => cstart_any h pos W hk P0 (by omega) ⟨⟨pos, 0, 0, r0⟩, 0⟩ hst0.symm)
    have M0 := Int.emod_nonneg pos (show h.s ≠ 0 by omega)
    have M1 := Int.emod_lt_of_pos pos (show 0 < h.s by omega)
    have cq := Int.mul_ediv_add_emod pos h.s
    have hq0 : 0 ≤ pos / h.s := Int.ediv_nonneg P0 (by omega)
    have hq : 0 ≤ h.s * (pos / h.s) := Int.mul_nonneg (by omega) hq0
    have hqs : pos / h.s ≤ h.s * (pos / h.s) := by
      have := Int.mul_le_mul_of_nonneg_right (show (1 : Int) ≤ h.s by omega) hq0
      omega
    obtain ⟨y, hy⟩ : ∃ y, y = pos / h.s := ⟨_, rfl⟩
    obtain ⟨p, hp⟩ : ∃ p, p = pos - pos % h.s := ⟨_, rfl⟩
    have W1 : IntKind.i64.wrap (pos.tdiv h.s) = y := by
      rw [Int.tdiv_eq_ediv_of_nonneg P0, ← hy]; exact IntWalk.i64_in _ (by omega)
    have W2 : IntKind.i64.wrap (y * h.s) = p := by
      rw [hy, Int.mul_comm, hp, show pos - pos % h.s = h.s * (pos / h.s) by omega]; exact IntWalk.i64_in _ (by omega)
    have lv : h.lev p := by
      refine ⟨⟨hk, by omega, by omega⟩, ?_⟩
      rw [hp, show pos - pos % h.s = h.s * (pos / h.s) by omega]
      exact Int.mul_emod_right _ _
    have SB := Lib.hid (fun W => cstart_any h p W hk lv.1.2.1 lv.1.2.2 ⟨⟨p, 0, 0, false⟩, 0⟩ (start_lev hk lv).symm)
    obtain ⟨bm, hbm⟩ : ∃ b, b = decide (mayC h.f q e) := ⟨_, rfl⟩
    have MA := Lib.hid (fun W => dmay_any h.f q e hk.2.1.1 hk.2.1.2 W bm hbm)
    obtain ⟨r, H⟩ := EtaV.some h (startC h pos) ok q e
    obtain ⟨r', H'⟩ := EtaV.some h ⟨⟨p, 0, 0, false⟩, 0⟩ ok q e
    have HR : Hid (bm = true → r = r' + pos % h.s) := by
      refine Lib.hid fun b => ?_
      rw [hbm, decide_eq_true_iff] at b
      rw [hp] at H'
      exact levels_eta hk ok P0 (by omega) b H H'
    obtain ⟨n, hn⟩ : ∃ n, n = pos % h.s := ⟨_, rfl⟩
    have W3 : pos.tmod h.s = n := by rw [Int.tmod_eq_emod_of_nonneg P0, hn]
    have W4 : IntKind.i64.wrap n = n := IntWalk.i64_in _ (by omega)
    have W5 : IntKind.i64.wrap (r' + n) = r' + n := IntWalk.i64_in _ (by have := H'.range; omega)
    rw [← hn] at HR
    rw [hst0] at H
    have OF := Lib.hid (fun W hT => eta_any h ⟨⟨pos, 0, 0, r0⟩, 0⟩ s q e W hk ok hT (by decide : (0 : Int) ≤ 9223372036854775807) r H)
    have OG := Lib.hid (fun W hT => eta_any h ⟨⟨p, 0, 0, false⟩, 0⟩ s q e W hk ok hT (by decide : (0 : Int) ≤ 9223372036854775807) r' H')
    have hne : ¬ h.s = 0 := by omega
    have HP0 := P0
    clear hT hk H H' hbm hr hs hd P1 M0 M1 cq hq hqs hq0 hy hp lv hst0 hr0 hn ok
    obtain ⟨t, ht⟩ : ∃ t, t = h.top := ⟨_, rfl⟩
    rw [← ht] at *
    clear ht
    obtain ⟨hc, hfl, hs, hd⟩ := h
    obtain ⟨sp, su, sd⟩ := s
    dsimp only [Ho.v, Ho.box, Ca.v, Ca.box, Sp.v, Sp.box, callV, callBox] at *
    go_enter Tryd.func4, Tryd.ntmps4
    go_wp2_with fail
    generalize World.alloc (World.alloc (World.alloc w _) _) _ = w0 at *
    have Z0 := Lib.hid (HT.out.fr TB.out.f)
    with_reducible refine (efirst_any _ Z0.out).mono ?_
    rintro v w1 ⟨rfl, hf⟩
    have T1 := Lib.hid (TB.out.fr hf)
    clear hf TB Z0
    obtain ⟨i0, i1, i2, i3⟩ := T1.out.h.cells
    dsimp only at i0 i1 i2 i3
    go_wp2_with fail
    with_reducible refine (V.out _).mono ?_
    rintro v w2 ⟨rfl, hf⟩
    have T2 := Lib.hid (T1.out.fr hf)
    clear hf i0 i1 i2 i3 T1
    obtain ⟨i0, i1, i2, i3⟩ := T2.out.h.cells
    obtain ⟨t0, t1⟩ := two_row T2.out.t
    dsimp only at i0 i1 i2 i3
    go_wp2_with fail
    with_reducible refine (MA.out _).mono ?_
    rintro v w3 ⟨rfl, hf⟩
    have T3 := Lib.hid (T2.out.fr hf)
    clear hf i0 i1 i2 i3 t0 t1 T2 MA V
    cases bm with
    | false =>
      clear HR W1 W2 W3 W4 W5
      go_wp2
      go_ret
      exact ⟨rfl, T3.out.f⟩
    | true =>
      have h1 := HR.out (by trivial)
      subst h1
      clear HR
      obtain ⟨i0, i1, i2, i3⟩ := T3.out.h.cells
      dsimp only at i0 i1 i2 i3
      go_wp2_with fail
      with_reducible refine (TO.out _).mono ?_
      rintro v w4 ⟨rfl, hf⟩
      have T4 := Lib.hid (T3.out.fr hf)
      clear hf i0 i1 i2 i3 T3 TO
      go_wp2_with fail
      with_reducible refine (NU.out _).mono ?_
      rintro v w5 ⟨rfl, rfl⟩
      clear hw1 NU
      obtain ⟨i0, i1, i2, i3⟩ := T4.out.h.cells
      dsimp only at i0 i1 i2 i3
      go_wp2_with fail
      with_reducible refine (SA.out _).mono ?_
      rintro v w5 ⟨rfl, hf⟩
      have T5 := Lib.hid ((T4.out.fr hf).fr (Fr.alloc w5 (Ca.box ⟨⟨pos, 0, 0, r0⟩, 0⟩) []))
      have C5 := Lib.hid (CB.new w5 ⟨⟨pos, 0, 0, r0⟩, 0⟩)
      have L5 := Lib.hid (Nat.lt_of_lt_of_le (size_of_row T4.out.t) hf.size)
      clear hf i0 i1 i2 i3 T4 SA
      dsimp only [Ca.box] at T5 C5
      go_upto_region 8 with fail
      obtain ⟨bc, hbc⟩ : ∃ b, w5.heap.size = b := ⟨_, rfl⟩
      rw [hbc] at C5 L5
      rw [hbc]
      clear hbc
      generalize World.alloc w5 _ = w6 at *
      refine wp_region_noPanic ?_
      refine wp_region_mix (M := F4 w6 w.heap.size ⟨hc, hfl, hs, hd⟩) (fun i => match i with | 12 => some (ptrTo, zCa.box) | _ => none) [11] w6.heap.size 13 (by kernel_rfl) (by kernel_rfl) (by kernel_rfl) (F4.lasts _ _ _) F4.size (F4.lasts _ _ _ _ _ (F4.of (Fr.refl _ _) T5.out.h) (Fr.drew _ [])) ?_
      refine wpMixU_take (i := 0) (oi := _) (v := ?mv1) (by decide) (by kernel_rfl) (by simp only [List.getElem?_toArray, List.getElem?_cons_zero]; rfl) (by rfl) (by kernel_rfl) (by kernel_rfl) (by kernel_rfl) (by rfl) ?my1 ?mr1
      case my1 => (intro M' hst him w hM; have hSw := him w hM; (try dsimp only [F4] at hSw); go_simp; refine Came.value ?_ hM; with_reducible rfl)
      try simp only [Act.put, List.setIfInBounds_toArray, List.set_cons_zero, List.set_cons_succ]
      refine wpMixU_take (i := 1) (oi := _) (v := ?mv2) (by decide) (by kernel_rfl) (by simp only [List.getElem?_toArray, List.getElem?_cons_zero, List.getElem?_cons_succ]; rfl) (by rfl) (by kernel_rfl) (by kernel_rfl) (by kernel_rfl) (by rfl) ?my2 ?mr2
      case my2 => (intro M' hst him w hM; have hSw := him w hM; (try dsimp only [F4] at hSw); go_simp; refine Came.value ?_ hM; with_reducible rfl)
      try simp only [Act.put, List.setIfInBounds_toArray, List.set_cons_zero, List.set_cons_succ]
      refine wpMixU_take (i := 2) (oi := _) (v := ?mv3) (by decide) (by kernel_rfl) (by simp only [List.getElem?_toArray, List.getElem?_cons_zero, List.getElem?_cons_succ]; rfl) (by rfl) (by kernel_rfl) (by kernel_rfl) (by kernel_rfl) (by rfl) ?my3 ?mr3
      case my3 => (intro M' hst him w hM; have hSw := him w hM; (try dsimp only [F4] at hSw); go_simp; refine Came.value ?_ hM; with_reducible rfl)
      try simp only [Act.put, List.setIfInBounds_toArray, List.set_cons_zero, List.set_cons_succ]
      refine wpMixU_take (i := 3) (oi := _) (v := ?mv4) (by decide) (by kernel_rfl) (by simp only [List.getElem?_toArray, List.getElem?_cons_zero, List.getElem?_cons_succ]; rfl) (by rfl) (by kernel_rfl) (by kernel_rfl) (by kernel_rfl) (by rfl) ?my4 ?mr4
      case my4 => (intro M' hst him w hM; have hSw := him w hM; (try dsimp only [F4] at hSw); go_simp; refine Came.value ?_ hM; with_reducible rfl)
      try simp only [Act.put, List.setIfInBounds_toArray, List.set_cons_zero, List.set_cons_succ]
      refine wpMixU_take (i := 4) (oi := _) (v := ?mv5) (by decide) (by kernel_rfl) (by simp only [List.getElem?_toArray, List.getElem?_cons_zero, List.getElem?_cons_succ]; rfl) (by rfl) (by kernel_rfl) (by kernel_rfl) (by kernel_rfl) (by rfl) ?my5 ?mr5
      case my5 => (intro M' hst him w hM; have hSw := him w hM; (try dsimp only [F4] at hSw); go_simp; refine Came.value ?_ hM; with_reducible rfl)
      try simp only [Act.put, List.setIfInBounds_toArray, List.set_cons_zero, List.set_cons_succ]
      refine wpMixU_take (i := 5) (oi := _) (v := ?mv6) (by decide) (by kernel_rfl) (by simp only [List.getElem?_toArray, List.getElem?_cons_zero, List.getElem?_cons_succ]; rfl) (by rfl) (by kernel_rfl) (by kernel_rfl) (by kernel_rfl) (by rfl) ?my6 ?mr6
      case my6 => (intro M' hst him w hM; have hSw := him w hM; (try dsimp only [F4] at hSw); go_simp; refine Came.value ?_ hM; with_reducible rfl)
      try simp only [Act.put, List.setIfInBounds_toArray, List.set_cons_zero, List.set_cons_succ]
      refine wpMixU_take (i := 6) (oi := _) (v := ?mv7) (by decide) (by kernel_rfl) (by simp only [List.getElem?_toArray, List.getElem?_cons_zero, List.getElem?_cons_succ]; rfl) (by rfl) (by kernel_rfl) (by kernel_rfl) (by kernel_rfl) (by rfl) ?my7 ?mr7
      case my7 => (intro M' hst him w hM; have hSw := him w hM; (try dsimp only [F4] at hSw); go_simp; refine Came.value ?_ hM; with_reducible rfl)
      try simp only [Act.put, List.setIfInBounds_toArray, List.set_cons_zero, List.set_cons_succ]
      refine wpMixU_take (i := 7) (oi := _) (v := ?mv8) (by decide) (by kernel_rfl) (by simp only [List.getElem?_toArray, List.getElem?_cons_zero, List.getElem?_cons_succ]; rfl) (by rfl) (by kernel_rfl) (by kernel_rfl) (by kernel_rfl) (by rfl) ?my8 ?mr8
      case my8 => (intro M' hst him w hM; have hSw := him w hM; (try dsimp only [F4] at hSw); go_simp; refine Came.value ?_ hM; with_reducible rfl)
      try simp only [Act.put, List.setIfInBounds_toArray, List.set_cons_zero, List.set_cons_succ]
      refine wpMixU_take (i := 8) (oi := _) (v := ?mv9) (by decide) (by kernel_rfl) (by simp only [List.getElem?_toArray, List.getElem?_cons_zero, List.getElem?_cons_succ]; rfl) (by rfl) (by kernel_rfl) (by kernel_rfl) (by kernel_rfl) (by rfl) ?my9 ?mr9
      case my9 => (intro M' hst him w hM; have hSw := him w hM; (try dsimp only [F4] at hSw); go_simp; exact Came.call ((SB.out w).mono fun e w' ⟨he, hf⟩ => ⟨he, hst _ _ hM hf⟩) (by with_reducible rfl))
      try simp only [Act.put, List.setIfInBounds_toArray, List.set_cons_zero, List.set_cons_succ]
      refine wpMixU_take (i := 9) (oi := _) (v := ?mv10) (by decide) (by kernel_rfl) (by simp only [List.getElem?_toArray, List.getElem?_cons_zero, List.getElem?_cons_succ]; rfl) (by rfl) (by kernel_rfl) (by kernel_rfl) (by kernel_rfl) (by rfl) ?my10 ?mr10
      case my10 => (intro M' hst him w hM; have hSw := him w hM; (try dsimp only [F4] at hSw); go_simp; refine Came.value ?_ hM; with_reducible rfl)
      try simp only [Act.put, List.setIfInBounds_toArray, List.set_cons_zero, List.set_cons_succ]
      refine wpMixU_take (i := 10) (oi := _) (v := ?mv11) (by decide) (by kernel_rfl) (by simp only [List.getElem?_toArray, List.getElem?_cons_zero, List.getElem?_cons_succ]; rfl) (by rfl) (by kernel_rfl) (by kernel_rfl) (by kernel_rfl) (by rfl) ?my11 ?mr11
      case my11 => (intro M' hst him w hM; have hSw := him w hM; (try dsimp only [F4] at hSw); go_simp; refine Came.value ?_ hM; with_reducible rfl)
      try simp only [Act.put, List.setIfInBounds_toArray, List.set_cons_zero, List.set_cons_succ]
      refine wpMixU_pure (i := 11) (oi := _) (v := ?mv12) (by decide) (by kernel_rfl) (by simp only [List.getElem?_toArray, List.getElem?_cons_zero, List.getElem?_cons_succ]; rfl) (fun _ _ _ _ h => (h : False).elim) (by kernel_rfl) (by kernel_rfl) (by kernel_rfl) (by rfl) ?my12 ?mr12
      case my12 => (intro w; go_simp; try with_reducible rfl)
      try simp only [Act.put, List.setIfInBounds_toArray, List.set_cons_zero, List.set_cons_succ]
      refine wpMixU_new (i := 12) (oi := _) [12] (by decide) (by kernel_rfl) (by simp only [List.getElem?_toArray, List.getElem?_cons_zero, List.getElem?_cons_succ]; rfl) (by rfl) (by kernel_rfl) (by kernel_rfl) (by kernel_rfl) (by kernel_rfl) (by kernel_rfl) (by kernel_rfl) (by rfl) ?my13 ?mr13
      case my13 => (intro w; go_simp; first | done | rfl | exact ⟨rfl, rfl⟩)
      intro p12
      try simp only [ptrTo, oneTo]
      try simp only [Act.put, List.setIfInBounds_toArray, List.set_cons_zero, List.set_cons_succ]
      refine wpMixU_tail (fun _ => True) (by kernel_rfl) (fun _ _ => trivial) ?_
      intro w7 hM
      have S7 := Lib.hid (show w.heap.size + 2 < p12 ∧ bc < p12 from ⟨Nat.lt_of_lt_of_le (size_of_row T5.out.t) hM.2.1, Nat.lt_of_lt_of_le (size_of_row C5.out) hM.2.1⟩)
      have T7 := Lib.hid (T5.out.fr hM.1.1)
      have C7 := Lib.hid (C5.out.fr hM.1.1 (by simp))
      have D7 := Lib.hid (show CB w7 p12 zCa from hM.2.2)
      clear hM T5 C5
      have T6 := Lib.hid (T7.out.car S7.out.1 ⟨⟨p, 0, 0, false⟩, 0⟩)
      have C6 := Lib.hid (C7.out.fr (carSet_fr w7 p12 ⟨⟨p, 0, 0, false⟩, 0⟩) (by have := S7.out.2; simp; omega))
      have D6 := Lib.hid (D7.out.set ⟨⟨p, 0, 0, false⟩, 0⟩)
      obtain ⟨r0', r1, r2, r3, r4⟩ := D7.out.cells
      have y0 := D7.out.fz 0
      have y1 := D7.out.fz 1
      have y2 := D7.out.fz 2
      have y3 := D7.out.fz 3
      have y4 := D7.out.fz 4
      dsimp only [zCa, carSet] at r0' r1 r2 r3 r4 T6 C6 D6
      refine wpAnyH_ready (rs := [13]) (by kernel_rfl) (by simp) ?_
      refine AllReadyH.cons (o := _) rfl (fun K hK => ?_) AllReadyH.nil
      go_simp
      refine hK.out _ _ trivial (fun hHeld => ?_)
      clear hK K
      try simp only [Act.put, List.setIfInBounds_toArray, List.set_cons_zero, List.set_cons_succ]
      refine wpAnyH_take (i := 14) (oi := _) (v := ?fv14t0n14) (by simp only [List.getElem?_toArray, List.getElem?_cons_zero, List.getElem?_cons_succ]; rfl) (by kernel_rfl) (by kernel_rfl) (by kernel_rfl) (fun _ _ _ h => h) (Or.inl ⟨by rfl, ?fy14t0n14⟩) (by assumption) ?fr14t0n14
      case fy14t0n14 => (intro w hSw; (try dsimp only at hSw); go_simp; try with_reducible rfl)
      try simp only [Act.put, List.setIfInBounds_toArray, List.set_cons_zero, List.set_cons_succ]
      refine wpAnyH_done (by kernel_rfl) ?_ _
      refine NoPanic.normal ?_
      clear hHeld
      generalize World.setCell (World.setCell (World.setCell (World.setCell (World.setCell w7 _ _) _ _) _ _) _ _) _ _ = w8 at *
      clear r0' r1 r2 r3 r4 y0 y1 y2 y3 y4 T7 C7 D7 SB W1 W2
      go_wp2_with fail
      have D8 := Lib.hid (E9.lasts _ _ _ _ _ _ _ _ _ _ _ _ (E9.of T6.out C6.out D6.out) (Fr.drew w8 []))
      refine wp_region_det (S := E9 w8 w.heap.size bc p12 ⟨hc, hfl, hs, hd⟩ ⟨sp, su, sd⟩ q e ⟨⟨pos, 0, 0, r0⟩, 0⟩ ⟨⟨p, 0, 0, false⟩, 0⟩) (by kernel_rfl) D8.out ?_
      refine wpDet_take (i := 0) (oi := _) (v := ?dv15) (by simp only [List.getElem?_toArray, List.getElem?_cons_zero]; rfl) (by kernel_rfl) (by kernel_rfl) (by kernel_rfl) (Or.inl ⟨by rfl, ?dy15⟩) ?dr15
      case dy15 => (intro w hSw; have hS0 := hSw; (try dsimp only [E9] at hSw); go_simp; refine Came.value ?_ hS0; with_reducible rfl)
      try simp only [Act.put, List.setIfInBounds_toArray, List.set_cons_zero, List.set_cons_succ]
      refine wpDet_take (i := 1) (oi := _) (v := ?dv16) (by simp only [List.getElem?_toArray, List.getElem?_cons_zero, List.getElem?_cons_succ]; rfl) (by kernel_rfl) (by kernel_rfl) (by kernel_rfl) (Or.inl ⟨by rfl, ?dy16⟩) ?dr16
      case dy16 => (intro w hSw; have hS0 := hSw; (try dsimp only [E9] at hSw); go_simp; refine Came.value ?_ hS0; with_reducible rfl)
      try simp only [Act.put, List.setIfInBounds_toArray, List.set_cons_zero, List.set_cons_succ]
      refine wpDet_take (i := 2) (oi := _) (v := ?dv17) (by simp only [List.getElem?_toArray, List.getElem?_cons_zero, List.getElem?_cons_succ]; rfl) (by kernel_rfl) (by kernel_rfl) (by kernel_rfl) (Or.inl ⟨by rfl, ?dy17⟩) ?dr17
      case dy17 => (intro w hSw; have hS0 := hSw; (try dsimp only [E9] at hSw); go_simp; refine Came.value ?_ hS0; with_reducible rfl)
      try simp only [Act.put, List.setIfInBounds_toArray, List.set_cons_zero, List.set_cons_succ]
      refine wpDet_take (i := 3) (oi := _) (v := ?dv18) (by simp only [List.getElem?_toArray, List.getElem?_cons_zero, List.getElem?_cons_succ]; rfl) (by kernel_rfl) (by kernel_rfl) (by kernel_rfl) (Or.inl ⟨by rfl, ?dy18⟩) ?dr18
      case dy18 => (intro w hSw; have hS0 := hSw; (try dsimp only [E9] at hSw); go_simp; refine Came.value ?_ hS0; with_reducible rfl)
      try simp only [Act.put, List.setIfInBounds_toArray, List.set_cons_zero, List.set_cons_succ]
      refine wpDet_take (i := 4) (oi := _) (v := ?dv19) (by simp only [List.getElem?_toArray, List.getElem?_cons_zero, List.getElem?_cons_succ]; rfl) (by kernel_rfl) (by kernel_rfl) (by kernel_rfl) (Or.inl ⟨by rfl, ?dy19⟩) ?dr19
      case dy19 => (intro w hSw; have hS0 := hSw; (try dsimp only [E9] at hSw); go_simp; refine Came.value ?_ hS0; with_reducible rfl)
      try simp only [Act.put, List.setIfInBounds_toArray, List.set_cons_zero, List.set_cons_succ]
      refine wpDet_take (i := 5) (oi := _) (v := ?dv20) (by simp only [List.getElem?_toArray, List.getElem?_cons_zero, List.getElem?_cons_succ]; rfl) (by kernel_rfl) (by kernel_rfl) (by kernel_rfl) (Or.inl ⟨by rfl, ?dy20⟩) ?dr20
      case dy20 => (intro w hSw; have hS0 := hSw; (try dsimp only [E9] at hSw); go_simp; refine Came.value ?_ hS0; with_reducible rfl)
      try simp only [Act.put, List.setIfInBounds_toArray, List.set_cons_zero, List.set_cons_succ]
      refine wpDet_take (i := 6) (oi := _) (v := ?dv21) (by simp only [List.getElem?_toArray, List.getElem?_cons_zero, List.getElem?_cons_succ]; rfl) (by kernel_rfl) (by kernel_rfl) (by kernel_rfl) (Or.inl ⟨by rfl, ?dy21⟩) ?dr21
      case dy21 => (intro w hSw; have hS0 := hSw; (try dsimp only [E9] at hSw); go_simp; refine Came.value ?_ hS0; with_reducible rfl)
      try simp only [Act.put, List.setIfInBounds_toArray, List.set_cons_zero, List.set_cons_succ]
      refine wpDet_take (i := 7) (oi := _) (v := ?dv22) (by simp only [List.getElem?_toArray, List.getElem?_cons_zero, List.getElem?_cons_succ]; rfl) (by kernel_rfl) (by kernel_rfl) (by kernel_rfl) (Or.inl ⟨by rfl, ?dy22⟩) ?dr22
      case dy22 => (intro w hSw; have hS0 := hSw; (try dsimp only [E9] at hSw); go_simp; refine Came.value ?_ hS0; with_reducible rfl)
      try simp only [Act.put, List.setIfInBounds_toArray, List.set_cons_zero, List.set_cons_succ]
      refine wpDet_take (i := 8) (oi := _) (v := ?dv23) (by simp only [List.getElem?_toArray, List.getElem?_cons_zero, List.getElem?_cons_succ]; rfl) (by kernel_rfl) (by kernel_rfl) (by kernel_rfl) (Or.inl ⟨by rfl, ?dy23⟩) ?dr23
      case dy23 => (intro w hSw; have hS0 := hSw; (try dsimp only [E9] at hSw); go_simp; refine Came.value ?_ hS0; with_reducible rfl)
      try simp only [Act.put, List.setIfInBounds_toArray, List.set_cons_zero, List.set_cons_succ]
      refine wpDet_take (i := 9) (oi := _) (v := ?dv24) (by simp only [List.getElem?_toArray, List.getElem?_cons_zero, List.getElem?_cons_succ]; rfl) (by kernel_rfl) (by kernel_rfl) (by kernel_rfl) (Or.inl ⟨by rfl, ?dy24⟩) ?dr24
      case dy24 => (intro w hSw; have hS0 := hSw; (try dsimp only [E9] at hSw); go_simp; refine Came.value ?_ hS0; with_reducible rfl)
      try simp only [Act.put, List.setIfInBounds_toArray, List.set_cons_zero, List.set_cons_succ]
      refine wpDet_take (i := 10) (oi := _) (v := ?dv25) (by simp only [List.getElem?_toArray, List.getElem?_cons_zero, List.getElem?_cons_succ]; rfl) (by kernel_rfl) (by kernel_rfl) (by kernel_rfl) (Or.inl ⟨by rfl, ?dy25⟩) ?dr25
      case dy25 => (intro w hSw; have hS0 := hSw; (try dsimp only [E9] at hSw); go_simp; refine Came.value ?_ hS0; with_reducible rfl)
      try simp only [Act.put, List.setIfInBounds_toArray, List.set_cons_zero, List.set_cons_succ]
      refine wpDet_take (i := 11) (oi := _) (v := ?dv26) (by simp only [List.getElem?_toArray, List.getElem?_cons_zero, List.getElem?_cons_succ]; rfl) (by kernel_rfl) (by kernel_rfl) (by kernel_rfl) (Or.inl ⟨by rfl, ?dy26⟩) ?dr26
      case dy26 => (intro w hSw; have hS0 := hSw; (try dsimp only [E9] at hSw); go_simp; refine Came.value ?_ hS0; with_reducible rfl)
      try simp only [Act.put, List.setIfInBounds_toArray, List.set_cons_zero, List.set_cons_succ]
      refine wpDet_take (i := 13) (oi := _) (v := ?dv27) (by simp only [List.getElem?_toArray, List.getElem?_cons_zero, List.getElem?_cons_succ]; rfl) (by kernel_rfl) (by kernel_rfl) (by kernel_rfl) (Or.inl ⟨by rfl, ?dy27⟩) ?dr27
      case dy27 => (intro w hSw; have hS0 := hSw; (try dsimp only [E9] at hSw); go_simp; refine Came.value ?_ hS0; with_reducible rfl)
      try simp only [Act.put, List.setIfInBounds_toArray, List.set_cons_zero, List.set_cons_succ]
      refine wpDet_take (i := 14) (oi := _) (v := ?dv28) (by simp only [List.getElem?_toArray, List.getElem?_cons_zero, List.getElem?_cons_succ]; rfl) (by kernel_rfl) (by kernel_rfl) (by kernel_rfl) (Or.inl ⟨by rfl, ?dy28⟩) ?dr28
      case dy28 => (intro w hSw; have hS0 := hSw; (try dsimp only [E9] at hSw); go_simp; refine Came.value ?_ hS0; with_reducible rfl)
      try simp only [Act.put, List.setIfInBounds_toArray, List.set_cons_zero, List.set_cons_succ]
      refine wpDet_take (i := 15) (oi := _) (v := ?dv29) (by simp only [List.getElem?_toArray, List.getElem?_cons_zero, List.getElem?_cons_succ]; rfl) (by kernel_rfl) (by kernel_rfl) (by kernel_rfl) (Or.inl ⟨by rfl, ?dy29⟩) ?dr29
      case dy29 => (intro w hSw; have hS0 := hSw; (try dsimp only [E9] at hSw); go_simp; refine Came.value ?_ hS0; with_reducible rfl)
      try simp only [Act.put, List.setIfInBounds_toArray, List.set_cons_zero, List.set_cons_succ]
      refine wpDet_take (i := 16) (oi := _) (v := ?dv30) (by simp only [List.getElem?_toArray, List.getElem?_cons_zero, List.getElem?_cons_succ]; rfl) (by kernel_rfl) (by kernel_rfl) (by kernel_rfl) (Or.inl ⟨by rfl, ?dy30⟩) ?dr30
      case dy30 => (intro w hSw; have hS0 := hSw; (try dsimp only [E9] at hSw); go_simp; refine Came.value ?_ hS0; with_reducible rfl)
      try simp only [Act.put, List.setIfInBounds_toArray, List.set_cons_zero, List.set_cons_succ]
      refine wpDet_take (i := 18) (oi := _) (v := ?dv31) (by simp only [List.getElem?_toArray, List.getElem?_cons_zero, List.getElem?_cons_succ]; rfl) (by kernel_rfl) (by kernel_rfl) (by kernel_rfl) (Or.inl ⟨by rfl, ?dy31⟩) ?dr31
      case dy31 => (intro w hSw; have hS0 := hSw; (try dsimp only [E9] at hSw); go_simp; refine Came.value ?_ hS0; with_reducible rfl)
      try simp only [Act.put, List.setIfInBounds_toArray, List.set_cons_zero, List.set_cons_succ]
      refine wpDet_take (i := 19) (oi := _) (v := ?dv32) (by simp only [List.getElem?_toArray, List.getElem?_cons_zero, List.getElem?_cons_succ]; rfl) (by kernel_rfl) (by kernel_rfl) (by kernel_rfl) (Or.inl ⟨by rfl, ?dy32⟩) ?dr32
      case dy32 => (intro w hSw; have hS0 := hSw; (try dsimp only [E9] at hSw); go_simp; refine Came.value ?_ hS0; with_reducible rfl)
      try simp only [Act.put, List.setIfInBounds_toArray, List.set_cons_zero, List.set_cons_succ]
      refine wpDet_take (i := 20) (oi := _) (v := ?dv33) (by simp only [List.getElem?_toArray, List.getElem?_cons_zero, List.getElem?_cons_succ]; rfl) (by kernel_rfl) (by kernel_rfl) (by kernel_rfl) (Or.inl ⟨by rfl, ?dy33⟩) ?dr33
      case dy33 => (intro w hSw; have hS0 := hSw; (try dsimp only [E9] at hSw); go_simp; refine Came.value ?_ hS0; with_reducible rfl)
      try simp only [Act.put, List.setIfInBounds_toArray, List.set_cons_zero, List.set_cons_succ]
      refine wpDet_take (i := 21) (oi := _) (v := ?dv34) (by simp only [List.getElem?_toArray, List.getElem?_cons_zero, List.getElem?_cons_succ]; rfl) (by kernel_rfl) (by kernel_rfl) (by kernel_rfl) (Or.inl ⟨by rfl, ?dy34⟩) ?dr34
      case dy34 => (intro w hSw; have hS0 := hSw; (try dsimp only [E9] at hSw); go_simp; refine Came.value ?_ hS0; with_reducible rfl)
      try simp only [Act.put, List.setIfInBounds_toArray, List.set_cons_zero, List.set_cons_succ]
      refine wpDet_take (i := 12) (oi := _) (v := ?dv35) (by simp only [List.getElem?_toArray, List.getElem?_cons_zero, List.getElem?_cons_succ]; rfl) (by kernel_rfl) (by kernel_rfl) (by kernel_rfl) (Or.inl ⟨by rfl, ?dy35⟩) ?dr35
      case dy35 => (intro w hSw; go_simp; exact Came.call ((OF.out w (HT.out.fr (T6.out.f.trans hSw.1))).mono fun e w' ⟨he, hf⟩ => ⟨he, E9.lasts _ _ _ _ _ _ _ _ _ _ _ _ hSw hf⟩) (by with_reducible rfl))
      try simp only [Act.put, List.setIfInBounds_toArray, List.set_cons_zero, List.set_cons_succ]
      refine wpDet_take (i := 17) (oi := _) (v := ?dv36) (by simp only [List.getElem?_toArray, List.getElem?_cons_zero, List.getElem?_cons_succ]; rfl) (by kernel_rfl) (by kernel_rfl) (by kernel_rfl) (Or.inl ⟨by rfl, ?dy36⟩) ?dr36
      case dy36 => (intro w hSw; go_simp; exact Came.call ((OG.out w (HT.out.fr (T6.out.f.trans hSw.1))).mono fun e w' ⟨he, hf⟩ => ⟨he, E9.lasts _ _ _ _ _ _ _ _ _ _ _ _ hSw hf⟩) (by with_reducible rfl))
      try simp only [Act.put, List.setIfInBounds_toArray, List.set_cons_zero, List.set_cons_succ]
      refine wpDet_take (i := 22) (oi := _) (v := ?dv37) (by simp only [List.getElem?_toArray, List.getElem?_cons_zero, List.getElem?_cons_succ]; rfl) (by kernel_rfl) (by kernel_rfl) (by kernel_rfl) (Or.inl ⟨by rfl, ?dy37⟩) ?dr37
      case dy37 => (intro w hSw; have hS0 := hSw; (try dsimp only [E9] at hSw); go_simp; refine Came.value ?_ hS0; with_reducible rfl)
      try simp only [Act.put, List.setIfInBounds_toArray, List.set_cons_zero, List.set_cons_succ]
      refine wpDet_take (i := 23) (oi := _) (v := ?dv38) (by simp only [List.getElem?_toArray, List.getElem?_cons_zero, List.getElem?_cons_succ]; rfl) (by kernel_rfl) (by kernel_rfl) (by kernel_rfl) (Or.inl ⟨by rfl, ?dy38⟩) ?dr38
      case dy38 => (intro w hSw; have hS0 := hSw; (try dsimp only [E9] at hSw); go_simp; refine Came.value ?_ hS0; with_reducible rfl)
      try simp only [Act.put, List.setIfInBounds_toArray, List.set_cons_zero, List.set_cons_succ]
      refine wpDet_take (i := 24) (oi := _) (v := ?dv39) (by simp only [List.getElem?_toArray, List.getElem?_cons_zero, List.getElem?_cons_succ]; rfl) (by kernel_rfl) (by kernel_rfl) (by kernel_rfl) (Or.inl ⟨by rfl, ?dy39⟩) ?dr39
      case dy39 => (intro w hSw; have hS0 := hSw; (try dsimp only [E9] at hSw); go_simp; refine Came.value ?_ hS0; with_reducible rfl)
      try simp only [Act.put, List.setIfInBounds_toArray, List.set_cons_zero, List.set_cons_succ]
      refine wpDet_take (i := 25) (oi := _) (v := ?dv40) (by simp only [List.getElem?_toArray, List.getElem?_cons_zero, List.getElem?_cons_succ]; rfl) (by kernel_rfl) (by kernel_rfl) (by kernel_rfl) (Or.inl ⟨by rfl, ?dy40⟩) ?dr40
      case dy40 => (intro w hSw; have hS0 := hSw; (try dsimp only [E9] at hSw); go_simp; refine Came.value ?_ hS0; with_reducible rfl)
      try simp only [Act.put, List.setIfInBounds_toArray, List.set_cons_zero, List.set_cons_succ]
      refine wpDet_done (by kernel_rfl) ?_ _
      rintro w9 hS
      have F9 := Lib.hid (T6.out.f.trans hS.1)
      clear hS D8 T6 C6 D6 OF OG
      go_wp2
      go_ret
      exact ⟨rfl, F9.out⟩
  · have V := Lib.hid (fun W => valid_any h W false (decide_eq_false hk).symm)
    clear hk hT a10 a11 ok
    obtain ⟨hc, hfl, hs, hd⟩ := h
    obtain ⟨sp, su, sd⟩ := s
    dsimp only [Ho.v, Ho.box, Sp.v, Sp.box, callV, callBox] at *
    go_enter Tryd.func4, Tryd.ntmps4
    go_wp2_with fail
    generalize World.alloc (World.alloc (World.alloc w _) _) _ = w0 at *
    have Z0 := Lib.hid (HT.out.fr TB.out.f)
    with_reducible refine (efirst_any _ Z0.out).mono ?_
    rintro v w1 ⟨rfl, hf⟩
    have T1 := Lib.hid (TB.out.fr hf)
    clear hf TB Z0
    obtain ⟨i0, i1, i2, i3⟩ := T1.out.h.cells
    dsimp only at i0 i1 i2 i3
    go_wp2_with fail
    with_reducible refine (V.out _).mono ?_
    rintro v w2 ⟨rfl, hf⟩
    have T2 := Lib.hid (T1.out.fr hf)
    clear hf i0 i1 i2 i3 T1
    go_wp2
    go_ret
    exact ⟨rfl, T2.out.f⟩
theorem elevels_walk (h : Ho) (k1 : Int) (s : Sp) (q e : Int) (a10 : -9223372036854775808 ≤ k1) (a11 : k1 ≤ 9223372036854775807) (ok : s.ok) (W : World) (hT : Tz W) :
    Calls Tryd.prog 4 #[h.v, .int .i64 k1, s.v, callV q e] W fun x w' => x = .returned (.bool true) ∧ W.grownBy w' none :=
  (elevels_true h k1 s q e a10 a11 ok W hT).mono fun _ _ ⟨he, hf⟩ => ⟨he, hf.grown (by simp)⟩
end Go.Proofs.YtdmomnhacijmpaaDoor
