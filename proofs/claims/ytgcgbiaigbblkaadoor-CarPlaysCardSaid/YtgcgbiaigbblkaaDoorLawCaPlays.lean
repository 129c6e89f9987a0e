/- Tick by tick, whatever stops come, a car stays one that may be. -/
import Derived.Test.YtgcgbiaigbblkaaDoorCLaw
import Derived.Test.YtgcgbiaigbblkaaDoorCaStop
import Derived.Test.YtgcgbiaigbblkaaDoorCOpen
namespace Go.Proofs.YtgcgbiaigbblkaaDoor
open Go.RowKit

/-- What a tick of a play reads: a house's, a car's, the stops' cells; a bool's. -/
def F12 (V : World) (m n g j : Nat) (h : Ho) (c : Ca) (s : Sp) (a : World) : Prop := F5 V m n h c a ∧
  a.cell? ⟨g, j, none⟩ = some (.int .u64 s.c) ∧ a.cell? ⟨g, j + 1, none⟩ = some (.int .u64 s.u) ∧ a.cell? ⟨g, j + 2, none⟩ = some (.int .u64 s.d)
theorem F12.lasts (V : World) (m n g j : Nat) (h : Ho) (c : Ca) (s : Sp) : Lasts (F12 V m n g j h c s) := fun _ _ q f =>
  ⟨F5.lasts _ _ _ _ _ _ _ q.1 f, f.cell q.2.1 (by simp), f.cell q.2.2.1 (by simp), f.cell q.2.2.2 (by simp)⟩
theorem F12.size {V : World} {m n g j : Nat} {h : Ho} {c : Ca} {s : Sp} (w : World) (q : F12 V m n g j h c s w) : V.heap.size ≤ w.heap.size := q.1.1.size
def F13 (V : World) (m n g j p i : Nat) (h : Ho) (c : Ca) (s : Sp) (ob : Bool) (a : World) : Prop := F12 V m n g j h c s a ∧ a.cell? ⟨p, i, none⟩ = some (.bool ob)
theorem F13.lasts (V : World) (m n g j p i : Nat) (h : Ho) (c : Ca) (s : Sp) (ob : Bool) : Lasts (F13 V m n g j p i h c s ob) := fun _ _ q f => ⟨F12.lasts _ _ _ _ _ _ _ _ _ _ q.1 f, f.cell q.2 (by simp)⟩
theorem F13.size {V : World} {m n g j p i : Nat} {h : Ho} {c : Ca} {s : Sp} {ob : Bool} (w : World) (q : F13 V m n g j p i h c s ob w) : V.heap.size ≤ w.heap.size := q.1.1.1.size
/-- What is read behind a tick: a house's, a car's, the new car's, the deed's cells. -/
def FP (V : World) (p b m n : Nat) (h : Ho) (c x : Ca) (d : Dn) (a : World) : Prop := F5 V p b h c a ∧
  (a.cell? ⟨m, 0, none⟩ = some (.int .i64 x.x.p) ∧ a.cell? ⟨m, 1, none⟩ = some (.int .i64 x.x.e) ∧ a.cell? ⟨m, 2, none⟩ = some (.int .i64 x.x.o) ∧ a.cell? ⟨m, 3, none⟩ = some (.bool x.x.r) ∧ a.cell? ⟨m, 4, none⟩ = some (.int .i64 x.k)) ∧
  a.cell? ⟨n, 0, none⟩ = some (.bool d.op) ∧ a.cell? ⟨n, 1, none⟩ = some (.bool d.cl) ∧ a.cell? ⟨n, 2, none⟩ = some (.int .i64 d.fl) ∧ a.cell? ⟨n, 4, none⟩ = some (.int .i64 d.mv)
theorem FP.fr {V : World} {p b m n : Nat} {h : Ho} {c x : Ca} {d : Dn} {a a' : World} (q : FP V p b m n h c x d a) (f : Fr a a' []) : FP V p b m n h c x d a' :=
  ⟨F5.lasts _ _ _ _ _ _ _ q.1 f, ⟨f.cell q.2.1.1 (by simp), f.cell q.2.1.2.1 (by simp), f.cell q.2.1.2.2.1 (by simp), f.cell q.2.1.2.2.2.1 (by simp), f.cell q.2.1.2.2.2.2 (by simp)⟩,
    f.cell q.2.2.1 (by simp), f.cell q.2.2.2.1 (by simp), f.cell q.2.2.2.2.1 (by simp), f.cell q.2.2.2.2.2 (by simp)⟩
theorem by_tail {T P : Prop} (f : T → P) (t : T) : P := f t
/-- A house's and a car's boxes, a new car and its deed. -/
structure PL (W V : World) (b m n : Nat) (h : Ho) (c x : Ca) (d : Dn) (a : World) : Prop where
  q : LH W b h c a
  p : PD V m n x d a
theorem PL.fp {W V : World} {b m n : Nat} {h : Ho} {c x : Ca} {d : Dn} {a : World} (q : PL W V b m n h c x d a) : FP a W.heap.size b m n h c x d a :=
  ⟨F5.of (Fr.refl _ _) q.q.h q.q.c, q.p.x.cells, q.p.d.cells.c0, q.p.d.cells.c1, q.p.d.cells.c2, q.p.d.cells.c4⟩
theorem PL.fr {W V : World} {b m n : Nat} {h : Ho} {c x : Ca} {d : Dn} {a a' : World} (q : PL W V b m n h c x d a) (f : Fr a a' []) : PL W V b m n h c x d a' := ⟨q.q.fr f, q.p.fr f⟩
set_option maxHeartbeats 8000000 in
set_option maxRecDepth 100000 in
theorem plays_true (h : Ho) (k1 : Int) (v2 : Value) (l2 : List Sp) (v3 : Value) (l3 : List Bool) (a10 : -9223372036854775808 ≤ k1) (a11 : k1 ≤ 9223372036854775807) (w : World) (h2 : HSs w v2 l2) (h3 : HBs w v3 l3) (hT : Tz w) :
    Calls Tryd.prog 5 #[h.v, .int .i64 k1, v2, v3] w fun x w' => x = .returned (.bool true) ∧ Fr w w' [] := by
  have TB := Lib.hid (LB.new w h)
  have HT := Lib.hid hT
  obtain ⟨okS, a2, cap2, rfl, p2, q2, r2⟩ := h2
  obtain ⟨a3, cap3, rfl, p3, q3, r3⟩ := h3
  unfold maxLen at q2 q3
  by_cases hk : h.ok
  · by_cases hl80 : l2.length ≤ 80 ∧ l3.length ≤ 80
    · have V := Lib.hid (fun W => valid_any h W true (decide_eq_true hk).symm)
      have TO := Lib.hid (fun W => top_any h W h.top (by rw [Ho.topR, if_pos hk]))
      have hr := Ho.range hk
      have NU := Lib.hid (fun W => numberTo_any k1 (h.top + 1) W (by omega) (by omega) a10 a11)
      have P0 := Int.emod_nonneg k1 (show h.top + 1 ≠ 0 by omega)
      have P1 := Int.emod_lt_of_pos k1 (show 0 < h.top + 1 by omega)
      obtain ⟨pos, hpos⟩ : ∃ pos, k1 % (h.top + 1) = pos := ⟨_, rfl⟩
      rw [hpos] at NU P0 P1
      clear hpos a10 a11
      have hw1 : IntKind.i64.wrap (h.top + 1) = h.top + 1 := IntWalk.i64_in _ (by omega)
      obtain ⟨r0, hr0⟩ : ∃ r0, r0 = !decide (h.lev pos) := ⟨_, rfl⟩
      have hst0 : startC h pos = ⟨⟨pos, 0, 0, r0⟩, 0⟩ := by rw [startC, hr0]
      have SA := Lib.hid (fun W => cstart_any h pos W hk P0 (by omega) ⟨⟨pos, 0, 0, r0⟩, 0⟩ hst0.symm)
      have SR0 := start_right hk P0 (show pos ≤ h.top by omega)
      rw [hst0] at SR0
      have R0 := Lib.hid SR0
      have OKS := Lib.hid okS
      have TI := Lib.hid (fun (c : Ca) (s : Sp) (ob : Bool) (ok : s.ok) (hkk : c.k ≤ 9223372036854775807) x d (hx : c.tick h s ob = (x, d)) W hT => ctick_any h c s ob W ok hT hkk x d hx)
      have TF := Lib.hid (fun (c : Ca) (R : RightIs h c) (s : Sp) (ok : s.ok) (ob : Bool) (x : Ca) (d : Dn) (e : c.tick h s ob = (x, d)) => tick_facts R ok ob e)
      have TR := Lib.hid (fun (c : Ca) (R : RightIs h c) (s : Sp) (ok : s.ok) (ob : Bool) => R.tick ok ob)
      have TO' := Lib.hid (fun (c : Ca) (s : Sp) (ok : s.ok) (ob : Bool) => tick_opens h c ok ob)
      have RG := Lib.hid (fun (x : Ca) (R : RightIs h x) W => cright_any h x W true ((right_iff h x).2 R).symm)
      have LE := Lib.hid (fun (p : Int) (l : h.lev p) W => level_any h p W true (decide_eq_true l).symm)
      have FL := Lib.hid (fun (p fl : Int) (e : fl = h.flr p) W => floor_any h p W fl e)
      have RNG := Lib.hid (show h.top ≤ 504 from hr.2)
      clear hst0 hr0 hk hT hr P1 P0 SR0 okS
      obtain ⟨hc, hfl, hs, hd⟩ := h
      dsimp only [Ho.v, Ho.box, Ca.v, Ca.box, Sp.v, Sp.box] at *
      have hlen : decide (80 < (l2.length : Int)) = false := decide_eq_false (by omega)
      have hlen3 : decide (80 < (l3.length : Int)) = false := decide_eq_false (by omega)
      go_enter Tryd.func5, Tryd.ntmps5
      go_wp2_with fail
      have Z0 := Lib.hid (HT.out.fr TB.out.f)
      with_reducible refine (cfirst_any _ Z0.out).mono ?_
      rintro v w1 ⟨rfl, hf⟩
      have T1 := Lib.hid (TB.out.fr hf)
      clear hf TB Z0
      obtain ⟨c0, c1, c2, c3⟩ := T1.out.h.cells
      dsimp only at c0 c1 c2 c3
      go_wp2_with fail
      with_reducible refine (V.out _).mono ?_
      rintro v w2 ⟨rfl, hf⟩
      have T2 := Lib.hid (T1.out.fr hf)
      clear hf c0 c1 c2 c3 T1
      obtain ⟨c0, c1, c2, c3⟩ := T2.out.h.cells
      dsimp only at c0 c1 c2 c3
      go_wp2_with fail
      clear c0 c1 c2 c3
      refine wp_region_noPanic ?_
      refine wp_region_mix (M := F4 w2 w.heap.size ⟨hc, hfl, hs, hd⟩) (fun i => match i with | 10 => some (ptrTo, zCa.box) | _ => none) [9] w2.heap.size 11 (by as_aux_lemma => kernel_rfl) (by as_aux_lemma => kernel_rfl) (by as_aux_lemma => kernel_rfl) (F4.lasts _ _ _) F4.size (F4.lasts _ _ _ _ _ (F4.of (Fr.refl _ _) T2.out.h) (Fr.drew _ [])) ?_
      refine wpMixU_take (i := 0) (v := ?mv1) (by decide) (by as_aux_lemma => kernel_rfl) (by as_aux_lemma => (simp only [List.getElem?_toArray, List.getElem?_cons_zero]; rfl)) (by rfl) (by as_aux_lemma => kernel_rfl) (by as_aux_lemma => kernel_rfl) (by as_aux_lemma => kernel_rfl) (by rfl) ?my1 ?mr1
      case my1 => (intro M' hst him w hM; have hSw := him w hM; (try dsimp only [F4] at hSw); go_simp; refine Came.value ?_ hM; with_reducible rfl)
      try simp only [Act.put, List.setIfInBounds_toArray, List.set_cons_zero, List.set_cons_succ]
      refine wpMixU_take (i := 1) (v := ?mv2) (by decide) (by as_aux_lemma => kernel_rfl) (by as_aux_lemma => (simp only [List.getElem?_toArray, List.getElem?_cons_zero, List.getElem?_cons_succ]; rfl)) (by rfl) (by as_aux_lemma => kernel_rfl) (by as_aux_lemma => kernel_rfl) (by as_aux_lemma => kernel_rfl) (by rfl) ?my2 ?mr2
      case my2 => (intro M' hst him w hM; have hSw := him w hM; (try dsimp only [F4] at hSw); go_simp; refine Came.value ?_ hM; with_reducible rfl)
      try simp only [Act.put, List.setIfInBounds_toArray, List.set_cons_zero, List.set_cons_succ]
      refine wpMixU_take (i := 2) (v := ?mv3) (by decide) (by as_aux_lemma => kernel_rfl) (by as_aux_lemma => (simp only [List.getElem?_toArray, List.getElem?_cons_zero, List.getElem?_cons_succ]; rfl)) (by rfl) (by as_aux_lemma => kernel_rfl) (by as_aux_lemma => kernel_rfl) (by as_aux_lemma => kernel_rfl) (by rfl) ?my3 ?mr3
      case my3 => (intro M' hst him w hM; have hSw := him w hM; (try dsimp only [F4] at hSw); go_simp; refine Came.value ?_ hM; with_reducible rfl)
      try simp only [Act.put, List.setIfInBounds_toArray, List.set_cons_zero, List.set_cons_succ]
      refine wpMixU_take (i := 3) (v := ?mv4) (by decide) (by as_aux_lemma => kernel_rfl) (by as_aux_lemma => (simp only [List.getElem?_toArray, List.getElem?_cons_zero, List.getElem?_cons_succ]; rfl)) (by rfl) (by as_aux_lemma => kernel_rfl) (by as_aux_lemma => kernel_rfl) (by as_aux_lemma => kernel_rfl) (by rfl) ?my4 ?mr4
      case my4 => (intro M' hst him w hM; have hSw := him w hM; (try dsimp only [F4] at hSw); go_simp; exact Came.call ((TO.out w).mono fun e w' ⟨he, hf⟩ => ⟨he, hst _ _ hM hf⟩) (by with_reducible rfl))
      try simp only [Act.put, List.setIfInBounds_toArray, List.set_cons_zero, List.set_cons_succ]
      refine wpMixU_take (i := 4) (v := ?mv5) (by decide) (by as_aux_lemma => kernel_rfl) (by as_aux_lemma => (simp only [List.getElem?_toArray, List.getElem?_cons_zero, List.getElem?_cons_succ]; rfl)) (by rfl) (by as_aux_lemma => kernel_rfl) (by as_aux_lemma => kernel_rfl) (by as_aux_lemma => kernel_rfl) (by rfl) ?my5 ?mr5
      case my5 => (intro M' hst him w hM; have hSw := him w hM; (try dsimp only [F4] at hSw); go_simp; refine Came.value ?_ hM; with_reducible rfl)
      try simp only [Act.put, List.setIfInBounds_toArray, List.set_cons_zero, List.set_cons_succ]
      refine wpMixU_take (i := 5) (v := ?mv6) (by decide) (by as_aux_lemma => kernel_rfl) (by as_aux_lemma => (simp only [List.getElem?_toArray, List.getElem?_cons_zero, List.getElem?_cons_succ]; rfl)) (by rfl) (by as_aux_lemma => kernel_rfl) (by as_aux_lemma => kernel_rfl) (by as_aux_lemma => kernel_rfl) (by rfl) ?my6 ?mr6
      case my6 => (intro M' hst him w hM; have hSw := him w hM; (try dsimp only [F4] at hSw); go_simp; exact Came.call ((NU.out w).mono fun e w' ⟨he, hf⟩ => ⟨he, hf ▸ hM⟩) (by with_reducible rfl))
      try simp only [Act.put, List.setIfInBounds_toArray, List.set_cons_zero, List.set_cons_succ]
      refine wpMixU_take (i := 6) (v := ?mv7) (by decide) (by as_aux_lemma => kernel_rfl) (by as_aux_lemma => (simp only [List.getElem?_toArray, List.getElem?_cons_zero, List.getElem?_cons_succ]; rfl)) (by rfl) (by as_aux_lemma => kernel_rfl) (by as_aux_lemma => kernel_rfl) (by as_aux_lemma => kernel_rfl) (by rfl) ?my7 ?mr7
      case my7 => (intro M' hst him w hM; have hSw := him w hM; (try dsimp only [F4] at hSw); go_simp; exact Came.call ((SA.out w).mono fun e w' ⟨he, hf⟩ => ⟨he, hst _ _ hM hf⟩) (by with_reducible rfl))
      try simp only [Act.put, List.setIfInBounds_toArray, List.set_cons_zero, List.set_cons_succ]
      refine wpMixU_take (i := 7) (v := ?mv8) (by decide) (by as_aux_lemma => kernel_rfl) (by as_aux_lemma => (simp only [List.getElem?_toArray, List.getElem?_cons_zero, List.getElem?_cons_succ]; rfl)) (by rfl) (by as_aux_lemma => kernel_rfl) (by as_aux_lemma => kernel_rfl) (by as_aux_lemma => kernel_rfl) (by rfl) ?my8 ?mr8
      case my8 => (intro M' hst him w hM; have hSw := him w hM; (try dsimp only [F4] at hSw); go_simp; refine Came.value ?_ hM; with_reducible rfl)
      try simp only [Act.put, List.setIfInBounds_toArray, List.set_cons_zero, List.set_cons_succ]
      refine wpMixU_take (i := 8) (v := ?mv9) (by decide) (by as_aux_lemma => kernel_rfl) (by as_aux_lemma => (simp only [List.getElem?_toArray, List.getElem?_cons_zero, List.getElem?_cons_succ]; rfl)) (by rfl) (by as_aux_lemma => kernel_rfl) (by as_aux_lemma => kernel_rfl) (by as_aux_lemma => kernel_rfl) (by rfl) ?my9 ?mr9
      case my9 => (intro M' hst him w hM; have hSw := him w hM; (try dsimp only [F4] at hSw); go_simp; refine Came.value ?_ hM; with_reducible rfl)
      try simp only [Act.put, List.setIfInBounds_toArray, List.set_cons_zero, List.set_cons_succ]
      refine wpMixU_pure (i := 9) (v := ?mv10) (by decide) (by as_aux_lemma => kernel_rfl) (by as_aux_lemma => (simp only [List.getElem?_toArray, List.getElem?_cons_zero, List.getElem?_cons_succ]; rfl)) (fun _ _ _ _ h => (h : False).elim) (by as_aux_lemma => kernel_rfl) (by as_aux_lemma => kernel_rfl) (by as_aux_lemma => kernel_rfl) (by rfl) ?my10 ?mr10
      case my10 => (intro w; go_simp; try with_reducible rfl)
      try simp only [Act.put, List.setIfInBounds_toArray, List.set_cons_zero, List.set_cons_succ]
      refine wpMixU_new (i := 10) [10] (by decide) (by as_aux_lemma => kernel_rfl) (by as_aux_lemma => (simp only [List.getElem?_toArray, List.getElem?_cons_zero, List.getElem?_cons_succ]; rfl)) (by rfl) (by as_aux_lemma => kernel_rfl) (by as_aux_lemma => kernel_rfl) (by as_aux_lemma => kernel_rfl) (by as_aux_lemma => kernel_rfl) (by as_aux_lemma => kernel_rfl) (by as_aux_lemma => kernel_rfl) (by rfl) ?my11 ?mr11
      case my11 => (intro w; go_simp; first | done | rfl | exact ⟨rfl, rfl⟩)
      intro p10
      try simp only [ptrTo]
      try simp only [Act.put, List.setIfInBounds_toArray, List.set_cons_zero, List.set_cons_succ]
      refine wpMixU_tail (fun _ => True) (by as_aux_lemma => kernel_rfl) (fun _ _ => trivial) ?_
      intro w5 hM
      have T5 := Lib.hid (show LH w p10 ⟨hc, hfl, hs, hd⟩ zCa w5 from ⟨T2.out.f.trans hM.1.1, T2.out.h.fr hM.1.1, hM.2.2, Nat.lt_of_lt_of_le (size_of_row T2.out.h) hM.2.1⟩)
      clear hM T2
      have T6 := Lib.hid (T5.out.car ⟨⟨pos, 0, 0, r0⟩, 0⟩)
      obtain ⟨r0', r1, r2, r3, r4⟩ := T5.out.c.cells
      have y0 := T5.out.c.fz 0
      have y1 := T5.out.c.fz 1
      have y2 := T5.out.c.fz 2
      have y3 := T5.out.c.fz 3
      have y4 := T5.out.c.fz 4
      dsimp only [zCa, carSet] at r0' r1 r2 r3 r4 T6
      refine wpAnyH_ready (rs := [11]) (by as_aux_lemma => kernel_rfl) (by simp) ?_
      refine AllReadyH.cons (o := _) rfl (fun K hK => ?_) AllReadyH.nil
      go_simp
      refine hK.out _ _ trivial (fun hHeld => ?_)
      clear hK K
      try simp only [Act.put, List.setIfInBounds_toArray, List.set_cons_zero, List.set_cons_succ]
      refine wpAnyH_take (i := 12) (v := ?fv12t0n12) (by as_aux_lemma => (simp only [List.getElem?_toArray, List.getElem?_cons_zero, List.getElem?_cons_succ]; rfl)) (by as_aux_lemma => kernel_rfl) (by as_aux_lemma => kernel_rfl) (by as_aux_lemma => kernel_rfl) (fun _ _ _ h => h) (Or.inl ⟨by rfl, ?fy12t0n12⟩) (by assumption) ?fr12t0n12
      case fy12t0n12 => (intro w hSw; (try dsimp only at hSw); go_simp; try with_reducible rfl)
      try simp only [Act.put, List.setIfInBounds_toArray, List.set_cons_zero, List.set_cons_succ]
      refine wpAnyH_done (by as_aux_lemma => kernel_rfl) ?_ _
      refine NoPanic.normal ?_
      clear hHeld
      generalize World.setCell (World.setCell (World.setCell (World.setCell (World.setCell w5 _ _) _ _) _ _) _ _) _ _ = w6 at *
      clear r0' r1 r2 r3 r4 y0 y1 y2 y3 y4 T5 NU V hw1 SA
      go_wp2
      go_loopw [12] (fun s12 wx => ∃ (k : Nat) (c : Ca), s12 = .int .i64 k ∧ Hid (k ≤ l2.length) ∧ Hid (RightIs ⟨hc, hfl, hs, hd⟩ c) ∧ Hid (c.k ≤ 9223372036854775807) ∧ Hid (LH w p10 ⟨hc, hfl, hs, hd⟩ c wx)) (fun s12 _ => l2.length - (intOf s12).toNat)
      case atStart => exact ⟨0, _, rfl, Lib.hid (Nat.zero_le _), R0, Lib.hid (by decide : (0 : Int) ≤ 9223372036854775807), T6⟩
      case round =>
        clear T6 R0
        obtain ⟨k, c, rfl, HK, HR, HC, HLx⟩ := hrel
        have hk1 := HK.out
        by_cases hlt : k < l2.length
        · obtain ⟨bk, off, rfl, hc2⟩ := r2 (by omega)
          obtain ⟨g0, g1, g2⟩ := hc2 k hlt
          obtain ⟨s, hs'⟩ : ∃ s, s = l2.getD k ⟨0, 0, 0⟩ := ⟨_, rfl⟩
          have ok : s.ok := OKS.out s (by rw [hs', List.getD_eq_getElem?_getD, List.getElem?_eq_getElem hlt]; exact List.getElem_mem hlt)
          rw [← hs'] at g0 g1 g2
          have hcell := (show wr.cell? ⟨bk, off + k * 3, none⟩ = some (.int .u64 s.c) ∧ wr.cell? ⟨bk, off + k * 3 + 1, none⟩ = some (.int .u64 s.u) ∧ wr.cell? ⟨bk, off + k * 3 + 2, none⟩ = some (.int .u64 s.d) from
            ⟨HLx.out.f.cell g0 (by simp), HLx.out.f.cell g1 (by simp), HLx.out.f.cell g2 (by simp)⟩)
          obtain ⟨ob, hobv⟩ : ∃ ob, ob = l3.getD k false := ⟨_, rfl⟩
          obtain ⟨x, d, hx⟩ : ∃ x d, c.tick ⟨hc, hfl, hs, hd⟩ s ob = (x, d) := ⟨_, _, rfl⟩
          have TK := TI.out c s ob ok HC.out x d hx
          have FA := TF.out c HR.out s ok ob x d hx
          have RX := TR.out c HR.out s ok ob
          have OP := TO'.out c s ok ob
          have hkx : x.k ≤ 9223372036854775807 := by
            have := tick_held (h := ⟨hc, hfl, hs, hd⟩) (s := s) (ob := ob) HC.out
            rw [hx] at this
            exact this
          rw [hx] at RX OP
          have hdn : d.op = true → ¬ (d.st.c = 0 ∧ d.st.u = 0 ∧ d.st.d = 0) := fun q => by
            rcases OP with ⟨_, o⟩ | ⟨o, _⟩
            · exact (done_facts ok o).2.2.2.2.2.2
            · rw [q] at o; cases o
          have ZT := Lib.hid (HT.out.fr HLx.out.f)
          have hrng := RNG.out
          have hp1 := RX.p0
          have hp2 := RX.p1
          have hp3 := HR.out.p0
          have hp4 := HR.out.p1
          have ho0 := HR.out.o0
          have hyo := RX.o0
          have RGX := RG.out x RX
          have FLX := FL.out x.x.p d.fl FA.2.2.2.2.2.2
          have LEX := fun q : Ho.lev ⟨hc, hfl, hs, hd⟩ x.x.p => LE.out x.x.p q
          have RX' := Lib.hid RX
          have HKX := Lib.hid hkx
          obtain ⟨⟨xp, xe, xo, xr⟩, xk⟩ := c
          obtain ⟨⟨yp, ye, yo, yr⟩, yk⟩ := x
          obtain ⟨eo, ec, ef, ea, em, ⟨dc, du, dd⟩⟩ := d
          obtain ⟨sp, su, sd⟩ := s
          dsimp only [Dn.v] at TK FA hcell hp1 hp2 hp3 hp4 ho0 hyo RGX FLX LEX hdn
          have hmv : IntKind.i64.wrap (yp - xp) = em := by rw [FA.1]; exact IntWalk.i64_in _ (by omega)
          replace TK := Lib.hid TK
          replace RGX := Lib.hid RGX
          replace FLX := Lib.hid FLX
          replace LEX := Lib.hid LEX
          replace FA := Lib.hid FA
          have HDN := Lib.hid hdn
          have HO0 := Lib.hid (show 0 ≤ xo ∧ 0 ≤ yo from ⟨ho0, hyo⟩)
          clear hc2 g0 g1 g2 hs' hx RX OP TI TF TR TO' RG LE FL hkx hrng hp1 hp2 hp3 hp4 hdn ho0 hyo r2
          go_upto_region 12 with fail
          go_cut [13, 14] (fun s13 s14 wx => ∃ m n, s13 = .pointer (some ⟨m, 0, none⟩) ∧ s14 = .pointer (some ⟨n, 0, none⟩) ∧ Hid (PD wr m n ⟨⟨yp, ye, yo, yr⟩, yk⟩ ⟨eo, ec, ef, ea, em, ⟨dc, du, dd⟩⟩ wx))
          case first =>
            clear RGX FLX LEX FA HDN HO0 RX' HKX hmv
            go_wp2_with fail
            by_cases hlt3 : k < l3.length
            · focus (
 have hob : decide ((k : Int) < (l3.length : Int)) = true := decide_eq_true (by omega)
 obtain ⟨bb, bo, rfl, hc3⟩ := r3 (by omega)
 have hcb := HLx.out.f.cell (hc3 k hlt3) (by simp)
 rw [← hobv] at hcb
 clear hobv
 refine wp_region_noPanic ?_
 refine wp_region_mix (M := F13 wr w.heap.size p10 bk (off + k * 3) bb (bo + k) ⟨hc, hfl, hs, hd⟩ ⟨⟨xp, xe, xo, xr⟩, xk⟩ ⟨sp, su, sd⟩ ob) (fun i => match i with | 20 => some (ptrTo, zCa.box) | 21 => some (ptrTo, zDn.box) | _ => none) [19] wr.heap.size 22 (by as_aux_lemma => kernel_rfl) (by as_aux_lemma => kernel_rfl) (by as_aux_lemma => kernel_rfl) (F13.lasts _ _ _ _ _ _ _ _ _ _ _) F13.size (F13.lasts _ _ _ _ _ _ _ _ _ _ _ _ _ ⟨⟨F5.of (Fr.refl _ _) HLx.out.h HLx.out.c, hcell⟩, hcb⟩ (Fr.drew _ [])) ?_
 clear hcb hc3 r3 hcell
 refine wpMixU_take (i := 0) (v := ?mv13) (by decide) (by as_aux_lemma => kernel_rfl) (by as_aux_lemma => (simp only [List.getElem?_toArray, List.getElem?_cons_zero]; rfl)) (by rfl) (by as_aux_lemma => kernel_rfl) (by as_aux_lemma => kernel_rfl) (by as_aux_lemma => kernel_rfl) (by rfl) ?my13 ?mr13
 case my13 => (intro M' hst him w hM; have hSw := him w hM; (try dsimp only [F13, F12, F5] at hSw); go_simp; refine Came.value ?_ hM; with_reducible rfl)
 try simp only [Act.put, List.setIfInBounds_toArray, List.set_cons_zero, List.set_cons_succ]
 refine wpMixU_take (i := 1) (v := ?mv14) (by decide) (by as_aux_lemma => kernel_rfl) (by as_aux_lemma => (simp only [List.getElem?_toArray, List.getElem?_cons_zero, List.getElem?_cons_succ]; rfl)) (by rfl) (by as_aux_lemma => kernel_rfl) (by as_aux_lemma => kernel_rfl) (by as_aux_lemma => kernel_rfl) (by rfl) ?my14 ?mr14
 case my14 => (intro M' hst him w hM; have hSw := him w hM; (try dsimp only [F13, F12, F5] at hSw); go_simp; refine Came.value ?_ hM; with_reducible rfl)
 try simp only [Act.put, List.setIfInBounds_toArray, List.set_cons_zero, List.set_cons_succ]
 refine wpMixU_take (i := 2) (v := ?mv15) (by decide) (by as_aux_lemma => kernel_rfl) (by as_aux_lemma => (simp only [List.getElem?_toArray, List.getElem?_cons_zero, List.getElem?_cons_succ]; rfl)) (by rfl) (by as_aux_lemma => kernel_rfl) (by as_aux_lemma => kernel_rfl) (by as_aux_lemma => kernel_rfl) (by rfl) ?my15 ?mr15
 case my15 => (intro M' hst him w hM; have hSw := him w hM; (try dsimp only [F13, F12, F5] at hSw); go_simp; refine Came.value ?_ hM; with_reducible rfl)
 try simp only [Act.put, List.setIfInBounds_toArray, List.set_cons_zero, List.set_cons_succ]
 refine wpMixU_take (i := 3) (v := ?mv16) (by decide) (by as_aux_lemma => kernel_rfl) (by as_aux_lemma => (simp only [List.getElem?_toArray, List.getElem?_cons_zero, List.getElem?_cons_succ]; rfl)) (by rfl) (by as_aux_lemma => kernel_rfl) (by as_aux_lemma => kernel_rfl) (by as_aux_lemma => kernel_rfl) (by rfl) ?my16 ?mr16
 case my16 => (intro M' hst him w hM; have hSw := him w hM; (try dsimp only [F13, F12, F5] at hSw); go_simp; refine Came.value ?_ hM; with_reducible rfl)
 try simp only [Act.put, List.setIfInBounds_toArray, List.set_cons_zero, List.set_cons_succ]
 refine wpMixU_take (i := 4) (v := ?mv17) (by decide) (by as_aux_lemma => kernel_rfl) (by as_aux_lemma => (simp only [List.getElem?_toArray, List.getElem?_cons_zero, List.getElem?_cons_succ]; rfl)) (by rfl) (by as_aux_lemma => kernel_rfl) (by as_aux_lemma => kernel_rfl) (by as_aux_lemma => kernel_rfl) (by rfl) ?my17 ?mr17
 case my17 => (intro M' hst him w hM; have hSw := him w hM; (try dsimp only [F13, F12, F5] at hSw); go_simp; refine Came.value ?_ hM; with_reducible rfl)
 try simp only [Act.put, List.setIfInBounds_toArray, List.set_cons_zero, List.set_cons_succ]
 refine wpMixU_take (i := 5) (v := ?mv18) (by decide) (by as_aux_lemma => kernel_rfl) (by as_aux_lemma => (simp only [List.getElem?_toArray, List.getElem?_cons_zero, List.getElem?_cons_succ]; rfl)) (by rfl) (by as_aux_lemma => kernel_rfl) (by as_aux_lemma => kernel_rfl) (by as_aux_lemma => kernel_rfl) (by rfl) ?my18 ?mr18
 case my18 => (intro M' hst him w hM; have hSw := him w hM; (try dsimp only [F13, F12, F5] at hSw); go_simp; refine Came.value ?_ hM; with_reducible rfl)
 try simp only [Act.put, List.setIfInBounds_toArray, List.set_cons_zero, List.set_cons_succ]
 refine wpMixU_take (i := 6) (v := ?mv19) (by decide) (by as_aux_lemma => kernel_rfl) (by as_aux_lemma => (simp only [List.getElem?_toArray, List.getElem?_cons_zero, List.getElem?_cons_succ]; rfl)) (by rfl) (by as_aux_lemma => kernel_rfl) (by as_aux_lemma => kernel_rfl) (by as_aux_lemma => kernel_rfl) (by rfl) ?my19 ?mr19
 case my19 => (intro M' hst him w hM; have hSw := him w hM; (try dsimp only [F13, F12, F5] at hSw); go_simp; refine Came.value ?_ hM; with_reducible rfl)
 try simp only [Act.put, List.setIfInBounds_toArray, List.set_cons_zero, List.set_cons_succ]
 refine wpMixU_take (i := 7) (v := ?mv20) (by decide) (by as_aux_lemma => kernel_rfl) (by as_aux_lemma => (simp only [List.getElem?_toArray, List.getElem?_cons_zero, List.getElem?_cons_succ]; rfl)) (by rfl) (by as_aux_lemma => kernel_rfl) (by as_aux_lemma => kernel_rfl) (by as_aux_lemma => kernel_rfl) (by rfl) ?my20 ?mr20
 case my20 => (intro M' hst him w hM; have hSw := him w hM; (try dsimp only [F13, F12, F5] at hSw); go_simp; refine Came.value ?_ hM; with_reducible rfl)
 try simp only [Act.put, List.setIfInBounds_toArray, List.set_cons_zero, List.set_cons_succ]
 refine wpMixU_take (i := 8) (v := ?mv21) (by decide) (by as_aux_lemma => kernel_rfl) (by as_aux_lemma => (simp only [List.getElem?_toArray, List.getElem?_cons_zero, List.getElem?_cons_succ]; rfl)) (by rfl) (by as_aux_lemma => kernel_rfl) (by as_aux_lemma => kernel_rfl) (by as_aux_lemma => kernel_rfl) (by rfl) ?my21 ?mr21
 case my21 => (intro M' hst him w hM; have hSw := him w hM; (try dsimp only [F13, F12, F5] at hSw); go_simp; refine Came.value ?_ hM; with_reducible rfl)
 try simp only [Act.put, List.setIfInBounds_toArray, List.set_cons_zero, List.set_cons_succ]
 refine wpMixU_take (i := 9) (v := ?mv22) (by decide) (by as_aux_lemma => kernel_rfl) (by as_aux_lemma => (simp only [List.getElem?_toArray, List.getElem?_cons_zero, List.getElem?_cons_succ]; rfl)) (by rfl) (by as_aux_lemma => kernel_rfl) (by as_aux_lemma => kernel_rfl) (by as_aux_lemma => kernel_rfl) (by rfl) ?my22 ?mr22
 case my22 => (intro M' hst him w hM; have hSw := him w hM; (try dsimp only [F13, F12, F5] at hSw); go_simp; refine Came.value ?_ hM; with_reducible rfl)
 try simp only [Act.put, List.setIfInBounds_toArray, List.set_cons_zero, List.set_cons_succ]
 refine wpMixU_take (i := 10) (v := ?mv23) (by decide) (by as_aux_lemma => kernel_rfl) (by as_aux_lemma => (simp only [List.getElem?_toArray, List.getElem?_cons_zero, List.getElem?_cons_succ]; rfl)) (by rfl) (by as_aux_lemma => kernel_rfl) (by as_aux_lemma => kernel_rfl) (by as_aux_lemma => kernel_rfl) (by rfl) ?my23 ?mr23
 case my23 => (intro M' hst him w hM; have hSw := him w hM; (try dsimp only [F13, F12, F5] at hSw); go_simp; refine Came.value ?_ hM; with_reducible rfl)
 try simp only [Act.put, List.setIfInBounds_toArray, List.set_cons_zero, List.set_cons_succ]
 refine wpMixU_take (i := 11) (v := ?mv24) (by decide) (by as_aux_lemma => kernel_rfl) (by as_aux_lemma => (simp only [List.getElem?_toArray, List.getElem?_cons_zero, List.getElem?_cons_succ]; rfl)) (by rfl) (by as_aux_lemma => kernel_rfl) (by as_aux_lemma => kernel_rfl) (by as_aux_lemma => kernel_rfl) (by rfl) ?my24 ?mr24
 case my24 => (intro M' hst him w hM; have hSw := him w hM; (try dsimp only [F13, F12, F5] at hSw); go_simp; refine Came.value ?_ hM; with_reducible rfl)
 try simp only [Act.put, List.setIfInBounds_toArray, List.set_cons_zero, List.set_cons_succ]
 refine wpMixU_take (i := 12) (v := ?mv25) (by decide) (by as_aux_lemma => kernel_rfl) (by as_aux_lemma => (simp only [List.getElem?_toArray, List.getElem?_cons_zero, List.getElem?_cons_succ]; rfl)) (by rfl) (by as_aux_lemma => kernel_rfl) (by as_aux_lemma => kernel_rfl) (by as_aux_lemma => kernel_rfl) (by rfl) ?my25 ?mr25
 case my25 => (intro M' hst him w hM; have hSw := him w hM; (try dsimp only [F13, F12, F5] at hSw); go_simp; refine Came.value ?_ hM; with_reducible rfl)
 try simp only [Act.put, List.setIfInBounds_toArray, List.set_cons_zero, List.set_cons_succ]
 refine wpMixU_take (i := 13) (v := ?mv26) (by decide) (by as_aux_lemma => kernel_rfl) (by as_aux_lemma => (simp only [List.getElem?_toArray, List.getElem?_cons_zero, List.getElem?_cons_succ]; rfl)) (by rfl) (by as_aux_lemma => kernel_rfl) (by as_aux_lemma => kernel_rfl) (by as_aux_lemma => kernel_rfl) (by rfl) ?my26 ?mr26
 case my26 => (intro M' hst him w hM; have hSw := him w hM; (try dsimp only [F13, F12, F5] at hSw); go_simp; refine Came.value ?_ hM; with_reducible rfl)
 try simp only [Act.put, List.setIfInBounds_toArray, List.set_cons_zero, List.set_cons_succ]
 refine wpMixU_take (i := 14) (v := ?mv27) (by decide) (by as_aux_lemma => kernel_rfl) (by as_aux_lemma => (simp only [List.getElem?_toArray, List.getElem?_cons_zero, List.getElem?_cons_succ]; rfl)) (by rfl) (by as_aux_lemma => kernel_rfl) (by as_aux_lemma => kernel_rfl) (by as_aux_lemma => kernel_rfl) (by rfl) ?my27 ?mr27
 case my27 => (intro M' hst him w hM; have hSw := him w hM; (try dsimp only [F13, F12, F5] at hSw); go_simp; refine Came.value ?_ hM; with_reducible rfl)
 try simp only [Act.put, List.setIfInBounds_toArray, List.set_cons_zero, List.set_cons_succ]
 refine wpMixU_take (i := 15) (v := ?mv28) (by decide) (by as_aux_lemma => kernel_rfl) (by as_aux_lemma => (simp only [List.getElem?_toArray, List.getElem?_cons_zero, List.getElem?_cons_succ]; rfl)) (by rfl) (by as_aux_lemma => kernel_rfl) (by as_aux_lemma => kernel_rfl) (by as_aux_lemma => kernel_rfl) (by rfl) ?my28 ?mr28
 case my28 => (intro M' hst him w hM; have hSw := him w hM; (try dsimp only [F13, F12, F5] at hSw); go_simp; refine Came.value ?_ hM; with_reducible rfl)
 try simp only [Act.put, List.setIfInBounds_toArray, List.set_cons_zero, List.set_cons_succ]
 refine wpMixU_take (i := 16) (v := ?mv29) (by decide) (by as_aux_lemma => kernel_rfl) (by as_aux_lemma => (simp only [List.getElem?_toArray, List.getElem?_cons_zero, List.getElem?_cons_succ]; rfl)) (by rfl) (by as_aux_lemma => kernel_rfl) (by as_aux_lemma => kernel_rfl) (by as_aux_lemma => kernel_rfl) (by rfl) ?my29 ?mr29
 case my29 => (intro M' hst him w hM; have hSw := him w hM; (try dsimp only [F13, F12, F5] at hSw); go_simp; exact Came.call ((TK.out w (ZT.out.fr hSw.1.1.1)).mono fun e w' ⟨he, hf⟩ => ⟨he, hst _ _ hM hf⟩) (by with_reducible rfl))
 try simp only [Act.put, List.setIfInBounds_toArray, List.set_cons_zero, List.set_cons_succ]
 refine wpMixU_take (i := 17) (v := ?mv30) (by decide) (by as_aux_lemma => kernel_rfl) (by as_aux_lemma => (simp only [List.getElem?_toArray, List.getElem?_cons_zero, List.getElem?_cons_succ]; rfl)) (by rfl) (by as_aux_lemma => kernel_rfl) (by as_aux_lemma => kernel_rfl) (by as_aux_lemma => kernel_rfl) (by rfl) ?my30 ?mr30
 case my30 => (intro M' hst him w hM; have hSw := him w hM; (try dsimp only [F13, F12, F5] at hSw); go_simp; refine Came.value ?_ hM; with_reducible rfl)
 try simp only [Act.put, List.setIfInBounds_toArray, List.set_cons_zero, List.set_cons_succ]
 refine wpMixU_take (i := 18) (v := ?mv31) (by decide) (by as_aux_lemma => kernel_rfl) (by as_aux_lemma => (simp only [List.getElem?_toArray, List.getElem?_cons_zero, List.getElem?_cons_succ]; rfl)) (by rfl) (by as_aux_lemma => kernel_rfl) (by as_aux_lemma => kernel_rfl) (by as_aux_lemma => kernel_rfl) (by rfl) ?my31 ?mr31
 case my31 => (intro M' hst him w hM; have hSw := him w hM; (try dsimp only [F13, F12, F5] at hSw); go_simp; refine Came.value ?_ hM; with_reducible rfl)
 try simp only [Act.put, List.setIfInBounds_toArray, List.set_cons_zero, List.set_cons_succ]
 refine wpMixU_pure (i := 19) (v := ?mv32) (by decide) (by as_aux_lemma => kernel_rfl) (by as_aux_lemma => (simp only [List.getElem?_toArray, List.getElem?_cons_zero, List.getElem?_cons_succ]; rfl)) (fun _ _ _ _ h => (h : False).elim) (by as_aux_lemma => kernel_rfl) (by as_aux_lemma => kernel_rfl) (by as_aux_lemma => kernel_rfl) (by rfl) ?my32 ?mr32
 case my32 => (intro w; go_simp; try with_reducible rfl)
 try simp only [Act.put, List.setIfInBounds_toArray, List.set_cons_zero, List.set_cons_succ]
 refine wpMixU_new (i := 20) [20, 21] (by decide) (by as_aux_lemma => kernel_rfl) (by as_aux_lemma => (simp only [List.getElem?_toArray, List.getElem?_cons_zero, List.getElem?_cons_succ]; rfl)) (by rfl) (by as_aux_lemma => kernel_rfl) (by as_aux_lemma => kernel_rfl) (by as_aux_lemma => kernel_rfl) (by as_aux_lemma => kernel_rfl) (by as_aux_lemma => kernel_rfl) (by as_aux_lemma => kernel_rfl) (by rfl) ?my33 ?mr33
 case my33 => (intro w; go_simp; first | done | rfl | exact ⟨rfl, rfl⟩)
 intro p20
 try simp only [ptrTo]
 try simp only [Act.put, List.setIfInBounds_toArray, List.set_cons_zero, List.set_cons_succ]
 refine wpMixU_new (i := 21) [20, 21] (by decide) (by as_aux_lemma => kernel_rfl) (by as_aux_lemma => (simp only [List.getElem?_toArray, List.getElem?_cons_zero, List.getElem?_cons_succ]; rfl)) (by rfl) (by as_aux_lemma => kernel_rfl) (by as_aux_lemma => kernel_rfl) (by as_aux_lemma => kernel_rfl) (by as_aux_lemma => kernel_rfl) (by as_aux_lemma => kernel_rfl) (by as_aux_lemma => kernel_rfl) (by rfl) ?my34 ?mr34
 case my34 => (intro w; go_simp; first | done | rfl | exact ⟨rfl, rfl⟩)
 intro p21
 try simp only [ptrTo]
 try simp only [Act.put, List.setIfInBounds_toArray, List.set_cons_zero, List.set_cons_succ]
 refine wpMixU_tail (fun _ => True) (by as_aux_lemma => kernel_rfl) (fun _ _ => trivial) ?_
 intro w5 hM
 have P5 := Lib.hid (show PD wr p20 p21 zCa zDn w5 from ⟨hM.1.1.1.1.1, hM.1.2.2, hM.2.2, hM.1.2.1, hM.2.1⟩)
 have P6 := Lib.hid (P5.out.car ⟨⟨yp, ye, yo, yr⟩, yk⟩)
 have P7 := Lib.hid (P6.out.deed ⟨eo, ec, ef, ea, em, ⟨dc, du, dd⟩⟩)
 obtain ⟨r0', r1, r2', r3', r4⟩ := P5.out.x.cells
 have y0 := P5.out.x.fz 0
 have y1 := P5.out.x.fz 1
 have y2 := P5.out.x.fz 2
 have y3 := P5.out.x.fz 3
 have y4 := P5.out.x.fz 4
 obtain ⟨n0, n1, n2, n3, n4, n5, n6, n7⟩ := P6.out.d.cells
 have m0 := P6.out.d.fz 0
 have m1 := P6.out.d.fz 1
 have m2 := P6.out.d.fz 2
 have m3 := P6.out.d.fz 3
 have m4 := P6.out.d.fz 4
 have m5 := P6.out.d.fz 5
 have m6 := P6.out.d.fz 6
 have m7 := P6.out.d.fz 7
 clear hM
 dsimp only [zCa, zDn, zSp, carSet] at P6 P7 r0' r1 r2' r3' r4 n0 n1 n2 n3 n4 n5 n6 n7 m0 m1 m2 m3 m4 m5 m6 m7
 clear P5
 simp only [show ((0 : Nat) : Int) = 0 from rfl] at n5 n6 n7
 refine wpAnyH_ready (rs := [22]) (by as_aux_lemma => kernel_rfl) (by simp) ?_
 refine AllReadyH.cons (o := _) rfl (fun K hK => ?_) AllReadyH.nil
 go_simp
 refine hK.out _ _ trivial (fun hHeld => ?_)
 clear hK K
 try simp only [Act.put, List.setIfInBounds_toArray, List.set_cons_zero, List.set_cons_succ]
 generalize World.setCell (World.setCell (World.setCell (World.setCell (World.setCell w5 _ _) _ _) _ _) _ _) _ _ = w6 at P6 P7 n0 n1 n2 n3 n4 n5 n6 n7 m0 m1 m2 m3 m4 m5 m6 m7 ⊢
 clear r0' r1 r2' r3' r4 y0 y1 y2 y3 y4 P6
 refine wpAnyH_ready (rs := [23]) (by as_aux_lemma => kernel_rfl) (by simp) ?_
 refine AllReadyH.cons (o := _) rfl (fun K hK => ?_) AllReadyH.nil
 go_simp
 refine hK.out _ _ trivial (fun hHeld => ?_)
 clear hK K
 try simp only [Act.put, List.setIfInBounds_toArray, List.set_cons_zero, List.set_cons_succ]
 refine wpAnyH_done (by as_aux_lemma => kernel_rfl) ?_ _
 refine NoPanic.normal ?_
 clear hHeld
 dsimp only [dnSet] at P7
 generalize World.setCell (World.setCell (World.setCell (World.setCell (World.setCell (World.setCell (World.setCell (World.setCell w6 _ _) _ _) _ _) _ _) _ _) _ _) _ _) _ _ = w7 at P7 ⊢
 clear n0 n1 n2 n3 n4 n5 n6 n7 m0 m1 m2 m3 m4 m5 m6 m7
 go_wp2_with fail
 go_meet
 exact ⟨p20, p21, rfl, rfl, P7⟩
 )
            · focus (
 have hob : decide ((k : Int) < (l3.length : Int)) = false := decide_eq_false (by omega)
 have hobf : ob = false := by rw [hobv, List.getD_eq_getElem?_getD, List.getElem?_eq_none (by omega)]; rfl
 subst hobf
 refine wp_region_noPanic ?_
 refine wp_region_mix (M := F12 wr w.heap.size p10 bk (off + k * 3) ⟨hc, hfl, hs, hd⟩ ⟨⟨xp, xe, xo, xr⟩, xk⟩ ⟨sp, su, sd⟩) (fun i => match i with | 20 => some (ptrTo, zCa.box) | 21 => some (ptrTo, zDn.box) | _ => none) [19] wr.heap.size 22 (by as_aux_lemma => kernel_rfl) (by as_aux_lemma => kernel_rfl) (by as_aux_lemma => kernel_rfl) (F12.lasts _ _ _ _ _ _ _ _) F12.size (F12.lasts _ _ _ _ _ _ _ _ _ _ ⟨F5.of (Fr.refl _ _) HLx.out.h HLx.out.c, hcell⟩ (Fr.drew _ [])) ?_
 clear hcell hobv
 refine wpMixU_take (i := 0) (v := ?mv35) (by decide) (by as_aux_lemma => kernel_rfl) (by as_aux_lemma => (simp only [List.getElem?_toArray, List.getElem?_cons_zero]; rfl)) (by rfl) (by as_aux_lemma => kernel_rfl) (by as_aux_lemma => kernel_rfl) (by as_aux_lemma => kernel_rfl) (by rfl) ?my35 ?mr35
 case my35 => (intro M' hst him w hM; have hSw := him w hM; (try dsimp only [F12, F5] at hSw); go_simp; refine Came.value ?_ hM; with_reducible rfl)
 try simp only [Act.put, List.setIfInBounds_toArray, List.set_cons_zero, List.set_cons_succ]
 refine wpMixU_take (i := 1) (v := ?mv36) (by decide) (by as_aux_lemma => kernel_rfl) (by as_aux_lemma => (simp only [List.getElem?_toArray, List.getElem?_cons_zero, List.getElem?_cons_succ]; rfl)) (by rfl) (by as_aux_lemma => kernel_rfl) (by as_aux_lemma => kernel_rfl) (by as_aux_lemma => kernel_rfl) (by rfl) ?my36 ?mr36
 case my36 => (intro M' hst him w hM; have hSw := him w hM; (try dsimp only [F12, F5] at hSw); go_simp; refine Came.value ?_ hM; with_reducible rfl)
 try simp only [Act.put, List.setIfInBounds_toArray, List.set_cons_zero, List.set_cons_succ]
 refine wpMixU_take (i := 2) (v := ?mv37) (by decide) (by as_aux_lemma => kernel_rfl) (by as_aux_lemma => (simp only [List.getElem?_toArray, List.getElem?_cons_zero, List.getElem?_cons_succ]; rfl)) (by rfl) (by as_aux_lemma => kernel_rfl) (by as_aux_lemma => kernel_rfl) (by as_aux_lemma => kernel_rfl) (by rfl) ?my37 ?mr37
 case my37 => (intro M' hst him w hM; have hSw := him w hM; (try dsimp only [F12, F5] at hSw); go_simp; refine Came.value ?_ hM; with_reducible rfl)
 try simp only [Act.put, List.setIfInBounds_toArray, List.set_cons_zero, List.set_cons_succ]
 refine wpMixU_take (i := 3) (v := ?mv38) (by decide) (by as_aux_lemma => kernel_rfl) (by as_aux_lemma => (simp only [List.getElem?_toArray, List.getElem?_cons_zero, List.getElem?_cons_succ]; rfl)) (by rfl) (by as_aux_lemma => kernel_rfl) (by as_aux_lemma => kernel_rfl) (by as_aux_lemma => kernel_rfl) (by rfl) ?my38 ?mr38
 case my38 => (intro M' hst him w hM; have hSw := him w hM; (try dsimp only [F12, F5] at hSw); go_simp; refine Came.value ?_ hM; with_reducible rfl)
 try simp only [Act.put, List.setIfInBounds_toArray, List.set_cons_zero, List.set_cons_succ]
 refine wpMixU_take (i := 4) (v := ?mv39) (by decide) (by as_aux_lemma => kernel_rfl) (by as_aux_lemma => (simp only [List.getElem?_toArray, List.getElem?_cons_zero, List.getElem?_cons_succ]; rfl)) (by rfl) (by as_aux_lemma => kernel_rfl) (by as_aux_lemma => kernel_rfl) (by as_aux_lemma => kernel_rfl) (by rfl) ?my39 ?mr39
 case my39 => (intro M' hst him w hM; have hSw := him w hM; (try dsimp only [F12, F5] at hSw); go_simp; refine Came.value ?_ hM; with_reducible rfl)
 try simp only [Act.put, List.setIfInBounds_toArray, List.set_cons_zero, List.set_cons_succ]
 refine wpMixU_take (i := 5) (v := ?mv40) (by decide) (by as_aux_lemma => kernel_rfl) (by as_aux_lemma => (simp only [List.getElem?_toArray, List.getElem?_cons_zero, List.getElem?_cons_succ]; rfl)) (by rfl) (by as_aux_lemma => kernel_rfl) (by as_aux_lemma => kernel_rfl) (by as_aux_lemma => kernel_rfl) (by rfl) ?my40 ?mr40
 case my40 => (intro M' hst him w hM; have hSw := him w hM; (try dsimp only [F12, F5] at hSw); go_simp; refine Came.value ?_ hM; with_reducible rfl)
 try simp only [Act.put, List.setIfInBounds_toArray, List.set_cons_zero, List.set_cons_succ]
 refine wpMixU_take (i := 6) (v := ?mv41) (by decide) (by as_aux_lemma => kernel_rfl) (by as_aux_lemma => (simp only [List.getElem?_toArray, List.getElem?_cons_zero, List.getElem?_cons_succ]; rfl)) (by rfl) (by as_aux_lemma => kernel_rfl) (by as_aux_lemma => kernel_rfl) (by as_aux_lemma => kernel_rfl) (by rfl) ?my41 ?mr41
 case my41 => (intro M' hst him w hM; have hSw := him w hM; (try dsimp only [F12, F5] at hSw); go_simp; refine Came.value ?_ hM; with_reducible rfl)
 try simp only [Act.put, List.setIfInBounds_toArray, List.set_cons_zero, List.set_cons_succ]
 refine wpMixU_take (i := 7) (v := ?mv42) (by decide) (by as_aux_lemma => kernel_rfl) (by as_aux_lemma => (simp only [List.getElem?_toArray, List.getElem?_cons_zero, List.getElem?_cons_succ]; rfl)) (by rfl) (by as_aux_lemma => kernel_rfl) (by as_aux_lemma => kernel_rfl) (by as_aux_lemma => kernel_rfl) (by rfl) ?my42 ?mr42
 case my42 => (intro M' hst him w hM; have hSw := him w hM; (try dsimp only [F12, F5] at hSw); go_simp; refine Came.value ?_ hM; with_reducible rfl)
 try simp only [Act.put, List.setIfInBounds_toArray, List.set_cons_zero, List.set_cons_succ]
 refine wpMixU_take (i := 8) (v := ?mv43) (by decide) (by as_aux_lemma => kernel_rfl) (by as_aux_lemma => (simp only [List.getElem?_toArray, List.getElem?_cons_zero, List.getElem?_cons_succ]; rfl)) (by rfl) (by as_aux_lemma => kernel_rfl) (by as_aux_lemma => kernel_rfl) (by as_aux_lemma => kernel_rfl) (by rfl) ?my43 ?mr43
 case my43 => (intro M' hst him w hM; have hSw := him w hM; (try dsimp only [F12, F5] at hSw); go_simp; refine Came.value ?_ hM; with_reducible rfl)
 try simp only [Act.put, List.setIfInBounds_toArray, List.set_cons_zero, List.set_cons_succ]
 refine wpMixU_take (i := 9) (v := ?mv44) (by decide) (by as_aux_lemma => kernel_rfl) (by as_aux_lemma => (simp only [List.getElem?_toArray, List.getElem?_cons_zero, List.getElem?_cons_succ]; rfl)) (by rfl) (by as_aux_lemma => kernel_rfl) (by as_aux_lemma => kernel_rfl) (by as_aux_lemma => kernel_rfl) (by rfl) ?my44 ?mr44
 case my44 => (intro M' hst him w hM; have hSw := him w hM; (try dsimp only [F12, F5] at hSw); go_simp; refine Came.value ?_ hM; with_reducible rfl)
 try simp only [Act.put, List.setIfInBounds_toArray, List.set_cons_zero, List.set_cons_succ]
 refine wpMixU_take (i := 10) (v := ?mv45) (by decide) (by as_aux_lemma => kernel_rfl) (by as_aux_lemma => (simp only [List.getElem?_toArray, List.getElem?_cons_zero, List.getElem?_cons_succ]; rfl)) (by rfl) (by as_aux_lemma => kernel_rfl) (by as_aux_lemma => kernel_rfl) (by as_aux_lemma => kernel_rfl) (by rfl) ?my45 ?mr45
 case my45 => (intro M' hst him w hM; have hSw := him w hM; (try dsimp only [F12, F5] at hSw); go_simp; refine Came.value ?_ hM; with_reducible rfl)
 try simp only [Act.put, List.setIfInBounds_toArray, List.set_cons_zero, List.set_cons_succ]
 refine wpMixU_skip (i := 11) (by decide) (by as_aux_lemma => kernel_rfl) (by as_aux_lemma => (simp only [List.getElem?_toArray, List.getElem?_cons_zero, List.getElem?_cons_succ]; rfl)) (by rfl) (by as_aux_lemma => kernel_rfl) (by as_aux_lemma => kernel_rfl) (by as_aux_lemma => kernel_rfl) (by rfl) ?_
 try simp only [Act.put, List.setIfInBounds_toArray, List.set_cons_zero, List.set_cons_succ]
 refine wpMixU_skip (i := 12) (by decide) (by as_aux_lemma => kernel_rfl) (by as_aux_lemma => (simp only [List.getElem?_toArray, List.getElem?_cons_zero, List.getElem?_cons_succ]; rfl)) (by rfl) (by as_aux_lemma => kernel_rfl) (by as_aux_lemma => kernel_rfl) (by as_aux_lemma => kernel_rfl) (by rfl) ?_
 try simp only [Act.put, List.setIfInBounds_toArray, List.set_cons_zero, List.set_cons_succ]
 refine wpMixU_skip (i := 13) (by decide) (by as_aux_lemma => kernel_rfl) (by as_aux_lemma => (simp only [List.getElem?_toArray, List.getElem?_cons_zero, List.getElem?_cons_succ]; rfl)) (by rfl) (by as_aux_lemma => kernel_rfl) (by as_aux_lemma => kernel_rfl) (by as_aux_lemma => kernel_rfl) (by rfl) ?_
 try simp only [Act.put, List.setIfInBounds_toArray, List.set_cons_zero, List.set_cons_succ]
 refine wpMixU_skip (i := 14) (by decide) (by as_aux_lemma => kernel_rfl) (by as_aux_lemma => (simp only [List.getElem?_toArray, List.getElem?_cons_zero, List.getElem?_cons_succ]; rfl)) (by rfl) (by as_aux_lemma => kernel_rfl) (by as_aux_lemma => kernel_rfl) (by as_aux_lemma => kernel_rfl) (by rfl) ?_
 try simp only [Act.put, List.setIfInBounds_toArray, List.set_cons_zero, List.set_cons_succ]
 refine wpMixU_take (i := 15) (v := ?mv50) (by decide) (by as_aux_lemma => kernel_rfl) (by as_aux_lemma => (simp only [List.getElem?_toArray, List.getElem?_cons_zero, List.getElem?_cons_succ]; rfl)) (by rfl) (by as_aux_lemma => kernel_rfl) (by as_aux_lemma => kernel_rfl) (by as_aux_lemma => kernel_rfl) (by rfl) ?my50 ?mr50
 case my50 => (intro M' hst him w hM; have hSw := him w hM; (try dsimp only [F12, F5] at hSw); go_simp; refine Came.value ?_ hM; with_reducible rfl)
 try simp only [Act.put, List.setIfInBounds_toArray, List.set_cons_zero, List.set_cons_succ]
 refine wpMixU_take (i := 16) (v := ?mv51) (by decide) (by as_aux_lemma => kernel_rfl) (by as_aux_lemma => (simp only [List.getElem?_toArray, List.getElem?_cons_zero, List.getElem?_cons_succ]; rfl)) (by rfl) (by as_aux_lemma => kernel_rfl) (by as_aux_lemma => kernel_rfl) (by as_aux_lemma => kernel_rfl) (by rfl) ?my51 ?mr51
 case my51 => (intro M' hst him w hM; have hSw := him w hM; (try dsimp only [F12, F5] at hSw); go_simp; exact Came.call ((TK.out w (ZT.out.fr hSw.1.1)).mono fun e w' ⟨he, hf⟩ => ⟨he, hst _ _ hM hf⟩) (by with_reducible rfl))
 try simp only [Act.put, List.setIfInBounds_toArray, List.set_cons_zero, List.set_cons_succ]
 refine wpMixU_take (i := 17) (v := ?mv52) (by decide) (by as_aux_lemma => kernel_rfl) (by as_aux_lemma => (simp only [List.getElem?_toArray, List.getElem?_cons_zero, List.getElem?_cons_succ]; rfl)) (by rfl) (by as_aux_lemma => kernel_rfl) (by as_aux_lemma => kernel_rfl) (by as_aux_lemma => kernel_rfl) (by rfl) ?my52 ?mr52
 case my52 => (intro M' hst him w hM; have hSw := him w hM; (try dsimp only [F12, F5] at hSw); go_simp; refine Came.value ?_ hM; with_reducible rfl)
 try simp only [Act.put, List.setIfInBounds_toArray, List.set_cons_zero, List.set_cons_succ]
 refine wpMixU_take (i := 18) (v := ?mv53) (by decide) (by as_aux_lemma => kernel_rfl) (by as_aux_lemma => (simp only [List.getElem?_toArray, List.getElem?_cons_zero, List.getElem?_cons_succ]; rfl)) (by rfl) (by as_aux_lemma => kernel_rfl) (by as_aux_lemma => kernel_rfl) (by as_aux_lemma => kernel_rfl) (by rfl) ?my53 ?mr53
 case my53 => (intro M' hst him w hM; have hSw := him w hM; (try dsimp only [F12, F5] at hSw); go_simp; refine Came.value ?_ hM; with_reducible rfl)
 try simp only [Act.put, List.setIfInBounds_toArray, List.set_cons_zero, List.set_cons_succ]
 refine wpMixU_pure (i := 19) (v := ?mv54) (by decide) (by as_aux_lemma => kernel_rfl) (by as_aux_lemma => (simp only [List.getElem?_toArray, List.getElem?_cons_zero, List.getElem?_cons_succ]; rfl)) (fun _ _ _ _ h => (h : False).elim) (by as_aux_lemma => kernel_rfl) (by as_aux_lemma => kernel_rfl) (by as_aux_lemma => kernel_rfl) (by rfl) ?my54 ?mr54
 case my54 => (intro w; go_simp; try with_reducible rfl)
 try simp only [Act.put, List.setIfInBounds_toArray, List.set_cons_zero, List.set_cons_succ]
 refine wpMixU_new (i := 20) [20, 21] (by decide) (by as_aux_lemma => kernel_rfl) (by as_aux_lemma => (simp only [List.getElem?_toArray, List.getElem?_cons_zero, List.getElem?_cons_succ]; rfl)) (by rfl) (by as_aux_lemma => kernel_rfl) (by as_aux_lemma => kernel_rfl) (by as_aux_lemma => kernel_rfl) (by as_aux_lemma => kernel_rfl) (by as_aux_lemma => kernel_rfl) (by as_aux_lemma => kernel_rfl) (by rfl) ?my55 ?mr55
 case my55 => (intro w; go_simp; first | done | rfl | exact ⟨rfl, rfl⟩)
 intro p20
 try simp only [ptrTo]
 try simp only [Act.put, List.setIfInBounds_toArray, List.set_cons_zero, List.set_cons_succ]
 refine wpMixU_new (i := 21) [20, 21] (by decide) (by as_aux_lemma => kernel_rfl) (by as_aux_lemma => (simp only [List.getElem?_toArray, List.getElem?_cons_zero, List.getElem?_cons_succ]; rfl)) (by rfl) (by as_aux_lemma => kernel_rfl) (by as_aux_lemma => kernel_rfl) (by as_aux_lemma => kernel_rfl) (by as_aux_lemma => kernel_rfl) (by as_aux_lemma => kernel_rfl) (by as_aux_lemma => kernel_rfl) (by rfl) ?my56 ?mr56
 case my56 => (intro w; go_simp; first | done | rfl | exact ⟨rfl, rfl⟩)
 intro p21
 try simp only [ptrTo]
 try simp only [Act.put, List.setIfInBounds_toArray, List.set_cons_zero, List.set_cons_succ]
 refine wpMixU_tail (fun _ => True) (by as_aux_lemma => kernel_rfl) (fun _ _ => trivial) ?_
 intro w5 hM
 have P5 := Lib.hid (show PD wr p20 p21 zCa zDn w5 from ⟨hM.1.1.1.1, hM.1.2.2, hM.2.2, hM.1.2.1, hM.2.1⟩)
 have P6 := Lib.hid (P5.out.car ⟨⟨yp, ye, yo, yr⟩, yk⟩)
 have P7 := Lib.hid (P6.out.deed ⟨eo, ec, ef, ea, em, ⟨dc, du, dd⟩⟩)
 obtain ⟨r0', r1, r2', r3', r4⟩ := P5.out.x.cells
 have y0 := P5.out.x.fz 0
 have y1 := P5.out.x.fz 1
 have y2 := P5.out.x.fz 2
 have y3 := P5.out.x.fz 3
 have y4 := P5.out.x.fz 4
 obtain ⟨n0, n1, n2, n3, n4, n5, n6, n7⟩ := P6.out.d.cells
 have m0 := P6.out.d.fz 0
 have m1 := P6.out.d.fz 1
 have m2 := P6.out.d.fz 2
 have m3 := P6.out.d.fz 3
 have m4 := P6.out.d.fz 4
 have m5 := P6.out.d.fz 5
 have m6 := P6.out.d.fz 6
 have m7 := P6.out.d.fz 7
 clear hM
 dsimp only [zCa, zDn, zSp, carSet] at P6 P7 r0' r1 r2' r3' r4 n0 n1 n2 n3 n4 n5 n6 n7 m0 m1 m2 m3 m4 m5 m6 m7
 clear P5
 simp only [show ((0 : Nat) : Int) = 0 from rfl] at n5 n6 n7
 refine wpAnyH_ready (rs := [22]) (by as_aux_lemma => kernel_rfl) (by simp) ?_
 refine AllReadyH.cons (o := _) rfl (fun K hK => ?_) AllReadyH.nil
 go_simp
 refine hK.out _ _ trivial (fun hHeld => ?_)
 clear hK K
 try simp only [Act.put, List.setIfInBounds_toArray, List.set_cons_zero, List.set_cons_succ]
 generalize World.setCell (World.setCell (World.setCell (World.setCell (World.setCell w5 _ _) _ _) _ _) _ _) _ _ = w6 at P6 P7 n0 n1 n2 n3 n4 n5 n6 n7 m0 m1 m2 m3 m4 m5 m6 m7 ⊢
 clear r0' r1 r2' r3' r4 y0 y1 y2 y3 y4 P6
 refine wpAnyH_ready (rs := [23]) (by as_aux_lemma => kernel_rfl) (by simp) ?_
 refine AllReadyH.cons (o := _) rfl (fun K hK => ?_) AllReadyH.nil
 go_simp
 refine hK.out _ _ trivial (fun hHeld => ?_)
 clear hK K
 try simp only [Act.put, List.setIfInBounds_toArray, List.set_cons_zero, List.set_cons_succ]
 refine wpAnyH_done (by as_aux_lemma => kernel_rfl) ?_ _
 refine NoPanic.normal ?_
 clear hHeld
 dsimp only [dnSet] at P7
 generalize World.setCell (World.setCell (World.setCell (World.setCell (World.setCell (World.setCell (World.setCell (World.setCell w6 _ _) _ _) _ _) _ _) _ _) _ _) _ _) _ _ = w7 at P7 ⊢
 clear n0 n1 n2 n3 n4 n5 n6 n7 m0 m1 m2 m3 m4 m5 m6 m7
 go_wp2_with fail
 go_meet
 exact ⟨p20, p21, rfl, rfl, P7⟩
 )
          case rest =>
            obtain ⟨m, n, rfl, rfl, PDc⟩ := hcut
            have T7 := Lib.hid (show PL w wr p10 m n ⟨hc, hfl, hs, hd⟩ ⟨⟨xp, xe, xo, xr⟩, xk⟩ ⟨⟨yp, ye, yo, yr⟩, yk⟩ ⟨eo, ec, ef, ea, em, ⟨dc, du, dd⟩⟩ wc from ⟨HLx.out.fr PDc.out.f, PDc.out⟩)
            clear PDc HLx ZT TK r3 hcell
            obtain ⟨yb, hyb⟩ : ∃ yb, decide (0 < yo) = yb := ⟨_, rfl⟩
            obtain ⟨i0, i1, i2, i3⟩ := T7.out.q.h.cells
            obtain ⟨c0, c1, c2, c3, c4⟩ := T7.out.q.c.cells
            obtain ⟨x0, x1, x2, x3, x4⟩ := T7.out.p.x.cells
            obtain ⟨n0, n1, n2, n3, n4, n5, n6, n7⟩ := T7.out.p.d.cells
            dsimp only at i0 i1 i2 i3 c0 c1 c2 c3 c4 x0 x1 x2 x3 x4 n0 n1 n2 n3 n4 n5 n6 n7
            go_upto_region 15 with fail
            replace hyb := Lib.hid hyb
            clear i0 i1 i2 i3 c0 c1 c2 c3 c4 x0 x1 x2 x3 x4 n0 n1 n2 n3 n4 n5 n6 n7
            go_cut [162] (fun s162 wx => s162 = .bool false ∧ Hid (PL w wr p10 m n ⟨hc, hfl, hs, hd⟩ ⟨⟨xp, xe, xo, xr⟩, xk⟩ ⟨⟨yp, ye, yo, yr⟩, yk⟩ ⟨eo, ec, ef, ea, em, ⟨dc, du, dd⟩⟩ wx))
            case first =>
              simp only [List.append_eq, List.cons_append, List.nil_append]
              have hun : undef = Value.tuple #[] := rfl
              have DW := Lib.hid T7.out.fp
              clear RX' HKX hmv
              cases eo with
              | true =>
                obtain ⟨f1, ⟨f2, f3⟩, f4, f5, f6, f7, f8⟩ := FA.out
                obtain ⟨hxo, hyo, hlv⟩ := f6 rfl
                have hec : ec = false := by
                  cases ec
                  · rfl
                  · have := (f7 rfl).1; omega
                have hem := f4 hyo
                have LV := Lib.hid (fun W => LEX.out hlv W)
                clear f1 f2 f3 f4 f5 f6 f7 f8 FA HDN LEX hlv
                subst hec hem hxo
                obtain rfl : true = yb := (decide_eq_true hyo).symm.trans hyb.out
                clear hyo hyb
                apply by_tail
                case f =>
                  intro tail
                  as_aux_lemma =>
                    focus (
 refine wp_region_det (S := FP wc w.heap.size p10 m n ⟨hc, hfl, hs, hd⟩ ⟨⟨xp, xe, 0, xr⟩, xk⟩ ⟨⟨yp, ye, yo, yr⟩, yk⟩ ⟨true, false, ef, ea, 0, ⟨dc, du, dd⟩⟩) (by as_aux_lemma => kernel_rfl) (FP.fr DW.out (Fr.drew _ [])) ?_
 refine wpDet_take (i := 0) (v := ?dv57) (by as_aux_lemma => (simp only [List.getElem?_toArray, List.getElem?_cons_zero]; rfl)) (by as_aux_lemma => kernel_rfl) (by as_aux_lemma => kernel_rfl) (by as_aux_lemma => kernel_rfl) (Or.inl ⟨by rfl, ?dy57⟩) ?dr57
 case dy57 => (intro w hSw; have hS0 := hSw; (try dsimp only [FP,F5] at hSw); go_simp; refine Came.value ?_ hS0; with_reducible rfl)
 try simp only [Act.put, List.setIfInBounds_toArray, List.set_cons_zero, List.set_cons_succ]
 refine wpDet_take (i := 1) (v := ?dv58) (by as_aux_lemma => (simp only [List.getElem?_toArray, List.getElem?_cons_zero, List.getElem?_cons_succ]; rfl)) (by as_aux_lemma => kernel_rfl) (by as_aux_lemma => kernel_rfl) (by as_aux_lemma => kernel_rfl) (Or.inl ⟨by rfl, ?dy58⟩) ?dr58
 case dy58 => (intro w hSw; have hS0 := hSw; (try dsimp only [FP,F5] at hSw); go_simp; refine Came.value ?_ hS0; with_reducible rfl)
 try simp only [Act.put, List.setIfInBounds_toArray, List.set_cons_zero, List.set_cons_succ]
 refine wpDet_take (i := 2) (v := ?dv59) (by as_aux_lemma => (simp only [List.getElem?_toArray, List.getElem?_cons_zero, List.getElem?_cons_succ]; rfl)) (by as_aux_lemma => kernel_rfl) (by as_aux_lemma => kernel_rfl) (by as_aux_lemma => kernel_rfl) (Or.inl ⟨by rfl, ?dy59⟩) ?dr59
 case dy59 => (intro w hSw; go_simp; exact Came.call ((RGX.out w).mono fun e w' ⟨he, hf⟩ => ⟨he, FP.fr hSw hf⟩) (by with_reducible rfl))
 try simp only [Act.put, List.setIfInBounds_toArray, List.set_cons_zero, List.set_cons_succ]
 refine wpDet_take (i := 3) (v := ?dv60) (by as_aux_lemma => (simp only [List.getElem?_toArray, List.getElem?_cons_zero, List.getElem?_cons_succ]; rfl)) (by as_aux_lemma => kernel_rfl) (by as_aux_lemma => kernel_rfl) (by as_aux_lemma => kernel_rfl) (Or.inl ⟨by rfl, ?dy60⟩) ?dr60
 case dy60 => (intro w hSw; have hS0 := hSw; (try dsimp only [FP,F5] at hSw); go_simp; refine Came.value ?_ hS0; with_reducible rfl)
 try simp only [Act.put, List.setIfInBounds_toArray, List.set_cons_zero, List.set_cons_succ]
 refine wpDet_take (i := 4) (v := ?dv61) (by as_aux_lemma => (simp only [List.getElem?_toArray, List.getElem?_cons_zero, List.getElem?_cons_succ]; rfl)) (by as_aux_lemma => kernel_rfl) (by as_aux_lemma => kernel_rfl) (by as_aux_lemma => kernel_rfl) (Or.inl ⟨by rfl, ?dy61⟩) ?dr61
 case dy61 => (intro w hSw; have hS0 := hSw; (try dsimp only [FP,F5] at hSw); go_simp; refine Came.value ?_ hS0; with_reducible rfl)
 try simp only [Act.put, List.setIfInBounds_toArray, List.set_cons_zero, List.set_cons_succ]
 refine wpDet_take (i := 5) (v := ?dv62) (by as_aux_lemma => (simp only [List.getElem?_toArray, List.getElem?_cons_zero, List.getElem?_cons_succ]; rfl)) (by as_aux_lemma => kernel_rfl) (by as_aux_lemma => kernel_rfl) (by as_aux_lemma => kernel_rfl) (Or.inl ⟨by rfl, ?dy62⟩) ?dr62
 case dy62 => (intro w hSw; have hS0 := hSw; (try dsimp only [FP,F5] at hSw); go_simp; refine Came.value ?_ hS0; with_reducible rfl)
 try simp only [Act.put, List.setIfInBounds_toArray, List.set_cons_zero, List.set_cons_succ]
 refine wpDet_take (i := 6) (v := ?dv63) (by as_aux_lemma => (simp only [List.getElem?_toArray, List.getElem?_cons_zero, List.getElem?_cons_succ]; rfl)) (by as_aux_lemma => kernel_rfl) (by as_aux_lemma => kernel_rfl) (by as_aux_lemma => kernel_rfl) (Or.inl ⟨by rfl, ?dy63⟩) ?dr63
 case dy63 => (intro w hSw; have hS0 := hSw; (try dsimp only [FP,F5] at hSw); go_simp; refine Came.value ?_ hS0; with_reducible rfl)
 try simp only [Act.put, List.setIfInBounds_toArray, List.set_cons_zero, List.set_cons_succ]
 refine wpDet_take (i := 7) (v := ?dv64) (by as_aux_lemma => (simp only [List.getElem?_toArray, List.getElem?_cons_zero, List.getElem?_cons_succ]; rfl)) (by as_aux_lemma => kernel_rfl) (by as_aux_lemma => kernel_rfl) (by as_aux_lemma => kernel_rfl) (Or.inl ⟨by rfl, ?dy64⟩) ?dr64
 case dy64 => (intro w hSw; have hS0 := hSw; (try dsimp only [FP,F5] at hSw); go_simp; refine Came.value ?_ hS0; with_reducible rfl)
 try simp only [Act.put, List.setIfInBounds_toArray, List.set_cons_zero, List.set_cons_succ]
 refine wpDet_take (i := 8) (v := ?dv65) (by as_aux_lemma => (simp only [List.getElem?_toArray, List.getElem?_cons_zero, List.getElem?_cons_succ]; rfl)) (by as_aux_lemma => kernel_rfl) (by as_aux_lemma => kernel_rfl) (by as_aux_lemma => kernel_rfl) (Or.inl ⟨by rfl, ?dy65⟩) ?dr65
 case dy65 => (intro w hSw; have hS0 := hSw; (try dsimp only [FP,F5] at hSw); go_simp; refine Came.value ?_ hS0; with_reducible rfl)
 try simp only [Act.put, List.setIfInBounds_toArray, List.set_cons_zero, List.set_cons_succ]
 refine wpDet_take (i := 9) (v := ?dv66) (by as_aux_lemma => (simp only [List.getElem?_toArray, List.getElem?_cons_zero, List.getElem?_cons_succ]; rfl)) (by as_aux_lemma => kernel_rfl) (by as_aux_lemma => kernel_rfl) (by as_aux_lemma => kernel_rfl) (Or.inl ⟨by rfl, ?dy66⟩) ?dr66
 case dy66 => (intro w hSw; have hS0 := hSw; (try dsimp only [FP,F5] at hSw); go_simp; refine Came.value ?_ hS0; with_reducible rfl)
 try simp only [Act.put, List.setIfInBounds_toArray, List.set_cons_zero, List.set_cons_succ]
 refine wpDet_take (i := 10) (v := ?dv67) (by as_aux_lemma => (simp only [List.getElem?_toArray, List.getElem?_cons_zero, List.getElem?_cons_succ]; rfl)) (by as_aux_lemma => kernel_rfl) (by as_aux_lemma => kernel_rfl) (by as_aux_lemma => kernel_rfl) (Or.inl ⟨by rfl, ?dy67⟩) ?dr67
 case dy67 => (intro w hSw; have hS0 := hSw; (try dsimp only [FP,F5] at hSw); go_simp; refine Came.value ?_ hS0; with_reducible rfl)
 try simp only [Act.put, List.setIfInBounds_toArray, List.set_cons_zero, List.set_cons_succ]
 refine wpDet_take (i := 11) (v := ?dv68) (by as_aux_lemma => (simp only [List.getElem?_toArray, List.getElem?_cons_zero, List.getElem?_cons_succ]; rfl)) (by as_aux_lemma => kernel_rfl) (by as_aux_lemma => kernel_rfl) (by as_aux_lemma => kernel_rfl) (Or.inl ⟨by rfl, ?dy68⟩) ?dr68
 case dy68 => (intro w hSw; have hS0 := hSw; (try dsimp only [FP,F5] at hSw); go_simp; refine Came.value ?_ hS0; with_reducible rfl)
 try simp only [Act.put, List.setIfInBounds_toArray, List.set_cons_zero, List.set_cons_succ]
 refine wpDet_take (i := 12) (v := ?dv69) (by as_aux_lemma => (simp only [List.getElem?_toArray, List.getElem?_cons_zero, List.getElem?_cons_succ]; rfl)) (by as_aux_lemma => kernel_rfl) (by as_aux_lemma => kernel_rfl) (by as_aux_lemma => kernel_rfl) (Or.inl ⟨by rfl, ?dy69⟩) ?dr69
 case dy69 => (intro w hSw; have hS0 := hSw; (try dsimp only [FP,F5] at hSw); go_simp; refine Came.value ?_ hS0; with_reducible rfl)
 try simp only [Act.put, List.setIfInBounds_toArray, List.set_cons_zero, List.set_cons_succ]
 refine wpDet_take (i := 13) (v := ?dv70) (by as_aux_lemma => (simp only [List.getElem?_toArray, List.getElem?_cons_zero, List.getElem?_cons_succ]; rfl)) (by as_aux_lemma => kernel_rfl) (by as_aux_lemma => kernel_rfl) (by as_aux_lemma => kernel_rfl) (Or.inl ⟨by rfl, ?dy70⟩) ?dr70
 case dy70 => (intro w hSw; have hS0 := hSw; (try dsimp only [FP,F5] at hSw); go_simp; refine Came.value ?_ hS0; with_reducible rfl)
 try simp only [Act.put, List.setIfInBounds_toArray, List.set_cons_zero, List.set_cons_succ]
 refine wpDet_take (i := 14) (v := ?dv71) (by as_aux_lemma => (simp only [List.getElem?_toArray, List.getElem?_cons_zero, List.getElem?_cons_succ]; rfl)) (by as_aux_lemma => kernel_rfl) (by as_aux_lemma => kernel_rfl) (by as_aux_lemma => kernel_rfl) (Or.inl ⟨by rfl, ?dy71⟩) ?dr71
 case dy71 => (intro w hSw; have hS0 := hSw; (try dsimp only [FP,F5] at hSw); go_simp; refine Came.value ?_ hS0; with_reducible rfl)
 try simp only [Act.put, List.setIfInBounds_toArray, List.set_cons_zero, List.set_cons_succ]
 refine wpDet_take (i := 15) (v := ?dv72) (by as_aux_lemma => (simp only [List.getElem?_toArray, List.getElem?_cons_zero, List.getElem?_cons_succ]; rfl)) (by as_aux_lemma => kernel_rfl) (by as_aux_lemma => kernel_rfl) (by as_aux_lemma => kernel_rfl) (Or.inl ⟨by rfl, ?dy72⟩) ?dr72
 case dy72 => (intro w hSw; have hS0 := hSw; (try dsimp only [FP,F5] at hSw); go_simp; refine Came.value ?_ hS0; with_reducible rfl)
 try simp only [Act.put, List.setIfInBounds_toArray, List.set_cons_zero, List.set_cons_succ]
 refine wpDet_take (i := 16) (v := ?dv73) (by as_aux_lemma => (simp only [List.getElem?_toArray, List.getElem?_cons_zero, List.getElem?_cons_succ]; rfl)) (by as_aux_lemma => kernel_rfl) (by as_aux_lemma => kernel_rfl) (by as_aux_lemma => kernel_rfl) (Or.inl ⟨by rfl, ?dy73⟩) ?dr73
 case dy73 => (intro w hSw; have hS0 := hSw; (try dsimp only [FP,F5] at hSw); go_simp; refine Came.value ?_ hS0; with_reducible rfl)
 try simp only [Act.put, List.setIfInBounds_toArray, List.set_cons_zero, List.set_cons_succ]
 refine wpDet_take (i := 17) (v := ?dv74) (by as_aux_lemma => (simp only [List.getElem?_toArray, List.getElem?_cons_zero, List.getElem?_cons_succ]; rfl)) (by as_aux_lemma => kernel_rfl) (by as_aux_lemma => kernel_rfl) (by as_aux_lemma => kernel_rfl) (Or.inl ⟨by rfl, ?dy74⟩) ?dr74
 case dy74 => (intro w hSw; have hS0 := hSw; (try dsimp only [FP,F5] at hSw); go_simp; refine Came.value ?_ hS0; with_reducible rfl)
 try simp only [Act.put, List.setIfInBounds_toArray, List.set_cons_zero, List.set_cons_succ]
 refine wpDet_take (i := 18) (v := ?dv75) (by as_aux_lemma => (simp only [List.getElem?_toArray, List.getElem?_cons_zero, List.getElem?_cons_succ]; rfl)) (by as_aux_lemma => kernel_rfl) (by as_aux_lemma => kernel_rfl) (by as_aux_lemma => kernel_rfl) (Or.inl ⟨by rfl, ?dy75⟩) ?dr75
 case dy75 => (intro w hSw; have hS0 := hSw; (try dsimp only [FP,F5] at hSw); go_simp; refine Came.value ?_ hS0; with_reducible rfl)
 try simp only [Act.put, List.setIfInBounds_toArray, List.set_cons_zero, List.set_cons_succ]
 refine wpDet_take (i := 19) (v := ?dv76) (by as_aux_lemma => (simp only [List.getElem?_toArray, List.getElem?_cons_zero, List.getElem?_cons_succ]; rfl)) (by as_aux_lemma => kernel_rfl) (by as_aux_lemma => kernel_rfl) (by as_aux_lemma => kernel_rfl) (Or.inl ⟨by rfl, ?dy76⟩) ?dr76
 case dy76 => (intro w hSw; have hS0 := hSw; (try dsimp only [FP,F5] at hSw); go_simp; refine Came.value ?_ hS0; with_reducible rfl)
 try simp only [Act.put, List.setIfInBounds_toArray, List.set_cons_zero, List.set_cons_succ]
 refine wpDet_take (i := 20) (v := ?dv77) (by as_aux_lemma => (simp only [List.getElem?_toArray, List.getElem?_cons_zero, List.getElem?_cons_succ]; rfl)) (by as_aux_lemma => kernel_rfl) (by as_aux_lemma => kernel_rfl) (by as_aux_lemma => kernel_rfl) (Or.inl ⟨by rfl, ?dy77⟩) ?dr77
 case dy77 => (intro w hSw; have hS0 := hSw; (try dsimp only [FP,F5] at hSw); go_simp; refine Came.value ?_ hS0; with_reducible rfl)
 try simp only [Act.put, List.setIfInBounds_toArray, List.set_cons_zero, List.set_cons_succ]
 refine wpDet_take (i := 21) (v := ?dv78) (by as_aux_lemma => (simp only [List.getElem?_toArray, List.getElem?_cons_zero, List.getElem?_cons_succ]; rfl)) (by as_aux_lemma => kernel_rfl) (by as_aux_lemma => kernel_rfl) (by as_aux_lemma => kernel_rfl) (Or.inl ⟨by rfl, ?dy78⟩) ?dr78
 case dy78 => (intro w hSw; have hS0 := hSw; (try dsimp only [FP,F5] at hSw); go_simp; refine Came.value ?_ hS0; with_reducible rfl)
 try simp only [Act.put, List.setIfInBounds_toArray, List.set_cons_zero, List.set_cons_succ]
 refine wpDet_take (i := 22) (v := ?dv79) (by as_aux_lemma => (simp only [List.getElem?_toArray, List.getElem?_cons_zero, List.getElem?_cons_succ]; rfl)) (by as_aux_lemma => kernel_rfl) (by as_aux_lemma => kernel_rfl) (by as_aux_lemma => kernel_rfl) (Or.inl ⟨by rfl, ?dy79⟩) ?dr79
 case dy79 => (intro w hSw; have hS0 := hSw; (try dsimp only [FP,F5] at hSw); go_simp; refine Came.value ?_ hS0; with_reducible rfl)
 try simp only [Act.put, List.setIfInBounds_toArray, List.set_cons_zero, List.set_cons_succ]
 refine wpDet_take (i := 23) (v := ?dv80) (by as_aux_lemma => (simp only [List.getElem?_toArray, List.getElem?_cons_zero, List.getElem?_cons_succ]; rfl)) (by as_aux_lemma => kernel_rfl) (by as_aux_lemma => kernel_rfl) (by as_aux_lemma => kernel_rfl) (Or.inl ⟨by rfl, ?dy80⟩) ?dr80
 case dy80 => (intro w hSw; have hS0 := hSw; (try dsimp only [FP,F5] at hSw); go_simp; refine Came.value ?_ hS0; with_reducible rfl)
 try simp only [Act.put, List.setIfInBounds_toArray, List.set_cons_zero, List.set_cons_succ]
 refine wpDet_take (i := 24) (v := ?dv81) (by as_aux_lemma => (simp only [List.getElem?_toArray, List.getElem?_cons_zero, List.getElem?_cons_succ]; rfl)) (by as_aux_lemma => kernel_rfl) (by as_aux_lemma => kernel_rfl) (by as_aux_lemma => kernel_rfl) (Or.inl ⟨by rfl, ?dy81⟩) ?dr81
 case dy81 => (intro w hSw; have hS0 := hSw; (try dsimp only [FP,F5] at hSw); go_simp; refine Came.value ?_ hS0; with_reducible rfl)
 try simp only [Act.put, List.setIfInBounds_toArray, List.set_cons_zero, List.set_cons_succ]
 refine wpDet_take (i := 25) (v := ?dv82) (by as_aux_lemma => (simp only [List.getElem?_toArray, List.getElem?_cons_zero, List.getElem?_cons_succ]; rfl)) (by as_aux_lemma => kernel_rfl) (by as_aux_lemma => kernel_rfl) (by as_aux_lemma => kernel_rfl) (Or.inl ⟨by rfl, ?dy82⟩) ?dr82
 case dy82 => (intro w hSw; have hS0 := hSw; (try dsimp only [FP,F5] at hSw); go_simp; refine Came.value ?_ hS0; with_reducible rfl)
 try simp only [Act.put, List.setIfInBounds_toArray, List.set_cons_zero, List.set_cons_succ]
 refine wpDet_take (i := 26) (v := ?dv83) (by as_aux_lemma => (simp only [List.getElem?_toArray, List.getElem?_cons_zero, List.getElem?_cons_succ]; rfl)) (by as_aux_lemma => kernel_rfl) (by as_aux_lemma => kernel_rfl) (by as_aux_lemma => kernel_rfl) (Or.inl ⟨by rfl, ?dy83⟩) ?dr83
 case dy83 => (intro w hSw; have hS0 := hSw; (try dsimp only [FP,F5] at hSw); go_simp; refine Came.value ?_ hS0; with_reducible rfl)
 try simp only [Act.put, List.setIfInBounds_toArray, List.set_cons_zero, List.set_cons_succ]
 refine wpDet_take (i := 27) (v := ?dv84) (by as_aux_lemma => (simp only [List.getElem?_toArray, List.getElem?_cons_zero, List.getElem?_cons_succ]; rfl)) (by as_aux_lemma => kernel_rfl) (by as_aux_lemma => kernel_rfl) (by as_aux_lemma => kernel_rfl) (Or.inl ⟨by rfl, ?dy84⟩) ?dr84
 case dy84 => (intro w hSw; have hS0 := hSw; (try dsimp only [FP,F5] at hSw); go_simp; refine Came.value ?_ hS0; with_reducible rfl)
 try simp only [Act.put, List.setIfInBounds_toArray, List.set_cons_zero, List.set_cons_succ]
 refine wpDet_take (i := 28) (v := ?dv85) (by as_aux_lemma => (simp only [List.getElem?_toArray, List.getElem?_cons_zero, List.getElem?_cons_succ]; rfl)) (by as_aux_lemma => kernel_rfl) (by as_aux_lemma => kernel_rfl) (by as_aux_lemma => kernel_rfl) (Or.inl ⟨by rfl, ?dy85⟩) ?dr85
 case dy85 => (intro w hSw; have hS0 := hSw; (try dsimp only [FP,F5] at hSw); go_simp; refine Came.value ?_ hS0; with_reducible rfl)
 try simp only [Act.put, List.setIfInBounds_toArray, List.set_cons_zero, List.set_cons_succ]
 refine wpDet_take (i := 29) (v := ?dv86) (by as_aux_lemma => (simp only [List.getElem?_toArray, List.getElem?_cons_zero, List.getElem?_cons_succ]; rfl)) (by as_aux_lemma => kernel_rfl) (by as_aux_lemma => kernel_rfl) (by as_aux_lemma => kernel_rfl) (Or.inl ⟨by rfl, ?dy86⟩) ?dr86
 case dy86 => (intro w hSw; have hS0 := hSw; (try dsimp only [FP,F5] at hSw); go_simp; refine Came.value ?_ hS0; with_reducible rfl)
 try simp only [Act.put, List.setIfInBounds_toArray, List.set_cons_zero, List.set_cons_succ]
 refine wpDet_take (i := 30) (v := ?dv87) (by as_aux_lemma => (simp only [List.getElem?_toArray, List.getElem?_cons_zero, List.getElem?_cons_succ]; rfl)) (by as_aux_lemma => kernel_rfl) (by as_aux_lemma => kernel_rfl) (by as_aux_lemma => kernel_rfl) (Or.inl ⟨by rfl, ?dy87⟩) ?dr87
 case dy87 => (intro w hSw; have hS0 := hSw; (try dsimp only [FP,F5] at hSw); go_simp; refine Came.value ?_ hS0; with_reducible rfl)
 try simp only [Act.put, List.setIfInBounds_toArray, List.set_cons_zero, List.set_cons_succ]
 refine wpDet_take (i := 31) (v := undef) (by as_aux_lemma => (simp only [List.getElem?_toArray, List.getElem?_cons_zero, List.getElem?_cons_succ]; rfl)) (by as_aux_lemma => kernel_rfl) (by as_aux_lemma => kernel_rfl) (by as_aux_lemma => kernel_rfl) (Or.inr ⟨by rfl, rfl⟩) ?_
 try simp only [Act.put, List.setIfInBounds_toArray, List.set_cons_zero, List.set_cons_succ]
 refine wpDet_take (i := 32) (v := undef) (by as_aux_lemma => (simp only [List.getElem?_toArray, List.getElem?_cons_zero, List.getElem?_cons_succ]; rfl)) (by as_aux_lemma => kernel_rfl) (by as_aux_lemma => kernel_rfl) (by as_aux_lemma => kernel_rfl) (Or.inr ⟨by rfl, rfl⟩) ?_
 try simp only [Act.put, List.setIfInBounds_toArray, List.set_cons_zero, List.set_cons_succ]
 refine wpDet_take (i := 33) (v := ?dv90) (by as_aux_lemma => (simp only [List.getElem?_toArray, List.getElem?_cons_zero, List.getElem?_cons_succ]; rfl)) (by as_aux_lemma => kernel_rfl) (by as_aux_lemma => kernel_rfl) (by as_aux_lemma => kernel_rfl) (Or.inl ⟨by rfl, ?dy90⟩) ?dr90
 case dy90 => (intro w hSw; have hS0 := hSw; (try dsimp only [FP,F5] at hSw); go_simp; refine Came.value ?_ hS0; with_reducible rfl)
 try simp only [Act.put, List.setIfInBounds_toArray, List.set_cons_zero, List.set_cons_succ]
 refine wpDet_take (i := 34) (v := ?dv91) (by as_aux_lemma => (simp only [List.getElem?_toArray, List.getElem?_cons_zero, List.getElem?_cons_succ]; rfl)) (by as_aux_lemma => kernel_rfl) (by as_aux_lemma => kernel_rfl) (by as_aux_lemma => kernel_rfl) (Or.inl ⟨by rfl, ?dy91⟩) ?dr91
 case dy91 => (intro w hSw; have hS0 := hSw; (try dsimp only [FP,F5] at hSw); go_simp; refine Came.value ?_ hS0; with_reducible rfl)
 try simp only [Act.put, List.setIfInBounds_toArray, List.set_cons_zero, List.set_cons_succ]
 refine wpDet_take (i := 35) (v := ?dv92) (by as_aux_lemma => (simp only [List.getElem?_toArray, List.getElem?_cons_zero, List.getElem?_cons_succ]; rfl)) (by as_aux_lemma => kernel_rfl) (by as_aux_lemma => kernel_rfl) (by as_aux_lemma => kernel_rfl) (Or.inl ⟨by rfl, ?dy92⟩) ?dr92
 case dy92 => (intro w hSw; have hS0 := hSw; (try dsimp only [FP,F5] at hSw); go_simp; refine Came.value ?_ hS0; with_reducible rfl)
 try simp only [Act.put, List.setIfInBounds_toArray, List.set_cons_zero, List.set_cons_succ]
 refine wpDet_take (i := 36) (v := ?dv93) (by as_aux_lemma => (simp only [List.getElem?_toArray, List.getElem?_cons_zero, List.getElem?_cons_succ]; rfl)) (by as_aux_lemma => kernel_rfl) (by as_aux_lemma => kernel_rfl) (by as_aux_lemma => kernel_rfl) (Or.inl ⟨by rfl, ?dy93⟩) ?dr93
 case dy93 => (intro w hSw; have hS0 := hSw; (try dsimp only [FP,F5] at hSw); go_simp; refine Came.value ?_ hS0; with_reducible rfl)
 try simp only [Act.put, List.setIfInBounds_toArray, List.set_cons_zero, List.set_cons_succ]
 refine wpDet_take (i := 37) (v := ?dv94) (by as_aux_lemma => (simp only [List.getElem?_toArray, List.getElem?_cons_zero, List.getElem?_cons_succ]; rfl)) (by as_aux_lemma => kernel_rfl) (by as_aux_lemma => kernel_rfl) (by as_aux_lemma => kernel_rfl) (Or.inl ⟨by rfl, ?dy94⟩) ?dr94
 case dy94 => (intro w hSw; have hS0 := hSw; (try dsimp only [FP,F5] at hSw); go_simp; refine Came.value ?_ hS0; with_reducible rfl)
 try simp only [Act.put, List.setIfInBounds_toArray, List.set_cons_zero, List.set_cons_succ]
 refine wpDet_take (i := 38) (v := ?dv95) (by as_aux_lemma => (simp only [List.getElem?_toArray, List.getElem?_cons_zero, List.getElem?_cons_succ]; rfl)) (by as_aux_lemma => kernel_rfl) (by as_aux_lemma => kernel_rfl) (by as_aux_lemma => kernel_rfl) (Or.inl ⟨by rfl, ?dy95⟩) ?dr95
 case dy95 => (intro w hSw; have hS0 := hSw; (try dsimp only [FP,F5] at hSw); go_simp; refine Came.value ?_ hS0; with_reducible rfl)
 try simp only [Act.put, List.setIfInBounds_toArray, List.set_cons_zero, List.set_cons_succ]
 refine wpDet_take (i := 39) (v := ?dv96) (by as_aux_lemma => (simp only [List.getElem?_toArray, List.getElem?_cons_zero, List.getElem?_cons_succ]; rfl)) (by as_aux_lemma => kernel_rfl) (by as_aux_lemma => kernel_rfl) (by as_aux_lemma => kernel_rfl) (Or.inl ⟨by rfl, ?dy96⟩) ?dr96
 case dy96 => (intro w hSw; have hS0 := hSw; (try dsimp only [FP,F5] at hSw); go_simp; refine Came.value ?_ hS0; with_reducible rfl)
 try simp only [Act.put, List.setIfInBounds_toArray, List.set_cons_zero, List.set_cons_succ]
 refine wpDet_take (i := 40) (v := ?dv97) (by as_aux_lemma => (simp only [List.getElem?_toArray, List.getElem?_cons_zero, List.getElem?_cons_succ]; rfl)) (by as_aux_lemma => kernel_rfl) (by as_aux_lemma => kernel_rfl) (by as_aux_lemma => kernel_rfl) (Or.inl ⟨by rfl, ?dy97⟩) ?dr97
 case dy97 => (intro w hSw; have hS0 := hSw; (try dsimp only [FP,F5] at hSw); go_simp; refine Came.value ?_ hS0; with_reducible rfl)
 try simp only [Act.put, List.setIfInBounds_toArray, List.set_cons_zero, List.set_cons_succ]
 refine wpDet_take (i := 41) (v := ?dv98) (by as_aux_lemma => (simp only [List.getElem?_toArray, List.getElem?_cons_zero, List.getElem?_cons_succ]; rfl)) (by as_aux_lemma => kernel_rfl) (by as_aux_lemma => kernel_rfl) (by as_aux_lemma => kernel_rfl) (Or.inl ⟨by rfl, ?dy98⟩) ?dr98
 case dy98 => (intro w hSw; have hS0 := hSw; (try dsimp only [FP,F5] at hSw); go_simp; refine Came.value ?_ hS0; with_reducible rfl)
 try simp only [Act.put, List.setIfInBounds_toArray, List.set_cons_zero, List.set_cons_succ]
 refine wpDet_take (i := 42) (v := ?dv99) (by as_aux_lemma => (simp only [List.getElem?_toArray, List.getElem?_cons_zero, List.getElem?_cons_succ]; rfl)) (by as_aux_lemma => kernel_rfl) (by as_aux_lemma => kernel_rfl) (by as_aux_lemma => kernel_rfl) (Or.inl ⟨by rfl, ?dy99⟩) ?dr99
 case dy99 => (intro w hSw; have hS0 := hSw; (try dsimp only [FP,F5] at hSw); go_simp; refine Came.value ?_ hS0; with_reducible rfl)
 try simp only [Act.put, List.setIfInBounds_toArray, List.set_cons_zero, List.set_cons_succ]
 refine wpDet_take (i := 43) (v := ?dv100) (by as_aux_lemma => (simp only [List.getElem?_toArray, List.getElem?_cons_zero, List.getElem?_cons_succ]; rfl)) (by as_aux_lemma => kernel_rfl) (by as_aux_lemma => kernel_rfl) (by as_aux_lemma => kernel_rfl) (Or.inl ⟨by rfl, ?dy100⟩) ?dr100
 case dy100 => (intro w hSw; have hS0 := hSw; (try dsimp only [FP,F5] at hSw); go_simp; refine Came.value ?_ hS0; with_reducible rfl)
 try simp only [Act.put, List.setIfInBounds_toArray, List.set_cons_zero, List.set_cons_succ]
 refine wpDet_take (i := 44) (v := ?dv101) (by as_aux_lemma => (simp only [List.getElem?_toArray, List.getElem?_cons_zero, List.getElem?_cons_succ]; rfl)) (by as_aux_lemma => kernel_rfl) (by as_aux_lemma => kernel_rfl) (by as_aux_lemma => kernel_rfl) (Or.inl ⟨by rfl, ?dy101⟩) ?dr101
 case dy101 => (intro w hSw; have hS0 := hSw; (try dsimp only [FP,F5] at hSw); go_simp; refine Came.value ?_ hS0; with_reducible rfl)
 try simp only [Act.put, List.setIfInBounds_toArray, List.set_cons_zero, List.set_cons_succ]
 refine wpDet_take (i := 45) (v := ?dv102) (by as_aux_lemma => (simp only [List.getElem?_toArray, List.getElem?_cons_zero, List.getElem?_cons_succ]; rfl)) (by as_aux_lemma => kernel_rfl) (by as_aux_lemma => kernel_rfl) (by as_aux_lemma => kernel_rfl) (Or.inl ⟨by rfl, ?dy102⟩) ?dr102
 case dy102 => (intro w hSw; have hS0 := hSw; (try dsimp only [FP,F5] at hSw); go_simp; refine Came.value ?_ hS0; with_reducible rfl)
 try simp only [Act.put, List.setIfInBounds_toArray, List.set_cons_zero, List.set_cons_succ]
 refine wpDet_take (i := 46) (v := ?dv103) (by as_aux_lemma => (simp only [List.getElem?_toArray, List.getElem?_cons_zero, List.getElem?_cons_succ]; rfl)) (by as_aux_lemma => kernel_rfl) (by as_aux_lemma => kernel_rfl) (by as_aux_lemma => kernel_rfl) (Or.inl ⟨by rfl, ?dy103⟩) ?dr103
 case dy103 => (intro w hSw; have hS0 := hSw; (try dsimp only [FP,F5] at hSw); go_simp; refine Came.value ?_ hS0; with_reducible rfl)
 try simp only [Act.put, List.setIfInBounds_toArray, List.set_cons_zero, List.set_cons_succ]
 refine wpDet_take (i := 47) (v := ?dv104) (by as_aux_lemma => (simp only [List.getElem?_toArray, List.getElem?_cons_zero, List.getElem?_cons_succ]; rfl)) (by as_aux_lemma => kernel_rfl) (by as_aux_lemma => kernel_rfl) (by as_aux_lemma => kernel_rfl) (Or.inl ⟨by rfl, ?dy104⟩) ?dr104
 case dy104 => (intro w hSw; have hS0 := hSw; (try dsimp only [FP,F5] at hSw); go_simp; refine Came.value ?_ hS0; with_reducible rfl)
 try simp only [Act.put, List.setIfInBounds_toArray, List.set_cons_zero, List.set_cons_succ]
 refine wpDet_take (i := 48) (v := ?dv105) (by as_aux_lemma => (simp only [List.getElem?_toArray, List.getElem?_cons_zero, List.getElem?_cons_succ]; rfl)) (by as_aux_lemma => kernel_rfl) (by as_aux_lemma => kernel_rfl) (by as_aux_lemma => kernel_rfl) (Or.inl ⟨by rfl, ?dy105⟩) ?dr105
 case dy105 => (intro w hSw; have hS0 := hSw; (try dsimp only [FP,F5] at hSw); go_simp; refine Came.value ?_ hS0; with_reducible rfl)
 try simp only [Act.put, List.setIfInBounds_toArray, List.set_cons_zero, List.set_cons_succ]
 refine wpDet_take (i := 49) (v := ?dv106) (by as_aux_lemma => (simp only [List.getElem?_toArray, List.getElem?_cons_zero, List.getElem?_cons_succ]; rfl)) (by as_aux_lemma => kernel_rfl) (by as_aux_lemma => kernel_rfl) (by as_aux_lemma => kernel_rfl) (Or.inl ⟨by rfl, ?dy106⟩) ?dr106
 case dy106 => (intro w hSw; have hS0 := hSw; (try dsimp only [FP,F5] at hSw); go_simp; refine Came.value ?_ hS0; with_reducible rfl)
 try simp only [Act.put, List.setIfInBounds_toArray, List.set_cons_zero, List.set_cons_succ]
 refine wpDet_take (i := 50) (v := ?dv107) (by as_aux_lemma => (simp only [List.getElem?_toArray, List.getElem?_cons_zero, List.getElem?_cons_succ]; rfl)) (by as_aux_lemma => kernel_rfl) (by as_aux_lemma => kernel_rfl) (by as_aux_lemma => kernel_rfl) (Or.inl ⟨by rfl, ?dy107⟩) ?dr107
 case dy107 => (intro w hSw; have hS0 := hSw; (try dsimp only [FP,F5] at hSw); go_simp; refine Came.value ?_ hS0; with_reducible rfl)
 try simp only [Act.put, List.setIfInBounds_toArray, List.set_cons_zero, List.set_cons_succ]
 refine wpDet_take (i := 51) (v := ?dv108) (by as_aux_lemma => (simp only [List.getElem?_toArray, List.getElem?_cons_zero, List.getElem?_cons_succ]; rfl)) (by as_aux_lemma => kernel_rfl) (by as_aux_lemma => kernel_rfl) (by as_aux_lemma => kernel_rfl) (Or.inl ⟨by rfl, ?dy108⟩) ?dr108
 case dy108 => (intro w hSw; have hS0 := hSw; (try dsimp only [FP,F5] at hSw); go_simp; refine Came.value ?_ hS0; with_reducible rfl)
 try simp only [Act.put, List.setIfInBounds_toArray, List.set_cons_zero, List.set_cons_succ]
 refine wpDet_take (i := 52) (v := ?dv109) (by as_aux_lemma => (simp only [List.getElem?_toArray, List.getElem?_cons_zero, List.getElem?_cons_succ]; rfl)) (by as_aux_lemma => kernel_rfl) (by as_aux_lemma => kernel_rfl) (by as_aux_lemma => kernel_rfl) (Or.inl ⟨by rfl, ?dy109⟩) ?dr109
 case dy109 => (intro w hSw; go_simp; exact Came.call ((LV.out w).mono fun e w' ⟨he, hf⟩ => ⟨he, FP.fr hSw hf⟩) (by with_reducible rfl))
 try simp only [Act.put, List.setIfInBounds_toArray, List.set_cons_zero, List.set_cons_succ]
 refine wpDet_take (i := 53) (v := ?dv110) (by as_aux_lemma => (simp only [List.getElem?_toArray, List.getElem?_cons_zero, List.getElem?_cons_succ]; rfl)) (by as_aux_lemma => kernel_rfl) (by as_aux_lemma => kernel_rfl) (by as_aux_lemma => kernel_rfl) (Or.inl ⟨by rfl, ?dy110⟩) ?dr110
 case dy110 => (intro w hSw; have hS0 := hSw; (try dsimp only [FP,F5] at hSw); go_simp; refine Came.value ?_ hS0; with_reducible rfl)
 try simp only [Act.put, List.setIfInBounds_toArray, List.set_cons_zero, List.set_cons_succ]
 refine wpDet_take (i := 54) (v := ?dv111) (by as_aux_lemma => (simp only [List.getElem?_toArray, List.getElem?_cons_zero, List.getElem?_cons_succ]; rfl)) (by as_aux_lemma => kernel_rfl) (by as_aux_lemma => kernel_rfl) (by as_aux_lemma => kernel_rfl) (Or.inl ⟨by rfl, ?dy111⟩) ?dr111
 case dy111 => (intro w hSw; have hS0 := hSw; (try dsimp only [FP,F5] at hSw); go_simp; refine Came.value ?_ hS0; with_reducible rfl)
 try simp only [Act.put, List.setIfInBounds_toArray, List.set_cons_zero, List.set_cons_succ]
 refine wpDet_take (i := 55) (v := ?dv112) (by as_aux_lemma => (simp only [List.getElem?_toArray, List.getElem?_cons_zero, List.getElem?_cons_succ]; rfl)) (by as_aux_lemma => kernel_rfl) (by as_aux_lemma => kernel_rfl) (by as_aux_lemma => kernel_rfl) (Or.inl ⟨by rfl, ?dy112⟩) ?dr112
 case dy112 => (intro w hSw; have hS0 := hSw; (try dsimp only [FP,F5] at hSw); go_simp; refine Came.value ?_ hS0; with_reducible rfl)
 try simp only [Act.put, List.setIfInBounds_toArray, List.set_cons_zero, List.set_cons_succ]
 refine wpDet_take (i := 56) (v := ?dv113) (by as_aux_lemma => (simp only [List.getElem?_toArray, List.getElem?_cons_zero, List.getElem?_cons_succ]; rfl)) (by as_aux_lemma => kernel_rfl) (by as_aux_lemma => kernel_rfl) (by as_aux_lemma => kernel_rfl) (Or.inl ⟨by rfl, ?dy113⟩) ?dr113
 case dy113 => (intro w hSw; have hS0 := hSw; (try dsimp only [FP,F5] at hSw); go_simp; refine Came.value ?_ hS0; with_reducible rfl)
 try simp only [Act.put, List.setIfInBounds_toArray, List.set_cons_zero, List.set_cons_succ]
 refine wpDet_take (i := 57) (v := ?dv114) (by as_aux_lemma => (simp only [List.getElem?_toArray, List.getElem?_cons_zero, List.getElem?_cons_succ]; rfl)) (by as_aux_lemma => kernel_rfl) (by as_aux_lemma => kernel_rfl) (by as_aux_lemma => kernel_rfl) (Or.inl ⟨by rfl, ?dy114⟩) ?dr114
 case dy114 => (intro w hSw; have hS0 := hSw; (try dsimp only [FP,F5] at hSw); go_simp; refine Came.value ?_ hS0; with_reducible rfl)
 try simp only [Act.put, List.setIfInBounds_toArray, List.set_cons_zero, List.set_cons_succ]
 refine wpDet_take (i := 58) (v := ?dv115) (by as_aux_lemma => (simp only [List.getElem?_toArray, List.getElem?_cons_zero, List.getElem?_cons_succ]; rfl)) (by as_aux_lemma => kernel_rfl) (by as_aux_lemma => kernel_rfl) (by as_aux_lemma => kernel_rfl) (Or.inl ⟨by rfl, ?dy115⟩) ?dr115
 case dy115 => (intro w hSw; have hS0 := hSw; (try dsimp only [FP,F5] at hSw); go_simp; refine Came.value ?_ hS0; with_reducible rfl)
 try simp only [Act.put, List.setIfInBounds_toArray, List.set_cons_zero, List.set_cons_succ]
 refine wpDet_take (i := 59) (v := ?dv116) (by as_aux_lemma => (simp only [List.getElem?_toArray, List.getElem?_cons_zero, List.getElem?_cons_succ]; rfl)) (by as_aux_lemma => kernel_rfl) (by as_aux_lemma => kernel_rfl) (by as_aux_lemma => kernel_rfl) (Or.inl ⟨by rfl, ?dy116⟩) ?dr116
 case dy116 => (intro w hSw; have hS0 := hSw; (try dsimp only [FP,F5] at hSw); go_simp; refine Came.value ?_ hS0; with_reducible rfl)
 try simp only [Act.put, List.setIfInBounds_toArray, List.set_cons_zero, List.set_cons_succ]
 refine wpDet_take (i := 60) (v := ?dv117) (by as_aux_lemma => (simp only [List.getElem?_toArray, List.getElem?_cons_zero, List.getElem?_cons_succ]; rfl)) (by as_aux_lemma => kernel_rfl) (by as_aux_lemma => kernel_rfl) (by as_aux_lemma => kernel_rfl) (Or.inl ⟨by rfl, ?dy117⟩) ?dr117
 case dy117 => (intro w hSw; have hS0 := hSw; (try dsimp only [FP,F5] at hSw); go_simp; refine Came.value ?_ hS0; with_reducible rfl)
 try simp only [Act.put, List.setIfInBounds_toArray, List.set_cons_zero, List.set_cons_succ]
 refine wpDet_take (i := 61) (v := undef) (by as_aux_lemma => (simp only [List.getElem?_toArray, List.getElem?_cons_zero, List.getElem?_cons_succ]; rfl)) (by as_aux_lemma => kernel_rfl) (by as_aux_lemma => kernel_rfl) (by as_aux_lemma => kernel_rfl) (Or.inr ⟨by rfl, rfl⟩) ?_
 try simp only [Act.put, List.setIfInBounds_toArray, List.set_cons_zero, List.set_cons_succ]
 refine wpDet_take (i := 62) (v := undef) (by as_aux_lemma => (simp only [List.getElem?_toArray, List.getElem?_cons_zero, List.getElem?_cons_succ]; rfl)) (by as_aux_lemma => kernel_rfl) (by as_aux_lemma => kernel_rfl) (by as_aux_lemma => kernel_rfl) (Or.inr ⟨by rfl, rfl⟩) ?_
 try simp only [Act.put, List.setIfInBounds_toArray, List.set_cons_zero, List.set_cons_succ]
 refine wpDet_take (i := 63) (v := undef) (by as_aux_lemma => (simp only [List.getElem?_toArray, List.getElem?_cons_zero, List.getElem?_cons_succ]; rfl)) (by as_aux_lemma => kernel_rfl) (by as_aux_lemma => kernel_rfl) (by as_aux_lemma => kernel_rfl) (Or.inr ⟨by rfl, rfl⟩) ?_
 try simp only [Act.put, List.setIfInBounds_toArray, List.set_cons_zero, List.set_cons_succ]
 refine wpDet_take (i := 64) (v := undef) (by as_aux_lemma => (simp only [List.getElem?_toArray, List.getElem?_cons_zero, List.getElem?_cons_succ]; rfl)) (by as_aux_lemma => kernel_rfl) (by as_aux_lemma => kernel_rfl) (by as_aux_lemma => kernel_rfl) (Or.inr ⟨by rfl, rfl⟩) ?_
 try simp only [Act.put, List.setIfInBounds_toArray, List.set_cons_zero, List.set_cons_succ]
 refine wpDet_take (i := 65) (v := undef) (by as_aux_lemma => (simp only [List.getElem?_toArray, List.getElem?_cons_zero, List.getElem?_cons_succ]; rfl)) (by as_aux_lemma => kernel_rfl) (by as_aux_lemma => kernel_rfl) (by as_aux_lemma => kernel_rfl) (Or.inr ⟨by rfl, rfl⟩) ?_
 try simp only [Act.put, List.setIfInBounds_toArray, List.set_cons_zero, List.set_cons_succ]
 refine wpDet_take (i := 66) (v := undef) (by as_aux_lemma => (simp only [List.getElem?_toArray, List.getElem?_cons_zero, List.getElem?_cons_succ]; rfl)) (by as_aux_lemma => kernel_rfl) (by as_aux_lemma => kernel_rfl) (by as_aux_lemma => kernel_rfl) (Or.inr ⟨by rfl, rfl⟩) ?_
 try simp only [Act.put, List.setIfInBounds_toArray, List.set_cons_zero, List.set_cons_succ]
 refine wpDet_take (i := 67) (v := undef) (by as_aux_lemma => (simp only [List.getElem?_toArray, List.getElem?_cons_zero, List.getElem?_cons_succ]; rfl)) (by as_aux_lemma => kernel_rfl) (by as_aux_lemma => kernel_rfl) (by as_aux_lemma => kernel_rfl) (Or.inr ⟨by rfl, rfl⟩) ?_
 try simp only [Act.put, List.setIfInBounds_toArray, List.set_cons_zero, List.set_cons_succ]
 refine wpDet_take (i := 68) (v := ?dv125) (by as_aux_lemma => (simp only [List.getElem?_toArray, List.getElem?_cons_zero, List.getElem?_cons_succ]; rfl)) (by as_aux_lemma => kernel_rfl) (by as_aux_lemma => kernel_rfl) (by as_aux_lemma => kernel_rfl) (Or.inl ⟨by rfl, ?dy125⟩) ?dr125
 case dy125 => (intro w hSw; have hS0 := hSw; (try dsimp only [FP,F5] at hSw); go_simp; refine Came.value ?_ hS0; with_reducible rfl)
 try simp only [Act.put, List.setIfInBounds_toArray, List.set_cons_zero, List.set_cons_succ]
 refine wpDet_take (i := 69) (v := ?dv126) (by as_aux_lemma => (simp only [List.getElem?_toArray, List.getElem?_cons_zero, List.getElem?_cons_succ]; rfl)) (by as_aux_lemma => kernel_rfl) (by as_aux_lemma => kernel_rfl) (by as_aux_lemma => kernel_rfl) (Or.inl ⟨by rfl, ?dy126⟩) ?dr126
 case dy126 => (intro w hSw; have hS0 := hSw; (try dsimp only [FP,F5] at hSw); go_simp; refine Came.value ?_ hS0; with_reducible rfl)
 try simp only [Act.put, List.setIfInBounds_toArray, List.set_cons_zero, List.set_cons_succ]
 refine wpDet_take (i := 70) (v := ?dv127) (by as_aux_lemma => (simp only [List.getElem?_toArray, List.getElem?_cons_zero, List.getElem?_cons_succ]; rfl)) (by as_aux_lemma => kernel_rfl) (by as_aux_lemma => kernel_rfl) (by as_aux_lemma => kernel_rfl) (Or.inl ⟨by rfl, ?dy127⟩) ?dr127
 case dy127 => (intro w hSw; have hS0 := hSw; (try dsimp only [FP,F5] at hSw); go_simp; refine Came.value ?_ hS0; with_reducible rfl)
 try simp only [Act.put, List.setIfInBounds_toArray, List.set_cons_zero, List.set_cons_succ]
 refine wpDet_take (i := 71) (v := ?dv128) (by as_aux_lemma => (simp only [List.getElem?_toArray, List.getElem?_cons_zero, List.getElem?_cons_succ]; rfl)) (by as_aux_lemma => kernel_rfl) (by as_aux_lemma => kernel_rfl) (by as_aux_lemma => kernel_rfl) (Or.inl ⟨by rfl, ?dy128⟩) ?dr128
 case dy128 => (intro w hSw; have hS0 := hSw; (try dsimp only [FP,F5] at hSw); go_simp; refine Came.value ?_ hS0; with_reducible rfl)
 try simp only [Act.put, List.setIfInBounds_toArray, List.set_cons_zero, List.set_cons_succ]
 refine wpDet_take (i := 72) (v := ?dv129) (by as_aux_lemma => (simp only [List.getElem?_toArray, List.getElem?_cons_zero, List.getElem?_cons_succ]; rfl)) (by as_aux_lemma => kernel_rfl) (by as_aux_lemma => kernel_rfl) (by as_aux_lemma => kernel_rfl) (Or.inl ⟨by rfl, ?dy129⟩) ?dr129
 case dy129 => (intro w hSw; have hS0 := hSw; (try dsimp only [FP,F5] at hSw); go_simp; refine Came.value ?_ hS0; with_reducible rfl)
 try simp only [Act.put, List.setIfInBounds_toArray, List.set_cons_zero, List.set_cons_succ]
 refine wpDet_take (i := 73) (v := ?dv130) (by as_aux_lemma => (simp only [List.getElem?_toArray, List.getElem?_cons_zero, List.getElem?_cons_succ]; rfl)) (by as_aux_lemma => kernel_rfl) (by as_aux_lemma => kernel_rfl) (by as_aux_lemma => kernel_rfl) (Or.inl ⟨by rfl, ?dy130⟩) ?dr130
 case dy130 => (intro w hSw; have hS0 := hSw; (try dsimp only [FP,F5] at hSw); go_simp; refine Came.value ?_ hS0; with_reducible rfl)
 try simp only [Act.put, List.setIfInBounds_toArray, List.set_cons_zero, List.set_cons_succ]
 refine wpDet_take (i := 74) (v := ?dv131) (by as_aux_lemma => (simp only [List.getElem?_toArray, List.getElem?_cons_zero, List.getElem?_cons_succ]; rfl)) (by as_aux_lemma => kernel_rfl) (by as_aux_lemma => kernel_rfl) (by as_aux_lemma => kernel_rfl) (Or.inl ⟨by rfl, ?dy131⟩) ?dr131
 case dy131 => (intro w hSw; have hS0 := hSw; (try dsimp only [FP,F5] at hSw); go_simp; refine Came.value ?_ hS0; with_reducible rfl)
 try simp only [Act.put, List.setIfInBounds_toArray, List.set_cons_zero, List.set_cons_succ]
 refine wpDet_take (i := 75) (v := ?dv132) (by as_aux_lemma => (simp only [List.getElem?_toArray, List.getElem?_cons_zero, List.getElem?_cons_succ]; rfl)) (by as_aux_lemma => kernel_rfl) (by as_aux_lemma => kernel_rfl) (by as_aux_lemma => kernel_rfl) (Or.inl ⟨by rfl, ?dy132⟩) ?dr132
 case dy132 => (intro w hSw; have hS0 := hSw; (try dsimp only [FP,F5] at hSw); go_simp; refine Came.value ?_ hS0; with_reducible rfl)
 try simp only [Act.put, List.setIfInBounds_toArray, List.set_cons_zero, List.set_cons_succ]
 refine wpDet_take (i := 76) (v := ?dv133) (by as_aux_lemma => (simp only [List.getElem?_toArray, List.getElem?_cons_zero, List.getElem?_cons_succ]; rfl)) (by as_aux_lemma => kernel_rfl) (by as_aux_lemma => kernel_rfl) (by as_aux_lemma => kernel_rfl) (Or.inl ⟨by rfl, ?dy133⟩) ?dr133
 case dy133 => (intro w hSw; have hS0 := hSw; (try dsimp only [FP,F5] at hSw); go_simp; refine Came.value ?_ hS0; with_reducible rfl)
 try simp only [Act.put, List.setIfInBounds_toArray, List.set_cons_zero, List.set_cons_succ]
 refine wpDet_take (i := 77) (v := ?dv134) (by as_aux_lemma => (simp only [List.getElem?_toArray, List.getElem?_cons_zero, List.getElem?_cons_succ]; rfl)) (by as_aux_lemma => kernel_rfl) (by as_aux_lemma => kernel_rfl) (by as_aux_lemma => kernel_rfl) (Or.inl ⟨by rfl, ?dy134⟩) ?dr134
 case dy134 => (intro w hSw; go_simp; exact Came.call ((FLX.out w).mono fun e w' ⟨he, hf⟩ => ⟨he, FP.fr hSw hf⟩) (by with_reducible rfl))
 try simp only [Act.put, List.setIfInBounds_toArray, List.set_cons_zero, List.set_cons_succ]
 refine wpDet_take (i := 78) (v := ?dv135) (by as_aux_lemma => (simp only [List.getElem?_toArray, List.getElem?_cons_zero, List.getElem?_cons_succ]; rfl)) (by as_aux_lemma => kernel_rfl) (by as_aux_lemma => kernel_rfl) (by as_aux_lemma => kernel_rfl) (Or.inl ⟨by rfl, ?dy135⟩) ?dr135
 case dy135 => (intro w hSw; have hS0 := hSw; (try dsimp only [FP,F5] at hSw); go_simp; refine Came.value ?_ hS0; with_reducible rfl)
 try simp only [Act.put, List.setIfInBounds_toArray, List.set_cons_zero, List.set_cons_succ]
 refine wpDet_take (i := 79) (v := ?dv136) (by as_aux_lemma => (simp only [List.getElem?_toArray, List.getElem?_cons_zero, List.getElem?_cons_succ]; rfl)) (by as_aux_lemma => kernel_rfl) (by as_aux_lemma => kernel_rfl) (by as_aux_lemma => kernel_rfl) (Or.inl ⟨by rfl, ?dy136⟩) ?dr136
 case dy136 => (intro w hSw; have hS0 := hSw; (try dsimp only [FP,F5] at hSw); go_simp; refine Came.value ?_ hS0; with_reducible rfl)
 try simp only [Act.put, List.setIfInBounds_toArray, List.set_cons_zero, List.set_cons_succ]
 refine wpDet_done (by as_aux_lemma => kernel_rfl) ?_ _
 exact tail
 )
                case t =>
                  intro w8 hS
                  have F8 := Lib.hid hS.1.1
                  clear hS hun
                  go_wp2_with fail
                  go_meet
                  exact ⟨rfl, Lib.hid (T7.out.fr F8.out)⟩
              | false =>
                obtain ⟨f1, ⟨f2, f3⟩, f4, f5, f6, f7, f8⟩ := FA.out
                cases ec with
                | true =>
                  obtain ⟨hyo, hxo⟩ := f7 rfl
                  have hem := f5 hxo
                  clear f1 f2 f3 f4 f5 f6 f7 f8 FA HDN LEX
                  obtain rfl : false = yb := (decide_eq_false (by omega)).symm.trans hyb.out
                  clear hyb
                  subst hem hyo
                  have hx : decide (0 < xo) = true := decide_eq_true hxo
                  have hx2 : (xo == 0) = false := by simp; omega
                  clear hxo
                  apply by_tail
                  case f =>
                    intro tail
                    as_aux_lemma =>
                      focus (
 refine wp_region_det (S := FP wc w.heap.size p10 m n ⟨hc, hfl, hs, hd⟩ ⟨⟨xp, xe, xo, xr⟩, xk⟩ ⟨⟨yp, ye, 0, yr⟩, yk⟩ ⟨false, true, ef, ea, 0, ⟨dc, du, dd⟩⟩) (by as_aux_lemma => kernel_rfl) (FP.fr DW.out (Fr.drew _ [])) ?_
 refine wpDet_take (i := 0) (v := ?dv137) (by as_aux_lemma => (simp only [List.getElem?_toArray, List.getElem?_cons_zero]; rfl)) (by as_aux_lemma => kernel_rfl) (by as_aux_lemma => kernel_rfl) (by as_aux_lemma => kernel_rfl) (Or.inl ⟨by rfl, ?dy137⟩) ?dr137
 case dy137 => (intro w hSw; have hS0 := hSw; (try dsimp only [FP,F5] at hSw); go_simp; refine Came.value ?_ hS0; with_reducible rfl)
 try simp only [Act.put, List.setIfInBounds_toArray, List.set_cons_zero, List.set_cons_succ]
 refine wpDet_take (i := 1) (v := ?dv138) (by as_aux_lemma => (simp only [List.getElem?_toArray, List.getElem?_cons_zero, List.getElem?_cons_succ]; rfl)) (by as_aux_lemma => kernel_rfl) (by as_aux_lemma => kernel_rfl) (by as_aux_lemma => kernel_rfl) (Or.inl ⟨by rfl, ?dy138⟩) ?dr138
 case dy138 => (intro w hSw; have hS0 := hSw; (try dsimp only [FP,F5] at hSw); go_simp; refine Came.value ?_ hS0; with_reducible rfl)
 try simp only [Act.put, List.setIfInBounds_toArray, List.set_cons_zero, List.set_cons_succ]
 refine wpDet_take (i := 2) (v := ?dv139) (by as_aux_lemma => (simp only [List.getElem?_toArray, List.getElem?_cons_zero, List.getElem?_cons_succ]; rfl)) (by as_aux_lemma => kernel_rfl) (by as_aux_lemma => kernel_rfl) (by as_aux_lemma => kernel_rfl) (Or.inl ⟨by rfl, ?dy139⟩) ?dr139
 case dy139 => (intro w hSw; go_simp; exact Came.call ((RGX.out w).mono fun e w' ⟨he, hf⟩ => ⟨he, FP.fr hSw hf⟩) (by with_reducible rfl))
 try simp only [Act.put, List.setIfInBounds_toArray, List.set_cons_zero, List.set_cons_succ]
 refine wpDet_take (i := 3) (v := ?dv140) (by as_aux_lemma => (simp only [List.getElem?_toArray, List.getElem?_cons_zero, List.getElem?_cons_succ]; rfl)) (by as_aux_lemma => kernel_rfl) (by as_aux_lemma => kernel_rfl) (by as_aux_lemma => kernel_rfl) (Or.inl ⟨by rfl, ?dy140⟩) ?dr140
 case dy140 => (intro w hSw; have hS0 := hSw; (try dsimp only [FP,F5] at hSw); go_simp; refine Came.value ?_ hS0; with_reducible rfl)
 try simp only [Act.put, List.setIfInBounds_toArray, List.set_cons_zero, List.set_cons_succ]
 refine wpDet_take (i := 4) (v := ?dv141) (by as_aux_lemma => (simp only [List.getElem?_toArray, List.getElem?_cons_zero, List.getElem?_cons_succ]; rfl)) (by as_aux_lemma => kernel_rfl) (by as_aux_lemma => kernel_rfl) (by as_aux_lemma => kernel_rfl) (Or.inl ⟨by rfl, ?dy141⟩) ?dr141
 case dy141 => (intro w hSw; have hS0 := hSw; (try dsimp only [FP,F5] at hSw); go_simp; refine Came.value ?_ hS0; with_reducible rfl)
 try simp only [Act.put, List.setIfInBounds_toArray, List.set_cons_zero, List.set_cons_succ]
 refine wpDet_take (i := 5) (v := ?dv142) (by as_aux_lemma => (simp only [List.getElem?_toArray, List.getElem?_cons_zero, List.getElem?_cons_succ]; rfl)) (by as_aux_lemma => kernel_rfl) (by as_aux_lemma => kernel_rfl) (by as_aux_lemma => kernel_rfl) (Or.inl ⟨by rfl, ?dy142⟩) ?dr142
 case dy142 => (intro w hSw; have hS0 := hSw; (try dsimp only [FP,F5] at hSw); go_simp; refine Came.value ?_ hS0; with_reducible rfl)
 try simp only [Act.put, List.setIfInBounds_toArray, List.set_cons_zero, List.set_cons_succ]
 refine wpDet_take (i := 6) (v := ?dv143) (by as_aux_lemma => (simp only [List.getElem?_toArray, List.getElem?_cons_zero, List.getElem?_cons_succ]; rfl)) (by as_aux_lemma => kernel_rfl) (by as_aux_lemma => kernel_rfl) (by as_aux_lemma => kernel_rfl) (Or.inl ⟨by rfl, ?dy143⟩) ?dr143
 case dy143 => (intro w hSw; have hS0 := hSw; (try dsimp only [FP,F5] at hSw); go_simp; refine Came.value ?_ hS0; with_reducible rfl)
 try simp only [Act.put, List.setIfInBounds_toArray, List.set_cons_zero, List.set_cons_succ]
 refine wpDet_take (i := 7) (v := ?dv144) (by as_aux_lemma => (simp only [List.getElem?_toArray, List.getElem?_cons_zero, List.getElem?_cons_succ]; rfl)) (by as_aux_lemma => kernel_rfl) (by as_aux_lemma => kernel_rfl) (by as_aux_lemma => kernel_rfl) (Or.inl ⟨by rfl, ?dy144⟩) ?dr144
 case dy144 => (intro w hSw; have hS0 := hSw; (try dsimp only [FP,F5] at hSw); go_simp; refine Came.value ?_ hS0; with_reducible rfl)
 try simp only [Act.put, List.setIfInBounds_toArray, List.set_cons_zero, List.set_cons_succ]
 refine wpDet_take (i := 8) (v := ?dv145) (by as_aux_lemma => (simp only [List.getElem?_toArray, List.getElem?_cons_zero, List.getElem?_cons_succ]; rfl)) (by as_aux_lemma => kernel_rfl) (by as_aux_lemma => kernel_rfl) (by as_aux_lemma => kernel_rfl) (Or.inl ⟨by rfl, ?dy145⟩) ?dr145
 case dy145 => (intro w hSw; have hS0 := hSw; (try dsimp only [FP,F5] at hSw); go_simp; refine Came.value ?_ hS0; with_reducible rfl)
 try simp only [Act.put, List.setIfInBounds_toArray, List.set_cons_zero, List.set_cons_succ]
 refine wpDet_take (i := 9) (v := ?dv146) (by as_aux_lemma => (simp only [List.getElem?_toArray, List.getElem?_cons_zero, List.getElem?_cons_succ]; rfl)) (by as_aux_lemma => kernel_rfl) (by as_aux_lemma => kernel_rfl) (by as_aux_lemma => kernel_rfl) (Or.inl ⟨by rfl, ?dy146⟩) ?dr146
 case dy146 => (intro w hSw; have hS0 := hSw; (try dsimp only [FP,F5] at hSw); go_simp; refine Came.value ?_ hS0; with_reducible rfl)
 try simp only [Act.put, List.setIfInBounds_toArray, List.set_cons_zero, List.set_cons_succ]
 refine wpDet_take (i := 10) (v := ?dv147) (by as_aux_lemma => (simp only [List.getElem?_toArray, List.getElem?_cons_zero, List.getElem?_cons_succ]; rfl)) (by as_aux_lemma => kernel_rfl) (by as_aux_lemma => kernel_rfl) (by as_aux_lemma => kernel_rfl) (Or.inl ⟨by rfl, ?dy147⟩) ?dr147
 case dy147 => (intro w hSw; have hS0 := hSw; (try dsimp only [FP,F5] at hSw); go_simp; refine Came.value ?_ hS0; with_reducible rfl)
 try simp only [Act.put, List.setIfInBounds_toArray, List.set_cons_zero, List.set_cons_succ]
 refine wpDet_take (i := 11) (v := ?dv148) (by as_aux_lemma => (simp only [List.getElem?_toArray, List.getElem?_cons_zero, List.getElem?_cons_succ]; rfl)) (by as_aux_lemma => kernel_rfl) (by as_aux_lemma => kernel_rfl) (by as_aux_lemma => kernel_rfl) (Or.inl ⟨by rfl, ?dy148⟩) ?dr148
 case dy148 => (intro w hSw; have hS0 := hSw; (try dsimp only [FP,F5] at hSw); go_simp; refine Came.value ?_ hS0; with_reducible rfl)
 try simp only [Act.put, List.setIfInBounds_toArray, List.set_cons_zero, List.set_cons_succ]
 refine wpDet_take (i := 12) (v := ?dv149) (by as_aux_lemma => (simp only [List.getElem?_toArray, List.getElem?_cons_zero, List.getElem?_cons_succ]; rfl)) (by as_aux_lemma => kernel_rfl) (by as_aux_lemma => kernel_rfl) (by as_aux_lemma => kernel_rfl) (Or.inl ⟨by rfl, ?dy149⟩) ?dr149
 case dy149 => (intro w hSw; have hS0 := hSw; (try dsimp only [FP,F5] at hSw); go_simp; refine Came.value ?_ hS0; with_reducible rfl)
 try simp only [Act.put, List.setIfInBounds_toArray, List.set_cons_zero, List.set_cons_succ]
 refine wpDet_take (i := 13) (v := ?dv150) (by as_aux_lemma => (simp only [List.getElem?_toArray, List.getElem?_cons_zero, List.getElem?_cons_succ]; rfl)) (by as_aux_lemma => kernel_rfl) (by as_aux_lemma => kernel_rfl) (by as_aux_lemma => kernel_rfl) (Or.inl ⟨by rfl, ?dy150⟩) ?dr150
 case dy150 => (intro w hSw; have hS0 := hSw; (try dsimp only [FP,F5] at hSw); go_simp; refine Came.value ?_ hS0; with_reducible rfl)
 try simp only [Act.put, List.setIfInBounds_toArray, List.set_cons_zero, List.set_cons_succ]
 refine wpDet_take (i := 14) (v := ?dv151) (by as_aux_lemma => (simp only [List.getElem?_toArray, List.getElem?_cons_zero, List.getElem?_cons_succ]; rfl)) (by as_aux_lemma => kernel_rfl) (by as_aux_lemma => kernel_rfl) (by as_aux_lemma => kernel_rfl) (Or.inl ⟨by rfl, ?dy151⟩) ?dr151
 case dy151 => (intro w hSw; have hS0 := hSw; (try dsimp only [FP,F5] at hSw); go_simp; refine Came.value ?_ hS0; with_reducible rfl)
 try simp only [Act.put, List.setIfInBounds_toArray, List.set_cons_zero, List.set_cons_succ]
 refine wpDet_take (i := 15) (v := ?dv152) (by as_aux_lemma => (simp only [List.getElem?_toArray, List.getElem?_cons_zero, List.getElem?_cons_succ]; rfl)) (by as_aux_lemma => kernel_rfl) (by as_aux_lemma => kernel_rfl) (by as_aux_lemma => kernel_rfl) (Or.inl ⟨by rfl, ?dy152⟩) ?dr152
 case dy152 => (intro w hSw; have hS0 := hSw; (try dsimp only [FP,F5] at hSw); go_simp; refine Came.value ?_ hS0; with_reducible rfl)
 try simp only [Act.put, List.setIfInBounds_toArray, List.set_cons_zero, List.set_cons_succ]
 refine wpDet_take (i := 16) (v := ?dv153) (by as_aux_lemma => (simp only [List.getElem?_toArray, List.getElem?_cons_zero, List.getElem?_cons_succ]; rfl)) (by as_aux_lemma => kernel_rfl) (by as_aux_lemma => kernel_rfl) (by as_aux_lemma => kernel_rfl) (Or.inl ⟨by rfl, ?dy153⟩) ?dr153
 case dy153 => (intro w hSw; have hS0 := hSw; (try dsimp only [FP,F5] at hSw); go_simp; refine Came.value ?_ hS0; with_reducible rfl)
 try simp only [Act.put, List.setIfInBounds_toArray, List.set_cons_zero, List.set_cons_succ]
 refine wpDet_take (i := 17) (v := ?dv154) (by as_aux_lemma => (simp only [List.getElem?_toArray, List.getElem?_cons_zero, List.getElem?_cons_succ]; rfl)) (by as_aux_lemma => kernel_rfl) (by as_aux_lemma => kernel_rfl) (by as_aux_lemma => kernel_rfl) (Or.inl ⟨by rfl, ?dy154⟩) ?dr154
 case dy154 => (intro w hSw; have hS0 := hSw; (try dsimp only [FP,F5] at hSw); go_simp; refine Came.value ?_ hS0; with_reducible rfl)
 try simp only [Act.put, List.setIfInBounds_toArray, List.set_cons_zero, List.set_cons_succ]
 refine wpDet_take (i := 18) (v := ?dv155) (by as_aux_lemma => (simp only [List.getElem?_toArray, List.getElem?_cons_zero, List.getElem?_cons_succ]; rfl)) (by as_aux_lemma => kernel_rfl) (by as_aux_lemma => kernel_rfl) (by as_aux_lemma => kernel_rfl) (Or.inl ⟨by rfl, ?dy155⟩) ?dr155
 case dy155 => (intro w hSw; have hS0 := hSw; (try dsimp only [FP,F5] at hSw); go_simp; refine Came.value ?_ hS0; with_reducible rfl)
 try simp only [Act.put, List.setIfInBounds_toArray, List.set_cons_zero, List.set_cons_succ]
 refine wpDet_take (i := 19) (v := ?dv156) (by as_aux_lemma => (simp only [List.getElem?_toArray, List.getElem?_cons_zero, List.getElem?_cons_succ]; rfl)) (by as_aux_lemma => kernel_rfl) (by as_aux_lemma => kernel_rfl) (by as_aux_lemma => kernel_rfl) (Or.inl ⟨by rfl, ?dy156⟩) ?dr156
 case dy156 => (intro w hSw; have hS0 := hSw; (try dsimp only [FP,F5] at hSw); go_simp; refine Came.value ?_ hS0; with_reducible rfl)
 try simp only [Act.put, List.setIfInBounds_toArray, List.set_cons_zero, List.set_cons_succ]
 refine wpDet_take (i := 20) (v := ?dv157) (by as_aux_lemma => (simp only [List.getElem?_toArray, List.getElem?_cons_zero, List.getElem?_cons_succ]; rfl)) (by as_aux_lemma => kernel_rfl) (by as_aux_lemma => kernel_rfl) (by as_aux_lemma => kernel_rfl) (Or.inl ⟨by rfl, ?dy157⟩) ?dr157
 case dy157 => (intro w hSw; have hS0 := hSw; (try dsimp only [FP,F5] at hSw); go_simp; refine Came.value ?_ hS0; with_reducible rfl)
 try simp only [Act.put, List.setIfInBounds_toArray, List.set_cons_zero, List.set_cons_succ]
 refine wpDet_take (i := 21) (v := undef) (by as_aux_lemma => (simp only [List.getElem?_toArray, List.getElem?_cons_zero, List.getElem?_cons_succ]; rfl)) (by as_aux_lemma => kernel_rfl) (by as_aux_lemma => kernel_rfl) (by as_aux_lemma => kernel_rfl) (Or.inr ⟨by rfl, rfl⟩) ?_
 try simp only [Act.put, List.setIfInBounds_toArray, List.set_cons_zero, List.set_cons_succ]
 refine wpDet_take (i := 22) (v := undef) (by as_aux_lemma => (simp only [List.getElem?_toArray, List.getElem?_cons_zero, List.getElem?_cons_succ]; rfl)) (by as_aux_lemma => kernel_rfl) (by as_aux_lemma => kernel_rfl) (by as_aux_lemma => kernel_rfl) (Or.inr ⟨by rfl, rfl⟩) ?_
 try simp only [Act.put, List.setIfInBounds_toArray, List.set_cons_zero, List.set_cons_succ]
 refine wpDet_take (i := 23) (v := ?dv160) (by as_aux_lemma => (simp only [List.getElem?_toArray, List.getElem?_cons_zero, List.getElem?_cons_succ]; rfl)) (by as_aux_lemma => kernel_rfl) (by as_aux_lemma => kernel_rfl) (by as_aux_lemma => kernel_rfl) (Or.inl ⟨by rfl, ?dy160⟩) ?dr160
 case dy160 => (intro w hSw; have hS0 := hSw; (try dsimp only [FP,F5] at hSw); go_simp; refine Came.value ?_ hS0; with_reducible rfl)
 try simp only [Act.put, List.setIfInBounds_toArray, List.set_cons_zero, List.set_cons_succ]
 refine wpDet_take (i := 24) (v := ?dv161) (by as_aux_lemma => (simp only [List.getElem?_toArray, List.getElem?_cons_zero, List.getElem?_cons_succ]; rfl)) (by as_aux_lemma => kernel_rfl) (by as_aux_lemma => kernel_rfl) (by as_aux_lemma => kernel_rfl) (Or.inl ⟨by rfl, ?dy161⟩) ?dr161
 case dy161 => (intro w hSw; have hS0 := hSw; (try dsimp only [FP,F5] at hSw); go_simp; refine Came.value ?_ hS0; with_reducible rfl)
 try simp only [Act.put, List.setIfInBounds_toArray, List.set_cons_zero, List.set_cons_succ]
 refine wpDet_take (i := 25) (v := ?dv162) (by as_aux_lemma => (simp only [List.getElem?_toArray, List.getElem?_cons_zero, List.getElem?_cons_succ]; rfl)) (by as_aux_lemma => kernel_rfl) (by as_aux_lemma => kernel_rfl) (by as_aux_lemma => kernel_rfl) (Or.inl ⟨by rfl, ?dy162⟩) ?dr162
 case dy162 => (intro w hSw; have hS0 := hSw; (try dsimp only [FP,F5] at hSw); go_simp; refine Came.value ?_ hS0; with_reducible rfl)
 try simp only [Act.put, List.setIfInBounds_toArray, List.set_cons_zero, List.set_cons_succ]
 refine wpDet_take (i := 26) (v := ?dv163) (by as_aux_lemma => (simp only [List.getElem?_toArray, List.getElem?_cons_zero, List.getElem?_cons_succ]; rfl)) (by as_aux_lemma => kernel_rfl) (by as_aux_lemma => kernel_rfl) (by as_aux_lemma => kernel_rfl) (Or.inl ⟨by rfl, ?dy163⟩) ?dr163
 case dy163 => (intro w hSw; have hS0 := hSw; (try dsimp only [FP,F5] at hSw); go_simp; refine Came.value ?_ hS0; with_reducible rfl)
 try simp only [Act.put, List.setIfInBounds_toArray, List.set_cons_zero, List.set_cons_succ]
 refine wpDet_take (i := 27) (v := ?dv164) (by as_aux_lemma => (simp only [List.getElem?_toArray, List.getElem?_cons_zero, List.getElem?_cons_succ]; rfl)) (by as_aux_lemma => kernel_rfl) (by as_aux_lemma => kernel_rfl) (by as_aux_lemma => kernel_rfl) (Or.inl ⟨by rfl, ?dy164⟩) ?dr164
 case dy164 => (intro w hSw; have hS0 := hSw; (try dsimp only [FP,F5] at hSw); go_simp; refine Came.value ?_ hS0; with_reducible rfl)
 try simp only [Act.put, List.setIfInBounds_toArray, List.set_cons_zero, List.set_cons_succ]
 refine wpDet_take (i := 28) (v := ?dv165) (by as_aux_lemma => (simp only [List.getElem?_toArray, List.getElem?_cons_zero, List.getElem?_cons_succ]; rfl)) (by as_aux_lemma => kernel_rfl) (by as_aux_lemma => kernel_rfl) (by as_aux_lemma => kernel_rfl) (Or.inl ⟨by rfl, ?dy165⟩) ?dr165
 case dy165 => (intro w hSw; have hS0 := hSw; (try dsimp only [FP,F5] at hSw); go_simp; refine Came.value ?_ hS0; with_reducible rfl)
 try simp only [Act.put, List.setIfInBounds_toArray, List.set_cons_zero, List.set_cons_succ]
 refine wpDet_take (i := 29) (v := ?dv166) (by as_aux_lemma => (simp only [List.getElem?_toArray, List.getElem?_cons_zero, List.getElem?_cons_succ]; rfl)) (by as_aux_lemma => kernel_rfl) (by as_aux_lemma => kernel_rfl) (by as_aux_lemma => kernel_rfl) (Or.inl ⟨by rfl, ?dy166⟩) ?dr166
 case dy166 => (intro w hSw; have hS0 := hSw; (try dsimp only [FP,F5] at hSw); go_simp; refine Came.value ?_ hS0; with_reducible rfl)
 try simp only [Act.put, List.setIfInBounds_toArray, List.set_cons_zero, List.set_cons_succ]
 refine wpDet_take (i := 30) (v := ?dv167) (by as_aux_lemma => (simp only [List.getElem?_toArray, List.getElem?_cons_zero, List.getElem?_cons_succ]; rfl)) (by as_aux_lemma => kernel_rfl) (by as_aux_lemma => kernel_rfl) (by as_aux_lemma => kernel_rfl) (Or.inl ⟨by rfl, ?dy167⟩) ?dr167
 case dy167 => (intro w hSw; have hS0 := hSw; (try dsimp only [FP,F5] at hSw); go_simp; refine Came.value ?_ hS0; with_reducible rfl)
 try simp only [Act.put, List.setIfInBounds_toArray, List.set_cons_zero, List.set_cons_succ]
 refine wpDet_take (i := 31) (v := ?dv168) (by as_aux_lemma => (simp only [List.getElem?_toArray, List.getElem?_cons_zero, List.getElem?_cons_succ]; rfl)) (by as_aux_lemma => kernel_rfl) (by as_aux_lemma => kernel_rfl) (by as_aux_lemma => kernel_rfl) (Or.inl ⟨by rfl, ?dy168⟩) ?dr168
 case dy168 => (intro w hSw; have hS0 := hSw; (try dsimp only [FP,F5] at hSw); go_simp; refine Came.value ?_ hS0; with_reducible rfl)
 try simp only [Act.put, List.setIfInBounds_toArray, List.set_cons_zero, List.set_cons_succ]
 refine wpDet_take (i := 32) (v := ?dv169) (by as_aux_lemma => (simp only [List.getElem?_toArray, List.getElem?_cons_zero, List.getElem?_cons_succ]; rfl)) (by as_aux_lemma => kernel_rfl) (by as_aux_lemma => kernel_rfl) (by as_aux_lemma => kernel_rfl) (Or.inl ⟨by rfl, ?dy169⟩) ?dr169
 case dy169 => (intro w hSw; have hS0 := hSw; (try dsimp only [FP,F5] at hSw); go_simp; refine Came.value ?_ hS0; with_reducible rfl)
 try simp only [Act.put, List.setIfInBounds_toArray, List.set_cons_zero, List.set_cons_succ]
 refine wpDet_take (i := 33) (v := ?dv170) (by as_aux_lemma => (simp only [List.getElem?_toArray, List.getElem?_cons_zero, List.getElem?_cons_succ]; rfl)) (by as_aux_lemma => kernel_rfl) (by as_aux_lemma => kernel_rfl) (by as_aux_lemma => kernel_rfl) (Or.inl ⟨by rfl, ?dy170⟩) ?dr170
 case dy170 => (intro w hSw; have hS0 := hSw; (try dsimp only [FP,F5] at hSw); go_simp; refine Came.value ?_ hS0; with_reducible rfl)
 try simp only [Act.put, List.setIfInBounds_toArray, List.set_cons_zero, List.set_cons_succ]
 refine wpDet_take (i := 34) (v := ?dv171) (by as_aux_lemma => (simp only [List.getElem?_toArray, List.getElem?_cons_zero, List.getElem?_cons_succ]; rfl)) (by as_aux_lemma => kernel_rfl) (by as_aux_lemma => kernel_rfl) (by as_aux_lemma => kernel_rfl) (Or.inl ⟨by rfl, ?dy171⟩) ?dr171
 case dy171 => (intro w hSw; have hS0 := hSw; (try dsimp only [FP,F5] at hSw); go_simp; refine Came.value ?_ hS0; with_reducible rfl)
 try simp only [Act.put, List.setIfInBounds_toArray, List.set_cons_zero, List.set_cons_succ]
 refine wpDet_take (i := 35) (v := ?dv172) (by as_aux_lemma => (simp only [List.getElem?_toArray, List.getElem?_cons_zero, List.getElem?_cons_succ]; rfl)) (by as_aux_lemma => kernel_rfl) (by as_aux_lemma => kernel_rfl) (by as_aux_lemma => kernel_rfl) (Or.inl ⟨by rfl, ?dy172⟩) ?dr172
 case dy172 => (intro w hSw; have hS0 := hSw; (try dsimp only [FP,F5] at hSw); go_simp; refine Came.value ?_ hS0; with_reducible rfl)
 try simp only [Act.put, List.setIfInBounds_toArray, List.set_cons_zero, List.set_cons_succ]
 refine wpDet_take (i := 36) (v := ?dv173) (by as_aux_lemma => (simp only [List.getElem?_toArray, List.getElem?_cons_zero, List.getElem?_cons_succ]; rfl)) (by as_aux_lemma => kernel_rfl) (by as_aux_lemma => kernel_rfl) (by as_aux_lemma => kernel_rfl) (Or.inl ⟨by rfl, ?dy173⟩) ?dr173
 case dy173 => (intro w hSw; have hS0 := hSw; (try dsimp only [FP,F5] at hSw); go_simp; refine Came.value ?_ hS0; with_reducible rfl)
 try simp only [Act.put, List.setIfInBounds_toArray, List.set_cons_zero, List.set_cons_succ]
 refine wpDet_take (i := 37) (v := ?dv174) (by as_aux_lemma => (simp only [List.getElem?_toArray, List.getElem?_cons_zero, List.getElem?_cons_succ]; rfl)) (by as_aux_lemma => kernel_rfl) (by as_aux_lemma => kernel_rfl) (by as_aux_lemma => kernel_rfl) (Or.inl ⟨by rfl, ?dy174⟩) ?dr174
 case dy174 => (intro w hSw; have hS0 := hSw; (try dsimp only [FP,F5] at hSw); go_simp; refine Came.value ?_ hS0; with_reducible rfl)
 try simp only [Act.put, List.setIfInBounds_toArray, List.set_cons_zero, List.set_cons_succ]
 refine wpDet_take (i := 38) (v := ?dv175) (by as_aux_lemma => (simp only [List.getElem?_toArray, List.getElem?_cons_zero, List.getElem?_cons_succ]; rfl)) (by as_aux_lemma => kernel_rfl) (by as_aux_lemma => kernel_rfl) (by as_aux_lemma => kernel_rfl) (Or.inl ⟨by rfl, ?dy175⟩) ?dr175
 case dy175 => (intro w hSw; have hS0 := hSw; (try dsimp only [FP,F5] at hSw); go_simp; refine Came.value ?_ hS0; with_reducible rfl)
 try simp only [Act.put, List.setIfInBounds_toArray, List.set_cons_zero, List.set_cons_succ]
 refine wpDet_take (i := 39) (v := undef) (by as_aux_lemma => (simp only [List.getElem?_toArray, List.getElem?_cons_zero, List.getElem?_cons_succ]; rfl)) (by as_aux_lemma => kernel_rfl) (by as_aux_lemma => kernel_rfl) (by as_aux_lemma => kernel_rfl) (Or.inr ⟨by rfl, rfl⟩) ?_
 try simp only [Act.put, List.setIfInBounds_toArray, List.set_cons_zero, List.set_cons_succ]
 refine wpDet_take (i := 40) (v := undef) (by as_aux_lemma => (simp only [List.getElem?_toArray, List.getElem?_cons_zero, List.getElem?_cons_succ]; rfl)) (by as_aux_lemma => kernel_rfl) (by as_aux_lemma => kernel_rfl) (by as_aux_lemma => kernel_rfl) (Or.inr ⟨by rfl, rfl⟩) ?_
 try simp only [Act.put, List.setIfInBounds_toArray, List.set_cons_zero, List.set_cons_succ]
 refine wpDet_take (i := 41) (v := undef) (by as_aux_lemma => (simp only [List.getElem?_toArray, List.getElem?_cons_zero, List.getElem?_cons_succ]; rfl)) (by as_aux_lemma => kernel_rfl) (by as_aux_lemma => kernel_rfl) (by as_aux_lemma => kernel_rfl) (Or.inr ⟨by rfl, rfl⟩) ?_
 try simp only [Act.put, List.setIfInBounds_toArray, List.set_cons_zero, List.set_cons_succ]
 refine wpDet_take (i := 42) (v := undef) (by as_aux_lemma => (simp only [List.getElem?_toArray, List.getElem?_cons_zero, List.getElem?_cons_succ]; rfl)) (by as_aux_lemma => kernel_rfl) (by as_aux_lemma => kernel_rfl) (by as_aux_lemma => kernel_rfl) (Or.inr ⟨by rfl, rfl⟩) ?_
 try simp only [Act.put, List.setIfInBounds_toArray, List.set_cons_zero, List.set_cons_succ]
 refine wpDet_take (i := 43) (v := undef) (by as_aux_lemma => (simp only [List.getElem?_toArray, List.getElem?_cons_zero, List.getElem?_cons_succ]; rfl)) (by as_aux_lemma => kernel_rfl) (by as_aux_lemma => kernel_rfl) (by as_aux_lemma => kernel_rfl) (Or.inr ⟨by rfl, rfl⟩) ?_
 try simp only [Act.put, List.setIfInBounds_toArray, List.set_cons_zero, List.set_cons_succ]
 refine wpDet_take (i := 44) (v := undef) (by as_aux_lemma => (simp only [List.getElem?_toArray, List.getElem?_cons_zero, List.getElem?_cons_succ]; rfl)) (by as_aux_lemma => kernel_rfl) (by as_aux_lemma => kernel_rfl) (by as_aux_lemma => kernel_rfl) (Or.inr ⟨by rfl, rfl⟩) ?_
 try simp only [Act.put, List.setIfInBounds_toArray, List.set_cons_zero, List.set_cons_succ]
 refine wpDet_take (i := 45) (v := undef) (by as_aux_lemma => (simp only [List.getElem?_toArray, List.getElem?_cons_zero, List.getElem?_cons_succ]; rfl)) (by as_aux_lemma => kernel_rfl) (by as_aux_lemma => kernel_rfl) (by as_aux_lemma => kernel_rfl) (Or.inr ⟨by rfl, rfl⟩) ?_
 try simp only [Act.put, List.setIfInBounds_toArray, List.set_cons_zero, List.set_cons_succ]
 refine wpDet_take (i := 46) (v := undef) (by as_aux_lemma => (simp only [List.getElem?_toArray, List.getElem?_cons_zero, List.getElem?_cons_succ]; rfl)) (by as_aux_lemma => kernel_rfl) (by as_aux_lemma => kernel_rfl) (by as_aux_lemma => kernel_rfl) (Or.inr ⟨by rfl, rfl⟩) ?_
 try simp only [Act.put, List.setIfInBounds_toArray, List.set_cons_zero, List.set_cons_succ]
 refine wpDet_take (i := 47) (v := undef) (by as_aux_lemma => (simp only [List.getElem?_toArray, List.getElem?_cons_zero, List.getElem?_cons_succ]; rfl)) (by as_aux_lemma => kernel_rfl) (by as_aux_lemma => kernel_rfl) (by as_aux_lemma => kernel_rfl) (Or.inr ⟨by rfl, rfl⟩) ?_
 try simp only [Act.put, List.setIfInBounds_toArray, List.set_cons_zero, List.set_cons_succ]
 refine wpDet_take (i := 48) (v := undef) (by as_aux_lemma => (simp only [List.getElem?_toArray, List.getElem?_cons_zero, List.getElem?_cons_succ]; rfl)) (by as_aux_lemma => kernel_rfl) (by as_aux_lemma => kernel_rfl) (by as_aux_lemma => kernel_rfl) (Or.inr ⟨by rfl, rfl⟩) ?_
 try simp only [Act.put, List.setIfInBounds_toArray, List.set_cons_zero, List.set_cons_succ]
 refine wpDet_take (i := 49) (v := undef) (by as_aux_lemma => (simp only [List.getElem?_toArray, List.getElem?_cons_zero, List.getElem?_cons_succ]; rfl)) (by as_aux_lemma => kernel_rfl) (by as_aux_lemma => kernel_rfl) (by as_aux_lemma => kernel_rfl) (Or.inr ⟨by rfl, rfl⟩) ?_
 try simp only [Act.put, List.setIfInBounds_toArray, List.set_cons_zero, List.set_cons_succ]
 refine wpDet_take (i := 50) (v := undef) (by as_aux_lemma => (simp only [List.getElem?_toArray, List.getElem?_cons_zero, List.getElem?_cons_succ]; rfl)) (by as_aux_lemma => kernel_rfl) (by as_aux_lemma => kernel_rfl) (by as_aux_lemma => kernel_rfl) (Or.inr ⟨by rfl, rfl⟩) ?_
 try simp only [Act.put, List.setIfInBounds_toArray, List.set_cons_zero, List.set_cons_succ]
 refine wpDet_take (i := 51) (v := undef) (by as_aux_lemma => (simp only [List.getElem?_toArray, List.getElem?_cons_zero, List.getElem?_cons_succ]; rfl)) (by as_aux_lemma => kernel_rfl) (by as_aux_lemma => kernel_rfl) (by as_aux_lemma => kernel_rfl) (Or.inr ⟨by rfl, rfl⟩) ?_
 try simp only [Act.put, List.setIfInBounds_toArray, List.set_cons_zero, List.set_cons_succ]
 refine wpDet_take (i := 52) (v := undef) (by as_aux_lemma => (simp only [List.getElem?_toArray, List.getElem?_cons_zero, List.getElem?_cons_succ]; rfl)) (by as_aux_lemma => kernel_rfl) (by as_aux_lemma => kernel_rfl) (by as_aux_lemma => kernel_rfl) (Or.inr ⟨by rfl, rfl⟩) ?_
 try simp only [Act.put, List.setIfInBounds_toArray, List.set_cons_zero, List.set_cons_succ]
 refine wpDet_take (i := 53) (v := undef) (by as_aux_lemma => (simp only [List.getElem?_toArray, List.getElem?_cons_zero, List.getElem?_cons_succ]; rfl)) (by as_aux_lemma => kernel_rfl) (by as_aux_lemma => kernel_rfl) (by as_aux_lemma => kernel_rfl) (Or.inr ⟨by rfl, rfl⟩) ?_
 try simp only [Act.put, List.setIfInBounds_toArray, List.set_cons_zero, List.set_cons_succ]
 refine wpDet_take (i := 54) (v := undef) (by as_aux_lemma => (simp only [List.getElem?_toArray, List.getElem?_cons_zero, List.getElem?_cons_succ]; rfl)) (by as_aux_lemma => kernel_rfl) (by as_aux_lemma => kernel_rfl) (by as_aux_lemma => kernel_rfl) (Or.inr ⟨by rfl, rfl⟩) ?_
 try simp only [Act.put, List.setIfInBounds_toArray, List.set_cons_zero, List.set_cons_succ]
 refine wpDet_take (i := 55) (v := ?dv192) (by as_aux_lemma => (simp only [List.getElem?_toArray, List.getElem?_cons_zero, List.getElem?_cons_succ]; rfl)) (by as_aux_lemma => kernel_rfl) (by as_aux_lemma => kernel_rfl) (by as_aux_lemma => kernel_rfl) (Or.inl ⟨by rfl, ?dy192⟩) ?dr192
 case dy192 => (intro w hSw; have hS0 := hSw; (try dsimp only [FP,F5] at hSw); go_simp; refine Came.value ?_ hS0; with_reducible rfl)
 try simp only [Act.put, List.setIfInBounds_toArray, List.set_cons_zero, List.set_cons_succ]
 refine wpDet_take (i := 56) (v := ?dv193) (by as_aux_lemma => (simp only [List.getElem?_toArray, List.getElem?_cons_zero, List.getElem?_cons_succ]; rfl)) (by as_aux_lemma => kernel_rfl) (by as_aux_lemma => kernel_rfl) (by as_aux_lemma => kernel_rfl) (Or.inl ⟨by rfl, ?dy193⟩) ?dr193
 case dy193 => (intro w hSw; have hS0 := hSw; (try dsimp only [FP,F5] at hSw); go_simp; refine Came.value ?_ hS0; with_reducible rfl)
 try simp only [Act.put, List.setIfInBounds_toArray, List.set_cons_zero, List.set_cons_succ]
 refine wpDet_take (i := 57) (v := ?dv194) (by as_aux_lemma => (simp only [List.getElem?_toArray, List.getElem?_cons_zero, List.getElem?_cons_succ]; rfl)) (by as_aux_lemma => kernel_rfl) (by as_aux_lemma => kernel_rfl) (by as_aux_lemma => kernel_rfl) (Or.inl ⟨by rfl, ?dy194⟩) ?dr194
 case dy194 => (intro w hSw; have hS0 := hSw; (try dsimp only [FP,F5] at hSw); go_simp; refine Came.value ?_ hS0; with_reducible rfl)
 try simp only [Act.put, List.setIfInBounds_toArray, List.set_cons_zero, List.set_cons_succ]
 refine wpDet_take (i := 58) (v := ?dv195) (by as_aux_lemma => (simp only [List.getElem?_toArray, List.getElem?_cons_zero, List.getElem?_cons_succ]; rfl)) (by as_aux_lemma => kernel_rfl) (by as_aux_lemma => kernel_rfl) (by as_aux_lemma => kernel_rfl) (Or.inl ⟨by rfl, ?dy195⟩) ?dr195
 case dy195 => (intro w hSw; have hS0 := hSw; (try dsimp only [FP,F5] at hSw); go_simp; refine Came.value ?_ hS0; with_reducible rfl)
 try simp only [Act.put, List.setIfInBounds_toArray, List.set_cons_zero, List.set_cons_succ]
 refine wpDet_take (i := 59) (v := ?dv196) (by as_aux_lemma => (simp only [List.getElem?_toArray, List.getElem?_cons_zero, List.getElem?_cons_succ]; rfl)) (by as_aux_lemma => kernel_rfl) (by as_aux_lemma => kernel_rfl) (by as_aux_lemma => kernel_rfl) (Or.inl ⟨by rfl, ?dy196⟩) ?dr196
 case dy196 => (intro w hSw; have hS0 := hSw; (try dsimp only [FP,F5] at hSw); go_simp; refine Came.value ?_ hS0; with_reducible rfl)
 try simp only [Act.put, List.setIfInBounds_toArray, List.set_cons_zero, List.set_cons_succ]
 refine wpDet_take (i := 60) (v := ?dv197) (by as_aux_lemma => (simp only [List.getElem?_toArray, List.getElem?_cons_zero, List.getElem?_cons_succ]; rfl)) (by as_aux_lemma => kernel_rfl) (by as_aux_lemma => kernel_rfl) (by as_aux_lemma => kernel_rfl) (Or.inl ⟨by rfl, ?dy197⟩) ?dr197
 case dy197 => (intro w hSw; have hS0 := hSw; (try dsimp only [FP,F5] at hSw); go_simp; refine Came.value ?_ hS0; with_reducible rfl)
 try simp only [Act.put, List.setIfInBounds_toArray, List.set_cons_zero, List.set_cons_succ]
 refine wpDet_take (i := 61) (v := ?dv198) (by as_aux_lemma => (simp only [List.getElem?_toArray, List.getElem?_cons_zero, List.getElem?_cons_succ]; rfl)) (by as_aux_lemma => kernel_rfl) (by as_aux_lemma => kernel_rfl) (by as_aux_lemma => kernel_rfl) (Or.inl ⟨by rfl, ?dy198⟩) ?dr198
 case dy198 => (intro w hSw; have hS0 := hSw; (try dsimp only [FP,F5] at hSw); go_simp; refine Came.value ?_ hS0; with_reducible rfl)
 try simp only [Act.put, List.setIfInBounds_toArray, List.set_cons_zero, List.set_cons_succ]
 refine wpDet_take (i := 62) (v := ?dv199) (by as_aux_lemma => (simp only [List.getElem?_toArray, List.getElem?_cons_zero, List.getElem?_cons_succ]; rfl)) (by as_aux_lemma => kernel_rfl) (by as_aux_lemma => kernel_rfl) (by as_aux_lemma => kernel_rfl) (Or.inl ⟨by rfl, ?dy199⟩) ?dr199
 case dy199 => (intro w hSw; have hS0 := hSw; (try dsimp only [FP,F5] at hSw); go_simp; refine Came.value ?_ hS0; with_reducible rfl)
 try simp only [Act.put, List.setIfInBounds_toArray, List.set_cons_zero, List.set_cons_succ]
 refine wpDet_take (i := 63) (v := ?dv200) (by as_aux_lemma => (simp only [List.getElem?_toArray, List.getElem?_cons_zero, List.getElem?_cons_succ]; rfl)) (by as_aux_lemma => kernel_rfl) (by as_aux_lemma => kernel_rfl) (by as_aux_lemma => kernel_rfl) (Or.inl ⟨by rfl, ?dy200⟩) ?dr200
 case dy200 => (intro w hSw; have hS0 := hSw; (try dsimp only [FP,F5] at hSw); go_simp; refine Came.value ?_ hS0; with_reducible rfl)
 try simp only [Act.put, List.setIfInBounds_toArray, List.set_cons_zero, List.set_cons_succ]
 refine wpDet_take (i := 64) (v := ?dv201) (by as_aux_lemma => (simp only [List.getElem?_toArray, List.getElem?_cons_zero, List.getElem?_cons_succ]; rfl)) (by as_aux_lemma => kernel_rfl) (by as_aux_lemma => kernel_rfl) (by as_aux_lemma => kernel_rfl) (Or.inl ⟨by rfl, ?dy201⟩) ?dr201
 case dy201 => (intro w hSw; have hS0 := hSw; (try dsimp only [FP,F5] at hSw); go_simp; refine Came.value ?_ hS0; with_reducible rfl)
 try simp only [Act.put, List.setIfInBounds_toArray, List.set_cons_zero, List.set_cons_succ]
 refine wpDet_take (i := 65) (v := ?dv202) (by as_aux_lemma => (simp only [List.getElem?_toArray, List.getElem?_cons_zero, List.getElem?_cons_succ]; rfl)) (by as_aux_lemma => kernel_rfl) (by as_aux_lemma => kernel_rfl) (by as_aux_lemma => kernel_rfl) (Or.inl ⟨by rfl, ?dy202⟩) ?dr202
 case dy202 => (intro w hSw; have hS0 := hSw; (try dsimp only [FP,F5] at hSw); go_simp; refine Came.value ?_ hS0; with_reducible rfl)
 try simp only [Act.put, List.setIfInBounds_toArray, List.set_cons_zero, List.set_cons_succ]
 refine wpDet_take (i := 66) (v := ?dv203) (by as_aux_lemma => (simp only [List.getElem?_toArray, List.getElem?_cons_zero, List.getElem?_cons_succ]; rfl)) (by as_aux_lemma => kernel_rfl) (by as_aux_lemma => kernel_rfl) (by as_aux_lemma => kernel_rfl) (Or.inl ⟨by rfl, ?dy203⟩) ?dr203
 case dy203 => (intro w hSw; have hS0 := hSw; (try dsimp only [FP,F5] at hSw); go_simp; refine Came.value ?_ hS0; with_reducible rfl)
 try simp only [Act.put, List.setIfInBounds_toArray, List.set_cons_zero, List.set_cons_succ]
 refine wpDet_take (i := 67) (v := ?dv204) (by as_aux_lemma => (simp only [List.getElem?_toArray, List.getElem?_cons_zero, List.getElem?_cons_succ]; rfl)) (by as_aux_lemma => kernel_rfl) (by as_aux_lemma => kernel_rfl) (by as_aux_lemma => kernel_rfl) (Or.inl ⟨by rfl, ?dy204⟩) ?dr204
 case dy204 => (intro w hSw; have hS0 := hSw; (try dsimp only [FP,F5] at hSw); go_simp; refine Came.value ?_ hS0; with_reducible rfl)
 try simp only [Act.put, List.setIfInBounds_toArray, List.set_cons_zero, List.set_cons_succ]
 refine wpDet_take (i := 68) (v := ?dv205) (by as_aux_lemma => (simp only [List.getElem?_toArray, List.getElem?_cons_zero, List.getElem?_cons_succ]; rfl)) (by as_aux_lemma => kernel_rfl) (by as_aux_lemma => kernel_rfl) (by as_aux_lemma => kernel_rfl) (Or.inl ⟨by rfl, ?dy205⟩) ?dr205
 case dy205 => (intro w hSw; have hS0 := hSw; (try dsimp only [FP,F5] at hSw); go_simp; refine Came.value ?_ hS0; with_reducible rfl)
 try simp only [Act.put, List.setIfInBounds_toArray, List.set_cons_zero, List.set_cons_succ]
 refine wpDet_take (i := 69) (v := ?dv206) (by as_aux_lemma => (simp only [List.getElem?_toArray, List.getElem?_cons_zero, List.getElem?_cons_succ]; rfl)) (by as_aux_lemma => kernel_rfl) (by as_aux_lemma => kernel_rfl) (by as_aux_lemma => kernel_rfl) (Or.inl ⟨by rfl, ?dy206⟩) ?dr206
 case dy206 => (intro w hSw; have hS0 := hSw; (try dsimp only [FP,F5] at hSw); go_simp; refine Came.value ?_ hS0; with_reducible rfl)
 try simp only [Act.put, List.setIfInBounds_toArray, List.set_cons_zero, List.set_cons_succ]
 refine wpDet_take (i := 70) (v := ?dv207) (by as_aux_lemma => (simp only [List.getElem?_toArray, List.getElem?_cons_zero, List.getElem?_cons_succ]; rfl)) (by as_aux_lemma => kernel_rfl) (by as_aux_lemma => kernel_rfl) (by as_aux_lemma => kernel_rfl) (Or.inl ⟨by rfl, ?dy207⟩) ?dr207
 case dy207 => (intro w hSw; have hS0 := hSw; (try dsimp only [FP,F5] at hSw); go_simp; refine Came.value ?_ hS0; with_reducible rfl)
 try simp only [Act.put, List.setIfInBounds_toArray, List.set_cons_zero, List.set_cons_succ]
 refine wpDet_take (i := 71) (v := ?dv208) (by as_aux_lemma => (simp only [List.getElem?_toArray, List.getElem?_cons_zero, List.getElem?_cons_succ]; rfl)) (by as_aux_lemma => kernel_rfl) (by as_aux_lemma => kernel_rfl) (by as_aux_lemma => kernel_rfl) (Or.inl ⟨by rfl, ?dy208⟩) ?dr208
 case dy208 => (intro w hSw; have hS0 := hSw; (try dsimp only [FP,F5] at hSw); go_simp; refine Came.value ?_ hS0; with_reducible rfl)
 try simp only [Act.put, List.setIfInBounds_toArray, List.set_cons_zero, List.set_cons_succ]
 refine wpDet_take (i := 72) (v := ?dv209) (by as_aux_lemma => (simp only [List.getElem?_toArray, List.getElem?_cons_zero, List.getElem?_cons_succ]; rfl)) (by as_aux_lemma => kernel_rfl) (by as_aux_lemma => kernel_rfl) (by as_aux_lemma => kernel_rfl) (Or.inl ⟨by rfl, ?dy209⟩) ?dr209
 case dy209 => (intro w hSw; have hS0 := hSw; (try dsimp only [FP,F5] at hSw); go_simp; refine Came.value ?_ hS0; with_reducible rfl)
 try simp only [Act.put, List.setIfInBounds_toArray, List.set_cons_zero, List.set_cons_succ]
 refine wpDet_take (i := 73) (v := ?dv210) (by as_aux_lemma => (simp only [List.getElem?_toArray, List.getElem?_cons_zero, List.getElem?_cons_succ]; rfl)) (by as_aux_lemma => kernel_rfl) (by as_aux_lemma => kernel_rfl) (by as_aux_lemma => kernel_rfl) (Or.inl ⟨by rfl, ?dy210⟩) ?dr210
 case dy210 => (intro w hSw; have hS0 := hSw; (try dsimp only [FP,F5] at hSw); go_simp; refine Came.value ?_ hS0; with_reducible rfl)
 try simp only [Act.put, List.setIfInBounds_toArray, List.set_cons_zero, List.set_cons_succ]
 refine wpDet_take (i := 74) (v := ?dv211) (by as_aux_lemma => (simp only [List.getElem?_toArray, List.getElem?_cons_zero, List.getElem?_cons_succ]; rfl)) (by as_aux_lemma => kernel_rfl) (by as_aux_lemma => kernel_rfl) (by as_aux_lemma => kernel_rfl) (Or.inl ⟨by rfl, ?dy211⟩) ?dr211
 case dy211 => (intro w hSw; have hS0 := hSw; (try dsimp only [FP,F5] at hSw); go_simp; refine Came.value ?_ hS0; with_reducible rfl)
 try simp only [Act.put, List.setIfInBounds_toArray, List.set_cons_zero, List.set_cons_succ]
 refine wpDet_take (i := 75) (v := ?dv212) (by as_aux_lemma => (simp only [List.getElem?_toArray, List.getElem?_cons_zero, List.getElem?_cons_succ]; rfl)) (by as_aux_lemma => kernel_rfl) (by as_aux_lemma => kernel_rfl) (by as_aux_lemma => kernel_rfl) (Or.inl ⟨by rfl, ?dy212⟩) ?dr212
 case dy212 => (intro w hSw; have hS0 := hSw; (try dsimp only [FP,F5] at hSw); go_simp; refine Came.value ?_ hS0; with_reducible rfl)
 try simp only [Act.put, List.setIfInBounds_toArray, List.set_cons_zero, List.set_cons_succ]
 refine wpDet_take (i := 76) (v := ?dv213) (by as_aux_lemma => (simp only [List.getElem?_toArray, List.getElem?_cons_zero, List.getElem?_cons_succ]; rfl)) (by as_aux_lemma => kernel_rfl) (by as_aux_lemma => kernel_rfl) (by as_aux_lemma => kernel_rfl) (Or.inl ⟨by rfl, ?dy213⟩) ?dr213
 case dy213 => (intro w hSw; have hS0 := hSw; (try dsimp only [FP,F5] at hSw); go_simp; refine Came.value ?_ hS0; with_reducible rfl)
 try simp only [Act.put, List.setIfInBounds_toArray, List.set_cons_zero, List.set_cons_succ]
 refine wpDet_take (i := 77) (v := ?dv214) (by as_aux_lemma => (simp only [List.getElem?_toArray, List.getElem?_cons_zero, List.getElem?_cons_succ]; rfl)) (by as_aux_lemma => kernel_rfl) (by as_aux_lemma => kernel_rfl) (by as_aux_lemma => kernel_rfl) (Or.inl ⟨by rfl, ?dy214⟩) ?dr214
 case dy214 => (intro w hSw; go_simp; exact Came.call ((FLX.out w).mono fun e w' ⟨he, hf⟩ => ⟨he, FP.fr hSw hf⟩) (by with_reducible rfl))
 try simp only [Act.put, List.setIfInBounds_toArray, List.set_cons_zero, List.set_cons_succ]
 refine wpDet_take (i := 78) (v := ?dv215) (by as_aux_lemma => (simp only [List.getElem?_toArray, List.getElem?_cons_zero, List.getElem?_cons_succ]; rfl)) (by as_aux_lemma => kernel_rfl) (by as_aux_lemma => kernel_rfl) (by as_aux_lemma => kernel_rfl) (Or.inl ⟨by rfl, ?dy215⟩) ?dr215
 case dy215 => (intro w hSw; have hS0 := hSw; (try dsimp only [FP,F5] at hSw); go_simp; refine Came.value ?_ hS0; with_reducible rfl)
 try simp only [Act.put, List.setIfInBounds_toArray, List.set_cons_zero, List.set_cons_succ]
 refine wpDet_take (i := 79) (v := ?dv216) (by as_aux_lemma => (simp only [List.getElem?_toArray, List.getElem?_cons_zero, List.getElem?_cons_succ]; rfl)) (by as_aux_lemma => kernel_rfl) (by as_aux_lemma => kernel_rfl) (by as_aux_lemma => kernel_rfl) (Or.inl ⟨by rfl, ?dy216⟩) ?dr216
 case dy216 => (intro w hSw; have hS0 := hSw; (try dsimp only [FP,F5] at hSw); go_simp; refine Came.value ?_ hS0; with_reducible rfl)
 try simp only [Act.put, List.setIfInBounds_toArray, List.set_cons_zero, List.set_cons_succ]
 refine wpDet_done (by as_aux_lemma => kernel_rfl) ?_ _
 exact tail
 )
                  case t =>
                    intro w8 hS
                    have F8 := Lib.hid hS.1.1
                    clear hS hun
                    go_wp2_with fail
                    go_meet
                    exact ⟨rfl, Lib.hid (T7.out.fr F8.out)⟩
                | false =>
                  obtain ⟨o0, o1⟩ := HO0.out
                  have hm1 : decide (em < -1) = false := decide_eq_false (by omega)
                  have hm2 : decide (1 < em) = false := decide_eq_false (by omega)
                  by_cases hyo : 0 < yo
                  · have hem := f4 hyo
                    obtain rfl : true = yb := (decide_eq_true hyo).symm.trans hyb.out
                    clear hyb
                    by_cases hxo : 0 < xo
                    · have hx : decide (0 < xo) = true := decide_eq_true hxo
                      clear f1 f2 f3 f4 f5 f6 f7 f8 FA HDN LEX o0 o1 hyo hxo
                      subst hem
                      apply by_tail
                      case f =>
                        intro tail
                        as_aux_lemma =>
                          focus (
 refine wp_region_det (S := FP wc w.heap.size p10 m n ⟨hc, hfl, hs, hd⟩ ⟨⟨xp, xe, xo, xr⟩, xk⟩ ⟨⟨yp, ye, yo, yr⟩, yk⟩ ⟨false, false, ef, ea, 0, ⟨dc, du, dd⟩⟩) (by as_aux_lemma => kernel_rfl) (FP.fr DW.out (Fr.drew _ [])) ?_
 refine wpDet_take (i := 0) (v := ?dv217) (by as_aux_lemma => (simp only [List.getElem?_toArray, List.getElem?_cons_zero]; rfl)) (by as_aux_lemma => kernel_rfl) (by as_aux_lemma => kernel_rfl) (by as_aux_lemma => kernel_rfl) (Or.inl ⟨by rfl, ?dy217⟩) ?dr217
 case dy217 => (intro w hSw; have hS0 := hSw; (try dsimp only [FP,F5] at hSw); go_simp; refine Came.value ?_ hS0; with_reducible rfl)
 try simp only [Act.put, List.setIfInBounds_toArray, List.set_cons_zero, List.set_cons_succ]
 refine wpDet_take (i := 1) (v := ?dv218) (by as_aux_lemma => (simp only [List.getElem?_toArray, List.getElem?_cons_zero, List.getElem?_cons_succ]; rfl)) (by as_aux_lemma => kernel_rfl) (by as_aux_lemma => kernel_rfl) (by as_aux_lemma => kernel_rfl) (Or.inl ⟨by rfl, ?dy218⟩) ?dr218
 case dy218 => (intro w hSw; have hS0 := hSw; (try dsimp only [FP,F5] at hSw); go_simp; refine Came.value ?_ hS0; with_reducible rfl)
 try simp only [Act.put, List.setIfInBounds_toArray, List.set_cons_zero, List.set_cons_succ]
 refine wpDet_take (i := 2) (v := ?dv219) (by as_aux_lemma => (simp only [List.getElem?_toArray, List.getElem?_cons_zero, List.getElem?_cons_succ]; rfl)) (by as_aux_lemma => kernel_rfl) (by as_aux_lemma => kernel_rfl) (by as_aux_lemma => kernel_rfl) (Or.inl ⟨by rfl, ?dy219⟩) ?dr219
 case dy219 => (intro w hSw; go_simp; exact Came.call ((RGX.out w).mono fun e w' ⟨he, hf⟩ => ⟨he, FP.fr hSw hf⟩) (by with_reducible rfl))
 try simp only [Act.put, List.setIfInBounds_toArray, List.set_cons_zero, List.set_cons_succ]
 refine wpDet_take (i := 3) (v := ?dv220) (by as_aux_lemma => (simp only [List.getElem?_toArray, List.getElem?_cons_zero, List.getElem?_cons_succ]; rfl)) (by as_aux_lemma => kernel_rfl) (by as_aux_lemma => kernel_rfl) (by as_aux_lemma => kernel_rfl) (Or.inl ⟨by rfl, ?dy220⟩) ?dr220
 case dy220 => (intro w hSw; have hS0 := hSw; (try dsimp only [FP,F5] at hSw); go_simp; refine Came.value ?_ hS0; with_reducible rfl)
 try simp only [Act.put, List.setIfInBounds_toArray, List.set_cons_zero, List.set_cons_succ]
 refine wpDet_take (i := 4) (v := ?dv221) (by as_aux_lemma => (simp only [List.getElem?_toArray, List.getElem?_cons_zero, List.getElem?_cons_succ]; rfl)) (by as_aux_lemma => kernel_rfl) (by as_aux_lemma => kernel_rfl) (by as_aux_lemma => kernel_rfl) (Or.inl ⟨by rfl, ?dy221⟩) ?dr221
 case dy221 => (intro w hSw; have hS0 := hSw; (try dsimp only [FP,F5] at hSw); go_simp; refine Came.value ?_ hS0; with_reducible rfl)
 try simp only [Act.put, List.setIfInBounds_toArray, List.set_cons_zero, List.set_cons_succ]
 refine wpDet_take (i := 5) (v := ?dv222) (by as_aux_lemma => (simp only [List.getElem?_toArray, List.getElem?_cons_zero, List.getElem?_cons_succ]; rfl)) (by as_aux_lemma => kernel_rfl) (by as_aux_lemma => kernel_rfl) (by as_aux_lemma => kernel_rfl) (Or.inl ⟨by rfl, ?dy222⟩) ?dr222
 case dy222 => (intro w hSw; have hS0 := hSw; (try dsimp only [FP,F5] at hSw); go_simp; refine Came.value ?_ hS0; with_reducible rfl)
 try simp only [Act.put, List.setIfInBounds_toArray, List.set_cons_zero, List.set_cons_succ]
 refine wpDet_take (i := 6) (v := ?dv223) (by as_aux_lemma => (simp only [List.getElem?_toArray, List.getElem?_cons_zero, List.getElem?_cons_succ]; rfl)) (by as_aux_lemma => kernel_rfl) (by as_aux_lemma => kernel_rfl) (by as_aux_lemma => kernel_rfl) (Or.inl ⟨by rfl, ?dy223⟩) ?dr223
 case dy223 => (intro w hSw; have hS0 := hSw; (try dsimp only [FP,F5] at hSw); go_simp; refine Came.value ?_ hS0; with_reducible rfl)
 try simp only [Act.put, List.setIfInBounds_toArray, List.set_cons_zero, List.set_cons_succ]
 refine wpDet_take (i := 7) (v := ?dv224) (by as_aux_lemma => (simp only [List.getElem?_toArray, List.getElem?_cons_zero, List.getElem?_cons_succ]; rfl)) (by as_aux_lemma => kernel_rfl) (by as_aux_lemma => kernel_rfl) (by as_aux_lemma => kernel_rfl) (Or.inl ⟨by rfl, ?dy224⟩) ?dr224
 case dy224 => (intro w hSw; have hS0 := hSw; (try dsimp only [FP,F5] at hSw); go_simp; refine Came.value ?_ hS0; with_reducible rfl)
 try simp only [Act.put, List.setIfInBounds_toArray, List.set_cons_zero, List.set_cons_succ]
 refine wpDet_take (i := 8) (v := ?dv225) (by as_aux_lemma => (simp only [List.getElem?_toArray, List.getElem?_cons_zero, List.getElem?_cons_succ]; rfl)) (by as_aux_lemma => kernel_rfl) (by as_aux_lemma => kernel_rfl) (by as_aux_lemma => kernel_rfl) (Or.inl ⟨by rfl, ?dy225⟩) ?dr225
 case dy225 => (intro w hSw; have hS0 := hSw; (try dsimp only [FP,F5] at hSw); go_simp; refine Came.value ?_ hS0; with_reducible rfl)
 try simp only [Act.put, List.setIfInBounds_toArray, List.set_cons_zero, List.set_cons_succ]
 refine wpDet_take (i := 9) (v := ?dv226) (by as_aux_lemma => (simp only [List.getElem?_toArray, List.getElem?_cons_zero, List.getElem?_cons_succ]; rfl)) (by as_aux_lemma => kernel_rfl) (by as_aux_lemma => kernel_rfl) (by as_aux_lemma => kernel_rfl) (Or.inl ⟨by rfl, ?dy226⟩) ?dr226
 case dy226 => (intro w hSw; have hS0 := hSw; (try dsimp only [FP,F5] at hSw); go_simp; refine Came.value ?_ hS0; with_reducible rfl)
 try simp only [Act.put, List.setIfInBounds_toArray, List.set_cons_zero, List.set_cons_succ]
 refine wpDet_take (i := 10) (v := ?dv227) (by as_aux_lemma => (simp only [List.getElem?_toArray, List.getElem?_cons_zero, List.getElem?_cons_succ]; rfl)) (by as_aux_lemma => kernel_rfl) (by as_aux_lemma => kernel_rfl) (by as_aux_lemma => kernel_rfl) (Or.inl ⟨by rfl, ?dy227⟩) ?dr227
 case dy227 => (intro w hSw; have hS0 := hSw; (try dsimp only [FP,F5] at hSw); go_simp; refine Came.value ?_ hS0; with_reducible rfl)
 try simp only [Act.put, List.setIfInBounds_toArray, List.set_cons_zero, List.set_cons_succ]
 refine wpDet_take (i := 11) (v := ?dv228) (by as_aux_lemma => (simp only [List.getElem?_toArray, List.getElem?_cons_zero, List.getElem?_cons_succ]; rfl)) (by as_aux_lemma => kernel_rfl) (by as_aux_lemma => kernel_rfl) (by as_aux_lemma => kernel_rfl) (Or.inl ⟨by rfl, ?dy228⟩) ?dr228
 case dy228 => (intro w hSw; have hS0 := hSw; (try dsimp only [FP,F5] at hSw); go_simp; refine Came.value ?_ hS0; with_reducible rfl)
 try simp only [Act.put, List.setIfInBounds_toArray, List.set_cons_zero, List.set_cons_succ]
 refine wpDet_take (i := 12) (v := ?dv229) (by as_aux_lemma => (simp only [List.getElem?_toArray, List.getElem?_cons_zero, List.getElem?_cons_succ]; rfl)) (by as_aux_lemma => kernel_rfl) (by as_aux_lemma => kernel_rfl) (by as_aux_lemma => kernel_rfl) (Or.inl ⟨by rfl, ?dy229⟩) ?dr229
 case dy229 => (intro w hSw; have hS0 := hSw; (try dsimp only [FP,F5] at hSw); go_simp; refine Came.value ?_ hS0; with_reducible rfl)
 try simp only [Act.put, List.setIfInBounds_toArray, List.set_cons_zero, List.set_cons_succ]
 refine wpDet_take (i := 13) (v := ?dv230) (by as_aux_lemma => (simp only [List.getElem?_toArray, List.getElem?_cons_zero, List.getElem?_cons_succ]; rfl)) (by as_aux_lemma => kernel_rfl) (by as_aux_lemma => kernel_rfl) (by as_aux_lemma => kernel_rfl) (Or.inl ⟨by rfl, ?dy230⟩) ?dr230
 case dy230 => (intro w hSw; have hS0 := hSw; (try dsimp only [FP,F5] at hSw); go_simp; refine Came.value ?_ hS0; with_reducible rfl)
 try simp only [Act.put, List.setIfInBounds_toArray, List.set_cons_zero, List.set_cons_succ]
 refine wpDet_take (i := 14) (v := ?dv231) (by as_aux_lemma => (simp only [List.getElem?_toArray, List.getElem?_cons_zero, List.getElem?_cons_succ]; rfl)) (by as_aux_lemma => kernel_rfl) (by as_aux_lemma => kernel_rfl) (by as_aux_lemma => kernel_rfl) (Or.inl ⟨by rfl, ?dy231⟩) ?dr231
 case dy231 => (intro w hSw; have hS0 := hSw; (try dsimp only [FP,F5] at hSw); go_simp; refine Came.value ?_ hS0; with_reducible rfl)
 try simp only [Act.put, List.setIfInBounds_toArray, List.set_cons_zero, List.set_cons_succ]
 refine wpDet_take (i := 15) (v := ?dv232) (by as_aux_lemma => (simp only [List.getElem?_toArray, List.getElem?_cons_zero, List.getElem?_cons_succ]; rfl)) (by as_aux_lemma => kernel_rfl) (by as_aux_lemma => kernel_rfl) (by as_aux_lemma => kernel_rfl) (Or.inl ⟨by rfl, ?dy232⟩) ?dr232
 case dy232 => (intro w hSw; have hS0 := hSw; (try dsimp only [FP,F5] at hSw); go_simp; refine Came.value ?_ hS0; with_reducible rfl)
 try simp only [Act.put, List.setIfInBounds_toArray, List.set_cons_zero, List.set_cons_succ]
 refine wpDet_take (i := 16) (v := ?dv233) (by as_aux_lemma => (simp only [List.getElem?_toArray, List.getElem?_cons_zero, List.getElem?_cons_succ]; rfl)) (by as_aux_lemma => kernel_rfl) (by as_aux_lemma => kernel_rfl) (by as_aux_lemma => kernel_rfl) (Or.inl ⟨by rfl, ?dy233⟩) ?dr233
 case dy233 => (intro w hSw; have hS0 := hSw; (try dsimp only [FP,F5] at hSw); go_simp; refine Came.value ?_ hS0; with_reducible rfl)
 try simp only [Act.put, List.setIfInBounds_toArray, List.set_cons_zero, List.set_cons_succ]
 refine wpDet_take (i := 17) (v := ?dv234) (by as_aux_lemma => (simp only [List.getElem?_toArray, List.getElem?_cons_zero, List.getElem?_cons_succ]; rfl)) (by as_aux_lemma => kernel_rfl) (by as_aux_lemma => kernel_rfl) (by as_aux_lemma => kernel_rfl) (Or.inl ⟨by rfl, ?dy234⟩) ?dr234
 case dy234 => (intro w hSw; have hS0 := hSw; (try dsimp only [FP,F5] at hSw); go_simp; refine Came.value ?_ hS0; with_reducible rfl)
 try simp only [Act.put, List.setIfInBounds_toArray, List.set_cons_zero, List.set_cons_succ]
 refine wpDet_take (i := 18) (v := ?dv235) (by as_aux_lemma => (simp only [List.getElem?_toArray, List.getElem?_cons_zero, List.getElem?_cons_succ]; rfl)) (by as_aux_lemma => kernel_rfl) (by as_aux_lemma => kernel_rfl) (by as_aux_lemma => kernel_rfl) (Or.inl ⟨by rfl, ?dy235⟩) ?dr235
 case dy235 => (intro w hSw; have hS0 := hSw; (try dsimp only [FP,F5] at hSw); go_simp; refine Came.value ?_ hS0; with_reducible rfl)
 try simp only [Act.put, List.setIfInBounds_toArray, List.set_cons_zero, List.set_cons_succ]
 refine wpDet_take (i := 19) (v := ?dv236) (by as_aux_lemma => (simp only [List.getElem?_toArray, List.getElem?_cons_zero, List.getElem?_cons_succ]; rfl)) (by as_aux_lemma => kernel_rfl) (by as_aux_lemma => kernel_rfl) (by as_aux_lemma => kernel_rfl) (Or.inl ⟨by rfl, ?dy236⟩) ?dr236
 case dy236 => (intro w hSw; have hS0 := hSw; (try dsimp only [FP,F5] at hSw); go_simp; refine Came.value ?_ hS0; with_reducible rfl)
 try simp only [Act.put, List.setIfInBounds_toArray, List.set_cons_zero, List.set_cons_succ]
 refine wpDet_take (i := 20) (v := ?dv237) (by as_aux_lemma => (simp only [List.getElem?_toArray, List.getElem?_cons_zero, List.getElem?_cons_succ]; rfl)) (by as_aux_lemma => kernel_rfl) (by as_aux_lemma => kernel_rfl) (by as_aux_lemma => kernel_rfl) (Or.inl ⟨by rfl, ?dy237⟩) ?dr237
 case dy237 => (intro w hSw; have hS0 := hSw; (try dsimp only [FP,F5] at hSw); go_simp; refine Came.value ?_ hS0; with_reducible rfl)
 try simp only [Act.put, List.setIfInBounds_toArray, List.set_cons_zero, List.set_cons_succ]
 refine wpDet_take (i := 21) (v := ?dv238) (by as_aux_lemma => (simp only [List.getElem?_toArray, List.getElem?_cons_zero, List.getElem?_cons_succ]; rfl)) (by as_aux_lemma => kernel_rfl) (by as_aux_lemma => kernel_rfl) (by as_aux_lemma => kernel_rfl) (Or.inl ⟨by rfl, ?dy238⟩) ?dr238
 case dy238 => (intro w hSw; have hS0 := hSw; (try dsimp only [FP,F5] at hSw); go_simp; refine Came.value ?_ hS0; with_reducible rfl)
 try simp only [Act.put, List.setIfInBounds_toArray, List.set_cons_zero, List.set_cons_succ]
 refine wpDet_take (i := 22) (v := ?dv239) (by as_aux_lemma => (simp only [List.getElem?_toArray, List.getElem?_cons_zero, List.getElem?_cons_succ]; rfl)) (by as_aux_lemma => kernel_rfl) (by as_aux_lemma => kernel_rfl) (by as_aux_lemma => kernel_rfl) (Or.inl ⟨by rfl, ?dy239⟩) ?dr239
 case dy239 => (intro w hSw; have hS0 := hSw; (try dsimp only [FP,F5] at hSw); go_simp; refine Came.value ?_ hS0; with_reducible rfl)
 try simp only [Act.put, List.setIfInBounds_toArray, List.set_cons_zero, List.set_cons_succ]
 refine wpDet_take (i := 23) (v := ?dv240) (by as_aux_lemma => (simp only [List.getElem?_toArray, List.getElem?_cons_zero, List.getElem?_cons_succ]; rfl)) (by as_aux_lemma => kernel_rfl) (by as_aux_lemma => kernel_rfl) (by as_aux_lemma => kernel_rfl) (Or.inl ⟨by rfl, ?dy240⟩) ?dr240
 case dy240 => (intro w hSw; have hS0 := hSw; (try dsimp only [FP,F5] at hSw); go_simp; refine Came.value ?_ hS0; with_reducible rfl)
 try simp only [Act.put, List.setIfInBounds_toArray, List.set_cons_zero, List.set_cons_succ]
 refine wpDet_take (i := 24) (v := ?dv241) (by as_aux_lemma => (simp only [List.getElem?_toArray, List.getElem?_cons_zero, List.getElem?_cons_succ]; rfl)) (by as_aux_lemma => kernel_rfl) (by as_aux_lemma => kernel_rfl) (by as_aux_lemma => kernel_rfl) (Or.inl ⟨by rfl, ?dy241⟩) ?dr241
 case dy241 => (intro w hSw; have hS0 := hSw; (try dsimp only [FP,F5] at hSw); go_simp; refine Came.value ?_ hS0; with_reducible rfl)
 try simp only [Act.put, List.setIfInBounds_toArray, List.set_cons_zero, List.set_cons_succ]
 refine wpDet_take (i := 25) (v := ?dv242) (by as_aux_lemma => (simp only [List.getElem?_toArray, List.getElem?_cons_zero, List.getElem?_cons_succ]; rfl)) (by as_aux_lemma => kernel_rfl) (by as_aux_lemma => kernel_rfl) (by as_aux_lemma => kernel_rfl) (Or.inl ⟨by rfl, ?dy242⟩) ?dr242
 case dy242 => (intro w hSw; have hS0 := hSw; (try dsimp only [FP,F5] at hSw); go_simp; refine Came.value ?_ hS0; with_reducible rfl)
 try simp only [Act.put, List.setIfInBounds_toArray, List.set_cons_zero, List.set_cons_succ]
 refine wpDet_take (i := 26) (v := ?dv243) (by as_aux_lemma => (simp only [List.getElem?_toArray, List.getElem?_cons_zero, List.getElem?_cons_succ]; rfl)) (by as_aux_lemma => kernel_rfl) (by as_aux_lemma => kernel_rfl) (by as_aux_lemma => kernel_rfl) (Or.inl ⟨by rfl, ?dy243⟩) ?dr243
 case dy243 => (intro w hSw; have hS0 := hSw; (try dsimp only [FP,F5] at hSw); go_simp; refine Came.value ?_ hS0; with_reducible rfl)
 try simp only [Act.put, List.setIfInBounds_toArray, List.set_cons_zero, List.set_cons_succ]
 refine wpDet_take (i := 27) (v := ?dv244) (by as_aux_lemma => (simp only [List.getElem?_toArray, List.getElem?_cons_zero, List.getElem?_cons_succ]; rfl)) (by as_aux_lemma => kernel_rfl) (by as_aux_lemma => kernel_rfl) (by as_aux_lemma => kernel_rfl) (Or.inl ⟨by rfl, ?dy244⟩) ?dr244
 case dy244 => (intro w hSw; have hS0 := hSw; (try dsimp only [FP,F5] at hSw); go_simp; refine Came.value ?_ hS0; with_reducible rfl)
 try simp only [Act.put, List.setIfInBounds_toArray, List.set_cons_zero, List.set_cons_succ]
 refine wpDet_take (i := 28) (v := ?dv245) (by as_aux_lemma => (simp only [List.getElem?_toArray, List.getElem?_cons_zero, List.getElem?_cons_succ]; rfl)) (by as_aux_lemma => kernel_rfl) (by as_aux_lemma => kernel_rfl) (by as_aux_lemma => kernel_rfl) (Or.inl ⟨by rfl, ?dy245⟩) ?dr245
 case dy245 => (intro w hSw; have hS0 := hSw; (try dsimp only [FP,F5] at hSw); go_simp; refine Came.value ?_ hS0; with_reducible rfl)
 try simp only [Act.put, List.setIfInBounds_toArray, List.set_cons_zero, List.set_cons_succ]
 refine wpDet_take (i := 29) (v := ?dv246) (by as_aux_lemma => (simp only [List.getElem?_toArray, List.getElem?_cons_zero, List.getElem?_cons_succ]; rfl)) (by as_aux_lemma => kernel_rfl) (by as_aux_lemma => kernel_rfl) (by as_aux_lemma => kernel_rfl) (Or.inl ⟨by rfl, ?dy246⟩) ?dr246
 case dy246 => (intro w hSw; have hS0 := hSw; (try dsimp only [FP,F5] at hSw); go_simp; refine Came.value ?_ hS0; with_reducible rfl)
 try simp only [Act.put, List.setIfInBounds_toArray, List.set_cons_zero, List.set_cons_succ]
 refine wpDet_take (i := 30) (v := ?dv247) (by as_aux_lemma => (simp only [List.getElem?_toArray, List.getElem?_cons_zero, List.getElem?_cons_succ]; rfl)) (by as_aux_lemma => kernel_rfl) (by as_aux_lemma => kernel_rfl) (by as_aux_lemma => kernel_rfl) (Or.inl ⟨by rfl, ?dy247⟩) ?dr247
 case dy247 => (intro w hSw; have hS0 := hSw; (try dsimp only [FP,F5] at hSw); go_simp; refine Came.value ?_ hS0; with_reducible rfl)
 try simp only [Act.put, List.setIfInBounds_toArray, List.set_cons_zero, List.set_cons_succ]
 refine wpDet_take (i := 31) (v := ?dv248) (by as_aux_lemma => (simp only [List.getElem?_toArray, List.getElem?_cons_zero, List.getElem?_cons_succ]; rfl)) (by as_aux_lemma => kernel_rfl) (by as_aux_lemma => kernel_rfl) (by as_aux_lemma => kernel_rfl) (Or.inl ⟨by rfl, ?dy248⟩) ?dr248
 case dy248 => (intro w hSw; have hS0 := hSw; (try dsimp only [FP,F5] at hSw); go_simp; refine Came.value ?_ hS0; with_reducible rfl)
 try simp only [Act.put, List.setIfInBounds_toArray, List.set_cons_zero, List.set_cons_succ]
 refine wpDet_take (i := 32) (v := ?dv249) (by as_aux_lemma => (simp only [List.getElem?_toArray, List.getElem?_cons_zero, List.getElem?_cons_succ]; rfl)) (by as_aux_lemma => kernel_rfl) (by as_aux_lemma => kernel_rfl) (by as_aux_lemma => kernel_rfl) (Or.inl ⟨by rfl, ?dy249⟩) ?dr249
 case dy249 => (intro w hSw; have hS0 := hSw; (try dsimp only [FP,F5] at hSw); go_simp; refine Came.value ?_ hS0; with_reducible rfl)
 try simp only [Act.put, List.setIfInBounds_toArray, List.set_cons_zero, List.set_cons_succ]
 refine wpDet_take (i := 33) (v := ?dv250) (by as_aux_lemma => (simp only [List.getElem?_toArray, List.getElem?_cons_zero, List.getElem?_cons_succ]; rfl)) (by as_aux_lemma => kernel_rfl) (by as_aux_lemma => kernel_rfl) (by as_aux_lemma => kernel_rfl) (Or.inl ⟨by rfl, ?dy250⟩) ?dr250
 case dy250 => (intro w hSw; have hS0 := hSw; (try dsimp only [FP,F5] at hSw); go_simp; refine Came.value ?_ hS0; with_reducible rfl)
 try simp only [Act.put, List.setIfInBounds_toArray, List.set_cons_zero, List.set_cons_succ]
 refine wpDet_take (i := 34) (v := ?dv251) (by as_aux_lemma => (simp only [List.getElem?_toArray, List.getElem?_cons_zero, List.getElem?_cons_succ]; rfl)) (by as_aux_lemma => kernel_rfl) (by as_aux_lemma => kernel_rfl) (by as_aux_lemma => kernel_rfl) (Or.inl ⟨by rfl, ?dy251⟩) ?dr251
 case dy251 => (intro w hSw; have hS0 := hSw; (try dsimp only [FP,F5] at hSw); go_simp; refine Came.value ?_ hS0; with_reducible rfl)
 try simp only [Act.put, List.setIfInBounds_toArray, List.set_cons_zero, List.set_cons_succ]
 refine wpDet_take (i := 35) (v := ?dv252) (by as_aux_lemma => (simp only [List.getElem?_toArray, List.getElem?_cons_zero, List.getElem?_cons_succ]; rfl)) (by as_aux_lemma => kernel_rfl) (by as_aux_lemma => kernel_rfl) (by as_aux_lemma => kernel_rfl) (Or.inl ⟨by rfl, ?dy252⟩) ?dr252
 case dy252 => (intro w hSw; have hS0 := hSw; (try dsimp only [FP,F5] at hSw); go_simp; refine Came.value ?_ hS0; with_reducible rfl)
 try simp only [Act.put, List.setIfInBounds_toArray, List.set_cons_zero, List.set_cons_succ]
 refine wpDet_take (i := 36) (v := ?dv253) (by as_aux_lemma => (simp only [List.getElem?_toArray, List.getElem?_cons_zero, List.getElem?_cons_succ]; rfl)) (by as_aux_lemma => kernel_rfl) (by as_aux_lemma => kernel_rfl) (by as_aux_lemma => kernel_rfl) (Or.inl ⟨by rfl, ?dy253⟩) ?dr253
 case dy253 => (intro w hSw; have hS0 := hSw; (try dsimp only [FP,F5] at hSw); go_simp; refine Came.value ?_ hS0; with_reducible rfl)
 try simp only [Act.put, List.setIfInBounds_toArray, List.set_cons_zero, List.set_cons_succ]
 refine wpDet_take (i := 37) (v := ?dv254) (by as_aux_lemma => (simp only [List.getElem?_toArray, List.getElem?_cons_zero, List.getElem?_cons_succ]; rfl)) (by as_aux_lemma => kernel_rfl) (by as_aux_lemma => kernel_rfl) (by as_aux_lemma => kernel_rfl) (Or.inl ⟨by rfl, ?dy254⟩) ?dr254
 case dy254 => (intro w hSw; have hS0 := hSw; (try dsimp only [FP,F5] at hSw); go_simp; refine Came.value ?_ hS0; with_reducible rfl)
 try simp only [Act.put, List.setIfInBounds_toArray, List.set_cons_zero, List.set_cons_succ]
 refine wpDet_take (i := 38) (v := ?dv255) (by as_aux_lemma => (simp only [List.getElem?_toArray, List.getElem?_cons_zero, List.getElem?_cons_succ]; rfl)) (by as_aux_lemma => kernel_rfl) (by as_aux_lemma => kernel_rfl) (by as_aux_lemma => kernel_rfl) (Or.inl ⟨by rfl, ?dy255⟩) ?dr255
 case dy255 => (intro w hSw; have hS0 := hSw; (try dsimp only [FP,F5] at hSw); go_simp; refine Came.value ?_ hS0; with_reducible rfl)
 try simp only [Act.put, List.setIfInBounds_toArray, List.set_cons_zero, List.set_cons_succ]
 refine wpDet_take (i := 39) (v := undef) (by as_aux_lemma => (simp only [List.getElem?_toArray, List.getElem?_cons_zero, List.getElem?_cons_succ]; rfl)) (by as_aux_lemma => kernel_rfl) (by as_aux_lemma => kernel_rfl) (by as_aux_lemma => kernel_rfl) (Or.inr ⟨by rfl, rfl⟩) ?_
 try simp only [Act.put, List.setIfInBounds_toArray, List.set_cons_zero, List.set_cons_succ]
 refine wpDet_take (i := 40) (v := undef) (by as_aux_lemma => (simp only [List.getElem?_toArray, List.getElem?_cons_zero, List.getElem?_cons_succ]; rfl)) (by as_aux_lemma => kernel_rfl) (by as_aux_lemma => kernel_rfl) (by as_aux_lemma => kernel_rfl) (Or.inr ⟨by rfl, rfl⟩) ?_
 try simp only [Act.put, List.setIfInBounds_toArray, List.set_cons_zero, List.set_cons_succ]
 refine wpDet_take (i := 41) (v := undef) (by as_aux_lemma => (simp only [List.getElem?_toArray, List.getElem?_cons_zero, List.getElem?_cons_succ]; rfl)) (by as_aux_lemma => kernel_rfl) (by as_aux_lemma => kernel_rfl) (by as_aux_lemma => kernel_rfl) (Or.inr ⟨by rfl, rfl⟩) ?_
 try simp only [Act.put, List.setIfInBounds_toArray, List.set_cons_zero, List.set_cons_succ]
 refine wpDet_take (i := 42) (v := undef) (by as_aux_lemma => (simp only [List.getElem?_toArray, List.getElem?_cons_zero, List.getElem?_cons_succ]; rfl)) (by as_aux_lemma => kernel_rfl) (by as_aux_lemma => kernel_rfl) (by as_aux_lemma => kernel_rfl) (Or.inr ⟨by rfl, rfl⟩) ?_
 try simp only [Act.put, List.setIfInBounds_toArray, List.set_cons_zero, List.set_cons_succ]
 refine wpDet_take (i := 43) (v := undef) (by as_aux_lemma => (simp only [List.getElem?_toArray, List.getElem?_cons_zero, List.getElem?_cons_succ]; rfl)) (by as_aux_lemma => kernel_rfl) (by as_aux_lemma => kernel_rfl) (by as_aux_lemma => kernel_rfl) (Or.inr ⟨by rfl, rfl⟩) ?_
 try simp only [Act.put, List.setIfInBounds_toArray, List.set_cons_zero, List.set_cons_succ]
 refine wpDet_take (i := 44) (v := undef) (by as_aux_lemma => (simp only [List.getElem?_toArray, List.getElem?_cons_zero, List.getElem?_cons_succ]; rfl)) (by as_aux_lemma => kernel_rfl) (by as_aux_lemma => kernel_rfl) (by as_aux_lemma => kernel_rfl) (Or.inr ⟨by rfl, rfl⟩) ?_
 try simp only [Act.put, List.setIfInBounds_toArray, List.set_cons_zero, List.set_cons_succ]
 refine wpDet_take (i := 45) (v := undef) (by as_aux_lemma => (simp only [List.getElem?_toArray, List.getElem?_cons_zero, List.getElem?_cons_succ]; rfl)) (by as_aux_lemma => kernel_rfl) (by as_aux_lemma => kernel_rfl) (by as_aux_lemma => kernel_rfl) (Or.inr ⟨by rfl, rfl⟩) ?_
 try simp only [Act.put, List.setIfInBounds_toArray, List.set_cons_zero, List.set_cons_succ]
 refine wpDet_take (i := 46) (v := undef) (by as_aux_lemma => (simp only [List.getElem?_toArray, List.getElem?_cons_zero, List.getElem?_cons_succ]; rfl)) (by as_aux_lemma => kernel_rfl) (by as_aux_lemma => kernel_rfl) (by as_aux_lemma => kernel_rfl) (Or.inr ⟨by rfl, rfl⟩) ?_
 try simp only [Act.put, List.setIfInBounds_toArray, List.set_cons_zero, List.set_cons_succ]
 refine wpDet_take (i := 47) (v := undef) (by as_aux_lemma => (simp only [List.getElem?_toArray, List.getElem?_cons_zero, List.getElem?_cons_succ]; rfl)) (by as_aux_lemma => kernel_rfl) (by as_aux_lemma => kernel_rfl) (by as_aux_lemma => kernel_rfl) (Or.inr ⟨by rfl, rfl⟩) ?_
 try simp only [Act.put, List.setIfInBounds_toArray, List.set_cons_zero, List.set_cons_succ]
 refine wpDet_take (i := 48) (v := undef) (by as_aux_lemma => (simp only [List.getElem?_toArray, List.getElem?_cons_zero, List.getElem?_cons_succ]; rfl)) (by as_aux_lemma => kernel_rfl) (by as_aux_lemma => kernel_rfl) (by as_aux_lemma => kernel_rfl) (Or.inr ⟨by rfl, rfl⟩) ?_
 try simp only [Act.put, List.setIfInBounds_toArray, List.set_cons_zero, List.set_cons_succ]
 refine wpDet_take (i := 49) (v := undef) (by as_aux_lemma => (simp only [List.getElem?_toArray, List.getElem?_cons_zero, List.getElem?_cons_succ]; rfl)) (by as_aux_lemma => kernel_rfl) (by as_aux_lemma => kernel_rfl) (by as_aux_lemma => kernel_rfl) (Or.inr ⟨by rfl, rfl⟩) ?_
 try simp only [Act.put, List.setIfInBounds_toArray, List.set_cons_zero, List.set_cons_succ]
 refine wpDet_take (i := 50) (v := undef) (by as_aux_lemma => (simp only [List.getElem?_toArray, List.getElem?_cons_zero, List.getElem?_cons_succ]; rfl)) (by as_aux_lemma => kernel_rfl) (by as_aux_lemma => kernel_rfl) (by as_aux_lemma => kernel_rfl) (Or.inr ⟨by rfl, rfl⟩) ?_
 try simp only [Act.put, List.setIfInBounds_toArray, List.set_cons_zero, List.set_cons_succ]
 refine wpDet_take (i := 51) (v := undef) (by as_aux_lemma => (simp only [List.getElem?_toArray, List.getElem?_cons_zero, List.getElem?_cons_succ]; rfl)) (by as_aux_lemma => kernel_rfl) (by as_aux_lemma => kernel_rfl) (by as_aux_lemma => kernel_rfl) (Or.inr ⟨by rfl, rfl⟩) ?_
 try simp only [Act.put, List.setIfInBounds_toArray, List.set_cons_zero, List.set_cons_succ]
 refine wpDet_take (i := 52) (v := undef) (by as_aux_lemma => (simp only [List.getElem?_toArray, List.getElem?_cons_zero, List.getElem?_cons_succ]; rfl)) (by as_aux_lemma => kernel_rfl) (by as_aux_lemma => kernel_rfl) (by as_aux_lemma => kernel_rfl) (Or.inr ⟨by rfl, rfl⟩) ?_
 try simp only [Act.put, List.setIfInBounds_toArray, List.set_cons_zero, List.set_cons_succ]
 refine wpDet_take (i := 53) (v := undef) (by as_aux_lemma => (simp only [List.getElem?_toArray, List.getElem?_cons_zero, List.getElem?_cons_succ]; rfl)) (by as_aux_lemma => kernel_rfl) (by as_aux_lemma => kernel_rfl) (by as_aux_lemma => kernel_rfl) (Or.inr ⟨by rfl, rfl⟩) ?_
 try simp only [Act.put, List.setIfInBounds_toArray, List.set_cons_zero, List.set_cons_succ]
 refine wpDet_take (i := 54) (v := undef) (by as_aux_lemma => (simp only [List.getElem?_toArray, List.getElem?_cons_zero, List.getElem?_cons_succ]; rfl)) (by as_aux_lemma => kernel_rfl) (by as_aux_lemma => kernel_rfl) (by as_aux_lemma => kernel_rfl) (Or.inr ⟨by rfl, rfl⟩) ?_
 try simp only [Act.put, List.setIfInBounds_toArray, List.set_cons_zero, List.set_cons_succ]
 refine wpDet_take (i := 55) (v := ?dv272) (by as_aux_lemma => (simp only [List.getElem?_toArray, List.getElem?_cons_zero, List.getElem?_cons_succ]; rfl)) (by as_aux_lemma => kernel_rfl) (by as_aux_lemma => kernel_rfl) (by as_aux_lemma => kernel_rfl) (Or.inl ⟨by rfl, ?dy272⟩) ?dr272
 case dy272 => (intro w hSw; have hS0 := hSw; (try dsimp only [FP,F5] at hSw); go_simp; refine Came.value ?_ hS0; with_reducible rfl)
 try simp only [Act.put, List.setIfInBounds_toArray, List.set_cons_zero, List.set_cons_succ]
 refine wpDet_take (i := 56) (v := ?dv273) (by as_aux_lemma => (simp only [List.getElem?_toArray, List.getElem?_cons_zero, List.getElem?_cons_succ]; rfl)) (by as_aux_lemma => kernel_rfl) (by as_aux_lemma => kernel_rfl) (by as_aux_lemma => kernel_rfl) (Or.inl ⟨by rfl, ?dy273⟩) ?dr273
 case dy273 => (intro w hSw; have hS0 := hSw; (try dsimp only [FP,F5] at hSw); go_simp; refine Came.value ?_ hS0; with_reducible rfl)
 try simp only [Act.put, List.setIfInBounds_toArray, List.set_cons_zero, List.set_cons_succ]
 refine wpDet_take (i := 57) (v := ?dv274) (by as_aux_lemma => (simp only [List.getElem?_toArray, List.getElem?_cons_zero, List.getElem?_cons_succ]; rfl)) (by as_aux_lemma => kernel_rfl) (by as_aux_lemma => kernel_rfl) (by as_aux_lemma => kernel_rfl) (Or.inl ⟨by rfl, ?dy274⟩) ?dr274
 case dy274 => (intro w hSw; have hS0 := hSw; (try dsimp only [FP,F5] at hSw); go_simp; refine Came.value ?_ hS0; with_reducible rfl)
 try simp only [Act.put, List.setIfInBounds_toArray, List.set_cons_zero, List.set_cons_succ]
 refine wpDet_take (i := 58) (v := ?dv275) (by as_aux_lemma => (simp only [List.getElem?_toArray, List.getElem?_cons_zero, List.getElem?_cons_succ]; rfl)) (by as_aux_lemma => kernel_rfl) (by as_aux_lemma => kernel_rfl) (by as_aux_lemma => kernel_rfl) (Or.inl ⟨by rfl, ?dy275⟩) ?dr275
 case dy275 => (intro w hSw; have hS0 := hSw; (try dsimp only [FP,F5] at hSw); go_simp; refine Came.value ?_ hS0; with_reducible rfl)
 try simp only [Act.put, List.setIfInBounds_toArray, List.set_cons_zero, List.set_cons_succ]
 refine wpDet_take (i := 59) (v := ?dv276) (by as_aux_lemma => (simp only [List.getElem?_toArray, List.getElem?_cons_zero, List.getElem?_cons_succ]; rfl)) (by as_aux_lemma => kernel_rfl) (by as_aux_lemma => kernel_rfl) (by as_aux_lemma => kernel_rfl) (Or.inl ⟨by rfl, ?dy276⟩) ?dr276
 case dy276 => (intro w hSw; have hS0 := hSw; (try dsimp only [FP,F5] at hSw); go_simp; refine Came.value ?_ hS0; with_reducible rfl)
 try simp only [Act.put, List.setIfInBounds_toArray, List.set_cons_zero, List.set_cons_succ]
 refine wpDet_take (i := 60) (v := ?dv277) (by as_aux_lemma => (simp only [List.getElem?_toArray, List.getElem?_cons_zero, List.getElem?_cons_succ]; rfl)) (by as_aux_lemma => kernel_rfl) (by as_aux_lemma => kernel_rfl) (by as_aux_lemma => kernel_rfl) (Or.inl ⟨by rfl, ?dy277⟩) ?dr277
 case dy277 => (intro w hSw; have hS0 := hSw; (try dsimp only [FP,F5] at hSw); go_simp; refine Came.value ?_ hS0; with_reducible rfl)
 try simp only [Act.put, List.setIfInBounds_toArray, List.set_cons_zero, List.set_cons_succ]
 refine wpDet_take (i := 61) (v := undef) (by as_aux_lemma => (simp only [List.getElem?_toArray, List.getElem?_cons_zero, List.getElem?_cons_succ]; rfl)) (by as_aux_lemma => kernel_rfl) (by as_aux_lemma => kernel_rfl) (by as_aux_lemma => kernel_rfl) (Or.inr ⟨by rfl, rfl⟩) ?_
 try simp only [Act.put, List.setIfInBounds_toArray, List.set_cons_zero, List.set_cons_succ]
 refine wpDet_take (i := 62) (v := undef) (by as_aux_lemma => (simp only [List.getElem?_toArray, List.getElem?_cons_zero, List.getElem?_cons_succ]; rfl)) (by as_aux_lemma => kernel_rfl) (by as_aux_lemma => kernel_rfl) (by as_aux_lemma => kernel_rfl) (Or.inr ⟨by rfl, rfl⟩) ?_
 try simp only [Act.put, List.setIfInBounds_toArray, List.set_cons_zero, List.set_cons_succ]
 refine wpDet_take (i := 63) (v := undef) (by as_aux_lemma => (simp only [List.getElem?_toArray, List.getElem?_cons_zero, List.getElem?_cons_succ]; rfl)) (by as_aux_lemma => kernel_rfl) (by as_aux_lemma => kernel_rfl) (by as_aux_lemma => kernel_rfl) (Or.inr ⟨by rfl, rfl⟩) ?_
 try simp only [Act.put, List.setIfInBounds_toArray, List.set_cons_zero, List.set_cons_succ]
 refine wpDet_take (i := 64) (v := undef) (by as_aux_lemma => (simp only [List.getElem?_toArray, List.getElem?_cons_zero, List.getElem?_cons_succ]; rfl)) (by as_aux_lemma => kernel_rfl) (by as_aux_lemma => kernel_rfl) (by as_aux_lemma => kernel_rfl) (Or.inr ⟨by rfl, rfl⟩) ?_
 try simp only [Act.put, List.setIfInBounds_toArray, List.set_cons_zero, List.set_cons_succ]
 refine wpDet_take (i := 65) (v := undef) (by as_aux_lemma => (simp only [List.getElem?_toArray, List.getElem?_cons_zero, List.getElem?_cons_succ]; rfl)) (by as_aux_lemma => kernel_rfl) (by as_aux_lemma => kernel_rfl) (by as_aux_lemma => kernel_rfl) (Or.inr ⟨by rfl, rfl⟩) ?_
 try simp only [Act.put, List.setIfInBounds_toArray, List.set_cons_zero, List.set_cons_succ]
 refine wpDet_take (i := 66) (v := undef) (by as_aux_lemma => (simp only [List.getElem?_toArray, List.getElem?_cons_zero, List.getElem?_cons_succ]; rfl)) (by as_aux_lemma => kernel_rfl) (by as_aux_lemma => kernel_rfl) (by as_aux_lemma => kernel_rfl) (Or.inr ⟨by rfl, rfl⟩) ?_
 try simp only [Act.put, List.setIfInBounds_toArray, List.set_cons_zero, List.set_cons_succ]
 refine wpDet_take (i := 67) (v := undef) (by as_aux_lemma => (simp only [List.getElem?_toArray, List.getElem?_cons_zero, List.getElem?_cons_succ]; rfl)) (by as_aux_lemma => kernel_rfl) (by as_aux_lemma => kernel_rfl) (by as_aux_lemma => kernel_rfl) (Or.inr ⟨by rfl, rfl⟩) ?_
 try simp only [Act.put, List.setIfInBounds_toArray, List.set_cons_zero, List.set_cons_succ]
 refine wpDet_take (i := 68) (v := ?dv285) (by as_aux_lemma => (simp only [List.getElem?_toArray, List.getElem?_cons_zero, List.getElem?_cons_succ]; rfl)) (by as_aux_lemma => kernel_rfl) (by as_aux_lemma => kernel_rfl) (by as_aux_lemma => kernel_rfl) (Or.inl ⟨by rfl, ?dy285⟩) ?dr285
 case dy285 => (intro w hSw; have hS0 := hSw; (try dsimp only [FP,F5] at hSw); go_simp; refine Came.value ?_ hS0; with_reducible rfl)
 try simp only [Act.put, List.setIfInBounds_toArray, List.set_cons_zero, List.set_cons_succ]
 refine wpDet_take (i := 69) (v := ?dv286) (by as_aux_lemma => (simp only [List.getElem?_toArray, List.getElem?_cons_zero, List.getElem?_cons_succ]; rfl)) (by as_aux_lemma => kernel_rfl) (by as_aux_lemma => kernel_rfl) (by as_aux_lemma => kernel_rfl) (Or.inl ⟨by rfl, ?dy286⟩) ?dr286
 case dy286 => (intro w hSw; have hS0 := hSw; (try dsimp only [FP,F5] at hSw); go_simp; refine Came.value ?_ hS0; with_reducible rfl)
 try simp only [Act.put, List.setIfInBounds_toArray, List.set_cons_zero, List.set_cons_succ]
 refine wpDet_take (i := 70) (v := ?dv287) (by as_aux_lemma => (simp only [List.getElem?_toArray, List.getElem?_cons_zero, List.getElem?_cons_succ]; rfl)) (by as_aux_lemma => kernel_rfl) (by as_aux_lemma => kernel_rfl) (by as_aux_lemma => kernel_rfl) (Or.inl ⟨by rfl, ?dy287⟩) ?dr287
 case dy287 => (intro w hSw; have hS0 := hSw; (try dsimp only [FP,F5] at hSw); go_simp; refine Came.value ?_ hS0; with_reducible rfl)
 try simp only [Act.put, List.setIfInBounds_toArray, List.set_cons_zero, List.set_cons_succ]
 refine wpDet_take (i := 71) (v := ?dv288) (by as_aux_lemma => (simp only [List.getElem?_toArray, List.getElem?_cons_zero, List.getElem?_cons_succ]; rfl)) (by as_aux_lemma => kernel_rfl) (by as_aux_lemma => kernel_rfl) (by as_aux_lemma => kernel_rfl) (Or.inl ⟨by rfl, ?dy288⟩) ?dr288
 case dy288 => (intro w hSw; have hS0 := hSw; (try dsimp only [FP,F5] at hSw); go_simp; refine Came.value ?_ hS0; with_reducible rfl)
 try simp only [Act.put, List.setIfInBounds_toArray, List.set_cons_zero, List.set_cons_succ]
 refine wpDet_take (i := 72) (v := ?dv289) (by as_aux_lemma => (simp only [List.getElem?_toArray, List.getElem?_cons_zero, List.getElem?_cons_succ]; rfl)) (by as_aux_lemma => kernel_rfl) (by as_aux_lemma => kernel_rfl) (by as_aux_lemma => kernel_rfl) (Or.inl ⟨by rfl, ?dy289⟩) ?dr289
 case dy289 => (intro w hSw; have hS0 := hSw; (try dsimp only [FP,F5] at hSw); go_simp; refine Came.value ?_ hS0; with_reducible rfl)
 try simp only [Act.put, List.setIfInBounds_toArray, List.set_cons_zero, List.set_cons_succ]
 refine wpDet_take (i := 73) (v := ?dv290) (by as_aux_lemma => (simp only [List.getElem?_toArray, List.getElem?_cons_zero, List.getElem?_cons_succ]; rfl)) (by as_aux_lemma => kernel_rfl) (by as_aux_lemma => kernel_rfl) (by as_aux_lemma => kernel_rfl) (Or.inl ⟨by rfl, ?dy290⟩) ?dr290
 case dy290 => (intro w hSw; have hS0 := hSw; (try dsimp only [FP,F5] at hSw); go_simp; refine Came.value ?_ hS0; with_reducible rfl)
 try simp only [Act.put, List.setIfInBounds_toArray, List.set_cons_zero, List.set_cons_succ]
 refine wpDet_take (i := 74) (v := ?dv291) (by as_aux_lemma => (simp only [List.getElem?_toArray, List.getElem?_cons_zero, List.getElem?_cons_succ]; rfl)) (by as_aux_lemma => kernel_rfl) (by as_aux_lemma => kernel_rfl) (by as_aux_lemma => kernel_rfl) (Or.inl ⟨by rfl, ?dy291⟩) ?dr291
 case dy291 => (intro w hSw; have hS0 := hSw; (try dsimp only [FP,F5] at hSw); go_simp; refine Came.value ?_ hS0; with_reducible rfl)
 try simp only [Act.put, List.setIfInBounds_toArray, List.set_cons_zero, List.set_cons_succ]
 refine wpDet_take (i := 75) (v := ?dv292) (by as_aux_lemma => (simp only [List.getElem?_toArray, List.getElem?_cons_zero, List.getElem?_cons_succ]; rfl)) (by as_aux_lemma => kernel_rfl) (by as_aux_lemma => kernel_rfl) (by as_aux_lemma => kernel_rfl) (Or.inl ⟨by rfl, ?dy292⟩) ?dr292
 case dy292 => (intro w hSw; have hS0 := hSw; (try dsimp only [FP,F5] at hSw); go_simp; refine Came.value ?_ hS0; with_reducible rfl)
 try simp only [Act.put, List.setIfInBounds_toArray, List.set_cons_zero, List.set_cons_succ]
 refine wpDet_take (i := 76) (v := ?dv293) (by as_aux_lemma => (simp only [List.getElem?_toArray, List.getElem?_cons_zero, List.getElem?_cons_succ]; rfl)) (by as_aux_lemma => kernel_rfl) (by as_aux_lemma => kernel_rfl) (by as_aux_lemma => kernel_rfl) (Or.inl ⟨by rfl, ?dy293⟩) ?dr293
 case dy293 => (intro w hSw; have hS0 := hSw; (try dsimp only [FP,F5] at hSw); go_simp; refine Came.value ?_ hS0; with_reducible rfl)
 try simp only [Act.put, List.setIfInBounds_toArray, List.set_cons_zero, List.set_cons_succ]
 refine wpDet_take (i := 77) (v := ?dv294) (by as_aux_lemma => (simp only [List.getElem?_toArray, List.getElem?_cons_zero, List.getElem?_cons_succ]; rfl)) (by as_aux_lemma => kernel_rfl) (by as_aux_lemma => kernel_rfl) (by as_aux_lemma => kernel_rfl) (Or.inl ⟨by rfl, ?dy294⟩) ?dr294
 case dy294 => (intro w hSw; go_simp; exact Came.call ((FLX.out w).mono fun e w' ⟨he, hf⟩ => ⟨he, FP.fr hSw hf⟩) (by with_reducible rfl))
 try simp only [Act.put, List.setIfInBounds_toArray, List.set_cons_zero, List.set_cons_succ]
 refine wpDet_take (i := 78) (v := ?dv295) (by as_aux_lemma => (simp only [List.getElem?_toArray, List.getElem?_cons_zero, List.getElem?_cons_succ]; rfl)) (by as_aux_lemma => kernel_rfl) (by as_aux_lemma => kernel_rfl) (by as_aux_lemma => kernel_rfl) (Or.inl ⟨by rfl, ?dy295⟩) ?dr295
 case dy295 => (intro w hSw; have hS0 := hSw; (try dsimp only [FP,F5] at hSw); go_simp; refine Came.value ?_ hS0; with_reducible rfl)
 try simp only [Act.put, List.setIfInBounds_toArray, List.set_cons_zero, List.set_cons_succ]
 refine wpDet_take (i := 79) (v := ?dv296) (by as_aux_lemma => (simp only [List.getElem?_toArray, List.getElem?_cons_zero, List.getElem?_cons_succ]; rfl)) (by as_aux_lemma => kernel_rfl) (by as_aux_lemma => kernel_rfl) (by as_aux_lemma => kernel_rfl) (Or.inl ⟨by rfl, ?dy296⟩) ?dr296
 case dy296 => (intro w hSw; have hS0 := hSw; (try dsimp only [FP,F5] at hSw); go_simp; refine Came.value ?_ hS0; with_reducible rfl)
 try simp only [Act.put, List.setIfInBounds_toArray, List.set_cons_zero, List.set_cons_succ]
 refine wpDet_done (by as_aux_lemma => kernel_rfl) ?_ _
 exact tail
 )
                      case t =>
                        intro w8 hS
                        have F8 := Lib.hid hS.1.1
                        clear hS hun
                        go_wp2_with fail
                        go_meet
                        exact ⟨rfl, Lib.hid (T7.out.fr F8.out)⟩
                    · have hx : decide (0 < xo) = false := decide_eq_false hxo
                      clear f1 f2 f3 f4 f5 f6 f7 f8 FA HDN LEX o0 o1 hyo hxo
                      subst hem
                      apply by_tail
                      case f =>
                        intro tail
                        as_aux_lemma =>
                          focus (
 refine wp_region_det (S := FP wc w.heap.size p10 m n ⟨hc, hfl, hs, hd⟩ ⟨⟨xp, xe, xo, xr⟩, xk⟩ ⟨⟨yp, ye, yo, yr⟩, yk⟩ ⟨false, false, ef, ea, 0, ⟨dc, du, dd⟩⟩) (by as_aux_lemma => kernel_rfl) (FP.fr DW.out (Fr.drew _ [])) ?_
 refine wpDet_take (i := 0) (v := ?dv297) (by as_aux_lemma => (simp only [List.getElem?_toArray, List.getElem?_cons_zero]; rfl)) (by as_aux_lemma => kernel_rfl) (by as_aux_lemma => kernel_rfl) (by as_aux_lemma => kernel_rfl) (Or.inl ⟨by rfl, ?dy297⟩) ?dr297
 case dy297 => (intro w hSw; have hS0 := hSw; (try dsimp only [FP,F5] at hSw); go_simp; refine Came.value ?_ hS0; with_reducible rfl)
 try simp only [Act.put, List.setIfInBounds_toArray, List.set_cons_zero, List.set_cons_succ]
 refine wpDet_take (i := 1) (v := ?dv298) (by as_aux_lemma => (simp only [List.getElem?_toArray, List.getElem?_cons_zero, List.getElem?_cons_succ]; rfl)) (by as_aux_lemma => kernel_rfl) (by as_aux_lemma => kernel_rfl) (by as_aux_lemma => kernel_rfl) (Or.inl ⟨by rfl, ?dy298⟩) ?dr298
 case dy298 => (intro w hSw; have hS0 := hSw; (try dsimp only [FP,F5] at hSw); go_simp; refine Came.value ?_ hS0; with_reducible rfl)
 try simp only [Act.put, List.setIfInBounds_toArray, List.set_cons_zero, List.set_cons_succ]
 refine wpDet_take (i := 2) (v := ?dv299) (by as_aux_lemma => (simp only [List.getElem?_toArray, List.getElem?_cons_zero, List.getElem?_cons_succ]; rfl)) (by as_aux_lemma => kernel_rfl) (by as_aux_lemma => kernel_rfl) (by as_aux_lemma => kernel_rfl) (Or.inl ⟨by rfl, ?dy299⟩) ?dr299
 case dy299 => (intro w hSw; go_simp; exact Came.call ((RGX.out w).mono fun e w' ⟨he, hf⟩ => ⟨he, FP.fr hSw hf⟩) (by with_reducible rfl))
 try simp only [Act.put, List.setIfInBounds_toArray, List.set_cons_zero, List.set_cons_succ]
 refine wpDet_take (i := 3) (v := ?dv300) (by as_aux_lemma => (simp only [List.getElem?_toArray, List.getElem?_cons_zero, List.getElem?_cons_succ]; rfl)) (by as_aux_lemma => kernel_rfl) (by as_aux_lemma => kernel_rfl) (by as_aux_lemma => kernel_rfl) (Or.inl ⟨by rfl, ?dy300⟩) ?dr300
 case dy300 => (intro w hSw; have hS0 := hSw; (try dsimp only [FP,F5] at hSw); go_simp; refine Came.value ?_ hS0; with_reducible rfl)
 try simp only [Act.put, List.setIfInBounds_toArray, List.set_cons_zero, List.set_cons_succ]
 refine wpDet_take (i := 4) (v := ?dv301) (by as_aux_lemma => (simp only [List.getElem?_toArray, List.getElem?_cons_zero, List.getElem?_cons_succ]; rfl)) (by as_aux_lemma => kernel_rfl) (by as_aux_lemma => kernel_rfl) (by as_aux_lemma => kernel_rfl) (Or.inl ⟨by rfl, ?dy301⟩) ?dr301
 case dy301 => (intro w hSw; have hS0 := hSw; (try dsimp only [FP,F5] at hSw); go_simp; refine Came.value ?_ hS0; with_reducible rfl)
 try simp only [Act.put, List.setIfInBounds_toArray, List.set_cons_zero, List.set_cons_succ]
 refine wpDet_take (i := 5) (v := ?dv302) (by as_aux_lemma => (simp only [List.getElem?_toArray, List.getElem?_cons_zero, List.getElem?_cons_succ]; rfl)) (by as_aux_lemma => kernel_rfl) (by as_aux_lemma => kernel_rfl) (by as_aux_lemma => kernel_rfl) (Or.inl ⟨by rfl, ?dy302⟩) ?dr302
 case dy302 => (intro w hSw; have hS0 := hSw; (try dsimp only [FP,F5] at hSw); go_simp; refine Came.value ?_ hS0; with_reducible rfl)
 try simp only [Act.put, List.setIfInBounds_toArray, List.set_cons_zero, List.set_cons_succ]
 refine wpDet_take (i := 6) (v := ?dv303) (by as_aux_lemma => (simp only [List.getElem?_toArray, List.getElem?_cons_zero, List.getElem?_cons_succ]; rfl)) (by as_aux_lemma => kernel_rfl) (by as_aux_lemma => kernel_rfl) (by as_aux_lemma => kernel_rfl) (Or.inl ⟨by rfl, ?dy303⟩) ?dr303
 case dy303 => (intro w hSw; have hS0 := hSw; (try dsimp only [FP,F5] at hSw); go_simp; refine Came.value ?_ hS0; with_reducible rfl)
 try simp only [Act.put, List.setIfInBounds_toArray, List.set_cons_zero, List.set_cons_succ]
 refine wpDet_take (i := 7) (v := ?dv304) (by as_aux_lemma => (simp only [List.getElem?_toArray, List.getElem?_cons_zero, List.getElem?_cons_succ]; rfl)) (by as_aux_lemma => kernel_rfl) (by as_aux_lemma => kernel_rfl) (by as_aux_lemma => kernel_rfl) (Or.inl ⟨by rfl, ?dy304⟩) ?dr304
 case dy304 => (intro w hSw; have hS0 := hSw; (try dsimp only [FP,F5] at hSw); go_simp; refine Came.value ?_ hS0; with_reducible rfl)
 try simp only [Act.put, List.setIfInBounds_toArray, List.set_cons_zero, List.set_cons_succ]
 refine wpDet_take (i := 8) (v := ?dv305) (by as_aux_lemma => (simp only [List.getElem?_toArray, List.getElem?_cons_zero, List.getElem?_cons_succ]; rfl)) (by as_aux_lemma => kernel_rfl) (by as_aux_lemma => kernel_rfl) (by as_aux_lemma => kernel_rfl) (Or.inl ⟨by rfl, ?dy305⟩) ?dr305
 case dy305 => (intro w hSw; have hS0 := hSw; (try dsimp only [FP,F5] at hSw); go_simp; refine Came.value ?_ hS0; with_reducible rfl)
 try simp only [Act.put, List.setIfInBounds_toArray, List.set_cons_zero, List.set_cons_succ]
 refine wpDet_take (i := 9) (v := ?dv306) (by as_aux_lemma => (simp only [List.getElem?_toArray, List.getElem?_cons_zero, List.getElem?_cons_succ]; rfl)) (by as_aux_lemma => kernel_rfl) (by as_aux_lemma => kernel_rfl) (by as_aux_lemma => kernel_rfl) (Or.inl ⟨by rfl, ?dy306⟩) ?dr306
 case dy306 => (intro w hSw; have hS0 := hSw; (try dsimp only [FP,F5] at hSw); go_simp; refine Came.value ?_ hS0; with_reducible rfl)
 try simp only [Act.put, List.setIfInBounds_toArray, List.set_cons_zero, List.set_cons_succ]
 refine wpDet_take (i := 10) (v := ?dv307) (by as_aux_lemma => (simp only [List.getElem?_toArray, List.getElem?_cons_zero, List.getElem?_cons_succ]; rfl)) (by as_aux_lemma => kernel_rfl) (by as_aux_lemma => kernel_rfl) (by as_aux_lemma => kernel_rfl) (Or.inl ⟨by rfl, ?dy307⟩) ?dr307
 case dy307 => (intro w hSw; have hS0 := hSw; (try dsimp only [FP,F5] at hSw); go_simp; refine Came.value ?_ hS0; with_reducible rfl)
 try simp only [Act.put, List.setIfInBounds_toArray, List.set_cons_zero, List.set_cons_succ]
 refine wpDet_take (i := 11) (v := ?dv308) (by as_aux_lemma => (simp only [List.getElem?_toArray, List.getElem?_cons_zero, List.getElem?_cons_succ]; rfl)) (by as_aux_lemma => kernel_rfl) (by as_aux_lemma => kernel_rfl) (by as_aux_lemma => kernel_rfl) (Or.inl ⟨by rfl, ?dy308⟩) ?dr308
 case dy308 => (intro w hSw; have hS0 := hSw; (try dsimp only [FP,F5] at hSw); go_simp; refine Came.value ?_ hS0; with_reducible rfl)
 try simp only [Act.put, List.setIfInBounds_toArray, List.set_cons_zero, List.set_cons_succ]
 refine wpDet_take (i := 12) (v := ?dv309) (by as_aux_lemma => (simp only [List.getElem?_toArray, List.getElem?_cons_zero, List.getElem?_cons_succ]; rfl)) (by as_aux_lemma => kernel_rfl) (by as_aux_lemma => kernel_rfl) (by as_aux_lemma => kernel_rfl) (Or.inl ⟨by rfl, ?dy309⟩) ?dr309
 case dy309 => (intro w hSw; have hS0 := hSw; (try dsimp only [FP,F5] at hSw); go_simp; refine Came.value ?_ hS0; with_reducible rfl)
 try simp only [Act.put, List.setIfInBounds_toArray, List.set_cons_zero, List.set_cons_succ]
 refine wpDet_take (i := 13) (v := ?dv310) (by as_aux_lemma => (simp only [List.getElem?_toArray, List.getElem?_cons_zero, List.getElem?_cons_succ]; rfl)) (by as_aux_lemma => kernel_rfl) (by as_aux_lemma => kernel_rfl) (by as_aux_lemma => kernel_rfl) (Or.inl ⟨by rfl, ?dy310⟩) ?dr310
 case dy310 => (intro w hSw; have hS0 := hSw; (try dsimp only [FP,F5] at hSw); go_simp; refine Came.value ?_ hS0; with_reducible rfl)
 try simp only [Act.put, List.setIfInBounds_toArray, List.set_cons_zero, List.set_cons_succ]
 refine wpDet_take (i := 14) (v := ?dv311) (by as_aux_lemma => (simp only [List.getElem?_toArray, List.getElem?_cons_zero, List.getElem?_cons_succ]; rfl)) (by as_aux_lemma => kernel_rfl) (by as_aux_lemma => kernel_rfl) (by as_aux_lemma => kernel_rfl) (Or.inl ⟨by rfl, ?dy311⟩) ?dr311
 case dy311 => (intro w hSw; have hS0 := hSw; (try dsimp only [FP,F5] at hSw); go_simp; refine Came.value ?_ hS0; with_reducible rfl)
 try simp only [Act.put, List.setIfInBounds_toArray, List.set_cons_zero, List.set_cons_succ]
 refine wpDet_take (i := 15) (v := ?dv312) (by as_aux_lemma => (simp only [List.getElem?_toArray, List.getElem?_cons_zero, List.getElem?_cons_succ]; rfl)) (by as_aux_lemma => kernel_rfl) (by as_aux_lemma => kernel_rfl) (by as_aux_lemma => kernel_rfl) (Or.inl ⟨by rfl, ?dy312⟩) ?dr312
 case dy312 => (intro w hSw; have hS0 := hSw; (try dsimp only [FP,F5] at hSw); go_simp; refine Came.value ?_ hS0; with_reducible rfl)
 try simp only [Act.put, List.setIfInBounds_toArray, List.set_cons_zero, List.set_cons_succ]
 refine wpDet_take (i := 16) (v := ?dv313) (by as_aux_lemma => (simp only [List.getElem?_toArray, List.getElem?_cons_zero, List.getElem?_cons_succ]; rfl)) (by as_aux_lemma => kernel_rfl) (by as_aux_lemma => kernel_rfl) (by as_aux_lemma => kernel_rfl) (Or.inl ⟨by rfl, ?dy313⟩) ?dr313
 case dy313 => (intro w hSw; have hS0 := hSw; (try dsimp only [FP,F5] at hSw); go_simp; refine Came.value ?_ hS0; with_reducible rfl)
 try simp only [Act.put, List.setIfInBounds_toArray, List.set_cons_zero, List.set_cons_succ]
 refine wpDet_take (i := 17) (v := ?dv314) (by as_aux_lemma => (simp only [List.getElem?_toArray, List.getElem?_cons_zero, List.getElem?_cons_succ]; rfl)) (by as_aux_lemma => kernel_rfl) (by as_aux_lemma => kernel_rfl) (by as_aux_lemma => kernel_rfl) (Or.inl ⟨by rfl, ?dy314⟩) ?dr314
 case dy314 => (intro w hSw; have hS0 := hSw; (try dsimp only [FP,F5] at hSw); go_simp; refine Came.value ?_ hS0; with_reducible rfl)
 try simp only [Act.put, List.setIfInBounds_toArray, List.set_cons_zero, List.set_cons_succ]
 refine wpDet_take (i := 18) (v := ?dv315) (by as_aux_lemma => (simp only [List.getElem?_toArray, List.getElem?_cons_zero, List.getElem?_cons_succ]; rfl)) (by as_aux_lemma => kernel_rfl) (by as_aux_lemma => kernel_rfl) (by as_aux_lemma => kernel_rfl) (Or.inl ⟨by rfl, ?dy315⟩) ?dr315
 case dy315 => (intro w hSw; have hS0 := hSw; (try dsimp only [FP,F5] at hSw); go_simp; refine Came.value ?_ hS0; with_reducible rfl)
 try simp only [Act.put, List.setIfInBounds_toArray, List.set_cons_zero, List.set_cons_succ]
 refine wpDet_take (i := 19) (v := ?dv316) (by as_aux_lemma => (simp only [List.getElem?_toArray, List.getElem?_cons_zero, List.getElem?_cons_succ]; rfl)) (by as_aux_lemma => kernel_rfl) (by as_aux_lemma => kernel_rfl) (by as_aux_lemma => kernel_rfl) (Or.inl ⟨by rfl, ?dy316⟩) ?dr316
 case dy316 => (intro w hSw; have hS0 := hSw; (try dsimp only [FP,F5] at hSw); go_simp; refine Came.value ?_ hS0; with_reducible rfl)
 try simp only [Act.put, List.setIfInBounds_toArray, List.set_cons_zero, List.set_cons_succ]
 refine wpDet_take (i := 20) (v := ?dv317) (by as_aux_lemma => (simp only [List.getElem?_toArray, List.getElem?_cons_zero, List.getElem?_cons_succ]; rfl)) (by as_aux_lemma => kernel_rfl) (by as_aux_lemma => kernel_rfl) (by as_aux_lemma => kernel_rfl) (Or.inl ⟨by rfl, ?dy317⟩) ?dr317
 case dy317 => (intro w hSw; have hS0 := hSw; (try dsimp only [FP,F5] at hSw); go_simp; refine Came.value ?_ hS0; with_reducible rfl)
 try simp only [Act.put, List.setIfInBounds_toArray, List.set_cons_zero, List.set_cons_succ]
 refine wpDet_take (i := 21) (v := ?dv318) (by as_aux_lemma => (simp only [List.getElem?_toArray, List.getElem?_cons_zero, List.getElem?_cons_succ]; rfl)) (by as_aux_lemma => kernel_rfl) (by as_aux_lemma => kernel_rfl) (by as_aux_lemma => kernel_rfl) (Or.inl ⟨by rfl, ?dy318⟩) ?dr318
 case dy318 => (intro w hSw; have hS0 := hSw; (try dsimp only [FP,F5] at hSw); go_simp; refine Came.value ?_ hS0; with_reducible rfl)
 try simp only [Act.put, List.setIfInBounds_toArray, List.set_cons_zero, List.set_cons_succ]
 refine wpDet_take (i := 22) (v := ?dv319) (by as_aux_lemma => (simp only [List.getElem?_toArray, List.getElem?_cons_zero, List.getElem?_cons_succ]; rfl)) (by as_aux_lemma => kernel_rfl) (by as_aux_lemma => kernel_rfl) (by as_aux_lemma => kernel_rfl) (Or.inl ⟨by rfl, ?dy319⟩) ?dr319
 case dy319 => (intro w hSw; have hS0 := hSw; (try dsimp only [FP,F5] at hSw); go_simp; refine Came.value ?_ hS0; with_reducible rfl)
 try simp only [Act.put, List.setIfInBounds_toArray, List.set_cons_zero, List.set_cons_succ]
 refine wpDet_take (i := 23) (v := ?dv320) (by as_aux_lemma => (simp only [List.getElem?_toArray, List.getElem?_cons_zero, List.getElem?_cons_succ]; rfl)) (by as_aux_lemma => kernel_rfl) (by as_aux_lemma => kernel_rfl) (by as_aux_lemma => kernel_rfl) (Or.inl ⟨by rfl, ?dy320⟩) ?dr320
 case dy320 => (intro w hSw; have hS0 := hSw; (try dsimp only [FP,F5] at hSw); go_simp; refine Came.value ?_ hS0; with_reducible rfl)
 try simp only [Act.put, List.setIfInBounds_toArray, List.set_cons_zero, List.set_cons_succ]
 refine wpDet_take (i := 24) (v := ?dv321) (by as_aux_lemma => (simp only [List.getElem?_toArray, List.getElem?_cons_zero, List.getElem?_cons_succ]; rfl)) (by as_aux_lemma => kernel_rfl) (by as_aux_lemma => kernel_rfl) (by as_aux_lemma => kernel_rfl) (Or.inl ⟨by rfl, ?dy321⟩) ?dr321
 case dy321 => (intro w hSw; have hS0 := hSw; (try dsimp only [FP,F5] at hSw); go_simp; refine Came.value ?_ hS0; with_reducible rfl)
 try simp only [Act.put, List.setIfInBounds_toArray, List.set_cons_zero, List.set_cons_succ]
 refine wpDet_take (i := 25) (v := ?dv322) (by as_aux_lemma => (simp only [List.getElem?_toArray, List.getElem?_cons_zero, List.getElem?_cons_succ]; rfl)) (by as_aux_lemma => kernel_rfl) (by as_aux_lemma => kernel_rfl) (by as_aux_lemma => kernel_rfl) (Or.inl ⟨by rfl, ?dy322⟩) ?dr322
 case dy322 => (intro w hSw; have hS0 := hSw; (try dsimp only [FP,F5] at hSw); go_simp; refine Came.value ?_ hS0; with_reducible rfl)
 try simp only [Act.put, List.setIfInBounds_toArray, List.set_cons_zero, List.set_cons_succ]
 refine wpDet_take (i := 26) (v := ?dv323) (by as_aux_lemma => (simp only [List.getElem?_toArray, List.getElem?_cons_zero, List.getElem?_cons_succ]; rfl)) (by as_aux_lemma => kernel_rfl) (by as_aux_lemma => kernel_rfl) (by as_aux_lemma => kernel_rfl) (Or.inl ⟨by rfl, ?dy323⟩) ?dr323
 case dy323 => (intro w hSw; have hS0 := hSw; (try dsimp only [FP,F5] at hSw); go_simp; refine Came.value ?_ hS0; with_reducible rfl)
 try simp only [Act.put, List.setIfInBounds_toArray, List.set_cons_zero, List.set_cons_succ]
 refine wpDet_take (i := 27) (v := ?dv324) (by as_aux_lemma => (simp only [List.getElem?_toArray, List.getElem?_cons_zero, List.getElem?_cons_succ]; rfl)) (by as_aux_lemma => kernel_rfl) (by as_aux_lemma => kernel_rfl) (by as_aux_lemma => kernel_rfl) (Or.inl ⟨by rfl, ?dy324⟩) ?dr324
 case dy324 => (intro w hSw; have hS0 := hSw; (try dsimp only [FP,F5] at hSw); go_simp; refine Came.value ?_ hS0; with_reducible rfl)
 try simp only [Act.put, List.setIfInBounds_toArray, List.set_cons_zero, List.set_cons_succ]
 refine wpDet_take (i := 28) (v := ?dv325) (by as_aux_lemma => (simp only [List.getElem?_toArray, List.getElem?_cons_zero, List.getElem?_cons_succ]; rfl)) (by as_aux_lemma => kernel_rfl) (by as_aux_lemma => kernel_rfl) (by as_aux_lemma => kernel_rfl) (Or.inl ⟨by rfl, ?dy325⟩) ?dr325
 case dy325 => (intro w hSw; have hS0 := hSw; (try dsimp only [FP,F5] at hSw); go_simp; refine Came.value ?_ hS0; with_reducible rfl)
 try simp only [Act.put, List.setIfInBounds_toArray, List.set_cons_zero, List.set_cons_succ]
 refine wpDet_take (i := 29) (v := ?dv326) (by as_aux_lemma => (simp only [List.getElem?_toArray, List.getElem?_cons_zero, List.getElem?_cons_succ]; rfl)) (by as_aux_lemma => kernel_rfl) (by as_aux_lemma => kernel_rfl) (by as_aux_lemma => kernel_rfl) (Or.inl ⟨by rfl, ?dy326⟩) ?dr326
 case dy326 => (intro w hSw; have hS0 := hSw; (try dsimp only [FP,F5] at hSw); go_simp; refine Came.value ?_ hS0; with_reducible rfl)
 try simp only [Act.put, List.setIfInBounds_toArray, List.set_cons_zero, List.set_cons_succ]
 refine wpDet_take (i := 30) (v := ?dv327) (by as_aux_lemma => (simp only [List.getElem?_toArray, List.getElem?_cons_zero, List.getElem?_cons_succ]; rfl)) (by as_aux_lemma => kernel_rfl) (by as_aux_lemma => kernel_rfl) (by as_aux_lemma => kernel_rfl) (Or.inl ⟨by rfl, ?dy327⟩) ?dr327
 case dy327 => (intro w hSw; have hS0 := hSw; (try dsimp only [FP,F5] at hSw); go_simp; refine Came.value ?_ hS0; with_reducible rfl)
 try simp only [Act.put, List.setIfInBounds_toArray, List.set_cons_zero, List.set_cons_succ]
 refine wpDet_take (i := 31) (v := undef) (by as_aux_lemma => (simp only [List.getElem?_toArray, List.getElem?_cons_zero, List.getElem?_cons_succ]; rfl)) (by as_aux_lemma => kernel_rfl) (by as_aux_lemma => kernel_rfl) (by as_aux_lemma => kernel_rfl) (Or.inr ⟨by rfl, rfl⟩) ?_
 try simp only [Act.put, List.setIfInBounds_toArray, List.set_cons_zero, List.set_cons_succ]
 refine wpDet_take (i := 32) (v := undef) (by as_aux_lemma => (simp only [List.getElem?_toArray, List.getElem?_cons_zero, List.getElem?_cons_succ]; rfl)) (by as_aux_lemma => kernel_rfl) (by as_aux_lemma => kernel_rfl) (by as_aux_lemma => kernel_rfl) (Or.inr ⟨by rfl, rfl⟩) ?_
 try simp only [Act.put, List.setIfInBounds_toArray, List.set_cons_zero, List.set_cons_succ]
 refine wpDet_take (i := 33) (v := ?dv330) (by as_aux_lemma => (simp only [List.getElem?_toArray, List.getElem?_cons_zero, List.getElem?_cons_succ]; rfl)) (by as_aux_lemma => kernel_rfl) (by as_aux_lemma => kernel_rfl) (by as_aux_lemma => kernel_rfl) (Or.inl ⟨by rfl, ?dy330⟩) ?dr330
 case dy330 => (intro w hSw; have hS0 := hSw; (try dsimp only [FP,F5] at hSw); go_simp; refine Came.value ?_ hS0; with_reducible rfl)
 try simp only [Act.put, List.setIfInBounds_toArray, List.set_cons_zero, List.set_cons_succ]
 refine wpDet_take (i := 34) (v := ?dv331) (by as_aux_lemma => (simp only [List.getElem?_toArray, List.getElem?_cons_zero, List.getElem?_cons_succ]; rfl)) (by as_aux_lemma => kernel_rfl) (by as_aux_lemma => kernel_rfl) (by as_aux_lemma => kernel_rfl) (Or.inl ⟨by rfl, ?dy331⟩) ?dr331
 case dy331 => (intro w hSw; have hS0 := hSw; (try dsimp only [FP,F5] at hSw); go_simp; refine Came.value ?_ hS0; with_reducible rfl)
 try simp only [Act.put, List.setIfInBounds_toArray, List.set_cons_zero, List.set_cons_succ]
 refine wpDet_take (i := 35) (v := ?dv332) (by as_aux_lemma => (simp only [List.getElem?_toArray, List.getElem?_cons_zero, List.getElem?_cons_succ]; rfl)) (by as_aux_lemma => kernel_rfl) (by as_aux_lemma => kernel_rfl) (by as_aux_lemma => kernel_rfl) (Or.inl ⟨by rfl, ?dy332⟩) ?dr332
 case dy332 => (intro w hSw; have hS0 := hSw; (try dsimp only [FP,F5] at hSw); go_simp; refine Came.value ?_ hS0; with_reducible rfl)
 try simp only [Act.put, List.setIfInBounds_toArray, List.set_cons_zero, List.set_cons_succ]
 refine wpDet_take (i := 36) (v := ?dv333) (by as_aux_lemma => (simp only [List.getElem?_toArray, List.getElem?_cons_zero, List.getElem?_cons_succ]; rfl)) (by as_aux_lemma => kernel_rfl) (by as_aux_lemma => kernel_rfl) (by as_aux_lemma => kernel_rfl) (Or.inl ⟨by rfl, ?dy333⟩) ?dr333
 case dy333 => (intro w hSw; have hS0 := hSw; (try dsimp only [FP,F5] at hSw); go_simp; refine Came.value ?_ hS0; with_reducible rfl)
 try simp only [Act.put, List.setIfInBounds_toArray, List.set_cons_zero, List.set_cons_succ]
 refine wpDet_take (i := 37) (v := ?dv334) (by as_aux_lemma => (simp only [List.getElem?_toArray, List.getElem?_cons_zero, List.getElem?_cons_succ]; rfl)) (by as_aux_lemma => kernel_rfl) (by as_aux_lemma => kernel_rfl) (by as_aux_lemma => kernel_rfl) (Or.inl ⟨by rfl, ?dy334⟩) ?dr334
 case dy334 => (intro w hSw; have hS0 := hSw; (try dsimp only [FP,F5] at hSw); go_simp; refine Came.value ?_ hS0; with_reducible rfl)
 try simp only [Act.put, List.setIfInBounds_toArray, List.set_cons_zero, List.set_cons_succ]
 refine wpDet_take (i := 38) (v := ?dv335) (by as_aux_lemma => (simp only [List.getElem?_toArray, List.getElem?_cons_zero, List.getElem?_cons_succ]; rfl)) (by as_aux_lemma => kernel_rfl) (by as_aux_lemma => kernel_rfl) (by as_aux_lemma => kernel_rfl) (Or.inl ⟨by rfl, ?dy335⟩) ?dr335
 case dy335 => (intro w hSw; have hS0 := hSw; (try dsimp only [FP,F5] at hSw); go_simp; refine Came.value ?_ hS0; with_reducible rfl)
 try simp only [Act.put, List.setIfInBounds_toArray, List.set_cons_zero, List.set_cons_succ]
 refine wpDet_take (i := 39) (v := undef) (by as_aux_lemma => (simp only [List.getElem?_toArray, List.getElem?_cons_zero, List.getElem?_cons_succ]; rfl)) (by as_aux_lemma => kernel_rfl) (by as_aux_lemma => kernel_rfl) (by as_aux_lemma => kernel_rfl) (Or.inr ⟨by rfl, rfl⟩) ?_
 try simp only [Act.put, List.setIfInBounds_toArray, List.set_cons_zero, List.set_cons_succ]
 refine wpDet_take (i := 40) (v := undef) (by as_aux_lemma => (simp only [List.getElem?_toArray, List.getElem?_cons_zero, List.getElem?_cons_succ]; rfl)) (by as_aux_lemma => kernel_rfl) (by as_aux_lemma => kernel_rfl) (by as_aux_lemma => kernel_rfl) (Or.inr ⟨by rfl, rfl⟩) ?_
 try simp only [Act.put, List.setIfInBounds_toArray, List.set_cons_zero, List.set_cons_succ]
 refine wpDet_take (i := 41) (v := undef) (by as_aux_lemma => (simp only [List.getElem?_toArray, List.getElem?_cons_zero, List.getElem?_cons_succ]; rfl)) (by as_aux_lemma => kernel_rfl) (by as_aux_lemma => kernel_rfl) (by as_aux_lemma => kernel_rfl) (Or.inr ⟨by rfl, rfl⟩) ?_
 try simp only [Act.put, List.setIfInBounds_toArray, List.set_cons_zero, List.set_cons_succ]
 refine wpDet_take (i := 42) (v := undef) (by as_aux_lemma => (simp only [List.getElem?_toArray, List.getElem?_cons_zero, List.getElem?_cons_succ]; rfl)) (by as_aux_lemma => kernel_rfl) (by as_aux_lemma => kernel_rfl) (by as_aux_lemma => kernel_rfl) (Or.inr ⟨by rfl, rfl⟩) ?_
 try simp only [Act.put, List.setIfInBounds_toArray, List.set_cons_zero, List.set_cons_succ]
 refine wpDet_take (i := 43) (v := undef) (by as_aux_lemma => (simp only [List.getElem?_toArray, List.getElem?_cons_zero, List.getElem?_cons_succ]; rfl)) (by as_aux_lemma => kernel_rfl) (by as_aux_lemma => kernel_rfl) (by as_aux_lemma => kernel_rfl) (Or.inr ⟨by rfl, rfl⟩) ?_
 try simp only [Act.put, List.setIfInBounds_toArray, List.set_cons_zero, List.set_cons_succ]
 refine wpDet_take (i := 44) (v := undef) (by as_aux_lemma => (simp only [List.getElem?_toArray, List.getElem?_cons_zero, List.getElem?_cons_succ]; rfl)) (by as_aux_lemma => kernel_rfl) (by as_aux_lemma => kernel_rfl) (by as_aux_lemma => kernel_rfl) (Or.inr ⟨by rfl, rfl⟩) ?_
 try simp only [Act.put, List.setIfInBounds_toArray, List.set_cons_zero, List.set_cons_succ]
 refine wpDet_take (i := 45) (v := undef) (by as_aux_lemma => (simp only [List.getElem?_toArray, List.getElem?_cons_zero, List.getElem?_cons_succ]; rfl)) (by as_aux_lemma => kernel_rfl) (by as_aux_lemma => kernel_rfl) (by as_aux_lemma => kernel_rfl) (Or.inr ⟨by rfl, rfl⟩) ?_
 try simp only [Act.put, List.setIfInBounds_toArray, List.set_cons_zero, List.set_cons_succ]
 refine wpDet_take (i := 46) (v := undef) (by as_aux_lemma => (simp only [List.getElem?_toArray, List.getElem?_cons_zero, List.getElem?_cons_succ]; rfl)) (by as_aux_lemma => kernel_rfl) (by as_aux_lemma => kernel_rfl) (by as_aux_lemma => kernel_rfl) (Or.inr ⟨by rfl, rfl⟩) ?_
 try simp only [Act.put, List.setIfInBounds_toArray, List.set_cons_zero, List.set_cons_succ]
 refine wpDet_take (i := 47) (v := undef) (by as_aux_lemma => (simp only [List.getElem?_toArray, List.getElem?_cons_zero, List.getElem?_cons_succ]; rfl)) (by as_aux_lemma => kernel_rfl) (by as_aux_lemma => kernel_rfl) (by as_aux_lemma => kernel_rfl) (Or.inr ⟨by rfl, rfl⟩) ?_
 try simp only [Act.put, List.setIfInBounds_toArray, List.set_cons_zero, List.set_cons_succ]
 refine wpDet_take (i := 48) (v := undef) (by as_aux_lemma => (simp only [List.getElem?_toArray, List.getElem?_cons_zero, List.getElem?_cons_succ]; rfl)) (by as_aux_lemma => kernel_rfl) (by as_aux_lemma => kernel_rfl) (by as_aux_lemma => kernel_rfl) (Or.inr ⟨by rfl, rfl⟩) ?_
 try simp only [Act.put, List.setIfInBounds_toArray, List.set_cons_zero, List.set_cons_succ]
 refine wpDet_take (i := 49) (v := undef) (by as_aux_lemma => (simp only [List.getElem?_toArray, List.getElem?_cons_zero, List.getElem?_cons_succ]; rfl)) (by as_aux_lemma => kernel_rfl) (by as_aux_lemma => kernel_rfl) (by as_aux_lemma => kernel_rfl) (Or.inr ⟨by rfl, rfl⟩) ?_
 try simp only [Act.put, List.setIfInBounds_toArray, List.set_cons_zero, List.set_cons_succ]
 refine wpDet_take (i := 50) (v := undef) (by as_aux_lemma => (simp only [List.getElem?_toArray, List.getElem?_cons_zero, List.getElem?_cons_succ]; rfl)) (by as_aux_lemma => kernel_rfl) (by as_aux_lemma => kernel_rfl) (by as_aux_lemma => kernel_rfl) (Or.inr ⟨by rfl, rfl⟩) ?_
 try simp only [Act.put, List.setIfInBounds_toArray, List.set_cons_zero, List.set_cons_succ]
 refine wpDet_take (i := 51) (v := undef) (by as_aux_lemma => (simp only [List.getElem?_toArray, List.getElem?_cons_zero, List.getElem?_cons_succ]; rfl)) (by as_aux_lemma => kernel_rfl) (by as_aux_lemma => kernel_rfl) (by as_aux_lemma => kernel_rfl) (Or.inr ⟨by rfl, rfl⟩) ?_
 try simp only [Act.put, List.setIfInBounds_toArray, List.set_cons_zero, List.set_cons_succ]
 refine wpDet_take (i := 52) (v := undef) (by as_aux_lemma => (simp only [List.getElem?_toArray, List.getElem?_cons_zero, List.getElem?_cons_succ]; rfl)) (by as_aux_lemma => kernel_rfl) (by as_aux_lemma => kernel_rfl) (by as_aux_lemma => kernel_rfl) (Or.inr ⟨by rfl, rfl⟩) ?_
 try simp only [Act.put, List.setIfInBounds_toArray, List.set_cons_zero, List.set_cons_succ]
 refine wpDet_take (i := 53) (v := undef) (by as_aux_lemma => (simp only [List.getElem?_toArray, List.getElem?_cons_zero, List.getElem?_cons_succ]; rfl)) (by as_aux_lemma => kernel_rfl) (by as_aux_lemma => kernel_rfl) (by as_aux_lemma => kernel_rfl) (Or.inr ⟨by rfl, rfl⟩) ?_
 try simp only [Act.put, List.setIfInBounds_toArray, List.set_cons_zero, List.set_cons_succ]
 refine wpDet_take (i := 54) (v := undef) (by as_aux_lemma => (simp only [List.getElem?_toArray, List.getElem?_cons_zero, List.getElem?_cons_succ]; rfl)) (by as_aux_lemma => kernel_rfl) (by as_aux_lemma => kernel_rfl) (by as_aux_lemma => kernel_rfl) (Or.inr ⟨by rfl, rfl⟩) ?_
 try simp only [Act.put, List.setIfInBounds_toArray, List.set_cons_zero, List.set_cons_succ]
 refine wpDet_take (i := 55) (v := ?dv352) (by as_aux_lemma => (simp only [List.getElem?_toArray, List.getElem?_cons_zero, List.getElem?_cons_succ]; rfl)) (by as_aux_lemma => kernel_rfl) (by as_aux_lemma => kernel_rfl) (by as_aux_lemma => kernel_rfl) (Or.inl ⟨by rfl, ?dy352⟩) ?dr352
 case dy352 => (intro w hSw; have hS0 := hSw; (try dsimp only [FP,F5] at hSw); go_simp; refine Came.value ?_ hS0; with_reducible rfl)
 try simp only [Act.put, List.setIfInBounds_toArray, List.set_cons_zero, List.set_cons_succ]
 refine wpDet_take (i := 56) (v := ?dv353) (by as_aux_lemma => (simp only [List.getElem?_toArray, List.getElem?_cons_zero, List.getElem?_cons_succ]; rfl)) (by as_aux_lemma => kernel_rfl) (by as_aux_lemma => kernel_rfl) (by as_aux_lemma => kernel_rfl) (Or.inl ⟨by rfl, ?dy353⟩) ?dr353
 case dy353 => (intro w hSw; have hS0 := hSw; (try dsimp only [FP,F5] at hSw); go_simp; refine Came.value ?_ hS0; with_reducible rfl)
 try simp only [Act.put, List.setIfInBounds_toArray, List.set_cons_zero, List.set_cons_succ]
 refine wpDet_take (i := 57) (v := ?dv354) (by as_aux_lemma => (simp only [List.getElem?_toArray, List.getElem?_cons_zero, List.getElem?_cons_succ]; rfl)) (by as_aux_lemma => kernel_rfl) (by as_aux_lemma => kernel_rfl) (by as_aux_lemma => kernel_rfl) (Or.inl ⟨by rfl, ?dy354⟩) ?dr354
 case dy354 => (intro w hSw; have hS0 := hSw; (try dsimp only [FP,F5] at hSw); go_simp; refine Came.value ?_ hS0; with_reducible rfl)
 try simp only [Act.put, List.setIfInBounds_toArray, List.set_cons_zero, List.set_cons_succ]
 refine wpDet_take (i := 58) (v := ?dv355) (by as_aux_lemma => (simp only [List.getElem?_toArray, List.getElem?_cons_zero, List.getElem?_cons_succ]; rfl)) (by as_aux_lemma => kernel_rfl) (by as_aux_lemma => kernel_rfl) (by as_aux_lemma => kernel_rfl) (Or.inl ⟨by rfl, ?dy355⟩) ?dr355
 case dy355 => (intro w hSw; have hS0 := hSw; (try dsimp only [FP,F5] at hSw); go_simp; refine Came.value ?_ hS0; with_reducible rfl)
 try simp only [Act.put, List.setIfInBounds_toArray, List.set_cons_zero, List.set_cons_succ]
 refine wpDet_take (i := 59) (v := ?dv356) (by as_aux_lemma => (simp only [List.getElem?_toArray, List.getElem?_cons_zero, List.getElem?_cons_succ]; rfl)) (by as_aux_lemma => kernel_rfl) (by as_aux_lemma => kernel_rfl) (by as_aux_lemma => kernel_rfl) (Or.inl ⟨by rfl, ?dy356⟩) ?dr356
 case dy356 => (intro w hSw; have hS0 := hSw; (try dsimp only [FP,F5] at hSw); go_simp; refine Came.value ?_ hS0; with_reducible rfl)
 try simp only [Act.put, List.setIfInBounds_toArray, List.set_cons_zero, List.set_cons_succ]
 refine wpDet_take (i := 60) (v := ?dv357) (by as_aux_lemma => (simp only [List.getElem?_toArray, List.getElem?_cons_zero, List.getElem?_cons_succ]; rfl)) (by as_aux_lemma => kernel_rfl) (by as_aux_lemma => kernel_rfl) (by as_aux_lemma => kernel_rfl) (Or.inl ⟨by rfl, ?dy357⟩) ?dr357
 case dy357 => (intro w hSw; have hS0 := hSw; (try dsimp only [FP,F5] at hSw); go_simp; refine Came.value ?_ hS0; with_reducible rfl)
 try simp only [Act.put, List.setIfInBounds_toArray, List.set_cons_zero, List.set_cons_succ]
 refine wpDet_take (i := 61) (v := undef) (by as_aux_lemma => (simp only [List.getElem?_toArray, List.getElem?_cons_zero, List.getElem?_cons_succ]; rfl)) (by as_aux_lemma => kernel_rfl) (by as_aux_lemma => kernel_rfl) (by as_aux_lemma => kernel_rfl) (Or.inr ⟨by rfl, rfl⟩) ?_
 try simp only [Act.put, List.setIfInBounds_toArray, List.set_cons_zero, List.set_cons_succ]
 refine wpDet_take (i := 62) (v := undef) (by as_aux_lemma => (simp only [List.getElem?_toArray, List.getElem?_cons_zero, List.getElem?_cons_succ]; rfl)) (by as_aux_lemma => kernel_rfl) (by as_aux_lemma => kernel_rfl) (by as_aux_lemma => kernel_rfl) (Or.inr ⟨by rfl, rfl⟩) ?_
 try simp only [Act.put, List.setIfInBounds_toArray, List.set_cons_zero, List.set_cons_succ]
 refine wpDet_take (i := 63) (v := undef) (by as_aux_lemma => (simp only [List.getElem?_toArray, List.getElem?_cons_zero, List.getElem?_cons_succ]; rfl)) (by as_aux_lemma => kernel_rfl) (by as_aux_lemma => kernel_rfl) (by as_aux_lemma => kernel_rfl) (Or.inr ⟨by rfl, rfl⟩) ?_
 try simp only [Act.put, List.setIfInBounds_toArray, List.set_cons_zero, List.set_cons_succ]
 refine wpDet_take (i := 64) (v := undef) (by as_aux_lemma => (simp only [List.getElem?_toArray, List.getElem?_cons_zero, List.getElem?_cons_succ]; rfl)) (by as_aux_lemma => kernel_rfl) (by as_aux_lemma => kernel_rfl) (by as_aux_lemma => kernel_rfl) (Or.inr ⟨by rfl, rfl⟩) ?_
 try simp only [Act.put, List.setIfInBounds_toArray, List.set_cons_zero, List.set_cons_succ]
 refine wpDet_take (i := 65) (v := undef) (by as_aux_lemma => (simp only [List.getElem?_toArray, List.getElem?_cons_zero, List.getElem?_cons_succ]; rfl)) (by as_aux_lemma => kernel_rfl) (by as_aux_lemma => kernel_rfl) (by as_aux_lemma => kernel_rfl) (Or.inr ⟨by rfl, rfl⟩) ?_
 try simp only [Act.put, List.setIfInBounds_toArray, List.set_cons_zero, List.set_cons_succ]
 refine wpDet_take (i := 66) (v := undef) (by as_aux_lemma => (simp only [List.getElem?_toArray, List.getElem?_cons_zero, List.getElem?_cons_succ]; rfl)) (by as_aux_lemma => kernel_rfl) (by as_aux_lemma => kernel_rfl) (by as_aux_lemma => kernel_rfl) (Or.inr ⟨by rfl, rfl⟩) ?_
 try simp only [Act.put, List.setIfInBounds_toArray, List.set_cons_zero, List.set_cons_succ]
 refine wpDet_take (i := 67) (v := undef) (by as_aux_lemma => (simp only [List.getElem?_toArray, List.getElem?_cons_zero, List.getElem?_cons_succ]; rfl)) (by as_aux_lemma => kernel_rfl) (by as_aux_lemma => kernel_rfl) (by as_aux_lemma => kernel_rfl) (Or.inr ⟨by rfl, rfl⟩) ?_
 try simp only [Act.put, List.setIfInBounds_toArray, List.set_cons_zero, List.set_cons_succ]
 refine wpDet_take (i := 68) (v := ?dv365) (by as_aux_lemma => (simp only [List.getElem?_toArray, List.getElem?_cons_zero, List.getElem?_cons_succ]; rfl)) (by as_aux_lemma => kernel_rfl) (by as_aux_lemma => kernel_rfl) (by as_aux_lemma => kernel_rfl) (Or.inl ⟨by rfl, ?dy365⟩) ?dr365
 case dy365 => (intro w hSw; have hS0 := hSw; (try dsimp only [FP,F5] at hSw); go_simp; refine Came.value ?_ hS0; with_reducible rfl)
 try simp only [Act.put, List.setIfInBounds_toArray, List.set_cons_zero, List.set_cons_succ]
 refine wpDet_take (i := 69) (v := ?dv366) (by as_aux_lemma => (simp only [List.getElem?_toArray, List.getElem?_cons_zero, List.getElem?_cons_succ]; rfl)) (by as_aux_lemma => kernel_rfl) (by as_aux_lemma => kernel_rfl) (by as_aux_lemma => kernel_rfl) (Or.inl ⟨by rfl, ?dy366⟩) ?dr366
 case dy366 => (intro w hSw; have hS0 := hSw; (try dsimp only [FP,F5] at hSw); go_simp; refine Came.value ?_ hS0; with_reducible rfl)
 try simp only [Act.put, List.setIfInBounds_toArray, List.set_cons_zero, List.set_cons_succ]
 refine wpDet_take (i := 70) (v := ?dv367) (by as_aux_lemma => (simp only [List.getElem?_toArray, List.getElem?_cons_zero, List.getElem?_cons_succ]; rfl)) (by as_aux_lemma => kernel_rfl) (by as_aux_lemma => kernel_rfl) (by as_aux_lemma => kernel_rfl) (Or.inl ⟨by rfl, ?dy367⟩) ?dr367
 case dy367 => (intro w hSw; have hS0 := hSw; (try dsimp only [FP,F5] at hSw); go_simp; refine Came.value ?_ hS0; with_reducible rfl)
 try simp only [Act.put, List.setIfInBounds_toArray, List.set_cons_zero, List.set_cons_succ]
 refine wpDet_take (i := 71) (v := ?dv368) (by as_aux_lemma => (simp only [List.getElem?_toArray, List.getElem?_cons_zero, List.getElem?_cons_succ]; rfl)) (by as_aux_lemma => kernel_rfl) (by as_aux_lemma => kernel_rfl) (by as_aux_lemma => kernel_rfl) (Or.inl ⟨by rfl, ?dy368⟩) ?dr368
 case dy368 => (intro w hSw; have hS0 := hSw; (try dsimp only [FP,F5] at hSw); go_simp; refine Came.value ?_ hS0; with_reducible rfl)
 try simp only [Act.put, List.setIfInBounds_toArray, List.set_cons_zero, List.set_cons_succ]
 refine wpDet_take (i := 72) (v := ?dv369) (by as_aux_lemma => (simp only [List.getElem?_toArray, List.getElem?_cons_zero, List.getElem?_cons_succ]; rfl)) (by as_aux_lemma => kernel_rfl) (by as_aux_lemma => kernel_rfl) (by as_aux_lemma => kernel_rfl) (Or.inl ⟨by rfl, ?dy369⟩) ?dr369
 case dy369 => (intro w hSw; have hS0 := hSw; (try dsimp only [FP,F5] at hSw); go_simp; refine Came.value ?_ hS0; with_reducible rfl)
 try simp only [Act.put, List.setIfInBounds_toArray, List.set_cons_zero, List.set_cons_succ]
 refine wpDet_take (i := 73) (v := ?dv370) (by as_aux_lemma => (simp only [List.getElem?_toArray, List.getElem?_cons_zero, List.getElem?_cons_succ]; rfl)) (by as_aux_lemma => kernel_rfl) (by as_aux_lemma => kernel_rfl) (by as_aux_lemma => kernel_rfl) (Or.inl ⟨by rfl, ?dy370⟩) ?dr370
 case dy370 => (intro w hSw; have hS0 := hSw; (try dsimp only [FP,F5] at hSw); go_simp; refine Came.value ?_ hS0; with_reducible rfl)
 try simp only [Act.put, List.setIfInBounds_toArray, List.set_cons_zero, List.set_cons_succ]
 refine wpDet_take (i := 74) (v := ?dv371) (by as_aux_lemma => (simp only [List.getElem?_toArray, List.getElem?_cons_zero, List.getElem?_cons_succ]; rfl)) (by as_aux_lemma => kernel_rfl) (by as_aux_lemma => kernel_rfl) (by as_aux_lemma => kernel_rfl) (Or.inl ⟨by rfl, ?dy371⟩) ?dr371
 case dy371 => (intro w hSw; have hS0 := hSw; (try dsimp only [FP,F5] at hSw); go_simp; refine Came.value ?_ hS0; with_reducible rfl)
 try simp only [Act.put, List.setIfInBounds_toArray, List.set_cons_zero, List.set_cons_succ]
 refine wpDet_take (i := 75) (v := ?dv372) (by as_aux_lemma => (simp only [List.getElem?_toArray, List.getElem?_cons_zero, List.getElem?_cons_succ]; rfl)) (by as_aux_lemma => kernel_rfl) (by as_aux_lemma => kernel_rfl) (by as_aux_lemma => kernel_rfl) (Or.inl ⟨by rfl, ?dy372⟩) ?dr372
 case dy372 => (intro w hSw; have hS0 := hSw; (try dsimp only [FP,F5] at hSw); go_simp; refine Came.value ?_ hS0; with_reducible rfl)
 try simp only [Act.put, List.setIfInBounds_toArray, List.set_cons_zero, List.set_cons_succ]
 refine wpDet_take (i := 76) (v := ?dv373) (by as_aux_lemma => (simp only [List.getElem?_toArray, List.getElem?_cons_zero, List.getElem?_cons_succ]; rfl)) (by as_aux_lemma => kernel_rfl) (by as_aux_lemma => kernel_rfl) (by as_aux_lemma => kernel_rfl) (Or.inl ⟨by rfl, ?dy373⟩) ?dr373
 case dy373 => (intro w hSw; have hS0 := hSw; (try dsimp only [FP,F5] at hSw); go_simp; refine Came.value ?_ hS0; with_reducible rfl)
 try simp only [Act.put, List.setIfInBounds_toArray, List.set_cons_zero, List.set_cons_succ]
 refine wpDet_take (i := 77) (v := ?dv374) (by as_aux_lemma => (simp only [List.getElem?_toArray, List.getElem?_cons_zero, List.getElem?_cons_succ]; rfl)) (by as_aux_lemma => kernel_rfl) (by as_aux_lemma => kernel_rfl) (by as_aux_lemma => kernel_rfl) (Or.inl ⟨by rfl, ?dy374⟩) ?dr374
 case dy374 => (intro w hSw; go_simp; exact Came.call ((FLX.out w).mono fun e w' ⟨he, hf⟩ => ⟨he, FP.fr hSw hf⟩) (by with_reducible rfl))
 try simp only [Act.put, List.setIfInBounds_toArray, List.set_cons_zero, List.set_cons_succ]
 refine wpDet_take (i := 78) (v := ?dv375) (by as_aux_lemma => (simp only [List.getElem?_toArray, List.getElem?_cons_zero, List.getElem?_cons_succ]; rfl)) (by as_aux_lemma => kernel_rfl) (by as_aux_lemma => kernel_rfl) (by as_aux_lemma => kernel_rfl) (Or.inl ⟨by rfl, ?dy375⟩) ?dr375
 case dy375 => (intro w hSw; have hS0 := hSw; (try dsimp only [FP,F5] at hSw); go_simp; refine Came.value ?_ hS0; with_reducible rfl)
 try simp only [Act.put, List.setIfInBounds_toArray, List.set_cons_zero, List.set_cons_succ]
 refine wpDet_take (i := 79) (v := ?dv376) (by as_aux_lemma => (simp only [List.getElem?_toArray, List.getElem?_cons_zero, List.getElem?_cons_succ]; rfl)) (by as_aux_lemma => kernel_rfl) (by as_aux_lemma => kernel_rfl) (by as_aux_lemma => kernel_rfl) (Or.inl ⟨by rfl, ?dy376⟩) ?dr376
 case dy376 => (intro w hSw; have hS0 := hSw; (try dsimp only [FP,F5] at hSw); go_simp; refine Came.value ?_ hS0; with_reducible rfl)
 try simp only [Act.put, List.setIfInBounds_toArray, List.set_cons_zero, List.set_cons_succ]
 refine wpDet_done (by as_aux_lemma => kernel_rfl) ?_ _
 exact tail
 )
                      case t =>
                        intro w8 hS
                        have F8 := Lib.hid hS.1.1
                        clear hS hun
                        go_wp2_with fail
                        go_meet
                        exact ⟨rfl, Lib.hid (T7.out.fr F8.out)⟩
                  · obtain rfl : false = yb := (decide_eq_false hyo).symm.trans hyb.out
                    clear hyb
                    by_cases hxo : 0 < xo
                    · have hem := f5 hxo
                      have hx : decide (0 < xo) = true := decide_eq_true hxo
                      clear f1 f2 f3 f4 f5 f6 f7 f8 FA HDN LEX o0 o1 hyo hxo
                      subst hem
                      apply by_tail
                      case f =>
                        intro tail
                        as_aux_lemma =>
                          focus (
 refine wp_region_det (S := FP wc w.heap.size p10 m n ⟨hc, hfl, hs, hd⟩ ⟨⟨xp, xe, xo, xr⟩, xk⟩ ⟨⟨yp, ye, yo, yr⟩, yk⟩ ⟨false, false, ef, ea, 0, ⟨dc, du, dd⟩⟩) (by as_aux_lemma => kernel_rfl) (FP.fr DW.out (Fr.drew _ [])) ?_
 refine wpDet_take (i := 0) (v := ?dv377) (by as_aux_lemma => (simp only [List.getElem?_toArray, List.getElem?_cons_zero]; rfl)) (by as_aux_lemma => kernel_rfl) (by as_aux_lemma => kernel_rfl) (by as_aux_lemma => kernel_rfl) (Or.inl ⟨by rfl, ?dy377⟩) ?dr377
 case dy377 => (intro w hSw; have hS0 := hSw; (try dsimp only [FP,F5] at hSw); go_simp; refine Came.value ?_ hS0; with_reducible rfl)
 try simp only [Act.put, List.setIfInBounds_toArray, List.set_cons_zero, List.set_cons_succ]
 refine wpDet_take (i := 1) (v := ?dv378) (by as_aux_lemma => (simp only [List.getElem?_toArray, List.getElem?_cons_zero, List.getElem?_cons_succ]; rfl)) (by as_aux_lemma => kernel_rfl) (by as_aux_lemma => kernel_rfl) (by as_aux_lemma => kernel_rfl) (Or.inl ⟨by rfl, ?dy378⟩) ?dr378
 case dy378 => (intro w hSw; have hS0 := hSw; (try dsimp only [FP,F5] at hSw); go_simp; refine Came.value ?_ hS0; with_reducible rfl)
 try simp only [Act.put, List.setIfInBounds_toArray, List.set_cons_zero, List.set_cons_succ]
 refine wpDet_take (i := 2) (v := ?dv379) (by as_aux_lemma => (simp only [List.getElem?_toArray, List.getElem?_cons_zero, List.getElem?_cons_succ]; rfl)) (by as_aux_lemma => kernel_rfl) (by as_aux_lemma => kernel_rfl) (by as_aux_lemma => kernel_rfl) (Or.inl ⟨by rfl, ?dy379⟩) ?dr379
 case dy379 => (intro w hSw; go_simp; exact Came.call ((RGX.out w).mono fun e w' ⟨he, hf⟩ => ⟨he, FP.fr hSw hf⟩) (by with_reducible rfl))
 try simp only [Act.put, List.setIfInBounds_toArray, List.set_cons_zero, List.set_cons_succ]
 refine wpDet_take (i := 3) (v := ?dv380) (by as_aux_lemma => (simp only [List.getElem?_toArray, List.getElem?_cons_zero, List.getElem?_cons_succ]; rfl)) (by as_aux_lemma => kernel_rfl) (by as_aux_lemma => kernel_rfl) (by as_aux_lemma => kernel_rfl) (Or.inl ⟨by rfl, ?dy380⟩) ?dr380
 case dy380 => (intro w hSw; have hS0 := hSw; (try dsimp only [FP,F5] at hSw); go_simp; refine Came.value ?_ hS0; with_reducible rfl)
 try simp only [Act.put, List.setIfInBounds_toArray, List.set_cons_zero, List.set_cons_succ]
 refine wpDet_take (i := 4) (v := ?dv381) (by as_aux_lemma => (simp only [List.getElem?_toArray, List.getElem?_cons_zero, List.getElem?_cons_succ]; rfl)) (by as_aux_lemma => kernel_rfl) (by as_aux_lemma => kernel_rfl) (by as_aux_lemma => kernel_rfl) (Or.inl ⟨by rfl, ?dy381⟩) ?dr381
 case dy381 => (intro w hSw; have hS0 := hSw; (try dsimp only [FP,F5] at hSw); go_simp; refine Came.value ?_ hS0; with_reducible rfl)
 try simp only [Act.put, List.setIfInBounds_toArray, List.set_cons_zero, List.set_cons_succ]
 refine wpDet_take (i := 5) (v := ?dv382) (by as_aux_lemma => (simp only [List.getElem?_toArray, List.getElem?_cons_zero, List.getElem?_cons_succ]; rfl)) (by as_aux_lemma => kernel_rfl) (by as_aux_lemma => kernel_rfl) (by as_aux_lemma => kernel_rfl) (Or.inl ⟨by rfl, ?dy382⟩) ?dr382
 case dy382 => (intro w hSw; have hS0 := hSw; (try dsimp only [FP,F5] at hSw); go_simp; refine Came.value ?_ hS0; with_reducible rfl)
 try simp only [Act.put, List.setIfInBounds_toArray, List.set_cons_zero, List.set_cons_succ]
 refine wpDet_take (i := 6) (v := ?dv383) (by as_aux_lemma => (simp only [List.getElem?_toArray, List.getElem?_cons_zero, List.getElem?_cons_succ]; rfl)) (by as_aux_lemma => kernel_rfl) (by as_aux_lemma => kernel_rfl) (by as_aux_lemma => kernel_rfl) (Or.inl ⟨by rfl, ?dy383⟩) ?dr383
 case dy383 => (intro w hSw; have hS0 := hSw; (try dsimp only [FP,F5] at hSw); go_simp; refine Came.value ?_ hS0; with_reducible rfl)
 try simp only [Act.put, List.setIfInBounds_toArray, List.set_cons_zero, List.set_cons_succ]
 refine wpDet_take (i := 7) (v := ?dv384) (by as_aux_lemma => (simp only [List.getElem?_toArray, List.getElem?_cons_zero, List.getElem?_cons_succ]; rfl)) (by as_aux_lemma => kernel_rfl) (by as_aux_lemma => kernel_rfl) (by as_aux_lemma => kernel_rfl) (Or.inl ⟨by rfl, ?dy384⟩) ?dr384
 case dy384 => (intro w hSw; have hS0 := hSw; (try dsimp only [FP,F5] at hSw); go_simp; refine Came.value ?_ hS0; with_reducible rfl)
 try simp only [Act.put, List.setIfInBounds_toArray, List.set_cons_zero, List.set_cons_succ]
 refine wpDet_take (i := 8) (v := ?dv385) (by as_aux_lemma => (simp only [List.getElem?_toArray, List.getElem?_cons_zero, List.getElem?_cons_succ]; rfl)) (by as_aux_lemma => kernel_rfl) (by as_aux_lemma => kernel_rfl) (by as_aux_lemma => kernel_rfl) (Or.inl ⟨by rfl, ?dy385⟩) ?dr385
 case dy385 => (intro w hSw; have hS0 := hSw; (try dsimp only [FP,F5] at hSw); go_simp; refine Came.value ?_ hS0; with_reducible rfl)
 try simp only [Act.put, List.setIfInBounds_toArray, List.set_cons_zero, List.set_cons_succ]
 refine wpDet_take (i := 9) (v := ?dv386) (by as_aux_lemma => (simp only [List.getElem?_toArray, List.getElem?_cons_zero, List.getElem?_cons_succ]; rfl)) (by as_aux_lemma => kernel_rfl) (by as_aux_lemma => kernel_rfl) (by as_aux_lemma => kernel_rfl) (Or.inl ⟨by rfl, ?dy386⟩) ?dr386
 case dy386 => (intro w hSw; have hS0 := hSw; (try dsimp only [FP,F5] at hSw); go_simp; refine Came.value ?_ hS0; with_reducible rfl)
 try simp only [Act.put, List.setIfInBounds_toArray, List.set_cons_zero, List.set_cons_succ]
 refine wpDet_take (i := 10) (v := ?dv387) (by as_aux_lemma => (simp only [List.getElem?_toArray, List.getElem?_cons_zero, List.getElem?_cons_succ]; rfl)) (by as_aux_lemma => kernel_rfl) (by as_aux_lemma => kernel_rfl) (by as_aux_lemma => kernel_rfl) (Or.inl ⟨by rfl, ?dy387⟩) ?dr387
 case dy387 => (intro w hSw; have hS0 := hSw; (try dsimp only [FP,F5] at hSw); go_simp; refine Came.value ?_ hS0; with_reducible rfl)
 try simp only [Act.put, List.setIfInBounds_toArray, List.set_cons_zero, List.set_cons_succ]
 refine wpDet_take (i := 11) (v := ?dv388) (by as_aux_lemma => (simp only [List.getElem?_toArray, List.getElem?_cons_zero, List.getElem?_cons_succ]; rfl)) (by as_aux_lemma => kernel_rfl) (by as_aux_lemma => kernel_rfl) (by as_aux_lemma => kernel_rfl) (Or.inl ⟨by rfl, ?dy388⟩) ?dr388
 case dy388 => (intro w hSw; have hS0 := hSw; (try dsimp only [FP,F5] at hSw); go_simp; refine Came.value ?_ hS0; with_reducible rfl)
 try simp only [Act.put, List.setIfInBounds_toArray, List.set_cons_zero, List.set_cons_succ]
 refine wpDet_take (i := 12) (v := ?dv389) (by as_aux_lemma => (simp only [List.getElem?_toArray, List.getElem?_cons_zero, List.getElem?_cons_succ]; rfl)) (by as_aux_lemma => kernel_rfl) (by as_aux_lemma => kernel_rfl) (by as_aux_lemma => kernel_rfl) (Or.inl ⟨by rfl, ?dy389⟩) ?dr389
 case dy389 => (intro w hSw; have hS0 := hSw; (try dsimp only [FP,F5] at hSw); go_simp; refine Came.value ?_ hS0; with_reducible rfl)
 try simp only [Act.put, List.setIfInBounds_toArray, List.set_cons_zero, List.set_cons_succ]
 refine wpDet_take (i := 13) (v := ?dv390) (by as_aux_lemma => (simp only [List.getElem?_toArray, List.getElem?_cons_zero, List.getElem?_cons_succ]; rfl)) (by as_aux_lemma => kernel_rfl) (by as_aux_lemma => kernel_rfl) (by as_aux_lemma => kernel_rfl) (Or.inl ⟨by rfl, ?dy390⟩) ?dr390
 case dy390 => (intro w hSw; have hS0 := hSw; (try dsimp only [FP,F5] at hSw); go_simp; refine Came.value ?_ hS0; with_reducible rfl)
 try simp only [Act.put, List.setIfInBounds_toArray, List.set_cons_zero, List.set_cons_succ]
 refine wpDet_take (i := 14) (v := ?dv391) (by as_aux_lemma => (simp only [List.getElem?_toArray, List.getElem?_cons_zero, List.getElem?_cons_succ]; rfl)) (by as_aux_lemma => kernel_rfl) (by as_aux_lemma => kernel_rfl) (by as_aux_lemma => kernel_rfl) (Or.inl ⟨by rfl, ?dy391⟩) ?dr391
 case dy391 => (intro w hSw; have hS0 := hSw; (try dsimp only [FP,F5] at hSw); go_simp; refine Came.value ?_ hS0; with_reducible rfl)
 try simp only [Act.put, List.setIfInBounds_toArray, List.set_cons_zero, List.set_cons_succ]
 refine wpDet_take (i := 15) (v := ?dv392) (by as_aux_lemma => (simp only [List.getElem?_toArray, List.getElem?_cons_zero, List.getElem?_cons_succ]; rfl)) (by as_aux_lemma => kernel_rfl) (by as_aux_lemma => kernel_rfl) (by as_aux_lemma => kernel_rfl) (Or.inl ⟨by rfl, ?dy392⟩) ?dr392
 case dy392 => (intro w hSw; have hS0 := hSw; (try dsimp only [FP,F5] at hSw); go_simp; refine Came.value ?_ hS0; with_reducible rfl)
 try simp only [Act.put, List.setIfInBounds_toArray, List.set_cons_zero, List.set_cons_succ]
 refine wpDet_take (i := 16) (v := ?dv393) (by as_aux_lemma => (simp only [List.getElem?_toArray, List.getElem?_cons_zero, List.getElem?_cons_succ]; rfl)) (by as_aux_lemma => kernel_rfl) (by as_aux_lemma => kernel_rfl) (by as_aux_lemma => kernel_rfl) (Or.inl ⟨by rfl, ?dy393⟩) ?dr393
 case dy393 => (intro w hSw; have hS0 := hSw; (try dsimp only [FP,F5] at hSw); go_simp; refine Came.value ?_ hS0; with_reducible rfl)
 try simp only [Act.put, List.setIfInBounds_toArray, List.set_cons_zero, List.set_cons_succ]
 refine wpDet_take (i := 17) (v := ?dv394) (by as_aux_lemma => (simp only [List.getElem?_toArray, List.getElem?_cons_zero, List.getElem?_cons_succ]; rfl)) (by as_aux_lemma => kernel_rfl) (by as_aux_lemma => kernel_rfl) (by as_aux_lemma => kernel_rfl) (Or.inl ⟨by rfl, ?dy394⟩) ?dr394
 case dy394 => (intro w hSw; have hS0 := hSw; (try dsimp only [FP,F5] at hSw); go_simp; refine Came.value ?_ hS0; with_reducible rfl)
 try simp only [Act.put, List.setIfInBounds_toArray, List.set_cons_zero, List.set_cons_succ]
 refine wpDet_take (i := 18) (v := ?dv395) (by as_aux_lemma => (simp only [List.getElem?_toArray, List.getElem?_cons_zero, List.getElem?_cons_succ]; rfl)) (by as_aux_lemma => kernel_rfl) (by as_aux_lemma => kernel_rfl) (by as_aux_lemma => kernel_rfl) (Or.inl ⟨by rfl, ?dy395⟩) ?dr395
 case dy395 => (intro w hSw; have hS0 := hSw; (try dsimp only [FP,F5] at hSw); go_simp; refine Came.value ?_ hS0; with_reducible rfl)
 try simp only [Act.put, List.setIfInBounds_toArray, List.set_cons_zero, List.set_cons_succ]
 refine wpDet_take (i := 19) (v := ?dv396) (by as_aux_lemma => (simp only [List.getElem?_toArray, List.getElem?_cons_zero, List.getElem?_cons_succ]; rfl)) (by as_aux_lemma => kernel_rfl) (by as_aux_lemma => kernel_rfl) (by as_aux_lemma => kernel_rfl) (Or.inl ⟨by rfl, ?dy396⟩) ?dr396
 case dy396 => (intro w hSw; have hS0 := hSw; (try dsimp only [FP,F5] at hSw); go_simp; refine Came.value ?_ hS0; with_reducible rfl)
 try simp only [Act.put, List.setIfInBounds_toArray, List.set_cons_zero, List.set_cons_succ]
 refine wpDet_take (i := 20) (v := ?dv397) (by as_aux_lemma => (simp only [List.getElem?_toArray, List.getElem?_cons_zero, List.getElem?_cons_succ]; rfl)) (by as_aux_lemma => kernel_rfl) (by as_aux_lemma => kernel_rfl) (by as_aux_lemma => kernel_rfl) (Or.inl ⟨by rfl, ?dy397⟩) ?dr397
 case dy397 => (intro w hSw; have hS0 := hSw; (try dsimp only [FP,F5] at hSw); go_simp; refine Came.value ?_ hS0; with_reducible rfl)
 try simp only [Act.put, List.setIfInBounds_toArray, List.set_cons_zero, List.set_cons_succ]
 refine wpDet_take (i := 21) (v := undef) (by as_aux_lemma => (simp only [List.getElem?_toArray, List.getElem?_cons_zero, List.getElem?_cons_succ]; rfl)) (by as_aux_lemma => kernel_rfl) (by as_aux_lemma => kernel_rfl) (by as_aux_lemma => kernel_rfl) (Or.inr ⟨by rfl, rfl⟩) ?_
 try simp only [Act.put, List.setIfInBounds_toArray, List.set_cons_zero, List.set_cons_succ]
 refine wpDet_take (i := 22) (v := undef) (by as_aux_lemma => (simp only [List.getElem?_toArray, List.getElem?_cons_zero, List.getElem?_cons_succ]; rfl)) (by as_aux_lemma => kernel_rfl) (by as_aux_lemma => kernel_rfl) (by as_aux_lemma => kernel_rfl) (Or.inr ⟨by rfl, rfl⟩) ?_
 try simp only [Act.put, List.setIfInBounds_toArray, List.set_cons_zero, List.set_cons_succ]
 refine wpDet_take (i := 23) (v := ?dv400) (by as_aux_lemma => (simp only [List.getElem?_toArray, List.getElem?_cons_zero, List.getElem?_cons_succ]; rfl)) (by as_aux_lemma => kernel_rfl) (by as_aux_lemma => kernel_rfl) (by as_aux_lemma => kernel_rfl) (Or.inl ⟨by rfl, ?dy400⟩) ?dr400
 case dy400 => (intro w hSw; have hS0 := hSw; (try dsimp only [FP,F5] at hSw); go_simp; refine Came.value ?_ hS0; with_reducible rfl)
 try simp only [Act.put, List.setIfInBounds_toArray, List.set_cons_zero, List.set_cons_succ]
 refine wpDet_take (i := 24) (v := ?dv401) (by as_aux_lemma => (simp only [List.getElem?_toArray, List.getElem?_cons_zero, List.getElem?_cons_succ]; rfl)) (by as_aux_lemma => kernel_rfl) (by as_aux_lemma => kernel_rfl) (by as_aux_lemma => kernel_rfl) (Or.inl ⟨by rfl, ?dy401⟩) ?dr401
 case dy401 => (intro w hSw; have hS0 := hSw; (try dsimp only [FP,F5] at hSw); go_simp; refine Came.value ?_ hS0; with_reducible rfl)
 try simp only [Act.put, List.setIfInBounds_toArray, List.set_cons_zero, List.set_cons_succ]
 refine wpDet_take (i := 25) (v := ?dv402) (by as_aux_lemma => (simp only [List.getElem?_toArray, List.getElem?_cons_zero, List.getElem?_cons_succ]; rfl)) (by as_aux_lemma => kernel_rfl) (by as_aux_lemma => kernel_rfl) (by as_aux_lemma => kernel_rfl) (Or.inl ⟨by rfl, ?dy402⟩) ?dr402
 case dy402 => (intro w hSw; have hS0 := hSw; (try dsimp only [FP,F5] at hSw); go_simp; refine Came.value ?_ hS0; with_reducible rfl)
 try simp only [Act.put, List.setIfInBounds_toArray, List.set_cons_zero, List.set_cons_succ]
 refine wpDet_take (i := 26) (v := ?dv403) (by as_aux_lemma => (simp only [List.getElem?_toArray, List.getElem?_cons_zero, List.getElem?_cons_succ]; rfl)) (by as_aux_lemma => kernel_rfl) (by as_aux_lemma => kernel_rfl) (by as_aux_lemma => kernel_rfl) (Or.inl ⟨by rfl, ?dy403⟩) ?dr403
 case dy403 => (intro w hSw; have hS0 := hSw; (try dsimp only [FP,F5] at hSw); go_simp; refine Came.value ?_ hS0; with_reducible rfl)
 try simp only [Act.put, List.setIfInBounds_toArray, List.set_cons_zero, List.set_cons_succ]
 refine wpDet_take (i := 27) (v := ?dv404) (by as_aux_lemma => (simp only [List.getElem?_toArray, List.getElem?_cons_zero, List.getElem?_cons_succ]; rfl)) (by as_aux_lemma => kernel_rfl) (by as_aux_lemma => kernel_rfl) (by as_aux_lemma => kernel_rfl) (Or.inl ⟨by rfl, ?dy404⟩) ?dr404
 case dy404 => (intro w hSw; have hS0 := hSw; (try dsimp only [FP,F5] at hSw); go_simp; refine Came.value ?_ hS0; with_reducible rfl)
 try simp only [Act.put, List.setIfInBounds_toArray, List.set_cons_zero, List.set_cons_succ]
 refine wpDet_take (i := 28) (v := ?dv405) (by as_aux_lemma => (simp only [List.getElem?_toArray, List.getElem?_cons_zero, List.getElem?_cons_succ]; rfl)) (by as_aux_lemma => kernel_rfl) (by as_aux_lemma => kernel_rfl) (by as_aux_lemma => kernel_rfl) (Or.inl ⟨by rfl, ?dy405⟩) ?dr405
 case dy405 => (intro w hSw; have hS0 := hSw; (try dsimp only [FP,F5] at hSw); go_simp; refine Came.value ?_ hS0; with_reducible rfl)
 try simp only [Act.put, List.setIfInBounds_toArray, List.set_cons_zero, List.set_cons_succ]
 refine wpDet_take (i := 29) (v := ?dv406) (by as_aux_lemma => (simp only [List.getElem?_toArray, List.getElem?_cons_zero, List.getElem?_cons_succ]; rfl)) (by as_aux_lemma => kernel_rfl) (by as_aux_lemma => kernel_rfl) (by as_aux_lemma => kernel_rfl) (Or.inl ⟨by rfl, ?dy406⟩) ?dr406
 case dy406 => (intro w hSw; have hS0 := hSw; (try dsimp only [FP,F5] at hSw); go_simp; refine Came.value ?_ hS0; with_reducible rfl)
 try simp only [Act.put, List.setIfInBounds_toArray, List.set_cons_zero, List.set_cons_succ]
 refine wpDet_take (i := 30) (v := ?dv407) (by as_aux_lemma => (simp only [List.getElem?_toArray, List.getElem?_cons_zero, List.getElem?_cons_succ]; rfl)) (by as_aux_lemma => kernel_rfl) (by as_aux_lemma => kernel_rfl) (by as_aux_lemma => kernel_rfl) (Or.inl ⟨by rfl, ?dy407⟩) ?dr407
 case dy407 => (intro w hSw; have hS0 := hSw; (try dsimp only [FP,F5] at hSw); go_simp; refine Came.value ?_ hS0; with_reducible rfl)
 try simp only [Act.put, List.setIfInBounds_toArray, List.set_cons_zero, List.set_cons_succ]
 refine wpDet_take (i := 31) (v := ?dv408) (by as_aux_lemma => (simp only [List.getElem?_toArray, List.getElem?_cons_zero, List.getElem?_cons_succ]; rfl)) (by as_aux_lemma => kernel_rfl) (by as_aux_lemma => kernel_rfl) (by as_aux_lemma => kernel_rfl) (Or.inl ⟨by rfl, ?dy408⟩) ?dr408
 case dy408 => (intro w hSw; have hS0 := hSw; (try dsimp only [FP,F5] at hSw); go_simp; refine Came.value ?_ hS0; with_reducible rfl)
 try simp only [Act.put, List.setIfInBounds_toArray, List.set_cons_zero, List.set_cons_succ]
 refine wpDet_take (i := 32) (v := ?dv409) (by as_aux_lemma => (simp only [List.getElem?_toArray, List.getElem?_cons_zero, List.getElem?_cons_succ]; rfl)) (by as_aux_lemma => kernel_rfl) (by as_aux_lemma => kernel_rfl) (by as_aux_lemma => kernel_rfl) (Or.inl ⟨by rfl, ?dy409⟩) ?dr409
 case dy409 => (intro w hSw; have hS0 := hSw; (try dsimp only [FP,F5] at hSw); go_simp; refine Came.value ?_ hS0; with_reducible rfl)
 try simp only [Act.put, List.setIfInBounds_toArray, List.set_cons_zero, List.set_cons_succ]
 refine wpDet_take (i := 33) (v := ?dv410) (by as_aux_lemma => (simp only [List.getElem?_toArray, List.getElem?_cons_zero, List.getElem?_cons_succ]; rfl)) (by as_aux_lemma => kernel_rfl) (by as_aux_lemma => kernel_rfl) (by as_aux_lemma => kernel_rfl) (Or.inl ⟨by rfl, ?dy410⟩) ?dr410
 case dy410 => (intro w hSw; have hS0 := hSw; (try dsimp only [FP,F5] at hSw); go_simp; refine Came.value ?_ hS0; with_reducible rfl)
 try simp only [Act.put, List.setIfInBounds_toArray, List.set_cons_zero, List.set_cons_succ]
 refine wpDet_take (i := 34) (v := ?dv411) (by as_aux_lemma => (simp only [List.getElem?_toArray, List.getElem?_cons_zero, List.getElem?_cons_succ]; rfl)) (by as_aux_lemma => kernel_rfl) (by as_aux_lemma => kernel_rfl) (by as_aux_lemma => kernel_rfl) (Or.inl ⟨by rfl, ?dy411⟩) ?dr411
 case dy411 => (intro w hSw; have hS0 := hSw; (try dsimp only [FP,F5] at hSw); go_simp; refine Came.value ?_ hS0; with_reducible rfl)
 try simp only [Act.put, List.setIfInBounds_toArray, List.set_cons_zero, List.set_cons_succ]
 refine wpDet_take (i := 35) (v := ?dv412) (by as_aux_lemma => (simp only [List.getElem?_toArray, List.getElem?_cons_zero, List.getElem?_cons_succ]; rfl)) (by as_aux_lemma => kernel_rfl) (by as_aux_lemma => kernel_rfl) (by as_aux_lemma => kernel_rfl) (Or.inl ⟨by rfl, ?dy412⟩) ?dr412
 case dy412 => (intro w hSw; have hS0 := hSw; (try dsimp only [FP,F5] at hSw); go_simp; refine Came.value ?_ hS0; with_reducible rfl)
 try simp only [Act.put, List.setIfInBounds_toArray, List.set_cons_zero, List.set_cons_succ]
 refine wpDet_take (i := 36) (v := ?dv413) (by as_aux_lemma => (simp only [List.getElem?_toArray, List.getElem?_cons_zero, List.getElem?_cons_succ]; rfl)) (by as_aux_lemma => kernel_rfl) (by as_aux_lemma => kernel_rfl) (by as_aux_lemma => kernel_rfl) (Or.inl ⟨by rfl, ?dy413⟩) ?dr413
 case dy413 => (intro w hSw; have hS0 := hSw; (try dsimp only [FP,F5] at hSw); go_simp; refine Came.value ?_ hS0; with_reducible rfl)
 try simp only [Act.put, List.setIfInBounds_toArray, List.set_cons_zero, List.set_cons_succ]
 refine wpDet_take (i := 37) (v := ?dv414) (by as_aux_lemma => (simp only [List.getElem?_toArray, List.getElem?_cons_zero, List.getElem?_cons_succ]; rfl)) (by as_aux_lemma => kernel_rfl) (by as_aux_lemma => kernel_rfl) (by as_aux_lemma => kernel_rfl) (Or.inl ⟨by rfl, ?dy414⟩) ?dr414
 case dy414 => (intro w hSw; have hS0 := hSw; (try dsimp only [FP,F5] at hSw); go_simp; refine Came.value ?_ hS0; with_reducible rfl)
 try simp only [Act.put, List.setIfInBounds_toArray, List.set_cons_zero, List.set_cons_succ]
 refine wpDet_take (i := 38) (v := ?dv415) (by as_aux_lemma => (simp only [List.getElem?_toArray, List.getElem?_cons_zero, List.getElem?_cons_succ]; rfl)) (by as_aux_lemma => kernel_rfl) (by as_aux_lemma => kernel_rfl) (by as_aux_lemma => kernel_rfl) (Or.inl ⟨by rfl, ?dy415⟩) ?dr415
 case dy415 => (intro w hSw; have hS0 := hSw; (try dsimp only [FP,F5] at hSw); go_simp; refine Came.value ?_ hS0; with_reducible rfl)
 try simp only [Act.put, List.setIfInBounds_toArray, List.set_cons_zero, List.set_cons_succ]
 refine wpDet_take (i := 39) (v := undef) (by as_aux_lemma => (simp only [List.getElem?_toArray, List.getElem?_cons_zero, List.getElem?_cons_succ]; rfl)) (by as_aux_lemma => kernel_rfl) (by as_aux_lemma => kernel_rfl) (by as_aux_lemma => kernel_rfl) (Or.inr ⟨by rfl, rfl⟩) ?_
 try simp only [Act.put, List.setIfInBounds_toArray, List.set_cons_zero, List.set_cons_succ]
 refine wpDet_take (i := 40) (v := undef) (by as_aux_lemma => (simp only [List.getElem?_toArray, List.getElem?_cons_zero, List.getElem?_cons_succ]; rfl)) (by as_aux_lemma => kernel_rfl) (by as_aux_lemma => kernel_rfl) (by as_aux_lemma => kernel_rfl) (Or.inr ⟨by rfl, rfl⟩) ?_
 try simp only [Act.put, List.setIfInBounds_toArray, List.set_cons_zero, List.set_cons_succ]
 refine wpDet_take (i := 41) (v := undef) (by as_aux_lemma => (simp only [List.getElem?_toArray, List.getElem?_cons_zero, List.getElem?_cons_succ]; rfl)) (by as_aux_lemma => kernel_rfl) (by as_aux_lemma => kernel_rfl) (by as_aux_lemma => kernel_rfl) (Or.inr ⟨by rfl, rfl⟩) ?_
 try simp only [Act.put, List.setIfInBounds_toArray, List.set_cons_zero, List.set_cons_succ]
 refine wpDet_take (i := 42) (v := undef) (by as_aux_lemma => (simp only [List.getElem?_toArray, List.getElem?_cons_zero, List.getElem?_cons_succ]; rfl)) (by as_aux_lemma => kernel_rfl) (by as_aux_lemma => kernel_rfl) (by as_aux_lemma => kernel_rfl) (Or.inr ⟨by rfl, rfl⟩) ?_
 try simp only [Act.put, List.setIfInBounds_toArray, List.set_cons_zero, List.set_cons_succ]
 refine wpDet_take (i := 43) (v := undef) (by as_aux_lemma => (simp only [List.getElem?_toArray, List.getElem?_cons_zero, List.getElem?_cons_succ]; rfl)) (by as_aux_lemma => kernel_rfl) (by as_aux_lemma => kernel_rfl) (by as_aux_lemma => kernel_rfl) (Or.inr ⟨by rfl, rfl⟩) ?_
 try simp only [Act.put, List.setIfInBounds_toArray, List.set_cons_zero, List.set_cons_succ]
 refine wpDet_take (i := 44) (v := undef) (by as_aux_lemma => (simp only [List.getElem?_toArray, List.getElem?_cons_zero, List.getElem?_cons_succ]; rfl)) (by as_aux_lemma => kernel_rfl) (by as_aux_lemma => kernel_rfl) (by as_aux_lemma => kernel_rfl) (Or.inr ⟨by rfl, rfl⟩) ?_
 try simp only [Act.put, List.setIfInBounds_toArray, List.set_cons_zero, List.set_cons_succ]
 refine wpDet_take (i := 45) (v := undef) (by as_aux_lemma => (simp only [List.getElem?_toArray, List.getElem?_cons_zero, List.getElem?_cons_succ]; rfl)) (by as_aux_lemma => kernel_rfl) (by as_aux_lemma => kernel_rfl) (by as_aux_lemma => kernel_rfl) (Or.inr ⟨by rfl, rfl⟩) ?_
 try simp only [Act.put, List.setIfInBounds_toArray, List.set_cons_zero, List.set_cons_succ]
 refine wpDet_take (i := 46) (v := undef) (by as_aux_lemma => (simp only [List.getElem?_toArray, List.getElem?_cons_zero, List.getElem?_cons_succ]; rfl)) (by as_aux_lemma => kernel_rfl) (by as_aux_lemma => kernel_rfl) (by as_aux_lemma => kernel_rfl) (Or.inr ⟨by rfl, rfl⟩) ?_
 try simp only [Act.put, List.setIfInBounds_toArray, List.set_cons_zero, List.set_cons_succ]
 refine wpDet_take (i := 47) (v := undef) (by as_aux_lemma => (simp only [List.getElem?_toArray, List.getElem?_cons_zero, List.getElem?_cons_succ]; rfl)) (by as_aux_lemma => kernel_rfl) (by as_aux_lemma => kernel_rfl) (by as_aux_lemma => kernel_rfl) (Or.inr ⟨by rfl, rfl⟩) ?_
 try simp only [Act.put, List.setIfInBounds_toArray, List.set_cons_zero, List.set_cons_succ]
 refine wpDet_take (i := 48) (v := undef) (by as_aux_lemma => (simp only [List.getElem?_toArray, List.getElem?_cons_zero, List.getElem?_cons_succ]; rfl)) (by as_aux_lemma => kernel_rfl) (by as_aux_lemma => kernel_rfl) (by as_aux_lemma => kernel_rfl) (Or.inr ⟨by rfl, rfl⟩) ?_
 try simp only [Act.put, List.setIfInBounds_toArray, List.set_cons_zero, List.set_cons_succ]
 refine wpDet_take (i := 49) (v := undef) (by as_aux_lemma => (simp only [List.getElem?_toArray, List.getElem?_cons_zero, List.getElem?_cons_succ]; rfl)) (by as_aux_lemma => kernel_rfl) (by as_aux_lemma => kernel_rfl) (by as_aux_lemma => kernel_rfl) (Or.inr ⟨by rfl, rfl⟩) ?_
 try simp only [Act.put, List.setIfInBounds_toArray, List.set_cons_zero, List.set_cons_succ]
 refine wpDet_take (i := 50) (v := undef) (by as_aux_lemma => (simp only [List.getElem?_toArray, List.getElem?_cons_zero, List.getElem?_cons_succ]; rfl)) (by as_aux_lemma => kernel_rfl) (by as_aux_lemma => kernel_rfl) (by as_aux_lemma => kernel_rfl) (Or.inr ⟨by rfl, rfl⟩) ?_
 try simp only [Act.put, List.setIfInBounds_toArray, List.set_cons_zero, List.set_cons_succ]
 refine wpDet_take (i := 51) (v := undef) (by as_aux_lemma => (simp only [List.getElem?_toArray, List.getElem?_cons_zero, List.getElem?_cons_succ]; rfl)) (by as_aux_lemma => kernel_rfl) (by as_aux_lemma => kernel_rfl) (by as_aux_lemma => kernel_rfl) (Or.inr ⟨by rfl, rfl⟩) ?_
 try simp only [Act.put, List.setIfInBounds_toArray, List.set_cons_zero, List.set_cons_succ]
 refine wpDet_take (i := 52) (v := undef) (by as_aux_lemma => (simp only [List.getElem?_toArray, List.getElem?_cons_zero, List.getElem?_cons_succ]; rfl)) (by as_aux_lemma => kernel_rfl) (by as_aux_lemma => kernel_rfl) (by as_aux_lemma => kernel_rfl) (Or.inr ⟨by rfl, rfl⟩) ?_
 try simp only [Act.put, List.setIfInBounds_toArray, List.set_cons_zero, List.set_cons_succ]
 refine wpDet_take (i := 53) (v := undef) (by as_aux_lemma => (simp only [List.getElem?_toArray, List.getElem?_cons_zero, List.getElem?_cons_succ]; rfl)) (by as_aux_lemma => kernel_rfl) (by as_aux_lemma => kernel_rfl) (by as_aux_lemma => kernel_rfl) (Or.inr ⟨by rfl, rfl⟩) ?_
 try simp only [Act.put, List.setIfInBounds_toArray, List.set_cons_zero, List.set_cons_succ]
 refine wpDet_take (i := 54) (v := undef) (by as_aux_lemma => (simp only [List.getElem?_toArray, List.getElem?_cons_zero, List.getElem?_cons_succ]; rfl)) (by as_aux_lemma => kernel_rfl) (by as_aux_lemma => kernel_rfl) (by as_aux_lemma => kernel_rfl) (Or.inr ⟨by rfl, rfl⟩) ?_
 try simp only [Act.put, List.setIfInBounds_toArray, List.set_cons_zero, List.set_cons_succ]
 refine wpDet_take (i := 55) (v := ?dv432) (by as_aux_lemma => (simp only [List.getElem?_toArray, List.getElem?_cons_zero, List.getElem?_cons_succ]; rfl)) (by as_aux_lemma => kernel_rfl) (by as_aux_lemma => kernel_rfl) (by as_aux_lemma => kernel_rfl) (Or.inl ⟨by rfl, ?dy432⟩) ?dr432
 case dy432 => (intro w hSw; have hS0 := hSw; (try dsimp only [FP,F5] at hSw); go_simp; refine Came.value ?_ hS0; with_reducible rfl)
 try simp only [Act.put, List.setIfInBounds_toArray, List.set_cons_zero, List.set_cons_succ]
 refine wpDet_take (i := 56) (v := ?dv433) (by as_aux_lemma => (simp only [List.getElem?_toArray, List.getElem?_cons_zero, List.getElem?_cons_succ]; rfl)) (by as_aux_lemma => kernel_rfl) (by as_aux_lemma => kernel_rfl) (by as_aux_lemma => kernel_rfl) (Or.inl ⟨by rfl, ?dy433⟩) ?dr433
 case dy433 => (intro w hSw; have hS0 := hSw; (try dsimp only [FP,F5] at hSw); go_simp; refine Came.value ?_ hS0; with_reducible rfl)
 try simp only [Act.put, List.setIfInBounds_toArray, List.set_cons_zero, List.set_cons_succ]
 refine wpDet_take (i := 57) (v := ?dv434) (by as_aux_lemma => (simp only [List.getElem?_toArray, List.getElem?_cons_zero, List.getElem?_cons_succ]; rfl)) (by as_aux_lemma => kernel_rfl) (by as_aux_lemma => kernel_rfl) (by as_aux_lemma => kernel_rfl) (Or.inl ⟨by rfl, ?dy434⟩) ?dr434
 case dy434 => (intro w hSw; have hS0 := hSw; (try dsimp only [FP,F5] at hSw); go_simp; refine Came.value ?_ hS0; with_reducible rfl)
 try simp only [Act.put, List.setIfInBounds_toArray, List.set_cons_zero, List.set_cons_succ]
 refine wpDet_take (i := 58) (v := ?dv435) (by as_aux_lemma => (simp only [List.getElem?_toArray, List.getElem?_cons_zero, List.getElem?_cons_succ]; rfl)) (by as_aux_lemma => kernel_rfl) (by as_aux_lemma => kernel_rfl) (by as_aux_lemma => kernel_rfl) (Or.inl ⟨by rfl, ?dy435⟩) ?dr435
 case dy435 => (intro w hSw; have hS0 := hSw; (try dsimp only [FP,F5] at hSw); go_simp; refine Came.value ?_ hS0; with_reducible rfl)
 try simp only [Act.put, List.setIfInBounds_toArray, List.set_cons_zero, List.set_cons_succ]
 refine wpDet_take (i := 59) (v := ?dv436) (by as_aux_lemma => (simp only [List.getElem?_toArray, List.getElem?_cons_zero, List.getElem?_cons_succ]; rfl)) (by as_aux_lemma => kernel_rfl) (by as_aux_lemma => kernel_rfl) (by as_aux_lemma => kernel_rfl) (Or.inl ⟨by rfl, ?dy436⟩) ?dr436
 case dy436 => (intro w hSw; have hS0 := hSw; (try dsimp only [FP,F5] at hSw); go_simp; refine Came.value ?_ hS0; with_reducible rfl)
 try simp only [Act.put, List.setIfInBounds_toArray, List.set_cons_zero, List.set_cons_succ]
 refine wpDet_take (i := 60) (v := ?dv437) (by as_aux_lemma => (simp only [List.getElem?_toArray, List.getElem?_cons_zero, List.getElem?_cons_succ]; rfl)) (by as_aux_lemma => kernel_rfl) (by as_aux_lemma => kernel_rfl) (by as_aux_lemma => kernel_rfl) (Or.inl ⟨by rfl, ?dy437⟩) ?dr437
 case dy437 => (intro w hSw; have hS0 := hSw; (try dsimp only [FP,F5] at hSw); go_simp; refine Came.value ?_ hS0; with_reducible rfl)
 try simp only [Act.put, List.setIfInBounds_toArray, List.set_cons_zero, List.set_cons_succ]
 refine wpDet_take (i := 61) (v := undef) (by as_aux_lemma => (simp only [List.getElem?_toArray, List.getElem?_cons_zero, List.getElem?_cons_succ]; rfl)) (by as_aux_lemma => kernel_rfl) (by as_aux_lemma => kernel_rfl) (by as_aux_lemma => kernel_rfl) (Or.inr ⟨by rfl, rfl⟩) ?_
 try simp only [Act.put, List.setIfInBounds_toArray, List.set_cons_zero, List.set_cons_succ]
 refine wpDet_take (i := 62) (v := undef) (by as_aux_lemma => (simp only [List.getElem?_toArray, List.getElem?_cons_zero, List.getElem?_cons_succ]; rfl)) (by as_aux_lemma => kernel_rfl) (by as_aux_lemma => kernel_rfl) (by as_aux_lemma => kernel_rfl) (Or.inr ⟨by rfl, rfl⟩) ?_
 try simp only [Act.put, List.setIfInBounds_toArray, List.set_cons_zero, List.set_cons_succ]
 refine wpDet_take (i := 63) (v := undef) (by as_aux_lemma => (simp only [List.getElem?_toArray, List.getElem?_cons_zero, List.getElem?_cons_succ]; rfl)) (by as_aux_lemma => kernel_rfl) (by as_aux_lemma => kernel_rfl) (by as_aux_lemma => kernel_rfl) (Or.inr ⟨by rfl, rfl⟩) ?_
 try simp only [Act.put, List.setIfInBounds_toArray, List.set_cons_zero, List.set_cons_succ]
 refine wpDet_take (i := 64) (v := undef) (by as_aux_lemma => (simp only [List.getElem?_toArray, List.getElem?_cons_zero, List.getElem?_cons_succ]; rfl)) (by as_aux_lemma => kernel_rfl) (by as_aux_lemma => kernel_rfl) (by as_aux_lemma => kernel_rfl) (Or.inr ⟨by rfl, rfl⟩) ?_
 try simp only [Act.put, List.setIfInBounds_toArray, List.set_cons_zero, List.set_cons_succ]
 refine wpDet_take (i := 65) (v := undef) (by as_aux_lemma => (simp only [List.getElem?_toArray, List.getElem?_cons_zero, List.getElem?_cons_succ]; rfl)) (by as_aux_lemma => kernel_rfl) (by as_aux_lemma => kernel_rfl) (by as_aux_lemma => kernel_rfl) (Or.inr ⟨by rfl, rfl⟩) ?_
 try simp only [Act.put, List.setIfInBounds_toArray, List.set_cons_zero, List.set_cons_succ]
 refine wpDet_take (i := 66) (v := undef) (by as_aux_lemma => (simp only [List.getElem?_toArray, List.getElem?_cons_zero, List.getElem?_cons_succ]; rfl)) (by as_aux_lemma => kernel_rfl) (by as_aux_lemma => kernel_rfl) (by as_aux_lemma => kernel_rfl) (Or.inr ⟨by rfl, rfl⟩) ?_
 try simp only [Act.put, List.setIfInBounds_toArray, List.set_cons_zero, List.set_cons_succ]
 refine wpDet_take (i := 67) (v := undef) (by as_aux_lemma => (simp only [List.getElem?_toArray, List.getElem?_cons_zero, List.getElem?_cons_succ]; rfl)) (by as_aux_lemma => kernel_rfl) (by as_aux_lemma => kernel_rfl) (by as_aux_lemma => kernel_rfl) (Or.inr ⟨by rfl, rfl⟩) ?_
 try simp only [Act.put, List.setIfInBounds_toArray, List.set_cons_zero, List.set_cons_succ]
 refine wpDet_take (i := 68) (v := ?dv445) (by as_aux_lemma => (simp only [List.getElem?_toArray, List.getElem?_cons_zero, List.getElem?_cons_succ]; rfl)) (by as_aux_lemma => kernel_rfl) (by as_aux_lemma => kernel_rfl) (by as_aux_lemma => kernel_rfl) (Or.inl ⟨by rfl, ?dy445⟩) ?dr445
 case dy445 => (intro w hSw; have hS0 := hSw; (try dsimp only [FP,F5] at hSw); go_simp; refine Came.value ?_ hS0; with_reducible rfl)
 try simp only [Act.put, List.setIfInBounds_toArray, List.set_cons_zero, List.set_cons_succ]
 refine wpDet_take (i := 69) (v := ?dv446) (by as_aux_lemma => (simp only [List.getElem?_toArray, List.getElem?_cons_zero, List.getElem?_cons_succ]; rfl)) (by as_aux_lemma => kernel_rfl) (by as_aux_lemma => kernel_rfl) (by as_aux_lemma => kernel_rfl) (Or.inl ⟨by rfl, ?dy446⟩) ?dr446
 case dy446 => (intro w hSw; have hS0 := hSw; (try dsimp only [FP,F5] at hSw); go_simp; refine Came.value ?_ hS0; with_reducible rfl)
 try simp only [Act.put, List.setIfInBounds_toArray, List.set_cons_zero, List.set_cons_succ]
 refine wpDet_take (i := 70) (v := ?dv447) (by as_aux_lemma => (simp only [List.getElem?_toArray, List.getElem?_cons_zero, List.getElem?_cons_succ]; rfl)) (by as_aux_lemma => kernel_rfl) (by as_aux_lemma => kernel_rfl) (by as_aux_lemma => kernel_rfl) (Or.inl ⟨by rfl, ?dy447⟩) ?dr447
 case dy447 => (intro w hSw; have hS0 := hSw; (try dsimp only [FP,F5] at hSw); go_simp; refine Came.value ?_ hS0; with_reducible rfl)
 try simp only [Act.put, List.setIfInBounds_toArray, List.set_cons_zero, List.set_cons_succ]
 refine wpDet_take (i := 71) (v := ?dv448) (by as_aux_lemma => (simp only [List.getElem?_toArray, List.getElem?_cons_zero, List.getElem?_cons_succ]; rfl)) (by as_aux_lemma => kernel_rfl) (by as_aux_lemma => kernel_rfl) (by as_aux_lemma => kernel_rfl) (Or.inl ⟨by rfl, ?dy448⟩) ?dr448
 case dy448 => (intro w hSw; have hS0 := hSw; (try dsimp only [FP,F5] at hSw); go_simp; refine Came.value ?_ hS0; with_reducible rfl)
 try simp only [Act.put, List.setIfInBounds_toArray, List.set_cons_zero, List.set_cons_succ]
 refine wpDet_take (i := 72) (v := ?dv449) (by as_aux_lemma => (simp only [List.getElem?_toArray, List.getElem?_cons_zero, List.getElem?_cons_succ]; rfl)) (by as_aux_lemma => kernel_rfl) (by as_aux_lemma => kernel_rfl) (by as_aux_lemma => kernel_rfl) (Or.inl ⟨by rfl, ?dy449⟩) ?dr449
 case dy449 => (intro w hSw; have hS0 := hSw; (try dsimp only [FP,F5] at hSw); go_simp; refine Came.value ?_ hS0; with_reducible rfl)
 try simp only [Act.put, List.setIfInBounds_toArray, List.set_cons_zero, List.set_cons_succ]
 refine wpDet_take (i := 73) (v := ?dv450) (by as_aux_lemma => (simp only [List.getElem?_toArray, List.getElem?_cons_zero, List.getElem?_cons_succ]; rfl)) (by as_aux_lemma => kernel_rfl) (by as_aux_lemma => kernel_rfl) (by as_aux_lemma => kernel_rfl) (Or.inl ⟨by rfl, ?dy450⟩) ?dr450
 case dy450 => (intro w hSw; have hS0 := hSw; (try dsimp only [FP,F5] at hSw); go_simp; refine Came.value ?_ hS0; with_reducible rfl)
 try simp only [Act.put, List.setIfInBounds_toArray, List.set_cons_zero, List.set_cons_succ]
 refine wpDet_take (i := 74) (v := ?dv451) (by as_aux_lemma => (simp only [List.getElem?_toArray, List.getElem?_cons_zero, List.getElem?_cons_succ]; rfl)) (by as_aux_lemma => kernel_rfl) (by as_aux_lemma => kernel_rfl) (by as_aux_lemma => kernel_rfl) (Or.inl ⟨by rfl, ?dy451⟩) ?dr451
 case dy451 => (intro w hSw; have hS0 := hSw; (try dsimp only [FP,F5] at hSw); go_simp; refine Came.value ?_ hS0; with_reducible rfl)
 try simp only [Act.put, List.setIfInBounds_toArray, List.set_cons_zero, List.set_cons_succ]
 refine wpDet_take (i := 75) (v := ?dv452) (by as_aux_lemma => (simp only [List.getElem?_toArray, List.getElem?_cons_zero, List.getElem?_cons_succ]; rfl)) (by as_aux_lemma => kernel_rfl) (by as_aux_lemma => kernel_rfl) (by as_aux_lemma => kernel_rfl) (Or.inl ⟨by rfl, ?dy452⟩) ?dr452
 case dy452 => (intro w hSw; have hS0 := hSw; (try dsimp only [FP,F5] at hSw); go_simp; refine Came.value ?_ hS0; with_reducible rfl)
 try simp only [Act.put, List.setIfInBounds_toArray, List.set_cons_zero, List.set_cons_succ]
 refine wpDet_take (i := 76) (v := ?dv453) (by as_aux_lemma => (simp only [List.getElem?_toArray, List.getElem?_cons_zero, List.getElem?_cons_succ]; rfl)) (by as_aux_lemma => kernel_rfl) (by as_aux_lemma => kernel_rfl) (by as_aux_lemma => kernel_rfl) (Or.inl ⟨by rfl, ?dy453⟩) ?dr453
 case dy453 => (intro w hSw; have hS0 := hSw; (try dsimp only [FP,F5] at hSw); go_simp; refine Came.value ?_ hS0; with_reducible rfl)
 try simp only [Act.put, List.setIfInBounds_toArray, List.set_cons_zero, List.set_cons_succ]
 refine wpDet_take (i := 77) (v := ?dv454) (by as_aux_lemma => (simp only [List.getElem?_toArray, List.getElem?_cons_zero, List.getElem?_cons_succ]; rfl)) (by as_aux_lemma => kernel_rfl) (by as_aux_lemma => kernel_rfl) (by as_aux_lemma => kernel_rfl) (Or.inl ⟨by rfl, ?dy454⟩) ?dr454
 case dy454 => (intro w hSw; go_simp; exact Came.call ((FLX.out w).mono fun e w' ⟨he, hf⟩ => ⟨he, FP.fr hSw hf⟩) (by with_reducible rfl))
 try simp only [Act.put, List.setIfInBounds_toArray, List.set_cons_zero, List.set_cons_succ]
 refine wpDet_take (i := 78) (v := ?dv455) (by as_aux_lemma => (simp only [List.getElem?_toArray, List.getElem?_cons_zero, List.getElem?_cons_succ]; rfl)) (by as_aux_lemma => kernel_rfl) (by as_aux_lemma => kernel_rfl) (by as_aux_lemma => kernel_rfl) (Or.inl ⟨by rfl, ?dy455⟩) ?dr455
 case dy455 => (intro w hSw; have hS0 := hSw; (try dsimp only [FP,F5] at hSw); go_simp; refine Came.value ?_ hS0; with_reducible rfl)
 try simp only [Act.put, List.setIfInBounds_toArray, List.set_cons_zero, List.set_cons_succ]
 refine wpDet_take (i := 79) (v := ?dv456) (by as_aux_lemma => (simp only [List.getElem?_toArray, List.getElem?_cons_zero, List.getElem?_cons_succ]; rfl)) (by as_aux_lemma => kernel_rfl) (by as_aux_lemma => kernel_rfl) (by as_aux_lemma => kernel_rfl) (Or.inl ⟨by rfl, ?dy456⟩) ?dr456
 case dy456 => (intro w hSw; have hS0 := hSw; (try dsimp only [FP,F5] at hSw); go_simp; refine Came.value ?_ hS0; with_reducible rfl)
 try simp only [Act.put, List.setIfInBounds_toArray, List.set_cons_zero, List.set_cons_succ]
 refine wpDet_done (by as_aux_lemma => kernel_rfl) ?_ _
 exact tail
 )
                      case t =>
                        intro w8 hS
                        have F8 := Lib.hid hS.1.1
                        clear hS hun
                        go_wp2_with fail
                        go_meet
                        exact ⟨rfl, Lib.hid (T7.out.fr F8.out)⟩
                    · have hx : decide (0 < xo) = false := decide_eq_false hxo
                      clear f1 f2 f3 f4 f5 f6 f7 f8 FA HDN LEX o0 o1 hyo hxo
                      apply by_tail
                      case f =>
                        intro tail
                        as_aux_lemma =>
                          focus (
 refine wp_region_det (S := FP wc w.heap.size p10 m n ⟨hc, hfl, hs, hd⟩ ⟨⟨xp, xe, xo, xr⟩, xk⟩ ⟨⟨yp, ye, yo, yr⟩, yk⟩ ⟨false, false, ef, ea, em, ⟨dc, du, dd⟩⟩) (by as_aux_lemma => kernel_rfl) (FP.fr DW.out (Fr.drew _ [])) ?_
 refine wpDet_take (i := 0) (v := ?dv457) (by as_aux_lemma => (simp only [List.getElem?_toArray, List.getElem?_cons_zero]; rfl)) (by as_aux_lemma => kernel_rfl) (by as_aux_lemma => kernel_rfl) (by as_aux_lemma => kernel_rfl) (Or.inl ⟨by rfl, ?dy457⟩) ?dr457
 case dy457 => (intro w hSw; have hS0 := hSw; (try dsimp only [FP,F5] at hSw); go_simp; refine Came.value ?_ hS0; with_reducible rfl)
 try simp only [Act.put, List.setIfInBounds_toArray, List.set_cons_zero, List.set_cons_succ]
 refine wpDet_take (i := 1) (v := ?dv458) (by as_aux_lemma => (simp only [List.getElem?_toArray, List.getElem?_cons_zero, List.getElem?_cons_succ]; rfl)) (by as_aux_lemma => kernel_rfl) (by as_aux_lemma => kernel_rfl) (by as_aux_lemma => kernel_rfl) (Or.inl ⟨by rfl, ?dy458⟩) ?dr458
 case dy458 => (intro w hSw; have hS0 := hSw; (try dsimp only [FP,F5] at hSw); go_simp; refine Came.value ?_ hS0; with_reducible rfl)
 try simp only [Act.put, List.setIfInBounds_toArray, List.set_cons_zero, List.set_cons_succ]
 refine wpDet_take (i := 2) (v := ?dv459) (by as_aux_lemma => (simp only [List.getElem?_toArray, List.getElem?_cons_zero, List.getElem?_cons_succ]; rfl)) (by as_aux_lemma => kernel_rfl) (by as_aux_lemma => kernel_rfl) (by as_aux_lemma => kernel_rfl) (Or.inl ⟨by rfl, ?dy459⟩) ?dr459
 case dy459 => (intro w hSw; go_simp; exact Came.call ((RGX.out w).mono fun e w' ⟨he, hf⟩ => ⟨he, FP.fr hSw hf⟩) (by with_reducible rfl))
 try simp only [Act.put, List.setIfInBounds_toArray, List.set_cons_zero, List.set_cons_succ]
 refine wpDet_take (i := 3) (v := ?dv460) (by as_aux_lemma => (simp only [List.getElem?_toArray, List.getElem?_cons_zero, List.getElem?_cons_succ]; rfl)) (by as_aux_lemma => kernel_rfl) (by as_aux_lemma => kernel_rfl) (by as_aux_lemma => kernel_rfl) (Or.inl ⟨by rfl, ?dy460⟩) ?dr460
 case dy460 => (intro w hSw; have hS0 := hSw; (try dsimp only [FP,F5] at hSw); go_simp; refine Came.value ?_ hS0; with_reducible rfl)
 try simp only [Act.put, List.setIfInBounds_toArray, List.set_cons_zero, List.set_cons_succ]
 refine wpDet_take (i := 4) (v := ?dv461) (by as_aux_lemma => (simp only [List.getElem?_toArray, List.getElem?_cons_zero, List.getElem?_cons_succ]; rfl)) (by as_aux_lemma => kernel_rfl) (by as_aux_lemma => kernel_rfl) (by as_aux_lemma => kernel_rfl) (Or.inl ⟨by rfl, ?dy461⟩) ?dr461
 case dy461 => (intro w hSw; have hS0 := hSw; (try dsimp only [FP,F5] at hSw); go_simp; refine Came.value ?_ hS0; with_reducible rfl)
 try simp only [Act.put, List.setIfInBounds_toArray, List.set_cons_zero, List.set_cons_succ]
 refine wpDet_take (i := 5) (v := ?dv462) (by as_aux_lemma => (simp only [List.getElem?_toArray, List.getElem?_cons_zero, List.getElem?_cons_succ]; rfl)) (by as_aux_lemma => kernel_rfl) (by as_aux_lemma => kernel_rfl) (by as_aux_lemma => kernel_rfl) (Or.inl ⟨by rfl, ?dy462⟩) ?dr462
 case dy462 => (intro w hSw; have hS0 := hSw; (try dsimp only [FP,F5] at hSw); go_simp; refine Came.value ?_ hS0; with_reducible rfl)
 try simp only [Act.put, List.setIfInBounds_toArray, List.set_cons_zero, List.set_cons_succ]
 refine wpDet_take (i := 6) (v := ?dv463) (by as_aux_lemma => (simp only [List.getElem?_toArray, List.getElem?_cons_zero, List.getElem?_cons_succ]; rfl)) (by as_aux_lemma => kernel_rfl) (by as_aux_lemma => kernel_rfl) (by as_aux_lemma => kernel_rfl) (Or.inl ⟨by rfl, ?dy463⟩) ?dr463
 case dy463 => (intro w hSw; have hS0 := hSw; (try dsimp only [FP,F5] at hSw); go_simp; refine Came.value ?_ hS0; with_reducible rfl)
 try simp only [Act.put, List.setIfInBounds_toArray, List.set_cons_zero, List.set_cons_succ]
 refine wpDet_take (i := 7) (v := ?dv464) (by as_aux_lemma => (simp only [List.getElem?_toArray, List.getElem?_cons_zero, List.getElem?_cons_succ]; rfl)) (by as_aux_lemma => kernel_rfl) (by as_aux_lemma => kernel_rfl) (by as_aux_lemma => kernel_rfl) (Or.inl ⟨by rfl, ?dy464⟩) ?dr464
 case dy464 => (intro w hSw; have hS0 := hSw; (try dsimp only [FP,F5] at hSw); go_simp; refine Came.value ?_ hS0; with_reducible rfl)
 try simp only [Act.put, List.setIfInBounds_toArray, List.set_cons_zero, List.set_cons_succ]
 refine wpDet_take (i := 8) (v := ?dv465) (by as_aux_lemma => (simp only [List.getElem?_toArray, List.getElem?_cons_zero, List.getElem?_cons_succ]; rfl)) (by as_aux_lemma => kernel_rfl) (by as_aux_lemma => kernel_rfl) (by as_aux_lemma => kernel_rfl) (Or.inl ⟨by rfl, ?dy465⟩) ?dr465
 case dy465 => (intro w hSw; have hS0 := hSw; (try dsimp only [FP,F5] at hSw); go_simp; refine Came.value ?_ hS0; with_reducible rfl)
 try simp only [Act.put, List.setIfInBounds_toArray, List.set_cons_zero, List.set_cons_succ]
 refine wpDet_take (i := 9) (v := ?dv466) (by as_aux_lemma => (simp only [List.getElem?_toArray, List.getElem?_cons_zero, List.getElem?_cons_succ]; rfl)) (by as_aux_lemma => kernel_rfl) (by as_aux_lemma => kernel_rfl) (by as_aux_lemma => kernel_rfl) (Or.inl ⟨by rfl, ?dy466⟩) ?dr466
 case dy466 => (intro w hSw; have hS0 := hSw; (try dsimp only [FP,F5] at hSw); go_simp; refine Came.value ?_ hS0; with_reducible rfl)
 try simp only [Act.put, List.setIfInBounds_toArray, List.set_cons_zero, List.set_cons_succ]
 refine wpDet_take (i := 10) (v := ?dv467) (by as_aux_lemma => (simp only [List.getElem?_toArray, List.getElem?_cons_zero, List.getElem?_cons_succ]; rfl)) (by as_aux_lemma => kernel_rfl) (by as_aux_lemma => kernel_rfl) (by as_aux_lemma => kernel_rfl) (Or.inl ⟨by rfl, ?dy467⟩) ?dr467
 case dy467 => (intro w hSw; have hS0 := hSw; (try dsimp only [FP,F5] at hSw); go_simp; refine Came.value ?_ hS0; with_reducible rfl)
 try simp only [Act.put, List.setIfInBounds_toArray, List.set_cons_zero, List.set_cons_succ]
 refine wpDet_take (i := 11) (v := ?dv468) (by as_aux_lemma => (simp only [List.getElem?_toArray, List.getElem?_cons_zero, List.getElem?_cons_succ]; rfl)) (by as_aux_lemma => kernel_rfl) (by as_aux_lemma => kernel_rfl) (by as_aux_lemma => kernel_rfl) (Or.inl ⟨by rfl, ?dy468⟩) ?dr468
 case dy468 => (intro w hSw; have hS0 := hSw; (try dsimp only [FP,F5] at hSw); go_simp; refine Came.value ?_ hS0; with_reducible rfl)
 try simp only [Act.put, List.setIfInBounds_toArray, List.set_cons_zero, List.set_cons_succ]
 refine wpDet_take (i := 12) (v := ?dv469) (by as_aux_lemma => (simp only [List.getElem?_toArray, List.getElem?_cons_zero, List.getElem?_cons_succ]; rfl)) (by as_aux_lemma => kernel_rfl) (by as_aux_lemma => kernel_rfl) (by as_aux_lemma => kernel_rfl) (Or.inl ⟨by rfl, ?dy469⟩) ?dr469
 case dy469 => (intro w hSw; have hS0 := hSw; (try dsimp only [FP,F5] at hSw); go_simp; refine Came.value ?_ hS0; with_reducible rfl)
 try simp only [Act.put, List.setIfInBounds_toArray, List.set_cons_zero, List.set_cons_succ]
 refine wpDet_take (i := 13) (v := ?dv470) (by as_aux_lemma => (simp only [List.getElem?_toArray, List.getElem?_cons_zero, List.getElem?_cons_succ]; rfl)) (by as_aux_lemma => kernel_rfl) (by as_aux_lemma => kernel_rfl) (by as_aux_lemma => kernel_rfl) (Or.inl ⟨by rfl, ?dy470⟩) ?dr470
 case dy470 => (intro w hSw; have hS0 := hSw; (try dsimp only [FP,F5] at hSw); go_simp; refine Came.value ?_ hS0; with_reducible rfl)
 try simp only [Act.put, List.setIfInBounds_toArray, List.set_cons_zero, List.set_cons_succ]
 refine wpDet_take (i := 14) (v := ?dv471) (by as_aux_lemma => (simp only [List.getElem?_toArray, List.getElem?_cons_zero, List.getElem?_cons_succ]; rfl)) (by as_aux_lemma => kernel_rfl) (by as_aux_lemma => kernel_rfl) (by as_aux_lemma => kernel_rfl) (Or.inl ⟨by rfl, ?dy471⟩) ?dr471
 case dy471 => (intro w hSw; have hS0 := hSw; (try dsimp only [FP,F5] at hSw); go_simp; refine Came.value ?_ hS0; with_reducible rfl)
 try simp only [Act.put, List.setIfInBounds_toArray, List.set_cons_zero, List.set_cons_succ]
 refine wpDet_take (i := 15) (v := ?dv472) (by as_aux_lemma => (simp only [List.getElem?_toArray, List.getElem?_cons_zero, List.getElem?_cons_succ]; rfl)) (by as_aux_lemma => kernel_rfl) (by as_aux_lemma => kernel_rfl) (by as_aux_lemma => kernel_rfl) (Or.inl ⟨by rfl, ?dy472⟩) ?dr472
 case dy472 => (intro w hSw; have hS0 := hSw; (try dsimp only [FP,F5] at hSw); go_simp; refine Came.value ?_ hS0; with_reducible rfl)
 try simp only [Act.put, List.setIfInBounds_toArray, List.set_cons_zero, List.set_cons_succ]
 refine wpDet_take (i := 16) (v := ?dv473) (by as_aux_lemma => (simp only [List.getElem?_toArray, List.getElem?_cons_zero, List.getElem?_cons_succ]; rfl)) (by as_aux_lemma => kernel_rfl) (by as_aux_lemma => kernel_rfl) (by as_aux_lemma => kernel_rfl) (Or.inl ⟨by rfl, ?dy473⟩) ?dr473
 case dy473 => (intro w hSw; have hS0 := hSw; (try dsimp only [FP,F5] at hSw); go_simp; refine Came.value ?_ hS0; with_reducible rfl)
 try simp only [Act.put, List.setIfInBounds_toArray, List.set_cons_zero, List.set_cons_succ]
 refine wpDet_take (i := 17) (v := ?dv474) (by as_aux_lemma => (simp only [List.getElem?_toArray, List.getElem?_cons_zero, List.getElem?_cons_succ]; rfl)) (by as_aux_lemma => kernel_rfl) (by as_aux_lemma => kernel_rfl) (by as_aux_lemma => kernel_rfl) (Or.inl ⟨by rfl, ?dy474⟩) ?dr474
 case dy474 => (intro w hSw; have hS0 := hSw; (try dsimp only [FP,F5] at hSw); go_simp; refine Came.value ?_ hS0; with_reducible rfl)
 try simp only [Act.put, List.setIfInBounds_toArray, List.set_cons_zero, List.set_cons_succ]
 refine wpDet_take (i := 18) (v := ?dv475) (by as_aux_lemma => (simp only [List.getElem?_toArray, List.getElem?_cons_zero, List.getElem?_cons_succ]; rfl)) (by as_aux_lemma => kernel_rfl) (by as_aux_lemma => kernel_rfl) (by as_aux_lemma => kernel_rfl) (Or.inl ⟨by rfl, ?dy475⟩) ?dr475
 case dy475 => (intro w hSw; have hS0 := hSw; (try dsimp only [FP,F5] at hSw); go_simp; refine Came.value ?_ hS0; with_reducible rfl)
 try simp only [Act.put, List.setIfInBounds_toArray, List.set_cons_zero, List.set_cons_succ]
 refine wpDet_take (i := 19) (v := ?dv476) (by as_aux_lemma => (simp only [List.getElem?_toArray, List.getElem?_cons_zero, List.getElem?_cons_succ]; rfl)) (by as_aux_lemma => kernel_rfl) (by as_aux_lemma => kernel_rfl) (by as_aux_lemma => kernel_rfl) (Or.inl ⟨by rfl, ?dy476⟩) ?dr476
 case dy476 => (intro w hSw; have hS0 := hSw; (try dsimp only [FP,F5] at hSw); go_simp; refine Came.value ?_ hS0; with_reducible rfl)
 try simp only [Act.put, List.setIfInBounds_toArray, List.set_cons_zero, List.set_cons_succ]
 refine wpDet_take (i := 20) (v := ?dv477) (by as_aux_lemma => (simp only [List.getElem?_toArray, List.getElem?_cons_zero, List.getElem?_cons_succ]; rfl)) (by as_aux_lemma => kernel_rfl) (by as_aux_lemma => kernel_rfl) (by as_aux_lemma => kernel_rfl) (Or.inl ⟨by rfl, ?dy477⟩) ?dr477
 case dy477 => (intro w hSw; have hS0 := hSw; (try dsimp only [FP,F5] at hSw); go_simp; refine Came.value ?_ hS0; with_reducible rfl)
 try simp only [Act.put, List.setIfInBounds_toArray, List.set_cons_zero, List.set_cons_succ]
 refine wpDet_take (i := 21) (v := undef) (by as_aux_lemma => (simp only [List.getElem?_toArray, List.getElem?_cons_zero, List.getElem?_cons_succ]; rfl)) (by as_aux_lemma => kernel_rfl) (by as_aux_lemma => kernel_rfl) (by as_aux_lemma => kernel_rfl) (Or.inr ⟨by rfl, rfl⟩) ?_
 try simp only [Act.put, List.setIfInBounds_toArray, List.set_cons_zero, List.set_cons_succ]
 refine wpDet_take (i := 22) (v := undef) (by as_aux_lemma => (simp only [List.getElem?_toArray, List.getElem?_cons_zero, List.getElem?_cons_succ]; rfl)) (by as_aux_lemma => kernel_rfl) (by as_aux_lemma => kernel_rfl) (by as_aux_lemma => kernel_rfl) (Or.inr ⟨by rfl, rfl⟩) ?_
 try simp only [Act.put, List.setIfInBounds_toArray, List.set_cons_zero, List.set_cons_succ]
 refine wpDet_take (i := 23) (v := ?dv480) (by as_aux_lemma => (simp only [List.getElem?_toArray, List.getElem?_cons_zero, List.getElem?_cons_succ]; rfl)) (by as_aux_lemma => kernel_rfl) (by as_aux_lemma => kernel_rfl) (by as_aux_lemma => kernel_rfl) (Or.inl ⟨by rfl, ?dy480⟩) ?dr480
 case dy480 => (intro w hSw; have hS0 := hSw; (try dsimp only [FP,F5] at hSw); go_simp; refine Came.value ?_ hS0; with_reducible rfl)
 try simp only [Act.put, List.setIfInBounds_toArray, List.set_cons_zero, List.set_cons_succ]
 refine wpDet_take (i := 24) (v := ?dv481) (by as_aux_lemma => (simp only [List.getElem?_toArray, List.getElem?_cons_zero, List.getElem?_cons_succ]; rfl)) (by as_aux_lemma => kernel_rfl) (by as_aux_lemma => kernel_rfl) (by as_aux_lemma => kernel_rfl) (Or.inl ⟨by rfl, ?dy481⟩) ?dr481
 case dy481 => (intro w hSw; have hS0 := hSw; (try dsimp only [FP,F5] at hSw); go_simp; refine Came.value ?_ hS0; with_reducible rfl)
 try simp only [Act.put, List.setIfInBounds_toArray, List.set_cons_zero, List.set_cons_succ]
 refine wpDet_take (i := 25) (v := ?dv482) (by as_aux_lemma => (simp only [List.getElem?_toArray, List.getElem?_cons_zero, List.getElem?_cons_succ]; rfl)) (by as_aux_lemma => kernel_rfl) (by as_aux_lemma => kernel_rfl) (by as_aux_lemma => kernel_rfl) (Or.inl ⟨by rfl, ?dy482⟩) ?dr482
 case dy482 => (intro w hSw; have hS0 := hSw; (try dsimp only [FP,F5] at hSw); go_simp; refine Came.value ?_ hS0; with_reducible rfl)
 try simp only [Act.put, List.setIfInBounds_toArray, List.set_cons_zero, List.set_cons_succ]
 refine wpDet_take (i := 26) (v := ?dv483) (by as_aux_lemma => (simp only [List.getElem?_toArray, List.getElem?_cons_zero, List.getElem?_cons_succ]; rfl)) (by as_aux_lemma => kernel_rfl) (by as_aux_lemma => kernel_rfl) (by as_aux_lemma => kernel_rfl) (Or.inl ⟨by rfl, ?dy483⟩) ?dr483
 case dy483 => (intro w hSw; have hS0 := hSw; (try dsimp only [FP,F5] at hSw); go_simp; refine Came.value ?_ hS0; with_reducible rfl)
 try simp only [Act.put, List.setIfInBounds_toArray, List.set_cons_zero, List.set_cons_succ]
 refine wpDet_take (i := 27) (v := ?dv484) (by as_aux_lemma => (simp only [List.getElem?_toArray, List.getElem?_cons_zero, List.getElem?_cons_succ]; rfl)) (by as_aux_lemma => kernel_rfl) (by as_aux_lemma => kernel_rfl) (by as_aux_lemma => kernel_rfl) (Or.inl ⟨by rfl, ?dy484⟩) ?dr484
 case dy484 => (intro w hSw; have hS0 := hSw; (try dsimp only [FP,F5] at hSw); go_simp; refine Came.value ?_ hS0; with_reducible rfl)
 try simp only [Act.put, List.setIfInBounds_toArray, List.set_cons_zero, List.set_cons_succ]
 refine wpDet_take (i := 28) (v := ?dv485) (by as_aux_lemma => (simp only [List.getElem?_toArray, List.getElem?_cons_zero, List.getElem?_cons_succ]; rfl)) (by as_aux_lemma => kernel_rfl) (by as_aux_lemma => kernel_rfl) (by as_aux_lemma => kernel_rfl) (Or.inl ⟨by rfl, ?dy485⟩) ?dr485
 case dy485 => (intro w hSw; have hS0 := hSw; (try dsimp only [FP,F5] at hSw); go_simp; refine Came.value ?_ hS0; with_reducible rfl)
 try simp only [Act.put, List.setIfInBounds_toArray, List.set_cons_zero, List.set_cons_succ]
 refine wpDet_take (i := 29) (v := ?dv486) (by as_aux_lemma => (simp only [List.getElem?_toArray, List.getElem?_cons_zero, List.getElem?_cons_succ]; rfl)) (by as_aux_lemma => kernel_rfl) (by as_aux_lemma => kernel_rfl) (by as_aux_lemma => kernel_rfl) (Or.inl ⟨by rfl, ?dy486⟩) ?dr486
 case dy486 => (intro w hSw; have hS0 := hSw; (try dsimp only [FP,F5] at hSw); go_simp; refine Came.value ?_ hS0; with_reducible rfl)
 try simp only [Act.put, List.setIfInBounds_toArray, List.set_cons_zero, List.set_cons_succ]
 refine wpDet_take (i := 30) (v := ?dv487) (by as_aux_lemma => (simp only [List.getElem?_toArray, List.getElem?_cons_zero, List.getElem?_cons_succ]; rfl)) (by as_aux_lemma => kernel_rfl) (by as_aux_lemma => kernel_rfl) (by as_aux_lemma => kernel_rfl) (Or.inl ⟨by rfl, ?dy487⟩) ?dr487
 case dy487 => (intro w hSw; have hS0 := hSw; (try dsimp only [FP,F5] at hSw); go_simp; refine Came.value ?_ hS0; with_reducible rfl)
 try simp only [Act.put, List.setIfInBounds_toArray, List.set_cons_zero, List.set_cons_succ]
 refine wpDet_take (i := 31) (v := undef) (by as_aux_lemma => (simp only [List.getElem?_toArray, List.getElem?_cons_zero, List.getElem?_cons_succ]; rfl)) (by as_aux_lemma => kernel_rfl) (by as_aux_lemma => kernel_rfl) (by as_aux_lemma => kernel_rfl) (Or.inr ⟨by rfl, rfl⟩) ?_
 try simp only [Act.put, List.setIfInBounds_toArray, List.set_cons_zero, List.set_cons_succ]
 refine wpDet_take (i := 32) (v := undef) (by as_aux_lemma => (simp only [List.getElem?_toArray, List.getElem?_cons_zero, List.getElem?_cons_succ]; rfl)) (by as_aux_lemma => kernel_rfl) (by as_aux_lemma => kernel_rfl) (by as_aux_lemma => kernel_rfl) (Or.inr ⟨by rfl, rfl⟩) ?_
 try simp only [Act.put, List.setIfInBounds_toArray, List.set_cons_zero, List.set_cons_succ]
 refine wpDet_take (i := 33) (v := ?dv490) (by as_aux_lemma => (simp only [List.getElem?_toArray, List.getElem?_cons_zero, List.getElem?_cons_succ]; rfl)) (by as_aux_lemma => kernel_rfl) (by as_aux_lemma => kernel_rfl) (by as_aux_lemma => kernel_rfl) (Or.inl ⟨by rfl, ?dy490⟩) ?dr490
 case dy490 => (intro w hSw; have hS0 := hSw; (try dsimp only [FP,F5] at hSw); go_simp; refine Came.value ?_ hS0; with_reducible rfl)
 try simp only [Act.put, List.setIfInBounds_toArray, List.set_cons_zero, List.set_cons_succ]
 refine wpDet_take (i := 34) (v := ?dv491) (by as_aux_lemma => (simp only [List.getElem?_toArray, List.getElem?_cons_zero, List.getElem?_cons_succ]; rfl)) (by as_aux_lemma => kernel_rfl) (by as_aux_lemma => kernel_rfl) (by as_aux_lemma => kernel_rfl) (Or.inl ⟨by rfl, ?dy491⟩) ?dr491
 case dy491 => (intro w hSw; have hS0 := hSw; (try dsimp only [FP,F5] at hSw); go_simp; refine Came.value ?_ hS0; with_reducible rfl)
 try simp only [Act.put, List.setIfInBounds_toArray, List.set_cons_zero, List.set_cons_succ]
 refine wpDet_take (i := 35) (v := ?dv492) (by as_aux_lemma => (simp only [List.getElem?_toArray, List.getElem?_cons_zero, List.getElem?_cons_succ]; rfl)) (by as_aux_lemma => kernel_rfl) (by as_aux_lemma => kernel_rfl) (by as_aux_lemma => kernel_rfl) (Or.inl ⟨by rfl, ?dy492⟩) ?dr492
 case dy492 => (intro w hSw; have hS0 := hSw; (try dsimp only [FP,F5] at hSw); go_simp; refine Came.value ?_ hS0; with_reducible rfl)
 try simp only [Act.put, List.setIfInBounds_toArray, List.set_cons_zero, List.set_cons_succ]
 refine wpDet_take (i := 36) (v := ?dv493) (by as_aux_lemma => (simp only [List.getElem?_toArray, List.getElem?_cons_zero, List.getElem?_cons_succ]; rfl)) (by as_aux_lemma => kernel_rfl) (by as_aux_lemma => kernel_rfl) (by as_aux_lemma => kernel_rfl) (Or.inl ⟨by rfl, ?dy493⟩) ?dr493
 case dy493 => (intro w hSw; have hS0 := hSw; (try dsimp only [FP,F5] at hSw); go_simp; refine Came.value ?_ hS0; with_reducible rfl)
 try simp only [Act.put, List.setIfInBounds_toArray, List.set_cons_zero, List.set_cons_succ]
 refine wpDet_take (i := 37) (v := ?dv494) (by as_aux_lemma => (simp only [List.getElem?_toArray, List.getElem?_cons_zero, List.getElem?_cons_succ]; rfl)) (by as_aux_lemma => kernel_rfl) (by as_aux_lemma => kernel_rfl) (by as_aux_lemma => kernel_rfl) (Or.inl ⟨by rfl, ?dy494⟩) ?dr494
 case dy494 => (intro w hSw; have hS0 := hSw; (try dsimp only [FP,F5] at hSw); go_simp; refine Came.value ?_ hS0; with_reducible rfl)
 try simp only [Act.put, List.setIfInBounds_toArray, List.set_cons_zero, List.set_cons_succ]
 refine wpDet_take (i := 38) (v := ?dv495) (by as_aux_lemma => (simp only [List.getElem?_toArray, List.getElem?_cons_zero, List.getElem?_cons_succ]; rfl)) (by as_aux_lemma => kernel_rfl) (by as_aux_lemma => kernel_rfl) (by as_aux_lemma => kernel_rfl) (Or.inl ⟨by rfl, ?dy495⟩) ?dr495
 case dy495 => (intro w hSw; have hS0 := hSw; (try dsimp only [FP,F5] at hSw); go_simp; refine Came.value ?_ hS0; with_reducible rfl)
 try simp only [Act.put, List.setIfInBounds_toArray, List.set_cons_zero, List.set_cons_succ]
 refine wpDet_take (i := 39) (v := undef) (by as_aux_lemma => (simp only [List.getElem?_toArray, List.getElem?_cons_zero, List.getElem?_cons_succ]; rfl)) (by as_aux_lemma => kernel_rfl) (by as_aux_lemma => kernel_rfl) (by as_aux_lemma => kernel_rfl) (Or.inr ⟨by rfl, rfl⟩) ?_
 try simp only [Act.put, List.setIfInBounds_toArray, List.set_cons_zero, List.set_cons_succ]
 refine wpDet_take (i := 40) (v := undef) (by as_aux_lemma => (simp only [List.getElem?_toArray, List.getElem?_cons_zero, List.getElem?_cons_succ]; rfl)) (by as_aux_lemma => kernel_rfl) (by as_aux_lemma => kernel_rfl) (by as_aux_lemma => kernel_rfl) (Or.inr ⟨by rfl, rfl⟩) ?_
 try simp only [Act.put, List.setIfInBounds_toArray, List.set_cons_zero, List.set_cons_succ]
 refine wpDet_take (i := 41) (v := undef) (by as_aux_lemma => (simp only [List.getElem?_toArray, List.getElem?_cons_zero, List.getElem?_cons_succ]; rfl)) (by as_aux_lemma => kernel_rfl) (by as_aux_lemma => kernel_rfl) (by as_aux_lemma => kernel_rfl) (Or.inr ⟨by rfl, rfl⟩) ?_
 try simp only [Act.put, List.setIfInBounds_toArray, List.set_cons_zero, List.set_cons_succ]
 refine wpDet_take (i := 42) (v := undef) (by as_aux_lemma => (simp only [List.getElem?_toArray, List.getElem?_cons_zero, List.getElem?_cons_succ]; rfl)) (by as_aux_lemma => kernel_rfl) (by as_aux_lemma => kernel_rfl) (by as_aux_lemma => kernel_rfl) (Or.inr ⟨by rfl, rfl⟩) ?_
 try simp only [Act.put, List.setIfInBounds_toArray, List.set_cons_zero, List.set_cons_succ]
 refine wpDet_take (i := 43) (v := undef) (by as_aux_lemma => (simp only [List.getElem?_toArray, List.getElem?_cons_zero, List.getElem?_cons_succ]; rfl)) (by as_aux_lemma => kernel_rfl) (by as_aux_lemma => kernel_rfl) (by as_aux_lemma => kernel_rfl) (Or.inr ⟨by rfl, rfl⟩) ?_
 try simp only [Act.put, List.setIfInBounds_toArray, List.set_cons_zero, List.set_cons_succ]
 refine wpDet_take (i := 44) (v := undef) (by as_aux_lemma => (simp only [List.getElem?_toArray, List.getElem?_cons_zero, List.getElem?_cons_succ]; rfl)) (by as_aux_lemma => kernel_rfl) (by as_aux_lemma => kernel_rfl) (by as_aux_lemma => kernel_rfl) (Or.inr ⟨by rfl, rfl⟩) ?_
 try simp only [Act.put, List.setIfInBounds_toArray, List.set_cons_zero, List.set_cons_succ]
 refine wpDet_take (i := 45) (v := undef) (by as_aux_lemma => (simp only [List.getElem?_toArray, List.getElem?_cons_zero, List.getElem?_cons_succ]; rfl)) (by as_aux_lemma => kernel_rfl) (by as_aux_lemma => kernel_rfl) (by as_aux_lemma => kernel_rfl) (Or.inr ⟨by rfl, rfl⟩) ?_
 try simp only [Act.put, List.setIfInBounds_toArray, List.set_cons_zero, List.set_cons_succ]
 refine wpDet_take (i := 46) (v := undef) (by as_aux_lemma => (simp only [List.getElem?_toArray, List.getElem?_cons_zero, List.getElem?_cons_succ]; rfl)) (by as_aux_lemma => kernel_rfl) (by as_aux_lemma => kernel_rfl) (by as_aux_lemma => kernel_rfl) (Or.inr ⟨by rfl, rfl⟩) ?_
 try simp only [Act.put, List.setIfInBounds_toArray, List.set_cons_zero, List.set_cons_succ]
 refine wpDet_take (i := 47) (v := undef) (by as_aux_lemma => (simp only [List.getElem?_toArray, List.getElem?_cons_zero, List.getElem?_cons_succ]; rfl)) (by as_aux_lemma => kernel_rfl) (by as_aux_lemma => kernel_rfl) (by as_aux_lemma => kernel_rfl) (Or.inr ⟨by rfl, rfl⟩) ?_
 try simp only [Act.put, List.setIfInBounds_toArray, List.set_cons_zero, List.set_cons_succ]
 refine wpDet_take (i := 48) (v := undef) (by as_aux_lemma => (simp only [List.getElem?_toArray, List.getElem?_cons_zero, List.getElem?_cons_succ]; rfl)) (by as_aux_lemma => kernel_rfl) (by as_aux_lemma => kernel_rfl) (by as_aux_lemma => kernel_rfl) (Or.inr ⟨by rfl, rfl⟩) ?_
 try simp only [Act.put, List.setIfInBounds_toArray, List.set_cons_zero, List.set_cons_succ]
 refine wpDet_take (i := 49) (v := undef) (by as_aux_lemma => (simp only [List.getElem?_toArray, List.getElem?_cons_zero, List.getElem?_cons_succ]; rfl)) (by as_aux_lemma => kernel_rfl) (by as_aux_lemma => kernel_rfl) (by as_aux_lemma => kernel_rfl) (Or.inr ⟨by rfl, rfl⟩) ?_
 try simp only [Act.put, List.setIfInBounds_toArray, List.set_cons_zero, List.set_cons_succ]
 refine wpDet_take (i := 50) (v := undef) (by as_aux_lemma => (simp only [List.getElem?_toArray, List.getElem?_cons_zero, List.getElem?_cons_succ]; rfl)) (by as_aux_lemma => kernel_rfl) (by as_aux_lemma => kernel_rfl) (by as_aux_lemma => kernel_rfl) (Or.inr ⟨by rfl, rfl⟩) ?_
 try simp only [Act.put, List.setIfInBounds_toArray, List.set_cons_zero, List.set_cons_succ]
 refine wpDet_take (i := 51) (v := undef) (by as_aux_lemma => (simp only [List.getElem?_toArray, List.getElem?_cons_zero, List.getElem?_cons_succ]; rfl)) (by as_aux_lemma => kernel_rfl) (by as_aux_lemma => kernel_rfl) (by as_aux_lemma => kernel_rfl) (Or.inr ⟨by rfl, rfl⟩) ?_
 try simp only [Act.put, List.setIfInBounds_toArray, List.set_cons_zero, List.set_cons_succ]
 refine wpDet_take (i := 52) (v := undef) (by as_aux_lemma => (simp only [List.getElem?_toArray, List.getElem?_cons_zero, List.getElem?_cons_succ]; rfl)) (by as_aux_lemma => kernel_rfl) (by as_aux_lemma => kernel_rfl) (by as_aux_lemma => kernel_rfl) (Or.inr ⟨by rfl, rfl⟩) ?_
 try simp only [Act.put, List.setIfInBounds_toArray, List.set_cons_zero, List.set_cons_succ]
 refine wpDet_take (i := 53) (v := undef) (by as_aux_lemma => (simp only [List.getElem?_toArray, List.getElem?_cons_zero, List.getElem?_cons_succ]; rfl)) (by as_aux_lemma => kernel_rfl) (by as_aux_lemma => kernel_rfl) (by as_aux_lemma => kernel_rfl) (Or.inr ⟨by rfl, rfl⟩) ?_
 try simp only [Act.put, List.setIfInBounds_toArray, List.set_cons_zero, List.set_cons_succ]
 refine wpDet_take (i := 54) (v := undef) (by as_aux_lemma => (simp only [List.getElem?_toArray, List.getElem?_cons_zero, List.getElem?_cons_succ]; rfl)) (by as_aux_lemma => kernel_rfl) (by as_aux_lemma => kernel_rfl) (by as_aux_lemma => kernel_rfl) (Or.inr ⟨by rfl, rfl⟩) ?_
 try simp only [Act.put, List.setIfInBounds_toArray, List.set_cons_zero, List.set_cons_succ]
 refine wpDet_take (i := 55) (v := ?dv512) (by as_aux_lemma => (simp only [List.getElem?_toArray, List.getElem?_cons_zero, List.getElem?_cons_succ]; rfl)) (by as_aux_lemma => kernel_rfl) (by as_aux_lemma => kernel_rfl) (by as_aux_lemma => kernel_rfl) (Or.inl ⟨by rfl, ?dy512⟩) ?dr512
 case dy512 => (intro w hSw; have hS0 := hSw; (try dsimp only [FP,F5] at hSw); go_simp; refine Came.value ?_ hS0; with_reducible rfl)
 try simp only [Act.put, List.setIfInBounds_toArray, List.set_cons_zero, List.set_cons_succ]
 refine wpDet_take (i := 56) (v := ?dv513) (by as_aux_lemma => (simp only [List.getElem?_toArray, List.getElem?_cons_zero, List.getElem?_cons_succ]; rfl)) (by as_aux_lemma => kernel_rfl) (by as_aux_lemma => kernel_rfl) (by as_aux_lemma => kernel_rfl) (Or.inl ⟨by rfl, ?dy513⟩) ?dr513
 case dy513 => (intro w hSw; have hS0 := hSw; (try dsimp only [FP,F5] at hSw); go_simp; refine Came.value ?_ hS0; with_reducible rfl)
 try simp only [Act.put, List.setIfInBounds_toArray, List.set_cons_zero, List.set_cons_succ]
 refine wpDet_take (i := 57) (v := ?dv514) (by as_aux_lemma => (simp only [List.getElem?_toArray, List.getElem?_cons_zero, List.getElem?_cons_succ]; rfl)) (by as_aux_lemma => kernel_rfl) (by as_aux_lemma => kernel_rfl) (by as_aux_lemma => kernel_rfl) (Or.inl ⟨by rfl, ?dy514⟩) ?dr514
 case dy514 => (intro w hSw; have hS0 := hSw; (try dsimp only [FP,F5] at hSw); go_simp; refine Came.value ?_ hS0; with_reducible rfl)
 try simp only [Act.put, List.setIfInBounds_toArray, List.set_cons_zero, List.set_cons_succ]
 refine wpDet_take (i := 58) (v := ?dv515) (by as_aux_lemma => (simp only [List.getElem?_toArray, List.getElem?_cons_zero, List.getElem?_cons_succ]; rfl)) (by as_aux_lemma => kernel_rfl) (by as_aux_lemma => kernel_rfl) (by as_aux_lemma => kernel_rfl) (Or.inl ⟨by rfl, ?dy515⟩) ?dr515
 case dy515 => (intro w hSw; have hS0 := hSw; (try dsimp only [FP,F5] at hSw); go_simp; refine Came.value ?_ hS0; with_reducible rfl)
 try simp only [Act.put, List.setIfInBounds_toArray, List.set_cons_zero, List.set_cons_succ]
 refine wpDet_take (i := 59) (v := ?dv516) (by as_aux_lemma => (simp only [List.getElem?_toArray, List.getElem?_cons_zero, List.getElem?_cons_succ]; rfl)) (by as_aux_lemma => kernel_rfl) (by as_aux_lemma => kernel_rfl) (by as_aux_lemma => kernel_rfl) (Or.inl ⟨by rfl, ?dy516⟩) ?dr516
 case dy516 => (intro w hSw; have hS0 := hSw; (try dsimp only [FP,F5] at hSw); go_simp; refine Came.value ?_ hS0; with_reducible rfl)
 try simp only [Act.put, List.setIfInBounds_toArray, List.set_cons_zero, List.set_cons_succ]
 refine wpDet_take (i := 60) (v := ?dv517) (by as_aux_lemma => (simp only [List.getElem?_toArray, List.getElem?_cons_zero, List.getElem?_cons_succ]; rfl)) (by as_aux_lemma => kernel_rfl) (by as_aux_lemma => kernel_rfl) (by as_aux_lemma => kernel_rfl) (Or.inl ⟨by rfl, ?dy517⟩) ?dr517
 case dy517 => (intro w hSw; have hS0 := hSw; (try dsimp only [FP,F5] at hSw); go_simp; refine Came.value ?_ hS0; with_reducible rfl)
 try simp only [Act.put, List.setIfInBounds_toArray, List.set_cons_zero, List.set_cons_succ]
 refine wpDet_take (i := 61) (v := undef) (by as_aux_lemma => (simp only [List.getElem?_toArray, List.getElem?_cons_zero, List.getElem?_cons_succ]; rfl)) (by as_aux_lemma => kernel_rfl) (by as_aux_lemma => kernel_rfl) (by as_aux_lemma => kernel_rfl) (Or.inr ⟨by rfl, rfl⟩) ?_
 try simp only [Act.put, List.setIfInBounds_toArray, List.set_cons_zero, List.set_cons_succ]
 refine wpDet_take (i := 62) (v := undef) (by as_aux_lemma => (simp only [List.getElem?_toArray, List.getElem?_cons_zero, List.getElem?_cons_succ]; rfl)) (by as_aux_lemma => kernel_rfl) (by as_aux_lemma => kernel_rfl) (by as_aux_lemma => kernel_rfl) (Or.inr ⟨by rfl, rfl⟩) ?_
 try simp only [Act.put, List.setIfInBounds_toArray, List.set_cons_zero, List.set_cons_succ]
 refine wpDet_take (i := 63) (v := undef) (by as_aux_lemma => (simp only [List.getElem?_toArray, List.getElem?_cons_zero, List.getElem?_cons_succ]; rfl)) (by as_aux_lemma => kernel_rfl) (by as_aux_lemma => kernel_rfl) (by as_aux_lemma => kernel_rfl) (Or.inr ⟨by rfl, rfl⟩) ?_
 try simp only [Act.put, List.setIfInBounds_toArray, List.set_cons_zero, List.set_cons_succ]
 refine wpDet_take (i := 64) (v := undef) (by as_aux_lemma => (simp only [List.getElem?_toArray, List.getElem?_cons_zero, List.getElem?_cons_succ]; rfl)) (by as_aux_lemma => kernel_rfl) (by as_aux_lemma => kernel_rfl) (by as_aux_lemma => kernel_rfl) (Or.inr ⟨by rfl, rfl⟩) ?_
 try simp only [Act.put, List.setIfInBounds_toArray, List.set_cons_zero, List.set_cons_succ]
 refine wpDet_take (i := 65) (v := undef) (by as_aux_lemma => (simp only [List.getElem?_toArray, List.getElem?_cons_zero, List.getElem?_cons_succ]; rfl)) (by as_aux_lemma => kernel_rfl) (by as_aux_lemma => kernel_rfl) (by as_aux_lemma => kernel_rfl) (Or.inr ⟨by rfl, rfl⟩) ?_
 try simp only [Act.put, List.setIfInBounds_toArray, List.set_cons_zero, List.set_cons_succ]
 refine wpDet_take (i := 66) (v := undef) (by as_aux_lemma => (simp only [List.getElem?_toArray, List.getElem?_cons_zero, List.getElem?_cons_succ]; rfl)) (by as_aux_lemma => kernel_rfl) (by as_aux_lemma => kernel_rfl) (by as_aux_lemma => kernel_rfl) (Or.inr ⟨by rfl, rfl⟩) ?_
 try simp only [Act.put, List.setIfInBounds_toArray, List.set_cons_zero, List.set_cons_succ]
 refine wpDet_take (i := 67) (v := undef) (by as_aux_lemma => (simp only [List.getElem?_toArray, List.getElem?_cons_zero, List.getElem?_cons_succ]; rfl)) (by as_aux_lemma => kernel_rfl) (by as_aux_lemma => kernel_rfl) (by as_aux_lemma => kernel_rfl) (Or.inr ⟨by rfl, rfl⟩) ?_
 try simp only [Act.put, List.setIfInBounds_toArray, List.set_cons_zero, List.set_cons_succ]
 refine wpDet_take (i := 68) (v := ?dv525) (by as_aux_lemma => (simp only [List.getElem?_toArray, List.getElem?_cons_zero, List.getElem?_cons_succ]; rfl)) (by as_aux_lemma => kernel_rfl) (by as_aux_lemma => kernel_rfl) (by as_aux_lemma => kernel_rfl) (Or.inl ⟨by rfl, ?dy525⟩) ?dr525
 case dy525 => (intro w hSw; have hS0 := hSw; (try dsimp only [FP,F5] at hSw); go_simp; refine Came.value ?_ hS0; with_reducible rfl)
 try simp only [Act.put, List.setIfInBounds_toArray, List.set_cons_zero, List.set_cons_succ]
 refine wpDet_take (i := 69) (v := ?dv526) (by as_aux_lemma => (simp only [List.getElem?_toArray, List.getElem?_cons_zero, List.getElem?_cons_succ]; rfl)) (by as_aux_lemma => kernel_rfl) (by as_aux_lemma => kernel_rfl) (by as_aux_lemma => kernel_rfl) (Or.inl ⟨by rfl, ?dy526⟩) ?dr526
 case dy526 => (intro w hSw; have hS0 := hSw; (try dsimp only [FP,F5] at hSw); go_simp; refine Came.value ?_ hS0; with_reducible rfl)
 try simp only [Act.put, List.setIfInBounds_toArray, List.set_cons_zero, List.set_cons_succ]
 refine wpDet_take (i := 70) (v := ?dv527) (by as_aux_lemma => (simp only [List.getElem?_toArray, List.getElem?_cons_zero, List.getElem?_cons_succ]; rfl)) (by as_aux_lemma => kernel_rfl) (by as_aux_lemma => kernel_rfl) (by as_aux_lemma => kernel_rfl) (Or.inl ⟨by rfl, ?dy527⟩) ?dr527
 case dy527 => (intro w hSw; have hS0 := hSw; (try dsimp only [FP,F5] at hSw); go_simp; refine Came.value ?_ hS0; with_reducible rfl)
 try simp only [Act.put, List.setIfInBounds_toArray, List.set_cons_zero, List.set_cons_succ]
 refine wpDet_take (i := 71) (v := ?dv528) (by as_aux_lemma => (simp only [List.getElem?_toArray, List.getElem?_cons_zero, List.getElem?_cons_succ]; rfl)) (by as_aux_lemma => kernel_rfl) (by as_aux_lemma => kernel_rfl) (by as_aux_lemma => kernel_rfl) (Or.inl ⟨by rfl, ?dy528⟩) ?dr528
 case dy528 => (intro w hSw; have hS0 := hSw; (try dsimp only [FP,F5] at hSw); go_simp; refine Came.value ?_ hS0; with_reducible rfl)
 try simp only [Act.put, List.setIfInBounds_toArray, List.set_cons_zero, List.set_cons_succ]
 refine wpDet_take (i := 72) (v := ?dv529) (by as_aux_lemma => (simp only [List.getElem?_toArray, List.getElem?_cons_zero, List.getElem?_cons_succ]; rfl)) (by as_aux_lemma => kernel_rfl) (by as_aux_lemma => kernel_rfl) (by as_aux_lemma => kernel_rfl) (Or.inl ⟨by rfl, ?dy529⟩) ?dr529
 case dy529 => (intro w hSw; have hS0 := hSw; (try dsimp only [FP,F5] at hSw); go_simp; refine Came.value ?_ hS0; with_reducible rfl)
 try simp only [Act.put, List.setIfInBounds_toArray, List.set_cons_zero, List.set_cons_succ]
 refine wpDet_take (i := 73) (v := ?dv530) (by as_aux_lemma => (simp only [List.getElem?_toArray, List.getElem?_cons_zero, List.getElem?_cons_succ]; rfl)) (by as_aux_lemma => kernel_rfl) (by as_aux_lemma => kernel_rfl) (by as_aux_lemma => kernel_rfl) (Or.inl ⟨by rfl, ?dy530⟩) ?dr530
 case dy530 => (intro w hSw; have hS0 := hSw; (try dsimp only [FP,F5] at hSw); go_simp; refine Came.value ?_ hS0; with_reducible rfl)
 try simp only [Act.put, List.setIfInBounds_toArray, List.set_cons_zero, List.set_cons_succ]
 refine wpDet_take (i := 74) (v := ?dv531) (by as_aux_lemma => (simp only [List.getElem?_toArray, List.getElem?_cons_zero, List.getElem?_cons_succ]; rfl)) (by as_aux_lemma => kernel_rfl) (by as_aux_lemma => kernel_rfl) (by as_aux_lemma => kernel_rfl) (Or.inl ⟨by rfl, ?dy531⟩) ?dr531
 case dy531 => (intro w hSw; have hS0 := hSw; (try dsimp only [FP,F5] at hSw); go_simp; refine Came.value ?_ hS0; with_reducible rfl)
 try simp only [Act.put, List.setIfInBounds_toArray, List.set_cons_zero, List.set_cons_succ]
 refine wpDet_take (i := 75) (v := ?dv532) (by as_aux_lemma => (simp only [List.getElem?_toArray, List.getElem?_cons_zero, List.getElem?_cons_succ]; rfl)) (by as_aux_lemma => kernel_rfl) (by as_aux_lemma => kernel_rfl) (by as_aux_lemma => kernel_rfl) (Or.inl ⟨by rfl, ?dy532⟩) ?dr532
 case dy532 => (intro w hSw; have hS0 := hSw; (try dsimp only [FP,F5] at hSw); go_simp; refine Came.value ?_ hS0; with_reducible rfl)
 try simp only [Act.put, List.setIfInBounds_toArray, List.set_cons_zero, List.set_cons_succ]
 refine wpDet_take (i := 76) (v := ?dv533) (by as_aux_lemma => (simp only [List.getElem?_toArray, List.getElem?_cons_zero, List.getElem?_cons_succ]; rfl)) (by as_aux_lemma => kernel_rfl) (by as_aux_lemma => kernel_rfl) (by as_aux_lemma => kernel_rfl) (Or.inl ⟨by rfl, ?dy533⟩) ?dr533
 case dy533 => (intro w hSw; have hS0 := hSw; (try dsimp only [FP,F5] at hSw); go_simp; refine Came.value ?_ hS0; with_reducible rfl)
 try simp only [Act.put, List.setIfInBounds_toArray, List.set_cons_zero, List.set_cons_succ]
 refine wpDet_take (i := 77) (v := ?dv534) (by as_aux_lemma => (simp only [List.getElem?_toArray, List.getElem?_cons_zero, List.getElem?_cons_succ]; rfl)) (by as_aux_lemma => kernel_rfl) (by as_aux_lemma => kernel_rfl) (by as_aux_lemma => kernel_rfl) (Or.inl ⟨by rfl, ?dy534⟩) ?dr534
 case dy534 => (intro w hSw; go_simp; exact Came.call ((FLX.out w).mono fun e w' ⟨he, hf⟩ => ⟨he, FP.fr hSw hf⟩) (by with_reducible rfl))
 try simp only [Act.put, List.setIfInBounds_toArray, List.set_cons_zero, List.set_cons_succ]
 refine wpDet_take (i := 78) (v := ?dv535) (by as_aux_lemma => (simp only [List.getElem?_toArray, List.getElem?_cons_zero, List.getElem?_cons_succ]; rfl)) (by as_aux_lemma => kernel_rfl) (by as_aux_lemma => kernel_rfl) (by as_aux_lemma => kernel_rfl) (Or.inl ⟨by rfl, ?dy535⟩) ?dr535
 case dy535 => (intro w hSw; have hS0 := hSw; (try dsimp only [FP,F5] at hSw); go_simp; refine Came.value ?_ hS0; with_reducible rfl)
 try simp only [Act.put, List.setIfInBounds_toArray, List.set_cons_zero, List.set_cons_succ]
 refine wpDet_take (i := 79) (v := ?dv536) (by as_aux_lemma => (simp only [List.getElem?_toArray, List.getElem?_cons_zero, List.getElem?_cons_succ]; rfl)) (by as_aux_lemma => kernel_rfl) (by as_aux_lemma => kernel_rfl) (by as_aux_lemma => kernel_rfl) (Or.inl ⟨by rfl, ?dy536⟩) ?dr536
 case dy536 => (intro w hSw; have hS0 := hSw; (try dsimp only [FP,F5] at hSw); go_simp; refine Came.value ?_ hS0; with_reducible rfl)
 try simp only [Act.put, List.setIfInBounds_toArray, List.set_cons_zero, List.set_cons_succ]
 refine wpDet_done (by as_aux_lemma => kernel_rfl) ?_ _
 exact tail
 )
                      case t =>
                        intro w8 hS
                        have F8 := Lib.hid hS.1.1
                        clear hS hun
                        go_wp2_with fail
                        go_meet
                        exact ⟨rfl, Lib.hid (T7.out.fr F8.out)⟩
            case rest =>
              obtain ⟨rfl, T9⟩ := hcut
              clear T7 RGX FLX LEX hmv hyb
              have HDN2 := Lib.hid HDN.out
              obtain ⟨i0, i1, i2, i3⟩ := T9.out.q.h.cells
              obtain ⟨c0, c1, c2, c3, c4⟩ := T9.out.q.c.cells
              obtain ⟨x0, x1, x2, x3, x4⟩ := T9.out.p.x.cells
              obtain ⟨n0, n1, n2, n3, n4, n5, n6, n7⟩ := T9.out.p.d.cells
              dsimp only at i0 i1 i2 i3 c0 c1 c2 c3 c4 x0 x1 x2 x3 x4 n0 n1 n2 n3 n4 n5 n6 n7
              cases eo with
              | true =>
                have hdn := HDN2.out rfl
                clear HDN HDN2 FA HO0
                by_cases e1 : dc = 0
                · by_cases e2 : du = 0
                  · have e3 : dd ≠ 0 := fun e => hdn ⟨e1, e2, e⟩
                    have z1 : ((dc : Int) == 0) = true := by simp [e1]
                    have z2 : ((du : Int) == 0) = true := by simp [e2]
                    have z3 : ((dd : Int) == 0) = false := by simp [e3]
                    clear e1 e2 e3 hdn
                    have TZ := Lib.hid (T9.out.q.car ⟨⟨yp, ye, yo, yr⟩, yk⟩)
                    have y0 := T9.out.q.c.fz 0
                    have y1 := T9.out.q.c.fz 1
                    have y2 := T9.out.q.c.fz 2
                    have y3 := T9.out.q.c.fz 3
                    have y4 := T9.out.q.c.fz 4
                    dsimp only [carSet] at TZ
                    go_wp2
                    go_roundw
                    case rel => exact ⟨k + 1, ⟨⟨yp, ye, yo, yr⟩, yk⟩, by go_num, Lib.hid (by omega), RX', HKX, TZ⟩
                    case measure => simp [intOf]; omega
                  · have z1 : ((dc : Int) == 0) = true := by simp [e1]
                    have z2 : ((du : Int) == 0) = false := by simp [e2]
                    clear e1 e2 hdn
                    have TZ := Lib.hid (T9.out.q.car ⟨⟨yp, ye, yo, yr⟩, yk⟩)
                    have y0 := T9.out.q.c.fz 0
                    have y1 := T9.out.q.c.fz 1
                    have y2 := T9.out.q.c.fz 2
                    have y3 := T9.out.q.c.fz 3
                    have y4 := T9.out.q.c.fz 4
                    dsimp only [carSet] at TZ
                    go_wp2
                    go_roundw
                    case rel => exact ⟨k + 1, ⟨⟨yp, ye, yo, yr⟩, yk⟩, by go_num, Lib.hid (by omega), RX', HKX, TZ⟩
                    case measure => simp [intOf]; omega
                · have z1 : ((dc : Int) == 0) = false := by simp [e1]
                  clear e1 hdn
                  have TZ := Lib.hid (T9.out.q.car ⟨⟨yp, ye, yo, yr⟩, yk⟩)
                  have y0 := T9.out.q.c.fz 0
                  have y1 := T9.out.q.c.fz 1
                  have y2 := T9.out.q.c.fz 2
                  have y3 := T9.out.q.c.fz 3
                  have y4 := T9.out.q.c.fz 4
                  dsimp only [carSet] at TZ
                  go_wp2
                  go_roundw
                  case rel => exact ⟨k + 1, ⟨⟨yp, ye, yo, yr⟩, yk⟩, by go_num, Lib.hid (by omega), RX', HKX, TZ⟩
                  case measure => simp [intOf]; omega
              | false =>
                clear HDN HDN2 FA HO0
                have TZ := Lib.hid (T9.out.q.car ⟨⟨yp, ye, yo, yr⟩, yk⟩)
                have y0 := T9.out.q.c.fz 0
                have y1 := T9.out.q.c.fz 1
                have y2 := T9.out.q.c.fz 2
                have y3 := T9.out.q.c.fz 3
                have y4 := T9.out.q.c.fz 4
                dsimp only [carSet] at TZ
                go_wp2
                go_roundw
                case rel => exact ⟨k + 1, ⟨⟨yp, ye, yo, yr⟩, yk⟩, by go_num, Lib.hid (by omega), RX', HKX, TZ⟩
                case measure => simp [intOf]; omega
        · obtain rfl : k = l2.length := by omega
          have HF := Lib.hid HLx.out.f
          clear r2 r3 HLx
          go_wp2
          go_ret
          exact ⟨rfl, HF.out⟩
    · by_cases g2 : 80 < l2.length
      · have V := Lib.hid (fun W => valid_any h W true (decide_eq_true hk).symm)
        have hlen : decide (80 < (l2.length : Int)) = true := decide_eq_true (by omega)
        clear hl80 g2
        clear hk hT a10 a11 r2 r3 okS
        obtain ⟨hc, hfl, hs, hd⟩ := h
        dsimp only [Ho.v, Ho.box] at *
        go_enter Tryd.func5, Tryd.ntmps5
        go_wp2_with fail
        have Z0 := Lib.hid (HT.out.fr TB.out.f)
        with_reducible refine (cfirst_any _ Z0.out).mono ?_
        rintro v w1 ⟨rfl, hf⟩
        have T1 := Lib.hid (TB.out.fr hf)
        clear hf TB Z0
        obtain ⟨c0, c1, c2, c3⟩ := T1.out.h.cells
        dsimp only at c0 c1 c2 c3
        go_wp2_with fail
        with_reducible refine (V.out _).mono ?_
        rintro v w2 ⟨rfl, hf⟩
        have T2 := Lib.hid (T1.out.fr hf)
        clear hf c0 c1 c2 c3 T1
        obtain ⟨c0, c1, c2, c3⟩ := T2.out.h.cells
        dsimp only at c0 c1 c2 c3
        go_wp2
        go_ret
        exact ⟨rfl, T2.out.f⟩
      · have V := Lib.hid (fun W => valid_any h W true (decide_eq_true hk).symm)
        have hlen : decide (80 < (l2.length : Int)) = false := decide_eq_false (by omega)
        have hlen3 : decide (80 < (l3.length : Int)) = true := decide_eq_true (by omega)
        clear hl80 g2
        clear hk hT a10 a11 r2 r3 okS
        obtain ⟨hc, hfl, hs, hd⟩ := h
        dsimp only [Ho.v, Ho.box] at *
        go_enter Tryd.func5, Tryd.ntmps5
        go_wp2_with fail
        have Z0 := Lib.hid (HT.out.fr TB.out.f)
        with_reducible refine (cfirst_any _ Z0.out).mono ?_
        rintro v w1 ⟨rfl, hf⟩
        have T1 := Lib.hid (TB.out.fr hf)
        clear hf TB Z0
        obtain ⟨c0, c1, c2, c3⟩ := T1.out.h.cells
        dsimp only at c0 c1 c2 c3
        go_wp2_with fail
        with_reducible refine (V.out _).mono ?_
        rintro v w2 ⟨rfl, hf⟩
        have T2 := Lib.hid (T1.out.fr hf)
        clear hf c0 c1 c2 c3 T1
        obtain ⟨c0, c1, c2, c3⟩ := T2.out.h.cells
        dsimp only at c0 c1 c2 c3
        go_wp2
        go_ret
        exact ⟨rfl, T2.out.f⟩
  · have V := Lib.hid (fun W => valid_any h W false (decide_eq_false hk).symm)
    clear hk hT a10 a11 r2 r3 okS
    obtain ⟨hc, hfl, hs, hd⟩ := h
    dsimp only [Ho.v, Ho.box] at *
    go_enter Tryd.func5, Tryd.ntmps5
    go_wp2_with fail
    have Z0 := Lib.hid (HT.out.fr TB.out.f)
    with_reducible refine (cfirst_any _ Z0.out).mono ?_
    rintro v w1 ⟨rfl, hf⟩
    have T1 := Lib.hid (TB.out.fr hf)
    clear hf TB Z0
    obtain ⟨c0, c1, c2, c3⟩ := T1.out.h.cells
    dsimp only at c0 c1 c2 c3
    go_wp2_with fail
    with_reducible refine (V.out _).mono ?_
    rintro v w2 ⟨rfl, hf⟩
    have T2 := Lib.hid (T1.out.fr hf)
    clear hf c0 c1 c2 c3 T1
    go_wp2
    go_ret
    exact ⟨rfl, T2.out.f⟩
theorem caplays_walk (h : Ho) (k1 : Int) (v2 : Value) (l2 : List Sp) (v3 : Value) (l3 : List Bool) (a10 : -9223372036854775808 ≤ k1) (a11 : k1 ≤ 9223372036854775807) (W : World) (h2 : HSs W v2 l2) (h3 : HBs W v3 l3) (hT : Tz W) :
    Calls Tryd.prog 5 #[h.v, .int .i64 k1, v2, v3] W fun x w' => x = .returned (.bool true) ∧ W.grownBy w' none :=
  (plays_true h k1 v2 l2 v3 l3 a10 a11 W h2 h3 hT).mono fun _ _ ⟨he, hf⟩ => ⟨he, hf.grown (by simp)⟩
end Go.Proofs.YtgcgbiaigbblkaaDoor
