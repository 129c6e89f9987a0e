/- With some car calls, and none more, each is answered within its bound; then the car stays. -/
import Derived.Test.YtgcgbiaigbblkaaDoorCLaw2
import Derived.Test.YtgcgbiaigbblkaaDoorCaServ
import Derived.Test.YtgcgbiaigbblkaaDoorRPut
import Derived.Laws.BitsAllLaws
namespace Go.Proofs.YtgcgbiaigbblkaaDoor
open Go.RowKit

/-- The floors that were called. -/
def putAll (f : Int) (l : List Int) : List Int := l.foldl (fun L z => putS L (z % f)) []
theorem putS_len (L : List Int) (x : Int) : (putS L x).length ≤ L.length + 1 := by
  induction L with
  | nil => simp [putS]
  | cons y L ih =>
    unfold putS
    split
    · simpa using ih
    · split <;> simp
theorem putAll_snoc (f : Int) (l : List Int) (z : Int) : putAll f (l ++ [z]) = putS (putAll f l) (z % f) := by simp [putAll]
theorem putAll_len (f : Int) (l : List Int) : (putAll f l).length ≤ l.length := by
  unfold putAll
  have : ∀ (l L : List Int), (l.foldl (fun L z => putS L (z % f)) L).length ≤ L.length + l.length := by
    intro l
    induction l with
    | nil => intro L; simp
    | cons z l ih =>
      intro L
      have a := ih (putS L (z % f))
      have b := putS_len L (z % f)
      simp only [List.foldl_cons, List.length_cons]
      omega
  simpa using this l []
theorem putAll_in {f : Int} (hf : 0 < f) (l : List Int) : ∀ z ∈ putAll f l, 0 ≤ z ∧ z < f := by
  have : ∀ (l L : List Int), (∀ z ∈ L, 0 ≤ z ∧ z < f) → ∀ z ∈ l.foldl (fun L z => putS L (z % f)) L, 0 ≤ z ∧ z < f := by
    intro l
    induction l with
    | nil => intro L h; exact h
    | cons z l ih =>
      intro L h
      refine ih _ (fun y hy => ?_)
      rcases mem_putS.1 hy with rfl | hy
      · exact ⟨Int.emod_nonneg _ (by omega), Int.emod_lt_of_pos _ hf⟩
      · exact h y hy
  exact this l [] (by simp)
/-- At rest it stays. -/
theorem rest_tick {h : Ho} {s : Sp} {c : Ca} (H : Run h s c 0) : c.tick h s false = (⟨⟨c.x.p, 0, 0, false⟩, 0⟩, ⟨false, false, h.flr c.x.p, 0, 0, zSp⟩) ∧ h.lev c.x.p ∧ s.all = 0 := by
  obtain ⟨o, l, z⟩ := H.rests
  have R := H.R
  obtain ⟨q0, q1, _⟩ := flr_facts R.ok R.p0 R.p1
  have hf := R.ok.2.1.2
  have Z := zero_head H.ok z q0 (show h.flr c.x.p < 64 by omega) (small_dir R.e0 R.e1)
  refine ⟨?_, l, z⟩
  rw [tick_go R (show ¬ 0 < c.x.o by omega) l false (by rw [H.F]; exact Z.2), H.F, Z.1, Int.add_zero]
set_option maxHeartbeats 8000000 in
set_option maxRecDepth 100000 in
theorem serves_true (h : Ho) (k1 : Int) (v2 : Value) (l2 : List Int) (a10 : -9223372036854775808 ≤ k1) (a11 : k1 ≤ 9223372036854775807) (w : World) (h2 : HInts w v2 l2) (hw2 : ∀ n ∈ l2, (Lit.int .i64 n).wf = true) (hT : Tz w) :
    Calls Tryd.prog 6 #[h.v, .int .i64 k1, v2] w fun x w' => x = .returned (.bool true) ∧ Fr w w' [] := by
  have TB := Lib.hid (LB.new w h)
  have HT := Lib.hid hT
  have H2 := Lib.hid h2
  obtain ⟨a2, cap2, rfl, p2, q2, r2⟩ := h2
  unfold maxLen at q2
  by_cases hk : h.ok
  · by_cases hl10 : l2.length ≤ 10
    · have V := Lib.hid (fun W => valid_any h W true (decide_eq_true hk).symm)
      have TO := Lib.hid (fun W => top_any h W h.top (by rw [Ho.topR, if_pos hk]))
      have hr := Ho.range hk
      have NU := Lib.hid (fun W => numberTo_any k1 (h.top + 1) W (by omega) (by omega) a10 a11)
      have P0 := Int.emod_nonneg k1 (show h.top + 1 ≠ 0 by omega)
      have P1 := Int.emod_lt_of_pos k1 (show 0 < h.top + 1 by omega)
      obtain ⟨pos, hpos⟩ : ∃ pos, k1 % (h.top + 1) = pos := ⟨_, rfl⟩
      rw [hpos] at NU P0 P1
      clear hpos a10 a11
      have hw1 : IntKind.i64.wrap (h.top + 1) = h.top + 1 := IntWalk.i64_in _ (by omega)
      obtain ⟨r0, hr0⟩ : ∃ r0, r0 = !decide (h.lev pos) := ⟨_, rfl⟩
      have hst0 : startC h pos = ⟨⟨pos, 0, 0, r0⟩, 0⟩ := by rw [startC, hr0]
      have SA := Lib.hid (fun W => cstart_any h pos W hk P0 (by omega) ⟨⟨pos, 0, 0, r0⟩, 0⟩ hst0.symm)
      have hl := hk.2.1
      have hsl := hk.2.2.1
      have hdl := hk.2.2.2
      have NF := Lib.hid (fun (z : Int) (hz : (Lit.int .i64 z).wf = true) W => numberTo_any z h.f W (by omega) (by omega) (bounds_i64 hz).1 (bounds_i64 hz).2)
      have PI := Lib.hid (fun l : List Int => putAll_in (show 0 < h.f by omega) l)
      have RS := Lib.hid (fun (l : List Int) (r : ∀ z ∈ l, 0 ≤ z ∧ z < h.f) => (hst0 ▸ start_run hk P0 (show pos ≤ h.top by omega) r (Int.le_refl _) : Run h (onlyC (carOf l)) ⟨⟨pos, 0, 0, r0⟩, 0⟩ (h.s + 3 * h.top + (h.d + 2) * (l.length + 1))))
      have TI := Lib.hid (fun (c : Ca) (s : Sp) (ok : s.ok) (hkk : c.k ≤ 9223372036854775807) x d (hx : c.tick h s false = (x, d)) W hT => ctick_any h c s false W ok hT hkk x d hx)
      have RT := Lib.hid (fun (s : Sp) (c : Ca) (M : Int) (H : Run h s c M) => Run.tick H)
      have RE := Lib.hid (fun (s : Sp) (c : Ca) (H : Run h s c 0) => rest_tick H)
      have SO := Lib.hid (fun (c : Ca) (s : Sp) (ok : s.ok) => tick_st_ok h c ok false)
      have LE := Lib.hid (fun (p : Int) (l : h.lev p) W => level_any h p W true (decide_eq_true l).symm)
      obtain ⟨t, ht⟩ : ∃ t, t = h.top := ⟨_, rfl⟩
      rw [← ht] at TO NU hw1 RS hr P1
      obtain ⟨A, hA⟩ : ∃ A, A = 3 * t := ⟨_, rfl⟩
      have W1 : IntKind.i64.wrap (3 * t) = A := by rw [hA]; exact IntWalk.i64_in _ (by omega)
      obtain ⟨Bq, hB⟩ : ∃ B, B = h.s + A := ⟨_, rfl⟩
      have W2 : IntKind.i64.wrap (h.s + A) = Bq := by rw [hB]; exact IntWalk.i64_in _ (by omega)
      obtain ⟨D, hD⟩ : ∃ D, D = h.d + 2 := ⟨_, rfl⟩
      have W3 : IntKind.i64.wrap (h.d + 2) = D := by rw [hD]; exact IntWalk.i64_in _ (by omega)
      have HB3 := Lib.hid (show 0 ≤ Bq ∧ Bq ≤ 2000 ∧ 0 ≤ D ∧ D ≤ 10 ∧ h.s + 3 * t = Bq ∧ h.d + 2 = D by omega)
      have WF := Lib.hid hw2
      clear hst0 hr0 hk hT ht hA hB hD hr P1 P0 hl hsl hdl hw2
      obtain ⟨hc, hfl, hs, hd⟩ := h
      dsimp only [Ho.v, Ho.box, Ca.v, Ca.box, Sp.v, Sp.box] at *
      have hlen : decide (10 < (l2.length : Int)) = false := decide_eq_false (by omega)
      go_enter Tryd.func6, Tryd.ntmps6
      go_wp2_with fail
      have Z0 := Lib.hid (HT.out.fr TB.out.f)
      with_reducible refine (cfirst_any _ Z0.out).mono ?_
      rintro v w1 ⟨rfl, hf⟩
      have T1 := Lib.hid (TB.out.fr hf)
      clear hf TB Z0
      obtain ⟨c0, c1, c2, c3⟩ := T1.out.h.cells
      dsimp only at c0 c1 c2 c3
      go_wp2_with fail
      with_reducible refine (V.out _).mono ?_
      rintro v w2 ⟨rfl, hf⟩
      have T2 := Lib.hid (T1.out.fr hf)
      clear hf c0 c1 c2 c3 T1
      obtain ⟨c0, c1, c2, c3⟩ := T2.out.h.cells
      dsimp only at c0 c1 c2 c3
      go_wp2_with fail
      clear c0 c1 c2 c3
      refine wp_region_noPanic ?_
      refine wp_region_mix (M := F4 w2 w.heap.size ⟨hc, hfl, hs, hd⟩) (fun i => match i with | 10 => some (ptrTo, zCa.box) | _ => none) [9] w2.heap.size 11 (by kernel_rfl) (by kernel_rfl) (by kernel_rfl) (F4.lasts _ _ _) F4.size (F4.lasts _ _ _ _ _ (F4.of (Fr.refl _ _) T2.out.h) (Fr.drew _ [])) ?_
      refine wpMixU_take (i := 0) (oi := _) (v := ?mv1) (by decide) (by kernel_rfl) (by simp only [List.getElem?_toArray, List.getElem?_cons_zero]; rfl) (by rfl) (by kernel_rfl) (by kernel_rfl) (by kernel_rfl) (by rfl) ?my1 ?mr1
      case my1 => (intro M' hst him w hM; have hSw := him w hM; (try dsimp only [F4] at hSw); go_simp; refine Came.value ?_ hM; with_reducible rfl)
      try simp only [Act.put, List.setIfInBounds_toArray, List.set_cons_zero, List.set_cons_succ]
      refine wpMixU_take (i := 1) (oi := _) (v := ?mv2) (by decide) (by kernel_rfl) (by simp only [List.getElem?_toArray, List.getElem?_cons_zero, List.getElem?_cons_succ]; rfl) (by rfl) (by kernel_rfl) (by kernel_rfl) (by kernel_rfl) (by rfl) ?my2 ?mr2
      case my2 => (intro M' hst him w hM; have hSw := him w hM; (try dsimp only [F4] at hSw); go_simp; refine Came.value ?_ hM; with_reducible rfl)
      try simp only [Act.put, List.setIfInBounds_toArray, List.set_cons_zero, List.set_cons_succ]
      refine wpMixU_take (i := 2) (oi := _) (v := ?mv3) (by decide) (by kernel_rfl) (by simp only [List.getElem?_toArray, List.getElem?_cons_zero, List.getElem?_cons_succ]; rfl) (by rfl) (by kernel_rfl) (by kernel_rfl) (by kernel_rfl) (by rfl) ?my3 ?mr3
      case my3 => (intro M' hst him w hM; have hSw := him w hM; (try dsimp only [F4] at hSw); go_simp; refine Came.value ?_ hM; with_reducible rfl)
      try simp only [Act.put, List.setIfInBounds_toArray, List.set_cons_zero, List.set_cons_succ]
      refine wpMixU_take (i := 3) (oi := _) (v := ?mv4) (by decide) (by kernel_rfl) (by simp only [List.getElem?_toArray, List.getElem?_cons_zero, List.getElem?_cons_succ]; rfl) (by rfl) (by kernel_rfl) (by kernel_rfl) (by kernel_rfl) (by rfl) ?my4 ?mr4
      case my4 => (intro M' hst him w hM; have hSw := him w hM; (try dsimp only [F4] at hSw); go_simp; exact Came.call ((TO.out w).mono fun e w' ⟨he, hf⟩ => ⟨he, hst _ _ hM hf⟩) (by with_reducible rfl))
      try simp only [Act.put, List.setIfInBounds_toArray, List.set_cons_zero, List.set_cons_succ]
      refine wpMixU_take (i := 4) (oi := _) (v := ?mv5) (by decide) (by kernel_rfl) (by simp only [List.getElem?_toArray, List.getElem?_cons_zero, List.getElem?_cons_succ]; rfl) (by rfl) (by kernel_rfl) (by kernel_rfl) (by kernel_rfl) (by rfl) ?my5 ?mr5
      case my5 => (intro M' hst him w hM; have hSw := him w hM; (try dsimp only [F4] at hSw); go_simp; refine Came.value ?_ hM; with_reducible rfl)
      try simp only [Act.put, List.setIfInBounds_toArray, List.set_cons_zero, List.set_cons_succ]
      refine wpMixU_take (i := 5) (oi := _) (v := ?mv6) (by decide) (by kernel_rfl) (by simp only [List.getElem?_toArray, List.getElem?_cons_zero, List.getElem?_cons_succ]; rfl) (by rfl) (by kernel_rfl) (by kernel_rfl) (by kernel_rfl) (by rfl) ?my6 ?mr6
      case my6 => (intro M' hst him w hM; have hSw := him w hM; (try dsimp only [F4] at hSw); go_simp; exact Came.call ((NU.out w).mono fun e w' ⟨he, hf⟩ => ⟨he, hf ▸ hM⟩) (by with_reducible rfl))
      try simp only [Act.put, List.setIfInBounds_toArray, List.set_cons_zero, List.set_cons_succ]
      refine wpMixU_take (i := 6) (oi := _) (v := ?mv7) (by decide) (by kernel_rfl) (by simp only [List.getElem?_toArray, List.getElem?_cons_zero, List.getElem?_cons_succ]; rfl) (by rfl) (by kernel_rfl) (by kernel_rfl) (by kernel_rfl) (by rfl) ?my7 ?mr7
      case my7 => (intro M' hst him w hM; have hSw := him w hM; (try dsimp only [F4] at hSw); go_simp; exact Came.call ((SA.out w).mono fun e w' ⟨he, hf⟩ => ⟨he, hst _ _ hM hf⟩) (by with_reducible rfl))
      try simp only [Act.put, List.setIfInBounds_toArray, List.set_cons_zero, List.set_cons_succ]
      refine wpMixU_take (i := 7) (oi := _) (v := ?mv8) (by decide) (by kernel_rfl) (by simp only [List.getElem?_toArray, List.getElem?_cons_zero, List.getElem?_cons_succ]; rfl) (by rfl) (by kernel_rfl) (by kernel_rfl) (by kernel_rfl) (by rfl) ?my8 ?mr8
      case my8 => (intro M' hst him w hM; have hSw := him w hM; (try dsimp only [F4] at hSw); go_simp; refine Came.value ?_ hM; with_reducible rfl)
      try simp only [Act.put, List.setIfInBounds_toArray, List.set_cons_zero, List.set_cons_succ]
      refine wpMixU_take (i := 8) (oi := _) (v := ?mv9) (by decide) (by kernel_rfl) (by simp only [List.getElem?_toArray, List.getElem?_cons_zero, List.getElem?_cons_succ]; rfl) (by rfl) (by kernel_rfl) (by kernel_rfl) (by kernel_rfl) (by rfl) ?my9 ?mr9
      case my9 => (intro M' hst him w hM; have hSw := him w hM; (try dsimp only [F4] at hSw); go_simp; refine Came.value ?_ hM; with_reducible rfl)
      try simp only [Act.put, List.setIfInBounds_toArray, List.set_cons_zero, List.set_cons_succ]
      refine wpMixU_pure (i := 9) (oi := _) (v := ?mv10) (by decide) (by kernel_rfl) (by simp only [List.getElem?_toArray, List.getElem?_cons_zero, List.getElem?_cons_succ]; rfl) (fun _ _ _ _ h => (h : False).elim) (by kernel_rfl) (by kernel_rfl) (by kernel_rfl) (by rfl) ?my10 ?mr10
      case my10 => (intro w; go_simp; try with_reducible rfl)
      try simp only [Act.put, List.setIfInBounds_toArray, List.set_cons_zero, List.set_cons_succ]
      refine wpMixU_new (i := 10) (oi := _) [10] (by decide) (by kernel_rfl) (by simp only [List.getElem?_toArray, List.getElem?_cons_zero, List.getElem?_cons_succ]; rfl) (by rfl) (by kernel_rfl) (by kernel_rfl) (by kernel_rfl) (by kernel_rfl) (by kernel_rfl) (by kernel_rfl) (by rfl) ?my11 ?mr11
      case my11 => (intro w; go_simp; first | done | rfl | exact ⟨rfl, rfl⟩)
      intro p10
      try simp only [ptrTo, oneTo]
      try simp only [Act.put, List.setIfInBounds_toArray, List.set_cons_zero, List.set_cons_succ]
      refine wpMixU_tail (fun _ => True) (by kernel_rfl) (fun _ _ => trivial) ?_
      intro w5 hM
      have T5 := Lib.hid (show LH w p10 ⟨hc, hfl, hs, hd⟩ zCa w5 from ⟨T2.out.f.trans hM.1.1, T2.out.h.fr hM.1.1, hM.2.2, Nat.lt_of_lt_of_le (size_of_row T2.out.h) hM.2.1⟩)
      clear hM T2
      have T6 := Lib.hid (T5.out.car ⟨⟨pos, 0, 0, r0⟩, 0⟩)
      obtain ⟨r0', r1, r2, r3, r4⟩ := T5.out.c.cells
      have y0 := T5.out.c.fz 0
      have y1 := T5.out.c.fz 1
      have y2 := T5.out.c.fz 2
      have y3 := T5.out.c.fz 3
      have y4 := T5.out.c.fz 4
      dsimp only [zCa, carSet] at r0' r1 r2 r3 r4 T6
      refine wpAnyH_ready (rs := [11]) (by kernel_rfl) (by simp) ?_
      refine AllReadyH.cons (o := _) rfl (fun K hK => ?_) AllReadyH.nil
      go_simp
      refine hK.out _ _ trivial (fun hHeld => ?_)
      clear hK K
      try simp only [Act.put, List.setIfInBounds_toArray, List.set_cons_zero, List.set_cons_succ]
      refine wpAnyH_take (i := 12) (oi := _) (v := ?fv12t0n12) (by simp only [List.getElem?_toArray, List.getElem?_cons_zero, List.getElem?_cons_succ]; rfl) (by kernel_rfl) (by kernel_rfl) (by kernel_rfl) (fun _ _ _ h => h) (Or.inl ⟨by rfl, ?fy12t0n12⟩) (by assumption) ?fr12t0n12
      case fy12t0n12 => (intro w hSw; (try dsimp only at hSw); go_simp; try with_reducible rfl)
      try simp only [Act.put, List.setIfInBounds_toArray, List.set_cons_zero, List.set_cons_succ]
      refine wpAnyH_done (by kernel_rfl) ?_ _
      refine NoPanic.normal ?_
      clear hHeld
      generalize World.setCell (World.setCell (World.setCell (World.setCell (World.setCell w5 _ _) _ _) _ _) _ _) _ _ = w6 at *
      clear r0' r1 r2 r3 r4 y0 y1 y2 y3 y4 T5 NU V hw1 SA
      obtain ⟨B, hB⟩ : ∃ B, B = w6.heap.size := ⟨_, rfl⟩
      have HB := Lib.hid hB
      have HL0 := Lib.hid (OwnI.nil w6 B)
      clear hB
      go_wp2
      go_loopw [10, 11] (fun s10 s11 wx => ∃ k : Nat, s11 = .int .i64 k ∧ Hid (k ≤ l2.length) ∧ Hid (LH w p10 ⟨hc, hfl, hs, hd⟩ ⟨⟨pos, 0, 0, r0⟩, 0⟩ wx) ∧ Hid (B ≤ wx.heap.size) ∧ Hid (OwnI wx B s10 (putAll hfl (l2.take k)))) (fun _ s11 _ => l2.length - (intOf s11).toNat)
      case atStart => exact ⟨0, rfl, Lib.hid (Nat.zero_le _), T6, Lib.hid (by rw [HB.out]; exact Nat.le_refl _), HL0⟩
      case round =>
        clear T6 HL0
        obtain ⟨k, rfl, HK, HLx, HBx, HO⟩ := hrel
        have hk1 := HK.out
        by_cases hlt : k < l2.length
        · obtain ⟨bk, off, rfl, hc2⟩ := r2 (by omega)
          have hcell := hc2 k hlt
          obtain ⟨z, hz⟩ : ∃ z, z = l2.getD k 0 := ⟨_, rfl⟩
          have HN : Hid (putAll hfl (l2.take (k + 1)) = putS (putAll hfl (l2.take k)) (z % hfl)) := by
            show _ = _
            rw [take_snoc l2 k hlt, putAll_snoc, hz]
          have hwz : (Lit.int .i64 z).wf = true := WF.out z (by rw [hz, List.getD_eq_getElem?_getD, List.getElem?_eq_getElem hlt]; exact List.getElem_mem hlt)
          rw [← hz] at hcell
          have NZ := Lib.hid (fun W => NF.out z hwz W)
          have hLn : (putAll hfl (l2.take k)).length ≤ 10 := by
            have := putAll_len hfl (l2.take k)
            rw [List.length_take] at this
            omega
          have FD := Lib.hid (HLx.out.f.trans (Fr.drew wr []))
          have PU := Lib.hid (putS_any _ _ (z % hfl) wr.drew (HO.out.keep (Fr.drew wr [])).holds (HO.out.keep (Fr.drew wr [])).form (by omega))
          have SC := Lib.hid (show wr.drew.cell? ⟨bk, off + k, none⟩ = some (.int .i64 z) ∧ wr.drew.cell? ⟨w.heap.size, 1, none⟩ = some (.int .i64 hfl) from ⟨FD.out.cell hcell (by simp), (HLx.out.fr (Fr.drew wr [])).h.cells.2.1⟩)
          obtain ⟨zz, hzz⟩ : ∃ zz, zz = z % hfl := ⟨_, rfl⟩
          rw [← hzz] at NZ PU HN
          clear hz hc2 r2 hcell hwz hLn hk1 hzz
          go_wp2_with fail
          refine wp_region_noPanic ?_
          refine wp_region_held_drew (S := (fun a => a.cell? ⟨bk, off + k, none⟩ = some (.int .i64 z) ∧ a.cell? ⟨w.heap.size, 1, none⟩ = some (.int .i64 hfl))) (by kernel_rfl) SC.out (fun hHeld => ?_)
          refine wpAnyH_take (i := 0) (oi := _) (v := ?fv0h13n14) (by simp only [List.getElem?_toArray, List.getElem?_cons_zero]; rfl) (by kernel_rfl) (by kernel_rfl) (by kernel_rfl) (fun _ _ _ h => h) (Or.inl ⟨by rfl, ?fy0h13n14⟩) (by assumption) ?fr0h13n14
          case fy0h13n14 => (intro w hSw; (try dsimp only at hSw); go_simp; try with_reducible rfl)
          try simp only [Act.put, List.setIfInBounds_toArray, List.set_cons_zero, List.set_cons_succ]
          refine wpAnyH_take (i := 1) (oi := _) (v := ?fv1h13n14) (by simp only [List.getElem?_toArray, List.getElem?_cons_zero, List.getElem?_cons_succ]; rfl) (by kernel_rfl) (by kernel_rfl) (by kernel_rfl) (fun _ _ _ h => h) (Or.inl ⟨by rfl, ?fy1h13n14⟩) (by assumption) ?fr1h13n14
          case fy1h13n14 => (intro w hSw; (try dsimp only at hSw); go_simp; try with_reducible rfl)
          try simp only [Act.put, List.setIfInBounds_toArray, List.set_cons_zero, List.set_cons_succ]
          refine wpAnyH_take (i := 2) (oi := _) (v := ?fv2h13n14) (by simp only [List.getElem?_toArray, List.getElem?_cons_zero, List.getElem?_cons_succ]; rfl) (by kernel_rfl) (by kernel_rfl) (by kernel_rfl) (fun _ _ _ h => h) (Or.inl ⟨by rfl, ?fy2h13n14⟩) (by assumption) ?fr2h13n14
          case fy2h13n14 => (intro w hSw; (try dsimp only at hSw); go_simp; try with_reducible rfl)
          try simp only [Act.put, List.setIfInBounds_toArray, List.set_cons_zero, List.set_cons_succ]
          refine wpAnyH_take (i := 3) (oi := _) (v := ?fv3h13n14) (by simp only [List.getElem?_toArray, List.getElem?_cons_zero, List.getElem?_cons_succ]; rfl) (by kernel_rfl) (by kernel_rfl) (by kernel_rfl) (fun _ _ _ h => h) (Or.inl ⟨by rfl, ?fy3h13n14⟩) (by assumption) ?fr3h13n14
          case fy3h13n14 => (intro w hSw; (try dsimp only at hSw); go_simp; try with_reducible rfl)
          try simp only [Act.put, List.setIfInBounds_toArray, List.set_cons_zero, List.set_cons_succ]
          refine wpAnyH_take (i := 4) (oi := _) (v := ?fv4h13n14) (by simp only [List.getElem?_toArray, List.getElem?_cons_zero, List.getElem?_cons_succ]; rfl) (by kernel_rfl) (by kernel_rfl) (by kernel_rfl) (fun _ _ _ h => h) (Or.inl ⟨by rfl, ?fy4h13n14⟩) (by assumption) ?fr4h13n14
          case fy4h13n14 => (intro w hSw; (try dsimp only at hSw); go_simp; try with_reducible rfl)
          try simp only [Act.put, List.setIfInBounds_toArray, List.set_cons_zero, List.set_cons_succ]
          refine wpAnyH_take (i := 5) (oi := _) (v := ?fv5h13n14) (by simp only [List.getElem?_toArray, List.getElem?_cons_zero, List.getElem?_cons_succ]; rfl) (by kernel_rfl) (by kernel_rfl) (by kernel_rfl) (fun _ _ _ h => h) (Or.inl ⟨by rfl, ?fy5h13n14⟩) (by assumption) ?fr5h13n14
          case fy5h13n14 => (intro w hSw; (try dsimp only at hSw); go_simp; try with_reducible rfl)
          try simp only [Act.put, List.setIfInBounds_toArray, List.set_cons_zero, List.set_cons_succ]
          refine wpAnyH_take (i := 6) (oi := _) (v := ?fv6h13n14) (by simp only [List.getElem?_toArray, List.getElem?_cons_zero, List.getElem?_cons_succ]; rfl) (by kernel_rfl) (by kernel_rfl) (by kernel_rfl) (fun _ _ _ h => h) (Or.inl ⟨by rfl, ?fy6h13n14⟩) (by assumption) ?fr6h13n14
          case fy6h13n14 => (intro w hSw; (try dsimp only at hSw); go_simp; try with_reducible rfl)
          try simp only [Act.put, List.setIfInBounds_toArray, List.set_cons_zero, List.set_cons_succ]
          refine wpAnyH_ready (rs := [7]) (by kernel_rfl) (by simp) ?_
          refine AllReadyH.cons (o := _) rfl (fun K hK => ?_) AllReadyH.nil
          go_simp
          ((with_reducible refine (NZ.out _).mono ?_); rintro v w8 ⟨rfl, rfl⟩)
          go_wp2_with fail
          refine hK.out _ _ SC.out (fun hHeld => ?_)
          clear hK K
          try simp only [Act.put, List.setIfInBounds_toArray, List.set_cons_zero, List.set_cons_succ]
          refine wpAnyH_ready (rs := [8]) (by kernel_rfl) (by simp) ?_
          refine AllReadyH.cons (o := _) rfl (fun K hK => ?_) AllReadyH.nil
          go_simp
          ((with_reducible refine PU.out.mono ?_); rintro v w8 ⟨u, rfl, ho, hg⟩; have F8 := Lib.hid ((Fr.drew wr []).trans (Fr.of_grown hg [])); have S8 := Lib.hid (show w8.cell? ⟨bk, off + k, none⟩ = some (.int .i64 z) ∧ w8.cell? ⟨w.heap.size, 1, none⟩ = some (.int .i64 hfl) from ⟨(Fr.of_grown hg []).cell SC.out.1 (by simp), (Fr.of_grown hg []).cell SC.out.2 (by simp)⟩); have O8 := Lib.hid ho; clear ho hg)
          go_wp2_with fail
          refine hK.out _ _ S8.out (fun hHeld => ?_)
          clear hK K
          try simp only [Act.put, List.setIfInBounds_toArray, List.set_cons_zero, List.set_cons_succ]
          refine wpAnyH_take (i := 9) (oi := _) (v := ?fv9h13n15) (by simp only [List.getElem?_toArray, List.getElem?_cons_zero, List.getElem?_cons_succ]; rfl) (by kernel_rfl) (by kernel_rfl) (by kernel_rfl) (fun _ _ _ h => h) (Or.inl ⟨by rfl, ?fy9h13n15⟩) (by assumption) ?fr9h13n15
          case fy9h13n15 => (intro w hSw; (try dsimp only at hSw); go_simp; try with_reducible rfl)
          try simp only [Act.put, List.setIfInBounds_toArray, List.set_cons_zero, List.set_cons_succ]
          refine wpAnyH_done (by kernel_rfl) ?_ _
          refine NoPanic.normal ?_
          clear hHeld
          have T8 := Lib.hid (HLx.out.fr F8.out)
          have B8 := Lib.hid (Nat.le_trans HBx.out F8.out.size)
          have O9 : Hid (OwnI w8 B u (putAll hfl (l2.take (k + 1)))) := by
            show _
            rw [HN.out]
            exact O8.out.mono HBx.out
          clear HLx HBx HO O8 F8 S8 SC PU NZ FD HN
          go_wp2
          go_roundw
          case rel => exact ⟨k + 1, by go_num, Lib.hid (by omega), T8, B8, O9⟩
          case measure => simp [intOf]; omega
        · obtain rfl : k = l2.length := by omega
          rw [List.take_length] at HO
          obtain ⟨L, hL⟩ : ∃ L, L = putAll hfl l2 := ⟨_, rfl⟩
          have hLl : L.length ≤ 10 := by rw [hL]; exact Nat.le_trans (putAll_len hfl l2) hl10
          have R0 := RS.out L (by rw [hL]; exact PI.out l2)
          rw [← hL] at HO
          have OF := Lib.hid (of_any _ L _ [] wr HO.out.holds (no_latchs wr) ⟨carOf L, 0, 0⟩ rfl)
          obtain ⟨nn, hnn⟩ : ∃ nn, nn = carOf L := ⟨_, rfl⟩
          rw [← hnn] at OF R0
          obtain ⟨ad, cap, rfl, q1, q2', _⟩ := HO.out.holds
          unfold maxLen at q2'
          have hb3 := HB3.out
          obtain ⟨E, hE⟩ : ∃ E : Int, E = (L.length : Int) + 1 := ⟨_, rfl⟩
          have W4 : IntKind.i64.wrap ((L.length : Int) + 1) = E := by rw [hE]; exact IntWalk.i64_in _ (by omega)
          obtain ⟨G, hG⟩ : ∃ G, G = D * E := ⟨_, rfl⟩
          have hG0 : 0 ≤ G ∧ G ≤ 200 := by
            have g1 := Int.mul_nonneg (show 0 ≤ D by omega) (show 0 ≤ E by omega)
            have g2 : D * E ≤ 10 * E := Int.mul_le_mul_of_nonneg_right (by omega) (by omega)
            omega
          have W5 : IntKind.i64.wrap (D * E) = G := by rw [hG]; exact IntWalk.i64_in _ (by omega)
          obtain ⟨N, hN⟩ : ∃ N, N = Bq + G := ⟨_, rfl⟩
          have W6 : IntKind.i64.wrap (Bq + G) = N := by rw [hN]; exact IntWalk.i64_in _ (by omega)
          have HN := Lib.hid (show 0 ≤ N ∧ N ≤ 3000 by omega)
          have R1 : Hid (Run ⟨hc, hfl, hs, hd⟩ (onlyC nn) ⟨⟨pos, 0, 0, r0⟩, 0⟩ N) := by
            have e : hs + 3 * t + (hd + 2) * ((L.length : Int) + 1) = N := by rw [hb3.2.2.2.2.1, hb3.2.2.2.2.2, ← hE, ← hG, hN]
            rw [e] at R0
            exact R0
          have HLL := Lib.hid hLl
          clear hL hnn hE hG hN hG0 hb3 R0 RS PI r2 hLl hk1 HO HBx NF WF
          dsimp only [Sp.v] at OF
          simp only [show ((0 : Nat) : Int) = 0 from rfl] at OF
          go_wp2_with fail
          with_reducible refine OF.out.mono ?_
          rintro v w8 ⟨rfl, hf⟩
          have T8 := Lib.hid (HLx.out.fr hf)
          have T9 : Hid (LQ w (w8.heap.size + 1) p10 w8.heap.size ⟨hc, hfl, hs, hd⟩ (onlyC nn) ⟨⟨pos, 0, 0, r0⟩, 0⟩ (w8.alloc (Sp.box 37 ⟨nn, 0, 0⟩))) := by
            have e1 := size_of_row T8.out.c
            have e2 := size_of_row T8.out.h
            exact Lib.hid ⟨T8.out.f.trans (Fr.alloc _ _ []), T8.out.h.fr (Fr.alloc _ _ []), heap_alloc_new _ _, T8.out.c.fr (Fr.alloc _ _ []) (by simp), T8.out.lo, e2, by omega, by omega, by omega⟩
          dsimp only [Sp.box] at T9
          simp only [show ((0 : Nat) : Int) = 0 from rfl] at T9
          clear hf T8 HLx OF
          go_upto_region 15 with fail
          generalize World.alloc w8 _ = w9 at *
          obtain ⟨m, hm⟩ : ∃ m, m = w8.heap.size := ⟨_, rfl⟩
          rw [← hm] at T9
          rw [← hm]
          clear hm
          have D9 := Lib.hid (F4.lasts _ _ _ _ _ (F4.of (Fr.refl w9 []) T9.out.h) (Fr.drew w9 []))
          refine wp_region_det (S := F4 w9 w.heap.size ⟨hc, hfl, hs, hd⟩) (by kernel_rfl) D9.out ?_
          refine wpDet_take (i := 0) (oi := _) (v := ?dv16) (by simp only [List.getElem?_toArray, List.getElem?_cons_zero]; rfl) (by kernel_rfl) (by kernel_rfl) (by kernel_rfl) (Or.inl ⟨by rfl, ?dy16⟩) ?dr16
          case dy16 => (intro w hSw; have hS0 := hSw; (try dsimp only [F4] at hSw); go_simp; refine Came.value ?_ hS0; with_reducible rfl)
          try simp only [Act.put, List.setIfInBounds_toArray, List.set_cons_zero, List.set_cons_succ]
          refine wpDet_take (i := 1) (oi := _) (v := ?dv17) (by simp only [List.getElem?_toArray, List.getElem?_cons_zero, List.getElem?_cons_succ]; rfl) (by kernel_rfl) (by kernel_rfl) (by kernel_rfl) (Or.inl ⟨by rfl, ?dy17⟩) ?dr17
          case dy17 => (intro w hSw; have hS0 := hSw; (try dsimp only [F4] at hSw); go_simp; refine Came.value ?_ hS0; with_reducible rfl)
          try simp only [Act.put, List.setIfInBounds_toArray, List.set_cons_zero, List.set_cons_succ]
          refine wpDet_take (i := 2) (oi := _) (v := ?dv18) (by simp only [List.getElem?_toArray, List.getElem?_cons_zero, List.getElem?_cons_succ]; rfl) (by kernel_rfl) (by kernel_rfl) (by kernel_rfl) (Or.inl ⟨by rfl, ?dy18⟩) ?dr18
          case dy18 => (intro w hSw; have hS0 := hSw; (try dsimp only [F4] at hSw); go_simp; refine Came.value ?_ hS0; with_reducible rfl)
          try simp only [Act.put, List.setIfInBounds_toArray, List.set_cons_zero, List.set_cons_succ]
          refine wpDet_take (i := 3) (oi := _) (v := ?dv19) (by simp only [List.getElem?_toArray, List.getElem?_cons_zero, List.getElem?_cons_succ]; rfl) (by kernel_rfl) (by kernel_rfl) (by kernel_rfl) (Or.inl ⟨by rfl, ?dy19⟩) ?dr19
          case dy19 => (intro w hSw; go_simp; exact Came.call ((TO.out w).mono fun e w' ⟨he, hf⟩ => ⟨he, F4.lasts _ _ _ _ _ hSw hf⟩) (by with_reducible rfl))
          try simp only [Act.put, List.setIfInBounds_toArray, List.set_cons_zero, List.set_cons_succ]
          refine wpDet_take (i := 4) (oi := _) (v := ?dv20) (by simp only [List.getElem?_toArray, List.getElem?_cons_zero, List.getElem?_cons_succ]; rfl) (by kernel_rfl) (by kernel_rfl) (by kernel_rfl) (Or.inl ⟨by rfl, ?dy20⟩) ?dr20
          case dy20 => (intro w hSw; have hS0 := hSw; (try dsimp only [F4] at hSw); go_simp; refine Came.value ?_ hS0; with_reducible rfl)
          try simp only [Act.put, List.setIfInBounds_toArray, List.set_cons_zero, List.set_cons_succ]
          refine wpDet_take (i := 5) (oi := _) (v := ?dv21) (by simp only [List.getElem?_toArray, List.getElem?_cons_zero, List.getElem?_cons_succ]; rfl) (by kernel_rfl) (by kernel_rfl) (by kernel_rfl) (Or.inl ⟨by rfl, ?dy21⟩) ?dr21
          case dy21 => (intro w hSw; have hS0 := hSw; (try dsimp only [F4] at hSw); go_simp; refine Came.value ?_ hS0; with_reducible rfl)
          try simp only [Act.put, List.setIfInBounds_toArray, List.set_cons_zero, List.set_cons_succ]
          refine wpDet_take (i := 6) (oi := _) (v := ?dv22) (by simp only [List.getElem?_toArray, List.getElem?_cons_zero, List.getElem?_cons_succ]; rfl) (by kernel_rfl) (by kernel_rfl) (by kernel_rfl) (Or.inl ⟨by rfl, ?dy22⟩) ?dr22
          case dy22 => (intro w hSw; have hS0 := hSw; (try dsimp only [F4] at hSw); go_simp; refine Came.value ?_ hS0; with_reducible rfl)
          try simp only [Act.put, List.setIfInBounds_toArray, List.set_cons_zero, List.set_cons_succ]
          refine wpDet_take (i := 7) (oi := _) (v := ?dv23) (by simp only [List.getElem?_toArray, List.getElem?_cons_zero, List.getElem?_cons_succ]; rfl) (by kernel_rfl) (by kernel_rfl) (by kernel_rfl) (Or.inl ⟨by rfl, ?dy23⟩) ?dr23
          case dy23 => (intro w hSw; have hS0 := hSw; (try dsimp only [F4] at hSw); go_simp; refine Came.value ?_ hS0; with_reducible rfl)
          try simp only [Act.put, List.setIfInBounds_toArray, List.set_cons_zero, List.set_cons_succ]
          refine wpDet_take (i := 8) (oi := _) (v := ?dv24) (by simp only [List.getElem?_toArray, List.getElem?_cons_zero, List.getElem?_cons_succ]; rfl) (by kernel_rfl) (by kernel_rfl) (by kernel_rfl) (Or.inl ⟨by rfl, ?dy24⟩) ?dr24
          case dy24 => (intro w hSw; have hS0 := hSw; (try dsimp only [F4] at hSw); go_simp; refine Came.value ?_ hS0; with_reducible rfl)
          try simp only [Act.put, List.setIfInBounds_toArray, List.set_cons_zero, List.set_cons_succ]
          refine wpDet_take (i := 9) (oi := _) (v := ?dv25) (by simp only [List.getElem?_toArray, List.getElem?_cons_zero, List.getElem?_cons_succ]; rfl) (by kernel_rfl) (by kernel_rfl) (by kernel_rfl) (Or.inl ⟨by rfl, ?dy25⟩) ?dr25
          case dy25 => (intro w hSw; have hS0 := hSw; (try dsimp only [F4] at hSw); go_simp; refine Came.value ?_ hS0; with_reducible rfl)
          try simp only [Act.put, List.setIfInBounds_toArray, List.set_cons_zero, List.set_cons_succ]
          refine wpDet_take (i := 10) (oi := _) (v := ?dv26) (by simp only [List.getElem?_toArray, List.getElem?_cons_zero, List.getElem?_cons_succ]; rfl) (by kernel_rfl) (by kernel_rfl) (by kernel_rfl) (Or.inl ⟨by rfl, ?dy26⟩) ?dr26
          case dy26 => (intro w hSw; have hS0 := hSw; (try dsimp only [F4] at hSw); go_simp; refine Came.value ?_ hS0; with_reducible rfl)
          try simp only [Act.put, List.setIfInBounds_toArray, List.set_cons_zero, List.set_cons_succ]
          refine wpDet_take (i := 11) (oi := _) (v := ?dv27) (by simp only [List.getElem?_toArray, List.getElem?_cons_zero, List.getElem?_cons_succ]; rfl) (by kernel_rfl) (by kernel_rfl) (by kernel_rfl) (Or.inl ⟨by rfl, ?dy27⟩) ?dr27
          case dy27 => (intro w hSw; have hS0 := hSw; (try dsimp only [F4] at hSw); go_simp; refine Came.value ?_ hS0; with_reducible rfl)
          try simp only [Act.put, List.setIfInBounds_toArray, List.set_cons_zero, List.set_cons_succ]
          refine wpDet_take (i := 12) (oi := _) (v := ?dv28) (by simp only [List.getElem?_toArray, List.getElem?_cons_zero, List.getElem?_cons_succ]; rfl) (by kernel_rfl) (by kernel_rfl) (by kernel_rfl) (Or.inl ⟨by rfl, ?dy28⟩) ?dr28
          case dy28 => (intro w hSw; have hS0 := hSw; (try dsimp only [F4] at hSw); go_simp; refine Came.value ?_ hS0; with_reducible rfl)
          try simp only [Act.put, List.setIfInBounds_toArray, List.set_cons_zero, List.set_cons_succ]
          refine wpDet_take (i := 13) (oi := _) (v := ?dv29) (by simp only [List.getElem?_toArray, List.getElem?_cons_zero, List.getElem?_cons_succ]; rfl) (by kernel_rfl) (by kernel_rfl) (by kernel_rfl) (Or.inl ⟨by rfl, ?dy29⟩) ?dr29
          case dy29 => (intro w hSw; have hS0 := hSw; (try dsimp only [F4] at hSw); go_simp; refine Came.value ?_ hS0; with_reducible rfl)
          try simp only [Act.put, List.setIfInBounds_toArray, List.set_cons_zero, List.set_cons_succ]
          refine wpDet_take (i := 14) (oi := _) (v := ?dv30) (by simp only [List.getElem?_toArray, List.getElem?_cons_zero, List.getElem?_cons_succ]; rfl) (by kernel_rfl) (by kernel_rfl) (by kernel_rfl) (Or.inl ⟨by rfl, ?dy30⟩) ?dr30
          case dy30 => (intro w hSw; have hS0 := hSw; (try dsimp only [F4] at hSw); go_simp; refine Came.value ?_ hS0; with_reducible rfl)
          try simp only [Act.put, List.setIfInBounds_toArray, List.set_cons_zero, List.set_cons_succ]
          refine wpDet_done (by kernel_rfl) ?_ _
          rintro w10 hS
          have T10 := Lib.hid (T9.out.fr hS.1)
          clear hS D9 T9 W1 W2 W3 W4 W5 W6 HLL
          go_wp2
          go_loopw [14] (fun s14 wx => ∃ (k : Int) (nk : Nat) (c : Ca), s14 = .int .i64 k ∧ Hid (0 ≤ k ∧ k ≤ N) ∧ Hid (Run ⟨hc, hfl, hs, hd⟩ (onlyC nk) c (N - k)) ∧ Hid (c.k ≤ 9223372036854775807) ∧ Hid (LQ w (m + 1) p10 m ⟨hc, hfl, hs, hd⟩ (onlyC nk) c wx)) (fun s14 _ => (N - intOf s14).toNat)
          case atStart => exact ⟨0, nn, _, rfl, (by show _ ∧ _; have := HN.out; omega), (by rw [Int.sub_zero]; exact R1), Lib.hid (by decide : (0 : Int) ≤ 9223372036854775807), T10⟩
          case round =>
            clear T10 R1
            obtain ⟨k, nk, c, rfl, HK2, HR, HC, HLx⟩ := hrel
            obtain ⟨hk0, hk1⟩ := HK2.out
            have hkN := HN.out
            have ok := HR.out.ok
            have ZT := Lib.hid (HT.out.fr HLx.out.f)
            by_cases hlt : k < N
            · obtain ⟨x, d, hx⟩ : ∃ x d, c.tick ⟨hc, hfl, hs, hd⟩ (onlyC nk) false = (x, d) := ⟨_, _, rfl⟩
              have RTk := RT.out (onlyC nk) c (N - k) HR.out
              have dok := SO.out c (onlyC nk) ok
              have hkx : x.k ≤ 9223372036854775807 := by
                have := tick_held (h := ⟨hc, hfl, hs, hd⟩) (s := onlyC nk) (ob := false) HC.out
                rw [hx] at this
                exact this
              rw [hx, onlyC_less] at RTk
              rw [hx] at dok
              have TK := TI.out c (onlyC nk) ok HC.out x d hx
              rw [show max (N - k - 1) 0 = N - (k + 1) by omega] at RTk
              obtain ⟨⟨xp, xe, xo, xr⟩, xk⟩ := c
              obtain ⟨⟨yp, ye, yo, yr⟩, yk⟩ := x
              obtain ⟨eo, ec, ef, ea, em, ⟨dc, du, dd⟩⟩ := d
              have E1 : bits .andNot .u64 (nk : Int) (dc : Int) = ((andN nk dc : Nat) : Int) := u64_andNot_nat nk dc ok.c dok.c
              have R2 : Hid (Run ⟨hc, hfl, hs, hd⟩ (onlyC (andN nk dc)) ⟨⟨yp, ye, yo, yr⟩, yk⟩ (N - (k + 1))) := RTk
              obtain ⟨nc, hnc⟩ : ∃ nc, nc = andN nk dc := ⟨_, rfl⟩
              rw [← hnc] at E1 R2
              have HKX := Lib.hid hkx
              dsimp only [onlyC, Dn.v] at TK
              simp only [show ((0 : Nat) : Int) = 0 from rfl] at TK
              have TK := Lib.hid TK
              obtain ⟨i0, i1, i2, i3⟩ := HLx.out.h.cells
              obtain ⟨c0, c1, c2, c3, c4⟩ := HLx.out.c.cells
              obtain ⟨s0, s1, s2⟩ := arow HLx.out.s
              dsimp only [onlyC] at i0 i1 i2 i3 c0 c1 c2 c3 c4 s0 s1 s2
              simp only [show ((0 : Nat) : Int) = 0 from rfl] at s1 s2
              clear hnc RTk dok ok hx HR HC RE RT SO TI hkx
              go_wp2_with fail
              with_reducible refine (TK.out _ ZT.out).mono ?_
              rintro v w11 ⟨rfl, hf⟩
              have T8 := Lib.hid ((HLx.out.fr hf).fr (two_fr w11 ⟨⟨yp, ye, yo, yr⟩, yk⟩ ⟨eo, ec, ef, ea, em, ⟨dc, du, dd⟩⟩))
              have P8 := Lib.hid (PD.new w11 ⟨⟨yp, ye, yo, yr⟩, yk⟩ ⟨eo, ec, ef, ea, em, ⟨dc, du, dd⟩⟩)
              have LM := Lib.hid (show m < w11.heap.size ∧ p10 < w11.heap.size from ⟨Nat.lt_of_lt_of_le (size_of_row HLx.out.s) hf.size, Nat.lt_of_lt_of_le (size_of_row HLx.out.c) hf.size⟩)
              clear hf i0 i1 i2 i3 c0 c1 c2 c3 c4 s0 s1 s2 HLx ZT TK
              dsimp only [Ca.box, Dn.box] at T8 P8
              go_upto_region 20 with fail
              generalize World.alloc (World.alloc w11 _) _ = w12 at *
              obtain ⟨n0, n1, n2, n3, n4, n5, n6, n7⟩ := P8.out.d.cells
              obtain ⟨s0, s1, s2⟩ := arow T8.out.s
              have zs0 := frozen_of_row _ _ 0 _ _ T8.out.s
              have T9 := Lib.hid (T8.out.st0 nc)
              have X9 := Lib.hid (P8.out.x.fr (Fr.setCell w12 m 0 (.int .u64 nc) (S := [m]) (by simp)) (by have := LM.out.1; simp; omega))
              dsimp only [onlyC] at n0 n1 n2 n3 n4 n5 n6 n7 s0 s1 s2 T9
              go_upto_region 21 with fail
              generalize World.setCell w12 _ _ = w13 at *
              clear n0 n1 n2 n3 n4 n5 n6 n7 s0 s1 s2 zs0 T8 P8
              have TZ := Lib.hid (T9.out.car ⟨⟨yp, ye, yo, yr⟩, yk⟩)
              obtain ⟨x0, x1, x2, x3, x4⟩ := X9.out.cells
              obtain ⟨c0, c1, c2, c3, c4⟩ := T9.out.c.cells
              have y0 := T9.out.c.fz 0
              have y1 := T9.out.c.fz 1
              have y2 := T9.out.c.fz 2
              have y3 := T9.out.c.fz 3
              have y4 := T9.out.c.fz 4
              dsimp only [carSet] at TZ x0 x1 x2 x3 x4 c0 c1 c2 c3 c4
              go_wp2
              go_roundw
              case rel => exact ⟨k + 1, nc, ⟨⟨yp, ye, yo, yr⟩, yk⟩, by go_num, (by show _ ∧ _; omega), R2, HKX, TZ⟩
              case measure => simp [intOf]; omega
            · obtain rfl : N = k := by omega
              have hz := HR.out
              rw [Int.sub_self] at hz
              obtain ⟨htk, hlv, hal⟩ := RE.out (onlyC nk) c hz
              rw [onlyC_all] at hal
              have TK := TI.out c (onlyC nk) ok HC.out _ _ htk
              have LV := Lib.hid (fun W => LE.out c.x.p hlv W)
              subst hal
              obtain ⟨⟨xp, xe, xo, xr⟩, xk⟩ := c
              obtain ⟨fl, hfl'⟩ : ∃ fl, fl = Ho.flr ⟨hc, hfl, hs, hd⟩ xp := ⟨_, rfl⟩
              dsimp only [onlyC, Dn.v, zSp] at TK LV
              rw [← hfl'] at TK
              simp only [show ((0 : Nat) : Int) = 0 from rfl] at TK
              have TK := Lib.hid TK
              obtain ⟨i0, i1, i2, i3⟩ := HLx.out.h.cells
              obtain ⟨c0, c1, c2, c3, c4⟩ := HLx.out.c.cells
              obtain ⟨s0, s1, s2⟩ := arow HLx.out.s
              dsimp only [onlyC] at i0 i1 i2 i3 c0 c1 c2 c3 c4 s0 s1 s2
              simp only [show ((0 : Nat) : Int) = 0 from rfl] at s0 s1 s2
              clear hz htk hlv ok HR HC RE RT SO TI LE hfl'
              go_wp2_with fail
              with_reducible refine (TK.out _ ZT.out).mono ?_
              rintro v w11 ⟨rfl, hf⟩
              have T8 := Lib.hid ((HLx.out.fr hf).fr (two_fr w11 ⟨⟨xp, 0, 0, false⟩, 0⟩ ⟨false, false, fl, 0, 0, zSp⟩))
              have P8 := Lib.hid (PD.new w11 ⟨⟨xp, 0, 0, false⟩, 0⟩ ⟨false, false, fl, 0, 0, zSp⟩)
              clear hf i0 i1 i2 i3 c0 c1 c2 c3 c4 s0 s1 s2 HLx ZT TK
              dsimp only [Ca.box, Dn.box, zSp, onlyC] at T8 P8
              simp only [show ((0 : Nat) : Int) = 0 from rfl] at T8 P8
              go_upto_region 23 with fail
              generalize World.alloc (World.alloc w11 _) _ = w12 at *
              obtain ⟨n0, n1, n2, n3, n4, n5, n6, n7⟩ := P8.out.d.cells
              obtain ⟨x0, x1, x2, x3, x4⟩ := P8.out.x.cells
              obtain ⟨s0, s1, s2⟩ := arow T8.out.s
              obtain ⟨i0, i1, i2, i3⟩ := T8.out.h.cells
              dsimp only at n0 n1 n2 n3 n4 n5 n6 n7 x0 x1 x2 x3 x4 i0 i1 i2 i3 s0 s1 s2
              simp only [show ((0 : Nat) : Int) = 0 from rfl] at n5 n6 n7 s0 s1 s2
              go_wp2_with fail
              with_reducible refine (LV.out _).mono ?_
              rintro v w13 ⟨rfl, hf⟩
              have F13 := Lib.hid (T8.out.f.trans hf)
              clear hf
              go_wp2
              go_ret
              exact ⟨rfl, F13.out⟩
    · have V := Lib.hid (fun W => valid_any h W true (decide_eq_true hk).symm)
      have hlen : decide (10 < (l2.length : Int)) = true := decide_eq_true (by omega)
      clear hk hT a10 a11 hw2 r2 hl10 H2
      obtain ⟨hc, hfl, hs, hd⟩ := h
      dsimp only [Ho.v, Ho.box] at *
      go_enter Tryd.func6, Tryd.ntmps6
      go_wp2_with fail
      have Z0 := Lib.hid (HT.out.fr TB.out.f)
      with_reducible refine (cfirst_any _ Z0.out).mono ?_
      rintro v w1 ⟨rfl, hf⟩
      have T1 := Lib.hid (TB.out.fr hf)
      clear hf TB Z0
      obtain ⟨c0, c1, c2, c3⟩ := T1.out.h.cells
      dsimp only at c0 c1 c2 c3
      go_wp2_with fail
      with_reducible refine (V.out _).mono ?_
      rintro v w2 ⟨rfl, hf⟩
      have T2 := Lib.hid (T1.out.fr hf)
      clear hf c0 c1 c2 c3 T1
      obtain ⟨c0, c1, c2, c3⟩ := T2.out.h.cells
      dsimp only at c0 c1 c2 c3
      go_wp2
      go_ret
      exact ⟨rfl, T2.out.f⟩
  · have V := Lib.hid (fun W => valid_any h W false (decide_eq_false hk).symm)
    clear hk hT a10 a11 hw2 r2 H2
    obtain ⟨hc, hfl, hs, hd⟩ := h
    dsimp only [Ho.v, Ho.box] at *
    go_enter Tryd.func6, Tryd.ntmps6
    go_wp2_with fail
    have Z0 := Lib.hid (HT.out.fr TB.out.f)
    with_reducible refine (cfirst_any _ Z0.out).mono ?_
    rintro v w1 ⟨rfl, hf⟩
    have T1 := Lib.hid (TB.out.fr hf)
    clear hf TB Z0
    obtain ⟨c0, c1, c2, c3⟩ := T1.out.h.cells
    dsimp only at c0 c1 c2 c3
    go_wp2_with fail
    with_reducible refine (V.out _).mono ?_
    rintro v w2 ⟨rfl, hf⟩
    have T2 := Lib.hid (T1.out.fr hf)
    clear hf c0 c1 c2 c3 T1
    go_wp2
    go_ret
    exact ⟨rfl, T2.out.f⟩
theorem cserves_walk (h : Ho) (k1 : Int) (v2 : Value) (l2 : List Int) (a10 : -9223372036854775808 ≤ k1) (a11 : k1 ≤ 9223372036854775807) (W : World) (h2 : HInts W v2 l2) (hw2 : ∀ n ∈ l2, (Lit.int .i64 n).wf = true) (hT : Tz W) :
    Calls Tryd.prog 6 #[h.v, .int .i64 k1, v2] W fun x w' => x = .returned (.bool true) ∧ W.grownBy w' none :=
  (serves_true h k1 v2 l2 a10 a11 W h2 hw2 hT).mono fun _ _ ⟨he, hf⟩ => ⟨he, hf.grown (by simp)⟩
end Go.Proofs.YtgcgbiaigbblkaaDoor
