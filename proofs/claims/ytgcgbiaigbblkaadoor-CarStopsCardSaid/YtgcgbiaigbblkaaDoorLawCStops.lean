/- What a car stops for. -/
import Derived.Test.YtgcgbiaigbblkaaDoorCLaw
import Derived.Test.YtgcgbiaigbblkaaDoorCaStop
import Derived.Test.YtgcgbiaigbblkaaDoorCOpen
namespace Go.Proofs.YtgcgbiaigbblkaaDoor
open Go.RowKit

/-- What a tick reads: a house's, a car's, the stops' cells. -/
def F12 (V : World) (m n g j : Nat) (h : Ho) (c : Ca) (s : Sp) (a : World) : Prop := F5 V m n h c a ∧
  a.cell? ⟨g, j, none⟩ = some (.int .u64 s.c) ∧ a.cell? ⟨g, j + 1, none⟩ = some (.int .u64 s.u) ∧ a.cell? ⟨g, j + 2, none⟩ = some (.int .u64 s.d)
theorem F12.lasts (V : World) (m n g j : Nat) (h : Ho) (c : Ca) (s : Sp) : Lasts (F12 V m n g j h c s) := fun _ _ q f =>
  ⟨F5.lasts _ _ _ _ _ _ _ q.1 f, f.cell q.2.1 (by simp), f.cell q.2.2.1 (by simp), f.cell q.2.2.2 (by simp)⟩
theorem F12.size {V : World} {m n g j : Nat} {h : Ho} {c : Ca} {s : Sp} (w : World) (q : F12 V m n g j h c s w) : V.heap.size ≤ w.heap.size := q.1.1.size
/-- What is asked of the stops: their cells, the deed's floor and lantern. -/
def FS (V : World) (g j n : Nat) (s : Sp) (d : Dn) (a : World) : Prop := Fr V a [] ∧
  (a.cell? ⟨g, j, none⟩ = some (.int .u64 s.c) ∧ a.cell? ⟨g, j + 1, none⟩ = some (.int .u64 s.u) ∧ a.cell? ⟨g, j + 2, none⟩ = some (.int .u64 s.d)) ∧
  a.cell? ⟨n, 2, none⟩ = some (.int .i64 d.fl) ∧ a.cell? ⟨n, 3, none⟩ = some (.int .i64 d.la)
theorem FS.fr {V : World} {g j n : Nat} {s : Sp} {d : Dn} {a a' : World} (q : FS V g j n s d a) (f : Fr a a' []) : FS V g j n s d a' :=
  ⟨q.1.trans f, ⟨f.cell q.2.1.1 (by simp), f.cell q.2.1.2.1 (by simp), f.cell q.2.1.2.2 (by simp)⟩, f.cell q.2.2.1 (by simp), f.cell q.2.2.2 (by simp)⟩
/-- A house's and a car's boxes, a new car and its deed. -/
structure PL (W V : World) (b m n : Nat) (h : Ho) (c x : Ca) (d : Dn) (a : World) : Prop where
  q : LH W b h c a
  p : PD V m n x d a
theorem PL.fr {W V : World} {b m n : Nat} {h : Ho} {c x : Ca} {d : Dn} {a a' : World} (q : PL W V b m n h c x d a) (f : Fr a a' []) : PL W V b m n h c x d a' := ⟨q.q.fr f, q.p.fr f⟩
set_option maxHeartbeats 8000000 in
set_option maxRecDepth 100000 in
theorem stops_true (h : Ho) (k1 : Int) (v2 : Value) (l2 : List Sp) (a10 : -9223372036854775808 ≤ k1) (a11 : k1 ≤ 9223372036854775807) (w : World) (h2 : HSs w v2 l2) (hT : Tz w) :
    Calls Tryd.prog 3 #[h.v, .int .i64 k1, v2] w fun x w' => x = .returned (.bool true) ∧ Fr w w' [] := by
  have TB := Lib.hid (LB.new w h)
  have HT := Lib.hid hT
  obtain ⟨okS, a2, cap2, rfl, p2, q2, r2⟩ := h2
  unfold maxLen at q2
  by_cases hk : h.ok
  · by_cases hl60 : l2.length ≤ 60
    · have V := Lib.hid (fun W => valid_any h W true (decide_eq_true hk).symm)
      have TO := Lib.hid (fun W => top_any h W h.top (by rw [Ho.topR, if_pos hk]))
      have hr := Ho.range hk
      have NU := Lib.hid (fun W => numberTo_any k1 (h.top + 1) W (by omega) (by omega) a10 a11)
      have P0 := Int.emod_nonneg k1 (show h.top + 1 ≠ 0 by omega)
      have P1 := Int.emod_lt_of_pos k1 (show 0 < h.top + 1 by omega)
      obtain ⟨pos, hpos⟩ : ∃ pos, k1 % (h.top + 1) = pos := ⟨_, rfl⟩
      rw [hpos] at NU P0 P1
      clear hpos a10 a11
      have hw1 : IntKind.i64.wrap (h.top + 1) = h.top + 1 := IntWalk.i64_in _ (by omega)
      obtain ⟨r0, hr0⟩ : ∃ r0, r0 = !decide (h.lev pos) := ⟨_, rfl⟩
      have hst0 : startC h pos = ⟨⟨pos, 0, 0, r0⟩, 0⟩ := by rw [startC, hr0]
      have SA := Lib.hid (fun W => cstart_any h pos W hk P0 (by omega) ⟨⟨pos, 0, 0, r0⟩, 0⟩ hst0.symm)
      have OKS := Lib.hid okS
      have TI := Lib.hid (fun (c : Ca) (s : Sp) (ok : s.ok) (hkk : c.k ≤ 9223372036854775807) x d (hx : c.tick h s false = (x, d)) W hT => ctick_any h c s false W ok hT hkk x d hx)
      have TO' := Lib.hid (fun (c : Ca) (s : Sp) (ok : s.ok) => tick_opens h c ok false)
      clear hst0 hr0 hk hT hr P1 P0 okS
      obtain ⟨hc, hfl, hs, hd⟩ := h
      dsimp only [Ho.v, Ho.box, Ca.v, Ca.box, Sp.v, Sp.box] at *
      have hlen : decide (60 < (l2.length : Int)) = false := decide_eq_false (by omega)
      go_enter Tryd.func3, Tryd.ntmps3
      go_wp2_with fail
      have Z0 := Lib.hid (HT.out.fr TB.out.f)
      with_reducible refine (cfirst_any _ Z0.out).mono ?_
      rintro v w1 ⟨rfl, hf⟩
      have T1 := Lib.hid (TB.out.fr hf)
      clear hf TB Z0
      obtain ⟨c0, c1, c2, c3⟩ := T1.out.h.cells
      dsimp only at c0 c1 c2 c3
      go_wp2_with fail
      with_reducible refine (V.out _).mono ?_
      rintro v w2 ⟨rfl, hf⟩
      have T2 := Lib.hid (T1.out.fr hf)
      clear hf c0 c1 c2 c3 T1
      obtain ⟨c0, c1, c2, c3⟩ := T2.out.h.cells
      dsimp only at c0 c1 c2 c3
      go_wp2_with fail
      clear c0 c1 c2 c3
      refine wp_region_noPanic ?_
      refine wp_region_mix (M := F4 w2 w.heap.size ⟨hc, hfl, hs, hd⟩) (fun i => match i with | 10 => some (ptrTo, zCa.box) | _ => none) [9] w2.heap.size 11 (by kernel_rfl) (by kernel_rfl) (by kernel_rfl) (F4.lasts _ _ _) F4.size (F4.lasts _ _ _ _ _ (F4.of (Fr.refl _ _) T2.out.h) (Fr.drew _ [])) ?_
      refine wpMixU_take (i := 0) (oi := _) (v := ?mv1) (by decide) (by kernel_rfl) (by simp only [List.getElem?_toArray, List.getElem?_cons_zero]; rfl) (by rfl) (by kernel_rfl) (by kernel_rfl) (by kernel_rfl) (by rfl) ?my1 ?mr1
      case my1 => (intro M' hst him w hM; have hSw := him w hM; (try dsimp only [F4] at hSw); go_simp; refine Came.value ?_ hM; with_reducible rfl)
      try simp only [Act.put, List.setIfInBounds_toArray, List.set_cons_zero, List.set_cons_succ]
      refine wpMixU_take (i := 1) (oi := _) (v := ?mv2) (by decide) (by kernel_rfl) (by simp only [List.getElem?_toArray, List.getElem?_cons_zero, List.getElem?_cons_succ]; rfl) (by rfl) (by kernel_rfl) (by kernel_rfl) (by kernel_rfl) (by rfl) ?my2 ?mr2
      case my2 => (intro M' hst him w hM; have hSw := him w hM; (try dsimp only [F4] at hSw); go_simp; refine Came.value ?_ hM; with_reducible rfl)
      try simp only [Act.put, List.setIfInBounds_toArray, List.set_cons_zero, List.set_cons_succ]
      refine wpMixU_take (i := 2) (oi := _) (v := ?mv3) (by decide) (by kernel_rfl) (by simp only [List.getElem?_toArray, List.getElem?_cons_zero, List.getElem?_cons_succ]; rfl) (by rfl) (by kernel_rfl) (by kernel_rfl) (by kernel_rfl) (by rfl) ?my3 ?mr3
      case my3 => (intro M' hst him w hM; have hSw := him w hM; (try dsimp only [F4] at hSw); go_simp; refine Came.value ?_ hM; with_reducible rfl)
      try simp only [Act.put, List.setIfInBounds_toArray, List.set_cons_zero, List.set_cons_succ]
      refine wpMixU_take (i := 3) (oi := _) (v := ?mv4) (by decide) (by kernel_rfl) (by simp only [List.getElem?_toArray, List.getElem?_cons_zero, List.getElem?_cons_succ]; rfl) (by rfl) (by kernel_rfl) (by kernel_rfl) (by kernel_rfl) (by rfl) ?my4 ?mr4
      case my4 => (intro M' hst him w hM; have hSw := him w hM; (try dsimp only [F4] at hSw); go_simp; exact Came.call ((TO.out w).mono fun e w' ⟨he, hf⟩ => ⟨he, hst _ _ hM hf⟩) (by with_reducible rfl))
      try simp only [Act.put, List.setIfInBounds_toArray, List.set_cons_zero, List.set_cons_succ]
      refine wpMixU_take (i := 4) (oi := _) (v := ?mv5) (by decide) (by kernel_rfl) (by simp only [List.getElem?_toArray, List.getElem?_cons_zero, List.getElem?_cons_succ]; rfl) (by rfl) (by kernel_rfl) (by kernel_rfl) (by kernel_rfl) (by rfl) ?my5 ?mr5
      case my5 => (intro M' hst him w hM; have hSw := him w hM; (try dsimp only [F4] at hSw); go_simp; refine Came.value ?_ hM; with_reducible rfl)
      try simp only [Act.put, List.setIfInBounds_toArray, List.set_cons_zero, List.set_cons_succ]
      refine wpMixU_take (i := 5) (oi := _) (v := ?mv6) (by decide) (by kernel_rfl) (by simp only [List.getElem?_toArray, List.getElem?_cons_zero, List.getElem?_cons_succ]; rfl) (by rfl) (by kernel_rfl) (by kernel_rfl) (by kernel_rfl) (by rfl) ?my6 ?mr6
      case my6 => (intro M' hst him w hM; have hSw := him w hM; (try dsimp only [F4] at hSw); go_simp; exact Came.call ((NU.out w).mono fun e w' ⟨he, hf⟩ => ⟨he, hf ▸ hM⟩) (by with_reducible rfl))
      try simp only [Act.put, List.setIfInBounds_toArray, List.set_cons_zero, List.set_cons_succ]
      refine wpMixU_take (i := 6) (oi := _) (v := ?mv7) (by decide) (by kernel_rfl) (by simp only [List.getElem?_toArray, List.getElem?_cons_zero, List.getElem?_cons_succ]; rfl) (by rfl) (by kernel_rfl) (by kernel_rfl) (by kernel_rfl) (by rfl) ?my7 ?mr7
      case my7 => (intro M' hst him w hM; have hSw := him w hM; (try dsimp only [F4] at hSw); go_simp; exact Came.call ((SA.out w).mono fun e w' ⟨he, hf⟩ => ⟨he, hst _ _ hM hf⟩) (by with_reducible rfl))
      try simp only [Act.put, List.setIfInBounds_toArray, List.set_cons_zero, List.set_cons_succ]
      refine wpMixU_take (i := 7) (oi := _) (v := ?mv8) (by decide) (by kernel_rfl) (by simp only [List.getElem?_toArray, List.getElem?_cons_zero, List.getElem?_cons_succ]; rfl) (by rfl) (by kernel_rfl) (by kernel_rfl) (by kernel_rfl) (by rfl) ?my8 ?mr8
      case my8 => (intro M' hst him w hM; have hSw := him w hM; (try dsimp only [F4] at hSw); go_simp; refine Came.value ?_ hM; with_reducible rfl)
      try simp only [Act.put, List.setIfInBounds_toArray, List.set_cons_zero, List.set_cons_succ]
      refine wpMixU_take (i := 8) (oi := _) (v := ?mv9) (by decide) (by kernel_rfl) (by simp only [List.getElem?_toArray, List.getElem?_cons_zero, List.getElem?_cons_succ]; rfl) (by rfl) (by kernel_rfl) (by kernel_rfl) (by kernel_rfl) (by rfl) ?my9 ?mr9
      case my9 => (intro M' hst him w hM; have hSw := him w hM; (try dsimp only [F4] at hSw); go_simp; refine Came.value ?_ hM; with_reducible rfl)
      try simp only [Act.put, List.setIfInBounds_toArray, List.set_cons_zero, List.set_cons_succ]
      refine wpMixU_pure (i := 9) (oi := _) (v := ?mv10) (by decide) (by kernel_rfl) (by simp only [List.getElem?_toArray, List.getElem?_cons_zero, List.getElem?_cons_succ]; rfl) (fun _ _ _ _ h => (h : False).elim) (by kernel_rfl) (by kernel_rfl) (by kernel_rfl) (by rfl) ?my10 ?mr10
      case my10 => (intro w; go_simp; try with_reducible rfl)
      try simp only [Act.put, List.setIfInBounds_toArray, List.set_cons_zero, List.set_cons_succ]
      refine wpMixU_new (i := 10) (oi := _) [10] (by decide) (by kernel_rfl) (by simp only [List.getElem?_toArray, List.getElem?_cons_zero, List.getElem?_cons_succ]; rfl) (by rfl) (by kernel_rfl) (by kernel_rfl) (by kernel_rfl) (by kernel_rfl) (by kernel_rfl) (by kernel_rfl) (by rfl) ?my11 ?mr11
      case my11 => (intro w; go_simp; first | done | rfl | exact ⟨rfl, rfl⟩)
      intro p10
      try simp only [ptrTo, oneTo]
      try simp only [Act.put, List.setIfInBounds_toArray, List.set_cons_zero, List.set_cons_succ]
      refine wpMixU_tail (fun _ => True) (by kernel_rfl) (fun _ _ => trivial) ?_
      intro w5 hM
      have T5 := Lib.hid (show LH w p10 ⟨hc, hfl, hs, hd⟩ zCa w5 from ⟨T2.out.f.trans hM.1.1, T2.out.h.fr hM.1.1, hM.2.2, Nat.lt_of_lt_of_le (size_of_row T2.out.h) hM.2.1⟩)
      clear hM T2
      have T6 := Lib.hid (T5.out.car ⟨⟨pos, 0, 0, r0⟩, 0⟩)
      obtain ⟨r0', r1, r2, r3, r4⟩ := T5.out.c.cells
      have y0 := T5.out.c.fz 0
      have y1 := T5.out.c.fz 1
      have y2 := T5.out.c.fz 2
      have y3 := T5.out.c.fz 3
      have y4 := T5.out.c.fz 4
      dsimp only [zCa, carSet] at r0' r1 r2 r3 r4 T6
      refine wpAnyH_ready (rs := [11]) (by kernel_rfl) (by simp) ?_
      refine AllReadyH.cons (o := _) rfl (fun K hK => ?_) AllReadyH.nil
      go_simp
      refine hK.out _ _ trivial (fun hHeld => ?_)
      clear hK K
      try simp only [Act.put, List.setIfInBounds_toArray, List.set_cons_zero, List.set_cons_succ]
      refine wpAnyH_take (i := 12) (oi := _) (v := ?fv12t0n12) (by simp only [List.getElem?_toArray, List.getElem?_cons_zero, List.getElem?_cons_succ]; rfl) (by kernel_rfl) (by kernel_rfl) (by kernel_rfl) (fun _ _ _ h => h) (Or.inl ⟨by rfl, ?fy12t0n12⟩) (by assumption) ?fr12t0n12
      case fy12t0n12 => (intro w hSw; (try dsimp only at hSw); go_simp; try with_reducible rfl)
      try simp only [Act.put, List.setIfInBounds_toArray, List.set_cons_zero, List.set_cons_succ]
      refine wpAnyH_done (by kernel_rfl) ?_ _
      refine NoPanic.normal ?_
      clear hHeld
      generalize World.setCell (World.setCell (World.setCell (World.setCell (World.setCell w5 _ _) _ _) _ _) _ _) _ _ = w6 at *
      clear r0' r1 r2 r3 r4 y0 y1 y2 y3 y4 T5 NU V hw1 SA
      obtain ⟨b, rfl⟩ : ∃ b, b = p10 := ⟨_, rfl⟩
      go_wp2
      go_loopw [10] (fun s10 wx => ∃ (k : Nat) (c : Ca), s10 = .int .i64 k ∧ Hid (k ≤ l2.length) ∧ Hid (c.k ≤ 9223372036854775807) ∧ Hid (LH w b ⟨hc, hfl, hs, hd⟩ c wx)) (fun s10 _ => l2.length - (intOf s10).toNat)
      case atStart => exact ⟨0, _, rfl, Lib.hid (Nat.zero_le _), Lib.hid (by decide : (0 : Int) ≤ 9223372036854775807), T6⟩
      case round =>
        clear T6
        obtain ⟨k, c, rfl, HK, HC, HLx⟩ := hrel
        have hk1 := HK.out
        by_cases hlt : k < l2.length
        · obtain ⟨bk, off, rfl, hc2⟩ := r2 (by omega)
          obtain ⟨g0, g1, g2⟩ := hc2 k hlt
          obtain ⟨s, hs'⟩ : ∃ s, s = l2.getD k ⟨0, 0, 0⟩ := ⟨_, rfl⟩
          have ok : s.ok := OKS.out s (by rw [hs', List.getD_eq_getElem?_getD, List.getElem?_eq_getElem hlt]; exact List.getElem_mem hlt)
          rw [← hs'] at g0 g1 g2
          have hcell := (show wr.cell? ⟨bk, off + k * 3, none⟩ = some (.int .u64 s.c) ∧ wr.cell? ⟨bk, off + k * 3 + 1, none⟩ = some (.int .u64 s.u) ∧ wr.cell? ⟨bk, off + k * 3 + 2, none⟩ = some (.int .u64 s.d) from
            ⟨HLx.out.f.cell g0 (by simp), HLx.out.f.cell g1 (by simp), HLx.out.f.cell g2 (by simp)⟩)
          obtain ⟨x, d, hx⟩ : ∃ x d, c.tick ⟨hc, hfl, hs, hd⟩ s false = (x, d) := ⟨_, _, rfl⟩
          have TK := TI.out c s ok HC.out x d hx
          have OP := TO'.out c s ok
          have hkx : x.k ≤ 9223372036854775807 := by
            have := tick_held (h := ⟨hc, hfl, hs, hd⟩) (s := s) (ob := false) HC.out
            rw [hx] at this
            exact this
          rw [hx] at OP
          have hop : d.op = true → (hasB s.c d.fl = true ∨ (d.la ≠ 0 ∧ s.hall d.fl d.la = true)) ∧ hasB d.st.c d.fl = hasB s.c d.fl ∧ bitsOf d.st.all = [d.fl] ∧ (d.la ≠ 0 → d.st.hall d.fl (-d.la) = false) ∧ x.x.e = d.la ∧ d.st.ok ∧ ¬ (d.st.c = 0 ∧ d.st.u = 0 ∧ d.st.d = 0) := fun q => by
            rcases OP with ⟨_, o⟩ | ⟨o, _⟩
            · exact done_facts ok o
            · rw [q] at o; cases o
          have hnop : d.op = false → d.st = zSp ∧ d.la = 0 := fun q => by
            rcases OP with ⟨o, _⟩ | ⟨_, o⟩
            · rw [q] at o; cases o
            · exact o
          have hla : -1 ≤ d.la ∧ d.la ≤ 1 := by
            rcases OP with ⟨_, o⟩ | ⟨_, o⟩
            · have := o.la
              dsimp only at this
              omega
            · rw [o.2]; decide
          have ZT := Lib.hid (HT.out.fr HLx.out.f)
          have HKX := Lib.hid hkx
          obtain ⟨⟨xp, xe, xo, xr⟩, xk⟩ := c
          obtain ⟨⟨yp, ye, yo, yr⟩, yk⟩ := x
          obtain ⟨eo, ec, ef, ea, em, ⟨dc, du, dd⟩⟩ := d
          obtain ⟨sp, su, sd⟩ := s
          dsimp only [Dn.v] at TK hcell hop hnop hla
          replace TK := Lib.hid TK
          replace hop := Lib.hid hop
          replace hnop := Lib.hid hnop
          replace hla := Lib.hid hla
          clear hc2 g0 g1 g2 hs' hx OP TI TO' hkx r2 OKS HC
          go_wp2_with fail
          refine wp_region_noPanic ?_
          refine wp_region_mix (M := F12 wr w.heap.size b bk (off + k * 3) ⟨hc, hfl, hs, hd⟩ ⟨⟨xp, xe, xo, xr⟩, xk⟩ ⟨sp, su, sd⟩) (fun i => match i with | 10 => some (ptrTo, zCa.box) | 11 => some (ptrTo, zDn.box) | _ => none) [9] wr.heap.size 12 (by kernel_rfl) (by kernel_rfl) (by kernel_rfl) (F12.lasts _ _ _ _ _ _ _ _) F12.size (F12.lasts _ _ _ _ _ _ _ _ _ _ ⟨F5.of (Fr.refl _ _) HLx.out.h HLx.out.c, hcell⟩ (Fr.drew _ [])) ?_
          refine wpMixU_take (i := 0) (oi := _) (v := ?mv13) (by decide) (by kernel_rfl) (by simp only [List.getElem?_toArray, List.getElem?_cons_zero]; rfl) (by rfl) (by kernel_rfl) (by kernel_rfl) (by kernel_rfl) (by rfl) ?my13 ?mr13
          case my13 => (intro M' hst him w hM; have hSw := him w hM; (try dsimp only [F12, F5] at hSw); go_simp; refine Came.value ?_ hM; with_reducible rfl)
          try simp only [Act.put, List.setIfInBounds_toArray, List.set_cons_zero, List.set_cons_succ]
          refine wpMixU_take (i := 1) (oi := _) (v := ?mv14) (by decide) (by kernel_rfl) (by simp only [List.getElem?_toArray, List.getElem?_cons_zero, List.getElem?_cons_succ]; rfl) (by rfl) (by kernel_rfl) (by kernel_rfl) (by kernel_rfl) (by rfl) ?my14 ?mr14
          case my14 => (intro M' hst him w hM; have hSw := him w hM; (try dsimp only [F12, F5] at hSw); go_simp; refine Came.value ?_ hM; with_reducible rfl)
          try simp only [Act.put, List.setIfInBounds_toArray, List.set_cons_zero, List.set_cons_succ]
          refine wpMixU_take (i := 2) (oi := _) (v := ?mv15) (by decide) (by kernel_rfl) (by simp only [List.getElem?_toArray, List.getElem?_cons_zero, List.getElem?_cons_succ]; rfl) (by rfl) (by kernel_rfl) (by kernel_rfl) (by kernel_rfl) (by rfl) ?my15 ?mr15
          case my15 => (intro M' hst him w hM; have hSw := him w hM; (try dsimp only [F12, F5] at hSw); go_simp; refine Came.value ?_ hM; with_reducible rfl)
          try simp only [Act.put, List.setIfInBounds_toArray, List.set_cons_zero, List.set_cons_succ]
          refine wpMixU_take (i := 3) (oi := _) (v := ?mv16) (by decide) (by kernel_rfl) (by simp only [List.getElem?_toArray, List.getElem?_cons_zero, List.getElem?_cons_succ]; rfl) (by rfl) (by kernel_rfl) (by kernel_rfl) (by kernel_rfl) (by rfl) ?my16 ?mr16
          case my16 => (intro M' hst him w hM; have hSw := him w hM; (try dsimp only [F12, F5] at hSw); go_simp; refine Came.value ?_ hM; with_reducible rfl)
          try simp only [Act.put, List.setIfInBounds_toArray, List.set_cons_zero, List.set_cons_succ]
          refine wpMixU_take (i := 4) (oi := _) (v := ?mv17) (by decide) (by kernel_rfl) (by simp only [List.getElem?_toArray, List.getElem?_cons_zero, List.getElem?_cons_succ]; rfl) (by rfl) (by kernel_rfl) (by kernel_rfl) (by kernel_rfl) (by rfl) ?my17 ?mr17
          case my17 => (intro M' hst him w hM; have hSw := him w hM; (try dsimp only [F12, F5] at hSw); go_simp; refine Came.value ?_ hM; with_reducible rfl)
          try simp only [Act.put, List.setIfInBounds_toArray, List.set_cons_zero, List.set_cons_succ]
          refine wpMixU_take (i := 5) (oi := _) (v := ?mv18) (by decide) (by kernel_rfl) (by simp only [List.getElem?_toArray, List.getElem?_cons_zero, List.getElem?_cons_succ]; rfl) (by rfl) (by kernel_rfl) (by kernel_rfl) (by kernel_rfl) (by rfl) ?my18 ?mr18
          case my18 => (intro M' hst him w hM; have hSw := him w hM; (try dsimp only [F12, F5] at hSw); go_simp; refine Came.value ?_ hM; with_reducible rfl)
          try simp only [Act.put, List.setIfInBounds_toArray, List.set_cons_zero, List.set_cons_succ]
          refine wpMixU_take (i := 6) (oi := _) (v := ?mv19) (by decide) (by kernel_rfl) (by simp only [List.getElem?_toArray, List.getElem?_cons_zero, List.getElem?_cons_succ]; rfl) (by rfl) (by kernel_rfl) (by kernel_rfl) (by kernel_rfl) (by rfl) ?my19 ?mr19
          case my19 => (intro M' hst him w hM; have hSw := him w hM; (try dsimp only [F12, F5] at hSw); go_simp; exact Came.call ((TK.out w (ZT.out.fr hSw.1.1)).mono fun e w' ⟨he, hf⟩ => ⟨he, hst _ _ hM hf⟩) (by with_reducible rfl))
          try simp only [Act.put, List.setIfInBounds_toArray, List.set_cons_zero, List.set_cons_succ]
          refine wpMixU_take (i := 7) (oi := _) (v := ?mv20) (by decide) (by kernel_rfl) (by simp only [List.getElem?_toArray, List.getElem?_cons_zero, List.getElem?_cons_succ]; rfl) (by rfl) (by kernel_rfl) (by kernel_rfl) (by kernel_rfl) (by rfl) ?my20 ?mr20
          case my20 => (intro M' hst him w hM; have hSw := him w hM; (try dsimp only [F12, F5] at hSw); go_simp; refine Came.value ?_ hM; with_reducible rfl)
          try simp only [Act.put, List.setIfInBounds_toArray, List.set_cons_zero, List.set_cons_succ]
          refine wpMixU_take (i := 8) (oi := _) (v := ?mv21) (by decide) (by kernel_rfl) (by simp only [List.getElem?_toArray, List.getElem?_cons_zero, List.getElem?_cons_succ]; rfl) (by rfl) (by kernel_rfl) (by kernel_rfl) (by kernel_rfl) (by rfl) ?my21 ?mr21
          case my21 => (intro M' hst him w hM; have hSw := him w hM; (try dsimp only [F12, F5] at hSw); go_simp; refine Came.value ?_ hM; with_reducible rfl)
          try simp only [Act.put, List.setIfInBounds_toArray, List.set_cons_zero, List.set_cons_succ]
          refine wpMixU_pure (i := 9) (oi := _) (v := ?mv22) (by decide) (by kernel_rfl) (by simp only [List.getElem?_toArray, List.getElem?_cons_zero, List.getElem?_cons_succ]; rfl) (fun _ _ _ _ h => (h : False).elim) (by kernel_rfl) (by kernel_rfl) (by kernel_rfl) (by rfl) ?my22 ?mr22
          case my22 => (intro w; go_simp; try with_reducible rfl)
          try simp only [Act.put, List.setIfInBounds_toArray, List.set_cons_zero, List.set_cons_succ]
          refine wpMixU_new (i := 10) (oi := _) [10, 11] (by decide) (by kernel_rfl) (by simp only [List.getElem?_toArray, List.getElem?_cons_zero, List.getElem?_cons_succ]; rfl) (by rfl) (by kernel_rfl) (by kernel_rfl) (by kernel_rfl) (by kernel_rfl) (by kernel_rfl) (by kernel_rfl) (by rfl) ?my23 ?mr23
          case my23 => (intro w; go_simp; first | done | rfl | exact ⟨rfl, rfl⟩)
          intro p10
          try simp only [ptrTo, oneTo]
          try simp only [Act.put, List.setIfInBounds_toArray, List.set_cons_zero, List.set_cons_succ]
          refine wpMixU_new (i := 11) (oi := _) [10, 11] (by decide) (by kernel_rfl) (by simp only [List.getElem?_toArray, List.getElem?_cons_zero, List.getElem?_cons_succ]; rfl) (by rfl) (by kernel_rfl) (by kernel_rfl) (by kernel_rfl) (by kernel_rfl) (by kernel_rfl) (by kernel_rfl) (by rfl) ?my24 ?mr24
          case my24 => (intro w; go_simp; first | done | rfl | exact ⟨rfl, rfl⟩)
          intro p11
          try simp only [ptrTo, oneTo]
          try simp only [Act.put, List.setIfInBounds_toArray, List.set_cons_zero, List.set_cons_succ]
          refine wpMixU_tail (fun _ => True) (by kernel_rfl) (fun _ _ => trivial) ?_
          intro w5 hM
          have P5 := Lib.hid (show PD wr p10 p11 zCa zDn w5 from ⟨hM.1.1.1.1, hM.1.2.2, hM.2.2, hM.1.2.1, hM.2.1⟩)
          have P6 := Lib.hid (P5.out.car ⟨⟨yp, ye, yo, yr⟩, yk⟩)
          have P7 := Lib.hid (P6.out.deed ⟨eo, ec, ef, ea, em, ⟨dc, du, dd⟩⟩)
          obtain ⟨r0', r1, r2', r3', r4⟩ := P5.out.x.cells
          have y0 := P5.out.x.fz 0
          have y1 := P5.out.x.fz 1
          have y2 := P5.out.x.fz 2
          have y3 := P5.out.x.fz 3
          have y4 := P5.out.x.fz 4
          obtain ⟨n0, n1, n2, n3, n4, n5, n6, n7⟩ := P6.out.d.cells
          have m0 := P6.out.d.fz 0
          have m1 := P6.out.d.fz 1
          have m2 := P6.out.d.fz 2
          have m3 := P6.out.d.fz 3
          have m4 := P6.out.d.fz 4
          have m5 := P6.out.d.fz 5
          have m6 := P6.out.d.fz 6
          have m7 := P6.out.d.fz 7
          clear hM
          dsimp only [zCa, zDn, zSp, carSet] at P6 P7 r0' r1 r2' r3' r4 n0 n1 n2 n3 n4 n5 n6 n7 m0 m1 m2 m3 m4 m5 m6 m7
          clear P5
          simp only [show ((0 : Nat) : Int) = 0 from rfl] at n5 n6 n7
          refine wpAnyH_ready (rs := [12]) (by kernel_rfl) (by simp) ?_
          refine AllReadyH.cons (o := _) rfl (fun K hK => ?_) AllReadyH.nil
          go_simp
          refine hK.out _ _ trivial (fun hHeld => ?_)
          clear hK K
          try simp only [Act.put, List.setIfInBounds_toArray, List.set_cons_zero, List.set_cons_succ]
          generalize World.setCell (World.setCell (World.setCell (World.setCell (World.setCell w5 _ _) _ _) _ _) _ _) _ _ = w6 at P6 P7 n0 n1 n2 n3 n4 n5 n6 n7 m0 m1 m2 m3 m4 m5 m6 m7 ⊢
          clear r0' r1 r2' r3' r4 y0 y1 y2 y3 y4 P6
          refine wpAnyH_ready (rs := [13]) (by kernel_rfl) (by simp) ?_
          refine AllReadyH.cons (o := _) rfl (fun K hK => ?_) AllReadyH.nil
          go_simp
          refine hK.out _ _ trivial (fun hHeld => ?_)
          clear hK K
          try simp only [Act.put, List.setIfInBounds_toArray, List.set_cons_zero, List.set_cons_succ]
          refine wpAnyH_done (by kernel_rfl) ?_ _
          refine NoPanic.normal ?_
          clear hHeld
          dsimp only [dnSet] at P7
          generalize World.setCell (World.setCell (World.setCell (World.setCell (World.setCell (World.setCell (World.setCell (World.setCell w6 _ _) _ _) _ _) _ _) _ _) _ _) _ _) _ _ = w7 at P7 ⊢
          clear n0 n1 n2 n3 n4 n5 n6 n7 m0 m1 m2 m3 m4 m5 m6 m7
          have T7 := Lib.hid (show PL w wr b p10 p11 ⟨hc, hfl, hs, hd⟩ ⟨⟨xp, xe, xo, xr⟩, xk⟩ ⟨⟨yp, ye, yo, yr⟩, yk⟩ ⟨eo, ec, ef, ea, em, ⟨dc, du, dd⟩⟩ w7 from ⟨HLx.out.fr P7.out.f, P7.out⟩)
          have Z7 := Lib.hid (ZT.out.fr P7.out.f)
          replace hcell := (show w7.cell? ⟨bk, off + k * 3, none⟩ = some (.int .u64 sp) ∧ w7.cell? ⟨bk, off + k * 3 + 1, none⟩ = some (.int .u64 su) ∧ w7.cell? ⟨bk, off + k * 3 + 2, none⟩ = some (.int .u64 sd) from
            ⟨P7.out.f.cell hcell.1 (by simp), P7.out.f.cell hcell.2.1 (by simp), P7.out.f.cell hcell.2.2 (by simp)⟩)
          clear P7 HLx ZT TK
          cases eo with
          | true =>
            replace hop := hop.out
            replace hla := hla.out
            obtain ⟨hwhy, hcar, hbits, hneg, hxe, stok, hnz⟩ := hop rfl
            have hye : ye = ea := hxe
            subst hye
            obtain ⟨ba, hba⟩ : ∃ ba, ba = hasB sp ef := ⟨_, rfl⟩
            obtain ⟨bh, hbh⟩ : ∃ bh, bh = Sp.hall ⟨sp, su, sd⟩ ef ye := ⟨_, rfl⟩
            have AT := Lib.hid (fun W => at_any ⟨sp, su, sd⟩ ef W ok ba hba)
            have HA := Lib.hid (fun W => hall_any ⟨sp, su, sd⟩ ef ye W ok bh hbh)
            have AS := Lib.hid (fun W => at_any ⟨dc, du, dd⟩ ef W stok ba (hba.trans hcar.symm))
            have FLo := Lib.hid (fun W hT => floors_any ⟨dc, du, dd⟩ W stok hT [ef] hbits.symm)
            have HS := Lib.hid (fun W => hall_any ⟨dc, du, dd⟩ ef (-ye) W stok false (by
              by_cases z : ye = 0
              · rw [z]; rfl
              · exact (hneg z).symm))
            have HW1 : Hid (ba = true ∨ bh = true) := by
              refine Lib.hid ?_
              rcases hwhy with q | ⟨_, q⟩
              · exact .inl (hba.trans q)
              · exact .inr (hbh.trans q)
            have hb0 : ye = 0 → bh = false := fun z => by rw [hbh, z]; rfl
            have hng : IntKind.i64.wrap (-ye) = -ye := IntWalk.i64_in _ (by have := hla; omega)
            clear hop hwhy hcar hbits hneg hxe stok hnz hba hbh hla ok hnop
            replace hb0 := Lib.hid hb0
            dsimp only [Sp.v] at AT HA AS FLo HS
            obtain ⟨n0, n1, n2, n3, n4, n5, n6, n7⟩ := T7.out.p.d.cells
            dsimp only at n0 n1 n2 n3 n4 n5 n6 n7
            go_upto_region 14 with fail
            clear n0 n1 n2 n3 n4 n5 n6 n7
            have D7 := Lib.hid (show FS w7 bk (off + k * 3) p11 ⟨sp, su, sd⟩ ⟨true, ec, ef, ye, em, ⟨dc, du, dd⟩⟩ w7 from ⟨Fr.refl _ _, hcell, T7.out.p.d.cells.c2, T7.out.p.d.cells.c3⟩)
            clear hcell
            refine wp_region_det (S := FS w7 bk (off + k * 3) p11 ⟨sp, su, sd⟩ ⟨true, ec, ef, ye, em, ⟨dc, du, dd⟩⟩) (by kernel_rfl) (FS.fr D7.out (Fr.drew _ [])) ?_
            refine wpDet_take (i := 0) (oi := _) (v := ?dv25) (by simp only [List.getElem?_toArray, List.getElem?_cons_zero]; rfl) (by kernel_rfl) (by kernel_rfl) (by kernel_rfl) (Or.inl ⟨by rfl, ?dy25⟩) ?dr25
            case dy25 => (intro w hSw; have hS0 := hSw; (try dsimp only [FS] at hSw); go_simp; refine Came.value ?_ hS0; with_reducible rfl)
            try simp only [Act.put, List.setIfInBounds_toArray, List.set_cons_zero, List.set_cons_succ]
            refine wpDet_take (i := 1) (oi := _) (v := ?dv26) (by simp only [List.getElem?_toArray, List.getElem?_cons_zero, List.getElem?_cons_succ]; rfl) (by kernel_rfl) (by kernel_rfl) (by kernel_rfl) (Or.inl ⟨by rfl, ?dy26⟩) ?dr26
            case dy26 => (intro w hSw; have hS0 := hSw; (try dsimp only [FS] at hSw); go_simp; refine Came.value ?_ hS0; with_reducible rfl)
            try simp only [Act.put, List.setIfInBounds_toArray, List.set_cons_zero, List.set_cons_succ]
            refine wpDet_take (i := 2) (oi := _) (v := ?dv27) (by simp only [List.getElem?_toArray, List.getElem?_cons_zero, List.getElem?_cons_succ]; rfl) (by kernel_rfl) (by kernel_rfl) (by kernel_rfl) (Or.inl ⟨by rfl, ?dy27⟩) ?dr27
            case dy27 => (intro w hSw; have hS0 := hSw; (try dsimp only [FS] at hSw); go_simp; refine Came.value ?_ hS0; with_reducible rfl)
            try simp only [Act.put, List.setIfInBounds_toArray, List.set_cons_zero, List.set_cons_succ]
            refine wpDet_take (i := 3) (oi := _) (v := ?dv28) (by simp only [List.getElem?_toArray, List.getElem?_cons_zero, List.getElem?_cons_succ]; rfl) (by kernel_rfl) (by kernel_rfl) (by kernel_rfl) (Or.inl ⟨by rfl, ?dy28⟩) ?dr28
            case dy28 => (intro w hSw; have hS0 := hSw; (try dsimp only [FS] at hSw); go_simp; refine Came.value ?_ hS0; with_reducible rfl)
            try simp only [Act.put, List.setIfInBounds_toArray, List.set_cons_zero, List.set_cons_succ]
            refine wpDet_take (i := 4) (oi := _) (v := ?dv29) (by simp only [List.getElem?_toArray, List.getElem?_cons_zero, List.getElem?_cons_succ]; rfl) (by kernel_rfl) (by kernel_rfl) (by kernel_rfl) (Or.inl ⟨by rfl, ?dy29⟩) ?dr29
            case dy29 => (intro w hSw; have hS0 := hSw; (try dsimp only [FS] at hSw); go_simp; refine Came.value ?_ hS0; with_reducible rfl)
            try simp only [Act.put, List.setIfInBounds_toArray, List.set_cons_zero, List.set_cons_succ]
            refine wpDet_take (i := 5) (oi := _) (v := ?dv30) (by simp only [List.getElem?_toArray, List.getElem?_cons_zero, List.getElem?_cons_succ]; rfl) (by kernel_rfl) (by kernel_rfl) (by kernel_rfl) (Or.inl ⟨by rfl, ?dy30⟩) ?dr30
            case dy30 => (intro w hSw; have hS0 := hSw; (try dsimp only [FS] at hSw); go_simp; refine Came.value ?_ hS0; with_reducible rfl)
            try simp only [Act.put, List.setIfInBounds_toArray, List.set_cons_zero, List.set_cons_succ]
            refine wpDet_take (i := 6) (oi := _) (v := ?dv31) (by simp only [List.getElem?_toArray, List.getElem?_cons_zero, List.getElem?_cons_succ]; rfl) (by kernel_rfl) (by kernel_rfl) (by kernel_rfl) (Or.inl ⟨by rfl, ?dy31⟩) ?dr31
            case dy31 => (intro w hSw; go_simp; exact Came.call ((AT.out w).mono fun e w' ⟨he, hf⟩ => ⟨he, FS.fr hSw hf⟩) (by with_reducible rfl))
            try simp only [Act.put, List.setIfInBounds_toArray, List.set_cons_zero, List.set_cons_succ]
            refine wpDet_take (i := 7) (oi := _) (v := ?dv32) (by simp only [List.getElem?_toArray, List.getElem?_cons_zero, List.getElem?_cons_succ]; rfl) (by kernel_rfl) (by kernel_rfl) (by kernel_rfl) (Or.inl ⟨by rfl, ?dy32⟩) ?dr32
            case dy32 => (intro w hSw; have hS0 := hSw; (try dsimp only [FS] at hSw); go_simp; refine Came.value ?_ hS0; with_reducible rfl)
            try simp only [Act.put, List.setIfInBounds_toArray, List.set_cons_zero, List.set_cons_succ]
            refine wpDet_done (by kernel_rfl) ?_ _
            intro w8 hS8
            have D8 := Lib.hid hS8
            clear hS8 D7 AT
            go_upto_region 15 with fail
            go_cut [14] (fun s14 wx => s14 = .bool bh ∧ Hid (Fr w7 wx []))
            case first =>
              by_cases z : ye = 0
              · have hbf := hb0.out z
                subst z hbf
                clear HA HS AS FLo HW1 hb0
                refine wp_region_det (S := FS w7 bk (off + k * 3) p11 ⟨sp, su, sd⟩ ⟨true, ec, ef, 0, em, ⟨dc, du, dd⟩⟩) (by kernel_rfl) (FS.fr D8.out (Fr.drew _ [])) ?_
                refine wpDet_take (i := 0) (oi := _) (v := ?dv33) (by simp only [List.getElem?_toArray, List.getElem?_cons_zero]; rfl) (by kernel_rfl) (by kernel_rfl) (by kernel_rfl) (Or.inl ⟨by rfl, ?dy33⟩) ?dr33
                case dy33 => (intro w hSw; have hS0 := hSw; (try dsimp only [FS] at hSw); go_simp; refine Came.value ?_ hS0; with_reducible rfl)
                try simp only [Act.put, List.setIfInBounds_toArray, List.set_cons_zero, List.set_cons_succ]
                refine wpDet_take (i := 1) (oi := _) (v := ?dv34) (by simp only [List.getElem?_toArray, List.getElem?_cons_zero, List.getElem?_cons_succ]; rfl) (by kernel_rfl) (by kernel_rfl) (by kernel_rfl) (Or.inl ⟨by rfl, ?dy34⟩) ?dr34
                case dy34 => (intro w hSw; have hS0 := hSw; (try dsimp only [FS] at hSw); go_simp; refine Came.value ?_ hS0; with_reducible rfl)
                try simp only [Act.put, List.setIfInBounds_toArray, List.set_cons_zero, List.set_cons_succ]
                refine wpDet_take (i := 2) (oi := _) (v := ?dv35) (by simp only [List.getElem?_toArray, List.getElem?_cons_zero, List.getElem?_cons_succ]; rfl) (by kernel_rfl) (by kernel_rfl) (by kernel_rfl) (Or.inl ⟨by rfl, ?dy35⟩) ?dr35
                case dy35 => (intro w hSw; have hS0 := hSw; (try dsimp only [FS] at hSw); go_simp; refine Came.value ?_ hS0; with_reducible rfl)
                try simp only [Act.put, List.setIfInBounds_toArray, List.set_cons_zero, List.set_cons_succ]
                refine wpDet_take (i := 3) (oi := _) (v := ?dv36) (by simp only [List.getElem?_toArray, List.getElem?_cons_zero, List.getElem?_cons_succ]; rfl) (by kernel_rfl) (by kernel_rfl) (by kernel_rfl) (Or.inl ⟨by rfl, ?dy36⟩) ?dr36
                case dy36 => (intro w hSw; have hS0 := hSw; (try dsimp only [FS] at hSw); go_simp; refine Came.value ?_ hS0; with_reducible rfl)
                try simp only [Act.put, List.setIfInBounds_toArray, List.set_cons_zero, List.set_cons_succ]
                refine wpDet_take (i := 4) (oi := _) (v := undef) (by simp only [List.getElem?_toArray, List.getElem?_cons_zero, List.getElem?_cons_succ]; rfl) (by kernel_rfl) (by kernel_rfl) (by kernel_rfl) (Or.inr ⟨by rfl, rfl⟩) ?_
                try simp only [Act.put, List.setIfInBounds_toArray, List.set_cons_zero, List.set_cons_succ]
                refine wpDet_take (i := 5) (oi := _) (v := undef) (by simp only [List.getElem?_toArray, List.getElem?_cons_zero, List.getElem?_cons_succ]; rfl) (by kernel_rfl) (by kernel_rfl) (by kernel_rfl) (Or.inr ⟨by rfl, rfl⟩) ?_
                try simp only [Act.put, List.setIfInBounds_toArray, List.set_cons_zero, List.set_cons_succ]
                refine wpDet_take (i := 6) (oi := _) (v := undef) (by simp only [List.getElem?_toArray, List.getElem?_cons_zero, List.getElem?_cons_succ]; rfl) (by kernel_rfl) (by kernel_rfl) (by kernel_rfl) (Or.inr ⟨by rfl, rfl⟩) ?_
                try simp only [Act.put, List.setIfInBounds_toArray, List.set_cons_zero, List.set_cons_succ]
                refine wpDet_take (i := 7) (oi := _) (v := undef) (by simp only [List.getElem?_toArray, List.getElem?_cons_zero, List.getElem?_cons_succ]; rfl) (by kernel_rfl) (by kernel_rfl) (by kernel_rfl) (Or.inr ⟨by rfl, rfl⟩) ?_
                try simp only [Act.put, List.setIfInBounds_toArray, List.set_cons_zero, List.set_cons_succ]
                refine wpDet_take (i := 8) (oi := _) (v := undef) (by simp only [List.getElem?_toArray, List.getElem?_cons_zero, List.getElem?_cons_succ]; rfl) (by kernel_rfl) (by kernel_rfl) (by kernel_rfl) (Or.inr ⟨by rfl, rfl⟩) ?_
                try simp only [Act.put, List.setIfInBounds_toArray, List.set_cons_zero, List.set_cons_succ]
                refine wpDet_take (i := 9) (oi := _) (v := undef) (by simp only [List.getElem?_toArray, List.getElem?_cons_zero, List.getElem?_cons_succ]; rfl) (by kernel_rfl) (by kernel_rfl) (by kernel_rfl) (Or.inr ⟨by rfl, rfl⟩) ?_
                try simp only [Act.put, List.setIfInBounds_toArray, List.set_cons_zero, List.set_cons_succ]
                refine wpDet_take (i := 10) (oi := _) (v := undef) (by simp only [List.getElem?_toArray, List.getElem?_cons_zero, List.getElem?_cons_succ]; rfl) (by kernel_rfl) (by kernel_rfl) (by kernel_rfl) (Or.inr ⟨by rfl, rfl⟩) ?_
                try simp only [Act.put, List.setIfInBounds_toArray, List.set_cons_zero, List.set_cons_succ]
                refine wpDet_take (i := 11) (oi := _) (v := undef) (by simp only [List.getElem?_toArray, List.getElem?_cons_zero, List.getElem?_cons_succ]; rfl) (by kernel_rfl) (by kernel_rfl) (by kernel_rfl) (Or.inr ⟨by rfl, rfl⟩) ?_
                try simp only [Act.put, List.setIfInBounds_toArray, List.set_cons_zero, List.set_cons_succ]
                refine wpDet_take (i := 12) (oi := _) (v := undef) (by simp only [List.getElem?_toArray, List.getElem?_cons_zero, List.getElem?_cons_succ]; rfl) (by kernel_rfl) (by kernel_rfl) (by kernel_rfl) (Or.inr ⟨by rfl, rfl⟩) ?_
                try simp only [Act.put, List.setIfInBounds_toArray, List.set_cons_zero, List.set_cons_succ]
                refine wpDet_take (i := 13) (oi := _) (v := ?dv46) (by simp only [List.getElem?_toArray, List.getElem?_cons_zero, List.getElem?_cons_succ]; rfl) (by kernel_rfl) (by kernel_rfl) (by kernel_rfl) (Or.inl ⟨by rfl, ?dy46⟩) ?dr46
                case dy46 => (intro w hSw; have hS0 := hSw; (try dsimp only [FS] at hSw); go_simp; refine Came.value ?_ hS0; with_reducible rfl)
                try simp only [Act.put, List.setIfInBounds_toArray, List.set_cons_zero, List.set_cons_succ]
                refine wpDet_take (i := 14) (oi := _) (v := ?dv47) (by simp only [List.getElem?_toArray, List.getElem?_cons_zero, List.getElem?_cons_succ]; rfl) (by kernel_rfl) (by kernel_rfl) (by kernel_rfl) (Or.inl ⟨by rfl, ?dy47⟩) ?dr47
                case dy47 => (intro w hSw; have hS0 := hSw; (try dsimp only [FS] at hSw); go_simp; refine Came.value ?_ hS0; with_reducible rfl)
                try simp only [Act.put, List.setIfInBounds_toArray, List.set_cons_zero, List.set_cons_succ]
                refine wpDet_done (by kernel_rfl) ?_ _
                intro w9 hS9
                have F9 := Lib.hid hS9.1
                clear hS9
                go_wp2_with fail
                go_meet
                exact ⟨rfl, F9⟩
              · have hz : (ye != 0) = true := by simp [z]
                clear z HS AS FLo HW1 hb0
                refine wp_region_det (S := FS w7 bk (off + k * 3) p11 ⟨sp, su, sd⟩ ⟨true, ec, ef, ye, em, ⟨dc, du, dd⟩⟩) (by kernel_rfl) (FS.fr D8.out (Fr.drew _ [])) ?_
                refine wpDet_take (i := 0) (oi := _) (v := ?dv48) (by simp only [List.getElem?_toArray, List.getElem?_cons_zero]; rfl) (by kernel_rfl) (by kernel_rfl) (by kernel_rfl) (Or.inl ⟨by rfl, ?dy48⟩) ?dr48
                case dy48 => (intro w hSw; have hS0 := hSw; (try dsimp only [FS] at hSw); go_simp; refine Came.value ?_ hS0; with_reducible rfl)
                try simp only [Act.put, List.setIfInBounds_toArray, List.set_cons_zero, List.set_cons_succ]
                refine wpDet_take (i := 1) (oi := _) (v := ?dv49) (by simp only [List.getElem?_toArray, List.getElem?_cons_zero, List.getElem?_cons_succ]; rfl) (by kernel_rfl) (by kernel_rfl) (by kernel_rfl) (Or.inl ⟨by rfl, ?dy49⟩) ?dr49
                case dy49 => (intro w hSw; have hS0 := hSw; (try dsimp only [FS] at hSw); go_simp; refine Came.value ?_ hS0; with_reducible rfl)
                try simp only [Act.put, List.setIfInBounds_toArray, List.set_cons_zero, List.set_cons_succ]
                refine wpDet_take (i := 2) (oi := _) (v := ?dv50) (by simp only [List.getElem?_toArray, List.getElem?_cons_zero, List.getElem?_cons_succ]; rfl) (by kernel_rfl) (by kernel_rfl) (by kernel_rfl) (Or.inl ⟨by rfl, ?dy50⟩) ?dr50
                case dy50 => (intro w hSw; have hS0 := hSw; (try dsimp only [FS] at hSw); go_simp; refine Came.value ?_ hS0; with_reducible rfl)
                try simp only [Act.put, List.setIfInBounds_toArray, List.set_cons_zero, List.set_cons_succ]
                refine wpDet_take (i := 3) (oi := _) (v := ?dv51) (by simp only [List.getElem?_toArray, List.getElem?_cons_zero, List.getElem?_cons_succ]; rfl) (by kernel_rfl) (by kernel_rfl) (by kernel_rfl) (Or.inl ⟨by rfl, ?dy51⟩) ?dr51
                case dy51 => (intro w hSw; have hS0 := hSw; (try dsimp only [FS] at hSw); go_simp; refine Came.value ?_ hS0; with_reducible rfl)
                try simp only [Act.put, List.setIfInBounds_toArray, List.set_cons_zero, List.set_cons_succ]
                refine wpDet_take (i := 4) (oi := _) (v := ?dv52) (by simp only [List.getElem?_toArray, List.getElem?_cons_zero, List.getElem?_cons_succ]; rfl) (by kernel_rfl) (by kernel_rfl) (by kernel_rfl) (Or.inl ⟨by rfl, ?dy52⟩) ?dr52
                case dy52 => (intro w hSw; have hS0 := hSw; (try dsimp only [FS] at hSw); go_simp; refine Came.value ?_ hS0; with_reducible rfl)
                try simp only [Act.put, List.setIfInBounds_toArray, List.set_cons_zero, List.set_cons_succ]
                refine wpDet_take (i := 5) (oi := _) (v := ?dv53) (by simp only [List.getElem?_toArray, List.getElem?_cons_zero, List.getElem?_cons_succ]; rfl) (by kernel_rfl) (by kernel_rfl) (by kernel_rfl) (Or.inl ⟨by rfl, ?dy53⟩) ?dr53
                case dy53 => (intro w hSw; have hS0 := hSw; (try dsimp only [FS] at hSw); go_simp; refine Came.value ?_ hS0; with_reducible rfl)
                try simp only [Act.put, List.setIfInBounds_toArray, List.set_cons_zero, List.set_cons_succ]
                refine wpDet_take (i := 6) (oi := _) (v := ?dv54) (by simp only [List.getElem?_toArray, List.getElem?_cons_zero, List.getElem?_cons_succ]; rfl) (by kernel_rfl) (by kernel_rfl) (by kernel_rfl) (Or.inl ⟨by rfl, ?dy54⟩) ?dr54
                case dy54 => (intro w hSw; have hS0 := hSw; (try dsimp only [FS] at hSw); go_simp; refine Came.value ?_ hS0; with_reducible rfl)
                try simp only [Act.put, List.setIfInBounds_toArray, List.set_cons_zero, List.set_cons_succ]
                refine wpDet_take (i := 7) (oi := _) (v := ?dv55) (by simp only [List.getElem?_toArray, List.getElem?_cons_zero, List.getElem?_cons_succ]; rfl) (by kernel_rfl) (by kernel_rfl) (by kernel_rfl) (Or.inl ⟨by rfl, ?dy55⟩) ?dr55
                case dy55 => (intro w hSw; have hS0 := hSw; (try dsimp only [FS] at hSw); go_simp; refine Came.value ?_ hS0; with_reducible rfl)
                try simp only [Act.put, List.setIfInBounds_toArray, List.set_cons_zero, List.set_cons_succ]
                refine wpDet_take (i := 8) (oi := _) (v := ?dv56) (by simp only [List.getElem?_toArray, List.getElem?_cons_zero, List.getElem?_cons_succ]; rfl) (by kernel_rfl) (by kernel_rfl) (by kernel_rfl) (Or.inl ⟨by rfl, ?dy56⟩) ?dr56
                case dy56 => (intro w hSw; have hS0 := hSw; (try dsimp only [FS] at hSw); go_simp; refine Came.value ?_ hS0; with_reducible rfl)
                try simp only [Act.put, List.setIfInBounds_toArray, List.set_cons_zero, List.set_cons_succ]
                refine wpDet_take (i := 9) (oi := _) (v := ?dv57) (by simp only [List.getElem?_toArray, List.getElem?_cons_zero, List.getElem?_cons_succ]; rfl) (by kernel_rfl) (by kernel_rfl) (by kernel_rfl) (Or.inl ⟨by rfl, ?dy57⟩) ?dr57
                case dy57 => (intro w hSw; have hS0 := hSw; (try dsimp only [FS] at hSw); go_simp; refine Came.value ?_ hS0; with_reducible rfl)
                try simp only [Act.put, List.setIfInBounds_toArray, List.set_cons_zero, List.set_cons_succ]
                refine wpDet_take (i := 10) (oi := _) (v := ?dv58) (by simp only [List.getElem?_toArray, List.getElem?_cons_zero, List.getElem?_cons_succ]; rfl) (by kernel_rfl) (by kernel_rfl) (by kernel_rfl) (Or.inl ⟨by rfl, ?dy58⟩) ?dr58
                case dy58 => (intro w hSw; have hS0 := hSw; (try dsimp only [FS] at hSw); go_simp; refine Came.value ?_ hS0; with_reducible rfl)
                try simp only [Act.put, List.setIfInBounds_toArray, List.set_cons_zero, List.set_cons_succ]
                refine wpDet_take (i := 11) (oi := _) (v := ?dv59) (by simp only [List.getElem?_toArray, List.getElem?_cons_zero, List.getElem?_cons_succ]; rfl) (by kernel_rfl) (by kernel_rfl) (by kernel_rfl) (Or.inl ⟨by rfl, ?dy59⟩) ?dr59
                case dy59 => (intro w hSw; have hS0 := hSw; (try dsimp only [FS] at hSw); go_simp; refine Came.value ?_ hS0; with_reducible rfl)
                try simp only [Act.put, List.setIfInBounds_toArray, List.set_cons_zero, List.set_cons_succ]
                refine wpDet_take (i := 12) (oi := _) (v := ?dv60) (by simp only [List.getElem?_toArray, List.getElem?_cons_zero, List.getElem?_cons_succ]; rfl) (by kernel_rfl) (by kernel_rfl) (by kernel_rfl) (Or.inl ⟨by rfl, ?dy60⟩) ?dr60
                case dy60 => (intro w hSw; go_simp; exact Came.call ((HA.out w).mono fun e w' ⟨he, hf⟩ => ⟨he, FS.fr hSw hf⟩) (by with_reducible rfl))
                try simp only [Act.put, List.setIfInBounds_toArray, List.set_cons_zero, List.set_cons_succ]
                refine wpDet_take (i := 13) (oi := _) (v := ?dv61) (by simp only [List.getElem?_toArray, List.getElem?_cons_zero, List.getElem?_cons_succ]; rfl) (by kernel_rfl) (by kernel_rfl) (by kernel_rfl) (Or.inl ⟨by rfl, ?dy61⟩) ?dr61
                case dy61 => (intro w hSw; have hS0 := hSw; (try dsimp only [FS] at hSw); go_simp; refine Came.value ?_ hS0; with_reducible rfl)
                try simp only [Act.put, List.setIfInBounds_toArray, List.set_cons_zero, List.set_cons_succ]
                refine wpDet_take (i := 14) (oi := _) (v := ?dv62) (by simp only [List.getElem?_toArray, List.getElem?_cons_zero, List.getElem?_cons_succ]; rfl) (by kernel_rfl) (by kernel_rfl) (by kernel_rfl) (Or.inl ⟨by rfl, ?dy62⟩) ?dr62
                case dy62 => (intro w hSw; have hS0 := hSw; (try dsimp only [FS] at hSw); go_simp; refine Came.value ?_ hS0; with_reducible rfl)
                try simp only [Act.put, List.setIfInBounds_toArray, List.set_cons_zero, List.set_cons_succ]
                refine wpDet_done (by kernel_rfl) ?_ _
                intro w9 hS9
                have F9 := Lib.hid hS9.1
                clear hS9
                go_wp2_with fail
                go_meet
                exact ⟨rfl, F9⟩
            case rest =>
              obtain ⟨rfl, F9⟩ := hcut
              have T9 := Lib.hid (T7.out.fr F9.out)
              have Z9 := Lib.hid (Z7.out.fr F9.out)
              clear T7 Z7 D8 F9 HA hb0
              obtain ⟨c0, c1, c2, c3, c4⟩ := T9.out.q.c.cells
              obtain ⟨x0, x1, x2, x3, x4⟩ := T9.out.p.x.cells
              obtain ⟨n0, n1, n2, n3, n4, n5, n6, n7⟩ := T9.out.p.d.cells
              dsimp only at c0 c1 c2 c3 c4 x0 x1 x2 x3 x4 n0 n1 n2 n3 n4 n5 n6 n7
              cases ba with
              | true =>
                clear HW1
                go_wp2_with fail
                with_reducible refine (AS.out _).mono ?_
                rintro v w10 ⟨rfl, hf⟩
                have T10 := Lib.hid (T9.out.fr hf)
                have Zw10 := Lib.hid (Z9.out.fr hf)
                clear hf T9
                clear c0 c1 c2 c3 c4 x0 x1 x2 x3 x4 n0 n1 n2 n3 n4 n5 n6 n7
                obtain ⟨c0, c1, c2, c3, c4⟩ := T10.out.q.c.cells
                obtain ⟨x0, x1, x2, x3, x4⟩ := T10.out.p.x.cells
                obtain ⟨n0, n1, n2, n3, n4, n5, n6, n7⟩ := T10.out.p.d.cells
                dsimp only at c0 c1 c2 c3 c4 x0 x1 x2 x3 x4 n0 n1 n2 n3 n4 n5 n6 n7
                go_wp2_with fail
                with_reducible refine (FLo.out _ Zw10.out).mono ?_
                rintro v w11 ⟨v', rfl, ho, hf⟩
                have T11 := Lib.hid (T10.out.fr hf)
                obtain ⟨ad, cap, rfl, q1, q2', _⟩ := ho.holds
                unfold maxLen at q2'
                simp only [List.length_cons, List.length_nil, Nat.zero_add] at q1 q2'
                clear hf ho T10 Zw10
                clear c0 c1 c2 c3 c4 x0 x1 x2 x3 x4 n0 n1 n2 n3 n4 n5 n6 n7
                obtain ⟨c0, c1, c2, c3, c4⟩ := T11.out.q.c.cells
                obtain ⟨x0, x1, x2, x3, x4⟩ := T11.out.p.x.cells
                obtain ⟨n0, n1, n2, n3, n4, n5, n6, n7⟩ := T11.out.p.d.cells
                dsimp only at c0 c1 c2 c3 c4 x0 x1 x2 x3 x4 n0 n1 n2 n3 n4 n5 n6 n7
                go_wp2_with fail
                with_reducible refine (HS.out _).mono ?_
                rintro v w12 ⟨rfl, hf⟩
                have T12 := Lib.hid (T11.out.fr hf)
                clear hf T11 AS FLo HS
                clear c0 c1 c2 c3 c4 x0 x1 x2 x3 x4 n0 n1 n2 n3 n4 n5 n6 n7
                obtain ⟨c0, c1, c2, c3, c4⟩ := T12.out.q.c.cells
                obtain ⟨x0, x1, x2, x3, x4⟩ := T12.out.p.x.cells
                obtain ⟨n0, n1, n2, n3, n4, n5, n6, n7⟩ := T12.out.p.d.cells
                dsimp only at c0 c1 c2 c3 c4 x0 x1 x2 x3 x4 n0 n1 n2 n3 n4 n5 n6 n7
                have TZ := Lib.hid (T12.out.q.car ⟨⟨yp, ye, yo, yr⟩, yk⟩)
                have y0 := T12.out.q.c.fz 0
                have y1 := T12.out.q.c.fz 1
                have y2 := T12.out.q.c.fz 2
                have y3 := T12.out.q.c.fz 3
                have y4 := T12.out.q.c.fz 4
                dsimp only [carSet] at TZ
                go_wp2
                go_roundw
                case rel => exact ⟨k + 1, ⟨⟨yp, ye, yo, yr⟩, yk⟩, by go_num, Lib.hid (by omega), HKX, TZ⟩
                case measure => simp [intOf]; omega
              | false =>
                obtain rfl : bh = true := HW1.out.resolve_left (by simp)
                clear HW1
                go_wp2_with fail
                with_reducible refine (AS.out _).mono ?_
                rintro v w10 ⟨rfl, hf⟩
                have T10 := Lib.hid (T9.out.fr hf)
                have Zw10 := Lib.hid (Z9.out.fr hf)
                clear hf T9
                clear c0 c1 c2 c3 c4 x0 x1 x2 x3 x4 n0 n1 n2 n3 n4 n5 n6 n7
                obtain ⟨c0, c1, c2, c3, c4⟩ := T10.out.q.c.cells
                obtain ⟨x0, x1, x2, x3, x4⟩ := T10.out.p.x.cells
                obtain ⟨n0, n1, n2, n3, n4, n5, n6, n7⟩ := T10.out.p.d.cells
                dsimp only at c0 c1 c2 c3 c4 x0 x1 x2 x3 x4 n0 n1 n2 n3 n4 n5 n6 n7
                go_wp2_with fail
                with_reducible refine (FLo.out _ Zw10.out).mono ?_
                rintro v w11 ⟨v', rfl, ho, hf⟩
                have T11 := Lib.hid (T10.out.fr hf)
                obtain ⟨ad, cap, rfl, q1, q2', _⟩ := ho.holds
                unfold maxLen at q2'
                simp only [List.length_cons, List.length_nil, Nat.zero_add] at q1 q2'
                clear hf ho T10 Zw10
                clear c0 c1 c2 c3 c4 x0 x1 x2 x3 x4 n0 n1 n2 n3 n4 n5 n6 n7
                obtain ⟨c0, c1, c2, c3, c4⟩ := T11.out.q.c.cells
                obtain ⟨x0, x1, x2, x3, x4⟩ := T11.out.p.x.cells
                obtain ⟨n0, n1, n2, n3, n4, n5, n6, n7⟩ := T11.out.p.d.cells
                dsimp only at c0 c1 c2 c3 c4 x0 x1 x2 x3 x4 n0 n1 n2 n3 n4 n5 n6 n7
                go_wp2_with fail
                with_reducible refine (HS.out _).mono ?_
                rintro v w12 ⟨rfl, hf⟩
                have T12 := Lib.hid (T11.out.fr hf)
                clear hf T11 AS FLo HS
                clear c0 c1 c2 c3 c4 x0 x1 x2 x3 x4 n0 n1 n2 n3 n4 n5 n6 n7
                obtain ⟨c0, c1, c2, c3, c4⟩ := T12.out.q.c.cells
                obtain ⟨x0, x1, x2, x3, x4⟩ := T12.out.p.x.cells
                obtain ⟨n0, n1, n2, n3, n4, n5, n6, n7⟩ := T12.out.p.d.cells
                dsimp only at c0 c1 c2 c3 c4 x0 x1 x2 x3 x4 n0 n1 n2 n3 n4 n5 n6 n7
                have TZ := Lib.hid (T12.out.q.car ⟨⟨yp, ye, yo, yr⟩, yk⟩)
                have y0 := T12.out.q.c.fz 0
                have y1 := T12.out.q.c.fz 1
                have y2 := T12.out.q.c.fz 2
                have y3 := T12.out.q.c.fz 3
                have y4 := T12.out.q.c.fz 4
                dsimp only [carSet] at TZ
                go_wp2
                go_roundw
                case rel => exact ⟨k + 1, ⟨⟨yp, ye, yo, yr⟩, yk⟩, by go_num, Lib.hid (by omega), HKX, TZ⟩
                case measure => simp [intOf]; omega
          | false =>
            replace hnop := hnop.out
            obtain ⟨hz1, hz2⟩ := hnop rfl
            simp only [zSp, Sp.mk.injEq] at hz1
            obtain ⟨rfl, rfl, rfl⟩ := hz1
            subst hz2
            clear hop hla ok hnop hcell Z7
            obtain ⟨c0, c1, c2, c3, c4⟩ := T7.out.q.c.cells
            obtain ⟨x0, x1, x2, x3, x4⟩ := T7.out.p.x.cells
            obtain ⟨n0, n1, n2, n3, n4, n5, n6, n7⟩ := T7.out.p.d.cells
            dsimp only at c0 c1 c2 c3 c4 x0 x1 x2 x3 x4 n0 n1 n2 n3 n4 n5 n6 n7
            simp only [show ((0 : Nat) : Int) = 0 from rfl] at n5 n6 n7
            have TZ := Lib.hid (T7.out.q.car ⟨⟨yp, ye, yo, yr⟩, yk⟩)
            have y0 := T7.out.q.c.fz 0
            have y1 := T7.out.q.c.fz 1
            have y2 := T7.out.q.c.fz 2
            have y3 := T7.out.q.c.fz 3
            have y4 := T7.out.q.c.fz 4
            dsimp only [carSet] at TZ
            go_wp2
            go_roundw
            case rel => exact ⟨k + 1, ⟨⟨yp, ye, yo, yr⟩, yk⟩, by go_num, Lib.hid (by omega), HKX, TZ⟩
            case measure => simp [intOf]; omega
        · obtain rfl : k = l2.length := by omega
          have HF := Lib.hid HLx.out.f
          clear r2 HLx
          go_wp2
          go_ret
          exact ⟨rfl, HF.out⟩
    · have V := Lib.hid (fun W => valid_any h W true (decide_eq_true hk).symm)
      have hlen : decide (60 < (l2.length : Int)) = true := decide_eq_true (by omega)
      clear hk hT a10 a11 r2 okS hl60
      obtain ⟨hc, hfl, hs, hd⟩ := h
      dsimp only [Ho.v, Ho.box] at *
      go_enter Tryd.func3, Tryd.ntmps3
      go_wp2_with fail
      have Z0 := Lib.hid (HT.out.fr TB.out.f)
      with_reducible refine (cfirst_any _ Z0.out).mono ?_
      rintro v w1 ⟨rfl, hf⟩
      have T1 := Lib.hid (TB.out.fr hf)
      clear hf TB Z0
      obtain ⟨c0, c1, c2, c3⟩ := T1.out.h.cells
      dsimp only at c0 c1 c2 c3
      go_wp2_with fail
      with_reducible refine (V.out _).mono ?_
      rintro v w2 ⟨rfl, hf⟩
      have T2 := Lib.hid (T1.out.fr hf)
      clear hf c0 c1 c2 c3 T1
      obtain ⟨c0, c1, c2, c3⟩ := T2.out.h.cells
      dsimp only at c0 c1 c2 c3
      go_wp2
      go_ret
      exact ⟨rfl, T2.out.f⟩
  · have V := Lib.hid (fun W => valid_any h W false (decide_eq_false hk).symm)
    clear hk hT a10 a11 r2 okS
    obtain ⟨hc, hfl, hs, hd⟩ := h
    dsimp only [Ho.v, Ho.box] at *
    go_enter Tryd.func3, Tryd.ntmps3
    go_wp2_with fail
    have Z0 := Lib.hid (HT.out.fr TB.out.f)
    with_reducible refine (cfirst_any _ Z0.out).mono ?_
    rintro v w1 ⟨rfl, hf⟩
    have T1 := Lib.hid (TB.out.fr hf)
    clear hf TB Z0
    obtain ⟨c0, c1, c2, c3⟩ := T1.out.h.cells
    dsimp only at c0 c1 c2 c3
    go_wp2_with fail
    with_reducible refine (V.out _).mono ?_
    rintro v w2 ⟨rfl, hf⟩
    have T2 := Lib.hid (T1.out.fr hf)
    clear hf c0 c1 c2 c3 T1
    go_wp2
    go_ret
    exact ⟨rfl, T2.out.f⟩
theorem cstops_walk (h : Ho) (k1 : Int) (v2 : Value) (l2 : List Sp) (a10 : -9223372036854775808 ≤ k1) (a11 : k1 ≤ 9223372036854775807) (W : World) (h2 : HSs W v2 l2) (hT : Tz W) :
    Calls Tryd.prog 3 #[h.v, .int .i64 k1, v2] W fun x w' => x = .returned (.bool true) ∧ W.grownBy w' none :=
  (stops_true h k1 v2 l2 a10 a11 W h2 hT).mono fun _ _ ⟨he, hf⟩ => ⟨he, hf.grown (by simp)⟩
end Go.Proofs.YtgcgbiaigbblkaaDoor
