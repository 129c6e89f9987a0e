/- Package ledger: a bid put on a call's entry. -/
import Derived.Test.YtldheaamcnmlgaaLgC12
namespace Go.Proofs.Ytldheaamcnmlgaa
open Go.RowKit Fm

set_option maxHeartbeats 1000000 in
set_option maxRecDepth 100000 in
theorem may_any (vm : Value) (ms : List Int) (b1 b2 : Int) (w : World) (hm : HInts w vm ms) (r : Bool) (hr : r = decide (b1 ∈ ms ∧ 0 ≤ b2 ∧ b2 ≤ 1048576)) :
    Calls Try.prog 31 #[vm, .agg #[.int .i64 b1, .int .i64 b2]] w fun x w' => x = .returned (.bool r) ∧ Fr w w' [] := by
  have FA := Lib.hid (Fr.alloc w (.cells #[.int .i64 b1, .int .i64 b2] 42) [])
  obtain ⟨x0, x1⟩ := brow (heap_alloc_new w (.cells #[.int .i64 b1, .int .i64 b2] 42))
  obtain ⟨h, hh⟩ : ∃ h, h = decide (b1 ∈ ms) := ⟨_, rfl⟩
  have HA := Lib.hid (has_any vm ms b1 (w.alloc (.cells #[.int .i64 b1, .int .i64 b2] 42)) (hm.keep FA.out) h hh)
  obtain ⟨a, c, rfl⟩ := hm.shape
  clear hm
  cases h with
  | false =>
    have hr2 : r = false := by rw [hr]; exact decide_eq_false (fun q => (of_decide_eq_false hh.symm) q.1)
    clear hr hh
    go_enter Try.func31, Try.ntmps31
    go_wp2_with fail
    with_reducible refine (HA.out).mono ?_
    rintro e w1 ⟨rfl, rfl⟩
    clear HA
    go_wp2
    go_ret
    exact ⟨by rw [hr2]; rfl, FA.out⟩
  | true =>
    have hin : b1 ∈ ms := of_decide_eq_true hh.symm
    by_cases h1 : 0 ≤ b2
    · by_cases h2 : b2 ≤ 1048576
      · have hr2 : r = true := by rw [hr]; exact decide_eq_true ⟨hin, h1, h2⟩
        clear hr hh hin
        go_enter Try.func31, Try.ntmps31
        go_wp2_with fail
        with_reducible refine (HA.out).mono ?_
        rintro e w1 ⟨rfl, rfl⟩
        clear HA
        go_wp2
        go_ret
        exact ⟨by rw [hr2]; rfl, FA.out⟩
      · have hr2 : r = false := by rw [hr]; exact decide_eq_false (fun q => h2 q.2.2)
        clear hr hh hin
        go_enter Try.func31, Try.ntmps31
        go_wp2_with fail
        with_reducible refine (HA.out).mono ?_
        rintro e w1 ⟨rfl, rfl⟩
        clear HA
        go_wp2
        go_ret
        exact ⟨by show Ending.returned (.bool (decide (b2 ≤ 1048576))) = _; rw [decide_eq_false (show ¬ b2 ≤ 1048576 by omega), hr2], FA.out⟩
    · have hr2 : r = false := by rw [hr]; exact decide_eq_false (fun q => h1 q.2.1)
      clear hr hh hin
      go_enter Try.func31, Try.ntmps31
      go_wp2_with fail
      with_reducible refine (HA.out).mono ?_
      rintro e w1 ⟨rfl, rfl⟩
      clear HA
      go_wp2
      go_ret
      exact ⟨by (try rw [hr2]); rfl, FA.out⟩
set_option maxHeartbeats 8000000 in
set_option maxRecDepth 100000 in
theorem bid_any (r : Rg) (vm ve : Value) (b : Int × Int) (f d : Int) (w : World) (hm : HInts w vm r.ms) (he : HE w ve r.es) (hml : r.ms.length ≤ 1000) (hel : r.es.length ≤ 1000) (hbl : ∀ e ∈ r.es, e.bs.length ≤ 1000) :
    Calls Try.prog 14 #[rgV r vm ve, bidV b, .agg #[.int .i64 f, .int .i64 d]] w (Gives (GTwo (bidR r b (placeE r.es f d)) (bidRB r b (placeE r.es f d)) w)) := by
  obtain ⟨co, fo, ho, ms, es⟩ := r
  dsimp only at hm he hml hel hbl
  have HMV := Lib.hid hm
  have HEV := Lib.hid he
  obtain ⟨am, cm, rfl, pm, qm, rm⟩ := hm
  obtain ⟨ae, ce, rfl, pe, qe, re⟩ := he
  unfold maxLen at qm qe
  have HBL := Lib.hid hbl
  have HEL := Lib.hid hel
  have HML := Lib.hid hml
  have HLS := Lib.hid re
  obtain ⟨n, hn⟩ : ∃ n, n = es.length := ⟨_, rfl⟩
  have HN := Lib.hid hn
  obtain ⟨m, hmm⟩ : ∃ m, m = ms.length := ⟨_, rfl⟩
  have HM := Lib.hid hmm
  rw [← hn] at hel pe HLS HEV
  rw [← hmm] at hml pm HMV
  unfold rgV
  dsimp only
  rw [← hn, ← hmm]
  clear rm re hbl hn hmm
  obtain ⟨b1, b2⟩ := b
  dsimp only [bidV]
  obtain ⟨kk, hkk⟩ : ∃ k, k = placeE es f d := ⟨_, rfl⟩
  have HPI := Lib.hid (fun z (h : PlaceIs es f d z) => (show (z = -1 ∧ ¬ kk < n) ∨ (z = (kk : Int) ∧ kk < n) by unfold PlaceIs at h; rw [← hkk, ← HN.out] at h; exact h))
  rw [← hkk]
  have HRE1 := Lib.hid (show ¬ bidMay ⟨co, fo, ho, ms, es⟩ (b1, b2) kk → bidR ⟨co, fo, ho, ms, es⟩ (b1, b2) kk = ⟨co, fo, ho, ms, es⟩ ∧ bidRB ⟨co, fo, ho, ms, es⟩ (b1, b2) kk = false from fun q => ⟨by unfold bidR; rw [if_neg q], by unfold bidRB; rw [decide_eq_false q]; rfl⟩)
  have HRE2 := Lib.hid (show bidMay ⟨co, fo, ho, ms, es⟩ (b1, b2) kk → bidR ⟨co, fo, ho, ms, es⟩ (b1, b2) kk = ⟨co, fo, ho, ms, es.set kk (bidE (es.getD kk zeroE) (b1, b2))⟩ ∧ bidRB ⟨co, fo, ho, ms, es⟩ (b1, b2) kk = (bidOf (es.getD kk zeroE).bs b1).isNone from fun q => ⟨by unfold bidR; rw [if_pos q], by unfold bidRB; rw [decide_eq_true q]; rfl⟩)
  have HMAY := Lib.hid (show bidMay ⟨co, fo, ho, ms, es⟩ (b1, b2) kk ↔ (kk < n ∧ (es.getD kk zeroE).aw = -1 ∧ b1 ∈ ms ∧ 0 ≤ b2 ∧ b2 ≤ 1048576) by unfold bidMay; rw [HN.out])
  generalize bidR ⟨co, fo, ho, ms, es⟩ (b1, b2) kk = RR at HRE1 HRE2 ⊢
  generalize bidRB ⟨co, fo, ho, ms, es⟩ (b1, b2) kk = RBo at HRE1 HRE2 ⊢
  clear hkk
  have CR := Lib.hid (fun W (hW : Fr w W []) => clone_any ⟨co, fo, ho, ms, es⟩ _ _ W (HMV.out.keep hW) (HEV.out.keep hW) HML.out HEL.out HBL.out)
  obtain ⟨g, hg⟩ : ∃ g, g = w.heap.size := ⟨_, rfl⟩
  have HG := Lib.hid hg
  have H4 := Lib.hid (four_boxes w (.cells #[.int .i64 co, .int .i64 fo, .int .i64 ho, .slice am m cm, .slice ae n ce] 27) (.cells #[.int .i64 b1, .int .i64 b2] 42) (.cells #[.int .i64 f, .int .i64 d] 35) (.cells #[.int .i64 0, .int .i64 0, .int .i64 0, .slice none 0 0, .slice none 0 0] 27))
  go_enter Try.func14, Try.ntmps14
  go_upto_region 1 with fail
  generalize (((w.alloc _).alloc _).alloc _).alloc _ = V at H4 ⊢
  rw [← hg] at H4 ⊢
  clear hg
  have HF2 := Lib.hid H4.out.1
  have HTW := Lib.hid (And.intro H4.out.2.2.1 H4.out.2.2.2.2.2)
  obtain ⟨y0, y1, y2, y3, y4⟩ := row5 HTW.out.1
  have CR1 := Lib.hid (CR.out V HF2.out)
  unfold rgV at CR1
  dsimp only at CR1
  clear CR
  go_wp2_with fail
  with_reducible refine (CR1.out).mono ?_
  rintro e w1 ⟨u, rfl, hcr⟩
  obtain ⟨va, vc, ua, uc, xs, hu, hxs, ⟨x0, x1, x2, x3, x4⟩, ⟨f0, f1, f2, f3, f4⟩, hrb, hfv⟩ := RB.of_clone hcr HF2.out (Nat.le_of_eq HG.out.symm) HTW.out.1
  dsimp only at hu hxs hrb hfv
  rw [← HN.out, ← HM.out] at hu hrb hfv
  subst hu
  have HRB := Lib.hid hrb
  have HFV := Lib.hid hfv
  have HXS := Lib.hid hxs
  have HZ := Lib.hid (hfv.heap HTW.out.2 (by intro hm; have := List.mem_singleton.1 hm; omega))
  clear hcr hrb hfv hxs CR1
  unfold rgV
  dsimp only
  go_upto_region 2 with fail
  clear y0 y1 y2 y3 y4 x0 x1 x2 x3 x4 f0 f1 f2 f3 f4
  generalize World.setCell (World.setCell (World.setCell (World.setCell (World.setCell w1 _ _) _ _) _ _) _ _) _ _ = w2 at HRB HFV HZ ⊢
  have HBB := Lib.hid (HFV.out.heap H4.out.2.2.2.1 (by intro hm; have := List.mem_singleton.1 hm; omega))
  have HCB := Lib.hid (HFV.out.heap H4.out.2.2.2.2.1 (by intro hm; have := List.mem_singleton.1 hm; omega))
  have FI := Lib.hid (find_any (.slice ua n uc) es f d w2 (HXS.out ▸ HRB.out.oe.he) (by have := HEL.out; omega))
  obtain ⟨q0, q1, q2, q3, q4⟩ := row5 HRB.out.row
  obtain ⟨c0, c1⟩ := brow HCB.out
  go_wp2_with fail
  with_reducible refine (FI.out).mono ?_
  rintro e w3 ⟨z, rfl, hz, hf⟩
  have HRB3 := Lib.hid (HRB.out.fr hf)
  have HZ3 := Lib.hid (hf.heap HZ.out (by simp))
  have HBB3 := Lib.hid (hf.heap HBB.out (by simp))
  have HZI := Lib.hid (HPI.out z hz)
  clear hf hz FI HRB HZ HBB HCB HFV HPI q0 q1 q2 q3 q4 c0 c1
  have HRB := HRB3
  have HBB := HBB3
  clear HRB3 HBB3
  have hxl : xs.length = n := by
    have := congrArg List.length HXS.out
    rw [List.length_map] at this
    rw [this]; exact HN.out.symm
  have HXL := Lib.hid hxl
  clear hxl
  obtain ⟨mb, hmb⟩ : ∃ mb, mb = decide (bidMay ⟨co, fo, ho, ms, es⟩ (b1, b2) kk) := ⟨_, rfl⟩
  have HMB := Lib.hid hmb
  clear hmb
  obtain ⟨q0, q1, q2, q3, q4⟩ := row5 HRB.out.row
  obtain ⟨b0, b3⟩ := brow HBB.out
  go_upto_region 3 with fail
  go_cut [33] (fun s33 wx => s33 = .bool (!mb) ∧ Hid (Fr w3 wx []))
  case first =>
    rcases HZI.out with ⟨rfl, hk⟩ | ⟨rfl, hk⟩
    · have q : mb = false := by rw [HMB.out]; exact decide_eq_false (fun q => hk (HMAY.out.1 q).1)
      go_wp2_with fail
      go_meet
      exact ⟨by rw [q]; rfl, Lib.hid (Fr.refl _ _)⟩
    · obtain ⟨⟨e, vb⟩, hxk⟩ : ∃ x, xs[kk]? = some x := ⟨_, List.getElem?_eq_getElem (by have := HXL.out; omega)⟩
      obtain ⟨b, ce, hve, hnc, hcm, _⟩ := row_head HRB.out.oe.1 (by have := HXL.out; omega)
      simp only [Value.slice.injEq] at hve
      obtain ⟨rfl, hq, rfl⟩ := hve
      clear hq
      have hek : es.getD kk zeroE = e := by rw [← HXS.out, List.getD_eq_getElem?_getD, List.getElem?_map, hxk]; rfl
      have HMAY2 := HMAY.out
      rw [hek] at HMAY2
      obtain ⟨⟨d0, d1, d2, d3, d4⟩, _⟩ := HRB.out.oe.cells5 kk _ hxk
      obtain ⟨zb, zc, hvb⟩ := (HRB.out.oe.2 _ (List.mem_of_getElem? hxk)).shape
      dsimp only at hvb d0 d1 d2 d3 d4
      subst hvb
      obtain ⟨iw, hiw⟩ : ∃ b, b = decide (e.aw ≠ -1) := ⟨_, rfl⟩
      have IA := Lib.hid (isAwarded_any e (.slice zb e.bs.length zc) w3 ⟨_, _, _, rfl⟩ iw hiw)
      obtain ⟨e0, e1, e2, el, e4⟩ := e
      unfold enV at IA
      dsimp only at IA HMAY2 hiw d0 d1 d2 d3 d4
      have HMY := Lib.hid HMAY2
      have HIW := Lib.hid hiw
      have hxn : kk < xs.length := by have := HXL.out; omega
      clear HMAY2 hek hxk hiw hnc hcm
      cases iw with
      | true =>
        have q : mb = false := by rw [HMB.out]; exact decide_eq_false (fun q => (of_decide_eq_true HIW.out.symm) (HMY.out.1 q).2.1)
        go_wp2_with fail
        with_reducible refine (IA.out).mono ?_
        rintro e w4 ⟨rfl, hf⟩
        have HF := Lib.hid hf
        clear hf IA
        go_wp2_with fail
        go_meet
        exact ⟨by rw [q]; rfl, HF⟩
      | false =>
        have h4 : e4 = -1 := by have := of_decide_eq_false HIW.out.symm; simpa using this
        have MY := Lib.hid (fun W (hW : Fr w3 W []) => may_any (.slice va m vc) ms b1 b2 W ((HRB.out.oi.keep hW).holds) mb (by
          rw [HMB.out]
          exact decide_eq_decide.2 ⟨fun q => (HMY.out.1 q).2.2, fun q => HMY.out.2 ⟨hk, h4, q⟩⟩))
        clear h4 HIW HMY
        go_wp2_with fail
        with_reducible refine (IA.out).mono ?_
        rintro e w4 ⟨rfl, hf⟩
        have HF := Lib.hid hf
        have MY4 := Lib.hid (MY.out w4 hf)
        have q0 := hf.cell q0 (by simp)
        have q1 := hf.cell q1 (by simp)
        have q2 := hf.cell q2 (by simp)
        have q3 := hf.cell q3 (by simp)
        have b0 := hf.cell b0 (by simp)
        have b3 := hf.cell b3 (by simp)
        clear hf IA MY
        go_wp2_with fail
        with_reducible refine (MY4.out).mono ?_
        rintro e w5 ⟨rfl, hf⟩
        have HF5 := Lib.hid (HF.out.trans hf)
        clear hf MY4 HF
        go_wp2_with fail
        go_meet
        exact ⟨rfl, HF5⟩
  case rest =>
    obtain ⟨rfl, HF⟩ := hcut
    have HRBc := Lib.hid (HRB.out.fr HF.out)
    have HZc := Lib.hid (HF.out.heap HZ3.out (by simp))
    have HBc := Lib.hid (HF.out.heap HBB.out (by simp))
    clear HRB HZ3 HBB q0 q1 q2 q3 q4 b0 b3 HF
    obtain ⟨w6, rfl⟩ : ∃ W, W = wc := ⟨_, rfl⟩
    cases mb with
    | false =>
      have HPE := Lib.hid (HRE1.out (of_decide_eq_false HMB.out.symm))
      clear HRE1 HRE2 HMAY HMB HZI
      have HRB := HRBc
      have HZ := HZc
      clear HRBc HZc HBc
      obtain ⟨q0, q1, q2, q3, q4⟩ := row5 HRB.out.row
      obtain ⟨z0, z1, z2, z3, z4⟩ := row5 HZ.out
      obtain ⟨f0, f1, f2, f3, f4⟩ := fz5 HZ.out
      obtain ⟨⟨e0, e1, e2, e3, e4⟩, HENDa⟩ := HRB.out.give HZ.out (by have := HG.out; omega)
      have HEND := Lib.hid HENDa
      clear HENDa HZ HRB
      go_wp2
      generalize World.setCell (World.setCell (World.setCell (World.setCell (World.setCell w6 _ _) _ _) _ _) _ _) _ _ = WE at e0 e1 e2 e3 e4 HEND ⊢
      exact bodyPost_ret (v := .tuple #[.agg #[.int .i64 co, .int .i64 fo, .int .i64 ho, .slice va m vc, .slice ua n uc], .bool false]) (by simp [results, Try.results14, go_sem, e0, e1, e2, e3, e4]) rfl (gives (by rw [HPE.out.1, HPE.out.2]; exact ⟨_, rfl, ⟨_, _, rfl, HEND.out.1, HXS.out ▸ HEND.out.2.1⟩, HEND.out.2.2⟩))
    | true =>
      have hmay := of_decide_eq_true HMB.out.symm
      have HPE := Lib.hid (HRE2.out hmay)
      have hk : kk < n := (HMAY.out.1 hmay).1
      have hz : z = (kk : Int) := by
        rcases HZI.out with ⟨_, q⟩ | ⟨q, _⟩
        · exact absurd hk q
        · exact q
      subst hz
      clear HRE1 HRE2 HMAY HMB HZI hmay
      obtain ⟨⟨e, vb⟩, hxk⟩ : ∃ x, xs[kk]? = some x := ⟨_, List.getElem?_eq_getElem (by have := HXL.out; omega)⟩
      obtain ⟨b, ce, hve, hnc, hcm, _⟩ := row_head HRBc.out.oe.1 (by have := HXL.out; omega)
      simp only [Value.slice.injEq] at hve
      obtain ⟨rfl, hq, rfl⟩ := hve
      clear hq
      have hek : es.getD kk zeroE = e := by rw [← HXS.out, List.getD_eq_getElem?_getD, List.getElem?_map, hxk]; rfl
      rw [hek] at HPE
      have HOB := Lib.hid (show OwnB w6 w.heap.size vb e.bs from HRBc.out.oe.2 (e, vb) (List.mem_of_getElem? hxk))
      have HBLe := Lib.hid (HBL.out e (by rw [← HXS.out]; exact List.mem_map.2 ⟨(e, vb), List.mem_of_getElem? hxk, rfl⟩))
      obtain ⟨⟨d0, d1, d2, d3, d4⟩, g0, g1, g2, g3, g4⟩ := HRBc.out.oe.cells5 kk _ hxk
      obtain ⟨zb, zc, hvb⟩ := HOB.out.shape
      dsimp only at hvb d0 d1 d2 d3 d4
      subst hvb
      obtain ⟨e0, e1, e2, el, e4⟩ := e
      dsimp only at d0 d1 d2 d3 d4 HOB HBLe HPE
      have HXK := Lib.hid hxk
      have HFZ := Lib.hid g3
      have HD3 := Lib.hid d3
      have HPB := Lib.hid HPE.out.2
      have PU := Lib.hid (fun W (hW : Fr w6 W []) => bput_own (.slice zb el.length zc) el (b1, b2) W ((HOB.out.keep hW).holds) HBLe.out RBo HPB.out)
      dsimp only [bidV] at PU
      have HSE : Hid (∀ W, Fr w6 W [] → SBd w6 g (g + 1) b kk co fo ho (.slice va m vc) (.slice (some ⟨b, 0, none⟩) n uc) (b1, b2) (.slice zb el.length zc) W) :=
        Lib.hid (fun W hW => ⟨hW, HRBc.out.c5.fr hW (by simp), ⟨hW.cell (brow HBc.out).1 (by simp), hW.cell (brow HBc.out).2 (by simp)⟩, hW.cell HD3.out (by simp)⟩)
      clear hxk hek hnc hcm g0 g1 g2 g3 g4 d0 d1 d2 d4 HPB
      go_upto_region 5 with fail
      go_cut [9, 10] (fun s9 s10 wx => s10 = .bool RBo ∧ Hid (OwnB wx w6.heap.size s9 (putB el (b1, b2))) ∧ Hid (Fr w6 wx []))
      case first =>
        refine wp_region_noPanic ?_
        refine wp_region_held_drew (S := (SBd w6 g (g + 1) b kk co fo ho (.slice va m vc) (.slice (some ⟨b, 0, none⟩) n uc) (b1, b2) (.slice zb el.length zc))) (by kernel_rfl) (HSE.out _ (Fr.drew w6 [])) (fun hHeld => ?_)
        refine wpAnyH_take (i := 0) (oi := _) (v := ?fv0h1n2) (by simp only [List.getElem?_toArray, List.getElem?_cons_zero]; rfl) (by kernel_rfl) (by kernel_rfl) (by kernel_rfl) (fun _ _ _ h => h) (Or.inl ⟨by rfl, ?fy0h1n2⟩) (by assumption) ?fr0h1n2
        case fy0h1n2 => (intro w hSw; (try dsimp only [SBd, C5] at hSw); go_simp; try with_reducible rfl)
        try simp only [Act.put, List.setIfInBounds_toArray, List.set_cons_zero, List.set_cons_succ]
        refine wpAnyH_take (i := 1) (oi := _) (v := ?fv1h1n2) (by simp only [List.getElem?_toArray, List.getElem?_cons_zero, List.getElem?_cons_succ]; rfl) (by kernel_rfl) (by kernel_rfl) (by kernel_rfl) (fun _ _ _ h => h) (Or.inl ⟨by rfl, ?fy1h1n2⟩) (by assumption) ?fr1h1n2
        case fy1h1n2 => (intro w hSw; (try dsimp only [SBd, C5] at hSw); go_simp; try with_reducible rfl)
        try simp only [Act.put, List.setIfInBounds_toArray, List.set_cons_zero, List.set_cons_succ]
        refine wpAnyH_take (i := 2) (oi := _) (v := ?fv2h1n2) (by simp only [List.getElem?_toArray, List.getElem?_cons_zero, List.getElem?_cons_succ]; rfl) (by kernel_rfl) (by kernel_rfl) (by kernel_rfl) (fun _ _ _ h => h) (Or.inl ⟨by rfl, ?fy2h1n2⟩) (by assumption) ?fr2h1n2
        case fy2h1n2 => (intro w hSw; (try dsimp only [SBd, C5] at hSw); go_simp; try with_reducible rfl)
        try simp only [Act.put, List.setIfInBounds_toArray, List.set_cons_zero, List.set_cons_succ]
        refine wpAnyH_take (i := 3) (oi := _) (v := ?fv3h1n2) (by simp only [List.getElem?_toArray, List.getElem?_cons_zero, List.getElem?_cons_succ]; rfl) (by kernel_rfl) (by kernel_rfl) (by kernel_rfl) (fun _ _ _ h => h) (Or.inl ⟨by rfl, ?fy3h1n2⟩) (by assumption) ?fr3h1n2
        case fy3h1n2 => (intro w hSw; (try dsimp only [SBd, C5] at hSw); go_simp; try with_reducible rfl)
        try simp only [Act.put, List.setIfInBounds_toArray, List.set_cons_zero, List.set_cons_succ]
        refine wpAnyH_take (i := 4) (oi := _) (v := ?fv4h1n2) (by simp only [List.getElem?_toArray, List.getElem?_cons_zero, List.getElem?_cons_succ]; rfl) (by kernel_rfl) (by kernel_rfl) (by kernel_rfl) (fun _ _ _ h => h) (Or.inl ⟨by rfl, ?fy4h1n2⟩) (by assumption) ?fr4h1n2
        case fy4h1n2 => (intro w hSw; (try dsimp only [SBd, C5] at hSw); go_simp; try with_reducible rfl)
        try simp only [Act.put, List.setIfInBounds_toArray, List.set_cons_zero, List.set_cons_succ]
        refine wpAnyH_take (i := 5) (oi := _) (v := ?fv5h1n2) (by simp only [List.getElem?_toArray, List.getElem?_cons_zero, List.getElem?_cons_succ]; rfl) (by kernel_rfl) (by kernel_rfl) (by kernel_rfl) (fun _ _ _ h => h) (Or.inl ⟨by rfl, ?fy5h1n2⟩) (by assumption) ?fr5h1n2
        case fy5h1n2 => (intro w hSw; (try dsimp only [SBd, C5] at hSw); go_simp; try with_reducible rfl)
        try simp only [Act.put, List.setIfInBounds_toArray, List.set_cons_zero, List.set_cons_succ]
        refine wpAnyH_take (i := 6) (oi := _) (v := ?fv6h1n2) (by simp only [List.getElem?_toArray, List.getElem?_cons_zero, List.getElem?_cons_succ]; rfl) (by kernel_rfl) (by kernel_rfl) (by kernel_rfl) (fun _ _ _ h => h) (Or.inl ⟨by rfl, ?fy6h1n2⟩) (by assumption) ?fr6h1n2
        case fy6h1n2 => (intro w hSw; (try dsimp only [SBd, C5] at hSw); go_simp; try with_reducible rfl)
        try simp only [Act.put, List.setIfInBounds_toArray, List.set_cons_zero, List.set_cons_succ]
        refine wpAnyH_ready (rs := [7]) (by kernel_rfl) (by simp) ?_
        refine AllReadyH.cons (o := _) rfl (fun K hK => ?_) AllReadyH.nil
        go_simp
        ((with_reducible refine (PU.out _ (Fr.drew w6 [])).mono ?_); rintro e w7 ⟨u, rfl, ho1, hf⟩; have hS := HSE.out _ ((Fr.drew w6 []).trans hf); have HO := Lib.hid ho1; have HF := Lib.hid ((Fr.drew w6 []).trans hf); clear ho1 hf)
        go_wp2_with fail
        refine hK.out _ _ hS (fun hHeld => ?_)
        clear hK K
        try simp only [Act.put, List.setIfInBounds_toArray, List.set_cons_zero, List.set_cons_succ]
        refine wpAnyH_take (i := 8) (oi := _) (v := ?fv8h1n3) (by simp only [List.getElem?_toArray, List.getElem?_cons_zero, List.getElem?_cons_succ]; rfl) (by kernel_rfl) (by kernel_rfl) (by kernel_rfl) (fun _ _ _ h => h) (Or.inl ⟨by rfl, ?fy8h1n3⟩) (by assumption) ?fr8h1n3
        case fy8h1n3 => (intro w hSw; (try dsimp only [SBd, C5] at hSw); go_simp; try with_reducible rfl)
        try simp only [Act.put, List.setIfInBounds_toArray, List.set_cons_zero, List.set_cons_succ]
        refine wpAnyH_take (i := 9) (oi := _) (v := ?fv9h1n3) (by simp only [List.getElem?_toArray, List.getElem?_cons_zero, List.getElem?_cons_succ]; rfl) (by kernel_rfl) (by kernel_rfl) (by kernel_rfl) (fun _ _ _ h => h) (Or.inl ⟨by rfl, ?fy9h1n3⟩) (by assumption) ?fr9h1n3
        case fy9h1n3 => (intro w hSw; (try dsimp only [SBd, C5] at hSw); go_simp; try with_reducible rfl)
        try simp only [Act.put, List.setIfInBounds_toArray, List.set_cons_zero, List.set_cons_succ]
        refine wpAnyH_take (i := 10) (oi := _) (v := ?fv10h1n3) (by simp only [List.getElem?_toArray, List.getElem?_cons_zero, List.getElem?_cons_succ]; rfl) (by kernel_rfl) (by kernel_rfl) (by kernel_rfl) (fun _ _ _ h => h) (Or.inl ⟨by rfl, ?fy10h1n3⟩) (by assumption) ?fr10h1n3
        case fy10h1n3 => (intro w hSw; (try dsimp only [SBd, C5] at hSw); go_simp; try with_reducible rfl)
        try simp only [Act.put, List.setIfInBounds_toArray, List.set_cons_zero, List.set_cons_succ]
        refine wpAnyH_take (i := 11) (oi := _) (v := ?fv11h1n3) (by simp only [List.getElem?_toArray, List.getElem?_cons_zero, List.getElem?_cons_succ]; rfl) (by kernel_rfl) (by kernel_rfl) (by kernel_rfl) (fun _ _ _ h => h) (Or.inl ⟨by rfl, ?fy11h1n3⟩) (by assumption) ?fr11h1n3
        case fy11h1n3 => (intro w hSw; (try dsimp only [SBd, C5] at hSw); go_simp; try with_reducible rfl)
        try simp only [Act.put, List.setIfInBounds_toArray, List.set_cons_zero, List.set_cons_succ]
        refine wpAnyH_take (i := 12) (oi := _) (v := ?fv12h1n3) (by simp only [List.getElem?_toArray, List.getElem?_cons_zero, List.getElem?_cons_succ]; rfl) (by kernel_rfl) (by kernel_rfl) (by kernel_rfl) (fun _ _ _ h => h) (Or.inl ⟨by rfl, ?fy12h1n3⟩) (by assumption) ?fr12h1n3
        case fy12h1n3 => (intro w hSw; (try dsimp only [SBd, C5] at hSw); go_simp; try with_reducible rfl)
        try simp only [Act.put, List.setIfInBounds_toArray, List.set_cons_zero, List.set_cons_succ]
        refine wpAnyH_done (by kernel_rfl) ?_ _
        refine NoPanic.normal ?_
        clear hHeld hS
        go_wp2_with fail
        go_meet
        exact ⟨rfl, HO, HF⟩
      case rest =>
        obtain ⟨rfl, HO, HF⟩ := hcut
        obtain ⟨ya, yc, rfl⟩ := HO.out.shape
        have HRBd := Lib.hid (HRBc.out.fr HF.out)
        have HZd := Lib.hid (HF.out.heap HZc.out (by simp))
        have HRBn := Lib.hid (HRBd.out.setE kk _ ((bidE ⟨e0, e1, e2, el, e4⟩ (b1, b2)), .slice ya (putB el (b1, b2)).length yc) HXK.out 3 (.slice ya (putB el (b1, b2)).length yc) (by decide) rfl (row_mono HO.out HRBc.out.f.size))
        have hbg : b ≠ g + 1 + 1 + 1 := by
          rintro rfl
          exact row_ne HRBd.out.oe.1 HZd.out (by decide) rfl
        have HZn := Lib.hid ((Fr.setCell wc b (kk * 5 + 3) (.slice ya (putB el (b1, b2)).length yc) (S := [b]) (by simp)).heap HZd.out (by intro hm; exact hbg (List.mem_singleton.1 hm).symm))
        have HXSn : Hid ((xs.set kk ((bidE ⟨e0, e1, e2, el, e4⟩ (b1, b2)), .slice ya (putB el (b1, b2)).length yc)).map (·.1) = es.set kk (bidE ⟨e0, e1, e2, el, e4⟩ (b1, b2))) := Lib.hid (by rw [List.map_set, HXS.out])
        have d3 := HF.out.cell HD3.out (by simp)
        obtain ⟨_, f0, f1, f2, f3, f4⟩ := HRBd.out.oe.cells5 kk _ HXK.out
        obtain ⟨q0, q1, q2, q3, q4⟩ := row5 HRBd.out.row
        clear HO PU HSE HRBd HRBc HZc HZd HBc HOB hbg f0 f1 f2 f4 HF
        go_upto_region 7 with fail
        generalize World.setCell wc _ _ = w8 at HRBn HZn ⊢
        clear d3 f3 q0 q1 q2 q3 q4
        have HRB := HRBn
        have HZ := HZn
        clear HRBn HZn
        obtain ⟨q0, q1, q2, q3, q4⟩ := row5 HRB.out.row
        obtain ⟨z0, z1, z2, z3, z4⟩ := row5 HZ.out
        obtain ⟨f0, f1, f2, f3, f4⟩ := fz5 HZ.out
        obtain ⟨⟨e0, e1, e2, e3, e4⟩, HENDa⟩ := HRB.out.give HZ.out (by have := HG.out; omega)
        have HEND := Lib.hid HENDa
        clear HENDa HZ HRB
        go_wp2
        generalize World.setCell (World.setCell (World.setCell (World.setCell (World.setCell w8 _ _) _ _) _ _) _ _) _ _ = WE at e0 e1 e2 e3 e4 HEND ⊢
        exact bodyPost_ret (v := .tuple #[.agg #[.int .i64 co, .int .i64 fo, .int .i64 ho, .slice va m vc, .slice (some ⟨b, 0, none⟩) n uc], .bool RBo]) (by simp [results, Try.results14, go_sem, e0, e1, e2, e3, e4]) rfl (gives (by rw [HPE.out.1]; exact ⟨_, rfl, ⟨_, _, rfl, HEND.out.1, HXSn.out ▸ HEND.out.2.1⟩, HEND.out.2.2⟩))
end Go.Proofs.Ytldheaamcnmlgaa
