/- Package ledger: what a car wants, told as the call's own. -/
import Derived.Test.YtldheaamcnmlgaaGLg
namespace Go.Proofs.Ytldheaamcnmlgaa
open Go.RowKit Fm

/-- What Wants answers, of the call's own. -/
def WantsO (l : List (Int × Int)) (w : World) (u : Value) (w' : World) : Prop := OwnCl w' w.heap.size u l ∧ Fr w w' []
set_option maxHeartbeats 4000000 in
set_option maxRecDepth 100000 in
theorem wants_al (r : Rg) (vm ve : Value) (car : Int) (w : World) (hm : HInts w vm r.ms) (he : HE w ve r.es) (hml : r.ms.length ≤ 1000) (hel : r.es.length ≤ 1000) (hbl : ∀ e ∈ r.es, e.bs.length ≤ 1000) :
    Calls Try.prog 11 #[rgV r vm ve, .int .i64 car] w (Gives (WantsO (wantsR r car) w)) := by
  obtain ⟨i0, hi0, hz0, hz1, hz2⟩ := info_parts infoCl
  obtain ⟨co, fo, ho, ms, es⟩ := r
  dsimp only at hm he hml hel hbl
  have HMV := Lib.hid hm
  have HEV := Lib.hid he
  obtain ⟨am, cm, rfl, pm, qm, rm⟩ := hm
  obtain ⟨ae, ce, rfl, pe, qe, re⟩ := he
  unfold maxLen at qm qe
  have HBL := Lib.hid hbl
  have HEL := Lib.hid hel
  have HML := Lib.hid hml
  have HLS := Lib.hid re
  obtain ⟨n, hn⟩ : ∃ n, n = es.length := ⟨_, rfl⟩
  have HN := Lib.hid hn
  obtain ⟨m, hmm⟩ : ∃ m, m = ms.length := ⟨_, rfl⟩
  have HM := Lib.hid hmm
  rw [← hn] at hel pe HLS HEV
  rw [← hmm] at hml pm HMV
  unfold rgV
  dsimp only
  rw [← hn, ← hmm]
  clear rm re hbl hn hmm
  have HC1 := Lib.hid (show C5 w.heap.size (.int .i64 co) (.int .i64 fo) (.int .i64 ho) (.slice am m cm) (.slice ae n ce) _ from row5 (heap_alloc_new w (.cells #[.int .i64 co, .int .i64 fo, .int .i64 ho, .slice am m cm, .slice ae n ce] 27)))
  have HF1 := Lib.hid (Fr.alloc w (.cells #[.int .i64 co, .int .i64 fo, .int .i64 ho, .slice am m cm, .slice ae n ce] 27) [])
  obtain ⟨inm, him⟩ : ∃ b, b = decide (car ∈ ms) := ⟨_, rfl⟩
  have HAS := Lib.hid (has_any (.slice am m cm) ms car (w.alloc (.cells #[.int .i64 co, .int .i64 fo, .int .i64 ho, .slice am m cm, .slice ae n ce] 27)) (HMV.out.keep HF1.out) inm him)
  have HWR := Lib.hid (show wantsR ⟨co, fo, ho, ms, es⟩ car = if inm = true then (es.filter (wantE car)).map callOf else [] by unfold wantsR; rw [him]; simp)
  generalize wantsR ⟨co, fo, ho, ms, es⟩ car = RES at HWR ⊢
  clear him
  go_enter Try.func11, Try.ntmps11
  go_upto_region 1 with fail
  generalize w.alloc _ = V at HC1 HF1 HAS ⊢
  obtain ⟨y0, y1, y2, y3, y4⟩ := HC1.out
  cases inm with
  | false =>
    have HR : Hid (RES = []) := HWR.out
    clear HWR
    go_wp2_with fail
    with_reducible refine (HAS.out).mono ?_
    rintro e w2 ⟨rfl, rfl⟩
    clear HAS
    go_wp2
    go_ret
    exact gives ⟨by rw [HR.out]; exact OwnCl.nil _ _, HF1.out⟩
  | true =>
  go_wp2_with fail
  with_reducible refine (HAS.out).mono ?_
  rintro e w2 ⟨rfl, hw2⟩
  rw [hw2]
  clear HAS hw2
  go_wp2_with fail
  clear y0 y1 y2 y3 y4
  go_loopw [5, 18] (fun s5 s18 wx => ∃ (k : Nat), s18 = .int .i64 k ∧ Hid (k ≤ n) ∧ Hid (OwnCl wx V.heap.size s5 (((es.take k).filter (wantE car)).map callOf)) ∧ Hid (Fr V wx [])) (fun _ s18 _ => n - (intOf s18).toNat)
  case atStart => exact ⟨0, rfl, Lib.hid (Nat.zero_le _), Lib.hid (OwnCl.nil _ _), Lib.hid (Fr.refl _ _)⟩
  case round =>
    obtain ⟨k, rfl, HK, HO, HF⟩ := hrel
    have hk := HK.out
    by_cases hlt : k < n
    · have hltd : decide ((k : Int) < (n : Int)) = true := decide_eq_true (by omega)
      obtain ⟨bk, off, rfl, hc⟩ := HLS.out (by omega)
      obtain ⟨vb, x0, x1, x2, x3, x4, hb⟩ := hc k hlt
      obtain ⟨e, hee⟩ : ∃ e, e = es.getD k zeroE := ⟨_, rfl⟩
      rw [← hee] at x0 x1 x2 x4 hb
      have hmem : e ∈ es := by
        have hk' : k < es.length := by have := HN.out; omega
        rw [hee, List.getD_eq_getElem?_getD, List.getElem?_eq_getElem hk']
        exact List.getElem_mem hk'
      have HT := Lib.hid (show ((es.take (k + 1)).filter (wantE car)).map callOf = ((es.take k).filter (wantE car)).map callOf ++ (if wantE car e = true then [callOf e] else []) by rw [hee]; exact want_step es car k (by have := HN.out; omega))
      have hbl := HBL.out e hmem
      have HLN : Hid ((((es.take k).filter (wantE car)).map callOf).length ≤ 1000) := by
        show _ ≤ _
        rw [List.length_map]
        exact Nat.le_trans (List.length_filter_le _ _) (by rw [List.length_take]; have := HEL.out; omega)
      have HBV := Lib.hid hb
      obtain ⟨zb, zc, rfl⟩ := hb.shape
      obtain ⟨e0, e1, e2, el, e4⟩ := e
      dsimp only at x0 x1 x2 x3 x4 hb
      have t0 := (HF1.out.trans HF.out).cell x0 (by simp)
      have t1 := (HF1.out.trans HF.out).cell x1 (by simp)
      have t2 := (HF1.out.trans HF.out).cell x2 (by simp)
      have t3 := (HF1.out.trans HF.out).cell x3 (by simp)
      have t4 := (HF1.out.trans HF.out).cell x4 (by simp)
      have HP := Lib.hid (row5 (heap_alloc_new wr (.cells #[.int .i64 e0, .int .i64 e1, .int .i64 e2, .slice zb el.length zc, .int .i64 e4] 40)))
      have HFP := Lib.hid (HF.out.trans (Fr.alloc wr (.cells #[.int .i64 e0, .int .i64 e1, .int .i64 e2, .slice zb el.length zc, .int .i64 e4] 40) []))
      obtain ⟨y, hy⟩ := bidOf_some el car
      obtain ⟨has, hh⟩ : ∃ b, b = (bidOf el car).isSome := ⟨_, rfl⟩
      have OF := Lib.hid (fun W (hW : Fr w W []) => bof_any (.slice zb el.length zc) el car W (HBV.out.keep hW) (by have := hbl; dsimp only at this; omega) y has (hy.imp (fun h => ⟨h.1, by rw [hh, h.2]⟩) (fun h => ⟨h.1, h.2.1, by rw [hh, h.2.2]⟩)))
      have OF1 := Lib.hid (OF.out _ (HF1.out.trans HFP.out))
      obtain ⟨p0, p1, p2, p3, p4⟩ := HP.out
      obtain ⟨pp, hpp⟩ : ∃ pp, pp = wr.heap.size := ⟨_, rfl⟩
      have FA := Lib.hid (Fr.alloc wr (.cells #[.int .i64 e0, .int .i64 e1, .int .i64 e2, .slice zb el.length zc, .int .i64 e4] 40) [])
      replace hee := Lib.hid hee
      have HH := Lib.hid hh
      clear hh
      obtain ⟨ya, yb⟩ := y
      unfold bidV at OF1
      dsimp only at OF1
      clear hc hmem x0 x1 x2 x3 x4 hb HBV hbl OF hy
      go_wp2_with fail
      with_reducible refine (OF1.out).mono ?_
      rintro e w4 ⟨rfl, hf⟩
      have FB := Lib.hid (Fr.alloc w4 (.cells #[.int .i64 ya, .int .i64 yb] 42) [])
      have HF4 := Lib.hid ((HFP.out.trans hf).trans FB.out)
      have HOK : Hid (∀ u l, OwnCl wr V.heap.size u l → OwnCl (w4.alloc (.cells #[.int .i64 ya, .int .i64 yb] 42)) V.heap.size u l) := Lib.hid (fun u l h => h.keep ((FA.out.trans hf).trans FB.out))
      have HE4 := Lib.hid (C5.fr (S := []) (show C5 pp (.int .i64 e0) (.int .i64 e1) (.int .i64 e2) (.slice zb el.length zc) (.int .i64 e4) _ by rw [hpp]; exact HP.out) (hf.trans FB.out) (by simp))
      rw [← hpp]
      clear hf OF1 HP HFP FA FB p0 p1 p2 p3 p4 t0 t1 t2 t3 t4 hpp
      go_upto_region 8 with fail
      generalize World.alloc w4 _ = w5 at HF4 HOK HE4 ⊢
      obtain ⟨l0, l1, l2, l3, l4⟩ := HE4.out
      cases has with
      | true =>
        have HO5 : Hid (OwnCl w5 V.heap.size u5 (((es.take (k + 1)).filter (wantE car)).map callOf)) := Lib.hid (by
          rw [HT.out, if_neg (by unfold wantE; dsimp only; cases q : bidOf el car with
                                 | none => have hh := HH.out; rw [q] at hh; cases hh
                                 | some z => simp), List.append_nil]
          exact HOK.out _ _ HO.out)
        clear HT HO HOK HH
        go_wp2
        go_roundw
        case rel => exact ⟨k + 1, by go_num, Lib.hid (by omega), HO5, HF4⟩
        case measure => simp [intOf]; omega
      | false =>
        have hnone : (bidOf el car).isNone = true := by
          cases q : bidOf el car with
          | none => rfl
          | some z => have hh := HH.out; rw [q] at hh; cases hh
        obtain ⟨iw, hiw⟩ : ∃ b, b = decide (e4 ≠ -1) := ⟨_, rfl⟩
        have IA := Lib.hid (isAwarded_any ⟨e0, e1, e2, el, e4⟩ (.slice zb el.length zc) w5 ⟨_, _, _, rfl⟩ iw hiw)
        unfold enV at IA
        dsimp only at IA
        replace hiw := Lib.hid hiw
        clear HH
        cases iw with
        | true =>
          have h4 : e4 ≠ -1 := by simpa using hiw.out.symm
          have HO5 : Hid (OwnCl w5 V.heap.size u5 (((es.take (k + 1)).filter (wantE car)).map callOf)) := Lib.hid (by
            rw [HT.out, if_neg (by unfold wantE; dsimp only; simp [h4]), List.append_nil]
            exact HOK.out _ _ HO.out)
          clear HT HO HOK hiw h4 hnone
          go_wp2_with fail
          with_reducible refine (IA.out).mono ?_
          rintro e w6 ⟨rfl, hf⟩
          have HO6 := Lib.hid (HO5.out.keep hf)
          have HF6 := Lib.hid (HF4.out.trans hf)
          clear hf IA HO5 HF4
          go_wp2
          go_roundw
          case rel => exact ⟨k + 1, by go_num, Lib.hid (by omega), HO6, HF6⟩
          case measure => simp [intOf]; omega
        | false =>
          have h4 : e4 = -1 := by simpa using hiw.out.symm
          have HTT := Lib.hid (show ((es.take (k + 1)).filter (wantE car)).map callOf = ((es.take k).filter (wantE car)).map callOf ++ [(e0, e1)] by rw [HT.out, if_pos (by unfold wantE; dsimp only; rw [hnone, h4]; rfl)]; rfl)
          clear HT hiw h4 hnone
          go_wp2_with fail
          with_reducible refine (IA.out).mono ?_
          rintro e w6 ⟨rfl, hf⟩
          have HO6 := Lib.hid ((HOK.out _ _ HO.out).keep hf)
          have HF6 := Lib.hid (HF4.out.trans hf)
          have k0 := hf.cell l0 (by simp)
          have k1 := hf.cell l1 (by simp)
          clear hf IA HO HOK HF4 l0 l1 l2 l3 l4
          obtain ⟨M, hM⟩ : ∃ M, M = ((es.take k).filter (wantE car)).map callOf := ⟨_, rfl⟩
          rw [← hM] at HO6 HTT HLN
          obtain ⟨ua, uc, rfl⟩ := HO6.out.shape
          clear hM
          go_wp2_with (at_builtin; refine wpList_append_own _ rfl _ _ 31 rfl V.heap.size 35 i0 (.agg #[.int .i64 0, .int .i64 0]) 2 16 Try.underlying31 hi0 hz0 hz1 hz2 rfl (by decide) (.slice ua M.length uc) M.length (cdc M) rfl (World.ownsRow.alloc HO6.out _) ⟨w6.heap.size, 0, none⟩ 1 1 [.int .i64 e0, .int .i64 e1] rfl rfl (row_new2 _ _ _ _) (bid_one (e0, e1)) (by have := HLN.out; unfold maxLen; omega) (by have := HLN.out; omega) (by have := HF6.out.size; simp; omega) ?_; intro v' w3 hown3 hg3 _)
          have HF3 := Lib.hid ((HF6.out.trans (Fr.alloc _ (.cells #[.int .i64 e0, .int .i64 e1] 35) [])).grown_own hg3 (fun r hr => .inr (HO6.out.block r hr).1))
          have HO3 : Hid (OwnCl w3 V.heap.size v' (((es.take (k + 1)).filter (wantE car)).map callOf)) := by
            show OwnCl _ _ _ _
            rw [HTT.out]
            exact OwnCl.snoc hown3
          clear hown3 hg3
          go_wp2
          go_roundw
          case rel => exact ⟨k + 1, by go_num, Lib.hid (by omega), HO3, HF3⟩
          case measure => simp [intOf]; omega
    · have hltd : decide ((k : Int) < (n : Int)) = false := decide_eq_false (by omega)
      obtain rfl : k = n := by omega
      have HRE : Hid (OwnCl wr V.heap.size u5 RES) := by
        show OwnCl _ _ _ _
        rw [HWR.out]
        have h1 := HO.out
        rw [HN.out, List.take_length] at h1
        exact h1
      clear HWR HO
      go_wp2
      go_ret
      exact gives ⟨HRE.out.mono HF1.out.size, HF1.out.trans HF.out⟩
end Go.Proofs.Ytldheaamcnmlgaa
