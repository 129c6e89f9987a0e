/- Package ledger: awarded. -/
import Derived.Test.YtldheaamcnmlgaaLgC13
import Derived.Test.YtldheaamcnmlgaaGLf
namespace Go.Proofs.Ytldheaamcnmlgaa
open Go.RowKit Fm

/-- What winner answers. -/
def WinP (ms : List Int) (e : En) (w : World) (u : Value) (w' : World) : Prop := ∃ c, u = .tuple #[.int .i64 c, .bool (winE ms e)] ∧ (winE ms e = true → c = (leastB e.bs).1) ∧ Fr w w' []
set_option maxHeartbeats 4000000 in
set_option maxRecDepth 100000 in
theorem winner_any (vm : Value) (ms : List Int) (e : En) (vb : Value) (w : World) (hm : HInts w vm ms) (hb : HB w vb e.bs) (hml : ms.length ≤ 1000) (hbl : e.bs.length ≤ 1000) :
    Calls Try.prog 40 #[vm, enV e vb] w (Gives (WinP ms e w)) := by
  obtain ⟨zb, zc, rfl⟩ := hb.shape
  obtain ⟨wn, hwn⟩ : ∃ b, b = winE ms e := ⟨_, rfl⟩
  have HWN := Lib.hid hwn
  obtain ⟨fu, hfu⟩ : ∃ b, b = fullB ms e.bs := ⟨_, rfl⟩
  have FU := Lib.hid (fun W (hW : Fr w W []) => bfull_any vm ms (.slice zb e.bs.length zc) e.bs W (hm.keep hW) (hb.keep hW) hbl hml fu hfu)
  have HFU := Lib.hid hfu
  have HBV := Lib.hid hb
  obtain ⟨iw, hiw⟩ : ∃ b, b = decide (e.aw ≠ -1) := ⟨_, rfl⟩
  have HIW := Lib.hid hiw
  obtain ⟨a, c, rfl⟩ := hm.shape
  have HWE : Hid (wn = (decide (e.aw = -1) && fu && !e.bs.isEmpty)) := Lib.hid (by rw [hwn, hfu]; rfl)
  obtain ⟨e0, e1, e2, el, e4⟩ := e
  dsimp only at FU HBV HIW HWE hbl HFU
  have FA := Lib.hid (Fr.alloc w (.cells #[.int .i64 e0, .int .i64 e1, .int .i64 e2, .slice zb el.length zc, .int .i64 e4] 40) [])
  have IA := Lib.hid (isAwarded_any ⟨e0, e1, e2, el, e4⟩ (.slice zb el.length zc) (w.alloc (.cells #[.int .i64 e0, .int .i64 e1, .int .i64 e2, .slice zb el.length zc, .int .i64 e4] 40)) ⟨_, _, _, rfl⟩ iw hiw)
  obtain ⟨p0, p1, p2, p3, p4⟩ := row5 (heap_alloc_new w (.cells #[.int .i64 e0, .int .i64 e1, .int .i64 e2, .slice zb el.length zc, .int .i64 e4] 40))
  unfold enV at IA ⊢
  dsimp only at IA ⊢
  have HFIN : Hid (∀ c W, Fr w W [] → (wn = true → c = (leastB el).1) → WinP ms ⟨e0, e1, e2, el, e4⟩ w (.tuple #[.int .i64 c, .bool wn]) W) := Lib.hid (fun c W h1 h2 => ⟨c, by rw [HWN.out], fun q => h2 (by rw [HWN.out]; exact q), h1⟩)
  clear hm hb hfu hiw hwn HWN
  cases iw with
  | true =>
    have h4 : wn = false := by rw [HWE.out, decide_eq_false (of_decide_eq_true HIW.out.symm)]; rfl
    subst h4
    clear HIW HWE HFU FU HBV
    go_enter Try.func40, Try.ntmps40
    go_wp2_with fail
    with_reducible refine (IA.out).mono ?_
    rintro e w1 ⟨rfl, hf⟩
    have HF1 := Lib.hid (FA.out.trans hf)
    clear hf IA
    go_wp2
    go_ret2
    exact gives (HFIN.out 0 _ HF1.out (fun h => by cases h))
  | false =>
    have h4 : e4 = -1 := by have := of_decide_eq_false HIW.out.symm; simpa using this
    have HD : Hid (decide (e4 = -1) = true) := Lib.hid (decide_eq_true h4)
    clear HIW h4
    cases fu with
    | false =>
      have h5 : wn = false := by rw [HWE.out]; simp
      subst h5
      clear HWE HFU HBV
      go_enter Try.func40, Try.ntmps40
      go_wp2_with fail
      with_reducible refine (IA.out).mono ?_
      rintro e w1 ⟨rfl, hf⟩
      have HF1 := Lib.hid (FA.out.trans hf)
      have l3 := hf.cell p3 (by simp)
      have FU1 := Lib.hid (FU.out w1 HF1.out)
      clear hf IA FU
      go_wp2_with fail
      with_reducible refine (FU1.out).mono ?_
      rintro e w2 ⟨rfl, hf⟩
      have HF2 := Lib.hid (HF1.out.trans hf)
      clear hf FU1
      go_wp2
      go_ret2
      exact gives (HFIN.out 0 _ HF2.out (fun h => by cases h))
    | true =>
      have h5 : wn = !el.isEmpty := by rw [HWE.out, HD.out]; rfl
      obtain ⟨y, hy⟩ : ∃ y, y = leastB el := ⟨_, rfl⟩
      have HY := Lib.hid hy
      have LE : Hid (∀ W, Fr w W [] → Calls Try.prog 62 #[.slice zb el.length zc] W fun x w' => x = .returned (.tuple #[bidV y, .bool wn]) ∧ Fr W w' []) := Lib.hid (fun W hW => by
        by_cases hn : el = []
        · subst hn
          have e1 : y = (0, 0) := hy
          rw [e1, h5]
          exact bleast_none _ W (HBV.out.keep hW)
        · have e2 : wn = true := by
            rw [h5]
            cases el with
            | nil => exact absurd rfl hn
            | cons a b => rfl
          rw [e2, hy]
          exact bleast_some _ el _ W (HBV.out.keep hW) hbl (leastB_is hn))
      obtain ⟨ya, yb⟩ := y
      unfold bidV at LE
      dsimp only at LE
      clear hy h5 HWE HFU HBV
      go_enter Try.func40, Try.ntmps40
      go_wp2_with fail
      with_reducible refine (IA.out).mono ?_
      rintro e w1 ⟨rfl, hf⟩
      have HF1 := Lib.hid (FA.out.trans hf)
      have l3 := hf.cell p3 (by simp)
      have FU1 := Lib.hid (FU.out w1 HF1.out)
      clear hf IA FU
      go_wp2_with fail
      with_reducible refine (FU1.out).mono ?_
      rintro e w2 ⟨rfl, hf⟩
      have HF2 := Lib.hid (HF1.out.trans hf)
      have k3 := hf.cell l3 (by simp)
      have LE2 := Lib.hid (LE.out w2 HF2.out)
      clear hf FU1 LE p3
      go_wp2_with fail
      with_reducible refine (LE2.out).mono ?_
      rintro e w3 ⟨rfl, hf⟩
      have HF3 := Lib.hid ((HF2.out.trans hf).trans (Fr.alloc w3 (.cells #[.int .i64 ya, .int .i64 yb] 42) []))
      obtain ⟨m0, m1⟩ := brow (heap_alloc_new w3 (.cells #[.int .i64 ya, .int .i64 yb] 42))
      clear hf LE2
      go_wp2
      go_ret2
      exact gives (HFIN.out ya _ HF3.out (fun _ => by rw [← HY.out]))
/-- An entry stored anew. -/
theorem RB.put5 {V a : World} {g b n uc : Nat} {co fo ho : Int} {um : Value} {ms : List Int} {xs : List (En × Value)} (h : RB V g co fo ho um (.slice (some ⟨b, 0, none⟩) n uc) ms xs a) (k : Nat) (e : En) (vb : Value) (hy : OwnB a V.heap.size vb e.bs) :
    RB V g co fo ho um (.slice (some ⟨b, 0, none⟩) n uc) ms (xs.set k (e, vb)) (Go.Proofs.Ytldheaamcnmlgaa.put5 a b (k * 5) e vb) := by
  have h2 := put5_fr a b (k * 5) e vb
  obtain ⟨cs, hgr, hB, _⟩ := row_at h.oe.1
  have hne : b ≠ g := by
    rintro rfl
    exact row_ne h.oe.1 h.row (by decide) rfl
  exact ⟨h.f.new h2 (by intro r hr; obtain rfl := List.mem_singleton.1 hr; exact hB), h.hg, h2.heap h.row (by simpa using fun e => hne e.symm), h.oi.far h2 hgr (by decide), h.oe.put5 k e vb hy⟩
set_option maxHeartbeats 8000000 in
set_option maxRecDepth 100000 in
theorem award_any (r : Rg) (vm ve : Value) (w : World) (hm : HInts w vm r.ms) (he : HE w ve r.es) (hml : r.ms.length ≤ 1000) (hel : r.es.length ≤ 1000) (hbl : ∀ e ∈ r.es, e.bs.length ≤ 1000) :
    Calls Try.prog 18 #[rgV r vm ve] w (Gives (GAward r w)) := by
  obtain ⟨i0, hi0, hz0, hz1, hz2⟩ := info_parts infoE
  obtain ⟨co, fo, ho, ms, es⟩ := r
  dsimp only at hm he hml hel hbl
  have HMV := Lib.hid hm
  have HEV := Lib.hid he
  obtain ⟨am, cm, rfl, pm, qm, rm⟩ := hm
  obtain ⟨ae, ce, rfl, pe, qe, re⟩ := he
  unfold maxLen at qm qe
  have HBL := Lib.hid hbl
  have HEL := Lib.hid hel
  have HML := Lib.hid hml
  have HLS := Lib.hid re
  obtain ⟨n, hn⟩ : ∃ n, n = es.length := ⟨_, rfl⟩
  have HN := Lib.hid hn
  obtain ⟨m, hmm⟩ : ∃ m, m = ms.length := ⟨_, rfl⟩
  have HM := Lib.hid hmm
  rw [← hn] at hel pe HLS HEV
  rw [← hmm] at hml pm HMV
  unfold rgV
  dsimp only
  rw [← hn, ← hmm]
  clear rm re hbl hn hmm
  have CR := Lib.hid (fun W (hW : Fr w W []) => clone_any ⟨co, fo, ho, ms, es⟩ _ _ W (HMV.out.keep hW) (HEV.out.keep hW) HML.out HEL.out HBL.out)
  obtain ⟨g, hg⟩ : ∃ g, g = w.heap.size := ⟨_, rfl⟩
  have HG := Lib.hid hg
  have HTW := Lib.hid (two_boxes w (.cells #[.int .i64 co, .int .i64 fo, .int .i64 ho, .slice am m cm, .slice ae n ce] 27) (.cells #[.int .i64 0, .int .i64 0, .int .i64 0, .slice none 0 0, .slice none 0 0] 27))
  have HF2 := Lib.hid ((Fr.alloc w (.cells #[.int .i64 co, .int .i64 fo, .int .i64 ho, .slice am m cm, .slice ae n ce] 27) []).trans (Fr.alloc _ (.cells #[.int .i64 0, .int .i64 0, .int .i64 0, .slice none 0 0, .slice none 0 0] 27) []))
  go_enter Try.func18, Try.ntmps18
  go_upto_region 1 with fail
  generalize (w.alloc _).alloc _ = V at HTW HF2 ⊢
  rw [← hg] at HTW ⊢
  clear hg
  obtain ⟨y0, y1, y2, y3, y4⟩ := row5 HTW.out.1
  have CR1 := Lib.hid (CR.out V HF2.out)
  unfold rgV at CR1
  dsimp only at CR1
  clear CR
  go_wp2_with fail
  with_reducible refine (CR1.out).mono ?_
  rintro e w1 ⟨u, rfl, hcr⟩
  obtain ⟨va, vc, ua, uc, xs, hu, hxs, ⟨x0, x1, x2, x3, x4⟩, ⟨f0, f1, f2, f3, f4⟩, hrb, hfv⟩ := RB.of_clone hcr HF2.out (Nat.le_of_eq HG.out.symm) HTW.out.1
  dsimp only at hu hxs hrb hfv
  rw [← HN.out, ← HM.out] at hu hrb hfv
  subst hu
  have HRB := Lib.hid hrb
  have HFV := Lib.hid hfv
  have HXS := Lib.hid hxs
  have HZ := Lib.hid (hfv.heap HTW.out.2 (by intro hm; have := List.mem_singleton.1 hm; omega))
  clear hcr hrb hfv hxs CR1
  unfold rgV
  dsimp only
  go_upto_region 2 with fail
  clear y0 y1 y2 y3 y4 x0 x1 x2 x3 x4 f0 f1 f2 f3 f4
  generalize World.setCell (World.setCell (World.setCell (World.setCell (World.setCell w1 _ _) _ _) _ _) _ _) _ _ = w2 at HRB HFV HZ ⊢
  have hxl : xs.length = n := by
    have := congrArg List.length HXS.out
    rw [List.length_map] at this
    rw [this]; exact HN.out.symm
  have HLT0 := Lib.hid HRB.out.lt
  have HB2 := Lib.hid HRB.out.f.size
  have HX0 : Hid (xs.map (·.1) = awK es ms 0) := Lib.hid (by rw [HXS.out]; rfl)
  have hml2 : ms.length ≤ 1000 := HML.out
  have HM2 := Lib.hid hml2
  obtain ⟨q0, q1, q2, q3, q4⟩ := row5 HRB.out.row
  clear HXS hxl hml2 HFV
  go_wp2_with fail
  go_loopw [4, 14] (fun s4 s14 wx => ∃ (k : Nat) (xs ws : List (En × Value)), s14 = .int .i64 k ∧ Hid (k ≤ n) ∧ Hid (RB w g co fo ho (.slice va m vc) (.slice ua n uc) ms xs wx) ∧ Hid (RLt w2.heap.size g (.slice va m vc) (.slice ua n uc) xs) ∧ Hid (xs.map (·.1) = awK es ms k) ∧ Hid (OwnE wx w2.heap.size s4 ws ∧ ws.map (·.1) = wonK es ms k) ∧ Hid (w2.heap.size ≤ wx.heap.size) ∧ Hid (wx.heap[g + 1]? = some (.cells #[.int .i64 0, .int .i64 0, .int .i64 0, .slice none 0 0, .slice none 0 0] 27 (0, 0)))) (fun _ s14 _ => n - (intOf s14).toNat)
  case atStart => exact ⟨0, xs, [], rfl, Lib.hid (Nat.zero_le _), HRB, HLT0, HX0, Lib.hid ⟨OwnE.nil _ _, by simp [wonK]⟩, Lib.hid (Nat.le_refl _), HZ⟩
  case round =>
    clear HRB HLT0 HX0 HZ q0 q1 q2 q3 q4
    obtain ⟨k, xs, ws, rfl, HK, HRB, HLT, HX, HWS, HSW, HZ⟩ := hrel
    have hk := HK.out
    obtain ⟨ub, ud, rfl⟩ := HWS.out.1.shape
    by_cases hlt : k < n
    · obtain ⟨b, rfl, hbg, hbV, huc⟩ := HRB.out.rowE (by omega)
      have hke : k < es.length := by have := HN.out; omega
      obtain ⟨e, hee⟩ : ∃ e, e = es.getD k zeroE := ⟨_, rfl⟩
      obtain ⟨⟨e', vb⟩, hxk⟩ : ∃ x, xs[k]? = some x := by
        have h1 := awK_at es ms k hke
        rw [← HX.out, List.getElem?_map] at h1
        cases h2 : xs[k]? with
        | none => rw [h2] at h1; cases h1
        | some y => exact ⟨y, rfl⟩
      have hee2 : e' = e := by
        have h1 := awK_at es ms k hke
        rw [← HX.out, List.getElem?_map, hxk, ← hee] at h1
        exact Option.some.inj h1
      subst hee2
      have HXK := Lib.hid hxk
      have HS1 := Lib.hid (show awK es ms (k + 1) = (awK es ms k).set k (awardE ms e') from hee ▸ awK_step es ms k hke)
      have HS2 := Lib.hid (show winE ms e' = false → awK es ms (k + 1) = awK es ms k from fun q => awK_same es ms k hke (hee ▸ q))
      have HS3 := Lib.hid (show wonK es ms (k + 1) = wonK es ms k ++ (if winE ms e' = true then [awardE ms e'] else []) from hee ▸ wonK_step es ms k hke)
      obtain ⟨⟨d0, d1, d2, d3, d4⟩, _⟩ := HRB.out.oe.cells5 k (e', vb) hxk
      dsimp only at d0 d1 d2 d3 d4
      have HOB := Lib.hid (show OwnB wr w.heap.size vb e'.bs from HRB.out.oe.2 (e', vb) (List.mem_of_getElem? hxk))
      have HBLe := Lib.hid (HBL.out e' (by rw [hee, List.getD_eq_getElem?_getD, List.getElem?_eq_getElem hke]; exact List.getElem_mem hke))
      have HAE := Lib.hid (show winE ms e' = true → awardE ms e' = { e' with aw := (leastB e'.bs).1 } from fun q => by unfold awardE; rw [if_pos q])
      have HWI := Lib.hid (fun W (hW : Fr wr W []) vb' (hv : vb' = vb) => winner_any (.slice va m vc) ms e' vb' W ((HRB.out.oi.keep hW).holds) (hv ▸ (HOB.out.keep hW).holds) HM2.out HBLe.out)
      obtain ⟨zb, zc, hvb⟩ := HOB.out.shape
      obtain ⟨e0, e1, e2, el, e4⟩ := e'
      dsimp only at d0 d1 d2 d3 d4 HOB HBLe HAE hvb
      subst hvb
      have HSK : Hid (winE ms ⟨e0, e1, e2, el, e4⟩ = false → xs.map (·.1) = awK es ms (k + 1) ∧ ws.map (·.1) = wonK es ms (k + 1)) := Lib.hid (fun q => ⟨by rw [HS2.out q]; exact HX.out, by rw [HS3.out, q, HWS.out.2]; simp⟩)
      obtain ⟨p, hp⟩ : ∃ p, p = wr.heap.size := ⟨_, rfl⟩
      have FA := Lib.hid (Fr.alloc wr (.cells #[.int .i64 e0, .int .i64 e1, .int .i64 e2, .slice zb el.length zc, .int .i64 e4] 40) [])
      have HPR := Lib.hid (heap_alloc_new wr (.cells #[.int .i64 e0, .int .i64 e1, .int .i64 e2, .slice zb el.length zc, .int .i64 e4] 40))
      have WI1 := Lib.hid (HWI.out _ FA.out _ rfl)
      have HRBA := Lib.hid (HRB.out.fr FA.out)
      obtain ⟨q0, q1, q2, q3, q4⟩ := row5 HRBA.out.row
      obtain ⟨l0, l1, l2, l3, l4⟩ := row5 HPR.out
      have HPP := Lib.hid hp
      unfold enV at WI1
      dsimp only at WI1
      clear hee hke hxk HWI hp
      go_wp2_with fail
      with_reducible refine (WI1.out).mono ?_
      rintro e w4 ⟨uu, rfl, ⟨c, rfl, hcw, hf⟩⟩
      have HF4 := Lib.hid (FA.out.trans hf)
      have HP4 := Lib.hid (hf.heap HPR.out (by simp))
      rw [← HPP.out] at HP4 ⊢
      clear hf WI1 HRBA q0 q1 q2 q3 q4 l0 l1 l2 l3 l4 d0 d1 d2 d3 d4 HPR FA
      obtain ⟨wn, hwn⟩ : ∃ b, b = winE ms ⟨e0, e1, e2, el, e4⟩ := ⟨_, rfl⟩
      have HWN := Lib.hid hwn
      have HCW := Lib.hid hcw
      rw [← hwn]
      clear hwn hcw
      cases wn with
      | false =>
        have HN2 := HSK.out HWN.out.symm
        have HX2 := Lib.hid HN2.1
        have HW2 := Lib.hid HN2.2
        have HRB4 := Lib.hid (HRB.out.fr HF4.out)
        have HWS4 := Lib.hid (And.intro (HWS.out.1.keep HF4.out) HW2.out)
        have HSW4 := Lib.hid (Nat.le_trans HSW.out HF4.out.size)
        have HZ4 := Lib.hid (HF4.out.heap HZ.out (by simp))
        clear HN2 HS1 HS2 HS3 HAE HSK HX HCW HRB HWS HSW HZ
        go_wp2
        go_roundw
        case rel => exact ⟨k + 1, xs, ws, by go_num, Lib.hid (by omega), HRB4, HLT, HX2, HWS4, HSW4, HZ4⟩
        case measure => simp [intOf]; omega
      | true =>
        have hc := HCW.out HWN.out.symm
        have hAE := HAE.out HWN.out.symm
        dsimp only at hc hAE
        rw [← hc] at hAE
        have HAEe := Lib.hid hAE
        clear hc hAE HCW HAE
        obtain ⟨l0, l1, l2, l3, l4⟩ := row5 HP4.out
        obtain ⟨f0, f1, f2, f3, f4⟩ := fz5 HP4.out
        have hfs : Fr w4 (w4.setCell ⟨p, 4, none⟩ (.int .i64 c)) [p] := Fr.setCell w4 p 4 _ (by simp)
        have HP5 := Lib.hid (set5_4 HP4.out (.int .i64 c))
        have HF5 := Lib.hid (HF4.out.new hfs (by intro r hr; obtain rfl := List.mem_singleton.1 hr; exact Nat.le_of_eq HPP.out.symm))
        clear hfs HF4 HP4
        go_upto_region 9 with fail
        clear l0 l1 l2 l3 l4 f0 f1 f2 f3 f4
        generalize World.setCell w4 _ _ = w5 at HP5 HF5 ⊢
        have HRB5 := Lib.hid (HRB.out.fr HF5.out)
        have HWS5 := Lib.hid (HWS.out.1.keep HF5.out)
        have HSW5 := Lib.hid (Nat.le_trans HSW.out HF5.out.size)
        have HZ5 := Lib.hid (HF5.out.heap HZ.out (by simp))
        have HOB5 := Lib.hid (HOB.out.keep HF5.out)
        have HWSP := Lib.hid (show ws.map (·.1) = wonK es ms k from HWS.out.2)
        have HRB6 := Lib.hid (HRB5.out.put5 k ⟨e0, e1, e2, el, c⟩ (.slice zb el.length zc) HOB5.out)
        have hf6 := put5_fr w5 b (k * 5) ⟨e0, e1, e2, el, c⟩ (.slice zb el.length zc)
        have hbB : b < w2.heap.size := HLT.out.ve _ rfl
        have HWS6 := Lib.hid (HWS5.out.low hf6 (by intro r hr; obtain rfl := List.mem_singleton.1 hr; exact hbB))
        have HSW6 := Lib.hid (Nat.le_trans HSW5.out hf6.size)
        have HP6 := Lib.hid (hf6.heap HP5.out (by intro hm; have := List.mem_singleton.1 hm; have := HSW.out; have := HPP.out; omega))
        have HZ6 := Lib.hid (hf6.heap HZ5.out (by
          intro hm
          have := row_ne HRB5.out.oe.1 HZ5.out (by decide)
          exact this (by rw [List.mem_singleton.1 hm]; rfl)))
        have HX7 : Hid ((xs.set k ((⟨e0, e1, e2, el, c⟩ : En), Value.slice zb el.length zc)).map (·.1) = awK es ms (k + 1)) := Lib.hid (by rw [List.map_set, HX.out, HS1.out, HAEe.out])
        have HLT7 : Hid (RLt w2.heap.size g (.slice va m vc) (.slice (some ⟨b, 0, none⟩) n uc) (xs.set k ((⟨e0, e1, e2, el, c⟩ : En), Value.slice zb el.length zc))) := Lib.hid ⟨HLT.out.g, HLT.out.um, HLT.out.ve, fun x hx => by
          rcases List.mem_or_eq_of_mem_set hx with hx | rfl
          · exact HLT.out.xs x hx
          · exact HLT.out.xs ((⟨e0, e1, e2, el, e4⟩ : En), Value.slice zb el.length zc) (List.mem_of_getElem? HXK.out)⟩
        have HW7 : Hid (wonK es ms (k + 1) = wonK es ms k ++ [⟨e0, e1, e2, el, c⟩]) := Lib.hid (by rw [HS3.out, if_pos HWN.out.symm, HAEe.out])
        have hxk7 : (xs.set k ((⟨e0, e1, e2, el, c⟩ : En), Value.slice zb el.length zc))[k]? = some ((⟨e0, e1, e2, el, c⟩ : En), Value.slice zb el.length zc) := by
          rw [List.getElem?_set_self (List.getElem?_eq_some_iff.1 HXK.out).1]
        have HOB6 := Lib.hid (HRB6.out.oe.2 _ (List.mem_of_getElem? hxk7))
        obtain ⟨⟨t0, t1, t2, t3, t4⟩, f0, f1, f2, f3, f4⟩ := HRB5.out.oe.cells5 k _ HXK.out
        obtain ⟨q0, q1, q2, q3, q4⟩ := row5 HRB5.out.row
        obtain ⟨l0, l1, l2, l3, l4⟩ := row5 HP5.out
        unfold Go.Proofs.Ytldheaamcnmlgaa.put5 at HRB6 HWS6 HSW6 HP6 HZ6 HOB6
        dsimp only at HRB6 HWS6 HSW6 HP6 HZ6 HOB6
        clear hf6 hxk7 HRB5 HWS5 HSW5 HZ5 HOB5 HP5 HX HRB HWS HSW HZ HLT HS1 HS2 HS3 HSK HWN HAEe HXK HOB HF5
        go_upto_region 10 with fail
        clear t0 t1 t2 t3 t4 f0 f1 f2 f3 f4 q0 q1 q2 q3 q4 l0 l1 l2 l3 l4
        generalize World.setCell (World.setCell (World.setCell (World.setCell (World.setCell w5 _ _) _ _) _ _) _ _) _ _ = w6 at HRB6 HWS6 HSW6 HP6 HZ6 HOB6 ⊢
        have CE := Lib.hid (cloneE_any ⟨e0, e1, e2, el, c⟩ (.slice zb el.length zc) w6 HOB6.out.holds HBLe.out)
        unfold enV at CE
        dsimp only at CE
        obtain ⟨l0, l1, l2, l3, l4⟩ := row5 HP6.out
        go_wp2_with fail
        with_reducible refine (CE.out).mono ?_
        rintro e w8 ⟨uu, rfl, ⟨vb2, rfl, ho1, hf8⟩⟩
        obtain ⟨vd, vf, rfl⟩ := ho1.shape
        have HRB8 := Lib.hid (HRB6.out.fr hf8)
        have HWS8 := Lib.hid (HWS6.out.keep hf8)
        have HB8 := Lib.hid (OwnB.mono ho1 HSW6.out)
        have HSW8 := Lib.hid (Nat.le_trans HSW6.out hf8.size)
        have HZ8 := Lib.hid (hf8.heap HZ6.out (by simp))
        have FA := Lib.hid (Fr.alloc w8 (.cells #[.int .i64 e0, .int .i64 e1, .int .i64 e2, .slice vd el.length vf, .int .i64 c] 40) [])
        have HWL : Hid (ws.length ≤ 1000) := Lib.hid (by
          have h1 := congrArg List.length HWSP.out
          rw [List.length_map] at h1
          have h2 := wonK_len es ms k
          have h3 := HEL.out
          have h4 := HN.out
          omega)
        unfold enV
        dsimp only
        clear ho1 hf8 CE HRB6 HWS6 HSW6 HZ6 HP6 HOB6 l0 l1 l2 l3 l4
        go_wp2_with (at_builtin; refine wpList_append_own _ rfl _ _ 25 rfl w2.heap.size 40 i0 (.agg #[.int .i64 0, .int .i64 0, .int .i64 0, .slice none 0 0, .int .i64 0]) 5 56 Try.underlying25 hi0 hz0 hz1 hz2 rfl (by decide) (.slice ub ws.length ud) ws.length (encs ws) rfl (HWS8.out.keep FA.out).1 ⟨w8.heap.size, 0, none⟩ 1 1 (enc1 (⟨e0, e1, e2, el, c⟩, .slice vd el.length vf)) rfl rfl (row_newL w8 (enc1 (⟨e0, e1, e2, el, c⟩, .slice vd el.length vf)) _) (en_one ⟨e0, e1, e2, el, c⟩ vd el.length vf) (by have := HWL.out; unfold maxLen; omega) (by have := HWL.out; omega) (Nat.le_trans HSW8.out FA.out.size) ?_; intro v' w9 hown hgr _)
        have HWS9 := Lib.hid ((HWS8.out.keep FA.out).snoc (x := (⟨e0, e1, e2, el, c⟩, .slice vd el.length vf)) (HB8.out.keep FA.out) hown hgr)
        have HRB9 := Lib.hid ((HRB8.out.fr FA.out).far HLT7.out hgr (fun r hr => (HWS8.out.block r hr).1) HB2.out)
        have HSW9 := Lib.hid (Nat.le_trans (Nat.le_trans HSW8.out FA.out.size) hgr.size)
        have HZ9 := Lib.hid (row_far hgr (HWS8.out.keep FA.out).1 (FA.out.heap HZ8.out (by simp)) (by decide))
        have HW9 : Hid ((ws ++ [((⟨e0, e1, e2, el, c⟩ : En), Value.slice vd el.length vf)]).map (·.1) = wonK es ms (k + 1)) := Lib.hid (by rw [List.map_append, HWSP.out, HW7.out]; rfl)
        clear hown hgr HRB8 HWS8 HSW8 HB8 FA HZ8
        go_wp2
        go_roundw
        case rel => exact ⟨k + 1, _, _, by go_num, Lib.hid (by omega), HRB9, HLT7, HX7, Lib.hid ⟨HWS9.out, HW9.out⟩, HSW9, HZ9⟩
        case measure => simp [intOf]; omega
    · obtain rfl : k = n := by omega
      have HXE : Hid (xs.map (·.1) = (awardR ⟨co, fo, ho, ms, es⟩).es) := Lib.hid (by
        show xs.map (·.1) = es.map (awardE ms)
        rw [HX.out, HN.out]
        unfold awK
        rw [List.take_length, List.drop_length, List.append_nil])
      have HWE : Hid (ws.map (·.1) = wonR ⟨co, fo, ho, ms, es⟩) := Lib.hid (by
        show ws.map (·.1) = (es.filter (winE ms)).map (awardE ms)
        rw [HWS.out.2, HN.out]
        unfold wonK
        rw [List.take_length])
      have HWH := Lib.hid ((HWS.out.1.fr (set5_fr wr (g + 1) (.int .i64 co) (.int .i64 fo) (.int .i64 ho) (.slice va m vc) (.slice ua k uc)) (by intro r hr; obtain rfl := List.mem_singleton.1 hr; exact ⟨_, _, HZ.out, by decide, by decide⟩)).he)
      clear HX HWS HLT HSW
      obtain ⟨q0, q1, q2, q3, q4⟩ := row5 HRB.out.row
      obtain ⟨z0, z1, z2, z3, z4⟩ := row5 HZ.out
      obtain ⟨f0, f1, f2, f3, f4⟩ := fz5 HZ.out
      obtain ⟨⟨e0, e1, e2, e3, e4⟩, HENDa⟩ := HRB.out.give HZ.out (by have := HG.out; omega)
      have HEND := Lib.hid HENDa
      clear HENDa HZ HRB
      go_wp2
      generalize World.setCell (World.setCell (World.setCell (World.setCell (World.setCell wr _ _) _ _) _ _) _ _) _ _ = WE at e0 e1 e2 e3 e4 HEND HWH ⊢
      exact bodyPost_ret (v := .tuple #[.agg #[.int .i64 co, .int .i64 fo, .int .i64 ho, .slice va m vc, .slice ua k uc], .slice ub ws.length ud]) (by simp [results, Try.results18, go_sem, e0, e1, e2, e3, e4]) rfl (gives (⟨_, _, rfl, ⟨_, _, rfl, HEND.out.1, HXE.out ▸ HEND.out.2.1⟩, HWE.out ▸ HWH.out, HEND.out.2.2⟩))
end Go.Proofs.Ytldheaamcnmlgaa
