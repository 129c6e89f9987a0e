/- Package ledger: a new ring; whose an entry is; what a car wants. Package ledger: whose an entry is; what a car wants. Package ledger: what a car wants. Package calls: which of two calls is ahead (as in stage 11, beside package bid's). The document's ledger: awarded. A copy of latches: the document's. The document's ledger: added. Package ledger: where a call's entry stands, where one would stand; whether a latch is among some. Package ledger: whether a latch is among some (slices.Contains); what is to be purged. Package ledger: slices.DeleteFunc of entries, by Purge's closure. Package ledger: purged. -/
import Derived.Test.YtldheaamcnmlgaaGLe
import Derived.Test.YtldheaamcnmlgaaGLf
import Derived.Test.YtldheaamcnmlgaaGLc
import Derived.Deep.AppendLies
import Derived.Laws.StructEq
import Derived.Laws.CopyRow
namespace Go.Proofs.Ytldheaamcnmlgaa
open Go.RowKit Fm

set_option maxRecDepth 100000 in
/-- order.Set of whatever came in. -/
theorem set_gen (v : Value) (l : List Int) (w : World) (h : HInts w v l) (hr : l.length ≤ 1000000) :
    Calls Try.prog 33 #[v] w (Gives fun u w' => OwnI w' w.heap.size u (setOf l) ∧ Fr w w' []) := by
  obtain ⟨a, c, rfl⟩ := h.shape
  cases a with
  | some x => exact set_any _ l w h (.inr ⟨x, c, rfl⟩) hr
  | none =>
    have h0 : l = [] := by
      obtain ⟨a, cap, he, _, _, h3⟩ := h
      simp only [Value.slice.injEq] at he
      by_cases q : 0 < l.length
      · obtain ⟨b, off, e, _⟩ := h3 q
        rw [e] at he
        cases he.1
      · exact List.eq_nil_of_length_eq_zero (by omega)
    subst h0
    obtain ⟨i1, hi1, hy0, hy1, hy2⟩ := info_parts infoI
    obtain ⟨v1, w1, hrun1, _, _, hn0⟩ := nil_app 24 3 i1 _ 1 8 Try.underlying24 hi1 hy0 hy1 hy2 rfl (by decide) w none 0 c (i64s []) rfl (by decide) (fun h => absurd h (Nat.lt_irrefl _))
    obtain ⟨rfl, rfl⟩ := hn0 rfl
    clear h hn0 hr
    show Calls Try.prog 33 #[.slice none 0 c] w1 _
    rw [setOf_nil]
    go_enter Try.func33, Try.ntmps33
    go_wp2_with (at_builtin; refine Lib.wpList_append_run _ rfl _ _ _ _ rfl _ _ rfl rfl _ _ (hrun1 _) ?_)
    refine (Try.slices_Sort_int_none none 0 _).mono ?_
    rintro e w' ⟨rfl, rfl⟩
    go_wp2_with fail
    refine (Try.slices_Compact_int_empty none 0 _).mono ?_
    rintro e w' ⟨rfl, rfl⟩
    go_wp2
    go_ret
    exact gives ⟨OwnI.nil _ _, Fr.refl _ _⟩
set_option maxHeartbeats 1000000 in
set_option maxRecDepth 100000 in
theorem new_any (co fo : Int) (v : Value) (l : List Int) (w : World) (h : HInts w v l) (hl : l.length ≤ 1000) :
    Calls Try.prog 15 #[.agg #[.int .i64 co, .int .i64 fo], v] w (Gives (GRing (newR co fo l) w)) := by
  have HTW := Lib.hid (two_boxes w (.cells #[.int .i64 co, .int .i64 fo] 23) (.cells #[.int .i64 0, .int .i64 0, .int .i64 0, .slice none 0 0, .slice none 0 0] 27))
  have HF2 := Lib.hid ((Fr.alloc w (.cells #[.int .i64 co, .int .i64 fo] 23) []).trans (Fr.alloc _ (.cells #[.int .i64 0, .int .i64 0, .int .i64 0, .slice none 0 0, .slice none 0 0] 27) []))
  have SE := Lib.hid (fun W (hW : Fr w W []) => set_gen v l W (h.keep hW) (by omega))
  clear h
  go_enter Try.func15, Try.ntmps15
  go_wp2_with fail
  generalize (w.alloc _).alloc _ = V at HTW HF2 ⊢
  have HX0 := Lib.hid (show SB1 w.heap.size (co, fo) V.drew from brow HTW.out.1)
  refine wp_region_noPanic ?_
  refine wp_region_heldL (S := SB1 w.heap.size (co, fo)) 4 (by kernel_rfl) HX0.out (fun hHeld => ?_)
  refine wpHL_take (j := 4) (by decide) (by kernel_rfl) (i := 0) (oi := _) (v := ?fv0h1n2) (by simp only [List.getElem?_toArray, List.getElem?_cons_zero]; rfl) (by kernel_rfl) (by kernel_rfl) (by kernel_rfl) (fun _ _ _ h => h) (Or.inl ⟨by rfl, ?fy0h1n2⟩) (by assumption) ?fr0h1n2
  case fy0h1n2 => (intro w hSw; (try dsimp only [SB1] at hSw); go_simp; try with_reducible rfl)
  try simp only [Act.put, List.setIfInBounds_toArray, List.set_cons_zero, List.set_cons_succ]
  refine wpHL_take (j := 4) (by decide) (by kernel_rfl) (i := 1) (oi := _) (v := ?fv1h1n2) (by simp only [List.getElem?_toArray, List.getElem?_cons_zero, List.getElem?_cons_succ]; rfl) (by kernel_rfl) (by kernel_rfl) (by kernel_rfl) (fun _ _ _ h => h) (Or.inl ⟨by rfl, ?fy1h1n2⟩) (by assumption) ?fr1h1n2
  case fy1h1n2 => (intro w hSw; (try dsimp only [SB1] at hSw); go_simp; try with_reducible rfl)
  try simp only [Act.put, List.setIfInBounds_toArray, List.set_cons_zero, List.set_cons_succ]
  refine wpHL_ready (rs := [2]) (by kernel_rfl) (by simp) ?_
  refine AllReadyHL.cons (o := _) (by decide) (by simp only [List.getElem?_toArray, List.getElem?_cons_zero, List.getElem?_cons_succ]; rfl) (fun K hK => ?_) AllReadyHL.nil
  go_simp
  ((with_reducible refine (SE.out _ (HF2.out.trans (Fr.drew V []))).mono ?_); rintro e w2 ⟨u, rfl, hset⟩; have hS2 := hHeld.fr hset.2 (by simp); have HO := Lib.hid hset.1; have FD := Lib.hid ((Fr.drew V []).trans hset.2); clear hset; obtain ⟨ua, uc, rfl⟩ := row_shape HO.out)
  go_wp2_with fail
  refine hK.out _ _ hS2 (fun hHeld => ?_)
  clear hK K
  try simp only [Act.put, List.setIfInBounds_toArray, List.set_cons_zero, List.set_cons_succ]
  refine wpHL_take (j := 4) (by decide) (by kernel_rfl) (i := 3) (oi := _) (v := ?fv3h1n3) (by simp only [List.getElem?_toArray, List.getElem?_cons_zero, List.getElem?_cons_succ]; rfl) (by kernel_rfl) (by kernel_rfl) (by kernel_rfl) (fun _ _ _ h => h) (Or.inl ⟨by rfl, ?fy3h1n3⟩) (by assumption) ?fr3h1n3
  case fy3h1n3 => (intro w hSw; (try dsimp only [SB1] at hSw); go_simp; try with_reducible rfl)
  try simp only [Act.put, List.setIfInBounds_toArray, List.set_cons_zero, List.set_cons_succ]
  have HZ := Lib.hid (FD.out.heap HTW.out.2 (by simp))
  obtain ⟨z0, z1, z2, z3, z4⟩ := row5 HZ.out
  obtain ⟨f0, f1, f2, f3, f4⟩ := fz5 HZ.out
  have hF := set5_fr w2 (w.heap.size + 1) (.int .i64 co) (.int .i64 fo) (.int .i64 0) (.slice ua (setOf l).length uc) (.slice none 0 0)
  obtain ⟨e0, e1, e2, e3, e4⟩ := row5 (set5 HZ.out (.int .i64 co) (.int .i64 fo) (.int .i64 0) (.slice ua (setOf l).length uc) (.slice none 0 0))
  have HEND := Lib.hid (And.intro (HO.out.far hF HZ.out (by decide)).holds ((HF2.out.trans FD.out).new hF (by intro r hr; obtain rfl := List.mem_singleton.1 hr; omega)))
  clear hF HO HZ FD hHeld hS2
  refine wpHL_last (by kernel_rfl) (by kernel_rfl) (by simp only [List.getElem?_toArray, List.getElem?_cons_zero, List.getElem?_cons_succ]; rfl) ?_
  intro K hK
  go_simp
  clear z0 z1 z2 z3 z4 f0 f1 f2 f3 f4
  generalize World.setCell (World.setCell (World.setCell (World.setCell (World.setCell w2 _ _) _ _) _ _) _ _) _ _ = W at e0 e1 e2 e3 e4 HEND ⊢
  refine hK.out _ _ ?_
  refine NoPanic.normal ?_
  go_wp2_with fail
  exact bodyPost_ret (v := .agg #[.int .i64 co, .int .i64 fo, .int .i64 0, .slice ua (setOf l).length uc, .slice none 0 0]) (by simp [results, Try.results15, go_sem, e0, e1, e2, e3, e4]) rfl (gives ⟨⟨_, _, rfl, HEND.out.1, nil_ents⟩, HEND.out.2⟩)
end Go.Proofs.Ytldheaamcnmlgaa

namespace Go.Proofs.Ytldheaamcnmlgaa
open Go.RowKit Fm

set_option maxHeartbeats 4000000 in
set_option maxRecDepth 100000 in
theorem mine_any (r : Rg) (vm ve : Value) (car : Int) (w : World) (hm : HInts w vm r.ms) (he : HE w ve r.es) (hml : r.ms.length ≤ 1000) (hel : r.es.length ≤ 1000) (hbl : ∀ e ∈ r.es, e.bs.length ≤ 1000) (haw : ∀ e ∈ r.es, -1 ≤ e.aw) :
    Calls Try.prog 21 #[rgV r vm ve, .int .i64 car] w (Gives (MineE (mineR r car) w)) := by
  obtain ⟨i0, hi0, hz0, hz1, hz2⟩ := info_parts infoL
  obtain ⟨co, fo, ho, ms, es⟩ := r
  dsimp only at hm he hml hel hbl
  have HMV := Lib.hid hm
  have HEV := Lib.hid he
  obtain ⟨am, cm, rfl, pm, qm, rm⟩ := hm
  obtain ⟨ae, ce, rfl, pe, qe, re⟩ := he
  unfold maxLen at qm qe
  have HBL := Lib.hid hbl
  have HEL := Lib.hid hel
  have HML := Lib.hid hml
  have HLS := Lib.hid re
  obtain ⟨n, hn⟩ : ∃ n, n = es.length := ⟨_, rfl⟩
  have HN := Lib.hid hn
  obtain ⟨m, hmm⟩ : ∃ m, m = ms.length := ⟨_, rfl⟩
  have HM := Lib.hid hmm
  rw [← hn] at hel pe HLS HEV
  rw [← hmm] at hml pm HMV
  unfold rgV
  dsimp only
  rw [← hn, ← hmm]
  clear rm re hbl hn hmm
  have HAW : Hid (∀ e ∈ es, -1 ≤ e.aw) := Lib.hid haw
  clear haw
  have HC1 := Lib.hid (show C5 w.heap.size (.int .i64 co) (.int .i64 fo) (.int .i64 ho) (.slice am m cm) (.slice ae n ce) _ from row5 (heap_alloc_new w (.cells #[.int .i64 co, .int .i64 fo, .int .i64 ho, .slice am m cm, .slice ae n ce] 27)))
  have HF1 := Lib.hid (Fr.alloc w (.cells #[.int .i64 co, .int .i64 fo, .int .i64 ho, .slice am m cm, .slice ae n ce] 27) [])
  have HWR := Lib.hid (show mineR ⟨co, fo, ho, ms, es⟩ car = mineK es car n by unfold mineR mineK; rw [HN.out, List.take_length])
  generalize mineR ⟨co, fo, ho, ms, es⟩ car = RES at HWR ⊢
  go_enter Try.func21, Try.ntmps21
  go_upto_region 1 with fail
  generalize w.alloc _ = V at HC1 HF1 ⊢
  obtain ⟨y0, y1, y2, y3, y4⟩ := HC1.out
  go_wp2_with fail
  clear y0 y1 y2 y3 y4
  go_loopw [5, 11] (fun s5 s11 wx => ∃ (k : Nat), s11 = .int .i64 k ∧ Hid (k ≤ n) ∧ Hid (OwnL wx V.heap.size s5 (mineK es car k)) ∧ Hid (Fr V wx [])) (fun _ s11 _ => n - (intOf s11).toNat)
  case atStart => exact ⟨0, rfl, Lib.hid (Nat.zero_le _), Lib.hid (by have : mineK es car 0 = [] := by unfold mineK; split <;> simp
                                                                      rw [this]; exact OwnL.nil _ _), Lib.hid (Fr.refl _ _)⟩
  case round =>
    obtain ⟨k, rfl, HK, HO, HF⟩ := hrel
    have hk := HK.out
    by_cases hlt : k < n
    · have hltd : decide ((k : Int) < (n : Int)) = true := decide_eq_true (by omega)
      obtain ⟨bk, off, rfl, hc⟩ := HLS.out (by omega)
      obtain ⟨vb, x0, x1, x2, x3, x4, hb⟩ := hc k hlt
      obtain ⟨e, hee⟩ : ∃ e, e = es.getD k zeroE := ⟨_, rfl⟩
      rw [← hee] at x0 x1 x2 x4 hb
      have hmem : e ∈ es := by
        have hk' : k < es.length := by have := HN.out; omega
        rw [hee, List.getD_eq_getElem?_getD, List.getElem?_eq_getElem hk']
        exact List.getElem_mem hk'
      have HT := Lib.hid (show mineK es car (k + 1) = mineK es car k ++ (if e.aw = car ∧ 0 ≤ car then [laOf e] else []) by rw [hee]; exact mineK_step es car k (by have := HN.out; omega))
      have haw := HAW.out e hmem
      have HLN : Hid ((mineK es car k).length ≤ 1000) := Lib.hid (by
        have := mineK_len es car k
        have := HEL.out
        have := HN.out
        omega)
      obtain ⟨pp, hpp⟩ : ∃ pp, pp = wr.heap.size := ⟨_, rfl⟩
      obtain ⟨zb, zc, rfl⟩ := hb.shape
      obtain ⟨e0, e1, e2, el, e4⟩ := e
      dsimp only at x0 x1 x2 x3 x4 hb
      have t0 := (HF1.out.trans HF.out).cell x0 (by simp)
      have t1 := (HF1.out.trans HF.out).cell x1 (by simp)
      have t2 := (HF1.out.trans HF.out).cell x2 (by simp)
      have t3 := (HF1.out.trans HF.out).cell x3 (by simp)
      have t4 := (HF1.out.trans HF.out).cell x4 (by simp)
      have HP := Lib.hid (row5 (heap_alloc_new wr (.cells #[.int .i64 e0, .int .i64 e1, .int .i64 e2, .slice zb el.length zc, .int .i64 e4] 40)))
      have HFP := Lib.hid (HF.out.trans (Fr.alloc wr (.cells #[.int .i64 e0, .int .i64 e1, .int .i64 e2, .slice zb el.length zc, .int .i64 e4] 40) []))
      obtain ⟨iw, hiw⟩ : ∃ b, b = decide (e4 ≠ -1) := ⟨_, rfl⟩
      have IA := Lib.hid (isAwarded_any ⟨e0, e1, e2, el, e4⟩ (.slice zb el.length zc) (wr.alloc (.cells #[.int .i64 e0, .int .i64 e1, .int .i64 e2, .slice zb el.length zc, .int .i64 e4] 40)) ⟨_, _, _, rfl⟩ iw hiw)
      obtain ⟨p0, p1, p2, p3, p4⟩ := HP.out
      unfold enV at IA
      dsimp only at IA haw
      replace hee := Lib.hid hee
      clear hc hmem x0 x1 x2 x3 x4 hb
      by_cases hq : e4 = car ∧ 0 ≤ car
      · have hi : iw = true := by rw [hiw]; exact decide_eq_true (by omega)
        have q1 : (e4 == car) = true := by simp [hq.1]
        have HTT := Lib.hid (show mineK es car (k + 1) = mineK es car k ++ [⟨e0, e1, e2⟩] by rw [HT.out, if_pos hq]; rfl)
        clear hiw haw hq HT
        subst hi
        go_wp2_with fail
        with_reducible refine (IA.out).mono ?_
        rintro e w4 ⟨rfl, hf⟩
        have HF4 := Lib.hid (HFP.out.trans hf)
        have HO4 := Lib.hid (HO.out.keep ((Fr.alloc wr _ []).trans hf))
        have l0 := hf.cell p0 (by simp)
        have l1 := hf.cell p1 (by simp)
        have l2 := hf.cell p2 (by simp)
        have l4 := hf.cell p4 (by simp)
        rw [← hpp] at l0 l1 l2 l4 ⊢
        clear hf IA HP HFP HO p0 p1 p2 p3 p4 t0 t1 t2 t3 t4 hpp
        obtain ⟨M, hM⟩ : ∃ M, M = mineK es car k := ⟨_, rfl⟩
        rw [← hM] at HO4 HTT HLN
        obtain ⟨ua, uc, rfl⟩ := HO4.out.shape
        clear hM
        go_wp2_with (at_builtin; refine wpList_append_own _ rfl _ _ 47 rfl V.heap.size 37 i0 (.agg #[.int .i64 0, .int .i64 0, .int .i64 0]) 3 24 Try.underlying47 hi0 hz0 hz1 hz2 rfl (by decide) (.slice ua M.length uc) M.length (laC M) rfl (World.ownsRow.alloc HO4.out _) ⟨w4.heap.size, 0, none⟩ 1 1 [.int .i64 e0, .int .i64 e1, .int .i64 e2] rfl rfl (row_newL w4 [.int .i64 e0, .int .i64 e1, .int .i64 e2] _) (la_one ⟨e0, e1, e2⟩) (by have := HLN.out; unfold maxLen; omega) (by have := HLN.out; omega) (by have := HF4.out.size; simp; omega) ?_; intro v' w3 hown3 hg3 _)
        have HF3 := Lib.hid ((HF4.out.trans (Fr.alloc _ (.cells #[.int .i64 e0, .int .i64 e1, .int .i64 e2] 37) [])).grown_own hg3 (fun r hr => .inr (HO4.out.block r hr).1))
        have HO3 : Hid (OwnL w3 V.heap.size v' (mineK es car (k + 1))) := by
          show OwnL _ _ _ _
          rw [HTT.out]
          exact OwnL.snoc hown3
        clear hown3 hg3
        go_wp2
        go_roundw
        case rel => exact ⟨k + 1, by go_num, Lib.hid (by omega), HO3, HF3⟩
        case measure => simp [intOf]; omega
      · have HO2 : Hid (∀ W, Fr wr W [] → OwnL W V.heap.size u5 (mineK es car (k + 1))) := Lib.hid (fun W hW => by
          rw [HT.out, if_neg hq, List.append_nil]
          exact HO.out.keep hW)
        have FA := Lib.hid (Fr.alloc wr (.cells #[.int .i64 e0, .int .i64 e1, .int .i64 e2, .slice zb el.length zc, .int .i64 e4] 40) [])
        by_cases hi1 : e4 = -1
        · have hi : iw = false := by rw [hiw]; simpa using hi1
          clear hiw haw hq HT hi1
          subst hi
          go_wp2_with fail
          with_reducible refine (IA.out).mono ?_
          rintro e w4 ⟨rfl, hf⟩
          have HF4 := Lib.hid (HFP.out.trans hf)
          have HO4 := Lib.hid (HO2.out w4 (FA.out.trans hf))
          have l4 := hf.cell p4 (by simp)
          clear hf IA HP HFP HO HO2 FA p0 p1 p2 p3 p4 t0 t1 t2 t3 t4
          go_wp2
          go_roundw
          case rel => exact ⟨k + 1, by go_num, Lib.hid (by omega), HO4, HF4⟩
          case measure => simp [intOf]; omega
        · have hi : iw = true := by rw [hiw]; simpa using hi1
          have q1 : (e4 == car) = false := by simp; omega
          clear hiw haw hq HT hi1
          subst hi
          go_wp2_with fail
          with_reducible refine (IA.out).mono ?_
          rintro e w4 ⟨rfl, hf⟩
          have HF4 := Lib.hid (HFP.out.trans hf)
          have HO4 := Lib.hid (HO2.out w4 (FA.out.trans hf))
          have l4 := hf.cell p4 (by simp)
          clear hf IA HP HFP HO HO2 FA p0 p1 p2 p3 p4 t0 t1 t2 t3 t4
          go_wp2
          go_roundw
          case rel => exact ⟨k + 1, by go_num, Lib.hid (by omega), HO4, HF4⟩
          case measure => simp [intOf]; omega
    · have hltd : decide ((k : Int) < (n : Int)) = false := decide_eq_false (by omega)
      obtain rfl : k = n := by omega
      have HRE : Hid (HLs wr u5 RES) := by
        show HLs _ _ _
        rw [HWR.out]
        exact HO.out.holds
      clear HWR HO
      go_wp2
      go_ret
      exact gives ⟨HRE.out, HF1.out.trans HF.out⟩
end Go.Proofs.Ytldheaamcnmlgaa

namespace Go.Proofs.Ytldheaamcnmlgaa
open Go.RowKit Fm

set_option maxHeartbeats 4000000 in
set_option maxRecDepth 100000 in
theorem wants_any (r : Rg) (vm ve : Value) (car : Int) (w : World) (hm : HInts w vm r.ms) (he : HE w ve r.es) (hml : r.ms.length ≤ 1000) (hel : r.es.length ≤ 1000) (hbl : ∀ e ∈ r.es, e.bs.length ≤ 1000) :
    Calls Try.prog 11 #[rgV r vm ve, .int .i64 car] w (Gives (WantsE (wantsR r car) w)) := by
  obtain ⟨i0, hi0, hz0, hz1, hz2⟩ := info_parts infoCl
  obtain ⟨co, fo, ho, ms, es⟩ := r
  dsimp only at hm he hml hel hbl
  have HMV := Lib.hid hm
  have HEV := Lib.hid he
  obtain ⟨am, cm, rfl, pm, qm, rm⟩ := hm
  obtain ⟨ae, ce, rfl, pe, qe, re⟩ := he
  unfold maxLen at qm qe
  have HBL := Lib.hid hbl
  have HEL := Lib.hid hel
  have HML := Lib.hid hml
  have HLS := Lib.hid re
  obtain ⟨n, hn⟩ : ∃ n, n = es.length := ⟨_, rfl⟩
  have HN := Lib.hid hn
  obtain ⟨m, hmm⟩ : ∃ m, m = ms.length := ⟨_, rfl⟩
  have HM := Lib.hid hmm
  rw [← hn] at hel pe HLS HEV
  rw [← hmm] at hml pm HMV
  unfold rgV
  dsimp only
  rw [← hn, ← hmm]
  clear rm re hbl hn hmm
  have HC1 := Lib.hid (show C5 w.heap.size (.int .i64 co) (.int .i64 fo) (.int .i64 ho) (.slice am m cm) (.slice ae n ce) _ from row5 (heap_alloc_new w (.cells #[.int .i64 co, .int .i64 fo, .int .i64 ho, .slice am m cm, .slice ae n ce] 27)))
  have HF1 := Lib.hid (Fr.alloc w (.cells #[.int .i64 co, .int .i64 fo, .int .i64 ho, .slice am m cm, .slice ae n ce] 27) [])
  obtain ⟨inm, him⟩ : ∃ b, b = decide (car ∈ ms) := ⟨_, rfl⟩
  have HAS := Lib.hid (has_any (.slice am m cm) ms car (w.alloc (.cells #[.int .i64 co, .int .i64 fo, .int .i64 ho, .slice am m cm, .slice ae n ce] 27)) (HMV.out.keep HF1.out) inm him)
  have HWR := Lib.hid (show wantsR ⟨co, fo, ho, ms, es⟩ car = if inm = true then (es.filter (wantE car)).map callOf else [] by unfold wantsR; rw [him]; simp)
  generalize wantsR ⟨co, fo, ho, ms, es⟩ car = RES at HWR ⊢
  clear him
  go_enter Try.func11, Try.ntmps11
  go_upto_region 1 with fail
  generalize w.alloc _ = V at HC1 HF1 HAS ⊢
  obtain ⟨y0, y1, y2, y3, y4⟩ := HC1.out
  cases inm with
  | false =>
    have HR : Hid (RES = []) := HWR.out
    clear HWR
    go_wp2_with fail
    with_reducible refine (HAS.out).mono ?_
    rintro e w2 ⟨rfl, rfl⟩
    clear HAS
    go_wp2
    go_ret
    exact gives ⟨by rw [HR.out]; exact nil_calls, HF1.out⟩
  | true =>
  go_wp2_with fail
  with_reducible refine (HAS.out).mono ?_
  rintro e w2 ⟨rfl, hw2⟩
  rw [hw2]
  clear HAS hw2
  go_wp2_with fail
  clear y0 y1 y2 y3 y4
  go_loopw [5, 18] (fun s5 s18 wx => ∃ (k : Nat), s18 = .int .i64 k ∧ Hid (k ≤ n) ∧ Hid (OwnCl wx V.heap.size s5 (((es.take k).filter (wantE car)).map callOf)) ∧ Hid (Fr V wx [])) (fun _ s18 _ => n - (intOf s18).toNat)
  case atStart => exact ⟨0, rfl, Lib.hid (Nat.zero_le _), Lib.hid (OwnCl.nil _ _), Lib.hid (Fr.refl _ _)⟩
  case round =>
    obtain ⟨k, rfl, HK, HO, HF⟩ := hrel
    have hk := HK.out
    by_cases hlt : k < n
    · have hltd : decide ((k : Int) < (n : Int)) = true := decide_eq_true (by omega)
      obtain ⟨bk, off, rfl, hc⟩ := HLS.out (by omega)
      obtain ⟨vb, x0, x1, x2, x3, x4, hb⟩ := hc k hlt
      obtain ⟨e, hee⟩ : ∃ e, e = es.getD k zeroE := ⟨_, rfl⟩
      rw [← hee] at x0 x1 x2 x4 hb
      have hmem : e ∈ es := by
        have hk' : k < es.length := by have := HN.out; omega
        rw [hee, List.getD_eq_getElem?_getD, List.getElem?_eq_getElem hk']
        exact List.getElem_mem hk'
      have HT := Lib.hid (show ((es.take (k + 1)).filter (wantE car)).map callOf = ((es.take k).filter (wantE car)).map callOf ++ (if wantE car e = true then [callOf e] else []) by rw [hee]; exact want_step es car k (by have := HN.out; omega))
      have hbl := HBL.out e hmem
      have HLN : Hid ((((es.take k).filter (wantE car)).map callOf).length ≤ 1000) := by
        show _ ≤ _
        rw [List.length_map]
        exact Nat.le_trans (List.length_filter_le _ _) (by rw [List.length_take]; have := HEL.out; omega)
      have HBV := Lib.hid hb
      obtain ⟨zb, zc, rfl⟩ := hb.shape
      obtain ⟨e0, e1, e2, el, e4⟩ := e
      dsimp only at x0 x1 x2 x3 x4 hb
      have t0 := (HF1.out.trans HF.out).cell x0 (by simp)
      have t1 := (HF1.out.trans HF.out).cell x1 (by simp)
      have t2 := (HF1.out.trans HF.out).cell x2 (by simp)
      have t3 := (HF1.out.trans HF.out).cell x3 (by simp)
      have t4 := (HF1.out.trans HF.out).cell x4 (by simp)
      have HP := Lib.hid (row5 (heap_alloc_new wr (.cells #[.int .i64 e0, .int .i64 e1, .int .i64 e2, .slice zb el.length zc, .int .i64 e4] 40)))
      have HFP := Lib.hid (HF.out.trans (Fr.alloc wr (.cells #[.int .i64 e0, .int .i64 e1, .int .i64 e2, .slice zb el.length zc, .int .i64 e4] 40) []))
      obtain ⟨y, hy⟩ := bidOf_some el car
      obtain ⟨has, hh⟩ : ∃ b, b = (bidOf el car).isSome := ⟨_, rfl⟩
      have OF := Lib.hid (fun W (hW : Fr w W []) => bof_any (.slice zb el.length zc) el car W (HBV.out.keep hW) (by have := hbl; dsimp only at this; omega) y has (hy.imp (fun h => ⟨h.1, by rw [hh, h.2]⟩) (fun h => ⟨h.1, h.2.1, by rw [hh, h.2.2]⟩)))
      have OF1 := Lib.hid (OF.out _ (HF1.out.trans HFP.out))
      obtain ⟨p0, p1, p2, p3, p4⟩ := HP.out
      obtain ⟨pp, hpp⟩ : ∃ pp, pp = wr.heap.size := ⟨_, rfl⟩
      have FA := Lib.hid (Fr.alloc wr (.cells #[.int .i64 e0, .int .i64 e1, .int .i64 e2, .slice zb el.length zc, .int .i64 e4] 40) [])
      replace hee := Lib.hid hee
      have HH := Lib.hid hh
      clear hh
      obtain ⟨ya, yb⟩ := y
      unfold bidV at OF1
      dsimp only at OF1
      clear hc hmem x0 x1 x2 x3 x4 hb HBV hbl OF hy
      go_wp2_with fail
      with_reducible refine (OF1.out).mono ?_
      rintro e w4 ⟨rfl, hf⟩
      have FB := Lib.hid (Fr.alloc w4 (.cells #[.int .i64 ya, .int .i64 yb] 42) [])
      have HF4 := Lib.hid ((HFP.out.trans hf).trans FB.out)
      have HOK : Hid (∀ u l, OwnCl wr V.heap.size u l → OwnCl (w4.alloc (.cells #[.int .i64 ya, .int .i64 yb] 42)) V.heap.size u l) := Lib.hid (fun u l h => h.keep ((FA.out.trans hf).trans FB.out))
      have HE4 := Lib.hid (C5.fr (S := []) (show C5 pp (.int .i64 e0) (.int .i64 e1) (.int .i64 e2) (.slice zb el.length zc) (.int .i64 e4) _ by rw [hpp]; exact HP.out) (hf.trans FB.out) (by simp))
      rw [← hpp]
      clear hf OF1 HP HFP FA FB p0 p1 p2 p3 p4 t0 t1 t2 t3 t4 hpp
      go_upto_region 8 with fail
      generalize World.alloc w4 _ = w5 at HF4 HOK HE4 ⊢
      obtain ⟨l0, l1, l2, l3, l4⟩ := HE4.out
      cases has with
      | true =>
        have HO5 : Hid (OwnCl w5 V.heap.size u5 (((es.take (k + 1)).filter (wantE car)).map callOf)) := Lib.hid (by
          rw [HT.out, if_neg (by unfold wantE; dsimp only; cases q : bidOf el car with
                                 | none => have hh := HH.out; rw [q] at hh; cases hh
                                 | some z => simp), List.append_nil]
          exact HOK.out _ _ HO.out)
        clear HT HO HOK HH
        go_wp2
        go_roundw
        case rel => exact ⟨k + 1, by go_num, Lib.hid (by omega), HO5, HF4⟩
        case measure => simp [intOf]; omega
      | false =>
        have hnone : (bidOf el car).isNone = true := by
          cases q : bidOf el car with
          | none => rfl
          | some z => have hh := HH.out; rw [q] at hh; cases hh
        obtain ⟨iw, hiw⟩ : ∃ b, b = decide (e4 ≠ -1) := ⟨_, rfl⟩
        have IA := Lib.hid (isAwarded_any ⟨e0, e1, e2, el, e4⟩ (.slice zb el.length zc) w5 ⟨_, _, _, rfl⟩ iw hiw)
        unfold enV at IA
        dsimp only at IA
        replace hiw := Lib.hid hiw
        clear HH
        cases iw with
        | true =>
          have h4 : e4 ≠ -1 := by simpa using hiw.out.symm
          have HO5 : Hid (OwnCl w5 V.heap.size u5 (((es.take (k + 1)).filter (wantE car)).map callOf)) := Lib.hid (by
            rw [HT.out, if_neg (by unfold wantE; dsimp only; simp [h4]), List.append_nil]
            exact HOK.out _ _ HO.out)
          clear HT HO HOK hiw h4 hnone
          go_wp2_with fail
          with_reducible refine (IA.out).mono ?_
          rintro e w6 ⟨rfl, hf⟩
          have HO6 := Lib.hid (HO5.out.keep hf)
          have HF6 := Lib.hid (HF4.out.trans hf)
          clear hf IA HO5 HF4
          go_wp2
          go_roundw
          case rel => exact ⟨k + 1, by go_num, Lib.hid (by omega), HO6, HF6⟩
          case measure => simp [intOf]; omega
        | false =>
          have h4 : e4 = -1 := by simpa using hiw.out.symm
          have HTT := Lib.hid (show ((es.take (k + 1)).filter (wantE car)).map callOf = ((es.take k).filter (wantE car)).map callOf ++ [(e0, e1)] by rw [HT.out, if_pos (by unfold wantE; dsimp only; rw [hnone, h4]; rfl)]; rfl)
          clear HT hiw h4 hnone
          go_wp2_with fail
          with_reducible refine (IA.out).mono ?_
          rintro e w6 ⟨rfl, hf⟩
          have HO6 := Lib.hid ((HOK.out _ _ HO.out).keep hf)
          have HF6 := Lib.hid (HF4.out.trans hf)
          have k0 := hf.cell l0 (by simp)
          have k1 := hf.cell l1 (by simp)
          clear hf IA HO HOK HF4 l0 l1 l2 l3 l4
          obtain ⟨M, hM⟩ : ∃ M, M = ((es.take k).filter (wantE car)).map callOf := ⟨_, rfl⟩
          rw [← hM] at HO6 HTT HLN
          obtain ⟨ua, uc, rfl⟩ := HO6.out.shape
          clear hM
          go_wp2_with (at_builtin; refine wpList_append_own _ rfl _ _ 31 rfl V.heap.size 35 i0 (.agg #[.int .i64 0, .int .i64 0]) 2 16 Try.underlying31 hi0 hz0 hz1 hz2 rfl (by decide) (.slice ua M.length uc) M.length (cdc M) rfl (World.ownsRow.alloc HO6.out _) ⟨w6.heap.size, 0, none⟩ 1 1 [.int .i64 e0, .int .i64 e1] rfl rfl (row_new2 _ _ _ _) (bid_one (e0, e1)) (by have := HLN.out; unfold maxLen; omega) (by have := HLN.out; omega) (by have := HF6.out.size; simp; omega) ?_; intro v' w3 hown3 hg3 _)
          have HF3 := Lib.hid ((HF6.out.trans (Fr.alloc _ (.cells #[.int .i64 e0, .int .i64 e1] 35) [])).grown_own hg3 (fun r hr => .inr (HO6.out.block r hr).1))
          have HO3 : Hid (OwnCl w3 V.heap.size v' (((es.take (k + 1)).filter (wantE car)).map callOf)) := by
            show OwnCl _ _ _ _
            rw [HTT.out]
            exact OwnCl.snoc hown3
          clear hown3 hg3
          go_wp2
          go_roundw
          case rel => exact ⟨k + 1, by go_num, Lib.hid (by omega), HO3, HF3⟩
          case measure => simp [intOf]; omega
    · have hltd : decide ((k : Int) < (n : Int)) = false := decide_eq_false (by omega)
      obtain rfl : k = n := by omega
      have HRE : Hid (HCl wr u5 RES) := by
        show HCl _ _ _
        rw [HWR.out]
        have h1 := HO.out.holds
        rw [HN.out, List.take_length] at h1
        exact h1
      clear HWR HO
      go_wp2
      go_ret
      exact gives ⟨HRE.out, HF1.out.trans HF.out⟩
end Go.Proofs.Ytldheaamcnmlgaa

namespace Go.Proofs.Ytldheaamcnmlgaa
open Go.RowKit

def cmpC (f d f' d' : Int) : Int := if cmp1 f f' ≠ 0 then cmp1 f f' else cmp1 d d'
theorem cmpC_eq (f d f' d' : Int) : cmpC f d f' d' = if cmp1 f f' ≠ 0 then cmp1 f f' else cmp1 d d' := rfl
theorem cmpC_lt (f d f' d' : Int) : decide (cmpC f d f' d' < 0) = ltC f d f' d' := by
  unfold cmpC cmp1 ltC
  by_cases a : f < f' <;> by_cases b : f' < f <;> by_cases c : d < d' <;> by_cases e : d' < d <;> simp [a, b, c, e] <;> omega
/-- Two calls, boxed one behind the other. -/
theorem SC.calls (w : World) (f d f' d' : Int) : SC w w.heap.size (w.heap.size + 1) f d f' d' (((w.alloc (.cells #[.int .i64 f, .int .i64 d] 35)).alloc (.cells #[.int .i64 f', .int .i64 d'] 35))) := by
  have h1 := (Fr.alloc _ (.cells #[.int .i64 f', .int .i64 d'] 35) []).heap (heap_alloc_new w (.cells #[.int .i64 f, .int .i64 d] 35)) (by simp)
  have h2 := heap_alloc_new (w.alloc (.cells #[.int .i64 f, .int .i64 d] 35)) (.cells #[.int .i64 f', .int .i64 d'] 35)
  rw [show (w.alloc (.cells #[.int .i64 f, .int .i64 d] 35)).heap.size = w.heap.size + 1 by simp] at h2
  exact ⟨(Fr.alloc _ _ []).trans (Fr.alloc _ _ []), brow h1, brow h2⟩

set_option maxRecDepth 100000 in
theorem ccompare_any (f d f' d' : Int) (w : World) : Calls Try.prog 74 #[.agg #[.int .i64 f, .int .i64 d], .agg #[.int .i64 f', .int .i64 d']] w fun e w' => e = .returned (.int .i64 (cmpC f d f' d')) ∧ Fr w w' [] := by
  have HS := Lib.hid ((SC.calls w f d f' d').fr (Fr.drew _ []))
  have H2 := Lib.hid (cmpC_eq f d f' d')
  obtain ⟨c1, e1⟩ : ∃ c, c = cmp1 f f' := ⟨_, rfl⟩
  obtain ⟨c2, e2⟩ : ∃ c, c = cmp1 d d' := ⟨_, rfl⟩
  have C1 := Lib.hid (fun W => (e1 ▸ cmp1_any f f' W : Calls Try.prog 103 #[.int .i64 f, .int .i64 f'] W fun e w' => e = .returned (.int .i64 c1) ∧ w' = W))
  have C2 := Lib.hid (fun W => (e2 ▸ cmp1_any d d' W : Calls Try.prog 103 #[.int .i64 d, .int .i64 d'] W fun e w' => e = .returned (.int .i64 c2) ∧ w' = W))
  have HR : Hid (cmpC f d f' d' = if c1 ≠ 0 then c1 else c2) := by show _ = _; rw [H2.out, e1, e2]
  clear e1 e2 H2
  go_enter Try.func74, Try.ntmps74
  go_wp2_with fail
  refine wp_region_noPanic ?_
  refine wp_region_held_drew (S := (SC w w.heap.size (w.heap.size + 1) f d f' d')) (by kernel_rfl) HS.out (fun hHeld => ?_)
  refine wpAnyH_take (i := 0) (oi := _) (v := ?fv0h1n2) (by simp only [List.getElem?_toArray, List.getElem?_cons_zero]; rfl) (by kernel_rfl) (by kernel_rfl) (by kernel_rfl) (fun _ _ _ h => h) (Or.inl ⟨by rfl, ?fy0h1n2⟩) (by assumption) ?fr0h1n2
  case fy0h1n2 => (intro w hSw; (try dsimp only [SC] at hSw); go_simp; try with_reducible rfl)
  try simp only [Act.put, List.setIfInBounds_toArray, List.set_cons_zero, List.set_cons_succ]
  refine wpAnyH_take (i := 1) (oi := _) (v := ?fv1h1n2) (by simp only [List.getElem?_toArray, List.getElem?_cons_zero, List.getElem?_cons_succ]; rfl) (by kernel_rfl) (by kernel_rfl) (by kernel_rfl) (fun _ _ _ h => h) (Or.inl ⟨by rfl, ?fy1h1n2⟩) (by assumption) ?fr1h1n2
  case fy1h1n2 => (intro w hSw; (try dsimp only [SC] at hSw); go_simp; try with_reducible rfl)
  try simp only [Act.put, List.setIfInBounds_toArray, List.set_cons_zero, List.set_cons_succ]
  refine wpAnyH_take (i := 2) (oi := _) (v := ?fv2h1n2) (by simp only [List.getElem?_toArray, List.getElem?_cons_zero, List.getElem?_cons_succ]; rfl) (by kernel_rfl) (by kernel_rfl) (by kernel_rfl) (fun _ _ _ h => h) (Or.inl ⟨by rfl, ?fy2h1n2⟩) (by assumption) ?fr2h1n2
  case fy2h1n2 => (intro w hSw; (try dsimp only [SC] at hSw); go_simp; try with_reducible rfl)
  try simp only [Act.put, List.setIfInBounds_toArray, List.set_cons_zero, List.set_cons_succ]
  refine wpAnyH_take (i := 3) (oi := _) (v := ?fv3h1n2) (by simp only [List.getElem?_toArray, List.getElem?_cons_zero, List.getElem?_cons_succ]; rfl) (by kernel_rfl) (by kernel_rfl) (by kernel_rfl) (fun _ _ _ h => h) (Or.inl ⟨by rfl, ?fy3h1n2⟩) (by assumption) ?fr3h1n2
  case fy3h1n2 => (intro w hSw; (try dsimp only [SC] at hSw); go_simp; try with_reducible rfl)
  try simp only [Act.put, List.setIfInBounds_toArray, List.set_cons_zero, List.set_cons_succ]
  refine wpAnyH_take (i := 5) (oi := _) (v := ?fv5h1n2) (by simp only [List.getElem?_toArray, List.getElem?_cons_zero, List.getElem?_cons_succ]; rfl) (by kernel_rfl) (by kernel_rfl) (by kernel_rfl) (fun _ _ _ h => h) (Or.inl ⟨by rfl, ?fy5h1n2⟩) (by assumption) ?fr5h1n2
  case fy5h1n2 => (intro w hSw; (try dsimp only [SC] at hSw); go_simp; try with_reducible rfl)
  try simp only [Act.put, List.setIfInBounds_toArray, List.set_cons_zero, List.set_cons_succ]
  refine wpAnyH_take (i := 6) (oi := _) (v := ?fv6h1n2) (by simp only [List.getElem?_toArray, List.getElem?_cons_zero, List.getElem?_cons_succ]; rfl) (by kernel_rfl) (by kernel_rfl) (by kernel_rfl) (fun _ _ _ h => h) (Or.inl ⟨by rfl, ?fy6h1n2⟩) (by assumption) ?fr6h1n2
  case fy6h1n2 => (intro w hSw; (try dsimp only [SC] at hSw); go_simp; try with_reducible rfl)
  try simp only [Act.put, List.setIfInBounds_toArray, List.set_cons_zero, List.set_cons_succ]
  refine wpAnyH_take (i := 7) (oi := _) (v := ?fv7h1n2) (by simp only [List.getElem?_toArray, List.getElem?_cons_zero, List.getElem?_cons_succ]; rfl) (by kernel_rfl) (by kernel_rfl) (by kernel_rfl) (fun _ _ _ h => h) (Or.inl ⟨by rfl, ?fy7h1n2⟩) (by assumption) ?fr7h1n2
  case fy7h1n2 => (intro w hSw; (try dsimp only [SC] at hSw); go_simp; try with_reducible rfl)
  try simp only [Act.put, List.setIfInBounds_toArray, List.set_cons_zero, List.set_cons_succ]
  refine wpAnyH_take (i := 8) (oi := _) (v := ?fv8h1n2) (by simp only [List.getElem?_toArray, List.getElem?_cons_zero, List.getElem?_cons_succ]; rfl) (by kernel_rfl) (by kernel_rfl) (by kernel_rfl) (fun _ _ _ h => h) (Or.inl ⟨by rfl, ?fy8h1n2⟩) (by assumption) ?fr8h1n2
  case fy8h1n2 => (intro w hSw; (try dsimp only [SC] at hSw); go_simp; try with_reducible rfl)
  try simp only [Act.put, List.setIfInBounds_toArray, List.set_cons_zero, List.set_cons_succ]
  refine wpAnyH_ready (rs := [4]) (by kernel_rfl) (by simp) ?_
  refine AllReadyH.cons (o := _) rfl (fun K hK => ?_) AllReadyH.nil
  go_simp
  ((with_reducible refine (C1.out _).mono ?_); rintro e x1 ⟨rfl, rfl⟩; have hS2 := hHeld)
  go_wp2_with fail
  refine hK.out _ _ hS2 (fun hHeld => ?_)
  clear hK K
  try simp only [Act.put, List.setIfInBounds_toArray, List.set_cons_zero, List.set_cons_succ]
  refine wpAnyH_ready (rs := [9]) (by kernel_rfl) (by simp) ?_
  refine AllReadyH.cons (o := _) rfl (fun K hK => ?_) AllReadyH.nil
  go_simp
  ((with_reducible refine (C2.out _).mono ?_); rintro e x2 ⟨rfl, rfl⟩; have hS3 := hHeld)
  go_wp2_with fail
  refine hK.out _ _ hS3 (fun hHeld => ?_)
  clear hK K
  try simp only [Act.put, List.setIfInBounds_toArray, List.set_cons_zero, List.set_cons_succ]
  refine wpAnyH_ready (rs := [10]) (by kernel_rfl) (by simp) ?_
  refine AllReadyH.cons (o := _) rfl (fun K hK => ?_) AllReadyH.nil
  go_simp
  have hS4 := hHeld.fr (Fr.alloc _ (.cells #[.int .i64 c1, .int .i64 c2] 3) [])
  refine hK.out _ _ hS4 (fun hHeld => ?_)
  clear hK K
  try simp only [Act.put, List.setIfInBounds_toArray, List.set_cons_zero, List.set_cons_succ]
  refine wpAnyH_ready (rs := [11]) (by kernel_rfl) (by simp) ?_
  refine AllReadyH.cons (o := _) rfl (fun K hK => ?_) AllReadyH.nil
  go_simp
  ((with_reducible refine (or_any _ c1 c2 _ (box2_cells _ _ (by simp) _ _ _).1 (box2_cells _ _ (by simp) _ _ _).2 _ HR.out).mono ?_); rintro e x3 ⟨rfl, rfl⟩; have hS5 := hHeld)
  go_wp2_with fail
  refine hK.out _ _ hS5 (fun hHeld => ?_)
  clear hK K
  try simp only [Act.put, List.setIfInBounds_toArray, List.set_cons_zero, List.set_cons_succ]
  refine wpAnyH_take (i := 12) (oi := _) (v := ?fv12h1n3) (by simp only [List.getElem?_toArray, List.getElem?_cons_zero, List.getElem?_cons_succ]; rfl) (by kernel_rfl) (by kernel_rfl) (by kernel_rfl) (fun _ _ _ h => h) (Or.inl ⟨by rfl, ?fy12h1n3⟩) (by assumption) ?fr12h1n3
  case fy12h1n3 => (intro w hSw; (try dsimp only [SC] at hSw); go_simp; try with_reducible rfl)
  try simp only [Act.put, List.setIfInBounds_toArray, List.set_cons_zero, List.set_cons_succ]
  refine wpAnyH_done (by kernel_rfl) ?_ _
  refine NoPanic.normal ?_
  go_wp2
  go_ret
  exact ⟨rfl, hHeld.1⟩
set_option maxRecDepth 100000 in
theorem cless_any (f d f' d' : Int) (w : World) (b : Bool) (hb : b = ltC f d f' d') : Calls Try.prog 56 #[.agg #[.int .i64 f, .int .i64 d], .agg #[.int .i64 f', .int .i64 d']] w fun e w' => e = .returned (.bool b) ∧ Fr w w' [] := by
  have HS := Lib.hid (SC.calls w f d f' d')
  obtain ⟨hF, ⟨k1, k2⟩, k3, k4⟩ := HS.out
  have HB := Lib.hid hb
  obtain ⟨c, hc⟩ : ∃ c, c = cmpC f d f' d' := ⟨_, rfl⟩
  have HC : Hid (∀ W, Calls Try.prog 74 #[.agg #[.int .i64 f, .int .i64 d], .agg #[.int .i64 f', .int .i64 d']] W fun e w' => e = .returned (.int .i64 c) ∧ Fr W w' []) := by rw [hc]; exact ccompare_any f d f' d'
  have HB2 : Hid (b = decide (c < 0)) := by show _ = _; rw [HB.out, hc, cmpC_lt]
  clear hb hc hF HB
  go_enter Try.func56, Try.ntmps56
  go_wp2_with fail
  refine (HC.out _).mono ?_
  rintro e w1 ⟨rfl, hf⟩
  have HF := Lib.hid (HS.out.1.trans hf)
  clear hf
  go_wp2
  go_ret
  exact ⟨by rw [HB2.out]; rfl, HF.out⟩
end Go.Proofs.Ytldheaamcnmlgaa

namespace Go.Proofs.Ytldheaamcnmlgaa
open Go.RowKit Fm

def awK (es : List En) (ms : List Int) (k : Nat) : List En := (es.take k).map (awardE ms) ++ es.drop k
def wonK (es : List En) (ms : List Int) (k : Nat) : List En := ((es.take k).filter (winE ms)).map (awardE ms)
theorem dr_en (es : List En) (k : Nat) (h : k < es.length) : es.drop k = es.getD k zeroE :: es.drop (k + 1) := by
  rw [List.drop_eq_getElem_cons h]; simp [h]
theorem awK_at (es : List En) (ms : List Int) (k : Nat) (h : k < es.length) : (awK es ms k)[k]? = some (es.getD k zeroE) := by
  unfold awK
  rw [List.getElem?_append_right (by simp; omega), dr_en es k h]
  simp [show min k es.length = k by omega]
theorem awK_step (es : List En) (ms : List Int) (k : Nat) (h : k < es.length) : awK es ms (k + 1) = (awK es ms k).set k (awardE ms (es.getD k zeroE)) := by
  unfold awK
  rw [take_en es k h, List.map_append, List.set_append_right _ _ (by simp; omega), dr_en es k h]
  simp [show min k es.length = k by omega]
theorem awK_same (es : List En) (ms : List Int) (k : Nat) (h : k < es.length) (q : winE ms (es.getD k zeroE) = false) : awK es ms (k + 1) = awK es ms k := by
  have e : awardE ms (es.getD k zeroE) = es.getD k zeroE := by unfold awardE; rw [q]; rfl
  unfold awK
  rw [take_en es k h, List.map_append, List.map_singleton, e, dr_en es k h, List.append_assoc]; rfl
theorem wonK_step (es : List En) (ms : List Int) (k : Nat) (h : k < es.length) : wonK es ms (k + 1) = wonK es ms k ++ (if winE ms (es.getD k zeroE) = true then [awardE ms (es.getD k zeroE)] else []) := by
  unfold wonK
  rw [take_en es k h, List.filter_append, List.map_append]
  congr 1
  by_cases q : winE ms (es.getD k zeroE) = true
  · rw [if_pos q, List.filter_cons, if_pos q]; rfl
  · rw [if_neg q, List.filter_cons, if_neg q]; rfl
theorem wonK_len (es : List En) (ms : List Int) (k : Nat) : (wonK es ms k).length ≤ k := by
  unfold wonK
  rw [List.length_map]
  exact Nat.le_trans (List.length_filter_le _ _) (by rw [List.length_take]; omega)
/-- All that a ring's box holds lies ahead of a world's blocks. -/
structure RLt (B : Nat) (g : Nat) (um ve : Value) (xs : List (En × Value)) : Prop where
  g : g < B
  um : ∀ r, um.ownBlock = some r → r < B
  ve : ∀ r, ve.ownBlock = some r → r < B
  xs : ∀ x ∈ xs, ∀ r, x.2.ownBlock = some r → r < B
theorem RB.lt {V : World} {g : Nat} {co fo ho : Int} {um ve : Value} {ms : List Int} {xs : List (En × Value)} {a : World} (h : RB V g co fo ho um ve ms xs a) : RLt a.heap.size g um ve xs :=
  ⟨size_of_row h.row, fun r hr => (h.oi.block r hr).2, fun r hr => (h.oe.block r hr).2, fun x hx r hr => ((h.oe.2 x hx).block r hr).2⟩
/-- It stays, where another row grows that lies behind. -/
theorem RB.far {V : World} {g B : Nat} {co fo ho : Int} {um ve v : Value} {ms : List Int} {xs : List (En × Value)} {a a' : World} (h : RB V g co fo ho um ve ms xs a) (hl : RLt B g um ve xs) (hg : a.grownBy a' v.ownBlock) (hv : ∀ r, v.ownBlock = some r → B ≤ r) (hB : V.heap.size ≤ B) : RB V g co fo ho um ve ms xs a' := by
  rcases hb : v.ownBlock with _ | b
  · rw [hb] at hg
    exact h.fr (Fr.of_grown hg [])
  · rw [hb] at hg
    have hbB := hv b hb
    have hf : Fr a a' [b] := Fr.of_grown_row hg (by simp)
    have ne : ∀ {u : Value}, (∀ r, u.ownBlock = some r → r < B) → ∀ r ∈ [b], u.ownBlock ≠ some r := fun hu r hr e => by
      obtain rfl := List.mem_singleton.1 hr
      have := hu _ e; omega
    refine ⟨h.f.new hf (by intro r hr; obtain rfl := List.mem_singleton.1 hr; omega), h.hg, hf.heap h.row (by simp; have := hl.g; omega), h.oi.fr hf (ne hl.um), row_fr h.oe.1 hf (ne hl.ve), fun x hx => row_fr (h.oe.2 x hx) hf (ne (hl.xs x hx))⟩
/-- An own row stays, where blocks ahead of its base turn. -/
theorem OwnE.low {w w' : World} {B : Nat} {v : Value} {xs : List (En × Value)} {S : List Nat} (h : OwnE w B v xs) (hf : Fr w w' S) (hS : ∀ r ∈ S, r < B) : OwnE w' B v xs :=
  ⟨row_fr h.1 hf (fun r hr e => by have := (h.block r e).1; have := hS r hr; omega), fun x hx => row_fr (h.2 x hx) hf (fun r hr e => by have := ((h.2 x hx).block r e).1; have := hS r hr; omega)⟩
/-- What Award answers. -/
def AwardP (r : Rg) (w : World) (u : Value) (w' : World) : Prop := ∃ x v, u = .tuple #[x, v] ∧ HR w' x (awardR r) ∧ HE w' v (wonR r) ∧ Fr w w' []
/-- What the test reads. -/
def SAw (V : World) (g b k : Nat) (co fo ho : Int) (um ve : Value) (vb : Value) (aw : Int) (a : World) : Prop :=
  Fr V a [] ∧ C5 g (.int .i64 co) (.int .i64 fo) (.int .i64 ho) um ve a ∧ a.cell? ⟨b, k * 5 + 3, none⟩ = some vb ∧ a.cell? ⟨b, k * 5 + 4, none⟩ = some (.int .i64 aw)
theorem SAw.fr {V : World} {g b k : Nat} {co fo ho : Int} {um ve vb : Value} {aw : Int} {a a' : World} (h : SAw V g b k co fo ho um ve vb aw a) (q : Fr a a' []) : SAw V g b k co fo ho um ve vb aw a' := ⟨h.1.trans q, h.2.1.fr q (by simp), q.cell h.2.2.1 (by simp), q.cell h.2.2.2 (by simp)⟩
/-- What the awarding reads. -/
def SAy (g b k bb o : Nat) (co fo ho : Int) (um ve : Value) (vb : Value) (x : Int) (a : World) : Prop :=
  C5 g (.int .i64 co) (.int .i64 fo) (.int .i64 ho) um ve a ∧ a.cell? ⟨b, k * 5 + 3, none⟩ = some vb ∧ a.cell? ⟨bb, o, none⟩ = some (.int .i64 x)
end Go.Proofs.Ytldheaamcnmlgaa

namespace Go.Proofs.Ytldheaamcnmlgaa
open Go.RowKit
/-- 'make([]Latch, 0, n)' -/
theorem make_latchs (w : World) (n : Nat) (h : n ≤ 1000000) : ∃ Z : List Value, Z.length = n * 3 ∧
    (Instr.makeSlice 47 (.int .i64 0) (.int .i64 (n : Int))).run Try.prog w = .ok (.slice (some ⟨w.heap.size, 0, none⟩) 0 n) (w.alloc (.cells Z.toArray 37)) := by
  obtain ⟨i0, hi, hz0, hz1, hz2⟩ := info_parts infoL
  have hr := run_make (P := Try.prog) w 47 37 i0 (.agg #[.int .i64 0, .int .i64 0, .int .i64 0]) Try.underlying47 hi hz0 .i64 .i64 0 (n : Int) (by omega) (by omega) (by rw [hz2]; omega) (by omega)
  refine ⟨(madeCells (Value.agg #[.int .i64 0, .int .i64 0, .int .i64 0]).cells (n * i0.size)).toList, ?_, ?_⟩
  · rw [hz1]; simp [madeCells]
  · rw [hr, Int.toNat_natCast]; rfl
/-- A slice cut at its end. -/
theorem HLs.cut {w : World} {a : Option Addr} {c : Nat} {l : List La} (h : HLs w (.slice a l.length c) l) (k : Nat) (hk : k ≤ l.length) : HLs w (.slice a k c) (l.take k) := by
  obtain ⟨a', c', he, h1, h2, h3⟩ := h
  simp only [Value.slice.injEq] at he
  obtain ⟨rfl, _, rfl⟩ := he
  have hl : (l.take k).length = k := by simp; omega
  refine ⟨a, c, by rw [hl], by omega, h2, fun h0 => ?_⟩
  rw [hl] at h0
  obtain ⟨b, off, rfl, hc⟩ := h3 (by omega)
  refine ⟨b, off, rfl, fun i hi => ?_⟩
  rw [hl] at hi
  have e : (l.take k).getD i zLa = l.getD i zLa := by simp [List.getD, hi]
  rw [e]
  exact hc i (by omega)
end Go.Proofs.Ytldheaamcnmlgaa

namespace Go.Proofs.Ytldheaamcnmlgaa
open Go.RowKit Fm

theorem ltC_iff (f d f' d' : Int) : ltC f d f' d' = decide (f < f' ∨ f = f' ∧ d < d') := by
  unfold ltC
  rw [← Bool.decide_and, ← Bool.decide_or]
/-- Where a latch is put: ahead of the first that is greater. -/
def placeL (x : La) (S : List La) : Nat := (S.takeWhile fun y => !ltC x.f x.d y.f y.d).length
theorem placeL_le (x : La) (S : List La) : placeL x S ≤ S.length := (List.takeWhile_sublist _).length_le
theorem insL_split (x : La) : ∀ S : List La, insL x S = S.take (placeL x S) ++ x :: S.drop (placeL x S)
  | [] => rfl
  | y :: S => by
    unfold insL placeL
    by_cases g : ltC x.f x.d y.f y.d = true
    · rw [if_pos g, List.takeWhile_cons, if_neg (by rw [g]; decide)]; rfl
    · have g' : ltC x.f x.d y.f y.d = false := by simpa using g
      rw [if_neg g, List.takeWhile_cons, if_pos (by rw [g']; rfl), insL_split x S]; rfl
theorem placeL_ahead {x : La} : ∀ {S : List La} {i : Nat}, i < placeL x S → ltC x.f x.d (S.getD i zLa).f (S.getD i zLa).d = false
  | [], i, h => by simp [placeL] at h
  | y :: S, i, h => by
    unfold placeL at h
    rw [List.takeWhile_cons] at h
    split at h
    · rename_i g
      cases i with
      | zero => simpa using g
      | succ i => exact placeL_ahead (S := S) (i := i) (by unfold placeL; simpa using h)
    · simp at h
theorem placeL_at {x : La} : ∀ {S : List La}, placeL x S < S.length → ltC x.f x.d (S.getD (placeL x S) zLa).f (S.getD (placeL x S) zLa).d = true
  | [], h => by simp [placeL] at h
  | y :: S, h => by
    by_cases g : ltC x.f x.d y.f y.d = true
    · have e : placeL x (y :: S) = 0 := by
        unfold placeL
        rw [List.takeWhile_cons, if_neg (by rw [g]; decide)]; rfl
      rw [e]
      exact g
    · have g' : ltC x.f x.d y.f y.d = false := by simpa using g
      have e : placeL x (y :: S) = placeL x S + 1 := by
        unfold placeL
        rw [List.takeWhile_cons, if_pos (by rw [g']; rfl), List.length_cons]
      rw [e] at h ⊢
      exact placeL_at (S := S) (by simpa using h)
def sortK (L : List La) (i : Nat) : List La := (L.take i).foldl (fun s x => insL x s) []
theorem la_take (l : List La) (k : Nat) (h : k < l.length) : l.take (k + 1) = l.take k ++ [l.getD k zLa] := by
  rw [List.take_succ_eq_append_getElem h]; simp [h]
theorem sortK_step (L : List La) (i : Nat) (h : i < L.length) : sortK L (i + 1) = insL (L.getD i zLa) (sortK L i) := by
  unfold sortK
  rw [la_take L i h, List.foldl_append]; rfl
theorem insL_len (x : La) : ∀ S : List La, (insL x S).length = S.length + 1
  | [] => rfl
  | y :: S => by
    unfold insL
    split
    · rfl
    · rw [List.length_cons, insL_len x S, List.length_cons]
theorem sortK_len (L : List La) : ∀ i, i ≤ L.length → (sortK L i).length = i
  | 0, _ => rfl
  | i + 1, h => by rw [sortK_step L i (by omega), insL_len, sortK_len L i (by omega)]
/-- What a round of the sorting reads. -/
def SSo (V : World) (b1 o1 b2 o2 : Nat) (x y : La) (a : World) : Prop :=
  Fr V a [] ∧ (a.cell? ⟨b1, o1, none⟩ = some (.int .i64 x.f) ∧ a.cell? ⟨b1, o1 + 1, none⟩ = some (.int .i64 x.d)) ∧ a.cell? ⟨b2, o2, none⟩ = some (.int .i64 y.f) ∧ a.cell? ⟨b2, o2 + 1, none⟩ = some (.int .i64 y.d)
theorem SSo.fr {V : World} {b1 o1 b2 o2 : Nat} {x y : La} {a a' : World} (h : SSo V b1 o1 b2 o2 x y a) (k : Fr a a' []) : SSo V b1 o1 b2 o2 x y a' :=
  ⟨h.1.trans k, ⟨k.cell h.2.1.1 (by simp), k.cell h.2.1.2 (by simp)⟩, k.cell h.2.2.1 (by simp), k.cell h.2.2.2 (by simp)⟩
/-- A latch's three cells. -/
def C3 (b o : Nat) (x : La) (a : World) : Prop := a.cell? ⟨b, o, none⟩ = some (.int .i64 x.f) ∧ a.cell? ⟨b, o + 1, none⟩ = some (.int .i64 x.d) ∧ a.cell? ⟨b, o + 2, none⟩ = some (.int .i64 x.g)
theorem C3.fr {b o : Nat} {x : La} {a a' : World} (h : C3 b o x a) (k : Fr a a' []) : C3 b o x a' := ⟨k.cell h.1 (by simp), k.cell h.2.1 (by simp), k.cell h.2.2 (by simp)⟩
theorem HLs.len' {w : World} {a : Option Addr} {n c : Nat} {l : List La} (h : HLs w (.slice a n c) l) : n = l.length ∧ n ≤ c := by
  obtain ⟨a', c', he, h1, _⟩ := h
  simp only [Value.slice.injEq] at he
  obtain ⟨rfl, rfl, rfl⟩ := he
  exact ⟨rfl, h1⟩
theorem laC_len' (l : List La) : (laC l).length = l.length * 3 := by
  induction l with
  | nil => rfl
  | cons x l ih => rw [laC_cons]; simp only [List.length_cons, ih]; omega
theorem laC_app' (l m : List La) : laC (l ++ m) = laC l ++ laC m := by simp [laC]
theorem laC_drop (S : List La) (k : Nat) (h : k ≤ S.length) : laC (S.drop k) = (laC S).drop (k * 3) := by
  have e := laC_app' (S.take k) (S.drop k)
  rw [List.take_append_drop] at e
  rw [e, List.drop_left' (by rw [laC_len', List.length_take]; omega)]
/-- The cells of what stands behind. -/
theorem OwnL.behind {w : World} {B g i c : Nat} {S : List La} (h : OwnL w B (.slice (some ⟨g, 0, none⟩) i c) S) (k : Nat) (hk : k ≤ S.length) : ∀ j u, (laC (S.drop k))[j]? = some u → w.cell? (Addr.add ⟨g, k * 3, none⟩ j) = some u := by
  intro j u hu
  rw [laC_drop S k hk, List.getElem?_drop] at hu
  obtain ⟨cs, hg, _, _, _, _, ht⟩ := row_at h
  have hlt := (List.getElem?_eq_some_iff.1 hu).1
  rw [laC_len'] at hlt
  rw [Addr.add_lit, cell_of_row _ _ _ _ _ _ hg]
  rw [← ht, List.getElem?_take_of_lt (by omega)] at hu
  simpa using hu
theorem own_put3 {w0 w w' : World} {B : Nat} {S M : List La} {x : La} {k : Nat} {v v' : Value} (hM : M = (S.take k ++ [x]) ++ S.drop k) (hk : k ≤ S.length) (ho : w'.ownsRow B 37 3 v' (k + 1 + (S.length - k)) (laC (S.take k ++ [x]) ++ laC (S.drop k))) (hf : Fr w0 w [])
    (hg : w.grownBy w' v.ownBlock) (hb : ∀ r, v.ownBlock = some r → w0.heap.size ≤ r) : OwnL w' B v' M ∧ Fr w0 w' [] := by
  have hlen : M.length = k + 1 + (S.length - k) := by rw [hM, List.length_append, List.length_append, List.length_take, List.length_drop, List.length_singleton]; omega
  refine ⟨?_, hf.grown_own hg (fun r hr => .inr (hb r hr))⟩
  unfold OwnL
  rw [hlen, hM, laC_app']
  exact ho
/-- Where an entry is put. -/
def insPl (x : La) (es : List En) : Nat := (es.takeWhile fun e => ltC e.fl e.di x.f x.d).length
theorem insPl_le (x : La) (es : List En) : insPl x es ≤ es.length := (List.takeWhile_sublist _).length_le
def newE (x : La) : En := ⟨x.f, x.d, x.g, [], -1⟩
theorem insE_split (x : La) : ∀ es : List En, insE x es = es.take (insPl x es) ++ newE x :: es.drop (insPl x es)
  | [] => rfl
  | e :: es => by
    unfold insE insPl
    by_cases g : ltC e.fl e.di x.f x.d = true
    · rw [if_pos g, List.takeWhile_cons, if_pos g, insE_split x es]; rfl
    · rw [if_neg g, List.takeWhile_cons, if_neg g]; rfl
theorem insPl_ahead {x : La} : ∀ {es : List En} {i : Nat}, i < insPl x es → ltC (es.getD i zeroE).fl (es.getD i zeroE).di x.f x.d = true
  | [], i, h => by simp [insPl] at h
  | e :: es, i, h => by
    unfold insPl at h
    rw [List.takeWhile_cons] at h
    split at h
    · rename_i g
      cases i with
      | zero => exact g
      | succ i => exact insPl_ahead (es := es) (i := i) (by unfold insPl; simpa using h)
    · simp at h
theorem insPl_at {x : La} : ∀ {es : List En}, insPl x es < es.length → ltC (es.getD (insPl x es) zeroE).fl (es.getD (insPl x es) zeroE).di x.f x.d = false
  | [], h => by simp [insPl] at h
  | e :: es, h => by
    by_cases g : ltC e.fl e.di x.f x.d = true
    · have q : insPl x (e :: es) = insPl x es + 1 := by
        unfold insPl
        rw [List.takeWhile_cons, if_pos g, List.length_cons]
      rw [q] at h ⊢
      exact insPl_at (es := es) (by simpa using h)
    · have q : insPl x (e :: es) = 0 := by
        unfold insPl
        rw [List.takeWhile_cons, if_neg g]; rfl
      rw [q]
      simpa using g
def addK (es : List En) (T : List La) (i : Nat) : List En := (T.take i).foldl addStep es
theorem addK_step (es : List En) (T : List La) (i : Nat) (h : i < T.length) : addK es T (i + 1) = addStep (addK es T i) (T.getD i zLa) := by
  unfold addK
  rw [la_take T i h, List.foldl_append]; rfl
theorem insE_len (x : La) (es : List En) : (insE x es).length = es.length + 1 := by
  rw [insE_split]
  have := insPl_le x es
  simp; omega
theorem addStep_len (es : List En) (x : La) : (addStep es x).length ≤ es.length + 1 := by
  unfold addStep
  split
  · omega
  · rw [insE_len]; exact Nat.le_refl _
theorem addStep_bs {N : Nat} {es : List En} (x : La) (h : ∀ e ∈ es, e.bs.length ≤ N) : ∀ e ∈ addStep es x, e.bs.length ≤ N := by
  unfold addStep
  split
  · exact h
  · intro e he
    rw [insE_split] at he
    rcases List.mem_append.1 he with q | q
    · exact h e (List.mem_of_mem_take q)
    · rcases List.mem_cons.1 q with rfl | q
      · exact Nat.zero_le _
      · exact h e (List.mem_of_mem_drop q)
theorem foldl_add_len (T : List La) : ∀ es : List En, (T.foldl addStep es).length ≤ es.length + T.length := by
  induction T with
  | nil => intro es; simp
  | cons x T ih =>
    intro es
    have := ih (addStep es x)
    have := addStep_len es x
    simp only [List.foldl_cons, List.length_cons]; omega
theorem addK_len (es : List En) (T : List La) (i : Nat) : (addK es T i).length ≤ es.length + i := by
  have := foldl_add_len (T.take i) es
  rw [List.length_take] at this
  unfold addK
  omega
theorem foldl_add_bs {N : Nat} (T : List La) : ∀ es : List En, (∀ e ∈ es, e.bs.length ≤ N) → ∀ e ∈ T.foldl addStep es, e.bs.length ≤ N := by
  induction T with
  | nil => intro es h; exact h
  | cons x T ih => intro es h; exact ih _ (addStep_bs x h)
theorem addK_bs {N : Nat} (es : List En) (T : List La) (i : Nat) (h : ∀ e ∈ es, e.bs.length ≤ N) : ∀ e ∈ addK es T i, e.bs.length ≤ N := foldl_add_bs (T.take i) es h
theorem foldl_full (T : List La) : ∀ es : List En, 128 ≤ es.length → T.foldl addStep es = es := by
  induction T with
  | nil => intro es _; rfl
  | cons x T ih =>
    intro es h
    have e : addStep es x = es := by unfold addStep; rw [if_pos (.inl h)]
    rw [List.foldl_cons, e]
    exact ih es h
theorem addK_full (es : List En) (T : List La) (i : Nat) (h : 128 ≤ (addK es T i).length) : T.foldl addStep es = addK es T i := by
  have e : T.foldl addStep es = (T.drop i).foldl addStep (addK es T i) := by
    unfold addK
    rw [← List.foldl_append, List.take_append_drop]
  rw [e]
  exact foldl_full _ _ h
theorem PlaceIs.unique {es : List En} {f d z y : Int} (h : PlaceIs es f d z) (k : PlaceIs es f d y) : z = y := by
  rcases h with ⟨h, h2⟩ | ⟨h, h2⟩ <;> rcases k with ⟨k, k2⟩ | ⟨k, k2⟩
  · rw [h, k]
  · exact absurd k2 h2
  · exact absurd h2 k2
  · rw [h, k]
theorem PlaceIs.some (es : List En) (f d : Int) : ∃ z, PlaceIs es f d z := by
  by_cases h : placeE es f d < es.length
  · exact ⟨_, .inr ⟨rfl, h⟩⟩
  · exact ⟨_, .inl ⟨rfl, h⟩⟩
theorem encs_app (xs ys : List (En × Value)) : encs (xs ++ ys) = encs xs ++ encs ys := by simp [encs]
theorem encs_drop (xs : List (En × Value)) (k : Nat) (h : k ≤ xs.length) : encs (xs.drop k) = (encs xs).drop (k * 5) := by
  have e := encs_app (xs.take k) (xs.drop k)
  rw [List.take_append_drop] at e
  rw [e, List.drop_left' (by rw [encs_len, List.length_take]; omega)]
theorem encs_take (xs : List (En × Value)) (k : Nat) (h : k ≤ xs.length) : encs (xs.take k) = (encs xs).take (k * 5) := by
  have e := encs_app (xs.take k) (xs.drop k)
  rw [List.take_append_drop] at e
  rw [e, List.take_left' (by rw [encs_len, List.length_take]; omega)]
theorem OwnE.ahead {w : World} {B g i c : Nat} {xs : List (En × Value)} (h : OwnE w B (.slice (some ⟨g, 0, none⟩) i c) xs) (k : Nat) (hk : k ≤ xs.length) : ∀ j u, (encs (xs.take k))[j]? = some u → w.cell? (Addr.add ⟨g, 0, none⟩ j) = some u := by
  intro j u hu
  have hlt := (List.getElem?_eq_some_iff.1 hu).1
  rw [encs_len, List.length_take] at hlt
  rw [encs_take xs k hk, List.getElem?_take_of_lt (by omega)] at hu
  obtain ⟨cs, hg, _, _, _, _, ht⟩ := row_at h.1
  rw [Addr.add_lit, Nat.zero_add, cell_of_row _ _ _ _ _ _ hg]
  rw [← ht, List.getElem?_take_of_lt (by omega)] at hu
  simpa using hu
theorem OwnE.behind {w : World} {B g i c : Nat} {xs : List (En × Value)} (h : OwnE w B (.slice (some ⟨g, 0, none⟩) i c) xs) (k : Nat) (hk : k ≤ xs.length) : ∀ j u, (encs (xs.drop k))[j]? = some u → w.cell? (Addr.add ⟨g, k * 5, none⟩ j) = some u := by
  intro j u hu
  have hlt := (List.getElem?_eq_some_iff.1 hu).1
  rw [encs_len, List.length_drop] at hlt
  rw [encs_drop xs k hk, List.getElem?_drop] at hu
  obtain ⟨cs, hg, _, _, _, _, ht⟩ := row_at h.1
  rw [Addr.add_lit, cell_of_row _ _ _ _ _ _ hg]
  rw [← ht, List.getElem?_take_of_lt (by omega)] at hu
  simpa using hu
theorem own_shape {w : World} {B : Nat} {u : Value} {l : List (Int × Int)} (h : OwnB w B u l) : u.oneCell' = true := by
  obtain ⟨a, c, rfl⟩ := h.shape; rfl
theorem OwnE.one {w : World} {B : Nat} {v : Value} {xs : List (En × Value)} (h : OwnE w B v xs) (ys : List (En × Value)) (hs : ∀ y ∈ ys, y ∈ xs) : ∀ u ∈ encs ys, u.oneCell' = true :=
  encs_one ys (fun y hy => own_shape (h.2 y (hs y hy)))
/-- What a round of the adding reads. -/
def SAd (V : World) (g b2 o2 : Nat) (co fo ho : Int) (um ve : Value) (f d : Int) (a : World) : Prop :=
  Fr V a [] ∧ C5 g (.int .i64 co) (.int .i64 fo) (.int .i64 ho) um ve a ∧ a.cell? ⟨b2, o2, none⟩ = some (.int .i64 f) ∧ a.cell? ⟨b2, o2 + 1, none⟩ = some (.int .i64 d)
theorem SAd.fr {V : World} {g b2 o2 : Nat} {co fo ho : Int} {um ve : Value} {f d : Int} {a a' : World} (h : SAd V g b2 o2 co fo ho um ve f d a) (k : Fr a a' []) : SAd V g b2 o2 co fo ho um ve f d a' :=
  ⟨h.1.trans k, h.2.1.fr k (by simp), k.cell h.2.2.1 (by simp), k.cell h.2.2.2 (by simp)⟩
def SAf (V : World) (g b2 o2 b3 o3 : Nat) (co fo ho : Int) (um ve : Value) (f d x y : Int) (a : World) : Prop :=
  SAd V g b2 o2 co fo ho um ve f d a ∧ a.cell? ⟨b3, o3, none⟩ = some (.int .i64 x) ∧ a.cell? ⟨b3, o3 + 1, none⟩ = some (.int .i64 y)
theorem SAf.fr {V : World} {g b2 o2 b3 o3 : Nat} {co fo ho : Int} {um ve : Value} {f d x y : Int} {a a' : World} (h : SAf V g b2 o2 b3 o3 co fo ho um ve f d x y a) (k : Fr a a' []) : SAf V g b2 o2 b3 o3 co fo ho um ve f d x y a' :=
  ⟨h.1.fr k, k.cell h.2.1 (by simp), k.cell h.2.2 (by simp)⟩
theorem HE.len' {w : World} {a : Option Addr} {n c : Nat} {l : List En} (h : HE w (.slice a n c) l) : n = l.length ∧ n ≤ c := by
  obtain ⟨a', c', he, h1, _⟩ := h
  simp only [Value.slice.injEq] at he
  obtain ⟨rfl, rfl, rfl⟩ := he
  exact ⟨rfl, h1.1⟩
theorem RB.put {V W a : World} {g : Nat} {co fo ho : Int} {um ve v' : Value} {ms : List Int} {xs : List (En × Value)} {x : La} {k n : Nat} (h : RB V g co fo ho um ve ms xs W) (hf : Fr W a []) (hk : k ≤ xs.length) (hn : n = k + 1 + (xs.length - k))
    (hown : a.ownsRow W.heap.size 40 5 v' n (encs (xs.take k ++ [(newE x, Value.slice none 0 0)]) ++ encs (xs.drop k))) : RBA V g co fo ho um ve ms v' ((xs.take k ++ [(newE x, Value.slice none 0 0)]) ++ xs.drop k) a := by
  have hb := h.fr hf
  refine ⟨hb.f, hb.hg, hb.row, hb.oi, ?_, ?_⟩
  · have hl : ((xs.take k ++ [(newE x, Value.slice none 0 0)]) ++ xs.drop k).length = n := by
      simp only [List.length_append, List.length_take, List.length_drop, List.length_singleton]; omega
    rw [hl, encs_app (xs.take k ++ [(newE x, Value.slice none 0 0)])]
    exact row_mono hown h.f.size
  · intro y hy
    rcases List.mem_append.1 hy with q | q
    · rcases List.mem_append.1 q with q | q
      · exact hb.oe.2 y (List.mem_of_mem_take q)
      · obtain rfl := List.mem_singleton.1 q
        exact OwnB.nil _ _
    · exact hb.oe.2 y (List.mem_of_mem_drop q)
end Go.Proofs.Ytldheaamcnmlgaa

namespace Go.Proofs.Ytldheaamcnmlgaa
open Go.RowKit Fm

/-- Where the first of some entries stands; -1. -/
def FirstIs (l : List En) (p : En → Bool) (z : Int) : Prop := (z = -1 ∧ ∀ i, i < l.length → p (l.getD i zeroE) = false) ∨ ∃ k : Nat, z = k ∧ k < l.length ∧ p (l.getD k zeroE) = true ∧ ∀ i, i < k → p (l.getD i zeroE) = false
theorem FirstIs.at {l : List En} {p : En → Bool} {z : Int} (h : FirstIs l p z) {k : Nat} (hk : k < l.length) (h1 : p (l.getD k zeroE) = true) (h2 : ∀ i, i < k → p (l.getD i zeroE) = false) : z = k := by
  rcases h with ⟨_, h⟩ | ⟨j, rfl, hj, h3, h4⟩
  · rw [h k hk] at h1; cases h1
  · rcases Nat.lt_trichotomy j k with q | q | q
    · rw [h2 j q] at h3; cases h3
    · rw [q]
    · rw [h4 k q] at h1; cases h1
theorem FirstIs.no {l : List En} {p : En → Bool} {z : Int} (h : FirstIs l p z) (h2 : ∀ i, i < l.length → p (l.getD i zeroE) = false) : z = -1 := by
  rcases h with ⟨h, _⟩ | ⟨j, rfl, hj, h3, h4⟩
  · exact h
  · rw [h2 j hj] at h3; cases h3
theorem FirstIs.some (l : List En) (p : En → Bool) : ∃ z, FirstIs l p z := by
  by_cases h : ∃ k, k < l.length ∧ p (l.getD k zeroE) = true
  · obtain ⟨k, hk⟩ := h
    induction k using Nat.strongRecOn with
    | _ k ih =>
      by_cases q : ∃ i, i < k ∧ p (l.getD i zeroE) = true
      · obtain ⟨i, hi, hp⟩ := q
        exact ih i hi ⟨by omega, hp⟩
      · exact ⟨k, .inr ⟨k, rfl, hk.1, hk.2, fun i hi => by
          cases g : p (l.getD i zeroE) with
          | false => rfl
          | true => exact absurd ⟨i, hi, g⟩ q⟩⟩
  · exact ⟨-1, .inl ⟨rfl, fun i hi => by
      cases g : p (l.getD i zeroE) with
      | false => rfl
      | true => exact absurd ⟨i, hi, g⟩ h⟩⟩
theorem eqCall (W : World) (a1 a2 b1 b2 : Int) (r : Bool) (hr : r = decide (a1 = b1 ∧ a2 = b2)) :
    (binOp .eql 35 (.agg #[.int .i64 a1, .int .i64 a2]) (.agg #[.int .i64 b1, .int .i64 b2])).run Try.prog W = .ok (.bool r) W := by
  have hcase : (a1 == b1) = false ∨ ((a1 == b1) = true ∧ (a2 == b2) = false) ∨ ((a1 == b1) = true ∧ (a2 == b2) = true) := by
    cases (a1 == b1) <;> cases (a2 == b2) <;> simp
  rcases hcase with e1 | ⟨e1, e2⟩ | ⟨e1, e2⟩
  · have : r = false := by rw [hr, decide_eq_false_iff_not]; rintro ⟨rfl, _⟩; simp at e1
    subst this; clear hr; go_simp
  · have : r = false := by rw [hr, decide_eq_false_iff_not]; rintro ⟨_, rfl⟩; simp at e2
    subst this; clear hr; go_simp
  · have : r = true := by rw [hr, decide_eq_true_iff]; simp at e1 e2; exact ⟨e1, e2⟩
    subst this; clear hr; go_simp
set_option maxHeartbeats 1000000 in
set_option maxRecDepth 100000 in
theorem idxf_clo (e : En) (zb : Option Addr) (zc : Nat) (f d : Int) (g : Nat) (w : World) (hg : w.cell? ⟨g, 0, none⟩ = some (.int .i64 f) ∧ w.cell? ⟨g, 1, none⟩ = some (.int .i64 d)) (r : Bool) (hr : r = (decide (e.fl = f) && decide (e.di = d))) :
    Calls Try.prog 49 #[enV e (.slice zb e.bs.length zc), .pointer (some ⟨g, 0, none⟩)] w fun x w' => x = .returned (.bool r) ∧ Fr w w' [] := by
  obtain ⟨e0, e1, e2, el, e4⟩ := e
  have FA := Lib.hid (Fr.alloc w (.cells #[.int .i64 e0, .int .i64 e1, .int .i64 e2, .slice zb el.length zc, .int .i64 e4] 40) [])
  obtain ⟨p0, p1, p2, p3, p4⟩ := row5 (heap_alloc_new w (.cells #[.int .i64 e0, .int .i64 e1, .int .i64 e2, .slice zb el.length zc, .int .i64 e4] 40))
  unfold enV
  dsimp only at hr ⊢
  have HE := Lib.hid (fun W => eqCall W e0 e1 f d r (by rw [hr, Bool.decide_and]))
  have g0 := FA.out.cell hg.1 (by simp)
  have g1 := FA.out.cell hg.2 (by simp)
  clear hr hg
  have HE1 := HE.out
  go_enter Try.func49, Try.ntmps49
  go_wp2
  go_ret
  exact ⟨rfl, FA.out⟩
set_option maxHeartbeats 2000000 in
set_option maxRecDepth 100000 in
theorem idxf (v : Value) (l : List En) (f d : Int) (g : Nat) (w : World) (h : HE w v l) (hl : l.length ≤ 1000000) (hg : w.cell? ⟨g, 0, none⟩ = some (.int .i64 f) ∧ w.cell? ⟨g, 1, none⟩ = some (.int .i64 d)) (z : Int) (hz : FirstIs l (fun e => (decide (e.fl = f) && decide (e.di = d))) z) :
    Calls Try.prog 48 #[v, .func (.func 49) #[] #[.pointer (some ⟨g, 0, none⟩)]] w fun e w' => e = .returned (.int .i64 z) ∧ Fr w w' [] := by
  obtain ⟨a, cap, rfl, p1, q1, r1⟩ := h
  unfold maxLen at q1
  obtain ⟨n, hn⟩ : ∃ n, n = l.length := ⟨_, rfl⟩
  have HN := Lib.hid hn
  have HCE := Lib.hid r1
  have HZ := Lib.hid hz
  have CL := Lib.hid (fun (e : En) (zb : Option Addr) (zc : Nat) (W : World) (hW : Fr w W []) (r : Bool) (hr : r = (decide (e.fl = f) && decide (e.di = d))) => idxf_clo e zb zc f d g W (⟨hW.cell hg.1 (by simp), hW.cell hg.2 (by simp)⟩) r hr)
  rw [← hn] at hl p1 HCE ⊢
  clear r1 hn hz hg
  go_enter Try.func48, Try.ntmps48
  go_wp2
  go_loopw [5, 8] (fun _ s8 wx => ∃ k : Nat, s8 = .int .i64 k ∧ Hid (k ≤ n) ∧ Hid (∀ i, i < k → (decide ((l.getD i zeroE).fl = f) && decide ((l.getD i zeroE).di = d)) = false) ∧ Hid (Fr w wx [])) (fun _ s8 _ => n - (intOf s8).toNat)
  case atStart => exact ⟨0, rfl, Lib.hid (Nat.zero_le _), Lib.hid (fun i hi => absurd hi (Nat.not_lt_zero _)), Lib.hid (Fr.refl _ _)⟩
  case round =>
    obtain ⟨k, rfl, HK, HA, HF⟩ := hrel
    have hk := HK.out
    by_cases hlt : k < n
    · obtain ⟨b, off, rfl, hc⟩ := HCE.out (by omega)
      obtain ⟨e, hee⟩ : ∃ e, e = l.getD k zeroE := ⟨_, rfl⟩
      have HE1 := Lib.hid hee
      obtain ⟨vb, x0, x1, x2, x3, x4, hb⟩ := hc k hlt
      rw [← hee] at x0 x1 x2 x4 hb
      obtain ⟨r, hr⟩ : ∃ r, r = (decide (e.fl = f) && decide (e.di = d)) := ⟨_, rfl⟩
      have HRR := Lib.hid hr
      obtain ⟨zb, zc, rfl⟩ := hb.shape
      have C1 := Lib.hid (CL.out e zb zc wr HF.out r hr)
      obtain ⟨e0, e1, e2, el, e4⟩ := e
      unfold enV at C1
      dsimp only at C1 x0 x1 x2 x3 x4
      have t0 := HF.out.cell x0 (by simp)
      have t1 := HF.out.cell x1 (by simp)
      have t2 := HF.out.cell x2 (by simp)
      have t3 := HF.out.cell x3 (by simp)
      have t4 := HF.out.cell x4 (by simp)
      clear hc hee hr hb x0 x1 x2 x3 x4
      cases r with
      | true =>
        have HP : Hid (z = (k : Int)) := Lib.hid (HZ.out.at (by have := HN.out; omega) (by rw [← HE1.out]; exact HRR.out.symm) HA.out)
        clear HA HE1 HRR CL
        go_wp2_with fail
        with_reducible refine (C1.out).mono ?_
        rintro e w1 ⟨rfl, hf⟩
        have HF1 := Lib.hid (HF.out.trans hf)
        clear hf C1
        go_wp2
        go_ret
        exact ⟨by rw [HP.out]; rfl, HF1.out⟩
      | false =>
        have HA2 : Hid (∀ i, i < k + 1 → (decide ((l.getD i zeroE).fl = f) && decide ((l.getD i zeroE).di = d)) = false) := Lib.hid (fun i hi => by
          by_cases q : i = k
          · subst q; rw [← HE1.out]; exact HRR.out.symm
          · exact HA.out i (by omega))
        clear HA HE1 HRR
        go_wp2_with fail
        with_reducible refine (C1.out).mono ?_
        rintro e w1 ⟨rfl, hf⟩
        have HF1 := Lib.hid (HF.out.trans hf)
        clear hf C1
        go_wp2
        go_roundw
        case rel => exact ⟨k + 1, by go_num, Lib.hid (by omega), HA2, HF1⟩
        case measure => simp [intOf]; omega
    · obtain rfl : k = n := by omega
      have HP : Hid (z = -1) := Lib.hid (HZ.out.no (by rw [← HN.out]; exact HA.out))
      clear HA CL HCE
      go_wp2
      go_ret
      exact ⟨by rw [HP.out]; rfl, HF.out⟩
set_option maxHeartbeats 1000000 in
set_option maxRecDepth 100000 in
theorem idxp_clo (e : En) (zb : Option Addr) (zc : Nat) (f d : Int) (g : Nat) (w : World) (hg : w.cell? ⟨g, 0, none⟩ = some (.int .i64 f) ∧ w.cell? ⟨g, 1, none⟩ = some (.int .i64 d)) (r : Bool) (hr : r = ltC f d e.fl e.di) :
    Calls Try.prog 59 #[enV e (.slice zb e.bs.length zc), .pointer (some ⟨g, 0, none⟩)] w fun x w' => x = .returned (.bool r) ∧ Fr w w' [] := by
  obtain ⟨e0, e1, e2, el, e4⟩ := e
  have FA := Lib.hid (Fr.alloc w (.cells #[.int .i64 e0, .int .i64 e1, .int .i64 e2, .slice zb el.length zc, .int .i64 e4] 40) [])
  obtain ⟨p0, p1, p2, p3, p4⟩ := row5 (heap_alloc_new w (.cells #[.int .i64 e0, .int .i64 e1, .int .i64 e2, .slice zb el.length zc, .int .i64 e4] 40))
  unfold enV
  dsimp only at hr ⊢
  have LE := Lib.hid (cless_any f d e0 e1 (w.alloc (.cells #[.int .i64 e0, .int .i64 e1, .int .i64 e2, .slice zb el.length zc, .int .i64 e4] 40)) r hr)
  have g0 := FA.out.cell hg.1 (by simp)
  have g1 := FA.out.cell hg.2 (by simp)
  clear hr hg
  go_enter Try.func59, Try.ntmps59
  go_wp2_with fail
  with_reducible refine (LE.out).mono ?_
  rintro e w1 ⟨rfl, hf⟩
  have HF1 := Lib.hid (FA.out.trans hf)
  clear hf LE
  go_wp2
  go_ret
  exact ⟨rfl, HF1.out⟩
set_option maxHeartbeats 2000000 in
set_option maxRecDepth 100000 in
theorem idxp (v : Value) (l : List En) (f d : Int) (g : Nat) (w : World) (h : HE w v l) (hl : l.length ≤ 1000000) (hg : w.cell? ⟨g, 0, none⟩ = some (.int .i64 f) ∧ w.cell? ⟨g, 1, none⟩ = some (.int .i64 d)) (z : Int) (hz : FirstIs l (fun e => ltC f d e.fl e.di) z) :
    Calls Try.prog 48 #[v, .func (.func 59) #[] #[.pointer (some ⟨g, 0, none⟩)]] w fun e w' => e = .returned (.int .i64 z) ∧ Fr w w' [] := by
  obtain ⟨a, cap, rfl, p1, q1, r1⟩ := h
  unfold maxLen at q1
  obtain ⟨n, hn⟩ : ∃ n, n = l.length := ⟨_, rfl⟩
  have HN := Lib.hid hn
  have HCE := Lib.hid r1
  have HZ := Lib.hid hz
  have CL := Lib.hid (fun (e : En) (zb : Option Addr) (zc : Nat) (W : World) (hW : Fr w W []) (r : Bool) (hr : r = ltC f d e.fl e.di) => idxp_clo e zb zc f d g W (⟨hW.cell hg.1 (by simp), hW.cell hg.2 (by simp)⟩) r hr)
  rw [← hn] at hl p1 HCE ⊢
  clear r1 hn hz hg
  go_enter Try.func48, Try.ntmps48
  go_wp2
  go_loopw [5, 8] (fun _ s8 wx => ∃ k : Nat, s8 = .int .i64 k ∧ Hid (k ≤ n) ∧ Hid (∀ i, i < k → ltC f d (l.getD i zeroE).fl (l.getD i zeroE).di = false) ∧ Hid (Fr w wx [])) (fun _ s8 _ => n - (intOf s8).toNat)
  case atStart => exact ⟨0, rfl, Lib.hid (Nat.zero_le _), Lib.hid (fun i hi => absurd hi (Nat.not_lt_zero _)), Lib.hid (Fr.refl _ _)⟩
  case round =>
    obtain ⟨k, rfl, HK, HA, HF⟩ := hrel
    have hk := HK.out
    by_cases hlt : k < n
    · obtain ⟨b, off, rfl, hc⟩ := HCE.out (by omega)
      obtain ⟨e, hee⟩ : ∃ e, e = l.getD k zeroE := ⟨_, rfl⟩
      have HE1 := Lib.hid hee
      obtain ⟨vb, x0, x1, x2, x3, x4, hb⟩ := hc k hlt
      rw [← hee] at x0 x1 x2 x4 hb
      obtain ⟨r, hr⟩ : ∃ r, r = ltC f d e.fl e.di := ⟨_, rfl⟩
      have HRR := Lib.hid hr
      obtain ⟨zb, zc, rfl⟩ := hb.shape
      have C1 := Lib.hid (CL.out e zb zc wr HF.out r hr)
      obtain ⟨e0, e1, e2, el, e4⟩ := e
      unfold enV at C1
      dsimp only at C1 x0 x1 x2 x3 x4
      have t0 := HF.out.cell x0 (by simp)
      have t1 := HF.out.cell x1 (by simp)
      have t2 := HF.out.cell x2 (by simp)
      have t3 := HF.out.cell x3 (by simp)
      have t4 := HF.out.cell x4 (by simp)
      clear hc hee hr hb x0 x1 x2 x3 x4
      cases r with
      | true =>
        have HP : Hid (z = (k : Int)) := Lib.hid (HZ.out.at (by have := HN.out; omega) (by rw [← HE1.out]; exact HRR.out.symm) HA.out)
        clear HA HE1 HRR CL
        go_wp2_with fail
        with_reducible refine (C1.out).mono ?_
        rintro e w1 ⟨rfl, hf⟩
        have HF1 := Lib.hid (HF.out.trans hf)
        clear hf C1
        go_wp2
        go_ret
        exact ⟨by rw [HP.out]; rfl, HF1.out⟩
      | false =>
        have HA2 : Hid (∀ i, i < k + 1 → ltC f d (l.getD i zeroE).fl (l.getD i zeroE).di = false) := Lib.hid (fun i hi => by
          by_cases q : i = k
          · subst q; rw [← HE1.out]; exact HRR.out.symm
          · exact HA.out i (by omega))
        clear HA HE1 HRR
        go_wp2_with fail
        with_reducible refine (C1.out).mono ?_
        rintro e w1 ⟨rfl, hf⟩
        have HF1 := Lib.hid (HF.out.trans hf)
        clear hf C1
        go_wp2
        go_roundw
        case rel => exact ⟨k + 1, by go_num, Lib.hid (by omega), HA2, HF1⟩
        case measure => simp [intOf]; omega
    · obtain rfl : k = n := by omega
      have HP : Hid (z = -1) := Lib.hid (HZ.out.no (by rw [← HN.out]; exact HA.out))
      clear HA CL HCE
      go_wp2
      go_ret
      exact ⟨by rw [HP.out]; rfl, HF.out⟩
set_option maxHeartbeats 1000000 in
set_option maxRecDepth 100000 in
theorem find_any (v : Value) (l : List En) (f d : Int) (w : World) (h : HE w v l) (hl : l.length ≤ 1000000) :
    Calls Try.prog 30 #[v, .agg #[.int .i64 f, .int .i64 d]] w fun x w' => ∃ z, x = .returned (.int .i64 z) ∧ PlaceIs l f d z ∧ Fr w w' [] := by
  obtain ⟨z, hz⟩ := FirstIs.some l (fun e => (decide (e.fl = f) && decide (e.di = d)))
  have FA := Lib.hid (Fr.alloc w (.cells #[.int .i64 f, .int .i64 d] 35) [])
  have IX := Lib.hid (idxf v l f d w.heap.size _ (h.keep FA.out) hl (brow (heap_alloc_new w (.cells #[.int .i64 f, .int .i64 d] 35))) z hz)
  have HPZ : Hid (PlaceIs l f d z) := Lib.hid (by
    rcases hz with ⟨rfl, h⟩ | ⟨k, rfl, hk, h1, h2⟩
    · exact place_none (fun i hi hc => by have := h i hi; dsimp only at this; rw [decide_eq_true hc.1, decide_eq_true hc.2] at this; cases this)
    · exact place_here hk (fun i hi hc => by have := h2 i hi; dsimp only at this; rw [decide_eq_true hc.1, decide_eq_true hc.2] at this; cases this) (by simpa using h1))
  obtain ⟨a, c, rfl⟩ := h.shape
  clear h hz
  go_enter Try.func30, Try.ntmps30
  go_wp2_with fail
  with_reducible refine (IX.out).mono ?_
  rintro e w1 ⟨rfl, hf⟩
  have HF1 := Lib.hid (FA.out.trans hf)
  clear hf IX
  go_wp2
  go_ret
  exact ⟨z, rfl, HPZ.out, HF1.out⟩
/-- Where the first of a greater call stands. -/
def placeG (es : List En) (f d : Int) : Nat := (es.takeWhile fun e => !ltC f d e.fl e.di).length
theorem placeG_le (es : List En) (f d : Int) : placeG es f d ≤ es.length := (List.takeWhile_sublist _).length_le
theorem placeG_is {f d : Int} : ∀ {es : List En} {k : Nat}, k ≤ es.length → (∀ i, i < k → ltC f d (es.getD i zeroE).fl (es.getD i zeroE).di = false) → (k < es.length → ltC f d (es.getD k zeroE).fl (es.getD k zeroE).di = true) → placeG es f d = k
  | [], k, h, _, _ => by
    have : k = 0 := by simpa using h
    rw [this]; rfl
  | x :: l, 0, _, _, h => by
    have := h (by simp)
    unfold placeG
    rw [List.takeWhile_cons, if_neg (by simpa using this)]; rfl
  | x :: l, k + 1, h, a, b => by
    have g : ltC f d x.fl x.di = false := a 0 (by omega)
    unfold placeG
    rw [List.takeWhile_cons, if_pos (by rw [g]; rfl), List.length_cons]
    congr 1
    exact placeG_is (by simpa using h) (fun i hi => a (i + 1) (by omega)) (fun hk => b (by simpa using hk))
set_option maxHeartbeats 1000000 in
set_option maxRecDepth 100000 in
theorem eplace_any (v : Value) (l : List En) (f d : Int) (w : World) (h : HE w v l) (hl : l.length ≤ 1000000) (k : Nat) (hk : k = placeG l f d) :
    Calls Try.prog 36 #[v, .agg #[.int .i64 f, .int .i64 d]] w fun x w' => x = .returned (.int .i64 k) ∧ Fr w w' [] := by
  obtain ⟨z, hz⟩ := FirstIs.some l (fun e => ltC f d e.fl e.di)
  have FA := Lib.hid (Fr.alloc w (.cells #[.int .i64 f, .int .i64 d] 35) [])
  have IX := Lib.hid (idxp v l f d w.heap.size _ (h.keep FA.out) hl (brow (heap_alloc_new w (.cells #[.int .i64 f, .int .i64 d] 35))) z hz)
  obtain ⟨a, c, rfl⟩ := h.shape
  clear h
  rcases hz with ⟨rfl, h⟩ | ⟨j, rfl, hj, h1, h2⟩
  · have HK : Hid (k = l.length) := Lib.hid (by rw [hk]; exact placeG_is (Nat.le_refl _) h (fun h => absurd h (Nat.lt_irrefl _)))
    clear hk h
    go_enter Try.func36, Try.ntmps36
    go_wp2_with fail
    with_reducible refine (IX.out).mono ?_
    rintro e w1 ⟨rfl, hf⟩
    have HF1 := Lib.hid (FA.out.trans hf)
    clear hf IX
    go_wp2
    go_ret
    exact ⟨by rw [HK.out]; rfl, HF1.out⟩
  · have HK : Hid (k = j) := Lib.hid (by rw [hk]; exact placeG_is (by omega) h2 (fun _ => h1))
    clear hk h1 h2 hj
    go_enter Try.func36, Try.ntmps36
    go_wp2_with fail
    with_reducible refine (IX.out).mono ?_
    rintro e w1 ⟨rfl, hf⟩
    have HF1 := Lib.hid (FA.out.trans hf)
    clear hf IX
    go_wp2
    go_ret
    exact ⟨by rw [HK.out]; rfl, HF1.out⟩
end Go.Proofs.Ytldheaamcnmlgaa

namespace Go.Proofs.Ytldheaamcnmlgaa
open Go.RowKit Fm

theorem eqLatch (W : World) (a1 a2 a3 b1 b2 b3 : Int) (r : Bool) (hr : r = decide (a1 = b1 ∧ a2 = b2 ∧ a3 = b3)) :
    (binOp .eql 37 (.agg #[.int .i64 a1, .int .i64 a2, .int .i64 a3]) (.agg #[.int .i64 b1, .int .i64 b2, .int .i64 b3])).run Try.prog W = .ok (.bool r) W := by
  have hcase : (a1 == b1) = false ∨ ((a1 == b1) = true ∧ (a2 == b2) = false) ∨ ((a1 == b1) = true ∧ (a2 == b2) = true ∧ (a3 == b3) = false) ∨ ((a1 == b1) = true ∧ (a2 == b2) = true ∧ (a3 == b3) = true) := by
    cases (a1 == b1) <;> cases (a2 == b2) <;> cases (a3 == b3) <;> simp
  rcases hcase with e1 | ⟨e1, e2⟩ | ⟨e1, e2, e3⟩ | ⟨e1, e2, e3⟩
  · have : r = false := by rw [hr, decide_eq_false_iff_not]; rintro ⟨rfl, _⟩; simp at e1
    subst this; clear hr; go_simp
  · have : r = false := by rw [hr, decide_eq_false_iff_not]; rintro ⟨_, rfl, _⟩; simp at e2
    subst this; clear hr; go_simp
  · have : r = false := by rw [hr, decide_eq_false_iff_not]; rintro ⟨_, _, rfl⟩; simp at e3
    subst this; clear hr; go_simp
  · have : r = true := by rw [hr, decide_eq_true_iff]; simp at e1 e2 e3; exact ⟨e1, e2, e3⟩
    subst this; clear hr; go_simp
set_option maxHeartbeats 2000000 in
set_option maxRecDepth 100000 in
theorem idxL_any (v : Value) (l : List La) (y : La) (w : World) (hv : HLs w v l) (hl : l.length ≤ 1000000) (z : Int) (hz : (z = -1 ∧ ∀ i, i < l.length → l.getD i zLa ≠ y) ∨ ∃ k : Nat, z = k ∧ k < l.length ∧ l.getD k zLa = y ∧ ∀ i, i < k → l.getD i zLa ≠ y) :
    Calls Try.prog 60 #[v, .agg #[.int .i64 y.f, .int .i64 y.d, .int .i64 y.g]] w fun e w' => e = .returned (.int .i64 z) ∧ Fr w w' [] := by
  obtain ⟨a, c, rfl, p1, q1, r1⟩ := hv
  unfold maxLen at q1
  have HLS := Lib.hid r1
  have HZ := Lib.hid hz
  obtain ⟨n, hn⟩ : ∃ n, n = l.length := ⟨_, rfl⟩
  have HN := Lib.hid hn
  rw [← hn] at p1 HLS hl ⊢
  have HF0 := Lib.hid (Fr.alloc w (.cells #[.int .i64 y.f, .int .i64 y.d, .int .i64 y.g] 37) [])
  have HX := Lib.hid (heap_alloc_new w (.cells #[.int .i64 y.f, .int .i64 y.d, .int .i64 y.g] 37))
  clear r1 hz hn
  go_enter Try.func60, Try.ntmps60
  go_wp2
  go_loopw [5, 8] (fun _ s8 wr => ∃ k : Nat, s8 = .int .i64 k ∧ Hid (k ≤ n) ∧ Hid (∀ j, j < k → l.getD j zLa ≠ y) ∧ Hid (Fr (w.alloc (.cells #[.int .i64 y.f, .int .i64 y.d, .int .i64 y.g] 37)) wr [])) (fun _ i _ => n - (intOf i).toNat)
  case atStart => exact ⟨0, rfl, Lib.hid (Nat.zero_le _), Lib.hid (fun j hj => absurd hj (Nat.not_lt_zero _)), Lib.hid (Fr.refl _ _)⟩
  case round =>
    obtain ⟨k, rfl, HK, HP, HG⟩ := hrel
    have hk := HK.out
    by_cases hlt : k < n
    · obtain ⟨bk, off, rfl, hc⟩ := HLS.out (by omega)
      obtain ⟨x, hx⟩ : ∃ x, x = l.getD k zLa := ⟨_, rfl⟩
      have g1 := hc k hlt
      rw [← hx] at g1
      obtain ⟨z0, z1, z2⟩ := row3 (HG.out.heap HX.out (by simp))
      have HKK := Lib.hid ((HF0.out.trans HG.out).trans (Fr.drew wr []))
      have HSH := Lib.hid (show SH (w.alloc (.cells #[.int .i64 y.f, .int .i64 y.d, .int .i64 y.g] 37)) bk (off + k * 3) w.heap.size x y wr.drew from
        ⟨HG.out.trans (Fr.drew wr []), ⟨HKK.out.cell g1.1 (by simp), HKK.out.cell g1.2.1 (by simp), HKK.out.cell g1.2.2 (by simp)⟩, (Fr.drew wr []).cell z0 (by simp), (Fr.drew wr []).cell z1 (by simp), (Fr.drew wr []).cell z2 (by simp)⟩)
      obtain ⟨r, hr⟩ : ∃ r, r = decide (y.f = x.f ∧ y.d = x.d ∧ y.g = x.g) := ⟨_, rfl⟩
      have heq := fun W => eqLatch W y.f y.d y.g x.f x.d x.g r hr
      have HRX : Hid (r = true ↔ x = y) := Lib.hid (by
        rw [hr, decide_eq_true_iff]
        refine ⟨fun ⟨h1, h2, h3⟩ => ?_, fun h => by rw [h]; exact ⟨rfl, rfl, rfl⟩⟩
        cases x; cases y; simp only at h1 h2 h3; rw [h1, h2, h3])
      have HX2 := Lib.hid hx
      clear hx hc g1 z0 z1 z2 hr
      cases r with
      | true =>
        have HN2 : Hid (z = (k : Int)) := Lib.hid (by
          have hxy : l.getD k zLa = y := by rw [← HX2.out]; exact HRX.out.1 rfl
          rcases HZ.out with ⟨_, h⟩ | ⟨j, rfl, hj, h3, h4⟩
          · exact absurd hxy (h k (by have := HN.out; omega))
          · rcases Nat.lt_trichotomy j k with q | q | q
            · exact absurd h3 (HP.out j q)
            · rw [q]
            · exact absurd hxy (h4 k q))
        clear HP HX2 HRX
        go_wp2_with fail
        refine wp_region_det (S := SH (w.alloc (.cells #[.int .i64 y.f, .int .i64 y.d, .int .i64 y.g] 37)) bk (off + k * 3) w.heap.size x y) (by kernel_rfl) HSH.out ?_
        refine wpDet_take (i := 0) (oi := _) (v := ?dv1) (by simp only [List.getElem?_toArray, List.getElem?_cons_zero]; rfl) (by kernel_rfl) (by kernel_rfl) (by kernel_rfl) (Or.inl ⟨by rfl, ?dy1⟩) ?dr1
        case dy1 => (intro w hSw; have hS0 := hSw; (try dsimp only [SH] at hSw); go_simp; refine Came.value ?_ hS0; with_reducible rfl)
        try simp only [Act.put, List.setIfInBounds_toArray, List.set_cons_zero, List.set_cons_succ]
        refine wpDet_take (i := 1) (oi := _) (v := ?dv2) (by simp only [List.getElem?_toArray, List.getElem?_cons_zero, List.getElem?_cons_succ]; rfl) (by kernel_rfl) (by kernel_rfl) (by kernel_rfl) (Or.inl ⟨by rfl, ?dy2⟩) ?dr2
        case dy2 => (intro w hSw; have hS0 := hSw; (try dsimp only [SH] at hSw); go_simp; refine Came.value ?_ hS0; with_reducible rfl)
        try simp only [Act.put, List.setIfInBounds_toArray, List.set_cons_zero, List.set_cons_succ]
        refine wpDet_take (i := 2) (oi := _) (v := ?dv3) (by simp only [List.getElem?_toArray, List.getElem?_cons_zero, List.getElem?_cons_succ]; rfl) (by kernel_rfl) (by kernel_rfl) (by kernel_rfl) (Or.inl ⟨by rfl, ?dy3⟩) ?dr3
        case dy3 => (intro w hSw; have hS0 := hSw; (try dsimp only [SH] at hSw); go_simp; refine Came.value ?_ hS0; with_reducible rfl)
        try simp only [Act.put, List.setIfInBounds_toArray, List.set_cons_zero, List.set_cons_succ]
        refine wpDet_take (i := 3) (oi := _) (v := ?dv4) (by simp only [List.getElem?_toArray, List.getElem?_cons_zero, List.getElem?_cons_succ]; rfl) (by kernel_rfl) (by kernel_rfl) (by kernel_rfl) (Or.inl ⟨by rfl, ?dy4⟩) ?dr4
        case dy4 => (intro w hSw; have hS0 := hSw; (try dsimp only [SH] at hSw); go_simp; refine Came.value ?_ hS0; with_reducible rfl)
        try simp only [Act.put, List.setIfInBounds_toArray, List.set_cons_zero, List.set_cons_succ]
        refine wpDet_take (i := 4) (oi := _) (v := ?dv5) (by simp only [List.getElem?_toArray, List.getElem?_cons_zero, List.getElem?_cons_succ]; rfl) (by kernel_rfl) (by kernel_rfl) (by kernel_rfl) (Or.inl ⟨by rfl, ?dy5⟩) ?dr5
        case dy5 => (intro w hSw; have hS0 := hSw; (try dsimp only [SH] at hSw); go_simp; refine Came.value ?_ hS0; with_reducible rfl)
        try simp only [Act.put, List.setIfInBounds_toArray, List.set_cons_zero, List.set_cons_succ]
        refine wpDet_take (i := 5) (oi := _) (v := ?dv6) (by simp only [List.getElem?_toArray, List.getElem?_cons_zero, List.getElem?_cons_succ]; rfl) (by kernel_rfl) (by kernel_rfl) (by kernel_rfl) (Or.inl ⟨by rfl, ?dy6⟩) ?dr6
        case dy6 => (intro w hSw; have hS0 := hSw; (try dsimp only [SH] at hSw); go_simp; refine Came.value ?_ hS0; with_reducible rfl)
        try simp only [Act.put, List.setIfInBounds_toArray, List.set_cons_zero, List.set_cons_succ]
        refine wpDet_done (by kernel_rfl) ?_ _
        rintro w1 ⟨hF, _, _⟩
        have HF := Lib.hid (HF0.out.trans hF)
        clear hF heq
        go_wp2
        go_ret
        exact ⟨by rw [HN2.out]; rfl, HF.out⟩
      | false =>
        have HP2 : Hid (∀ j, j < k + 1 → l.getD j zLa ≠ y) := Lib.hid (by
          intro j hj
          by_cases e : j = k
          · rw [e, ← HX2.out]
            intro q
            have := HRX.out.2 q
            cases this
          · exact HP.out j (by omega))
        clear HP HX2 HRX
        go_wp2_with fail
        refine wp_region_det (S := SH (w.alloc (.cells #[.int .i64 y.f, .int .i64 y.d, .int .i64 y.g] 37)) bk (off + k * 3) w.heap.size x y) (by kernel_rfl) HSH.out ?_
        refine wpDet_take (i := 0) (oi := _) (v := ?dv7) (by simp only [List.getElem?_toArray, List.getElem?_cons_zero]; rfl) (by kernel_rfl) (by kernel_rfl) (by kernel_rfl) (Or.inl ⟨by rfl, ?dy7⟩) ?dr7
        case dy7 => (intro w hSw; have hS0 := hSw; (try dsimp only [SH] at hSw); go_simp; refine Came.value ?_ hS0; with_reducible rfl)
        try simp only [Act.put, List.setIfInBounds_toArray, List.set_cons_zero, List.set_cons_succ]
        refine wpDet_take (i := 1) (oi := _) (v := ?dv8) (by simp only [List.getElem?_toArray, List.getElem?_cons_zero, List.getElem?_cons_succ]; rfl) (by kernel_rfl) (by kernel_rfl) (by kernel_rfl) (Or.inl ⟨by rfl, ?dy8⟩) ?dr8
        case dy8 => (intro w hSw; have hS0 := hSw; (try dsimp only [SH] at hSw); go_simp; refine Came.value ?_ hS0; with_reducible rfl)
        try simp only [Act.put, List.setIfInBounds_toArray, List.set_cons_zero, List.set_cons_succ]
        refine wpDet_take (i := 2) (oi := _) (v := ?dv9) (by simp only [List.getElem?_toArray, List.getElem?_cons_zero, List.getElem?_cons_succ]; rfl) (by kernel_rfl) (by kernel_rfl) (by kernel_rfl) (Or.inl ⟨by rfl, ?dy9⟩) ?dr9
        case dy9 => (intro w hSw; have hS0 := hSw; (try dsimp only [SH] at hSw); go_simp; refine Came.value ?_ hS0; with_reducible rfl)
        try simp only [Act.put, List.setIfInBounds_toArray, List.set_cons_zero, List.set_cons_succ]
        refine wpDet_take (i := 3) (oi := _) (v := ?dv10) (by simp only [List.getElem?_toArray, List.getElem?_cons_zero, List.getElem?_cons_succ]; rfl) (by kernel_rfl) (by kernel_rfl) (by kernel_rfl) (Or.inl ⟨by rfl, ?dy10⟩) ?dr10
        case dy10 => (intro w hSw; have hS0 := hSw; (try dsimp only [SH] at hSw); go_simp; refine Came.value ?_ hS0; with_reducible rfl)
        try simp only [Act.put, List.setIfInBounds_toArray, List.set_cons_zero, List.set_cons_succ]
        refine wpDet_take (i := 4) (oi := _) (v := ?dv11) (by simp only [List.getElem?_toArray, List.getElem?_cons_zero, List.getElem?_cons_succ]; rfl) (by kernel_rfl) (by kernel_rfl) (by kernel_rfl) (Or.inl ⟨by rfl, ?dy11⟩) ?dr11
        case dy11 => (intro w hSw; have hS0 := hSw; (try dsimp only [SH] at hSw); go_simp; refine Came.value ?_ hS0; with_reducible rfl)
        try simp only [Act.put, List.setIfInBounds_toArray, List.set_cons_zero, List.set_cons_succ]
        refine wpDet_take (i := 5) (oi := _) (v := ?dv12) (by simp only [List.getElem?_toArray, List.getElem?_cons_zero, List.getElem?_cons_succ]; rfl) (by kernel_rfl) (by kernel_rfl) (by kernel_rfl) (Or.inl ⟨by rfl, ?dy12⟩) ?dr12
        case dy12 => (intro w hSw; have hS0 := hSw; (try dsimp only [SH] at hSw); go_simp; refine Came.value ?_ hS0; with_reducible rfl)
        try simp only [Act.put, List.setIfInBounds_toArray, List.set_cons_zero, List.set_cons_succ]
        refine wpDet_done (by kernel_rfl) ?_ _
        rintro w1 ⟨hF, _, _⟩
        have HF := Lib.hid hF
        clear hF heq
        go_wp2
        go_roundw
        case rel => exact ⟨k + 1, by go_num, Lib.hid (by omega), HP2, HF⟩
        case measure => simp [intOf]; omega
    · obtain rfl : k = n := by omega
      have HN2 : Hid (z = -1) := Lib.hid (by
        rcases HZ.out with ⟨h, _⟩ | ⟨j, rfl, hj, h3, h4⟩
        · exact h
        · exact absurd h3 (HP.out j (by have := HN.out; omega)))
      clear HP HLS
      go_wp2
      go_ret
      exact ⟨by rw [HN2.out]; rfl, HF0.out.trans HG.out⟩
theorem first_la {l : List La} {y : La} (h : y ∈ l) : ∃ k, k < l.length ∧ l.getD k zLa = y ∧ ∀ i, i < k → l.getD i zLa ≠ y := by
  have hx : ∃ k, k < l.length ∧ l.getD k zLa = y := by
    obtain ⟨k, hk, e⟩ := List.getElem_of_mem h
    exact ⟨k, hk, by simp [List.getD, hk, e]⟩
  obtain ⟨k, hkk⟩ := hx
  induction k using Nat.strongRecOn with
  | _ k ih =>
    by_cases q : ∃ i, i < k ∧ l.getD i zLa = y
    · obtain ⟨i, hi, hp⟩ := q
      exact ih i hi ⟨by omega, hp⟩
    · exact ⟨k, hkk.1, hkk.2, fun i hi e => q ⟨i, hi, e⟩⟩
set_option maxHeartbeats 1000000 in
set_option maxRecDepth 100000 in
theorem containsL_any (v : Value) (l : List La) (y : La) (w : World) (hv : HLs w v l) (hl : l.length ≤ 1000000) (b : Bool) (hb : b = decide (y ∈ l)) :
    Calls Try.prog 39 #[v, .agg #[.int .i64 y.f, .int .i64 y.d, .int .i64 y.g]] w fun e w' => e = .returned (.bool b) ∧ Fr w w' [] := by
  have FA := Lib.hid (Fr.alloc w (.cells #[.int .i64 y.f, .int .i64 y.d, .int .i64 y.g] 37) [])
  obtain ⟨x0, x1, x2⟩ := row3 (heap_alloc_new w (.cells #[.int .i64 y.f, .int .i64 y.d, .int .i64 y.g] 37))
  have IX := Lib.hid (fun z hz => idxL_any v l y _ (hv.keep FA.out) hl z hz)
  have hgd : ∀ i, i < l.length → l.getD i zLa ∈ l := fun i hi => by
    rw [List.getD_eq_getElem?_getD, List.getElem?_eq_getElem hi]; exact List.getElem_mem hi
  obtain ⟨a, c, hvs, _⟩ := hv
  cases b with
  | false =>
    have hn : y ∉ l := of_decide_eq_false hb.symm
    have I1 := Lib.hid (IX.out (-1) (.inl ⟨rfl, fun i hi e => hn (e ▸ hgd i hi)⟩))
    clear IX hb hn hgd
    subst hvs
    go_enter Try.func39, Try.ntmps39
    go_wp2_with fail
    with_reducible refine (I1.out).mono ?_
    rintro e w1 ⟨rfl, hf⟩
    have HF := Lib.hid (FA.out.trans hf)
    clear hf I1
    go_wp2
    go_ret
    exact ⟨rfl, HF.out⟩
  | true =>
    have hy : y ∈ l := of_decide_eq_true hb.symm
    obtain ⟨k, hk, h1, h2⟩ := first_la hy
    have I1 := Lib.hid (IX.out k (.inr ⟨k, rfl, hk, h1, h2⟩))
    clear IX hb hy hgd h1 h2 hk
    subst hvs
    go_enter Try.func39, Try.ntmps39
    go_wp2_with fail
    with_reducible refine (I1.out).mono ?_
    rintro e w1 ⟨rfl, hf⟩
    have HF := Lib.hid (FA.out.trans hf)
    clear hf I1
    go_wp2
    go_ret
    exact ⟨rfl, HF.out⟩
set_option maxHeartbeats 1000000 in
set_option maxRecDepth 100000 in
theorem idxg_clo (e : En) (zb : Option Addr) (zc : Nat) (vl : Value) (L : List La) (g : Nat) (w : World) (hg : w.cell? ⟨g, 0, none⟩ = some vl ∧ HLs w vl L ∧ L.length ≤ 1000000) (r : Bool) (hr : r = (!decide (laOf e ∈ L))) :
    Calls Try.prog 38 #[enV e (.slice zb e.bs.length zc), .pointer (some ⟨g, 0, none⟩)] w fun x w' => x = .returned (.bool r) ∧ Fr w w' [] := by
  obtain ⟨e0, e1, e2, el, e4⟩ := e
  have FA := Lib.hid (Fr.alloc w (.cells #[.int .i64 e0, .int .i64 e1, .int .i64 e2, .slice zb el.length zc, .int .i64 e4] 40) [])
  obtain ⟨p0, p1, p2, p3, p4⟩ := row5 (heap_alloc_new w (.cells #[.int .i64 e0, .int .i64 e1, .int .i64 e2, .slice zb el.length zc, .int .i64 e4] 40))
  unfold enV
  dsimp only at hr ⊢
  have CT := Lib.hid (containsL_any vl L ⟨e0, e1, e2⟩ _ (hg.2.1.keep FA.out) hg.2.2 (!r) (by rw [hr, Bool.not_not]; exact decide_eq_decide.2 Iff.rfl))
  have g0 := FA.out.cell hg.1 (by simp)
  obtain ⟨va, vc, hvl, _⟩ := hg.2.1
  subst hvl
  clear hr hg
  go_enter Try.func38, Try.ntmps38
  go_wp2_with fail
  with_reducible refine (CT.out).mono ?_
  rintro e w1 ⟨rfl, hf⟩
  have HF1 := Lib.hid (FA.out.trans hf)
  clear hf CT
  go_wp2
  go_ret
  exact ⟨by cases r <;> rfl, HF1.out⟩
set_option maxHeartbeats 2000000 in
set_option maxRecDepth 100000 in
theorem idxg (v : Value) (l : List En) (vl : Value) (L : List La) (g : Nat) (w : World) (h : HE w v l) (hl : l.length ≤ 1000000) (hg : w.cell? ⟨g, 0, none⟩ = some vl ∧ HLs w vl L ∧ L.length ≤ 1000000) (z : Int) (hz : FirstIs l (fun e => (!decide (laOf e ∈ L))) z) :
    Calls Try.prog 48 #[v, .func (.func 38) #[] #[.pointer (some ⟨g, 0, none⟩)]] w fun e w' => e = .returned (.int .i64 z) ∧ Fr w w' [] := by
  obtain ⟨a, cap, rfl, p1, q1, r1⟩ := h
  unfold maxLen at q1
  obtain ⟨n, hn⟩ : ∃ n, n = l.length := ⟨_, rfl⟩
  have HN := Lib.hid hn
  have HCE := Lib.hid r1
  have HZ := Lib.hid hz
  have CL := Lib.hid (fun (e : En) (zb : Option Addr) (zc : Nat) (W : World) (hW : Fr w W []) (r : Bool) (hr : r = (!decide (laOf e ∈ L))) => idxg_clo e zb zc vl L g W (⟨hW.cell hg.1 (by simp), hg.2.1.keep hW, hg.2.2⟩) r hr)
  rw [← hn] at hl p1 HCE ⊢
  clear r1 hn hz hg
  go_enter Try.func48, Try.ntmps48
  go_wp2
  go_loopw [5, 8] (fun _ s8 wx => ∃ k : Nat, s8 = .int .i64 k ∧ Hid (k ≤ n) ∧ Hid (∀ i, i < k → (!decide (laOf (l.getD i zeroE) ∈ L)) = false) ∧ Hid (Fr w wx [])) (fun _ s8 _ => n - (intOf s8).toNat)
  case atStart => exact ⟨0, rfl, Lib.hid (Nat.zero_le _), Lib.hid (fun i hi => absurd hi (Nat.not_lt_zero _)), Lib.hid (Fr.refl _ _)⟩
  case round =>
    obtain ⟨k, rfl, HK, HA, HF⟩ := hrel
    have hk := HK.out
    by_cases hlt : k < n
    · obtain ⟨b, off, rfl, hc⟩ := HCE.out (by omega)
      obtain ⟨e, hee⟩ : ∃ e, e = l.getD k zeroE := ⟨_, rfl⟩
      have HE1 := Lib.hid hee
      obtain ⟨vb, x0, x1, x2, x3, x4, hb⟩ := hc k hlt
      rw [← hee] at x0 x1 x2 x4 hb
      obtain ⟨r, hr⟩ : ∃ r, r = (!decide (laOf e ∈ L)) := ⟨_, rfl⟩
      have HRR := Lib.hid hr
      obtain ⟨zb, zc, rfl⟩ := hb.shape
      have C1 := Lib.hid (CL.out e zb zc wr HF.out r hr)
      obtain ⟨e0, e1, e2, el, e4⟩ := e
      unfold enV at C1
      dsimp only at C1 x0 x1 x2 x3 x4
      have t0 := HF.out.cell x0 (by simp)
      have t1 := HF.out.cell x1 (by simp)
      have t2 := HF.out.cell x2 (by simp)
      have t3 := HF.out.cell x3 (by simp)
      have t4 := HF.out.cell x4 (by simp)
      clear hc hee hr hb x0 x1 x2 x3 x4
      cases r with
      | true =>
        have HP : Hid (z = (k : Int)) := Lib.hid (HZ.out.at (by have := HN.out; omega) (by rw [← HE1.out]; exact HRR.out.symm) HA.out)
        clear HA HE1 HRR CL
        go_wp2_with fail
        with_reducible refine (C1.out).mono ?_
        rintro e w1 ⟨rfl, hf⟩
        have HF1 := Lib.hid (HF.out.trans hf)
        clear hf C1
        go_wp2
        go_ret
        exact ⟨by rw [HP.out]; rfl, HF1.out⟩
      | false =>
        have HA2 : Hid (∀ i, i < k + 1 → (!decide (laOf (l.getD i zeroE) ∈ L)) = false) := Lib.hid (fun i hi => by
          by_cases q : i = k
          · subst q; rw [← HE1.out]; exact HRR.out.symm
          · exact HA.out i (by omega))
        clear HA HE1 HRR
        go_wp2_with fail
        with_reducible refine (C1.out).mono ?_
        rintro e w1 ⟨rfl, hf⟩
        have HF1 := Lib.hid (HF.out.trans hf)
        clear hf C1
        go_wp2
        go_roundw
        case rel => exact ⟨k + 1, by go_num, Lib.hid (by omega), HA2, HF1⟩
        case measure => simp [intOf]; omega
    · obtain rfl : k = n := by omega
      have HP : Hid (z = -1) := Lib.hid (HZ.out.no (by rw [← HN.out]; exact HA.out))
      clear HA CL HCE
      go_wp2
      go_ret
      exact ⟨by rw [HP.out]; rfl, HF.out⟩
end Go.Proofs.Ytldheaamcnmlgaa

namespace Go.Proofs.Ytldheaamcnmlgaa
open Go.RowKit Fm

theorem OwnE.put5 {w : World} {B b n c : Nat} {ys : List (En × Value)} (h : OwnE w B (.slice (some ⟨b, 0, none⟩) n c) ys) (i : Nat) (e : En) (vb : Value) (hy : OwnB w B vb e.bs) :
    OwnE (put5 w b (i * 5) e vb) B (.slice (some ⟨b, 0, none⟩) n c) (ys.set i (e, vb)) := by
  obtain ⟨cs, hgr, _⟩ := row_at h.1
  have hf := put5_fr w b (i * 5) e vb
  have key : ∀ u l, OwnB w B u l → OwnB (Go.Proofs.Ytldheaamcnmlgaa.put5 w b (i * 5) e vb) B u l := fun u l hu => row_fr hu hf (by intro r hr; obtain rfl := List.mem_singleton.1 hr; exact row_ne hu hgr (by decide))
  refine ⟨row_put5 h.1 i e vb, fun x hx => ?_⟩
  rcases List.mem_or_eq_of_mem_set hx with q | q
  · exact key _ _ (h.2 x q)
  · subst q; exact key _ _ hy
theorem OwnE.cells5 {w : World} {B b n c : Nat} {ys : List (En × Value)} (h : OwnE w B (.slice (some ⟨b, 0, none⟩) n c) ys) (j : Nat) (x : En × Value) (hj : ys[j]? = some x) :
    (w.cell? ⟨b, j * 5, none⟩ = some (.int .i64 x.1.fl) ∧ w.cell? ⟨b, j * 5 + 1, none⟩ = some (.int .i64 x.1.di) ∧ w.cell? ⟨b, j * 5 + 2, none⟩ = some (.int .i64 x.1.ge) ∧ w.cell? ⟨b, j * 5 + 3, none⟩ = some x.2 ∧ w.cell? ⟨b, j * 5 + 4, none⟩ = some (.int .i64 x.1.aw)) ∧
    (w.frozen? ⟨b, j * 5, none⟩ = false ∧ w.frozen? ⟨b, j * 5 + 1, none⟩ = false ∧ w.frozen? ⟨b, j * 5 + 2, none⟩ = false ∧ w.frozen? ⟨b, j * 5 + 3, none⟩ = false ∧ w.frozen? ⟨b, j * 5 + 4, none⟩ = false) := by
  obtain ⟨cs, hgr, _, hnc, hcm, hcs, htk⟩ := row_at h.1
  have key : ∀ k u, (encs ys)[k]? = some u → w.cell? ⟨b, k, none⟩ = some u := fun k u hk => by
    rw [← htk] at hk
    have hlt : k < ys.length * 5 := by
      have := (List.getElem?_eq_some_iff.1 hk).1
      simp at this; omega
    rw [List.getElem?_take_of_lt hlt] at hk
    rw [cell_of_row w b k _ _ _ hgr]
    simpa using hk
  obtain ⟨g0, g1, g2, g3, g4⟩ := encs_get ys j _ hj
  exact ⟨⟨key _ _ g0, key _ _ g1, key _ _ g2, key _ _ g3, key _ _ g4⟩, frozen_of_row _ _ _ _ _ hgr, frozen_of_row _ _ _ _ _ hgr, frozen_of_row _ _ _ _ _ hgr, frozen_of_row _ _ _ _ _ hgr, frozen_of_row _ _ _ _ _ hgr⟩
/-- 'clear(s[i:])' of entries. -/
theorem run_clear5 (w : World) (g o m c : Nat) (cur : Array Value) (hg : w.heap[g]? = some (.cells cur 40 (0, 0))) (hm : 0 < m) (ho : o + m * 5 ≤ cur.size) :
    ∃ zs : List Value, zs.length = m * 5 ∧ ∀ ty, (Builtin.clear_ #[25] ty #[.slice (some ⟨g, o, none⟩) m c]).run Try.prog w = .ok (.tuple #[]) (w.setRow g (cur.toList.take o ++ zs ++ cur.toList.drop (o + m * 5)).toArray) := by
  obtain ⟨i0, hi0, hz0, hz1, hz2⟩ := info_parts infoE
  have hzl : (Builtin.zeroCells (Value.agg #[.int .i64 0, .int .i64 0, .int .i64 0, .slice none 0 0, .int .i64 0]).cells m).toList.length = m * 5 := by simp [Builtin.zeroCells, Value.cells]
  have hone : ∀ v ∈ (Builtin.zeroCells (Value.agg #[.int .i64 0, .int .i64 0, .int .i64 0, .slice none 0 0, .int .i64 0]).cells m).toList, v.oneCell' = true := by
    intro v hv
    simp only [Builtin.zeroCells, Value.cells, Array.toList_map, List.mem_map] at hv
    obtain ⟨k, _, rfl⟩ := hv
    have hk : k % 5 < 5 := Nat.mod_lt _ (by decide)
    show ((#[Value.int .i64 0, .int .i64 0, .int .i64 0, .slice none 0 0, .int .i64 0] : Array Value)[k % 5]!).oneCell' = true
    rcases (by omega : k % 5 = 0 ∨ k % 5 = 1 ∨ k % 5 = 2 ∨ k % 5 = 3 ∨ k % 5 = 4) with q | q | q | q | q <;> rw [q] <;> rfl
  refine ⟨_, hzl, fun ty => ?_⟩
  have hst := run_storeCells_at Try.prog g o 40 (Builtin.zeroCells (Value.agg #[.int .i64 0, .int .i64 0, .int .i64 0, .slice none 0 0, .int .i64 0]).cells m).toList 0 cur w hg (by rw [hzl]; simpa using ho) hone
  rw [hzl, Nat.add_zero] at hst
  obtain ⟨m', rfl⟩ : ∃ m', m = m' + 1 := ⟨m - 1, by omega⟩
  simp only [Builtin.clear_]
  simp [run_underlying Try.underlying25, zeroValue, typeInfo, hi0, hz0, hst, Result.andThen]
theorem wpList_clear {P : Program} {w : World} {ops : Array Oper} {rest : List Oper} {o : Oper} {a : Act} {Q : Exit → Act → World → Prop} (hgd : o.guard = none) (s : Operand) (t : TypeId) (ho : o.op = .call { callee := .builtin .clear, args := #[s], argTypes := #[t] }) (v : Value) (hs : a.eval s = v)
    {v' : Value} {w' : World} (hr : (Builtin.clear_ #[t] o.type #[v]).run P w = .ok v' w') (h : wpList P ops Q rest (a.put o.dst v') w') : wpList P ops Q (o :: rest) a w := by
  refine wpList_plain hgd fun K hK => ?_
  unfold Oper.wp
  simp [execOp, ho, resolve, invoke, builtin, hs, hr, Result.andThen]
  exact hK _ _ h
/-- Entries left over of a row whose end was cleared. -/
theorem OwnE.clear {w : World} {B b n c i : Nat} {ys : List (En × Value)} (h : OwnE w B (.slice (some ⟨b, 0, none⟩) n c) ys) (hi : i < n) :
    ∃ W, (∀ ty, (Builtin.clear_ #[25] ty #[.slice (some ⟨b, i * 5, none⟩) (n - i) (c - i)]).run Try.prog w = .ok (.tuple #[]) W) ∧ OwnE W B (.slice (some ⟨b, 0, none⟩) i c) (ys.take i) ∧ Fr w W [b] := by
  obtain ⟨cs, hgr, hB, hnc, hcm, hcs, htk⟩ := row_at h.1
  have hnn := row_n h.1
  have hle : i * 5 + (n - i) * 5 ≤ cs.size := by rw [hcs, ← Nat.add_mul]; exact Nat.mul_le_mul_right 5 (by omega)
  obtain ⟨zs, hz, hrun⟩ := run_clear5 w b (i * 5) (n - i) (c - i) cs hgr (by omega) hle
  have hfr : Fr w (w.setRow b (cs.toList.take (i * 5) ++ zs ++ cs.toList.drop (i * 5 + (n - i) * 5)).toArray) [b] := ⟨rfl, rfl, rfl, by simp [World.setRow], fun k _ hn => setRow_other w b k _ (fun e => hn (by simp [e]))⟩
  have hl5 : i * 5 ≤ cs.toList.length := by rw [Array.length_toList]; omega
  refine ⟨_, hrun, ⟨⟨by rw [encs_len], .inr ⟨b, c, _, by rw [List.length_take, Nat.min_eq_left (by omega)], hB, setRow_heap w b _ _ _ _ hgr, by rw [List.length_take]; omega, hcm, ?_, ?_⟩⟩, fun x hx => ?_⟩, hfr⟩
  · rw [List.size_toArray, List.length_append, List.length_append, List.length_take, List.length_drop, hz, Array.length_toList, Nat.min_eq_left (by omega)]
    omega
  · rw [List.toList_toArray, List.length_take, Nat.min_eq_left (by omega), List.append_assoc, List.take_append_of_le_length (by rw [List.length_take]; omega), List.take_take, Nat.min_self, encs_take ys i (by omega), ← htk, List.take_take, Nat.min_eq_left (by omega)]
  · have hu := h.2 x (List.mem_of_mem_take hx)
    exact row_fr hu hfr (by intro r hr; obtain rfl := List.mem_singleton.1 hr; exact row_ne hu hgr (by decide))
theorem purge_all {es : List En} {L : List La} (h : ∀ i, i < es.length → (!decide (laOf (es.getD i zeroE) ∈ L)) = false) : purgeE es L = es := by
  unfold purgeE
  rw [List.filter_eq_self]
  intro e he
  obtain ⟨i, hi, rfl⟩ := List.getElem_of_mem he
  have := h i hi
  have e : es.getD i zeroE = es[i] := by simp [List.getD, hi]
  rw [e] at this
  cases q : decide (laOf es[i] ∈ L) with
  | true => rfl
  | false => rw [q] at this; cases this
/-- What DeleteFunc answers. -/
def DelP (w : World) (B : Nat) (v : Value) (es : List En) (L : List La) (u : Value) (w' : World) : Prop := ∃ zs, OwnE w' B u zs ∧ zs.map (·.1) = purgeE es L ∧ Fr w w' v.ownBlock.toList
theorem set_take {α : Type} {ys : List α} {i : Nat} {x : α} (h : i < ys.length) : (ys.set i x).take (i + 1) = ys.take i ++ [x] := by
  rw [List.take_succ_eq_append_getElem (by simpa using h), List.take_set_of_le (Nat.le_refl i)]
  simp
set_option maxHeartbeats 4000000 in
set_option maxRecDepth 100000 in
theorem del_any (v : Value) (xs : List (En × Value)) (es : List En) (L : List La) (vl : Value) (B gp : Nat) (w : World) (h : OwnE w B v xs) (hxs : xs.map (·.1) = es) (hl : es.length ≤ 1000000) (hg : ∀ W, Fr w W v.ownBlock.toList → W.cell? ⟨gp, 0, none⟩ = some vl ∧ HLs W vl L ∧ L.length ≤ 1000000) :
    Calls Try.prog 37 #[v, .func (.func 38) #[] #[.pointer (some ⟨gp, 0, none⟩)]] w (Gives (DelP w B v es L)) := by
  have hhe : HE w v es := hxs ▸ h.he
  obtain ⟨z, hz⟩ := FirstIs.some es (fun e => (!decide (laOf e ∈ L)))
  have IX := Lib.hid (idxg v es vl L gp w hhe hl (hg w (Fr.refl _ _)) z hz)
  have hnl : xs.length = es.length := by rw [← hxs]; simp
  obtain ⟨ua, uc, rfl⟩ := h.shape
  rcases hz with ⟨rfl, hall⟩ | ⟨i0, rfl, hi0, hp0, hq0⟩
  · have HE1 : Hid (∃ zs, OwnE w B (.slice ua xs.length uc) zs ∧ zs.map (·.1) = purgeE es L) := Lib.hid ⟨xs, h, by rw [hxs, purge_all hall]⟩
    have HK := Lib.hid (fun W (hf : Fr w W []) zs (hz : OwnE w B (.slice ua xs.length uc) zs) => hz.keep hf)
    clear h hxs hg hhe hall hnl hl
    go_enter Try.func37, Try.ntmps37
    go_wp2_with fail
    with_reducible refine (IX.out).mono ?_
    rintro e w1 ⟨rfl, hf⟩
    have HF := Lib.hid hf
    clear hf IX
    go_wp2
    go_ret
    obtain ⟨zs, h1, h2⟩ := HE1.out
    exact gives ⟨zs, h1.keep HF.out, h2, HF.out.mono (by simp)⟩
  · obtain ⟨b, uc', he, hnc, hcm, _⟩ := row_head h.1 (by omega)
    simp only [Value.slice.injEq] at he
    obtain ⟨rfl, hq, rfl⟩ := he
    clear hq
    obtain ⟨n, hn⟩ : ∃ n, n = xs.length := ⟨_, rfl⟩
    have HN := Lib.hid hn
    have HNE : Hid (n = es.length) := Lib.hid (by rw [hn, hnl])
    have HXS := Lib.hid hxs
    have HOX := Lib.hid h
    have HG : Hid (∀ W, Fr w W [b] → W.cell? ⟨gp, 0, none⟩ = some vl ∧ HLs W vl L ∧ L.length ≤ 1000000) := Lib.hid hg
    have CL := Lib.hid (fun (e : En) (zb : Option Addr) (zc : Nat) (W : World) (hW : Fr w W [b]) (r : Bool) (hr : r = (!decide (laOf e ∈ L))) => idxg_clo e zb zc vl L gp W (HG.out W hW) r hr)
    have hP0 : purgeE (es.take i0) L = es.take i0 := by
      refine purge_all (fun i hi => ?_)
      rw [List.length_take] at hi
      have := hq0 i (by omega)
      have e : (es.take i0).getD i zeroE = es.getD i zeroE := by simp [List.getD, show i < i0 by omega]
      rw [e]; exact this
    have HST : Hid ((xs.take i0).map (·.1) = purgeE (es.take (i0 + 1)) L) := Lib.hid (by
      rw [purge_step es L i0 hi0, if_neg (by simpa using hp0), List.append_nil, hP0, List.map_take, hxs])
    have hi0n : i0 < n := by rw [hn, hnl]; exact hi0
    have hn6 : n ≤ 1000000 := by omega
    unfold maxLen at hcm
    rw [← hn] at HOX IX hnc ⊢
    clear h hxs hg hhe hnl hl hn hi0 hp0 hq0 hP0
    have hownb : (Value.slice (some ⟨b, 0, none⟩) n uc).ownBlock.toList = [b] := rfl
    have HDP : Hid (∀ u W zs, OwnE W B u zs → zs.map (·.1) = purgeE es L → Fr w W [b] → DelP w B (.slice (some ⟨b, 0, none⟩) n uc) es L u W) := Lib.hid (fun u W zs h1 h2 h3 => ⟨zs, h1, h2, by rw [hownb]; exact h3⟩)
    clear hownb
    go_enter Try.func37, Try.ntmps37
    go_wp2_with fail
    with_reducible refine (IX.out).mono ?_
    rintro e w1 ⟨rfl, hf⟩
    have HF1 := Lib.hid hf
    have HO1 := Lib.hid (HOX.out.keep hf)
    have hne1 : ((i0 : Int) == -1) = false := by simp
    clear hf IX
    go_wp2_with fail
    go_loopw [5, 6] (fun s5 s6 wx => ∃ (i j : Nat) (ys : List (En × Value)), s5 = .int .i64 i ∧ s6 = .int .i64 j ∧ Hid (i < j ∧ j ≤ n) ∧ Hid (ys.length = n ∧ (ys.take i).map (·.1) = purgeE (es.take j) L ∧ ys.drop j = xs.drop j) ∧ Hid (OwnE wx B (.slice (some ⟨b, 0, none⟩) n uc) ys) ∧ Hid (Fr w wx [b])) (fun _ s6 _ => n - (intOf s6).toNat)
    case atStart => exact ⟨i0, i0 + 1, xs, rfl, by go_num, Lib.hid ⟨Nat.lt_succ_self _, hi0n⟩, Lib.hid ⟨HN.out.symm, HST.out, rfl⟩, HO1, Lib.hid (HF1.out.mono (by simp))⟩
    case round =>
      clear HO1 HF1 HST HOX
      obtain ⟨i, j, ys, rfl, rfl, HIJ, HY, HO, HF⟩ := hrel
      obtain ⟨hij, hjn⟩ := HIJ.out
      clear HIJ
      by_cases hlt : j < n
      · have hyl : ys.length = n := HY.out.1
        obtain ⟨⟨e, vb⟩, hyj⟩ : ∃ x, ys[j]? = some x := ⟨_, List.getElem?_eq_getElem (by omega)⟩
        have HEJ : Hid (es.getD j zeroE = e) := Lib.hid (by
          have h1 : xs[j]? = some (e, vb) := by
            have := congrArg (fun l => l[0]?) HY.out.2.2
            simp only [List.getElem?_drop, Nat.add_zero] at this
            rw [← this]; exact hyj
          rw [← HXS.out, List.getD_eq_getElem?_getD, List.getElem?_map, h1]; rfl)
        obtain ⟨⟨t0, t1, t2, t3, t4⟩, _⟩ := HO.out.cells5 j _ hyj
        have hbo := HO.out.2 _ (List.mem_of_getElem? hyj)
        obtain ⟨zb, zc, hvb⟩ := hbo.shape
        dsimp only at hvb hbo
        subst hvb
        have HBO := Lib.hid hbo
        have HT := Lib.hid (show purgeE (es.take (j + 1)) L = purgeE (es.take j) L ++ (if laOf e ∈ L then [e] else []) by rw [← HEJ.out]; exact purge_step es L j (by have := HNE.out; omega))
        obtain ⟨r, hr⟩ : ∃ r, r = (!decide (laOf e ∈ L)) := ⟨_, rfl⟩
        have HR := Lib.hid hr
        obtain ⟨e0, e1, e2, el, e4⟩ := e
        dsimp only at t0 t1 t2 t3 t4 HBO
        have FA := Lib.hid (Fr.alloc wr (.cells #[.int .i64 e0, .int .i64 e1, .int .i64 e2, .slice zb el.length zc, .int .i64 e4] 40) [])
        have HP := Lib.hid (row5 (heap_alloc_new wr (.cells #[.int .i64 e0, .int .i64 e1, .int .i64 e2, .slice zb el.length zc, .int .i64 e4] 40)))
        have C1 := Lib.hid (CL.out ⟨e0, e1, e2, el, e4⟩ zb zc _ (HF.out.trans (FA.out.mono (by simp))) r hr)
        unfold enV at C1
        dsimp only at C1
        have HYJ := Lib.hid hyj
        obtain ⟨p0, p1, p2, p3, p4⟩ := HP.out
        have hbw : b < wr.heap.size := by
          obtain ⟨cs, hgr, _⟩ := row_at HO.out.1
          exact size_of_row hgr
        have HBW := Lib.hid hbw
        clear hr hyj hbo hyl HEJ hbw
        cases r with
        | true =>
          have HY2 : Hid (ys.length = n ∧ (ys.take i).map (·.1) = purgeE (es.take (j + 1)) L ∧ ys.drop (j + 1) = xs.drop (j + 1)) := Lib.hid ⟨HY.out.1, by rw [HT.out, if_neg (by have := HR.out; simpa using this), List.append_nil]; exact HY.out.2.1, by
            have := congrArg (List.drop 1) HY.out.2.2
            simpa [List.drop_drop, Nat.add_comm] using this⟩
          clear HY HT HR HBO HYJ
          go_wp2_with fail
          with_reducible refine (C1.out).mono ?_
          rintro e w4 ⟨rfl, hf⟩
          have HF4 := Lib.hid (HF.out.trans ((FA.out.trans hf).mono (by simp)))
          have HO4 := Lib.hid (HO.out.keep (FA.out.trans hf))
          clear hf C1 HF HO FA HP p0 p1 p2 p3 p4 t0 t1 t2 t3 t4
          go_wp2
          go_roundw
          case rel => exact ⟨i, j + 1, ys, rfl, by go_num, Lib.hid ⟨by omega, by omega⟩, HY2, HO4, HF4⟩
          case measure => simp [intOf]; omega
        | false =>
          have HY2 : Hid ((ys.set i (⟨e0, e1, e2, el, e4⟩, .slice zb el.length zc)).length = n ∧ ((ys.set i (⟨e0, e1, e2, el, e4⟩, .slice zb el.length zc)).take (i + 1)).map (·.1) = purgeE (es.take (j + 1)) L ∧ (ys.set i (⟨e0, e1, e2, el, e4⟩, .slice zb el.length zc)).drop (j + 1) = xs.drop (j + 1)) := Lib.hid ⟨by rw [List.length_set]; exact HY.out.1, by
              rw [HT.out, if_pos (by have := HR.out; simpa using this), set_take (by have := HY.out.1; omega), List.map_append, HY.out.2.1]; rfl, by
            rw [List.drop_set_of_lt (by omega)]
            have := congrArg (List.drop 1) HY.out.2.2
            simpa [List.drop_drop, Nat.add_comm] using this⟩
          obtain ⟨pp, hpp⟩ : ∃ pp, pp = wr.heap.size := ⟨_, rfl⟩
          have hil : i < ys.length := by have := HY.out.1; omega
          obtain ⟨x, hx⟩ : ∃ x, ys[i]? = some x := ⟨_, List.getElem?_eq_getElem hil⟩
          have HXI := Lib.hid hx
          clear HY HT HR hil hx
          go_wp2_with fail
          with_reducible refine (C1.out).mono ?_
          rintro e w4 ⟨rfl, hf⟩
          have HF4 := Lib.hid (HF.out.trans ((FA.out.trans hf).mono (by simp)))
          have HO4 := Lib.hid (HO.out.keep (FA.out.trans hf))
          have HB4 := Lib.hid (HBO.out.keep (FA.out.trans hf))
          have l0 := hf.cell p0 (by simp)
          have l1 := hf.cell p1 (by simp)
          have l2 := hf.cell p2 (by simp)
          have l3 := hf.cell p3 (by simp)
          have l4 := hf.cell p4 (by simp)
          rw [← hpp] at l0 l1 l2 l3 l4 ⊢
          clear hf C1 HF HO FA HP p0 p1 p2 p3 p4 t0 t1 t2 t3 t4 HBO hpp HBW
          obtain ⟨⟨k0, k1, k2, k3, k4⟩, f0, f1, f2, f3, f4⟩ := HO4.out.cells5 i x HXI.out
          have HO5 := Lib.hid (HO4.out.put5 i ⟨e0, e1, e2, el, e4⟩ (.slice zb el.length zc) HB4.out)
          have HF5 := Lib.hid (HF4.out.trans (put5_fr w4 b (i * 5) ⟨e0, e1, e2, el, e4⟩ (.slice zb el.length zc)))
          unfold Go.Proofs.Ytldheaamcnmlgaa.put5 at HO5 HF5
          dsimp only at HO5 HF5
          clear HO4 HF4 HB4 HXI HYJ
          go_wp2
          generalize World.setCell (World.setCell (World.setCell (World.setCell (World.setCell w4 _ _) _ _) _ _) _ _) _ _ = W5 at HO5 HF5 ⊢
          go_roundw
          case rel => exact ⟨i + 1, j + 1, _, by go_num, by go_num, Lib.hid ⟨by omega, by omega⟩, HY2, HO5, HF5⟩
          case measure => simp [intOf]; omega
      · obtain rfl : j = n := by omega
        obtain ⟨W, hrun, hown, hfr⟩ := HO.out.clear hij
        have HEND : Hid (∃ zs, OwnE W B (.slice (some ⟨b, 0, none⟩) i uc) zs ∧ zs.map (·.1) = purgeE es L ∧ Fr w W [b]) := Lib.hid ⟨ys.take i, hown, by have := HY.out.2.1; rwa [HNE.out, List.take_length] at this, HF.out.trans hfr⟩
        have hb1 : (i : Int) ≤ (uc : Int) := by omega
        have hb2 : ¬ (uc = i) := by omega
        have hb3 : i ≤ uc := by omega
        clear hown hfr HY HO HF CL HG
        go_wp2_with (at_builtin; refine wpList_clear rfl _ _ rfl _ rfl (hrun _) ?_)
        go_ret
        obtain ⟨zs, h1, h2, h3⟩ := HEND.out
        exact gives (HDP.out _ _ zs h1 h2 h3)
end Go.Proofs.Ytldheaamcnmlgaa

namespace Go.Proofs.Ytldheaamcnmlgaa
open Go.RowKit Fm

theorem three_boxes (w : World) (o1 o2 o3 : Obj) : Fr w (((w.alloc o1).alloc o2).alloc o3) [] ∧ (((w.alloc o1).alloc o2).alloc o3).heap[w.heap.size]? = some o1 ∧ (((w.alloc o1).alloc o2).alloc o3).heap[w.heap.size + 1]? = some o2 ∧ (((w.alloc o1).alloc o2).alloc o3).heap[w.heap.size + 2]? = some o3 := by
  obtain ⟨a, b⟩ := two_boxes w o1 o2
  have f3 := Fr.alloc ((w.alloc o1).alloc o2) o3 []
  have c := heap_alloc_new ((w.alloc o1).alloc o2) o3
  rw [show ((w.alloc o1).alloc o2).heap.size = w.heap.size + 2 by simp] at c
  exact ⟨((Fr.alloc w o1 []).trans (Fr.alloc (w.alloc o1) o2 [])).trans f3, f3.heap a (by simp), f3.heap b (by simp), c⟩
/-- Its entries' row has turned, to be stored. -/
theorem RB.anew {V a a' : World} {g : Nat} {co fo ho : Int} {um ve v' : Value} {ms : List Int} {xs zs : List (En × Value)} (h : RB V g co fo ho um ve ms xs a) (hf : Fr a a' ve.ownBlock.toList) (ho' : OwnE a' V.heap.size v' zs) : RBA V g co fo ho um ve ms v' zs a' := by
  have hne : ∀ r ∈ ve.ownBlock.toList, r ≠ g := fun r hr e => by
    subst e
    have : ve.ownBlock = some r := by simpa using hr
    exact row_ne h.oe.1 h.row (by decide) this
  refine ⟨h.f.new hf (fun r hr => (h.oe.block r (by simpa using hr)).1), h.hg, hf.heap h.row (fun hm => hne g hm rfl), ?_, ho'⟩
  refine row_fr h.oi hf (fun r hr => ?_)
  have hb : ve.ownBlock = some r := by simpa using hr
  rcases h.oe.1.2 with ⟨h1, _⟩ | ⟨b, cap, cur, h1, _, hgg, _⟩
  · rw [h1] at hb; simp [Value.ownBlock] at hb
  · rw [h1] at hb
    obtain rfl : b = r := by simpa [Value.ownBlock] using hb
    exact row_ne h.oi hgg (by decide)
theorem RB.far1 {V a a' : World} {g k : Nat} {co fo ho : Int} {um ve : Value} {ms : List Int} {xs : List (En × Value)} {cs : Array Value} {T : TypeId} (h : RB V g co fo ho um ve ms xs a) (hf : Fr a a' ve.ownBlock.toList) (hk : a.heap[k]? = some (.cells cs T (0, 0))) (hT : T ≠ 40) : a'.heap[k]? = some (.cells cs T (0, 0)) :=
  hf.heap hk (fun hm => by
    have hb : ve.ownBlock = some k := by simpa using hm
    exact row_ne h.oe.1 hk hT hb)
set_option maxHeartbeats 2000000 in
set_option maxRecDepth 100000 in
theorem purge_any (r : Rg) (vm ve vl : Value) (L : List La) (w : World) (hm : HInts w vm r.ms) (he : HE w ve r.es) (hml : r.ms.length ≤ 1000) (hel : r.es.length ≤ 1000) (hbl : ∀ e ∈ r.es, e.bs.length ≤ 1000) (hlv : HLs w vl L) (hll : L.length ≤ 1000000) :
    Calls Try.prog 17 #[rgV r vm ve, vl] w (Gives (GRing (purgeR r L) w)) := by
  have HLV := Lib.hid hlv
  obtain ⟨al, cl, hvl, _⟩ := hlv
  obtain ⟨nl, hnl⟩ : ∃ nl, nl = L.length := ⟨_, rfl⟩
  rw [← hnl] at hvl
  subst hvl
  clear hnl
  obtain ⟨co, fo, ho, ms, es⟩ := r
  dsimp only at hm he hml hel hbl
  have HMV := Lib.hid hm
  have HEV := Lib.hid he
  obtain ⟨am, cm, rfl, pm, qm, rm⟩ := hm
  obtain ⟨ae, ce, rfl, pe, qe, re⟩ := he
  unfold maxLen at qm qe
  have HBL := Lib.hid hbl
  have HEL := Lib.hid hel
  have HML := Lib.hid hml
  have HLS := Lib.hid re
  obtain ⟨n, hn⟩ : ∃ n, n = es.length := ⟨_, rfl⟩
  have HN := Lib.hid hn
  obtain ⟨m, hmm⟩ : ∃ m, m = ms.length := ⟨_, rfl⟩
  have HM := Lib.hid hmm
  rw [← hn] at hel pe HLS HEV
  rw [← hmm] at hml pm HMV
  unfold rgV
  dsimp only
  rw [← hn, ← hmm]
  clear rm re hbl hn hmm
  have CR := Lib.hid (fun W (hW : Fr w W []) => clone_any ⟨co, fo, ho, ms, es⟩ _ _ W (HMV.out.keep hW) (HEV.out.keep hW) HML.out HEL.out HBL.out)
  obtain ⟨g, hg⟩ : ∃ g, g = w.heap.size := ⟨_, rfl⟩
  have HG := Lib.hid hg
  have H3 := Lib.hid (three_boxes w (.cells #[.int .i64 co, .int .i64 fo, .int .i64 ho, .slice am m cm, .slice ae n ce] 27) (.cells #[.slice al nl cl] 47) (.cells #[.int .i64 0, .int .i64 0, .int .i64 0, .slice none 0 0, .slice none 0 0] 27))
  go_enter Try.func17, Try.ntmps17
  go_upto_region 1 with fail
  generalize ((w.alloc _).alloc _).alloc _ = V at H3 ⊢
  rw [← hg] at H3 ⊢
  clear hg
  have HF2 := Lib.hid H3.out.1
  have HTW := Lib.hid (And.intro H3.out.2.1 H3.out.2.2.2)
  obtain ⟨y0, y1, y2, y3, y4⟩ := row5 HTW.out.1
  have CR1 := Lib.hid (CR.out V HF2.out)
  unfold rgV at CR1
  dsimp only at CR1
  clear CR
  go_wp2_with fail
  with_reducible refine (CR1.out).mono ?_
  rintro e w1 ⟨u, rfl, hcr⟩
  obtain ⟨va, vc, ua, uc, xs, hu, hxs, ⟨x0, x1, x2, x3, x4⟩, ⟨f0, f1, f2, f3, f4⟩, hrb, hfv⟩ := RB.of_clone hcr HF2.out (Nat.le_of_eq HG.out.symm) HTW.out.1
  dsimp only at hu hxs hrb hfv
  rw [← HN.out, ← HM.out] at hu hrb hfv
  subst hu
  have HRB := Lib.hid hrb
  have HFV := Lib.hid hfv
  have HXS := Lib.hid hxs
  have HZ := Lib.hid (hfv.heap HTW.out.2 (by intro hm; have := List.mem_singleton.1 hm; omega))
  clear hcr hrb hfv hxs CR1
  unfold rgV
  dsimp only
  go_upto_region 2 with fail
  clear y0 y1 y2 y3 y4 x0 x1 x2 x3 x4 f0 f1 f2 f3 f4
  generalize World.setCell (World.setCell (World.setCell (World.setCell (World.setCell w1 _ _) _ _) _ _) _ _) _ _ = w2 at HRB HFV HZ ⊢
  have HLB := Lib.hid (HFV.out.heap H3.out.2.2.1 (by intro hm; have := List.mem_singleton.1 hm; omega))
  have DE := Lib.hid (del_any (.slice ua n uc) xs es L (.slice al nl cl) w.heap.size (g + 1) w2 HRB.out.oe HXS.out (by have := HEL.out; omega) (fun W hW => ⟨by
      rw [cell_of_row _ _ 0 _ _ _ (HRB.out.far1 hW HLB.out (by decide))]; rfl, HLV.out.keep (HRB.out.f.new hW (fun r hr => (HRB.out.oe.block r (by simpa using hr)).1)), hll⟩))
  obtain ⟨q0, q1, q2, q3, q4⟩ := row5 HRB.out.row
  go_wp2_with fail
  with_reducible refine (DE.out).mono ?_
  rintro e w3 ⟨u, rfl, zs, h1, h2, h3⟩
  have HRA := Lib.hid (HRB.out.anew h3 h1)
  have HZ3 := Lib.hid (HRB.out.far1 h3 HZ.out (by decide))
  have HXZ : Hid (zs.map (·.1) = purgeE es L) := Lib.hid h2
  have hzn : zs.length ≤ 1000 := by
    have h := congrArg List.length h2
    rw [List.length_map] at h
    have h2 := List.length_filter_le (fun e => decide (laOf e ∈ L)) es
    unfold purgeE at h
    have := HEL.out
    omega
  obtain ⟨ub, ud, rfl⟩ := h1.shape
  clear h1 h2 h3 DE HLB HRB HZ q0 q1 q2 q3 q4
  obtain ⟨t0, t1⟩ := HRA.out.cells
  have HRB := Lib.hid HRA.out.store
  have HZ := Lib.hid ((Fr.setCell w3 g 4 (.slice ub zs.length ud) (S := [g]) (by simp)).heap HZ3.out (by intro hm; have := List.mem_singleton.1 hm; omega))
  clear HRA HZ3
  go_upto_region 3 with fail
  clear t0 t1
  generalize World.setCell w3 _ _ = w4 at HRB HZ ⊢
  obtain ⟨q0, q1, q2, q3, q4⟩ := row5 HRB.out.row
  obtain ⟨z0, z1, z2, z3, z4⟩ := row5 HZ.out
  obtain ⟨f0, f1, f2, f3, f4⟩ := fz5 HZ.out
  obtain ⟨⟨e0, e1, e2, e3, e4⟩, HENDa⟩ := HRB.out.give HZ.out (by have := HG.out; omega)
  have HEND := Lib.hid HENDa
  clear HENDa HZ HRB
  go_wp2
  generalize World.setCell (World.setCell (World.setCell (World.setCell (World.setCell w4 _ _) _ _) _ _) _ _) _ _ = WE at e0 e1 e2 e3 e4 HEND ⊢
  exact bodyPost_ret (v := .agg #[.int .i64 co, .int .i64 fo, .int .i64 ho, .slice va m vc, .slice ub zs.length ud]) (by simp [results, Try.results17, go_sem, e0, e1, e2, e3, e4]) rfl (gives (⟨⟨_, _, rfl, HEND.out.1, (by show HE _ _ (purgeE es L); rw [← HXZ.out]; exact HEND.out.2.1)⟩, HEND.out.2.2⟩))
end Go.Proofs.Ytldheaamcnmlgaa
