/- An entry is read. -/
import Derived.Test.YtpeocdcciecpoaaDoorFRead
import Derived.Deep.AppendLies
import Derived.Deep.RegionLaw
namespace Go.Proofs.YtpeocdcciecpoaaDoor
open Go.RowKit Fm

theorem infoBd : (Tryd.prog.info? 63).map (fun i => (i.zero, i.size, i.bytes)) = some (some (.agg #[.int .i64 0, .int .i64 0]), 2, 16) := by kernel_rfl
theorem rdBid_eq {l : List Int} {k c : Nat} {y1 y2 : Int} {q1 d1 q2 d2 : Nat} (h1 : Fm.num 0 15 l k c = (y1, q1, d1)) (h2 : Fm.num 0 1048576 l q1 d1 = (y2, q2, d2)) : rdBid l k c = ((y1, y2), q2, d2) := by
  simp only [rdBid, Fm.bind, h1, h2, Fm.ret]
/-- A box is written anew. -/
theorem set5 (w : World) (g : Nat) (a b c d e : Value) : Fr w (((((w.setCell ⟨g, 0, none⟩ a).setCell ⟨g, 1, none⟩ b).setCell ⟨g, 2, none⟩ c).setCell ⟨g, 3, none⟩ d).setCell ⟨g, 4, none⟩ e) [g] :=
  ((((Fr.setCell w g 0 a (by simp)).trans (Fr.setCell _ g 1 b (by simp))).trans (Fr.setCell _ g 2 c (by simp))).trans (Fr.setCell _ g 3 d (by simp))).trans (Fr.setCell _ g 4 e (by simp))
theorem range_len {hi : Int} {l : List Int} {k c : Nat} {x : Int} {k' c' : Nat} (h : Fm.num 0 hi l k c = (x, k', c')) : 0 ≤ x ∧ (x ≤ hi ∨ x = 0) := by
  rcases num_range h with h | h <;> omega

set_option maxHeartbeats 4000000 in
set_option maxRecDepth 100000 in
theorem readEntry_any (p : Nat) (l : List Int) (k c : Nat) (m : Int) (hm0 : 0 ≤ m) (hm : m ≤ 16) (w : World) (A : Nat → Addr) (B : Nat) (h : RS w A B p l k c) (E : En) (k' c' : Nat) (hn : Fm.rdEn m l k c = (E, k', c')) :
    Calls Tryd.prog 88 #[.pointer (some ⟨p, 0, none⟩), .int .i64 m] w (Gives fun v w' => ∃ vb, v = enV E vb ∧ OwnB w' w.heap.size vb E.bs ∧ RS w' A B p l k' c' ∧ Fr w w' [p]) := by
  obtain ⟨i0, hi, hz0, hz1, hz2⟩ := info_parts infoBd
  have H := Lib.hid h
  have HN := Lib.hid hn
  have HP := Lib.hid h.lt
  have HF0 := Lib.hid (Fr.alloc w (.cells #[.int .i64 0, .int .i64 0, .int .i64 0, .slice none 0 0, .int .i64 0] 61) [p])
  have HG0 := Lib.hid (heap_alloc_new w (.cells #[.int .i64 0, .int .i64 0, .int .i64 0, .slice none 0 0, .int .i64 0] 61))
  have H0 := Lib.hid (h.keep (Fr.alloc w (.cells #[.int .i64 0, .int .i64 0, .int .i64 0, .slice none 0 0, .int .i64 0] 61) []))
  obtain ⟨x1, k1, c1, h1⟩ : ∃ x k' c', Fm.num 0 63 l k c = (x, k', c') := ⟨_, _, _, rfl⟩
  obtain ⟨x2, k2, c2, h2⟩ : ∃ x k' c', Fm.num (-1) 1 l k1 c1 = (x, k', c') := ⟨_, _, _, rfl⟩
  obtain ⟨x3, k3, c3, h3⟩ : ∃ x k' c', Fm.num 1 2147483647 l k2 c2 = (x, k', c') := ⟨_, _, _, rfl⟩
  obtain ⟨x4, k4, c4, h4⟩ : ∃ x k' c', Fm.num (-1) 15 l k3 c3 = (x, k', c') := ⟨_, _, _, rfl⟩
  obtain ⟨x5, k5, c5, h5⟩ : ∃ x k' c', Fm.num 0 m l k4 c4 = (x, k', c') := ⟨_, _, _, rfl⟩
  have hr5 := range_len h5
  have H1 := Lib.hid h1
  have H2 := Lib.hid h2
  have H3 := Lib.hid h3
  have H4 := Lib.hid h4
  have H5 := Lib.hid h5
  obtain ⟨N, rfl⟩ := Int.eq_ofNat_of_zero_le hr5.1
  have hN : N ≤ 16 := by omega
  have HRE : Hid (rdEn m l k c = (⟨x1, x2, x3, (rep rdBid N l k5 c5).1, x4⟩, (rep rdBid N l k5 c5).2.1, (rep rdBid N l k5 c5).2.2)) := by
    show _ = _
    simp only [rdEn, Fm.bind, H1.out, H2.out, H3.out, H4.out, H5.out, Int.toNat_natCast, Fm.ret]
  clear h hn h1 h2 h3 h4 h5 hr5
  go_enter Tryd.func88, Tryd.ntmps88
  go_wp2_with fail
  refine (readInt_any p l k c 0 63 _ A B H0.out x1 k1 c1 H1.out).mono ?_
  rintro e w1 ⟨rfl, hs, hf⟩
  have S1 := Lib.hid hs
  have F1 := Lib.hid (HF0.out.trans hf)
  have G1 := Lib.hid (hf.heap HG0.out (by have := HP.out; simp; omega))
  clear hs hf
  go_wp2_with fail
  refine (readInt_any p l k1 c1 (-1) 1 _ A B S1.out x2 k2 c2 H2.out).mono ?_
  rintro e w2 ⟨rfl, hs, hf⟩
  have S2 := Lib.hid hs
  have F2 := Lib.hid (F1.out.trans hf)
  have G2 := Lib.hid (hf.heap G1.out (by have := HP.out; simp; omega))
  clear hs hf S1 F1 G1
  go_wp2_with fail
  refine (readInt_any p l k2 c2 1 2147483647 _ A B S2.out x3 k3 c3 H3.out).mono ?_
  rintro e w3 ⟨rfl, hs, hf⟩
  have S3 := Lib.hid hs
  have F3 := Lib.hid (F2.out.trans hf)
  have G3 := Lib.hid (hf.heap G2.out (by have := HP.out; simp; omega))
  clear hs hf S2 F2 G2
  go_wp2_with fail
  refine (readInt_any p l k3 c3 (-1) 15 _ A B S3.out x4 k4 c4 H4.out).mono ?_
  rintro e w4 ⟨rfl, hs, hf⟩
  have S4 := Lib.hid hs
  have F4 := Lib.hid (F3.out.trans hf)
  have G4 := Lib.hid (hf.heap G3.out (by have := HP.out; simp; omega))
  clear hs hf S3 F3 G3
  have hab := Lib.hid (Fr.alloc w4 (.cells #[.int .i64 x1, .int .i64 x2, .int .i64 x3, .slice none 0 0, .int .i64 x4] 61) [])
  have hbx := Lib.hid (heap_alloc_new w4 (.cells #[.int .i64 x1, .int .i64 x2, .int .i64 x3, .slice none 0 0, .int .i64 x4] 61))
  have S5 := Lib.hid (S4.out.keep hab.out)
  have F5 := Lib.hid (F4.out.trans (hab.out.mono (by simp)))
  have G5 := Lib.hid (hab.out.heap G4.out (by simp))
  have HW4 := Lib.hid (show w.heap.size + 1 ≤ w4.heap.size from by have := size_of_row G4.out; omega)
  go_wp2_with fail
  refine (readInt_any p l k4 c4 0 m _ A B S5.out _ k5 c5 H5.out).mono ?_
  rintro e w5 ⟨rfl, hs, hf⟩
  have S6 := Lib.hid hs
  have F6 := Lib.hid (F5.out.trans hf)
  have G6 := Lib.hid (hf.heap G5.out (by have := HP.out; simp; omega))
  have B6 := Lib.hid (hf.heap hbx.out (by have := HP.out; have := HW4.out; simp; omega))
  clear hs hf S4 F4 G4 S5 F5 G5 hab hbx
  go_wp2
  go_loopw [20] (fun i wr => ∃ (j : Nat) (vb : Value), j ≤ N ∧ i = .int .i64 j ∧ RS wr A B p l (rep rdBid j l k5 c5).2.1 (rep rdBid j l k5 c5).2.2 ∧ OwnB wr (w.heap.size + 1) vb (rep rdBid j l k5 c5).1 ∧ (rep rdBid j l k5 c5).1.length = j ∧
      wr.heap[w4.heap.size]? = some (.cells #[.int .i64 x1, .int .i64 x2, .int .i64 x3, vb, .int .i64 x4] 61 (0, 0)) ∧ wr.heap[w.heap.size]? = some (.cells #[.int .i64 0, .int .i64 0, .int .i64 0, .slice none 0 0, .int .i64 0] 61 (0, 0)) ∧ Fr w wr [p]) (fun i _ => N - (intOf i).toNat)
  case atStart => exact ⟨0, _, by omega, rfl, S6.out, ⟨rfl, .inl ⟨rfl, rfl⟩⟩, rfl, B6.out, G6.out, F6.out⟩
  case round =>
    obtain ⟨j, vb, hj, rfl, hs, ho, hlen, hb, hg, hf⟩ := hrel
    have S := Lib.hid hs
    have O := Lib.hid ho
    have HL := Lib.hid hlen
    have BX := Lib.hid hb
    have GX := Lib.hid hg
    have F := Lib.hid hf
    clear hs ho hlen hb hg hf
    by_cases hlt : j < N
    · obtain ⟨y1, q1, d1, g1⟩ : ∃ x k' c', Fm.num 0 15 l (rep rdBid j l k5 c5).2.1 (rep rdBid j l k5 c5).2.2 = (x, k', c') := ⟨_, _, _, rfl⟩
      obtain ⟨y2, q2, d2, g2⟩ : ∃ x k' c', Fm.num 0 1048576 l q1 d1 = (x, k', c') := ⟨_, _, _, rfl⟩
      have Y1 := Lib.hid g1
      have Y2 := Lib.hid g2
      have HST : Hid (rep rdBid (j + 1) l k5 c5 = ((rep rdBid j l k5 c5).1 ++ [(y1, y2)], q2, d2)) := by
        have e := rdBid_eq Y1.out Y2.out
        show _ = _
        rw [rep_succ, e]
      obtain ⟨bs, hbs⟩ : ∃ bs, (rep rdBid j l k5 c5).1 = bs := ⟨_, rfl⟩
      have O1 := O.out
      have L1 := HL.out
      rw [hbs] at O1 L1 HST
      have OB := Lib.hid O1
      have LB := Lib.hid L1
      have SD := Lib.hid (S.out.keep (Fr.drew wr []))
      have BD := Lib.hid ((Fr.drew wr []).heap BX.out (by simp))
      have hbox0 := (row5 BD.out).2.2.2.1
      have HPL := Lib.hid (show p < wr.heap.size from S.out.lt)
      have HBL := Lib.hid (size_of_row BX.out)
      have HNP := Lib.hid (show w4.heap.size ≠ p by have := HP.out; have := HW4.out; omega)
      have HWB := Lib.hid (show w.heap.size + 1 ≤ wr.heap.size from by have := size_of_row GX.out; omega)
      clear g1 g2 O1 L1 hbs
      go_wp2
      go_region_law (first
        | (go_simp; go_at_call 68; refine (readCar_any p l _ _ _ A B SD.out y1 q1 d1 Y1.out).mono ?_; rintro e wa ⟨rfl, ha, hfa⟩; have SA := Lib.hid ha; have FA := Lib.hid hfa; have BA := Lib.hid (hfa.heap BD.out (by simpa using HNP.out)); have hbox1 := (row5 BA.out).2.2.2.1; clear ha hfa)
        | (go_simp; go_at_call 86; refine (readInt_any p l _ _ 0 1048576 _ A B SA.out y2 q2 d2 Y2.out).mono ?_; rintro e wb ⟨rfl, hb, hfb⟩; have SB := Lib.hid hb; have FB := Lib.hid (FA.out.trans hfb); have BB := Lib.hid (hfb.heap BA.out (by simpa using HNP.out)); have hbox2 := (row5 BB.out).2.2.2.1; have hbox3 := (row5 ((Fr.alloc wb (.cells #[.int .i64 y1, .int .i64 y2] 63) []).heap BB.out (by simp))).2.2.2.1; clear hb hfb)
        | (refine step_append_lies _ (by rfl) _ _ _ (by rfl) (w.heap.size + 1) 63 i0 _ 2 16 Tryd.underlying59 hi hz0 hz1 hz2 rfl (by omega) vb bs.length (bdc bs) (by rfl) (World.ownsRow.alloc (row_fr (row_fr OB.out (Fr.drew wr []) (by simp)) FB.out (SD.out.ne (row_fr OB.out (Fr.drew wr []) (by simp)) (by decide))) _) ⟨wb.heap.size, 0, none⟩ 1 1 [.int .i64 y1, .int .i64 y2] (by rfl) (by rfl) (World.news_of_block (cs := #[.int .i64 y1, .int .i64 y2]) (t := 63) (fr := (0, 0)) (heap_alloc_new wb _)) (by simp [Value.oneCell']) (by omega) (by have := LB.out; unfold maxLen; omega) (by have := LB.out; omega) (by have h1 := HWB.out; have h2 := FB.out.size; simp at h2 ⊢; omega) (wb.heap.size + 1) (by simp) ?_; intro gg cap wc hown hgrow hat hlt'; have OC := Lib.hid hown; have GC := Lib.hid hgrow; have BC := Lib.hid (row_far hgrow (World.ownsRow.alloc (row_fr (row_fr OB.out (Fr.drew wr []) (by simp)) FB.out (SD.out.ne (row_fr OB.out (Fr.drew wr []) (by simp)) (by decide))) _) ((Fr.alloc wb (.cells #[.int .i64 y1, .int .i64 y2] 63) []).heap BB.out (by simp)) (by decide)); have hbox4 := (row5 BC.out).2.2.2.1; have hfz := frozen_of_row _ _ 3 _ _ BC.out; clear hown hgrow hat hlt'))
      all_goals
        have OA := Lib.hid (World.ownsRow.alloc (row_fr (row_fr OB.out (Fr.drew wr []) (by simp)) FB.out (SD.out.ne (row_fr OB.out (Fr.drew wr []) (by simp)) (by decide))) (.cells #[.int .i64 y1, .int .i64 y2] 63))
        have FA1 := Lib.hid (Fr.alloc wb (.cells #[.int .i64 y1, .int .i64 y2] 63) [])
        have SC := Lib.hid (((SB.out.keep FA1.out).row OA.out GC.out (by have := S.out.low; have := S.out.lt; have := HP.out; omega) (by decide) (by decide)).set BC.out (by have := S.out.low; have := HP.out; have := HW4.out; omega) (by decide) (by decide) 3 (.slice (some ⟨gg, 0, none⟩) (bs.length + 1) cap))
        have OD := Lib.hid (row_fr OC.out (Fr.setCell wc w4.heap.size 3 (.slice (some ⟨gg, 0, none⟩) (bs.length + 1) cap) (S := [w4.heap.size]) (by simp)) (by intro r hr; obtain rfl := List.mem_singleton.1 hr; exact row_ne OC.out BC.out (by decide)))
        have GA := Lib.hid (FA1.out.heap (FB.out.heap ((Fr.drew wr []).heap GX.out (by simp)) (by have := HP.out; simp; omega)) (by simp))
        have GD := Lib.hid (row_far GC.out OA.out GA.out (by decide))
        have FD := Lib.hid (((((F.out.trans (Fr.drew wr [p])).trans FB.out).trans (FA1.out.mono (by simp))).row OA.out GC.out (by omega)).new (Fr.setCell wc w4.heap.size 3 (.slice (some ⟨gg, 0, none⟩) (bs.length + 1) cap) (S := [w4.heap.size]) (by simp)) (by have := HW4.out; simp; omega))
        go_wp2
        go_roundw
        case rel =>
          refine ⟨j + 1, _, by omega, by go_num, by rw [HST.out]; exact SC.out, ?_, by rw [HST.out]; simp [LB.out], by rw [heap_setCell_same _ _ 3 _ _ _ BC.out]; rfl, (Fr.setCell wc w4.heap.size 3 _ (S := [w4.heap.size]) (by simp)).heap GD.out (by have := HW4.out; simp; omega), FD.out⟩
          rw [HST.out]
          unfold OwnB
          rw [List.length_append, show bdc (bs ++ [(y1, y2)]) = bdc bs ++ [.int .i64 y1, .int .i64 y2] by simp [bdc]]
          exact OD.out
        case measure => simp [intOf]; omega
    · obtain rfl : j = N := by omega
      obtain ⟨bs, q, d, hbs⟩ : ∃ bs q d, rep rdBid j l k5 c5 = (bs, q, d) := ⟨_, _, _, rfl⟩
      have O1 := O.out
      have S1 := S.out
      rw [hbs] at O1 S1
      have HE2 : Hid (E = ⟨x1, x2, x3, bs, x4⟩ ∧ k' = q ∧ c' = d) := by
        have := HN.out
        rw [HRE.out, hbs] at this
        simp only [Prod.mk.injEq] at this
        exact ⟨this.1.symm, this.2.1.symm, this.2.2.symm⟩
      have SF := Lib.hid S1
      have OF := Lib.hid O1
      clear O1 S1 hbs S O
      have hk := row5 BX.out
      have hg := row5 GX.out
      have z0 := frozen_of_row _ _ 0 _ _ GX.out
      have z1 := frozen_of_row _ _ 1 _ _ GX.out
      have z2 := frozen_of_row _ _ 2 _ _ GX.out
      have z3 := frozen_of_row _ _ 3 _ _ GX.out
      have z4 := frozen_of_row _ _ 4 _ _ GX.out
      obtain ⟨zb, cb, hvb⟩ := OF.out.hb.shape
      subst hvb
      go_wp2
      have F5 := Lib.hid (set5 wr w.heap.size (.int .i64 x1) (.int .i64 x2) (.int .i64 x3) (.slice zb bs.length cb) (.int .i64 x4))
      have HR : Hid (∃ vb, (.agg #[.int .i64 x1, .int .i64 x2, .int .i64 x3, .slice zb bs.length cb, .int .i64 x4] : Value) = enV E vb ∧ OwnB (((((wr.setCell ⟨w.heap.size, 0, none⟩ (.int .i64 x1)).setCell ⟨w.heap.size, 1, none⟩ (.int .i64 x2)).setCell ⟨w.heap.size, 2, none⟩ (.int .i64 x3)).setCell ⟨w.heap.size, 3, none⟩ (.slice zb bs.length cb)).setCell ⟨w.heap.size, 4, none⟩ (.int .i64 x4)) w.heap.size vb E.bs ∧
          RS (((((wr.setCell ⟨w.heap.size, 0, none⟩ (.int .i64 x1)).setCell ⟨w.heap.size, 1, none⟩ (.int .i64 x2)).setCell ⟨w.heap.size, 2, none⟩ (.int .i64 x3)).setCell ⟨w.heap.size, 3, none⟩ (.slice zb bs.length cb)).setCell ⟨w.heap.size, 4, none⟩ (.int .i64 x4)) A B p l k' c' ∧
          Fr w (((((wr.setCell ⟨w.heap.size, 0, none⟩ (.int .i64 x1)).setCell ⟨w.heap.size, 1, none⟩ (.int .i64 x2)).setCell ⟨w.heap.size, 2, none⟩ (.int .i64 x3)).setCell ⟨w.heap.size, 3, none⟩ (.slice zb bs.length cb)).setCell ⟨w.heap.size, 4, none⟩ (.int .i64 x4)) [p]) := by
        obtain ⟨rfl, rfl, rfl⟩ := HE2.out
        refine ⟨_, rfl, ?_, ?_, F.out.new F5.out (by simp)⟩
        · have h := row_fr OF.out F5.out (by intro r hr; obtain rfl := List.mem_singleton.1 hr; exact row_ne OF.out GX.out (by decide))
          exact ⟨h.1, h.2.imp id (fun ⟨g, cap, cur, a, b, c⟩ => ⟨g, cap, cur, a, by omega, c⟩)⟩
        · refine SF.out.fr F5.out (by have := HP.out; simp; omega) (by intro r hr; obtain rfl := List.mem_singleton.1 hr; have := SF.out.low; have := HP.out; omega) (by intro r hr; obtain rfl := List.mem_singleton.1 hr; exact ⟨_, _, GX.out, by decide⟩)
      exact bodyPost_ret (v := .agg #[.int .i64 x1, .int .i64 x2, .int .i64 x3, .slice zb bs.length cb, .int .i64 x4]) (by simp [results, Tryd.results88, go_sem, hg, z0, z1, z2, z3, z4]) rfl (gives HR.out)
end Go.Proofs.YtpeocdcciecpoaaDoor
