/- A ring is read. -/
import Derived.Test.YtpeocdcciecpoaaDoorFRead2
namespace Go.Proofs.YtpeocdcciecpoaaDoor
open Go.RowKit Fm

theorem infoEn : (Tryd.prog.info? 61).map (fun i => (i.zero, i.size, i.bytes)) = some (some (.agg #[.int .i64 0, .int .i64 0, .int .i64 0, .slice none 0 0, .int .i64 0]), 5, 56) := by kernel_rfl
theorem row_grown {w w' : World} {B sz n B' sz' n' : Nat} {T T' : TypeId} {v v' : Value} {xs xs' : List Value} (h : w.ownsRow B T sz v n xs) (ho : w.ownsRow B' T' sz' v' n' xs') (hgr : w.grownBy w' v'.ownBlock) (hT : T ≠ T') : w'.ownsRow B T sz v n xs := by
  refine ⟨h.1, ?_⟩
  rcases h.2 with h2 | ⟨g, cap, cur, rfl, hb, hgg, rest⟩
  · exact .inl h2
  · exact .inr ⟨g, cap, cur, rfl, hb, row_far hgr ho hgg hT, rest⟩
theorem row_mono {w : World} {B B' sz n : Nat} {T : TypeId} {v : Value} {xs : List Value} (h : w.ownsRow B T sz v n xs) (hB : B' ≤ B) : w.ownsRow B' T sz v n xs :=
  ⟨h.1, h.2.imp id (fun ⟨g, cap, cur, a, b, c⟩ => ⟨g, cap, cur, a, by omega, c⟩)⟩
theorem row_set {w : World} {B sz n : Nat} {T T' : TypeId} {v : Value} {xs : List Value} {g : Nat} {cs : Array Value} (h : w.ownsRow B T sz v n xs) (hg : w.heap[g]? = some (.cells cs T' (0, 0))) (hT : T' ≠ T) (i : Nat) (u : Value) : (w.setCell ⟨g, i, none⟩ u).ownsRow B T sz v n xs :=
  row_fr h (Fr.setCell w g i u (S := [g]) (by simp)) (by intro r hr; obtain rfl := List.mem_singleton.1 hr; exact row_ne h hg hT)
theorem OwnI.holds {w : World} {B : Nat} {v : Value} {l : List Int} (h : OwnI w B v l) : Holds .i64 w v l := by
  rcases h.2 with ⟨rfl, h0⟩ | ⟨g, cap, cur, rfl, hb, hg, hn, hm, hs, ht⟩
  · obtain rfl := List.eq_nil_of_length_eq_zero h0
    exact nil_ints
  · refine ⟨_, cap, rfl, hn, hm, fun _ => ⟨g, 0, rfl, fun i hi => ?_⟩⟩
    have e : (i64s l)[i]? = some (.int .i64 (l.getD i 0)) := by simp [i64s, hi]
    rw [← ht] at e
    rw [List.getElem?_take_of_lt (by omega)] at e
    rw [Nat.zero_add, cell_of_row w g i _ _ _ hg]
    simpa using e

/-- The cells of entries, each with its slice of bids. -/
def enc1 (x : En × Value) : List Value := [.int .i64 x.1.fl, .int .i64 x.1.di, .int .i64 x.1.ge, x.2, .int .i64 x.1.aw]
def encs (xs : List (En × Value)) : List Value := xs.flatMap enc1
theorem encs_get (xs : List (En × Value)) (i : Nat) (x : En × Value) (h : xs[i]? = some x) : (encs xs)[i * 5]? = some (.int .i64 x.1.fl) ∧ (encs xs)[i * 5 + 1]? = some (.int .i64 x.1.di) ∧ (encs xs)[i * 5 + 2]? = some (.int .i64 x.1.ge) ∧ (encs xs)[i * 5 + 3]? = some x.2 ∧ (encs xs)[i * 5 + 4]? = some (.int .i64 x.1.aw) := by
  induction xs generalizing i with
  | nil => simp at h
  | cons b l ih =>
    cases i with
    | zero =>
      simp at h
      subst h
      simp [encs, enc1]
    | succ i =>
      have h' : l[i]? = some x := by simpa using h
      have := ih i h'
      have e : encs (b :: l) = .int .i64 b.1.fl :: .int .i64 b.1.di :: .int .i64 b.1.ge :: b.2 :: .int .i64 b.1.aw :: encs l := by simp [encs, enc1]
      rw [e, show (i + 1) * 5 = i * 5 + 1 + 1 + 1 + 1 + 1 by omega]
      simpa using this
/-- A row of entries of the call's own, each with bids of its own. -/
def OwnE (w : World) (B : Nat) (v : Value) (xs : List (En × Value)) : Prop := w.ownsRow B 61 5 v xs.length (encs xs) ∧ ∀ x ∈ xs, OwnB w B x.2 x.1.bs
theorem OwnE.he {w : World} {B : Nat} {v : Value} {xs : List (En × Value)} (h : OwnE w B v xs) : HE w v (xs.map (·.1)) := by
  rcases h.1.2 with ⟨rfl, h0⟩ | ⟨g, cap, cur, rfl, hb, hg, hn, hm, hs, ht⟩
  · obtain rfl := List.eq_nil_of_length_eq_zero h0
    exact nil_ents
  · refine ⟨_, cap, by rw [List.length_map], by rw [List.length_map]; exact hn, hm, fun _ => ⟨g, 0, rfl, fun i hi => ?_⟩⟩
    rw [List.length_map] at hi
    have hx : xs[i]? = some xs[i] := List.getElem?_eq_getElem hi
    have key : ∀ j u, (encs xs)[j]? = some u → w.cell? ⟨g, j, none⟩ = some u := fun j u hj => by
      rw [← ht] at hj
      have hlt : j < xs.length * 5 := by
        have := (List.getElem?_eq_some_iff.1 hj).1
        simp at this; omega
      rw [List.getElem?_take_of_lt hlt] at hj
      rw [cell_of_row w g j _ _ _ hg]
      simpa using hj
    obtain ⟨c0, c1, c2, c3, c4⟩ := encs_get xs i _ hx
    have e : (xs.map (·.1)).getD i zeroE = xs[i].1 := by simp [hi]
    rw [e, Nat.zero_add]
    exact ⟨xs[i].2, key _ _ c0, key _ _ c1, key _ _ c2, key _ _ c3, key _ _ c4, (h.2 _ (List.getElem_mem hi)).hb⟩
theorem OwnE.fr {w w' : World} {B : Nat} {v : Value} {xs : List (En × Value)} (h : OwnE w B v xs) {S : List Nat} (hg : Fr w w' S) (hS : ∀ r ∈ S, ∃ cs T, w.heap[r]? = some (.cells cs T (0, 0)) ∧ T ≠ 61 ∧ T ≠ 63) : OwnE w' B v xs :=
  ⟨row_fr h.1 hg (fun r hr => by obtain ⟨cs, T, hc, h1, h2⟩ := hS r hr; exact row_ne h.1 hc h1), fun x hx => row_fr (h.2 x hx) hg (fun r hr => by obtain ⟨cs, T, hc, h1, h2⟩ := hS r hr; exact row_ne (h.2 x hx) hc h2)⟩
theorem OwnE.mono {w : World} {B B' : Nat} {v : Value} {xs : List (En × Value)} (h : OwnE w B v xs) (hB : B' ≤ B) : OwnE w B' v xs := ⟨row_mono h.1 hB, fun x hx => row_mono (h.2 x hx) hB⟩
/-- A ring that was read. -/
def RingP (A : Nat → Addr) (B p : Nat) (l : List Int) (R : Rg) (k c : Nat) (w0 : World) (v : Value) (w' : World) : Prop :=
  ∃ vm ve xs, v = rgV R vm ve ∧ OwnI w' w0.heap.size vm R.ms ∧ OwnE w' w0.heap.size ve xs ∧ xs.map (·.1) = R.es ∧ RS w' A B p l k c ∧ Fr w0 w' [p]
theorem RS.types {w : World} {A : Nat → Addr} {B p : Nat} {l : List Int} {k c : Nat} (h : RS w A B p l k c) : ∀ r ∈ [p], ∃ cs T, w.heap[r]? = some (.cells cs T (0, 0)) ∧ T ≠ 61 ∧ T ≠ 63 := by
  intro r hr
  obtain rfl := List.mem_singleton.1 hr
  obtain ⟨cs, hc⟩ := h.rdr
  exact ⟨cs, _, hc, by decide, by decide⟩

set_option maxHeartbeats 8000000 in
set_option maxRecDepth 100000 in
theorem readRing_any (p : Nat) (l : List Int) (k c : Nat) (w : World) (A : Nat → Addr) (B : Nat) (h : RS w A B p l k c) (R : Rg) (k' c' : Nat) (hn : Fm.rdRg l k c = (R, k', c')) :
    Calls Tryd.prog 71 #[.pointer (some ⟨p, 0, none⟩)] w (Gives (RingP A B p l R k' c' w)) := by
  obtain ⟨i0, hi, hz0, hz1, hz2⟩ := info_parts infoI
  obtain ⟨i1, ii, iz0, iz1, iz2⟩ := info_parts infoEn
  have HN := Lib.hid hn
  have HP := Lib.hid h.lt
  have HF0 := Lib.hid (Fr.alloc w (.cells #[.int .i64 0, .int .i64 0, .int .i64 0, .slice none 0 0, .slice none 0 0] 27) [p])
  have HG0 := Lib.hid (heap_alloc_new w (.cells #[.int .i64 0, .int .i64 0, .int .i64 0, .slice none 0 0, .slice none 0 0] 27))
  have H0 := Lib.hid (h.keep (Fr.alloc w (.cells #[.int .i64 0, .int .i64 0, .int .i64 0, .slice none 0 0, .slice none 0 0] 27) []))
  obtain ⟨x1, k1, c1, h1⟩ : ∃ x k' c', Fm.num 1 4294967295 l k c = (x, k', c') := ⟨_, _, _, rfl⟩
  obtain ⟨x2, k2, c2, h2⟩ : ∃ x k' c', Fm.num 0 15 l k1 c1 = (x, k', c') := ⟨_, _, _, rfl⟩
  obtain ⟨x3, k3, c3, h3⟩ : ∃ x k' c', Fm.num 0 1099511627776 l k2 c2 = (x, k', c') := ⟨_, _, _, rfl⟩
  obtain ⟨x4, k4, c4, h4⟩ : ∃ x k' c', Fm.num 0 16 l k3 c3 = (x, k', c') := ⟨_, _, _, rfl⟩
  have hr4 := range_len h4
  have H1 := Lib.hid h1
  have H2 := Lib.hid h2
  have H3 := Lib.hid h3
  have H4 := Lib.hid h4
  obtain ⟨N, rfl⟩ := Int.eq_ofNat_of_zero_le hr4.1
  have hN : N ≤ 16 := by omega
  clear h hn h1 h2 h3 h4 hr4
  go_enter Tryd.func71, Tryd.ntmps71
  go_wp2_with fail
  refine (num_any p l k c 1 4294967295 _ A B H0.out x1 k1 c1 H1.out).mono ?_
  rintro e w1 ⟨rfl, hs, hf⟩
  have S1 := Lib.hid hs
  have F1 := Lib.hid (HF0.out.trans hf)
  have G1 := Lib.hid (hf.heap HG0.out (by have := HP.out; simp; omega))
  clear hs hf
  go_wp2_with fail
  refine (readCar_any p l k1 c1 _ A B S1.out x2 k2 c2 H2.out).mono ?_
  rintro e w2 ⟨rfl, hs, hf⟩
  have S2 := Lib.hid hs
  have F2 := Lib.hid (F1.out.trans hf)
  have G2 := Lib.hid (hf.heap G1.out (by have := HP.out; simp; omega))
  clear hs hf S1 F1 G1
  go_wp2_with fail
  refine (num_any p l k2 c2 0 1099511627776 _ A B S2.out x3 k3 c3 H3.out).mono ?_
  rintro e w3 ⟨rfl, hs, hf⟩
  have S3 := Lib.hid hs
  have F3 := Lib.hid (F2.out.trans hf)
  have G3 := Lib.hid (hf.heap G2.out (by have := HP.out; simp; omega))
  clear hs hf S2 F2 G2
  have hab := Lib.hid (Fr.alloc w3 (.cells #[.int .i64 x1, .int .i64 x2, .int .i64 x3, .slice none 0 0, .slice none 0 0] 27) [])
  have hbx := Lib.hid (heap_alloc_new w3 (.cells #[.int .i64 x1, .int .i64 x2, .int .i64 x3, .slice none 0 0, .slice none 0 0] 27))
  have S5 := Lib.hid (S3.out.keep hab.out)
  have F5 := Lib.hid (F3.out.trans (hab.out.mono (by simp)))
  have G5 := Lib.hid (hab.out.heap G3.out (by simp))
  have HW4 := Lib.hid (show w.heap.size + 1 ≤ w3.heap.size from by have := size_of_row G3.out; omega)
  go_wp2_with fail
  refine (readInt_any p l k3 c3 0 16 _ A B S5.out _ k4 c4 H4.out).mono ?_
  rintro e w5 ⟨rfl, hs, hf⟩
  have S6 := Lib.hid hs
  have F6 := Lib.hid (F5.out.trans hf)
  have G6 := Lib.hid (hf.heap G5.out (by have := HP.out; simp; omega))
  have B6 := Lib.hid (hf.heap hbx.out (by have := HP.out; have := HW4.out; simp; omega))
  clear hs hf S3 F3 G3 S5 F5 G5 hab hbx
  go_wp2
  go_loopw [14] (fun i wr => ∃ (j : Nat) (vm : Value), j ≤ N ∧ i = .int .i64 j ∧ RS wr A B p l (rep (Fm.num 0 15) j l k4 c4).2.1 (rep (Fm.num 0 15) j l k4 c4).2.2 ∧ OwnI wr (w.heap.size + 1) vm (rep (Fm.num 0 15) j l k4 c4).1 ∧ (rep (Fm.num 0 15) j l k4 c4).1.length = j ∧
      wr.heap[w3.heap.size]? = some (.cells #[.int .i64 x1, .int .i64 x2, .int .i64 x3, vm, .slice none 0 0] 27 (0, 0)) ∧ wr.heap[w.heap.size]? = some (.cells #[.int .i64 0, .int .i64 0, .int .i64 0, .slice none 0 0, .slice none 0 0] 27 (0, 0)) ∧ Fr w wr [p]) (fun i _ => N - (intOf i).toNat)
  case atStart => exact ⟨0, _, by omega, rfl, S6.out, ⟨rfl, .inl ⟨rfl, rfl⟩⟩, rfl, B6.out, G6.out, F6.out⟩
  case round =>
    clear S6 F6 G6 B6
    obtain ⟨j, vm, hj, rfl, hs, ho, hlen, hb, hg, hf⟩ := hrel
    have S := Lib.hid hs
    have O := Lib.hid ho
    have HL := Lib.hid hlen
    have BX := Lib.hid hb
    have GX := Lib.hid hg
    have F := Lib.hid hf
    clear hs ho hlen hb hg hf
    by_cases hlt : j < N
    · obtain ⟨y1, q1, d1, g1⟩ : ∃ x k' c', Fm.num 0 15 l (rep (Fm.num 0 15) j l k4 c4).2.1 (rep (Fm.num 0 15) j l k4 c4).2.2 = (x, k', c') := ⟨_, _, _, rfl⟩
      have Y1 := Lib.hid g1
      have HST : Hid (rep (Fm.num 0 15) (j + 1) l k4 c4 = ((rep (Fm.num 0 15) j l k4 c4).1 ++ [y1], q1, d1)) := by
        show _ = _
        rw [rep_succ, Y1.out]
      obtain ⟨ms, hbs⟩ : ∃ ms, (rep (Fm.num 0 15) j l k4 c4).1 = ms := ⟨_, rfl⟩
      have O1 := O.out
      have L1 := HL.out
      rw [hbs] at O1 L1 HST
      have OB := Lib.hid O1
      have LB := Lib.hid L1
      have SD := Lib.hid (S.out.keep (Fr.drew wr []))
      have BD := Lib.hid ((Fr.drew wr []).heap BX.out (by simp))
      have hbox0 := (row5 BD.out).2.2.2.1
      have HPL := Lib.hid (show p < wr.heap.size from S.out.lt)
      have HNP := Lib.hid (show w3.heap.size ≠ p by have := HP.out; have := HW4.out; omega)
      have HWB := Lib.hid (show w.heap.size + 1 ≤ wr.heap.size from by have := size_of_row GX.out; omega)
      clear g1 O1 L1 hbs
      go_wp2
      go_region_law (first
        | (go_simp; go_at_call 68; refine (readCar_any p l _ _ _ A B SD.out y1 q1 d1 Y1.out).mono ?_; rintro e wb ⟨rfl, hb, hfb⟩; have SB := Lib.hid hb; have FB := Lib.hid hfb; have BB := Lib.hid (hfb.heap BD.out (by simpa using HNP.out)); have hbox2 := (row5 BB.out).2.2.2.1; have hbox3 := (row5 ((Fr.alloc wb (.cells #[.int .i64 y1] 3) []).heap BB.out (by simp))).2.2.2.1; clear hb hfb)
        | (refine step_append_lies _ (by rfl) _ _ _ (by rfl) (w.heap.size + 1) 3 i0 _ 1 8 Tryd.underlying24 hi hz0 hz1 hz2 rfl (by omega) vm ms.length (i64s ms) (by rfl) (World.ownsRow.alloc (row_fr (row_fr OB.out (Fr.drew wr []) (by simp)) FB.out (SD.out.ne (row_fr OB.out (Fr.drew wr []) (by simp)) (by decide))) _) ⟨wb.heap.size, 0, none⟩ 1 1 [.int .i64 y1] (by rfl) (by rfl) (World.news_of_block (cs := #[.int .i64 y1]) (t := 3) (fr := (0, 0)) (heap_alloc_new wb _)) (by simp [Value.oneCell']) (by omega) (by have := LB.out; unfold maxLen; omega) (by have := LB.out; omega) (by have h1 := HWB.out; have h2 := FB.out.size; simp at h2 ⊢; omega) (wb.heap.size + 1) (by simp) ?_; intro gg cap wc hown hgrow hat hlt'; have OC := Lib.hid hown; have GC := Lib.hid hgrow; have BC := Lib.hid (row_far hgrow (World.ownsRow.alloc (row_fr (row_fr OB.out (Fr.drew wr []) (by simp)) FB.out (SD.out.ne (row_fr OB.out (Fr.drew wr []) (by simp)) (by decide))) _) ((Fr.alloc wb (.cells #[.int .i64 y1] 3) []).heap BB.out (by simp)) (by decide)); have hbox4 := (row5 BC.out).2.2.2.1; have hfz := frozen_of_row _ _ 3 _ _ BC.out; clear hown hgrow hat hlt'))
      all_goals
        have OA := Lib.hid (World.ownsRow.alloc (row_fr (row_fr OB.out (Fr.drew wr []) (by simp)) FB.out (SD.out.ne (row_fr OB.out (Fr.drew wr []) (by simp)) (by decide))) (.cells #[.int .i64 y1] 3))
        have FA1 := Lib.hid (Fr.alloc wb (.cells #[.int .i64 y1] 3) [])
        have SC := Lib.hid (((SB.out.keep FA1.out).row OA.out GC.out (by have := S.out.low; have := S.out.lt; have := HP.out; omega) (by decide) (by decide)).set BC.out (by have := S.out.low; have := HP.out; have := HW4.out; omega) (by decide) (by decide) 3 (.slice (some ⟨gg, 0, none⟩) (ms.length + 1) cap))
        have OD := Lib.hid (row_set OC.out BC.out (by decide) 3 (.slice (some ⟨gg, 0, none⟩) (ms.length + 1) cap))
        have GA := Lib.hid (FA1.out.heap (FB.out.heap ((Fr.drew wr []).heap GX.out (by simp)) (by have := HP.out; simp; omega)) (by simp))
        have GD := Lib.hid (row_far GC.out OA.out GA.out (by decide))
        have FD := Lib.hid (((((F.out.trans (Fr.drew wr [p])).trans FB.out).trans (FA1.out.mono (by simp))).row OA.out GC.out (by omega)).new (Fr.setCell wc w3.heap.size 3 (.slice (some ⟨gg, 0, none⟩) (ms.length + 1) cap) (S := [w3.heap.size]) (by simp)) (by have := HW4.out; simp; omega))
        go_wp2
        go_roundw
        case rel =>
          refine ⟨j + 1, _, by omega, by go_num, by rw [HST.out]; exact SC.out, ?_, by rw [HST.out]; simp [LB.out], by rw [heap_setCell_same _ _ 3 _ _ _ BC.out]; rfl, (Fr.setCell wc w3.heap.size 3 _ (S := [w3.heap.size]) (by simp)).heap GD.out (by have := HW4.out; simp; omega), FD.out⟩
          rw [HST.out]
          unfold OwnI
          rw [List.length_append, show i64s (ms ++ [y1]) = i64s ms ++ [.int .i64 y1] by simp [i64s]]
          exact OD.out
        case measure => simp [intOf]; omega
    obtain rfl : j = N := by omega
    obtain ⟨ms, k5, c5, hms⟩ : ∃ ms k' c', rep (Fm.num 0 15) j l k4 c4 = (ms, k', c') := ⟨_, _, _, rfl⟩
    have S7 := S.out
    have O7 := O.out
    have L7 := HL.out
    rw [hms] at S7 O7 L7
    have HMS := Lib.hid hms
    have S8 := Lib.hid S7
    have O8 := Lib.hid O7
    have L8 := Lib.hid L7
    clear hms S7 O7 L7 S O HL
    obtain ⟨x6, k6, c6, h6⟩ : ∃ x k' c', Fm.num 0 128 l k5 c5 = (x, k', c') := ⟨_, _, _, rfl⟩
    have hr6 := range_len h6
    have H6 := Lib.hid h6
    obtain ⟨M, rfl⟩ := Int.eq_ofNat_of_zero_le hr6.1
    have hM : M ≤ 128 := by omega
    clear h6 hr6
    have HRE : Hid (rdRg l k c = (⟨x1, x2, x3, ms, (rep (rdEn (j : Int)) M l k6 c6).1⟩, (rep (rdEn (j : Int)) M l k6 c6).2.1, (rep (rdEn (j : Int)) M l k6 c6).2.2)) := by
      show _ = _
      unfold rdRg
      simp only [Fm.bind, H1.out, H2.out, H3.out, H4.out, Int.toNat_natCast, HMS.out, H6.out, Fm.ret]
    obtain ⟨zm, cm, rfl⟩ := O8.out.holds.shape
    go_wp2_with fail
    refine (readInt_any p l k5 c5 0 128 _ A B S8.out _ k6 c6 H6.out).mono ?_
    rintro e w6 ⟨rfl, hs, hf⟩
    have S9 := Lib.hid hs
    have O9 := Lib.hid (row_fr O8.out hf (S8.out.ne O8.out (by decide)))
    have BX9 := Lib.hid (hf.heap BX.out (by have := HP.out; have := HW4.out; simp; omega))
    have GX9 := Lib.hid (hf.heap GX.out (by have := HP.out; simp; omega))
    have F9 := Lib.hid (F.out.trans hf)
    clear hs hf S8 O8 BX GX F hlt
    go_wp2
    go_loopw [26] (fun i wr => ∃ (t : Nat) (ve : Value) (xs : List (En × Value)), t ≤ M ∧ i = .int .i64 t ∧ RS wr A B p l (rep (rdEn (j : Int)) t l k6 c6).2.1 (rep (rdEn (j : Int)) t l k6 c6).2.2 ∧ OwnI wr (w.heap.size + 1) (.slice zm ms.length cm) ms ∧ OwnE wr (w.heap.size + 1) ve xs ∧ xs.map (·.1) = (rep (rdEn (j : Int)) t l k6 c6).1 ∧ xs.length = t ∧
        wr.heap[w3.heap.size]? = some (.cells #[.int .i64 x1, .int .i64 x2, .int .i64 x3, .slice zm ms.length cm, ve] 27 (0, 0)) ∧ wr.heap[w.heap.size]? = some (.cells #[.int .i64 0, .int .i64 0, .int .i64 0, .slice none 0 0, .slice none 0 0] 27 (0, 0)) ∧ Fr w wr [p]) (fun i _ => M - (intOf i).toNat)
    case atStart => exact ⟨0, _, [], by omega, rfl, S9.out, O9.out, ⟨⟨rfl, .inl ⟨rfl, rfl⟩⟩, by simp⟩, rfl, rfl, BX9.out, GX9.out, F9.out⟩
    case round =>
      clear S9 O9 BX9 GX9 F9
      obtain ⟨t, ve, xs, ht, rfl, hs, hom, hoe, hxs, hlen, hb, hg, hf⟩ := hrel
      have S := Lib.hid hs
      have OM := Lib.hid hom
      have OE := Lib.hid hoe
      have HXS := Lib.hid hxs
      have HL := Lib.hid hlen
      have BX := Lib.hid hb
      have GX := Lib.hid hg
      have F := Lib.hid hf
      clear hs hom hoe hxs hlen hb hg hf
      by_cases hlt : t < M
      · obtain ⟨E, q1, d1, g1⟩ : ∃ x k' c', rdEn (j : Int) l (rep (rdEn (j : Int)) t l k6 c6).2.1 (rep (rdEn (j : Int)) t l k6 c6).2.2 = (x, k', c') := ⟨_, _, _, rfl⟩
        have Y1 := Lib.hid g1
        have HST : Hid (rep (rdEn (j : Int)) (t + 1) l k6 c6 = (xs.map (·.1) ++ [E], q1, d1)) := by
          show _ = _
          rw [rep_succ, Y1.out, HXS.out]
        have SD := Lib.hid (S.out.keep (Fr.drew wr []))
        have BD := Lib.hid ((Fr.drew wr []).heap BX.out (by simp))
        have hbox0 := (row5 BD.out).2.2.2
        have HNP := Lib.hid (show w3.heap.size ≠ p by have := HP.out; have := HW4.out; omega)
        have HWB := Lib.hid (show w.heap.size + 1 ≤ wr.heap.size from by have := size_of_row GX.out; omega)
        have ML := Lib.hid (show ((ms.length : Nat) : Int) = (j : Int) by rw [L8.out])
        obtain ⟨E0, E1, E2, El, E4⟩ := E
        clear g1
        go_wp2
        go_region_law (first
          | (go_simp; go_at_call 88; rw [ML.out]; refine (readEntry_any p l _ _ (j : Int) (by omega) (by omega) _ A B SD.out ⟨E0, E1, E2, El, E4⟩ q1 d1 Y1.out).mono ?_; rintro e wb ⟨v, rfl, vb, rfl, hbd, hb, hfb⟩; unfold enV; obtain ⟨zb, cb, rfl⟩ := hbd.hb.shape; have OBD := Lib.hid (row_mono hbd (show w.heap.size + 1 ≤ _ by have := HWB.out; simpa using this)); have SB := Lib.hid hb; have FB := Lib.hid hfb; have BB := Lib.hid (hfb.heap BD.out (by simpa using HNP.out)); have hbox2 := (row5 BB.out).2.2.2; have hbox3 := (row5 ((Fr.alloc wb (.cells #[.int .i64 E0, .int .i64 E1, .int .i64 E2, .slice zb El.length cb, .int .i64 E4] 61) []).heap BB.out (by simp))).2.2.2; clear hb hfb hbd)
          | (refine step_append_lies _ (by rfl) _ _ _ (by rfl) (w.heap.size + 1) 61 i1 _ 5 56 Tryd.underlying25 ii iz0 iz1 iz2 rfl (by omega) ve xs.length (encs xs) (by rfl) (World.ownsRow.alloc (row_fr (row_fr OE.out.1 (Fr.drew wr []) (by simp)) FB.out (SD.out.ne (row_fr OE.out.1 (Fr.drew wr []) (by simp)) (by decide))) _) ⟨wb.heap.size, 0, none⟩ 1 1 [.int .i64 E0, .int .i64 E1, .int .i64 E2, .slice zb El.length cb, .int .i64 E4] (by rfl) (by rfl) (World.news_of_block (cs := #[.int .i64 E0, .int .i64 E1, .int .i64 E2, .slice zb El.length cb, .int .i64 E4]) (t := 61) (fr := (0, 0)) (heap_alloc_new wb _)) (by simp [Value.oneCell']) (by omega) (by have := HL.out; unfold maxLen; omega) (by have := HL.out; omega) (by have h1 := HWB.out; have h2 := FB.out.size; simp at h2 ⊢; omega) (wb.heap.size + 1) (by simp) ?_; intro gg cap wc hown hgrow hat hlt'; have OC := Lib.hid hown; have GC := Lib.hid hgrow; have BC := Lib.hid (row_far hgrow (World.ownsRow.alloc (row_fr (row_fr OE.out.1 (Fr.drew wr []) (by simp)) FB.out (SD.out.ne (row_fr OE.out.1 (Fr.drew wr []) (by simp)) (by decide))) _) ((Fr.alloc wb (.cells #[.int .i64 E0, .int .i64 E1, .int .i64 E2, .slice zb El.length cb, .int .i64 E4] 61) []).heap BB.out (by simp)) (by decide)); have hbox4 := (row5 BC.out).2.2.2.2; have hfz := frozen_of_row _ _ 4 _ _ BC.out; clear hown hgrow hat hlt'))
        all_goals
          have OD0 := Lib.hid (OE.out.fr (Fr.drew wr []) (by simp))
          have OE1 := Lib.hid ((OD0.out.fr FB.out SD.out.types).fr (Fr.alloc wb (.cells #[.int .i64 E0, .int .i64 E1, .int .i64 E2, .slice zb El.length cb, .int .i64 E4] 61) []) (by simp))
          have OBD1 := Lib.hid (row_fr OBD.out (Fr.alloc wb (.cells #[.int .i64 E0, .int .i64 E1, .int .i64 E2, .slice zb El.length cb, .int .i64 E4] 61) []) (by simp))
          have OM1 := Lib.hid (row_fr (row_fr (row_fr OM.out (Fr.drew wr []) (by simp)) FB.out (SD.out.ne (row_fr OM.out (Fr.drew wr []) (by simp)) (by decide))) (Fr.alloc wb (.cells #[.int .i64 E0, .int .i64 E1, .int .i64 E2, .slice zb El.length cb, .int .i64 E4] 61) []) (by simp))
          have FA1 := Lib.hid (Fr.alloc wb (.cells #[.int .i64 E0, .int .i64 E1, .int .i64 E2, .slice zb El.length cb, .int .i64 E4] 61) [])
          have SC := Lib.hid (((SB.out.keep FA1.out).row OE1.out.1 GC.out (by have := S.out.low; have := S.out.lt; have := HP.out; omega) (by decide) (by decide)).set BC.out (by have := S.out.low; have := HP.out; have := HW4.out; omega) (by decide) (by decide) 4 (.slice (some ⟨gg, 0, none⟩) (xs.length + 1) cap))
          have OC2 := Lib.hid (row_set OC.out BC.out (by decide) 4 (.slice (some ⟨gg, 0, none⟩) (xs.length + 1) cap))
          have OM2 := Lib.hid (row_set (row_grown OM1.out OE1.out.1 GC.out (by decide)) BC.out (by decide) 4 (.slice (some ⟨gg, 0, none⟩) (xs.length + 1) cap))
          have OB2 := Lib.hid (row_set (row_grown OBD1.out OE1.out.1 GC.out (by decide)) BC.out (by decide) 4 (.slice (some ⟨gg, 0, none⟩) (xs.length + 1) cap))
          have OX2 := Lib.hid (fun x (hx : x ∈ xs) => row_set (row_grown (OE1.out.2 x hx) OE1.out.1 GC.out (by decide)) BC.out (by decide) 4 (.slice (some ⟨gg, 0, none⟩) (xs.length + 1) cap))
          have GA := Lib.hid (FA1.out.heap (FB.out.heap ((Fr.drew wr []).heap GX.out (by simp)) (by have := HP.out; simp; omega)) (by simp))
          have GD := Lib.hid (row_far GC.out OE1.out.1 GA.out (by decide))
          have FD := Lib.hid (((((F.out.trans (Fr.drew wr [p])).trans FB.out).trans (FA1.out.mono (by simp))).row OE1.out.1 GC.out (by omega)).new (Fr.setCell wc w3.heap.size 4 (.slice (some ⟨gg, 0, none⟩) (xs.length + 1) cap) (S := [w3.heap.size]) (by simp)) (by have := HW4.out; simp; omega))
          go_wp2
          go_roundw
          case rel =>
            refine ⟨t + 1, _, xs ++ [(⟨E0, E1, E2, El, E4⟩, .slice zb El.length cb)], by omega, by go_num, by rw [HST.out]; exact SC.out, OM2.out, ⟨?_, ?_⟩, by rw [HST.out]; simp, by simp [HL.out], by rw [heap_setCell_same _ _ 4 _ _ _ BC.out]; rfl, (Fr.setCell wc w3.heap.size 4 _ (S := [w3.heap.size]) (by simp)).heap GD.out (by have := HW4.out; simp; omega), FD.out⟩
            · rw [List.length_append, show encs (xs ++ [(⟨E0, E1, E2, El, E4⟩, .slice zb El.length cb)]) = encs xs ++ [.int .i64 E0, .int .i64 E1, .int .i64 E2, .slice zb El.length cb, .int .i64 E4] by simp [encs, enc1]]
              exact OC2.out
            · intro x hx
              rcases List.mem_append.1 hx with hx | hx
              · exact OX2.out x hx
              · obtain rfl := List.mem_singleton.1 hx
                exact OB2.out
          case measure => simp [intOf]; omega
      · obtain rfl : t = M := by omega
        obtain ⟨es, q, d, hes⟩ : ∃ es q d, rep (rdEn (j : Int)) t l k6 c6 = (es, q, d) := ⟨_, _, _, rfl⟩
        have S1 := S.out
        have X1 := HXS.out
        rw [hes] at S1 X1
        have HE2 : Hid (R = ⟨x1, x2, x3, ms, es⟩ ∧ k' = q ∧ c' = d) := by
          have := HN.out
          rw [HRE.out, hes] at this
          simp only [Prod.mk.injEq] at this
          exact ⟨this.1.symm, this.2.1.symm, this.2.2.symm⟩
        have SF := Lib.hid S1
        have HX1 := Lib.hid X1
        clear S1 X1 hes S HXS
        have hk := row5 BX.out
        have hg := row5 GX.out
        have z0 := frozen_of_row _ _ 0 _ _ GX.out
        have z1 := frozen_of_row _ _ 1 _ _ GX.out
        have z2 := frozen_of_row _ _ 2 _ _ GX.out
        have z3 := frozen_of_row _ _ 3 _ _ GX.out
        have z4 := frozen_of_row _ _ 4 _ _ GX.out
        obtain ⟨zb, cb, hvb⟩ := OE.out.he.shape
        rw [List.length_map] at hvb
        subst hvb
        go_wp2
        have F5 := Lib.hid (set5 wr w.heap.size (.int .i64 x1) (.int .i64 x2) (.int .i64 x3) (.slice zm ms.length cm) (.slice zb xs.length cb))
        have hgt : ∀ r ∈ [w.heap.size], ∃ cs T, wr.heap[r]? = some (.cells cs T (0, 0)) ∧ T ≠ 61 ∧ T ≠ 63 := by
          intro r hr; obtain rfl := List.mem_singleton.1 hr; exact ⟨_, _, GX.out, by decide, by decide⟩
        have HR : Hid (RingP A B p l R k' c' w (.agg #[.int .i64 x1, .int .i64 x2, .int .i64 x3, .slice zm ms.length cm, .slice zb xs.length cb]) (((((wr.setCell ⟨w.heap.size, 0, none⟩ (.int .i64 x1)).setCell ⟨w.heap.size, 1, none⟩ (.int .i64 x2)).setCell ⟨w.heap.size, 2, none⟩ (.int .i64 x3)).setCell ⟨w.heap.size, 3, none⟩ (.slice zm ms.length cm)).setCell ⟨w.heap.size, 4, none⟩ (.slice zb xs.length cb))) := by
          obtain ⟨rfl, rfl, rfl⟩ := HE2.out
          refine ⟨_, _, xs, rfl, ?_, ?_, HX1.out, ?_, F.out.new F5.out (by simp)⟩
          · exact row_mono (B := w.heap.size + 1) (row_fr OM.out F5.out (by intro r hr; obtain rfl := List.mem_singleton.1 hr; exact row_ne OM.out GX.out (by decide))) (by omega)
          · exact (OE.out.fr F5.out hgt).mono (by omega)
          · refine SF.out.fr F5.out (by have := HP.out; simp; omega) (by intro r hr; obtain rfl := List.mem_singleton.1 hr; have := SF.out.low; have := HP.out; omega) (by intro r hr; obtain rfl := List.mem_singleton.1 hr; exact ⟨_, _, GX.out, by decide⟩)
        exact bodyPost_ret (v := .agg #[.int .i64 x1, .int .i64 x2, .int .i64 x3, .slice zm ms.length cm, .slice zb xs.length cb]) (by simp [results, Tryd.results71, go_sem, hg]) rfl (gives HR.out)
end Go.Proofs.YtpeocdcciecpoaaDoor
