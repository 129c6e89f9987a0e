/- The walk of the frame's law of rings: members that do not rise, entries out of order, bids of others, awards to others, more of them than may be, are told. -/
import Derived.Test.YtpeocdcciecpoaaDoorFRings
import Derived.IntWalk
namespace Go.Proofs.YtpeocdcciecpoaaDoor
open Go.RowKit Fm

theorem EVr {w : World} {A : Nat → Addr} {B : Nat} (h : E13 w A B) : EV [2, 3, 6, 10] w A B := h.evs [2, 3, 6, 10]
set_option maxHeartbeats 16000000 in
set_option maxRecDepth 100000 in
theorem frings_walk (what n : Int) (hwh : (Lit.int .i64 what).wf = true) (hn : (Lit.int .i64 n).wf = true) (w : World) (A : Nat → Addr) (hE : E13 w A w.heap.size) :
    Calls Tryd.prog 7 #[.int .i64 what, .int .i64 n] w fun e w' => e = .returned (.bool true) ∧ w.grownBy w' none := by
  obtain ⟨hw0, hw1⟩ := bounds_i64 hwh
  obtain ⟨hn0, hn1⟩ := bounds_i64 hn
  obtain ⟨i0, hi, hz0, hz1, hz2⟩ := info_parts infoI
  obtain ⟨i1, ii, iz0, iz1, iz2⟩ := info_parts infoEn
  have HEV := Lib.hid hE
  obtain ⟨k, hk⟩ := Int.eq_ofNat_of_zero_le (Int.emod_nonneg n (show (5 : Int) ≠ 0 by omega))
  obtain ⟨m, hm⟩ : ∃ m : Nat, m = k + 2 := ⟨_, rfl⟩
  have hkl : k < 5 := by have := Int.emod_lt_of_pos n (show (0 : Int) < 5 by omega); omega
  have hm2 : 2 ≤ m := by omega
  have hm6 : m ≤ 6 := by omega
  have hwk : IntKind.i64.wrap ((k : Int) + 2) = (m : Int) := by rw [IntWalk.i64_in _ (by omega)]; omega
  have N1 := Lib.hid (fun W => (show Calls Tryd.prog 22 #[.int .i64 n, .int .i64 5] W fun e w' => e = .returned (.int .i64 (k : Int)) ∧ W = w' from hk ▸ numberTo_any n 5 W (by omega) (by omega) hn0 hn1))
  obtain ⟨j, hj⟩ : ∃ j, j = what % 10 := ⟨_, rfl⟩
  have hjc : j = 0 ∨ j = 1 ∨ j = 2 ∨ j = 3 ∨ j = 4 ∨ j = 5 ∨ j = 6 ∨ j = 7 ∨ j = 8 ∨ j = 9 := by omega
  have HJC := Lib.hid hjc
  have N2 := Lib.hid (fun W => (show Calls Tryd.prog 22 #[.int .i64 what, .int .i64 10] W fun e w' => e = .returned (.int .i64 j) ∧ W = w' from hj ▸ numberTo_any what 10 W (by omega) (by omega) hw0 hw1))
  clear hE hk hm hkl hj hjc hw0 hw1 hn0 hn1 hwh hn
  go_enter Tryd.func7, Tryd.ntmps7
  go_wp2_with fail
  refine (first5_any _ A _ _ (EVr HEV.out)).mono ?_
  rintro e w1 ⟨rfl, hf1⟩
  have F1 := Lib.hid hf1
  clear hf1
  go_wp2_with fail
  refine (N1.out _).mono ?_
  rintro e w2 ⟨rfl, rfl⟩
  have FA := Lib.hid (F1.out.trans (Fr.alloc w1 (.cells #[.int .i64 3, .int .i64 1, .int .i64 4, .slice none 0 0, .slice none 0 0] 27) []))
  have BA := Lib.hid (heap_alloc_new w1 (.cells #[.int .i64 3, .int .i64 1, .int .i64 4, .slice none 0 0, .slice none 0 0] 27))
  have HW1 := Lib.hid F1.out.size
  go_wp2
  clear hwk
  go_loopw [7] (fun i wr => ∃ (j : Nat) (vm : Value), j ≤ m ∧ i = .int .i64 j ∧ OwnI wr w.heap.size vm (evens j) ∧ wr.heap[w1.heap.size]? = some (.cells #[.int .i64 3, .int .i64 1, .int .i64 4, vm, .slice none 0 0] 27 (0, 0)) ∧ Fr w wr []) (fun i _ => m - (intOf i).toNat)
  case atStart => exact ⟨0, _, by omega, rfl, ⟨rfl, .inl ⟨rfl, rfl⟩⟩, BA.out, FA.out⟩
  case round =>
    clear FA BA
    obtain ⟨t, vm, ht, rfl, ho, hb, hf⟩ := hrel
    have O := Lib.hid ho
    have BX := Lib.hid hb
    have FX := Lib.hid hf
    have HS := Lib.hid (show w.heap.size ≤ wr.heap.size from hf.size)
    have HL := Lib.hid (evens_len t)
    clear ho hb hf
    by_cases hlt : t < m
    · have hw2 : IntKind.i64.wrap (2 * (t : Int)) = 2 * (t : Int) := IntWalk.i64_in _ (by omega)
      have q0 := (row5 BX.out).2.2.2.1
      have q1 := (row5 ((Fr.alloc wr (.cells #[.int .i64 (2 * (t : Int))] 3) []).heap BX.out (by simp))).2.2.2.1
      go_wp2_with (at_builtin; refine wpList_append_own _ rfl _ _ 24 rfl w.heap.size 3 i0 (.int .i64 0) 1 8 Tryd.underlying24 hi hz0 hz1 hz2 rfl (by decide) vm (evens t).length (i64s (evens t)) rfl (World.ownsRow.alloc O.out _) ⟨wr.heap.size, 0, none⟩ 1 1 [.int .i64 (2 * (t : Int))] rfl rfl (cell_one_new _ _ _) (ints_oneCell _ [2 * (t : Int)]) (by rw [HL.out]; unfold maxLen; omega) (by rw [HL.out]; omega) (by have := HS.out; simp; omega) ?_; intro v' wc hown hgrow _; have OC := Lib.hid hown; have GC := Lib.hid hgrow; have BC := Lib.hid (row_far hgrow (World.ownsRow.alloc O.out _) ((Fr.alloc wr (.cells #[.int .i64 (2 * (t : Int))] 3) []).heap BX.out (by simp)) (by decide)); obtain ⟨ag, cg, hvg⟩ := row_shape hown; rw [HL.out] at hvg; subst hvg; have hfz := frozen_of_row _ _ 3 _ _ BC.out; have q2 := (row5 BC.out).2.2.2.1; clear hown hgrow)
      have FC := Lib.hid ((FX.out.trans (Fr.alloc wr (.cells #[.int .i64 (2 * (t : Int))] 3) [])).row (World.ownsRow.alloc O.out _) GC.out (Nat.le_refl _))
      have SX := Lib.hid (Fr.setCell wc w1.heap.size 3 (.slice ag (t + 1) cg) (S := [w1.heap.size]) (by simp))
      have OD := Lib.hid (row_fr OC.out SX.out (by intro r hr; obtain rfl := List.mem_singleton.1 hr; exact row_ne OC.out BC.out (by decide)))
      have FD := Lib.hid (FC.out.new SX.out (by have := HW1.out; simp; omega))
      clear hw2
      go_wp2
      go_roundw
      case rel =>
        refine ⟨t + 1, .slice ag (t + 1) cg, by omega, by go_num, ?_, by rw [heap_setCell_same _ _ 3 _ _ _ BC.out]; rfl, FD.out⟩
        rw [evens_succ]
        unfold OwnI
        rw [List.length_append, show i64s (evens t ++ [2 * (t : Int)]) = i64s (evens t) ++ [.int .i64 (2 * (t : Int))] by simp [i64s]]
        exact OD.out
      case measure => simp [intOf]; omega
    obtain rfl : t = m := by omega
    obtain ⟨zm, cm, hvm⟩ := row_shape O.out
    rw [HL.out] at hvm
    subst hvm
    have HMM := Lib.hid (And.intro hm2 hm6)
    clear hlt HL ht
    go_wp2
    go_loopw [8] (fun i wr => ∃ (j : Nat) (ve : Value) (xs : List (En × Value)), j ≤ t ∧ i = .int .i64 j ∧ OwnI wr w.heap.size (.slice zm t cm) (evens t) ∧ OwnE wr w.heap.size ve xs ∧ xs.map (·.1) = ents j ∧ wr.heap[w1.heap.size]? = some (.cells #[.int .i64 3, .int .i64 1, .int .i64 4, .slice zm t cm, ve] 27 (0, 0)) ∧ Fr w wr []) (fun i _ => t - (intOf i).toNat)
    case atStart => exact ⟨0, _, [], by omega, rfl, O.out, ⟨⟨rfl, .inl ⟨rfl, rfl⟩⟩, by simp⟩, rfl, BX.out, FX.out⟩
    case round =>
      clear O BX FX HS
      rename_i wr0
      obtain ⟨j2, ve, xs, hj2, rfl, hom, hoe, hxs, hb, hf⟩ := hrel
      have OM := Lib.hid hom
      have OE := Lib.hid hoe
      have BX := Lib.hid hb
      have FX := Lib.hid hf
      have HXS := Lib.hid hxs
      have HS := Lib.hid (show w.heap.size ≤ wr.heap.size from hf.size)
      have HL := Lib.hid (show xs.length = j2 by rw [← ents_len j2, ← hxs, List.length_map])
      clear hom hoe hxs hb hf
      by_cases hlt : j2 < t
      · have q0 := (row5 BX.out).2.2.2.2
        have TB := Lib.hid (two_boxes wr (.cells #[.int .i64 0, .int .i64 (j2 : Int), .int .i64 2, .int .i64 5] 63) (.cells #[.int .i64 (j2 : Int), .int .i64 1, .int .i64 1, .slice (some ⟨wr.heap.size, 0, none⟩) 2 2, .int .i64 (-1)] 61))
        have A2 := Lib.hid ((Fr.alloc wr (.cells #[.int .i64 0, .int .i64 (j2 : Int), .int .i64 2, .int .i64 5] 63) []).trans (Fr.alloc _ (.cells #[.int .i64 (j2 : Int), .int .i64 1, .int .i64 1, .slice (some ⟨wr.heap.size, 0, none⟩) 2 2, .int .i64 (-1)] 61) []))
        have OE1 := Lib.hid (OE.out.fr A2.out (by simp))
        have OM1 := Lib.hid (row_fr OM.out A2.out (by simp))
        have B1 := Lib.hid (A2.out.heap BX.out (by simp))
        have q1 := (row5 B1.out).2.2.2.2
        go_wp2_with (at_builtin; refine wpList_append_own _ rfl _ _ 25 rfl w.heap.size 61 i1 (.agg #[.int .i64 0, .int .i64 0, .int .i64 0, .slice none 0 0, .int .i64 0]) 5 56 Tryd.underlying25 ii iz0 iz1 iz2 rfl (by decide) ve xs.length (encs xs) rfl OE1.out.1 ⟨wr.heap.size + 1, 0, none⟩ 1 1 [.int .i64 (j2 : Int), .int .i64 1, .int .i64 1, .slice (some ⟨wr.heap.size, 0, none⟩) 2 2, .int .i64 (-1)] rfl rfl (World.news_of_block (cs := #[.int .i64 (j2 : Int), .int .i64 1, .int .i64 1, .slice (some ⟨wr.heap.size, 0, none⟩) 2 2, .int .i64 (-1)]) (t := 61) (fr := (0, 0)) TB.out.2) (by simp [Value.oneCell']) (by rw [HL.out]; unfold maxLen; omega) (by rw [HL.out]; omega) (by have := HS.out; simp; omega) ?_; intro v' wc hown hgrow _; have OC := Lib.hid hown; have GC := Lib.hid hgrow; have BC := Lib.hid (row_far hgrow OE1.out.1 B1.out (by decide)); have DC := Lib.hid (row_far hgrow OE1.out.1 TB.out.1 (by decide)); obtain ⟨ag, cg, hvg⟩ := row_shape hown; rw [HL.out] at hvg; subst hvg; have hfz := frozen_of_row _ _ 4 _ _ BC.out; have q2 := (row5 BC.out).2.2.2.2; clear hown hgrow)
        have FC := Lib.hid ((FX.out.trans A2.out).row OE1.out.1 GC.out (Nat.le_refl _))
        have SX := Lib.hid (Fr.setCell wc w1.heap.size 4 (.slice ag (j2 + 1) cg) (S := [w1.heap.size]) (by simp))
        have FD := Lib.hid (FC.out.new SX.out (by have := HW1.out; simp; omega))
        have OC2 := Lib.hid (row_set OC.out BC.out (by decide) 4 (.slice ag (j2 + 1) cg))
        have OM2 := Lib.hid (row_set (row_grown OM1.out OE1.out.1 GC.out (by decide)) BC.out (by decide) 4 (.slice ag (j2 + 1) cg))
        have OB0 := Lib.hid (fresh_row (n := 2) (sz := 2) (c := 2) (xs := bdc [(0, (j2 : Int)), (2, 5)]) (show ((wr.alloc (.cells #[.int .i64 0, .int .i64 (j2 : Int), .int .i64 2, .int .i64 5] 63)).alloc (.cells #[.int .i64 (j2 : Int), .int .i64 1, .int .i64 1, .slice (some ⟨wr.heap.size, 0, none⟩) 2 2, .int .i64 (-1)] 61)).heap[wr.heap.size]? = some (.cells (bdc [(0, (j2 : Int)), (2, 5)]).toArray 63 (0, 0)) from TB.out.1) HS.out rfl rfl (by decide))
        have OB2 := Lib.hid (row_set (row_grown OB0.out OE1.out.1 GC.out (by decide)) BC.out (by decide) 4 (.slice ag (j2 + 1) cg))
        have OX2 := Lib.hid (fun x (hx : x ∈ xs) => row_set (row_grown (OE1.out.2 x hx) OE1.out.1 GC.out (by decide)) BC.out (by decide) 4 (.slice ag (j2 + 1) cg))
        go_wp2
        go_roundw
        case rel =>
          refine ⟨j2 + 1, .slice ag (j2 + 1) cg, xs ++ [(ent j2, .slice (some ⟨wr.heap.size, 0, none⟩) 2 2)], by omega, by go_num, OM2.out, ⟨?_, ?_⟩, by rw [ents_succ, ← HXS.out]; simp, by rw [heap_setCell_same _ _ 4 _ _ _ BC.out]; rfl, FD.out⟩
          · rw [List.length_append, show encs (xs ++ [(ent j2, .slice (some ⟨wr.heap.size, 0, none⟩) 2 2)]) = encs xs ++ [.int .i64 (j2 : Int), .int .i64 1, .int .i64 1, .slice (some ⟨wr.heap.size, 0, none⟩) 2 2, .int .i64 (-1)] by simp [encs, enc1, ent]]
            exact OC2.out
          · intro x hx
            rcases List.mem_append.1 hx with hx | hx
            · exact OX2.out x hx
            · obtain rfl := List.mem_singleton.1 hx
              exact OB2.out
        case measure => simp [intOf]; omega
      obtain rfl : j2 = t := by omega
      obtain ⟨ze, ce, hve⟩ := row_shape OE.out.1
      rw [HL.out] at hve
      subst hve
      have q0 := row5 BX.out
      have XF := Lib.hid (Fr.alloc wr (.cells #[.int .i64 2, .int .i64 0, .int .i64 2, .int .i64 0, .int .i64 0, .bool false, .int .i64 3, .int .i64 1, .int .i64 4, .slice zm j2 cm, .slice ze j2 ce] 29) [])
      have B9 := Lib.hid (heap_alloc_new wr (.cells #[.int .i64 2, .int .i64 0, .int .i64 2, .int .i64 0, .int .i64 0, .bool false, .int .i64 3, .int .i64 1, .int .i64 4, .slice zm j2 cm, .slice ze j2 ce] 29))
      have F9 := Lib.hid (FX.out.trans XF.out)
      have BX9 := Lib.hid (XF.out.heap BX.out (by simp))
      have OM9 := Lib.hid (row_fr OM.out XF.out (by simp))
      have OE9 := Lib.hid (OE.out.fr XF.out (by simp))
      clear hlt
      go_wp2_with fail
      have HVF := valid_frame (tok 3 0 (evens j2) (ents j2)) (.slice zm j2 cm) (.slice ze j2 ce) _ A _ _ (EVr (HEV.out.fr F9.out (by simp))) (OwnI.holds (B := w.heap.size) OM9.out) (by have h := OE9.out.he; rw [HXS.out] at h; exact h)
      refine HVF.mono ?_
      rintro e w10 ⟨rfl, hf10⟩
      rw [tok_ok j2 HMM.out.1 HMM.out.2, show ev A 0 = Value.nilIface from rfl]
      have F10 := Lib.hid (F9.out.trans hf10)
      have X10 := Lib.hid (hf10.heap BX9.out (by simp))
      have Y10 := Lib.hid (hf10.heap B9.out (by simp))
      have M10 := Lib.hid (row_fr OM9.out hf10 (by simp))
      have E10 := Lib.hid (OE9.out.fr hf10 (by simp))
      have HWR := Lib.hid (show w1.heap.size < wr.heap.size from size_of_row BX.out)
      clear hf10 q0 HVF
      go_wp2_with fail
      refine (N2.out _).mono ?_
      rintro e w11 ⟨rfl, rfl⟩
      have HLX := Lib.hid HL.out
      clear XF B9 BX9 OM9 OE9 OM OE BX N1 N2 HL HS
      rcases HJC.out with rfl | rfl | rfl | rfl | rfl | rfl | rfl | rfl | rfl | rfl
      · obtain ⟨gm, c1, hg1, _, _⟩ := row_head M10.out (by rw [evens_len]; have := HMM.out.1; omega)
        rw [evens_len] at hg1
        simp only [Value.slice.injEq, true_and] at hg1
        obtain ⟨rfl, rfl⟩ := hg1
        have AQ := Lib.hid (Fr.alloc w10 (.cells #[.int .i64 4] 3) [])
        have O4 := Lib.hid (fresh_row (n := 1) (sz := 1) (c := 1) (xs := [.int .i64 4]) (heap_alloc_new w10 (.cells #[.int .i64 4] 3)) (B := w.heap.size) F10.out.size rfl rfl (by decide))
        have M4 := Lib.hid (row_fr M10.out AQ.out (by simp))
        have HML := Lib.hid (show (i64s (evens j2)).length = j2 * 1 by simp [i64s, evens_len])
        have HMC := Lib.hid (fun j u (hj : (i64s (evens j2))[j]? = some u) => (show (w10.alloc (.cells #[.int .i64 4] 3)).cell? ((⟨gm, 0, none⟩ : Addr).add j) = some u by rw [show (⟨gm, 0, none⟩ : Addr).add j = ⟨gm, j, none⟩ by simp [Addr.add]; omega]; rw [World.ownsRow.cellAt (by have h := M4.out; rw [evens_len] at h; exact h) j (by have := (List.getElem?_eq_some_iff.1 hj).1; rw [HML.out] at this; exact this)]; exact hj))
        have YA := Lib.hid (AQ.out.heap Y10.out (by simp))
        have E4 := Lib.hid (E10.out.fr AQ.out (by simp))
        have x5 := row5 X10.out
        have x5' := row5 (AQ.out.heap X10.out (by simp))
        go_wp2_with (at_builtin; refine wpList_append_own _ rfl _ _ 24 rfl w.heap.size 3 i0 (.int .i64 0) 1 8 Tryd.underlying24 hi hz0 hz1 hz2 rfl (by decide) (.slice (some ⟨w10.heap.size, 0, none⟩) 1 1) 1 [.int .i64 4] rfl O4.out ⟨gm, 0, none⟩ j2 cm (i64s (evens j2)) rfl HML.out HMC.out (ints_oneCell _ _) (by have := HMM.out; unfold maxLen; omega) (by have := HMM.out; omega) (by have := F10.out.size; simp; omega) ?_; intro v' wc hown hgrow _; have OC := Lib.hid hown; have GC := Lib.hid hgrow; have YC := Lib.hid (row_far hgrow O4.out YA.out (by decide)); obtain ⟨ag, cg, hvg⟩ := row_shape hown; subst hvg; have hfz := frozen_of_row _ _ 9 _ _ YC.out; have y0 := row11 YC.out; clear hown hgrow)
        have FC0 := Lib.hid ((F10.out.trans AQ.out).row O4.out GC.out (Nat.le_refl _))
        have SX := Lib.hid (Fr.setCell wc wr.heap.size 9 (.slice ag (1 + j2) cg) (S := [wr.heap.size]) (by simp))
        have YQ : Hid ((wc.setCell ⟨wr.heap.size, 9, none⟩ (.slice ag (1 + j2) cg)).heap[wr.heap.size]? = some (.cells #[.int .i64 2, .int .i64 0, .int .i64 2, .int .i64 0, .int .i64 0, .bool false, .int .i64 3, .int .i64 1, .int .i64 4, .slice ag (1 + j2) cg, .slice ze j2 ce] 29 (0, 0))) := heap_setCell_same _ wr.heap.size 9 _ _ (.slice ag (1 + j2) cg) YC.out
        have FQ := Lib.hid (FC0.out.new SX.out (by have := HW1.out; have := HWR.out; simp; omega))
        have HMg : Hid (Holds .i64 (wc.setCell ⟨wr.heap.size, 9, none⟩ (.slice ag (1 + j2) cg)) (.slice ag (1 + j2) cg) (4 :: evens j2)) := by
          have h := row_set OC.out YC.out (by decide) 9 (.slice ag (1 + j2) cg)
          refine OwnI.holds (B := w.heap.size) ?_
          unfold OwnI
          rw [show (4 :: evens j2).length = 1 + j2 by rw [List.length_cons, evens_len]; omega]
          exact h
        have HEg : Hid (HE (wc.setCell ⟨wr.heap.size, 9, none⟩ (.slice ag (1 + j2) cg)) (.slice ze j2 ce) (ents j2)) := by
          have h0 : OwnE wc w.heap.size (.slice ze j2 ce) xs := ⟨row_grown E4.out.1 O4.out GC.out (by decide), fun x hx => row_grown (E4.out.2 x hx) O4.out GC.out (by decide)⟩
          have h := (h0.fr SX.out (by intro r hr; obtain rfl := List.mem_singleton.1 hr; exact ⟨_, _, YC.out, by decide, by decide⟩)).he
          rw [HXS.out] at h
          exact h
        clear x5 x5'
        have y1 := row11 YQ.out
        go_wp2_with fail
        clear hfz y0
        refine (bytes_frame (tok 3 0 (4 :: evens j2) (ents j2)) (.slice ag (1 + j2) cg) (.slice ze j2 ce) _ A _ _ (EVr (HEV.out.fr FQ.out (by simp))) HMg.out HEg.out).mono ?_
        rintro e wb hb
        obtain ⟨rfl, hfb⟩ := hb.bad (by rw [tok0 j2 HMM.out.1 HMM.out.2]; decide)
        rw [tok0 j2 HMM.out.1 HMM.out.2, ev_ne A (by decide)]
        have FB := Lib.hid (FQ.out.trans hfb)
        have MB := Lib.hid (HMg.out.keep hfb)
        have EB := Lib.hid (HEg.out.keep hfb)
        have y2 := row11 (hfb.heap YQ.out (by simp))
        have H3 := Lib.hid (fun W (hW : Fr w W []) => (ev_ne A (show 11 ≠ 0 by decide)) ▸ is_any A _ 11 111 W (HEV.out.fr hW (by simp)) (by decide) (by decide))
        clear hb hfb y1
        go_wp2_with fail
        refine (valid_frame (tok 3 0 (4 :: evens j2) (ents j2)) (.slice ag (1 + j2) cg) (.slice ze j2 ce) _ A _ _ (EVr (HEV.out.fr FB.out (by simp))) MB.out EB.out).mono ?_
        rintro e wc ⟨rfl, hfc⟩
        rw [tok0 j2 HMM.out.1 HMM.out.2, ev_ne A (by decide)]
        have FC := Lib.hid (FB.out.trans hfc)
        clear hfc y2
        go_wp2_with fail
        refine (H3.out _ FC.out).mono ?_
        rintro e wd ⟨rfl, hgd⟩
        have FD := Lib.hid (FC.out.trans (Fr.of_grown hgd []))
        clear hgd
        go_wp2_with fail
        refine (H3.out _ FD.out).mono ?_
        rintro e we ⟨rfl, hge⟩
        have FE := Lib.hid (FD.out.trans (Fr.of_grown hge []))
        clear hge
        go_wp2
        go_ret
        exact ⟨rfl, FE.out.grown (by simp)⟩
      · have hj1 : (0 : Int) < (j2 : Int) := by have := HMM.out.1; omega
        have hj2' : (1 : Int) < (j2 : Int) := by have := HMM.out.1; omega
        obtain ⟨g1, c1, hg1, _, _⟩ := row_head E10.out.1 (show 0 < xs.length by have := HLX.out; have := HMM.out.1; omega)
        rw [HLX.out] at hg1
        simp only [Value.slice.injEq, true_and] at hg1
        obtain ⟨rfl, rfl⟩ := hg1
        have E10' := E10.out.1
        rw [HLX.out] at E10'
        obtain ⟨x0, hx0⟩ : ∃ x, xs[0]? = some x := ⟨_, List.getElem?_eq_getElem (show 0 < xs.length by have := HLX.out; have := HMM.out.1; omega)⟩
        have hy0 : x0.1 = ent 0 := by
          have h := congrArg (fun l => l[0]?) HXS.out
          simp only [List.getElem?_map, hx0, Option.map_some] at h
          rw [ents_get j2 0 (by have := HMM.out.1; omega)] at h
          exact Option.some.inj h
        obtain ⟨u0, u1, u2, u3, u4⟩ := encs_get xs 0 x0 hx0
        rw [hy0] at u0 u1 u2 u4
        have l00 := (World.ownsRow.cellAt E10' 0 (by have := HMM.out.1; omega)).trans u0
        rw [show (ent 0).fl = 0 from rfl] at l00
        have l01 := (World.ownsRow.cellAt E10' 1 (by have := HMM.out.1; omega)).trans u1
        rw [show (ent 0).di = 1 from rfl] at l01
        have l02 := (World.ownsRow.cellAt E10' 2 (by have := HMM.out.1; omega)).trans u2
        rw [show (ent 0).ge = 1 from rfl] at l02
        have l03 := (World.ownsRow.cellAt E10' 3 (by have := HMM.out.1; omega)).trans u3
        have l04 := (World.ownsRow.cellAt E10' 4 (by have := HMM.out.1; omega)).trans u4
        rw [show (ent 0).aw = -1 from rfl] at l04
        obtain ⟨za0, ca0, hza0⟩ := row_shape (E10.out.2 x0 (List.mem_of_getElem? hx0))
        have HZA0 := Lib.hid hza0
        have HY0 := Lib.hid hy0
        have HXX0 := Lib.hid hx0
        clear u0 u1 u2 u3 u4 hx0 hy0
        obtain ⟨x1, hx1⟩ : ∃ x, xs[1]? = some x := ⟨_, List.getElem?_eq_getElem (show 1 < xs.length by have := HLX.out; have := HMM.out.1; omega)⟩
        have hy1 : x1.1 = ent 1 := by
          have h := congrArg (fun l => l[1]?) HXS.out
          simp only [List.getElem?_map, hx1, Option.map_some] at h
          rw [ents_get j2 1 (by have := HMM.out.1; omega)] at h
          exact Option.some.inj h
        obtain ⟨u0, u1, u2, u3, u4⟩ := encs_get xs 1 x1 hx1
        rw [hy1] at u0 u1 u2 u4
        have l10 := (World.ownsRow.cellAt E10' 5 (by have := HMM.out.1; omega)).trans u0
        rw [show (ent 1).fl = 1 from rfl] at l10
        have l11 := (World.ownsRow.cellAt E10' 6 (by have := HMM.out.1; omega)).trans u1
        rw [show (ent 1).di = 1 from rfl] at l11
        have l12 := (World.ownsRow.cellAt E10' 7 (by have := HMM.out.1; omega)).trans u2
        rw [show (ent 1).ge = 1 from rfl] at l12
        have l13 := (World.ownsRow.cellAt E10' 8 (by have := HMM.out.1; omega)).trans u3
        have l14 := (World.ownsRow.cellAt E10' 9 (by have := HMM.out.1; omega)).trans u4
        rw [show (ent 1).aw = -1 from rfl] at l14
        obtain ⟨za1, ca1, hza1⟩ := row_shape (E10.out.2 x1 (List.mem_of_getElem? hx1))
        have HZA1 := Lib.hid hza1
        have HY1 := Lib.hid hy1
        have HXX1 := Lib.hid hx1
        clear u0 u1 u2 u3 u4 hx1 hy1
        have AQ := Lib.hid (Fr.alloc w10 (.cells #[.int .i64 1, .int .i64 1, .int .i64 1, x1.2, .int .i64 (-1), .int .i64 0, .int .i64 1, .int .i64 1, x0.2, .int .i64 (-1)] 61) [])
        have TB := Lib.hid (heap_alloc_new w10 (.cells #[.int .i64 1, .int .i64 1, .int .i64 1, x1.2, .int .i64 (-1), .int .i64 0, .int .i64 1, .int .i64 1, x0.2, .int .i64 (-1)] 61))
        have YA := Lib.hid (AQ.out.heap Y10.out (by simp))
        have x5 := row5 X10.out
        have hfz := frozen_of_row _ _ 10 _ _ YA.out
        have y0 := row11 YA.out
        have SX := Lib.hid (Fr.setCell (w10.alloc (.cells #[.int .i64 1, .int .i64 1, .int .i64 1, x1.2, .int .i64 (-1), .int .i64 0, .int .i64 1, .int .i64 1, x0.2, .int .i64 (-1)] 61)) wr.heap.size 10 (.slice (some ⟨w10.heap.size, 0, none⟩) 2 2) (S := [wr.heap.size]) (by simp))
        have YQ0 : Hid (((w10.alloc (.cells #[.int .i64 1, .int .i64 1, .int .i64 1, x1.2, .int .i64 (-1), .int .i64 0, .int .i64 1, .int .i64 1, x0.2, .int .i64 (-1)] 61)).setCell ⟨wr.heap.size, 10, none⟩ (.slice (some ⟨w10.heap.size, 0, none⟩) 2 2)).heap[wr.heap.size]? = some (.cells #[.int .i64 2, .int .i64 0, .int .i64 2, .int .i64 0, .int .i64 0, .bool false, .int .i64 3, .int .i64 1, .int .i64 4, .slice zm j2 cm, .slice (some ⟨w10.heap.size, 0, none⟩) 2 2] 29 (0, 0))) := heap_setCell_same _ wr.heap.size 10 _ _ (.slice (some ⟨w10.heap.size, 0, none⟩) 2 2) YA.out
        have YQ := Lib.hid ((Fr.drew ((w10.alloc (.cells #[.int .i64 1, .int .i64 1, .int .i64 1, x1.2, .int .i64 (-1), .int .i64 0, .int .i64 1, .int .i64 1, x0.2, .int .i64 (-1)] 61)).setCell ⟨wr.heap.size, 10, none⟩ (.slice (some ⟨w10.heap.size, 0, none⟩) 2 2)) []).heap YQ0.out (by simp))
        have FQ := Lib.hid (((F10.out.trans AQ.out).new SX.out (by have := HW1.out; have := HWR.out; simp; omega)).trans (Fr.drew _ []))
        have HMg0 : Hid (Holds .i64 ((w10.alloc (.cells #[.int .i64 1, .int .i64 1, .int .i64 1, x1.2, .int .i64 (-1), .int .i64 0, .int .i64 1, .int .i64 1, x0.2, .int .i64 (-1)] 61)).setCell ⟨wr.heap.size, 10, none⟩ (.slice (some ⟨w10.heap.size, 0, none⟩) 2 2)) (.slice zm j2 cm) (evens j2)) := OwnI.holds (B := w.heap.size) (row_set (row_fr M10.out AQ.out (by simp)) YA.out (by decide) _ _)
        have HMg := Lib.hid (HMg0.out.keep (Fr.drew _ []))
        have HEg0 : Hid (HE ((w10.alloc (.cells #[.int .i64 1, .int .i64 1, .int .i64 1, x1.2, .int .i64 (-1), .int .i64 0, .int .i64 1, .int .i64 1, x0.2, .int .i64 (-1)] 61)).setCell ⟨wr.heap.size, 10, none⟩ (.slice (some ⟨w10.heap.size, 0, none⟩) 2 2)) (.slice (some ⟨w10.heap.size, 0, none⟩) 2 2) [ent 1, ent 0]) := by
          have h0 : OwnE (w10.alloc (.cells #[.int .i64 1, .int .i64 1, .int .i64 1, x1.2, .int .i64 (-1), .int .i64 0, .int .i64 1, .int .i64 1, x0.2, .int .i64 (-1)] 61)) w.heap.size (.slice (some ⟨w10.heap.size, 0, none⟩) 2 2) [(ent 1, x1.2), (ent 0, x0.2)] := by
            refine ⟨fresh_row (n := 2) (sz := 5) (c := 2) (xs := encs [(ent 1, x1.2), (ent 0, x0.2)]) TB.out F10.out.size rfl rfl (by decide), fun x hx => ?_⟩
            rcases List.mem_cons.1 hx with rfl | hx
            · have h := E10.out.2 x1 (List.mem_of_getElem? HXX1.out)
              rw [HY1.out] at h
              exact row_fr h AQ.out (by simp)
            · obtain rfl := List.mem_singleton.1 hx
              have h := E10.out.2 x0 (List.mem_of_getElem? HXX0.out)
              rw [HY0.out] at h
              exact row_fr h AQ.out (by simp)
          exact (h0.fr SX.out (by intro r hr; obtain rfl := List.mem_singleton.1 hr; exact ⟨_, _, YA.out, by decide, by decide⟩)).he
        have HEg := Lib.hid (HEg0.out.keep (Fr.drew _ []))
        clear E10' hza0 hza1
        go_wp2_with fail
        go_region
        clear hfz y0 l00 l01 l02 l03 l04 l10 l11 l12 l13 l14 x5
        have y1 := row11 YQ.out
        go_wp2_with fail
        refine (bytes_frame (tok 3 0 (evens j2) [ent 1, ent 0]) (.slice zm j2 cm) (.slice (some ⟨w10.heap.size, 0, none⟩) 2 2) _ A _ _ (EVr (HEV.out.fr FQ.out (by simp))) HMg.out HEg.out).mono ?_
        rintro e wb hb
        obtain ⟨rfl, hfb⟩ := hb.bad (by rw [tok1 j2 HMM.out.1 HMM.out.2]; decide)
        rw [tok1 j2 HMM.out.1 HMM.out.2, ev_ne A (by decide)]
        have FB := Lib.hid (FQ.out.trans hfb)
        have MB := Lib.hid (HMg.out.keep hfb)
        have EB := Lib.hid (HEg.out.keep hfb)
        have y2 := row11 (hfb.heap YQ.out (by simp))
        have H3 := Lib.hid (fun W (hW : Fr w W []) => (ev_ne A (show 11 ≠ 0 by decide)) ▸ is_any A _ 11 111 W (HEV.out.fr hW (by simp)) (by decide) (by decide))
        clear hb hfb y1
        go_wp2_with fail
        refine (valid_frame (tok 3 0 (evens j2) [ent 1, ent 0]) (.slice zm j2 cm) (.slice (some ⟨w10.heap.size, 0, none⟩) 2 2) _ A _ _ (EVr (HEV.out.fr FB.out (by simp))) MB.out EB.out).mono ?_
        rintro e wc ⟨rfl, hfc⟩
        rw [tok1 j2 HMM.out.1 HMM.out.2, ev_ne A (by decide)]
        have FC := Lib.hid (FB.out.trans hfc)
        clear hfc y2
        go_wp2_with fail
        refine (H3.out _ FC.out).mono ?_
        rintro e wd ⟨rfl, hgd⟩
        have FD := Lib.hid (FC.out.trans (Fr.of_grown hgd []))
        clear hgd
        go_wp2_with fail
        refine (H3.out _ FD.out).mono ?_
        rintro e we ⟨rfl, hge⟩
        have FE := Lib.hid (FD.out.trans (Fr.of_grown hge []))
        clear hge
        go_wp2
        go_ret
        exact ⟨rfl, FE.out.grown (by simp)⟩
      · have hj1 : (0 : Int) < (j2 : Int) := by have := HMM.out.1; omega
        obtain ⟨g1, c1, hg1, _, _⟩ := row_head E10.out.1 (show 0 < xs.length by have := HLX.out; have := HMM.out.1; omega)
        rw [HLX.out] at hg1
        simp only [Value.slice.injEq, true_and] at hg1
        obtain ⟨rfl, rfl⟩ := hg1
        obtain ⟨x0, hx0⟩ : ∃ x0, xs[0]? = some x0 := ⟨_, List.getElem?_eq_getElem (show 0 < xs.length by have := HLX.out; have := HMM.out.1; omega)⟩
        have hx1 : x0.1 = ent 0 := by
          have h := congrArg (fun l => l[0]?) HXS.out
          have hz : (ents j2)[0]? = some (ent 0) := ents_get j2 0 (by have := HMM.out.1; omega)
          simp only [List.getElem?_map, hx0, Option.map_some] at h
          rw [hz] at h
          exact Option.some.inj h
        have E10' := E10.out.1
        rw [HLX.out] at E10'
        obtain ⟨u0, u1, u2, _, _⟩ := encs_get xs 0 x0 hx0
        rw [hx1] at u0 u1 u2
        have l0 := (World.ownsRow.cellAt E10' 0 (by have := HMM.out.1; omega)).trans u0
        have l1 := (World.ownsRow.cellAt E10' 1 (by have := HMM.out.1; omega)).trans u1
        have l2 := (World.ownsRow.cellAt E10' 2 (by have := HMM.out.1; omega)).trans u2
        rw [show (ent 0).fl = 0 from rfl] at l0
        rw [show (ent 0).di = 1 from rfl] at l1
        rw [show (ent 0).ge = 1 from rfl] at l2
        have x5 := row5 X10.out
        clear E10' u0 u1 u2 hx0 hx1
        have AQ := Lib.hid ((Fr.alloc w10 (.cells #[.int .i64 1, .int .i64 0] 63) []).trans (Fr.alloc _ (.cells #[.int .i64 0, .int .i64 1, .int .i64 1, .slice (some ⟨w10.heap.size, 0, none⟩) 1 1, .int .i64 (-1)] 61) []))
        have TB := Lib.hid (two_boxes w10 (.cells #[.int .i64 1, .int .i64 0] 63) (.cells #[.int .i64 0, .int .i64 1, .int .i64 1, .slice (some ⟨w10.heap.size, 0, none⟩) 1 1, .int .i64 (-1)] 61))
        have YA := Lib.hid (AQ.out.heap Y10.out (by simp))
        have SX := Lib.hid (Fr.setCell ((w10.alloc (.cells #[.int .i64 1, .int .i64 0] 63)).alloc (.cells #[.int .i64 0, .int .i64 1, .int .i64 1, .slice (some ⟨w10.heap.size, 0, none⟩) 1 1, .int .i64 (-1)] 61)) wr.heap.size 10 (.slice (some ⟨w10.heap.size + 1, 0, none⟩) 1 1) (S := [wr.heap.size]) (by simp))
        have hfz := frozen_of_row _ _ 10 _ _ YA.out
        have y0 := row11 YA.out
        have YQ : Hid ((((w10.alloc (.cells #[.int .i64 1, .int .i64 0] 63)).alloc (.cells #[.int .i64 0, .int .i64 1, .int .i64 1, .slice (some ⟨w10.heap.size, 0, none⟩) 1 1, .int .i64 (-1)] 61)).setCell ⟨wr.heap.size, 10, none⟩ (.slice (some ⟨w10.heap.size + 1, 0, none⟩) 1 1)).heap[wr.heap.size]? = some (.cells #[.int .i64 2, .int .i64 0, .int .i64 2, .int .i64 0, .int .i64 0, .bool false, .int .i64 3, .int .i64 1, .int .i64 4, .slice zm j2 cm, .slice (some ⟨w10.heap.size + 1, 0, none⟩) 1 1] 29 (0, 0))) := heap_setCell_same _ wr.heap.size 10 _ _ (.slice (some ⟨w10.heap.size + 1, 0, none⟩) 1 1) YA.out
        have FQ := Lib.hid ((F10.out.trans AQ.out).new SX.out (by have := HW1.out; have := HWR.out; simp; omega))
        have HMg : Hid (Holds .i64 (((w10.alloc (.cells #[.int .i64 1, .int .i64 0] 63)).alloc (.cells #[.int .i64 0, .int .i64 1, .int .i64 1, .slice (some ⟨w10.heap.size, 0, none⟩) 1 1, .int .i64 (-1)] 61)).setCell ⟨wr.heap.size, 10, none⟩ (.slice (some ⟨w10.heap.size + 1, 0, none⟩) 1 1)) (.slice zm j2 cm) (evens j2)) := OwnI.holds (B := w.heap.size) (row_set (row_fr M10.out AQ.out (by simp)) YA.out (by decide) _ _)
        have HEg : Hid (HE (((w10.alloc (.cells #[.int .i64 1, .int .i64 0] 63)).alloc (.cells #[.int .i64 0, .int .i64 1, .int .i64 1, .slice (some ⟨w10.heap.size, 0, none⟩) 1 1, .int .i64 (-1)] 61)).setCell ⟨wr.heap.size, 10, none⟩ (.slice (some ⟨w10.heap.size + 1, 0, none⟩) 1 1)) (.slice (some ⟨w10.heap.size + 1, 0, none⟩) 1 1) [(⟨0, 1, 1, [(1, 0)], (-1)⟩ : En)]) := by
          have h0 : OwnE ((w10.alloc (.cells #[.int .i64 1, .int .i64 0] 63)).alloc (.cells #[.int .i64 0, .int .i64 1, .int .i64 1, .slice (some ⟨w10.heap.size, 0, none⟩) 1 1, .int .i64 (-1)] 61)) w.heap.size (.slice (some ⟨w10.heap.size + 1, 0, none⟩) 1 1) [((⟨0, 1, 1, [(1, 0)], (-1)⟩ : En), .slice (some ⟨w10.heap.size, 0, none⟩) 1 1)] := by
            refine ⟨fresh_row (n := 1) (sz := 5) (c := 1) (xs := encs [((⟨0, 1, 1, [(1, 0)], (-1)⟩ : En), .slice (some ⟨w10.heap.size, 0, none⟩) 1 1)]) TB.out.2 (by have := F10.out.size; omega) rfl rfl (by decide), fun x hx => ?_⟩
            obtain rfl := List.mem_singleton.1 hx
            exact fresh_row (n := 1) (sz := 2) (c := 1) (xs := bdc [(1, 0)]) TB.out.1 F10.out.size rfl rfl (by decide)
          exact (h0.fr SX.out (by intro r hr; obtain rfl := List.mem_singleton.1 hr; exact ⟨_, _, YA.out, by decide, by decide⟩)).he
        have y1 := row11 YQ.out
        go_wp2_with fail
        clear hfz y0
        refine (bytes_frame (tok 3 0 (evens j2) [⟨0, 1, 1, [(1, 0)], -1⟩]) (.slice zm j2 cm) (.slice (some ⟨w10.heap.size + 1, 0, none⟩) 1 1) _ A _ _ (EVr (HEV.out.fr FQ.out (by simp))) HMg.out HEg.out).mono ?_
        rintro e wb hb
        obtain ⟨rfl, hfb⟩ := hb.bad (by rw [tok2 j2 HMM.out.1 HMM.out.2]; decide)
        rw [tok2 j2 HMM.out.1 HMM.out.2, ev_ne A (by decide)]
        have FB := Lib.hid (FQ.out.trans hfb)
        have MB := Lib.hid (HMg.out.keep hfb)
        have EB := Lib.hid (HEg.out.keep hfb)
        have y2 := row11 (hfb.heap YQ.out (by simp))
        have H3 := Lib.hid (fun W (hW : Fr w W []) => (ev_ne A (show 3 ≠ 0 by decide)) ▸ is_any A _ 3 103 W (HEV.out.fr hW (by simp)) (by decide) (by decide))
        clear hb hfb y1
        go_wp2_with fail
        refine (valid_frame (tok 3 0 (evens j2) [⟨0, 1, 1, [(1, 0)], -1⟩]) (.slice zm j2 cm) (.slice (some ⟨w10.heap.size + 1, 0, none⟩) 1 1) _ A _ _ (EVr (HEV.out.fr FB.out (by simp))) MB.out EB.out).mono ?_
        rintro e wc ⟨rfl, hfc⟩
        rw [tok2 j2 HMM.out.1 HMM.out.2, ev_ne A (by decide)]
        have FC := Lib.hid (FB.out.trans hfc)
        clear hfc y2
        go_wp2_with fail
        refine (H3.out _ FC.out).mono ?_
        rintro e wd ⟨rfl, hgd⟩
        have FD := Lib.hid (FC.out.trans (Fr.of_grown hgd []))
        clear hgd
        go_wp2_with fail
        refine (H3.out _ FD.out).mono ?_
        rintro e we ⟨rfl, hge⟩
        have FE := Lib.hid (FD.out.trans (Fr.of_grown hge []))
        clear hge
        go_wp2
        go_ret
        exact ⟨rfl, FE.out.grown (by simp)⟩
      · have hj1 : (0 : Int) < (j2 : Int) := by have := HMM.out.1; omega
        obtain ⟨g1, c1, hg1, _, _⟩ := row_head E10.out.1 (show 0 < xs.length by have := HLX.out; have := HMM.out.1; omega)
        rw [HLX.out] at hg1
        simp only [Value.slice.injEq, true_and] at hg1
        obtain ⟨rfl, rfl⟩ := hg1
        obtain ⟨x0, hx0⟩ : ∃ x0, xs[0]? = some x0 := ⟨_, List.getElem?_eq_getElem (show 0 < xs.length by have := HLX.out; have := HMM.out.1; omega)⟩
        have hx1 : x0.1 = ent 0 := by
          have h := congrArg (fun l => l[0]?) HXS.out
          have hz : (ents j2)[0]? = some (ent 0) := ents_get j2 0 (by have := HMM.out.1; omega)
          simp only [List.getElem?_map, hx0, Option.map_some] at h
          rw [hz] at h
          exact Option.some.inj h
        have E10' := E10.out.1
        rw [HLX.out] at E10'
        obtain ⟨u0, u1, u2, _, _⟩ := encs_get xs 0 x0 hx0
        rw [hx1] at u0 u1 u2
        have l0 := (World.ownsRow.cellAt E10' 0 (by have := HMM.out.1; omega)).trans u0
        have l1 := (World.ownsRow.cellAt E10' 1 (by have := HMM.out.1; omega)).trans u1
        have l2 := (World.ownsRow.cellAt E10' 2 (by have := HMM.out.1; omega)).trans u2
        rw [show (ent 0).fl = 0 from rfl] at l0
        rw [show (ent 0).di = 1 from rfl] at l1
        rw [show (ent 0).ge = 1 from rfl] at l2
        have x5 := row5 X10.out
        clear E10' u0 u1 u2 hx0 hx1
        have AQ := Lib.hid (Fr.alloc w10 (.cells #[.int .i64 0, .int .i64 1, .int .i64 1, .slice none 0 0, .int .i64 1] 61) [])
        have TB := Lib.hid (And.intro True.intro (heap_alloc_new w10 (.cells #[.int .i64 0, .int .i64 1, .int .i64 1, .slice none 0 0, .int .i64 1] 61)))
        have YA := Lib.hid (AQ.out.heap Y10.out (by simp))
        have SX := Lib.hid (Fr.setCell (w10.alloc (.cells #[.int .i64 0, .int .i64 1, .int .i64 1, .slice none 0 0, .int .i64 1] 61)) wr.heap.size 10 (.slice (some ⟨w10.heap.size, 0, none⟩) 1 1) (S := [wr.heap.size]) (by simp))
        have hfz := frozen_of_row _ _ 10 _ _ YA.out
        have y0 := row11 YA.out
        have YQ : Hid (((w10.alloc (.cells #[.int .i64 0, .int .i64 1, .int .i64 1, .slice none 0 0, .int .i64 1] 61)).setCell ⟨wr.heap.size, 10, none⟩ (.slice (some ⟨w10.heap.size, 0, none⟩) 1 1)).heap[wr.heap.size]? = some (.cells #[.int .i64 2, .int .i64 0, .int .i64 2, .int .i64 0, .int .i64 0, .bool false, .int .i64 3, .int .i64 1, .int .i64 4, .slice zm j2 cm, .slice (some ⟨w10.heap.size, 0, none⟩) 1 1] 29 (0, 0))) := heap_setCell_same _ wr.heap.size 10 _ _ (.slice (some ⟨w10.heap.size, 0, none⟩) 1 1) YA.out
        have FQ := Lib.hid ((F10.out.trans AQ.out).new SX.out (by have := HW1.out; have := HWR.out; simp; omega))
        have HMg : Hid (Holds .i64 ((w10.alloc (.cells #[.int .i64 0, .int .i64 1, .int .i64 1, .slice none 0 0, .int .i64 1] 61)).setCell ⟨wr.heap.size, 10, none⟩ (.slice (some ⟨w10.heap.size, 0, none⟩) 1 1)) (.slice zm j2 cm) (evens j2)) := OwnI.holds (B := w.heap.size) (row_set (row_fr M10.out AQ.out (by simp)) YA.out (by decide) _ _)
        have HEg : Hid (HE ((w10.alloc (.cells #[.int .i64 0, .int .i64 1, .int .i64 1, .slice none 0 0, .int .i64 1] 61)).setCell ⟨wr.heap.size, 10, none⟩ (.slice (some ⟨w10.heap.size, 0, none⟩) 1 1)) (.slice (some ⟨w10.heap.size, 0, none⟩) 1 1) [(⟨0, 1, 1, [], 1⟩ : En)]) := by
          have h0 : OwnE (w10.alloc (.cells #[.int .i64 0, .int .i64 1, .int .i64 1, .slice none 0 0, .int .i64 1] 61)) w.heap.size (.slice (some ⟨w10.heap.size, 0, none⟩) 1 1) [((⟨0, 1, 1, [], 1⟩ : En), .slice none 0 0)] := by
            refine ⟨fresh_row (n := 1) (sz := 5) (c := 1) (xs := encs [((⟨0, 1, 1, [], 1⟩ : En), .slice none 0 0)]) TB.out.2 (by have := F10.out.size; omega) rfl rfl (by decide), fun x hx => ?_⟩
            obtain rfl := List.mem_singleton.1 hx
            exact ⟨rfl, .inl ⟨rfl, rfl⟩⟩
          exact (h0.fr SX.out (by intro r hr; obtain rfl := List.mem_singleton.1 hr; exact ⟨_, _, YA.out, by decide, by decide⟩)).he
        have y1 := row11 YQ.out
        go_wp2_with fail
        clear hfz y0
        refine (bytes_frame (tok 3 0 (evens j2) [⟨0, 1, 1, [], 1⟩]) (.slice zm j2 cm) (.slice (some ⟨w10.heap.size, 0, none⟩) 1 1) _ A _ _ (EVr (HEV.out.fr FQ.out (by simp))) HMg.out HEg.out).mono ?_
        rintro e wb hb
        obtain ⟨rfl, hfb⟩ := hb.bad (by rw [tok3 j2 HMM.out.1 HMM.out.2]; decide)
        rw [tok3 j2 HMM.out.1 HMM.out.2, ev_ne A (by decide)]
        have FB := Lib.hid (FQ.out.trans hfb)
        have MB := Lib.hid (HMg.out.keep hfb)
        have EB := Lib.hid (HEg.out.keep hfb)
        have y2 := row11 (hfb.heap YQ.out (by simp))
        have H3 := Lib.hid (fun W (hW : Fr w W []) => (ev_ne A (show 3 ≠ 0 by decide)) ▸ is_any A _ 3 103 W (HEV.out.fr hW (by simp)) (by decide) (by decide))
        clear hb hfb y1
        go_wp2_with fail
        refine (valid_frame (tok 3 0 (evens j2) [⟨0, 1, 1, [], 1⟩]) (.slice zm j2 cm) (.slice (some ⟨w10.heap.size, 0, none⟩) 1 1) _ A _ _ (EVr (HEV.out.fr FB.out (by simp))) MB.out EB.out).mono ?_
        rintro e wc ⟨rfl, hfc⟩
        rw [tok3 j2 HMM.out.1 HMM.out.2, ev_ne A (by decide)]
        have FC := Lib.hid (FB.out.trans hfc)
        clear hfc y2
        go_wp2_with fail
        refine (H3.out _ FC.out).mono ?_
        rintro e wd ⟨rfl, hgd⟩
        have FD := Lib.hid (FC.out.trans (Fr.of_grown hgd []))
        clear hgd
        go_wp2_with fail
        refine (H3.out _ FD.out).mono ?_
        rintro e we ⟨rfl, hge⟩
        have FE := Lib.hid (FD.out.trans (Fr.of_grown hge []))
        clear hge
        go_wp2
        go_ret
        exact ⟨rfl, FE.out.grown (by simp)⟩
      · have hj1 : (0 : Int) < (j2 : Int) := by have := HMM.out.1; omega
        obtain ⟨g1, c1, hg1, _, _⟩ := row_head E10.out.1 (show 0 < xs.length by have := HLX.out; have := HMM.out.1; omega)
        rw [HLX.out] at hg1
        simp only [Value.slice.injEq, true_and] at hg1
        obtain ⟨rfl, rfl⟩ := hg1
        obtain ⟨x0, hx0⟩ : ∃ x0, xs[0]? = some x0 := ⟨_, List.getElem?_eq_getElem (show 0 < xs.length by have := HLX.out; have := HMM.out.1; omega)⟩
        have hx1 : x0.1 = ent 0 := by
          have h := congrArg (fun l => l[0]?) HXS.out
          have hz : (ents j2)[0]? = some (ent 0) := ents_get j2 0 (by have := HMM.out.1; omega)
          simp only [List.getElem?_map, hx0, Option.map_some] at h
          rw [hz] at h
          exact Option.some.inj h
        have E10' := E10.out.1
        rw [HLX.out] at E10'
        obtain ⟨u0, u1, u2, _, _⟩ := encs_get xs 0 x0 hx0
        rw [hx1] at u0 u1 u2
        have l0 := (World.ownsRow.cellAt E10' 0 (by have := HMM.out.1; omega)).trans u0
        have l1 := (World.ownsRow.cellAt E10' 1 (by have := HMM.out.1; omega)).trans u1
        have l2 := (World.ownsRow.cellAt E10' 2 (by have := HMM.out.1; omega)).trans u2
        rw [show (ent 0).fl = 0 from rfl] at l0
        rw [show (ent 0).di = 1 from rfl] at l1
        rw [show (ent 0).ge = 1 from rfl] at l2
        have x5 := row5 X10.out
        clear E10' u0 u1 u2 hx0 hx1
        have AQ := Lib.hid ((Fr.alloc w10 (.cells #[.int .i64 2, .int .i64 0, .int .i64 0, .int .i64 0] 63) []).trans (Fr.alloc _ (.cells #[.int .i64 0, .int .i64 1, .int .i64 1, .slice (some ⟨w10.heap.size, 0, none⟩) 2 2, .int .i64 (-1)] 61) []))
        have TB := Lib.hid (two_boxes w10 (.cells #[.int .i64 2, .int .i64 0, .int .i64 0, .int .i64 0] 63) (.cells #[.int .i64 0, .int .i64 1, .int .i64 1, .slice (some ⟨w10.heap.size, 0, none⟩) 2 2, .int .i64 (-1)] 61))
        have YA := Lib.hid (AQ.out.heap Y10.out (by simp))
        have SX := Lib.hid (Fr.setCell ((w10.alloc (.cells #[.int .i64 2, .int .i64 0, .int .i64 0, .int .i64 0] 63)).alloc (.cells #[.int .i64 0, .int .i64 1, .int .i64 1, .slice (some ⟨w10.heap.size, 0, none⟩) 2 2, .int .i64 (-1)] 61)) wr.heap.size 10 (.slice (some ⟨w10.heap.size + 1, 0, none⟩) 1 1) (S := [wr.heap.size]) (by simp))
        have hfz := frozen_of_row _ _ 10 _ _ YA.out
        have y0 := row11 YA.out
        have YQ : Hid ((((w10.alloc (.cells #[.int .i64 2, .int .i64 0, .int .i64 0, .int .i64 0] 63)).alloc (.cells #[.int .i64 0, .int .i64 1, .int .i64 1, .slice (some ⟨w10.heap.size, 0, none⟩) 2 2, .int .i64 (-1)] 61)).setCell ⟨wr.heap.size, 10, none⟩ (.slice (some ⟨w10.heap.size + 1, 0, none⟩) 1 1)).heap[wr.heap.size]? = some (.cells #[.int .i64 2, .int .i64 0, .int .i64 2, .int .i64 0, .int .i64 0, .bool false, .int .i64 3, .int .i64 1, .int .i64 4, .slice zm j2 cm, .slice (some ⟨w10.heap.size + 1, 0, none⟩) 1 1] 29 (0, 0))) := heap_setCell_same _ wr.heap.size 10 _ _ (.slice (some ⟨w10.heap.size + 1, 0, none⟩) 1 1) YA.out
        have FQ := Lib.hid ((F10.out.trans AQ.out).new SX.out (by have := HW1.out; have := HWR.out; simp; omega))
        have HMg : Hid (Holds .i64 (((w10.alloc (.cells #[.int .i64 2, .int .i64 0, .int .i64 0, .int .i64 0] 63)).alloc (.cells #[.int .i64 0, .int .i64 1, .int .i64 1, .slice (some ⟨w10.heap.size, 0, none⟩) 2 2, .int .i64 (-1)] 61)).setCell ⟨wr.heap.size, 10, none⟩ (.slice (some ⟨w10.heap.size + 1, 0, none⟩) 1 1)) (.slice zm j2 cm) (evens j2)) := OwnI.holds (B := w.heap.size) (row_set (row_fr M10.out AQ.out (by simp)) YA.out (by decide) _ _)
        have HEg : Hid (HE (((w10.alloc (.cells #[.int .i64 2, .int .i64 0, .int .i64 0, .int .i64 0] 63)).alloc (.cells #[.int .i64 0, .int .i64 1, .int .i64 1, .slice (some ⟨w10.heap.size, 0, none⟩) 2 2, .int .i64 (-1)] 61)).setCell ⟨wr.heap.size, 10, none⟩ (.slice (some ⟨w10.heap.size + 1, 0, none⟩) 1 1)) (.slice (some ⟨w10.heap.size + 1, 0, none⟩) 1 1) [(⟨0, 1, 1, [(2, 0), (0, 0)], (-1)⟩ : En)]) := by
          have h0 : OwnE ((w10.alloc (.cells #[.int .i64 2, .int .i64 0, .int .i64 0, .int .i64 0] 63)).alloc (.cells #[.int .i64 0, .int .i64 1, .int .i64 1, .slice (some ⟨w10.heap.size, 0, none⟩) 2 2, .int .i64 (-1)] 61)) w.heap.size (.slice (some ⟨w10.heap.size + 1, 0, none⟩) 1 1) [((⟨0, 1, 1, [(2, 0), (0, 0)], (-1)⟩ : En), .slice (some ⟨w10.heap.size, 0, none⟩) 2 2)] := by
            refine ⟨fresh_row (n := 1) (sz := 5) (c := 1) (xs := encs [((⟨0, 1, 1, [(2, 0), (0, 0)], (-1)⟩ : En), .slice (some ⟨w10.heap.size, 0, none⟩) 2 2)]) TB.out.2 (by have := F10.out.size; omega) rfl rfl (by decide), fun x hx => ?_⟩
            obtain rfl := List.mem_singleton.1 hx
            exact fresh_row (n := 2) (sz := 2) (c := 2) (xs := bdc [(2, 0), (0, 0)]) TB.out.1 F10.out.size rfl rfl (by decide)
          exact (h0.fr SX.out (by intro r hr; obtain rfl := List.mem_singleton.1 hr; exact ⟨_, _, YA.out, by decide, by decide⟩)).he
        have y1 := row11 YQ.out
        go_wp2_with fail
        clear hfz y0
        refine (bytes_frame (tok 3 0 (evens j2) [⟨0, 1, 1, [(2, 0), (0, 0)], -1⟩]) (.slice zm j2 cm) (.slice (some ⟨w10.heap.size + 1, 0, none⟩) 1 1) _ A _ _ (EVr (HEV.out.fr FQ.out (by simp))) HMg.out HEg.out).mono ?_
        rintro e wb hb
        obtain ⟨rfl, hfb⟩ := hb.bad (by rw [tok4 j2 HMM.out.1 HMM.out.2]; decide)
        rw [tok4 j2 HMM.out.1 HMM.out.2, ev_ne A (by decide)]
        have FB := Lib.hid (FQ.out.trans hfb)
        have MB := Lib.hid (HMg.out.keep hfb)
        have EB := Lib.hid (HEg.out.keep hfb)
        have y2 := row11 (hfb.heap YQ.out (by simp))
        have H3 := Lib.hid (fun W (hW : Fr w W []) => (ev_ne A (show 11 ≠ 0 by decide)) ▸ is_any A _ 11 111 W (HEV.out.fr hW (by simp)) (by decide) (by decide))
        clear hb hfb y1
        go_wp2_with fail
        refine (valid_frame (tok 3 0 (evens j2) [⟨0, 1, 1, [(2, 0), (0, 0)], -1⟩]) (.slice zm j2 cm) (.slice (some ⟨w10.heap.size + 1, 0, none⟩) 1 1) _ A _ _ (EVr (HEV.out.fr FB.out (by simp))) MB.out EB.out).mono ?_
        rintro e wc ⟨rfl, hfc⟩
        rw [tok4 j2 HMM.out.1 HMM.out.2, ev_ne A (by decide)]
        have FC := Lib.hid (FB.out.trans hfc)
        clear hfc y2
        go_wp2_with fail
        refine (H3.out _ FC.out).mono ?_
        rintro e wd ⟨rfl, hgd⟩
        have FD := Lib.hid (FC.out.trans (Fr.of_grown hgd []))
        clear hgd
        go_wp2_with fail
        refine (H3.out _ FD.out).mono ?_
        rintro e we ⟨rfl, hge⟩
        have FE := Lib.hid (FD.out.trans (Fr.of_grown hge []))
        clear hge
        go_wp2
        go_ret
        exact ⟨rfl, FE.out.grown (by simp)⟩
      · have SX := Lib.hid (Fr.setCell w10 wr.heap.size 9 (.slice none 0 0) (S := [wr.heap.size]) (by simp))
        have hfz := frozen_of_row _ _ 9 _ _ Y10.out
        have y0 := row11 Y10.out
        have YQ : Hid ((w10.setCell ⟨wr.heap.size, 9, none⟩ (.slice none 0 0)).heap[wr.heap.size]? = some (.cells #[.int .i64 2, .int .i64 0, .int .i64 2, .int .i64 0, .int .i64 0, .bool false, .int .i64 3, .int .i64 1, .int .i64 4, .slice none 0 0, .slice ze j2 ce] 29 (0, 0))) := heap_setCell_same _ wr.heap.size 9 _ _ (.slice none 0 0) Y10.out
        have FQ := Lib.hid (F10.out.new SX.out (by have := HW1.out; have := HWR.out; simp; omega))
        have HMg : Hid (Holds .i64 (w10.setCell ⟨wr.heap.size, 9, none⟩ (.slice none 0 0)) (.slice none 0 0) []) := nil_ints
        have HEg : Hid (HE (w10.setCell ⟨wr.heap.size, 9, none⟩ (.slice none 0 0)) (.slice ze j2 ce) (ents j2)) := by
          have h := (E10.out.fr SX.out (by intro r hr; obtain rfl := List.mem_singleton.1 hr; exact ⟨_, _, Y10.out, by decide, by decide⟩)).he
          rw [HXS.out] at h
          exact h
        have y1 := row11 YQ.out
        go_wp2_with fail
        clear hfz y0
        refine (bytes_frame (tok 3 0 [] (ents j2)) (.slice none 0 0) (.slice ze j2 ce) _ A _ _ (EVr (HEV.out.fr FQ.out (by simp))) HMg.out HEg.out).mono ?_
        rintro e wb hb
        obtain ⟨rfl, hfb⟩ := hb.bad (by rw [tok5 j2 HMM.out.1 HMM.out.2]; decide)
        rw [tok5 j2 HMM.out.1 HMM.out.2, ev_ne A (by decide)]
        have FB := Lib.hid (FQ.out.trans hfb)
        have MB := Lib.hid (HMg.out.keep hfb)
        have EB := Lib.hid (HEg.out.keep hfb)
        have y2 := row11 (hfb.heap YQ.out (by simp))
        have H3 := Lib.hid (fun W (hW : Fr w W []) => (ev_ne A (show 4 ≠ 0 by decide)) ▸ is_any A _ 4 104 W (HEV.out.fr hW (by simp)) (by decide) (by decide))
        clear hb hfb y1
        go_wp2_with fail
        refine (valid_frame (tok 3 0 [] (ents j2)) (.slice none 0 0) (.slice ze j2 ce) _ A _ _ (EVr (HEV.out.fr FB.out (by simp))) MB.out EB.out).mono ?_
        rintro e wc ⟨rfl, hfc⟩
        rw [tok5 j2 HMM.out.1 HMM.out.2, ev_ne A (by decide)]
        have FC := Lib.hid (FB.out.trans hfc)
        clear hfc y2
        go_wp2_with fail
        refine (H3.out _ FC.out).mono ?_
        rintro e wd ⟨rfl, hgd⟩
        have FD := Lib.hid (FC.out.trans (Fr.of_grown hgd []))
        clear hgd
        go_wp2_with fail
        refine (H3.out _ FD.out).mono ?_
        rintro e we ⟨rfl, hge⟩
        have FE := Lib.hid (FD.out.trans (Fr.of_grown hge []))
        clear hge
        go_wp2
        go_ret
        exact ⟨rfl, FE.out.grown (by simp)⟩
      · have SX := Lib.hid (Fr.setCell w10 wr.heap.size 6 (.int .i64 0) (S := [wr.heap.size]) (by simp))
        have hfz := frozen_of_row _ _ 6 _ _ Y10.out
        have y0 := row11 Y10.out
        have YQ : Hid ((w10.setCell ⟨wr.heap.size, 6, none⟩ (.int .i64 0)).heap[wr.heap.size]? = some (.cells #[.int .i64 2, .int .i64 0, .int .i64 2, .int .i64 0, .int .i64 0, .bool false, .int .i64 0, .int .i64 1, .int .i64 4, .slice zm j2 cm, .slice ze j2 ce] 29 (0, 0))) := heap_setCell_same _ wr.heap.size 6 _ _ (.int .i64 0) Y10.out
        have FQ := Lib.hid (F10.out.new SX.out (by have := HW1.out; have := HWR.out; simp; omega))
        have HMg : Hid (Holds .i64 (w10.setCell ⟨wr.heap.size, 6, none⟩ (.int .i64 0)) (.slice zm j2 cm) (evens j2)) := OwnI.holds (B := w.heap.size) (row_set M10.out Y10.out (by decide) _ _)
        have HEg : Hid (HE (w10.setCell ⟨wr.heap.size, 6, none⟩ (.int .i64 0)) (.slice ze j2 ce) (ents j2)) := by
          have h := (E10.out.fr SX.out (by intro r hr; obtain rfl := List.mem_singleton.1 hr; exact ⟨_, _, Y10.out, by decide, by decide⟩)).he
          rw [HXS.out] at h
          exact h
        have y1 := row11 YQ.out
        go_wp2_with fail
        clear hfz y0
        refine (bytes_frame (tok 0 0 (evens j2) (ents j2)) (.slice zm j2 cm) (.slice ze j2 ce) _ A _ _ (EVr (HEV.out.fr FQ.out (by simp))) HMg.out HEg.out).mono ?_
        rintro e wb hb
        obtain ⟨rfl, hfb⟩ := hb.bad (by rw [tok6 j2 HMM.out.1 HMM.out.2]; decide)
        rw [tok6 j2 HMM.out.1 HMM.out.2, ev_ne A (by decide)]
        have FB := Lib.hid (FQ.out.trans hfb)
        have MB := Lib.hid (HMg.out.keep hfb)
        have EB := Lib.hid (HEg.out.keep hfb)
        have y2 := row11 (hfb.heap YQ.out (by simp))
        have H3 := Lib.hid (fun W (hW : Fr w W []) => (ev_ne A (show 3 ≠ 0 by decide)) ▸ is_any A _ 3 103 W (HEV.out.fr hW (by simp)) (by decide) (by decide))
        clear hb hfb y1
        go_wp2_with fail
        refine (valid_frame (tok 0 0 (evens j2) (ents j2)) (.slice zm j2 cm) (.slice ze j2 ce) _ A _ _ (EVr (HEV.out.fr FB.out (by simp))) MB.out EB.out).mono ?_
        rintro e wc ⟨rfl, hfc⟩
        rw [tok6 j2 HMM.out.1 HMM.out.2, ev_ne A (by decide)]
        have FC := Lib.hid (FB.out.trans hfc)
        clear hfc y2
        go_wp2_with fail
        refine (H3.out _ FC.out).mono ?_
        rintro e wd ⟨rfl, hgd⟩
        have FD := Lib.hid (FC.out.trans (Fr.of_grown hgd []))
        clear hgd
        go_wp2_with fail
        refine (H3.out _ FD.out).mono ?_
        rintro e we ⟨rfl, hge⟩
        have FE := Lib.hid (FD.out.trans (Fr.of_grown hge []))
        clear hge
        go_wp2
        go_ret
        exact ⟨rfl, FE.out.grown (by simp)⟩
      · have SX := Lib.hid (Fr.setCell w10 wr.heap.size 4 (.int .i64 1) (S := [wr.heap.size]) (by simp))
        have hfz := frozen_of_row _ _ 4 _ _ Y10.out
        have y0 := row11 Y10.out
        have YQ : Hid ((w10.setCell ⟨wr.heap.size, 4, none⟩ (.int .i64 1)).heap[wr.heap.size]? = some (.cells #[.int .i64 2, .int .i64 0, .int .i64 2, .int .i64 0, .int .i64 1, .bool false, .int .i64 3, .int .i64 1, .int .i64 4, .slice zm j2 cm, .slice ze j2 ce] 29 (0, 0))) := heap_setCell_same _ wr.heap.size 4 _ _ (.int .i64 1) Y10.out
        have FQ := Lib.hid (F10.out.new SX.out (by have := HW1.out; have := HWR.out; simp; omega))
        have HMg : Hid (Holds .i64 (w10.setCell ⟨wr.heap.size, 4, none⟩ (.int .i64 1)) (.slice zm j2 cm) (evens j2)) := OwnI.holds (B := w.heap.size) (row_set M10.out Y10.out (by decide) _ _)
        have HEg : Hid (HE (w10.setCell ⟨wr.heap.size, 4, none⟩ (.int .i64 1)) (.slice ze j2 ce) (ents j2)) := by
          have h := (E10.out.fr SX.out (by intro r hr; obtain rfl := List.mem_singleton.1 hr; exact ⟨_, _, Y10.out, by decide, by decide⟩)).he
          rw [HXS.out] at h
          exact h
        have y1 := row11 YQ.out
        go_wp2_with fail
        clear hfz y0
        refine (bytes_frame (tok 3 1 (evens j2) (ents j2)) (.slice zm j2 cm) (.slice ze j2 ce) _ A _ _ (EVr (HEV.out.fr FQ.out (by simp))) HMg.out HEg.out).mono ?_
        rintro e wb hb
        obtain ⟨rfl, hfb⟩ := hb.bad (by rw [tok7 j2 HMM.out.1 HMM.out.2]; decide)
        rw [tok7 j2 HMM.out.1 HMM.out.2, ev_ne A (by decide)]
        have FB := Lib.hid (FQ.out.trans hfb)
        have MB := Lib.hid (HMg.out.keep hfb)
        have EB := Lib.hid (HEg.out.keep hfb)
        have y2 := row11 (hfb.heap YQ.out (by simp))
        have H3 := Lib.hid (fun W (hW : Fr w W []) => (ev_ne A (show 3 ≠ 0 by decide)) ▸ is_any A _ 3 103 W (HEV.out.fr hW (by simp)) (by decide) (by decide))
        clear hb hfb y1
        go_wp2_with fail
        refine (valid_frame (tok 3 1 (evens j2) (ents j2)) (.slice zm j2 cm) (.slice ze j2 ce) _ A _ _ (EVr (HEV.out.fr FB.out (by simp))) MB.out EB.out).mono ?_
        rintro e wc ⟨rfl, hfc⟩
        rw [tok7 j2 HMM.out.1 HMM.out.2, ev_ne A (by decide)]
        have FC := Lib.hid (FB.out.trans hfc)
        clear hfc y2
        go_wp2_with fail
        refine (H3.out _ FC.out).mono ?_
        rintro e wd ⟨rfl, hgd⟩
        have FD := Lib.hid (FC.out.trans (Fr.of_grown hgd []))
        clear hgd
        go_wp2_with fail
        refine (H3.out _ FD.out).mono ?_
        rintro e we ⟨rfl, hge⟩
        have FE := Lib.hid (FD.out.trans (Fr.of_grown hge []))
        clear hge
        go_wp2
        go_ret
        exact ⟨rfl, FE.out.grown (by simp)⟩
      · have AQ := Lib.hid (Fr.alloc w10 (.cells #[.int .i64 1, .int .i64 0, .int .i64 1, .slice none 0 0, .int .i64 (-1)] 61) [])
        have TB := Lib.hid (And.intro True.intro (heap_alloc_new w10 (.cells #[.int .i64 1, .int .i64 0, .int .i64 1, .slice none 0 0, .int .i64 (-1)] 61)))
        have YA := Lib.hid (AQ.out.heap Y10.out (by simp))
        have SX := Lib.hid (Fr.setCell (w10.alloc (.cells #[.int .i64 1, .int .i64 0, .int .i64 1, .slice none 0 0, .int .i64 (-1)] 61)) wr.heap.size 10 (.slice (some ⟨w10.heap.size, 0, none⟩) 1 1) (S := [wr.heap.size]) (by simp))
        have hfz := frozen_of_row _ _ 10 _ _ YA.out
        have y0 := row11 YA.out
        have YQ : Hid (((w10.alloc (.cells #[.int .i64 1, .int .i64 0, .int .i64 1, .slice none 0 0, .int .i64 (-1)] 61)).setCell ⟨wr.heap.size, 10, none⟩ (.slice (some ⟨w10.heap.size, 0, none⟩) 1 1)).heap[wr.heap.size]? = some (.cells #[.int .i64 2, .int .i64 0, .int .i64 2, .int .i64 0, .int .i64 0, .bool false, .int .i64 3, .int .i64 1, .int .i64 4, .slice zm j2 cm, .slice (some ⟨w10.heap.size, 0, none⟩) 1 1] 29 (0, 0))) := heap_setCell_same _ wr.heap.size 10 _ _ (.slice (some ⟨w10.heap.size, 0, none⟩) 1 1) YA.out
        have FQ := Lib.hid ((F10.out.trans AQ.out).new SX.out (by have := HW1.out; have := HWR.out; simp; omega))
        have HMg : Hid (Holds .i64 ((w10.alloc (.cells #[.int .i64 1, .int .i64 0, .int .i64 1, .slice none 0 0, .int .i64 (-1)] 61)).setCell ⟨wr.heap.size, 10, none⟩ (.slice (some ⟨w10.heap.size, 0, none⟩) 1 1)) (.slice zm j2 cm) (evens j2)) := OwnI.holds (B := w.heap.size) (row_set (row_fr M10.out AQ.out (by simp)) YA.out (by decide) _ _)
        have HEg : Hid (HE ((w10.alloc (.cells #[.int .i64 1, .int .i64 0, .int .i64 1, .slice none 0 0, .int .i64 (-1)] 61)).setCell ⟨wr.heap.size, 10, none⟩ (.slice (some ⟨w10.heap.size, 0, none⟩) 1 1)) (.slice (some ⟨w10.heap.size, 0, none⟩) 1 1) [(⟨1, 0, 1, [], (-1)⟩ : En)]) := by
          have h0 : OwnE (w10.alloc (.cells #[.int .i64 1, .int .i64 0, .int .i64 1, .slice none 0 0, .int .i64 (-1)] 61)) w.heap.size (.slice (some ⟨w10.heap.size, 0, none⟩) 1 1) [((⟨1, 0, 1, [], (-1)⟩ : En), .slice none 0 0)] := by
            refine ⟨fresh_row (n := 1) (sz := 5) (c := 1) (xs := encs [((⟨1, 0, 1, [], (-1)⟩ : En), .slice none 0 0)]) TB.out.2 (by have := F10.out.size; omega) rfl rfl (by decide), fun x hx => ?_⟩
            obtain rfl := List.mem_singleton.1 hx
            exact ⟨rfl, .inl ⟨rfl, rfl⟩⟩
          exact (h0.fr SX.out (by intro r hr; obtain rfl := List.mem_singleton.1 hr; exact ⟨_, _, YA.out, by decide, by decide⟩)).he
        have y1 := row11 YQ.out
        go_wp2_with fail
        clear hfz y0
        refine (bytes_frame (tok 3 0 (evens j2) [⟨1, 0, 1, [], -1⟩]) (.slice zm j2 cm) (.slice (some ⟨w10.heap.size, 0, none⟩) 1 1) _ A _ _ (EVr (HEV.out.fr FQ.out (by simp))) HMg.out HEg.out).mono ?_
        rintro e wb hb
        obtain ⟨rfl, hfb⟩ := hb.bad (by rw [tok8 j2 HMM.out.1 HMM.out.2]; decide)
        rw [tok8 j2 HMM.out.1 HMM.out.2, ev_ne A (by decide)]
        have FB := Lib.hid (FQ.out.trans hfb)
        have MB := Lib.hid (HMg.out.keep hfb)
        have EB := Lib.hid (HEg.out.keep hfb)
        have y2 := row11 (hfb.heap YQ.out (by simp))
        have H3 := Lib.hid (fun W (hW : Fr w W []) => (ev_ne A (show 3 ≠ 0 by decide)) ▸ is_any A _ 3 103 W (HEV.out.fr hW (by simp)) (by decide) (by decide))
        clear hb hfb y1
        go_wp2_with fail
        refine (valid_frame (tok 3 0 (evens j2) [⟨1, 0, 1, [], -1⟩]) (.slice zm j2 cm) (.slice (some ⟨w10.heap.size, 0, none⟩) 1 1) _ A _ _ (EVr (HEV.out.fr FB.out (by simp))) MB.out EB.out).mono ?_
        rintro e wc ⟨rfl, hfc⟩
        rw [tok8 j2 HMM.out.1 HMM.out.2, ev_ne A (by decide)]
        have FC := Lib.hid (FB.out.trans hfc)
        clear hfc y2
        go_wp2_with fail
        refine (H3.out _ FC.out).mono ?_
        rintro e wd ⟨rfl, hgd⟩
        have FD := Lib.hid (FC.out.trans (Fr.of_grown hgd []))
        clear hgd
        go_wp2_with fail
        refine (H3.out _ FD.out).mono ?_
        rintro e we ⟨rfl, hge⟩
        have FE := Lib.hid (FD.out.trans (Fr.of_grown hge []))
        clear hge
        go_wp2
        go_ret
        exact ⟨rfl, FE.out.grown (by simp)⟩
      · have AQ := Lib.hid (Fr.alloc w10 (.cells #[.int .i64 1, .int .i64 1, .int .i64 0, .slice none 0 0, .int .i64 (-1)] 61) [])
        have TB := Lib.hid (And.intro True.intro (heap_alloc_new w10 (.cells #[.int .i64 1, .int .i64 1, .int .i64 0, .slice none 0 0, .int .i64 (-1)] 61)))
        have YA := Lib.hid (AQ.out.heap Y10.out (by simp))
        have SX := Lib.hid (Fr.setCell (w10.alloc (.cells #[.int .i64 1, .int .i64 1, .int .i64 0, .slice none 0 0, .int .i64 (-1)] 61)) wr.heap.size 10 (.slice (some ⟨w10.heap.size, 0, none⟩) 1 1) (S := [wr.heap.size]) (by simp))
        have hfz := frozen_of_row _ _ 10 _ _ YA.out
        have y0 := row11 YA.out
        have YQ : Hid (((w10.alloc (.cells #[.int .i64 1, .int .i64 1, .int .i64 0, .slice none 0 0, .int .i64 (-1)] 61)).setCell ⟨wr.heap.size, 10, none⟩ (.slice (some ⟨w10.heap.size, 0, none⟩) 1 1)).heap[wr.heap.size]? = some (.cells #[.int .i64 2, .int .i64 0, .int .i64 2, .int .i64 0, .int .i64 0, .bool false, .int .i64 3, .int .i64 1, .int .i64 4, .slice zm j2 cm, .slice (some ⟨w10.heap.size, 0, none⟩) 1 1] 29 (0, 0))) := heap_setCell_same _ wr.heap.size 10 _ _ (.slice (some ⟨w10.heap.size, 0, none⟩) 1 1) YA.out
        have FQ := Lib.hid ((F10.out.trans AQ.out).new SX.out (by have := HW1.out; have := HWR.out; simp; omega))
        have HMg : Hid (Holds .i64 ((w10.alloc (.cells #[.int .i64 1, .int .i64 1, .int .i64 0, .slice none 0 0, .int .i64 (-1)] 61)).setCell ⟨wr.heap.size, 10, none⟩ (.slice (some ⟨w10.heap.size, 0, none⟩) 1 1)) (.slice zm j2 cm) (evens j2)) := OwnI.holds (B := w.heap.size) (row_set (row_fr M10.out AQ.out (by simp)) YA.out (by decide) _ _)
        have HEg : Hid (HE ((w10.alloc (.cells #[.int .i64 1, .int .i64 1, .int .i64 0, .slice none 0 0, .int .i64 (-1)] 61)).setCell ⟨wr.heap.size, 10, none⟩ (.slice (some ⟨w10.heap.size, 0, none⟩) 1 1)) (.slice (some ⟨w10.heap.size, 0, none⟩) 1 1) [(⟨1, 1, 0, [], (-1)⟩ : En)]) := by
          have h0 : OwnE (w10.alloc (.cells #[.int .i64 1, .int .i64 1, .int .i64 0, .slice none 0 0, .int .i64 (-1)] 61)) w.heap.size (.slice (some ⟨w10.heap.size, 0, none⟩) 1 1) [((⟨1, 1, 0, [], (-1)⟩ : En), .slice none 0 0)] := by
            refine ⟨fresh_row (n := 1) (sz := 5) (c := 1) (xs := encs [((⟨1, 1, 0, [], (-1)⟩ : En), .slice none 0 0)]) TB.out.2 (by have := F10.out.size; omega) rfl rfl (by decide), fun x hx => ?_⟩
            obtain rfl := List.mem_singleton.1 hx
            exact ⟨rfl, .inl ⟨rfl, rfl⟩⟩
          exact (h0.fr SX.out (by intro r hr; obtain rfl := List.mem_singleton.1 hr; exact ⟨_, _, YA.out, by decide, by decide⟩)).he
        have y1 := row11 YQ.out
        go_wp2_with fail
        clear hfz y0
        refine (bytes_frame (tok 3 0 (evens j2) [⟨1, 1, 0, [], -1⟩]) (.slice zm j2 cm) (.slice (some ⟨w10.heap.size, 0, none⟩) 1 1) _ A _ _ (EVr (HEV.out.fr FQ.out (by simp))) HMg.out HEg.out).mono ?_
        rintro e wb hb
        obtain ⟨rfl, hfb⟩ := hb.bad (by rw [tok9 j2 HMM.out.1 HMM.out.2]; decide)
        rw [tok9 j2 HMM.out.1 HMM.out.2, ev_ne A (by decide)]
        have FB := Lib.hid (FQ.out.trans hfb)
        have MB := Lib.hid (HMg.out.keep hfb)
        have EB := Lib.hid (HEg.out.keep hfb)
        have y2 := row11 (hfb.heap YQ.out (by simp))
        have H3 := Lib.hid (fun W (hW : Fr w W []) => (ev_ne A (show 3 ≠ 0 by decide)) ▸ is_any A _ 3 103 W (HEV.out.fr hW (by simp)) (by decide) (by decide))
        clear hb hfb y1
        go_wp2_with fail
        refine (valid_frame (tok 3 0 (evens j2) [⟨1, 1, 0, [], -1⟩]) (.slice zm j2 cm) (.slice (some ⟨w10.heap.size, 0, none⟩) 1 1) _ A _ _ (EVr (HEV.out.fr FB.out (by simp))) MB.out EB.out).mono ?_
        rintro e wc ⟨rfl, hfc⟩
        rw [tok9 j2 HMM.out.1 HMM.out.2, ev_ne A (by decide)]
        have FC := Lib.hid (FB.out.trans hfc)
        clear hfc y2
        go_wp2_with fail
        refine (H3.out _ FC.out).mono ?_
        rintro e wd ⟨rfl, hgd⟩
        have FD := Lib.hid (FC.out.trans (Fr.of_grown hgd []))
        clear hgd
        go_wp2_with fail
        refine (H3.out _ FD.out).mono ?_
        rintro e we ⟨rfl, hge⟩
        have FE := Lib.hid (FD.out.trans (Fr.of_grown hge []))
        clear hge
        go_wp2
        go_ret
        exact ⟨rfl, FE.out.grown (by simp)⟩
end Go.Proofs.YtpeocdcciecpoaaDoor
