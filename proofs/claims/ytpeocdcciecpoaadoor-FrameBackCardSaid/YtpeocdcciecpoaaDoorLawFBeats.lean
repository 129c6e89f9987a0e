/- The walk of the frame's law of beats: of a beat each field has its place, and goes there and back; a ring in it is told. -/
import Derived.Test.YtpeocdcciecpoaaDoorFRead5
import Derived.Test.YtpeocdcciecpoaaDoorFFirst
import Derived.Test.YtpeocdcciecpoaaDoorFMath2
namespace Go.Proofs.YtpeocdcciecpoaaDoor
open Go.RowKit Fm

theorem ReadE.of {A : Nat → Addr} {r : F × Nat × Bool × Nat} {w0 w' : World} {e : Ending} (h : ReadE A r w0 e w') {f : F} (hr : r = (f, 0, false, 0)) : Fr w0 w' [] ∧ ∃ vm ve, e = .returned (.tuple #[frV f vm ve, .nilIface]) ∧ Holds .i64 w' vm f.rg.ms ∧ HE w' ve f.rg.es := by
  subst hr
  obtain ⟨h0, vm, ve, u, rfl, h1, h2, h3, _⟩ := h
  obtain rfl := h3 rfl
  exact ⟨h0, vm, ve, rfl, h1, h2⟩
theorem EV13 {w : World} {A : Nat → Addr} {B : Nat} (h : E13 w A B) : EV [1, 2, 3, 6, 10] w A B := h.evs [1, 2, 3, 6, 10]

set_option maxHeartbeats 4000000 in
set_option maxRecDepth 100000 in
theorem fbeats_walk (fr dst li se : Int) (ou : Bool) (hf0 : -9223372036854775808 ≤ fr) (hf1 : fr ≤ 9223372036854775807) (ht0 : -9223372036854775808 ≤ dst) (ht1 : dst ≤ 9223372036854775807) (w : World) (A : Nat → Addr) (hE : E13 w A w.heap.size) :
    Calls Tryd.prog 6 #[.int .i64 fr, .int .i64 dst, .int .i64 li, .int .i64 se, .bool ou] w fun e w' => e = .returned (.bool true) ∧ w.grownBy w' none := by
  have HE := Lib.hid hE
  obtain ⟨x, hx⟩ : ∃ x, x = fr % 16 := ⟨_, rfl⟩
  obtain ⟨y, hy⟩ : ∃ y, y = dst % 16 := ⟨_, rfl⟩
  have N1 := Lib.hid (fun W => hx ▸ numberTo_any fr 16 W (by omega) (by omega) hf0 hf1)
  have N2 := Lib.hid (fun W => hy ▸ numberTo_any dst 16 W (by omega) (by omega) ht0 ht1)
  have HXY := Lib.hid (show Car x ∧ Car y by unfold Car; omega)
  clear hE hx hy hf0 hf1 ht0 ht1
  by_cases hgood : Kept li ∧ Kept se
  · have HC : Hid (frameC ⟨1, x, y, li, se, ou, zeroR⟩ = 0) := by
      show _ = _
      rw [frameC_beat rfl HXY.out]
      unfold beatC
      rw [if_pos ⟨hgood.1, hgood.2, rfl, rfl, rfl, rfl, rfl⟩]
    have g1 : 0 ≤ li := hgood.1.1
    have g2 : li < 281474976710656 := by have := hgood.1.2; omega
    have g3 : 0 ≤ se := hgood.2.1
    have g4 : se < 281474976710656 := by have := hgood.2.2; omega
    have HC2 : Hid (frameC ⟨1, x, y, li, se, ou, ⟨0, 0, 1, [], []⟩⟩ = 3) := by
      show _ = _
      rw [frameC_beat rfl HXY.out]
      unfold beatC
      rw [if_neg]
      rintro ⟨_, _, _, _, h, _⟩
      simp at h
    have HLB : Hid (2 ≤ (bytesF ⟨1, x, y, li, se, ou, zeroR⟩).length ∧ (bytesF ⟨1, x, y, li, se, ou, zeroR⟩).length ≤ 100000 ∧ (bytesF ⟨1, x, y, li, se, ou, zeroR⟩).getD 0 0 = 80 ∧ (bytesF ⟨1, x, y, li, se, ou, zeroR⟩).getD 1 0 = 1) := by
      refine ⟨by simp [bytesF], ?_, rfl, rfl⟩
      have a1 := Wm.enc_len x
      have a2 := Wm.enc_len y
      have a3 := Wm.enc_len li
      have a4 := Wm.enc_len se
      have a5 := Wm.enc_len (bit ou)
      simp only [bytesF, encBody, if_true, List.length_cons, List.length_append]
      omega
    clear hgood
    go_enter Tryd.func6, Tryd.ntmps6
    go_wp2_with fail
    refine (first5_any _ A _ _ (EV13 HE.out)).mono ?_
    rintro e w1 ⟨rfl, hf1⟩
    have F1 := Lib.hid hf1
    have E1 := Lib.hid (HE.out.fr hf1 (by simp))
    clear hf1
    go_wp2_with fail
    refine (N1.out _).mono ?_
    rintro e w2 ⟨rfl, rfl⟩
    go_wp2_with fail
    refine (N2.out _).mono ?_
    rintro e w2 ⟨rfl, rfl⟩
    have hbx := Lib.hid (heap_alloc_new w1 (.cells #[.int .i64 1, .int .i64 x, .int .i64 y, .int .i64 li, .int .i64 se, .bool ou, .int .i64 0, .int .i64 0, .int .i64 0, .slice none 0 0, .slice none 0 0] 29))
    have FA := Lib.hid (Fr.alloc w1 (.cells #[.int .i64 1, .int .i64 x, .int .i64 y, .int .i64 li, .int .i64 se, .bool ou, .int .i64 0, .int .i64 0, .int .i64 0, .slice none 0 0, .slice none 0 0] 29) [])
    have E2 := Lib.hid (E1.out.fr FA.out (by simp))
    go_wp2_with fail
    refine (bytes_frame ⟨1, x, y, li, se, ou, zeroR⟩ (.slice none 0 0) (.slice none 0 0) _ A _ _ (EV13 E2.out) nil_ints nil_ents).mono ?_
    rintro e w3 hb
    obtain ⟨u, rfl, ho, hf3⟩ := hb.ok HC.out
    have F3 := Lib.hid ((F1.out.trans FA.out).trans hf3)
    have E3' := Lib.hid (E2.out.fr hf3 (by simp))
    have B3 := Lib.hid (hf3.heap hbx.out (by simp))
    obtain ⟨g, cap, hu, hcells⟩ := own_some ho (by have := HLB.out.1; omega)
    obtain ⟨LL, hLL⟩ : ∃ LL, LL = (bytesF ⟨1, x, y, li, se, ou, zeroR⟩).length := ⟨_, rfl⟩
    rw [← hLL] at hu
    subst hu
    have HLL := Lib.hid (show 2 ≤ LL by rw [hLL]; exact HLB.out.1)
    clear hLL
    have HOB := Lib.hid ho.bytes
    have HCL := Lib.hid hcells
    clear ho hf3 hb hcells
    go_wp2_with fail
    refine (read_frame _ (bytesF ⟨1, x, y, li, se, ou, zeroR⟩) _ A _ [1, 2, 3, 6, 10] HOB.out (byte_frame HC.out) (by have := HLB.out.2.1; omega) E3'.out.three (EV13 E3'.out) (by have := F3.out.size; omega)).mono ?_
    rintro e w4 hr
    obtain ⟨hf4, vm, ve, rfl, hm, he⟩ := hr.of (read_bytes HC.out)
    obtain ⟨zm, cm, rfl⟩ := hm.shape
    obtain ⟨ze, ce, rfl⟩ := he.shape
    unfold frV zeroR
    dsimp only
    have g1w : g ≠ w1.heap.size := by
      intro e
      have h := HCL.out 0 (.int .u8 80) (by rfl)
      have hz := cell_of_row _ _ 0 _ _ _ B3.out
      rw [e] at h
      rw [show (⟨w1.heap.size, 0, none⟩ : Addr).add 0 = ⟨w1.heap.size, 0, none⟩ from rfl, hz] at h
      simp at h
    have G1W := Lib.hid g1w
    have FB := Lib.hid (Fr.alloc w4 (.cells #[.int .i64 1, .int .i64 x, .int .i64 y, .int .i64 li, .int .i64 se, .bool ou, .int .i64 0, .int .i64 0, .int .i64 0, .slice zm 0 cm, .slice ze 0 ce] 29) [])
    have B4 := Lib.hid (FB.out.heap (hf4.heap B3.out (by simp)) (by simp))
    have W41 := Lib.hid (show w1.heap.size < w4.heap.size from size_of_row (hf4.heap B3.out (by simp)))
    have q8 := (row11 B4.out).2.2.2.2.2.2.2.2.1
    have z8 := frozen_of_row _ _ 8 _ _ B4.out
    have FS := Lib.hid (Fr.setCell (w4.alloc (.cells #[.int .i64 1, .int .i64 x, .int .i64 y, .int .i64 li, .int .i64 se, .bool ou, .int .i64 0, .int .i64 0, .int .i64 0, .slice zm 0 cm, .slice ze 0 ce] 29)) w1.heap.size 8 (.int .i64 1) (S := [w1.heap.size]) (by simp))
    have BF : Hid (((w4.alloc (.cells #[.int .i64 1, .int .i64 x, .int .i64 y, .int .i64 li, .int .i64 se, .bool ou, .int .i64 0, .int .i64 0, .int .i64 0, .slice zm 0 cm, .slice ze 0 ce] 29)).setCell ⟨w1.heap.size, 8, none⟩ (.int .i64 1)).heap[w1.heap.size]? = some (.cells #[.int .i64 1, .int .i64 x, .int .i64 y, .int .i64 li, .int .i64 se, .bool ou, .int .i64 0, .int .i64 0, .int .i64 1, .slice none 0 0, .slice none 0 0] 29 (0, 0))) := heap_setCell_same _ w1.heap.size 8 _ _ (.int .i64 1) B4.out
    have BG := Lib.hid (FS.out.heap (heap_alloc_new w4 (.cells #[.int .i64 1, .int .i64 x, .int .i64 y, .int .i64 li, .int .i64 se, .bool ou, .int .i64 0, .int .i64 0, .int .i64 0, .slice zm 0 cm, .slice ze 0 ce] 29)) (by have := W41.out; simp; omega))
    have kF := row11 BF.out
    have kG := row11 BG.out
    have F4 := Lib.hid (((F3.out.trans hf4).trans FB.out).new FS.out (by have := F1.out.size; simp; omega))
    have E4 := Lib.hid (HE.out.fr F4.out (by simp))
    have C0 := Lib.hid (FS.out.cell (FB.out.cell (hf4.cell (HCL.out 0 (.int .u8 80) (by rfl)) (by simp)) (by simp)) (by simp [Addr.add]; exact G1W.out))
    have C1 := Lib.hid (FS.out.cell (FB.out.cell (hf4.cell (HCL.out 1 (.int .u8 1) (by rfl)) (by simp)) (by simp)) (by simp [Addr.add]; exact G1W.out))
    have hln0 : 0 < LL := by have := HLL.out; omega
    have hln1 : (0 : Int) < (LL : Int) := by omega
    have hln2 : (1 : Int) < (LL : Int) := by have := HLL.out; omega
    clear hf4 hm he g1w hr
    go_wp2_with fail
    refine (valid_frame ⟨1, x, y, li, se, ou, ⟨0, 0, 1, [], []⟩⟩ (.slice none 0 0) (.slice none 0 0) _ A _ [1, 2, 3, 6, 10] (EV13 E4.out) nil_ints nil_ents).mono ?_
    rintro e w6 ⟨rfl, hf6⟩
    rw [HC2.out]
    have F6 := Lib.hid (F4.out.trans hf6)
    have E6 := Lib.hid (E4.out.fr hf6 (by simp))
    have D0 := Lib.hid (hf6.cell C0.out (by simp))
    have D1 := Lib.hid (hf6.cell C1.out (by simp))
    clear hf6 kF kG
    go_wp2_with fail
    refine (is_any A _ 3 103 _ E6.out (by decide) (by decide)).mono ?_
    rintro e w7 ⟨rfl, hg7⟩
    have d0 : w7.cell? ⟨g, 0, none⟩ = some (.int .u8 80) := (Fr.of_grown hg7 []).cell (show w6.cell? ⟨g, 0, none⟩ = _ from D0.out) (by simp)
    have d1 : w7.cell? ⟨g, 1, none⟩ = some (.int .u8 1) := (Fr.of_grown hg7 []).cell (show w6.cell? ⟨g, 1, none⟩ = _ from D1.out) (by simp)
    have F7 := Lib.hid (F6.out.trans (Fr.of_grown hg7 []))
    clear hg7
    go_wp2
    go_ret
    exact ⟨rfl, F7.out.grown (by simp)⟩
  · have HC : Hid (frameC ⟨1, x, y, li, se, ou, zeroR⟩ = 3) := by
      show _ = _
      rw [frameC_beat rfl HXY.out]
      unfold beatC
      rw [if_neg (fun h => hgood ⟨h.1, h.2.1⟩)]
    have hcs : (¬ 0 ≤ li) ∨ (0 ≤ li ∧ ¬ li < 281474976710656) ∨ (0 ≤ li ∧ li < 281474976710656 ∧ ¬ 0 ≤ se) ∨ (0 ≤ li ∧ li < 281474976710656 ∧ 0 ≤ se ∧ ¬ se < 281474976710656) := by unfold Kept at hgood; omega
    clear hgood
    rcases hcs with g1 | ⟨g1, g2⟩ | ⟨g1, g2, g3⟩ | ⟨g1, g2, g3, g4⟩
    all_goals
      try (have hd : decide (se < 281474976710656) = false := by simp; omega)
      go_enter Tryd.func6, Tryd.ntmps6
      go_wp2_with fail
      refine (first5_any _ A _ _ (EV13 HE.out)).mono ?_
      rintro e w1 ⟨rfl, hf1⟩
      have F1 := Lib.hid hf1
      have E1 := Lib.hid (HE.out.fr hf1 (by simp))
      clear hf1
      go_wp2_with fail
      refine (N1.out _).mono ?_
      rintro e w2 ⟨rfl, rfl⟩
      go_wp2_with fail
      refine (N2.out _).mono ?_
      rintro e w2 ⟨rfl, rfl⟩
      have FA := Lib.hid (Fr.alloc w1 (.cells #[.int .i64 1, .int .i64 x, .int .i64 y, .int .i64 li, .int .i64 se, .bool ou, .int .i64 0, .int .i64 0, .int .i64 0, .slice none 0 0, .slice none 0 0] 29) [])
      have E2 := Lib.hid (E1.out.fr FA.out (by simp))
      go_wp2_with fail
      refine (bytes_frame ⟨1, x, y, li, se, ou, zeroR⟩ (.slice none 0 0) (.slice none 0 0) _ A _ _ (EV13 E2.out) nil_ints nil_ents).mono ?_
      rintro e w3 hb
      obtain ⟨rfl, hf3⟩ := hb.bad (by rw [HC.out]; decide)
      rw [HC.out, ev_ne A (by decide)]
      have F3 := Lib.hid ((F1.out.trans FA.out).trans hf3)
      have E3' := Lib.hid (E2.out.fr hf3 (by simp))
      have H3 := Lib.hid (fun W (hW : Fr w3 W []) => (ev_ne A (show 3 ≠ 0 by decide)) ▸ is_any A _ 3 103 W (E3'.out.fr hW (by simp)) (by decide) (by decide))
      clear hf3 hb
      go_wp2_with fail
      refine (H3.out _ (Fr.refl _ _)).mono ?_
      rintro e w7 ⟨rfl, hg7⟩
      have F7 := Lib.hid (F3.out.trans (Fr.of_grown hg7 []))
      clear hg7
      go_wp2
      go_ret
      exact ⟨rfl, F7.out.grown (by simp)⟩
end Go.Proofs.YtpeocdcciecpoaaDoor
