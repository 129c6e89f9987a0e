/- The law of waiting: a ring that lacks somebody, or has one too many, or does not go round, is founded anew once it was waited; whoever is out founds none: its walk. -/
import Derived.Test.YtjjlajcpngphpaaFwMath
import Derived.Test.YtjjlajcpngphpaaRSet
import Derived.Test.YtjjlajcpngphpaaNum
import Derived.Deep.DeepCutAuto
import Derived.Deep.CutBlock
namespace Go.Proofs.Ytjjlajcpngphpaa
open Go.RowKit

set_option maxHeartbeats 8000000 in
set_option maxRecDepth 100000 in
theorem fowaits_walk (a0 a1 a2 : Int) (out : Bool) (w : World) (h0 : (Lit.int .i64 a0).wf = true) (h1 : (Lit.int .i64 a1).wf = true) (h2 : (Lit.int .i64 a2).wf = true) :
    Calls Try.prog 5 #[.int .i64 a0, .int .i64 a1, .int .i64 a2, .bool out] w fun e w' => e = .returned (.bool true) ∧ w.grownBy w' none := by
  obtain ⟨i0, hi, hz0, hz1, hz2⟩ := info_parts infoI
  have FI := Lib.hid (fun W => fofirst_any W)
  obtain ⟨b11, b12⟩ := bounds_i64 h1
  obtain ⟨b21, b22⟩ := bounds_i64 h2
  have N1 := Lib.hid (fun W => numberTo_any a1 200 W (by omega) (by omega) b11 b12)
  have N2 := Lib.hid (fun W => numberTo_any a2 200 W (by omega) (by omega) b21 b22)
  obtain ⟨si, hsi⟩ : ∃ s, s = a1 % 200 := ⟨_, rfl⟩
  obtain ⟨fo, hfo⟩ : ∃ s, s = a2 % 200 := ⟨_, rfl⟩
  have hs0 : 0 ≤ si ∧ si < 200 := by rw [hsi]; omega
  have hf0 : 0 ≤ fo ∧ fo < 200 := by rw [hfo]; omega
  rw [← hsi] at N1
  rw [← hfo] at N2
  obtain ⟨k0, hk0, _, hN0⟩ := numberTo_nat a0 14 (by omega) (by omega) h0
  have N0 := Lib.hid hN0
  obtain ⟨c, hc⟩ : ∃ c, c = k0 + 2 := ⟨_, rfl⟩
  have hc2 : 2 ≤ c ∧ c ≤ 15 := by omega
  have hck : (k0 : Int) + 2 = (c : Int) := by omega
  clear hsi hfo h1 h2 h0 b11 b12 b21 b22 hN0 hc
  go_enter Try.func5, Try.ntmps5
  go_wp2_with fail
  with_reducible refine (FI.out _).mono ?_
  rintro e w1 ⟨rfl, hf⟩
  have F1 := Lib.hid hf
  clear hf FI
  go_wp2_with fail
  refine (N0.out _).mono ?_
  rintro e w2 ⟨rfl, rfl⟩
  go_upto_region 5 with fail
  clear hck hk0
  go_wp2_with fail
  with_reducible refine (N1.out _).mono ?_
  rintro e w2 ⟨rfl, rfl⟩
  go_wp2_with fail
  with_reducible refine (N2.out _).mono ?_
  rintro e w2 ⟨rfl, rfl⟩
  clear N0 N1 N2
  have T0 := Lib.hid ((Two.nils F1.out).swap.fr (Fr.alloc w1 (.cells #[.int .i64 0] 3) []))
  have hsz0 : w.heap.size ≤ (w1.alloc (.cells #[.int .i64 0] 3)).heap.size := T0.out.f.size
  go_upto_region 9 with (at_builtin; refine wpList_append_lies _ rfl _ _ 22 rfl w.heap.size 3 i0 (.int .i64 0) 1 8 Try.underlying22 hi hz0 hz1 hz2 rfl (by decide) (.slice none 0 0) 0 _ rfl T0.out.o1 ⟨w1.heap.size, 0, none⟩ 1 1 [.int .i64 0] rfl rfl (cell_one_new _ _ _) (one_cell _ _) (by decide) (by unfold maxLen; omega) (by omega) hsz0 _ rfl ?_; intro g cap w3 hown hgr hor _)
  have T1 := Lib.hid (T0.out.push hgr hown hor)
  clear hown hgr hor T0 hsz0
  go_wp2
  go_loopw [10, 11, 12] (fun u v i wr => ∃ k : Nat, 1 ≤ k ∧ k ≤ c ∧ i = .int .i64 k ∧ Two w wr u v (fromTo 1 k) (fromTo 0 k)) (fun _ _ i _ => c - (intOf i).toNat)
  case atStart => exact ⟨1, Nat.le_refl _, by omega, rfl, T1.out.swap⟩
  case round =>
    obtain ⟨k, hk1, hk, rfl, ht⟩ := hrel
    have T2 := Lib.hid ht
    clear ht
    by_cases hlt : k < c
    · have T3 := Lib.hid (T2.out.fr (Fr.alloc wr (.cells #[.int .i64 (k : Int)] 3) []))
      have hsz3 : w.heap.size ≤ (wr.alloc (.cells #[.int .i64 (k : Int)] 3)).heap.size := T3.out.f.size
      have hka : (fromTo 1 k).length ≤ 15 := by rw [fromTo_len]; omega
      have hkb : (fromTo 0 k).length ≤ 15 := by rw [fromTo_len]; omega
      go_upto_region 13 with (at_builtin; refine wpList_append_lies _ rfl _ _ 22 rfl w.heap.size 3 i0 (.int .i64 0) 1 8 Try.underlying22 hi hz0 hz1 hz2 rfl (by decide) _ _ _ rfl T3.out.o1 ⟨wr.heap.size, 0, none⟩ 1 1 [.int .i64 (k : Int)] rfl rfl (cell_one_new _ _ _) (one_cell _ _) (by decide) (by unfold maxLen; omega) (by omega) hsz3 _ rfl ?_; intro g4 cap4 w4 hown hgr hor _)
      have T4 := Lib.hid ((T3.out.push hgr hown hor).swap.fr (Fr.alloc w4 (.cells #[.int .i64 (k : Int)] 3) []))
      have hsz4 : w.heap.size ≤ (w4.alloc (.cells #[.int .i64 (k : Int)] 3)).heap.size := T4.out.f.size
      clear hown hgr hor T3 hsz3
      go_wp2_with (at_builtin; refine wpList_append_lies _ rfl _ _ 22 rfl w.heap.size 3 i0 (.int .i64 0) 1 8 Try.underlying22 hi hz0 hz1 hz2 rfl (by decide) _ _ _ rfl T4.out.o1 ⟨w4.heap.size, 0, none⟩ 1 1 [.int .i64 (k : Int)] rfl rfl (cell_one_new _ _ _) (one_cell _ _) (by decide) (by unfold maxLen; omega) (by omega) hsz4 _ rfl ?_; intro g5 cap5 w5 hown hgr hor _)
      have T5 := (T4.out.push hgr hown hor).swap
      rw [← fromTo_snoc hk1, ← fromTo_snoc (Nat.zero_le k)] at T5
      have T5 := Lib.hid T5
      clear hown hgr hor T4 hsz4
      go_wp2
      go_roundw
      case rel => exact ⟨k + 1, by omega, by omega, by go_num, T5.out⟩
      case measure => simp [intOf]; omega
    · obtain rfl : k = c := by omega
      obtain ⟨ga, ca, hu10, hca, hcam, _⟩ := row_head T2.out.o1 (by rw [fromTo_len]; omega)
      obtain ⟨gb, cb, hu11, hcb, hcbm, _⟩ := row_head T2.out.o2 (by rw [fromTo_len]; omega)
      rw [fromTo_len] at hca hcb
      unfold maxLen at hcam hcbm
      rw [fromTo_len] at hu10 hu11
      rw [Nat.sub_zero] at hu11
      obtain ⟨n, hn⟩ : ∃ n, k = n + 1 := ⟨k - 1, by omega⟩
      obtain ⟨m, hm⟩ : ∃ m, n = m + 1 := ⟨n - 1, by omega⟩
      rw [show k - 1 = n by omega] at hu10
      subst hu10 hu11
      have e1 : (k : Int) - 1 = (n : Int) := by omega
      have e2 : (n : Int) - 1 = (m : Int) := by omega
      have HA1 := Lib.hid (fun (V : World) (h : Two w V (.slice (some ⟨ga, 0, none⟩) n ca) (.slice (some ⟨gb, 0, none⟩) k cb) (fromTo 1 k) (fromTo 0 k)) => h.o1.hif)
      have HR1 := Lib.hid (fun (V : World) (h : Two w V (.slice (some ⟨ga, 0, none⟩) n ca) (.slice (some ⟨gb, 0, none⟩) k cb) (fromTo 1 k) (fromTo 0 k)) => h.o2.holds)
      have HA2 : Hid (∀ (V : World), Two w V (.slice (some ⟨ga, 0, none⟩) n ca) (.slice (some ⟨gb, 0, none⟩) k cb) (fromTo 1 k) (fromTo 0 k) → HIf V (.slice (some ⟨ga, 0, none⟩) m ca) (fromTo 1 (k - 1))) := by
        intro V h
        have h1 := h.o1.holds
        rw [show n = (fromTo 1 k).length by rw [fromTo_len]; omega] at h1
        have h2 := Holds.cut h1 m (by rw [fromTo_len]; omega)
        rw [fromTo_take m (by omega), show 1 + m = k - 1 by omega] at h2
        exact ⟨h2, .inr ⟨_, ca, by rw [fromTo_len, show k - 1 - 1 = m by omega]⟩⟩
      have HR2 : Hid (∀ (V : World), Two w V (.slice (some ⟨ga, 0, none⟩) n ca) (.slice (some ⟨gb, 0, none⟩) k cb) (fromTo 1 k) (fromTo 0 k) → HInts V (.slice (some ⟨gb, 0, none⟩) n cb) (fromTo 0 (k - 1))) := by
        intro V h
        have h1 := h.o2.holds
        rw [show k = (fromTo 0 k).length by rw [fromTo_len]; omega] at h1
        rw [show (fromTo 0 (fromTo 0 k).length) = fromTo 0 k by rw [fromTo_len, Nat.sub_zero]] at h1
        have h2 := Holds.cut h1 n (by rw [fromTo_len]; omega)
        rw [fromTo_take n (by omega), show 0 + n = k - 1 by omega] at h2
        exact h2
      have hma : m ≤ ca := by omega
      have hnb : n ≤ cb := by omega
      have PA := Lib.hid (fun W => patience_any (k : Int) (by omega) W)
      obtain ⟨p, hp⟩ : ∃ p, p = 4 * (k : Int) + 8 := ⟨_, rfl⟩
      obtain ⟨lt, hlt2⟩ : ∃ b, b = (!out && longB fo k) := ⟨_, rfl⟩
      have HLF : Hid (lt = (!out && decide (p < fo))) := by show _ = _; rw [hlt2, hp]; rfl
      have W1 := Lib.hid (waits1 hc2.1 k out si fo)
      have W2 := Lib.hid (waits2 hc2.1 k out si fo)
      have W3 := Lib.hid (waits3 hc2.1 k out si fo)
      have W4 := Lib.hid (fun R => waits4 R k out si fo)
      have W5 := Lib.hid (fun R => waits5 R k out si fo)
      rw [← hlt2] at W1 W2 W3 W5
      have HLS : Hid (longB si k = decide (p < si)) := by show _ = _; rw [hp]; rfl
      rw [HLS.out] at W1
      rw [← hp] at PA
      have hpb : 0 ≤ p ∧ p ≤ 100 := by omega
      clear hp hlt2 HLS
      have SH := Lib.hid (fun (x : Int) (an : Bool) (va vr : Value) (A R : List Int) (W : World) (hA : HIf W va A) (hl : A.length ≤ 1000) (hR : HInts W vr R) (b : Bool) (hb : foundB A R x k out an si fo = b) => should_any x k out an va vr si fo A R W hA hl hR (by omega) (by omega) b hb.symm)
      have ME := Lib.hid (fun (va vr : Value) (A : List Int) (W : World) (hA : HIf W va A) (hl : A.length ≤ 1000) (hr : ∃ a n c, vr = .slice a n c) => members_any 0 k out true va vr si fo A W hA hl hr)
      have HL1 := Lib.hid (show (fromTo 1 k).length ≤ 1000 from by rw [fromTo_len]; omega)
      have HL2 := Lib.hid (show (fromTo 1 (k - 1)).length ≤ 1000 from by rw [fromTo_len]; omega)
      have HL3 := Lib.hid (show (fromTo 0 k).length ≤ 1000 from by rw [fromTo_len]; omega)
      obtain ⟨g, hg⟩ : ∃ g, g = wr.heap.size := ⟨_, rfl⟩
      have HGS := Lib.hid (show w.heap.size ≤ g from hg ▸ T2.out.f.size)
      have HR0 := Lib.hid (show RowC g 0 k out true (.slice (some ⟨ga, 0, none⟩) n ca) (.slice (some ⟨gb, 0, none⟩) k cb) si fo (wr.alloc (.cells #[.int .i64 0, .int .i64 (k : Int), .bool out, .bool true, (.slice (some ⟨ga, 0, none⟩) n ca), (.slice (some ⟨gb, 0, none⟩) k cb), .int .i64 si, .int .i64 fo] 24)) from by rw [hg]; exact heap_alloc_new wr _)
      have T3 := Lib.hid (T2.out.fr (Fr.alloc wr (.cells #[.int .i64 0, .int .i64 (k : Int), .bool out, .bool true, (.slice (some ⟨ga, 0, none⟩) n ca), (.slice (some ⟨gb, 0, none⟩) k cb), .int .i64 si, .int .i64 fo] 24) []))
      clear T1 T2 F1 hn hm
      go_upto_region 15 with fail
      rw [← hg]
      generalize wr.alloc _ = V at HR0 T3 ⊢
      clear hg
      go_wp2_with fail
      with_reducible refine (PA.out _).mono ?_
      rintro e w6 ⟨rfl, hw6⟩
      obtain rfl : V = w6 := hw6.symm
      clear hw6 PA
      go_upto_region 16 with fail
      go_cut [15] (fun s wx => s = .bool lt ∧ wx = V)
      case first =>
        cases out with
        | true =>
          have q : lt = false := by rw [HLF.out]; rfl
          go_wp2_with fail
          go_meet
          exact ⟨by rw [q], rfl⟩
        | false =>
          by_cases h1 : fo > p
          · have q : lt = true := by rw [HLF.out]; simp; omega
            go_wp2_with fail
            go_meet
            exact ⟨by rw [q], rfl⟩
          · have q : lt = false := by rw [HLF.out]; simp; omega
            go_wp2_with fail
            go_meet
            exact ⟨by rw [q], rfl⟩
      case rest =>
        obtain ⟨rfl, hwc⟩ := hcut
        have hwc' : V = wc := hwc.symm
        clear hwc
        subst hwc'
        clear HLF hi hz0 hz1 hz2
        cases lt with
        | false =>
          have X1 : Hid (foundB (fromTo 1 k) (fromTo 0 k) 0 k out true si fo = false) := by show _ = _; have := W1.out; simpa using this
          have R3 := Lib.hid HR0.out
          have S1 := Lib.hid (SH.out 0 true (.slice (some ⟨ga, 0, none⟩) n ca) (.slice (some ⟨gb, 0, none⟩) k cb) _ _ V (HA1.out V T3.out) HL1.out (HR1.out V T3.out) _ X1.out)
          clear HR0 W1
          obtain ⟨y0, y1, y2, y3, y4, y5, y6, y7⟩ := R3.out.c8
          go_wp2_with fail
          with_reducible refine (S1.out).mono ?_
          rintro e w4 ⟨rfl, hf⟩
          have T4 := Lib.hid (T3.out.fr hf)
          have R4 := Lib.hid (R3.out.fr hf)
          clear y0 y1 y2 y3 y4 y5 y6 y7
          clear hf S1
          obtain ⟨y0, y1, y2, y3, y4, y5, y6, y7⟩ := R4.out.c8
          have M1 := Lib.hid (ME.out (.slice (some ⟨ga, 0, none⟩) n ca) (.slice (some ⟨gb, 0, none⟩) k cb) (fromTo 1 k) w4 (HA1.out w4 T4.out) HL1.out ⟨_, _, _, rfl⟩)
          rw [membs_from (show 0 < k by omega)] at M1
          go_wp2_with fail
          with_reducible refine (M1.out).mono ?_
          rintro e w5 ⟨u, rfl, ho, hf⟩
          have T5 := Lib.hid (T4.out.fr hf)
          have R5 := Lib.hid (R4.out.fr hf)
          have SI := Lib.hid (sameI_quiet _ (fromTo 0 k) (.slice (some ⟨gb, 0, none⟩) k cb) (fromTo 0 k) w5 ho.holds (HR1.out w5 T5.out) (by have := HL3.out; omega) true (by simp))
          clear y0 y1 y2 y3 y4 y5 y6 y7
          clear hf ho M1
          go_wp2_with fail
          with_reducible refine (SI.out).mono ?_
          rintro e w6 ⟨rfl, q6, hq6⟩
          have T6 := Lib.hid (show Two w w6 (.slice (some ⟨ga, 0, none⟩) n ca) (.slice (some ⟨gb, 0, none⟩) k cb) (fromTo 1 k) (fromTo 0 k) from hq6 ▸ T5.out.fr (Fr.drewN w5 q6 []))
          have R6 := Lib.hid (show RowC g 0 k out true (.slice (some ⟨ga, 0, none⟩) n ca) (.slice (some ⟨gb, 0, none⟩) k cb) si fo w6 from hq6 ▸ R5.out.fr (Fr.drewN w5 q6 []))
          clear hq6 SI
          obtain ⟨y0, y1, y2, y3, y4, y5, y6, y7⟩ := R6.out.c8
          have z5 := R6.out.fz 5
          obtain ⟨V7, hV⟩ : ∃ V, V = w6.setCell ⟨g, 5, none⟩ (.slice (some ⟨gb, 0, none⟩) n cb) := ⟨_, rfl⟩
          have T7 := Lib.hid (show Two w V7 (.slice (some ⟨ga, 0, none⟩) n ca) (.slice (some ⟨gb, 0, none⟩) k cb) (fromTo 1 k) (fromTo 0 k) from hV ▸ T6.out.set R6.out HGS.out)
          have R7 := Lib.hid (R6.out.s5 (.slice (some ⟨gb, 0, none⟩) n cb))
          rw [← hV] at R7
          go_upto_region 20 with fail
          rw [← hV]
          clear y0 y1 y2 y3 y4 y5 y6 y7 hV z5
          obtain ⟨y0, y1, y2, y3, y4, y5, y6, y7⟩ := R7.out.c8
          have S2 := Lib.hid (SH.out 0 true (.slice (some ⟨ga, 0, none⟩) n ca) (.slice (some ⟨gb, 0, none⟩) n cb) _ _ V7 (HA1.out V7 T7.out) HL1.out (HR2.out V7 T7.out) _ W2.out)
          go_wp2_with fail
          with_reducible refine (S2.out).mono ?_
          rintro e w8 ⟨rfl, hf⟩
          have T8 := Lib.hid (T7.out.fr hf)
          have R8 := Lib.hid (R7.out.fr hf)
          clear y0 y1 y2 y3 y4 y5 y6 y7
          clear hf S2
          obtain ⟨y0, y1, y2, y3, y4, y5, y6, y7⟩ := R8.out.c8
          have z5 := R8.out.fz 5
          obtain ⟨V9, hV⟩ : ∃ V, V = w8.setCell ⟨g, 5, none⟩ (.slice (some ⟨gb, 0, none⟩) k cb) := ⟨_, rfl⟩
          have T9 := Lib.hid (show Two w V9 (.slice (some ⟨ga, 0, none⟩) n ca) (.slice (some ⟨gb, 0, none⟩) k cb) (fromTo 1 k) (fromTo 0 k) from hV ▸ T8.out.set R8.out HGS.out)
          have R9 := Lib.hid (R8.out.s5 (.slice (some ⟨gb, 0, none⟩) k cb))
          rw [← hV] at R9
          go_upto_region 23 with fail
          rw [← hV]
          clear y0 y1 y2 y3 y4 y5 y6 y7 hV z5
          obtain ⟨y0, y1, y2, y3, y4, y5, y6, y7⟩ := R9.out.c8
          have z4 := R9.out.fz 4
          obtain ⟨V10, hV⟩ : ∃ V, V = V9.setCell ⟨g, 4, none⟩ (.slice (some ⟨ga, 0, none⟩) m ca) := ⟨_, rfl⟩
          have T10 := Lib.hid (show Two w V10 (.slice (some ⟨ga, 0, none⟩) n ca) (.slice (some ⟨gb, 0, none⟩) k cb) (fromTo 1 k) (fromTo 0 k) from hV ▸ T9.out.set R9.out HGS.out)
          have R10 := Lib.hid (R9.out.s4 (.slice (some ⟨ga, 0, none⟩) m ca))
          rw [← hV] at R10
          go_upto_region 24 with fail
          rw [← hV]
          clear y0 y1 y2 y3 y4 y5 y6 y7 hV z4
          obtain ⟨y0, y1, y2, y3, y4, y5, y6, y7⟩ := R10.out.c8
          have S3 := Lib.hid (SH.out 0 true (.slice (some ⟨ga, 0, none⟩) m ca) (.slice (some ⟨gb, 0, none⟩) k cb) _ _ V10 (HA2.out V10 T10.out) HL2.out (HR1.out V10 T10.out) _ W3.out)
          go_wp2_with fail
          with_reducible refine (S3.out).mono ?_
          rintro e w11 ⟨rfl, hf⟩
          have T11 := Lib.hid (T10.out.fr hf)
          have R11 := Lib.hid (R10.out.fr hf)
          clear y0 y1 y2 y3 y4 y5 y6 y7
          clear hf S3
          obtain ⟨y0, y1, y2, y3, y4, y5, y6, y7⟩ := R11.out.c8
          have z3 := R11.out.fz 3
          obtain ⟨V12, hV⟩ : ∃ V, V = w11.setCell ⟨g, 3, none⟩ (.bool false) := ⟨_, rfl⟩
          have T12 := Lib.hid (show Two w V12 (.slice (some ⟨ga, 0, none⟩) n ca) (.slice (some ⟨gb, 0, none⟩) k cb) (fromTo 1 k) (fromTo 0 k) from hV ▸ T11.out.set R11.out HGS.out)
          have R12 := Lib.hid (R11.out.s3 false)
          rw [← hV] at R12
          go_upto_region 27 with fail
          rw [← hV]
          clear y0 y1 y2 y3 y4 y5 y6 y7 hV z3
          obtain ⟨y0, y1, y2, y3, y4, y5, y6, y7⟩ := R12.out.c8
          have z0 := R12.out.fz 0
          obtain ⟨V13, hV⟩ : ∃ V, V = V12.setCell ⟨g, 0, none⟩ (.int .i64 1) := ⟨_, rfl⟩
          have T13 := Lib.hid (show Two w V13 (.slice (some ⟨ga, 0, none⟩) n ca) (.slice (some ⟨gb, 0, none⟩) k cb) (fromTo 1 k) (fromTo 0 k) from hV ▸ T12.out.set R12.out HGS.out)
          have R13 := Lib.hid (R12.out.s0 1)
          rw [← hV] at R13
          go_upto_region 28 with fail
          rw [← hV]
          clear y0 y1 y2 y3 y4 y5 y6 y7 hV z0
          obtain ⟨y0, y1, y2, y3, y4, y5, y6, y7⟩ := R13.out.c8
          obtain ⟨q14, hq⟩ : ∃ q, q = V13.heap.size := ⟨_, rfl⟩
          have T14 := Lib.hid (T13.out.fr (Fr.alloc V13 (.cells #[.int .i64 0, .int .i64 2] 3) []))
          have R14 := Lib.hid (R13.out.fr (Fr.alloc V13 (.cells #[.int .i64 0, .int .i64 2] 3) []))
          have K14 : Hid ((V13.alloc (.cells #[.int .i64 0, .int .i64 2] 3)).heap[q14]? = some (.cells (i64s [0, 2]).toArray 3 (0, 0))) := by show _ = _; rw [hq]; exact heap_alloc_new V13 _
          clear y0 y1 y2 y3 y4 y5 y6 y7
          obtain ⟨y0, y1, y2, y3, y4, y5, y6, y7⟩ := R14.out.c8
          have z4 := R14.out.fz 4
          obtain ⟨A14, hA⟩ : ∃ A, A = V13.alloc (.cells #[.int .i64 0, .int .i64 2] 3) := ⟨_, rfl⟩
          obtain ⟨V15, hV⟩ : ∃ V, V = (V13.alloc (.cells #[.int .i64 0, .int .i64 2] 3)).setCell ⟨g, 4, none⟩ (.slice (some ⟨q14, 0, none⟩) 2 2) := ⟨_, rfl⟩
          have T15 := Lib.hid (show Two w V15 (.slice (some ⟨ga, 0, none⟩) n ca) (.slice (some ⟨gb, 0, none⟩) k cb) (fromTo 1 k) (fromTo 0 k) from hV ▸ T14.out.set R14.out HGS.out)
          have R15 := Lib.hid (R14.out.s4 (.slice (some ⟨q14, 0, none⟩) 2 2))
          have HI14 : Hid (HIf V15 (.slice (some ⟨q14, 0, none⟩) 2 2) [0, 2]) := by
            have hn : g ≠ q14 := by
              intro e
              have h1 : _ = _ := R14.out
              rw [e, K14.out] at h1
              simp at h1
            refine hints_of_cells rfl (by decide) ?_
            rw [hV]
            exact (Fr.setCell _ g 4 _ (S := [g]) (by simp)).heap K14.out (by simp; exact fun e => hn e.symm)
          rw [← hV] at R15
          rw [hq] at hV
          go_upto_region 29 with fail
          rw [← hV]
          clear hA K14
          clear y0 y1 y2 y3 y4 y5 y6 y7 hV z4
          rw [← hq]
          clear hq
          obtain ⟨y0, y1, y2, y3, y4, y5, y6, y7⟩ := R15.out.c8
          have S4 := Lib.hid (SH.out 1 false (.slice (some ⟨q14, 0, none⟩) 2 2) (.slice (some ⟨gb, 0, none⟩) k cb) _ _ V15 HI14.out (by simp) (HR1.out V15 T15.out) _ (W4.out _))
          go_wp2_with fail
          with_reducible refine (S4.out).mono ?_
          rintro e w16 ⟨rfl, hf⟩
          have T16 := Lib.hid (T15.out.fr hf)
          have R16 := Lib.hid (R15.out.fr hf)
          clear y0 y1 y2 y3 y4 y5 y6 y7
          clear hf S4
          obtain ⟨y0, y1, y2, y3, y4, y5, y6, y7⟩ := R16.out.c8
          go_upto_region 30 with fail
          obtain ⟨q17, hq⟩ : ∃ q, q = w16.heap.size := ⟨_, rfl⟩
          have T17 := Lib.hid (T16.out.fr (Fr.alloc w16 (.cells #[.int .i64 2] 3) []))
          have R17 := Lib.hid (R16.out.fr (Fr.alloc w16 (.cells #[.int .i64 2] 3) []))
          have K17 : Hid ((w16.alloc (.cells #[.int .i64 2] 3)).heap[q17]? = some (.cells (i64s [2]).toArray 3 (0, 0))) := by show _ = _; rw [hq]; exact heap_alloc_new w16 _
          clear y0 y1 y2 y3 y4 y5 y6 y7
          obtain ⟨y0, y1, y2, y3, y4, y5, y6, y7⟩ := R17.out.c8
          have z4 := R17.out.fz 4
          obtain ⟨A17, hA⟩ : ∃ A, A = w16.alloc (.cells #[.int .i64 2] 3) := ⟨_, rfl⟩
          obtain ⟨V18, hV⟩ : ∃ V, V = (w16.alloc (.cells #[.int .i64 2] 3)).setCell ⟨g, 4, none⟩ (.slice (some ⟨q17, 0, none⟩) 1 1) := ⟨_, rfl⟩
          have T18 := Lib.hid (show Two w V18 (.slice (some ⟨ga, 0, none⟩) n ca) (.slice (some ⟨gb, 0, none⟩) k cb) (fromTo 1 k) (fromTo 0 k) from hV ▸ T17.out.set R17.out HGS.out)
          have R18 := Lib.hid (R17.out.s4 (.slice (some ⟨q17, 0, none⟩) 1 1))
          have HI17 : Hid (HIf V18 (.slice (some ⟨q17, 0, none⟩) 1 1) [2]) := by
            have hn : g ≠ q17 := by
              intro e
              have h1 : _ = _ := R17.out
              rw [e, K17.out] at h1
              simp at h1
            refine hints_of_cells rfl (by decide) ?_
            rw [hV]
            exact (Fr.setCell _ g 4 _ (S := [g]) (by simp)).heap K17.out (by simp; exact fun e => hn e.symm)
          rw [← hV] at R18
          rw [hq] at hV
          go_upto_region 31 with fail
          rw [← hV]
          clear hA K17
          clear y0 y1 y2 y3 y4 y5 y6 y7 hV z4
          rw [← hq]
          clear hq
          obtain ⟨y0, y1, y2, y3, y4, y5, y6, y7⟩ := R18.out.c8
          have S5 := Lib.hid (SH.out 1 false (.slice (some ⟨q17, 0, none⟩) 1 1) (.slice (some ⟨gb, 0, none⟩) k cb) _ _ V18 HI17.out (by simp) (HR1.out V18 T18.out) _ (W5.out _))
          go_wp2_with fail
          with_reducible refine (S5.out).mono ?_
          rintro e w19 ⟨rfl, hf⟩
          have T19 := Lib.hid (T18.out.fr hf)
          have R19 := Lib.hid (R18.out.fr hf)
          clear y0 y1 y2 y3 y4 y5 y6 y7
          clear hf S5
          obtain ⟨y0, y1, y2, y3, y4, y5, y6, y7⟩ := R19.out.c8
          go_wp2
          go_ret
          exact ⟨rfl, T19.out.f.grown (by simp)⟩
        | true =>
          have X1 : Hid (foundB (fromTo 1 k) (fromTo 0 k) 0 k out true si fo = (decide (p < si))) := by show _ = _; have := W1.out; simpa using this
          have dne : (decide (p < si) != decide (p < si)) = false := by simp
          have R3 := Lib.hid HR0.out
          have S1 := Lib.hid (SH.out 0 true (.slice (some ⟨ga, 0, none⟩) n ca) (.slice (some ⟨gb, 0, none⟩) k cb) _ _ V (HA1.out V T3.out) HL1.out (HR1.out V T3.out) _ X1.out)
          clear HR0 W1
          obtain ⟨y0, y1, y2, y3, y4, y5, y6, y7⟩ := R3.out.c8
          go_wp2_with fail
          with_reducible refine (S1.out).mono ?_
          rintro e w4 ⟨rfl, hf⟩
          have T4 := Lib.hid (T3.out.fr hf)
          have R4 := Lib.hid (R3.out.fr hf)
          clear y0 y1 y2 y3 y4 y5 y6 y7
          clear hf S1
          obtain ⟨y0, y1, y2, y3, y4, y5, y6, y7⟩ := R4.out.c8
          have M1 := Lib.hid (ME.out (.slice (some ⟨ga, 0, none⟩) n ca) (.slice (some ⟨gb, 0, none⟩) k cb) (fromTo 1 k) w4 (HA1.out w4 T4.out) HL1.out ⟨_, _, _, rfl⟩)
          rw [membs_from (show 0 < k by omega)] at M1
          go_wp2_with fail
          with_reducible refine (M1.out).mono ?_
          rintro e w5 ⟨u, rfl, ho, hf⟩
          have T5 := Lib.hid (T4.out.fr hf)
          have R5 := Lib.hid (R4.out.fr hf)
          have SI := Lib.hid (sameI_quiet _ (fromTo 0 k) (.slice (some ⟨gb, 0, none⟩) k cb) (fromTo 0 k) w5 ho.holds (HR1.out w5 T5.out) (by have := HL3.out; omega) true (by simp))
          clear y0 y1 y2 y3 y4 y5 y6 y7
          clear hf ho M1
          go_wp2_with fail
          with_reducible refine (SI.out).mono ?_
          rintro e w6 ⟨rfl, q6, hq6⟩
          have T6 := Lib.hid (show Two w w6 (.slice (some ⟨ga, 0, none⟩) n ca) (.slice (some ⟨gb, 0, none⟩) k cb) (fromTo 1 k) (fromTo 0 k) from hq6 ▸ T5.out.fr (Fr.drewN w5 q6 []))
          have R6 := Lib.hid (show RowC g 0 k out true (.slice (some ⟨ga, 0, none⟩) n ca) (.slice (some ⟨gb, 0, none⟩) k cb) si fo w6 from hq6 ▸ R5.out.fr (Fr.drewN w5 q6 []))
          clear hq6 SI
          obtain ⟨y0, y1, y2, y3, y4, y5, y6, y7⟩ := R6.out.c8
          have z5 := R6.out.fz 5
          obtain ⟨V7, hV⟩ : ∃ V, V = w6.setCell ⟨g, 5, none⟩ (.slice (some ⟨gb, 0, none⟩) n cb) := ⟨_, rfl⟩
          have T7 := Lib.hid (show Two w V7 (.slice (some ⟨ga, 0, none⟩) n ca) (.slice (some ⟨gb, 0, none⟩) k cb) (fromTo 1 k) (fromTo 0 k) from hV ▸ T6.out.set R6.out HGS.out)
          have R7 := Lib.hid (R6.out.s5 (.slice (some ⟨gb, 0, none⟩) n cb))
          rw [← hV] at R7
          go_upto_region 20 with fail
          rw [← hV]
          clear y0 y1 y2 y3 y4 y5 y6 y7 hV z5
          obtain ⟨y0, y1, y2, y3, y4, y5, y6, y7⟩ := R7.out.c8
          have S2 := Lib.hid (SH.out 0 true (.slice (some ⟨ga, 0, none⟩) n ca) (.slice (some ⟨gb, 0, none⟩) n cb) _ _ V7 (HA1.out V7 T7.out) HL1.out (HR2.out V7 T7.out) _ W2.out)
          go_wp2_with fail
          with_reducible refine (S2.out).mono ?_
          rintro e w8 ⟨rfl, hf⟩
          have T8 := Lib.hid (T7.out.fr hf)
          have R8 := Lib.hid (R7.out.fr hf)
          clear y0 y1 y2 y3 y4 y5 y6 y7
          clear hf S2
          obtain ⟨y0, y1, y2, y3, y4, y5, y6, y7⟩ := R8.out.c8
          have z5 := R8.out.fz 5
          obtain ⟨V9, hV⟩ : ∃ V, V = w8.setCell ⟨g, 5, none⟩ (.slice (some ⟨gb, 0, none⟩) k cb) := ⟨_, rfl⟩
          have T9 := Lib.hid (show Two w V9 (.slice (some ⟨ga, 0, none⟩) n ca) (.slice (some ⟨gb, 0, none⟩) k cb) (fromTo 1 k) (fromTo 0 k) from hV ▸ T8.out.set R8.out HGS.out)
          have R9 := Lib.hid (R8.out.s5 (.slice (some ⟨gb, 0, none⟩) k cb))
          rw [← hV] at R9
          go_upto_region 23 with fail
          rw [← hV]
          clear y0 y1 y2 y3 y4 y5 y6 y7 hV z5
          obtain ⟨y0, y1, y2, y3, y4, y5, y6, y7⟩ := R9.out.c8
          have z4 := R9.out.fz 4
          obtain ⟨V10, hV⟩ : ∃ V, V = V9.setCell ⟨g, 4, none⟩ (.slice (some ⟨ga, 0, none⟩) m ca) := ⟨_, rfl⟩
          have T10 := Lib.hid (show Two w V10 (.slice (some ⟨ga, 0, none⟩) n ca) (.slice (some ⟨gb, 0, none⟩) k cb) (fromTo 1 k) (fromTo 0 k) from hV ▸ T9.out.set R9.out HGS.out)
          have R10 := Lib.hid (R9.out.s4 (.slice (some ⟨ga, 0, none⟩) m ca))
          rw [← hV] at R10
          go_upto_region 24 with fail
          rw [← hV]
          clear y0 y1 y2 y3 y4 y5 y6 y7 hV z4
          obtain ⟨y0, y1, y2, y3, y4, y5, y6, y7⟩ := R10.out.c8
          have S3 := Lib.hid (SH.out 0 true (.slice (some ⟨ga, 0, none⟩) m ca) (.slice (some ⟨gb, 0, none⟩) k cb) _ _ V10 (HA2.out V10 T10.out) HL2.out (HR1.out V10 T10.out) _ W3.out)
          go_wp2_with fail
          with_reducible refine (S3.out).mono ?_
          rintro e w11 ⟨rfl, hf⟩
          have T11 := Lib.hid (T10.out.fr hf)
          have R11 := Lib.hid (R10.out.fr hf)
          clear y0 y1 y2 y3 y4 y5 y6 y7
          clear hf S3
          obtain ⟨y0, y1, y2, y3, y4, y5, y6, y7⟩ := R11.out.c8
          have z3 := R11.out.fz 3
          obtain ⟨V12, hV⟩ : ∃ V, V = w11.setCell ⟨g, 3, none⟩ (.bool false) := ⟨_, rfl⟩
          have T12 := Lib.hid (show Two w V12 (.slice (some ⟨ga, 0, none⟩) n ca) (.slice (some ⟨gb, 0, none⟩) k cb) (fromTo 1 k) (fromTo 0 k) from hV ▸ T11.out.set R11.out HGS.out)
          have R12 := Lib.hid (R11.out.s3 false)
          rw [← hV] at R12
          go_upto_region 27 with fail
          rw [← hV]
          clear y0 y1 y2 y3 y4 y5 y6 y7 hV z3
          obtain ⟨y0, y1, y2, y3, y4, y5, y6, y7⟩ := R12.out.c8
          have z0 := R12.out.fz 0
          obtain ⟨V13, hV⟩ : ∃ V, V = V12.setCell ⟨g, 0, none⟩ (.int .i64 1) := ⟨_, rfl⟩
          have T13 := Lib.hid (show Two w V13 (.slice (some ⟨ga, 0, none⟩) n ca) (.slice (some ⟨gb, 0, none⟩) k cb) (fromTo 1 k) (fromTo 0 k) from hV ▸ T12.out.set R12.out HGS.out)
          have R13 := Lib.hid (R12.out.s0 1)
          rw [← hV] at R13
          go_upto_region 28 with fail
          rw [← hV]
          clear y0 y1 y2 y3 y4 y5 y6 y7 hV z0
          obtain ⟨y0, y1, y2, y3, y4, y5, y6, y7⟩ := R13.out.c8
          obtain ⟨q14, hq⟩ : ∃ q, q = V13.heap.size := ⟨_, rfl⟩
          have T14 := Lib.hid (T13.out.fr (Fr.alloc V13 (.cells #[.int .i64 0, .int .i64 2] 3) []))
          have R14 := Lib.hid (R13.out.fr (Fr.alloc V13 (.cells #[.int .i64 0, .int .i64 2] 3) []))
          have K14 : Hid ((V13.alloc (.cells #[.int .i64 0, .int .i64 2] 3)).heap[q14]? = some (.cells (i64s [0, 2]).toArray 3 (0, 0))) := by show _ = _; rw [hq]; exact heap_alloc_new V13 _
          clear y0 y1 y2 y3 y4 y5 y6 y7
          obtain ⟨y0, y1, y2, y3, y4, y5, y6, y7⟩ := R14.out.c8
          have z4 := R14.out.fz 4
          obtain ⟨A14, hA⟩ : ∃ A, A = V13.alloc (.cells #[.int .i64 0, .int .i64 2] 3) := ⟨_, rfl⟩
          obtain ⟨V15, hV⟩ : ∃ V, V = (V13.alloc (.cells #[.int .i64 0, .int .i64 2] 3)).setCell ⟨g, 4, none⟩ (.slice (some ⟨q14, 0, none⟩) 2 2) := ⟨_, rfl⟩
          have T15 := Lib.hid (show Two w V15 (.slice (some ⟨ga, 0, none⟩) n ca) (.slice (some ⟨gb, 0, none⟩) k cb) (fromTo 1 k) (fromTo 0 k) from hV ▸ T14.out.set R14.out HGS.out)
          have R15 := Lib.hid (R14.out.s4 (.slice (some ⟨q14, 0, none⟩) 2 2))
          have HI14 : Hid (HIf V15 (.slice (some ⟨q14, 0, none⟩) 2 2) [0, 2]) := by
            have hn : g ≠ q14 := by
              intro e
              have h1 : _ = _ := R14.out
              rw [e, K14.out] at h1
              simp at h1
            refine hints_of_cells rfl (by decide) ?_
            rw [hV]
            exact (Fr.setCell _ g 4 _ (S := [g]) (by simp)).heap K14.out (by simp; exact fun e => hn e.symm)
          rw [← hV] at R15
          rw [hq] at hV
          go_upto_region 29 with fail
          rw [← hV]
          clear hA K14
          clear y0 y1 y2 y3 y4 y5 y6 y7 hV z4
          rw [← hq]
          clear hq
          obtain ⟨y0, y1, y2, y3, y4, y5, y6, y7⟩ := R15.out.c8
          have S4 := Lib.hid (SH.out 1 false (.slice (some ⟨q14, 0, none⟩) 2 2) (.slice (some ⟨gb, 0, none⟩) k cb) _ _ V15 HI14.out (by simp) (HR1.out V15 T15.out) _ (W4.out _))
          go_wp2_with fail
          with_reducible refine (S4.out).mono ?_
          rintro e w16 ⟨rfl, hf⟩
          have T16 := Lib.hid (T15.out.fr hf)
          have R16 := Lib.hid (R15.out.fr hf)
          clear y0 y1 y2 y3 y4 y5 y6 y7
          clear hf S4
          obtain ⟨y0, y1, y2, y3, y4, y5, y6, y7⟩ := R16.out.c8
          go_upto_region 30 with fail
          obtain ⟨q17, hq⟩ : ∃ q, q = w16.heap.size := ⟨_, rfl⟩
          have T17 := Lib.hid (T16.out.fr (Fr.alloc w16 (.cells #[.int .i64 2] 3) []))
          have R17 := Lib.hid (R16.out.fr (Fr.alloc w16 (.cells #[.int .i64 2] 3) []))
          have K17 : Hid ((w16.alloc (.cells #[.int .i64 2] 3)).heap[q17]? = some (.cells (i64s [2]).toArray 3 (0, 0))) := by show _ = _; rw [hq]; exact heap_alloc_new w16 _
          clear y0 y1 y2 y3 y4 y5 y6 y7
          obtain ⟨y0, y1, y2, y3, y4, y5, y6, y7⟩ := R17.out.c8
          have z4 := R17.out.fz 4
          obtain ⟨A17, hA⟩ : ∃ A, A = w16.alloc (.cells #[.int .i64 2] 3) := ⟨_, rfl⟩
          obtain ⟨V18, hV⟩ : ∃ V, V = (w16.alloc (.cells #[.int .i64 2] 3)).setCell ⟨g, 4, none⟩ (.slice (some ⟨q17, 0, none⟩) 1 1) := ⟨_, rfl⟩
          have T18 := Lib.hid (show Two w V18 (.slice (some ⟨ga, 0, none⟩) n ca) (.slice (some ⟨gb, 0, none⟩) k cb) (fromTo 1 k) (fromTo 0 k) from hV ▸ T17.out.set R17.out HGS.out)
          have R18 := Lib.hid (R17.out.s4 (.slice (some ⟨q17, 0, none⟩) 1 1))
          have HI17 : Hid (HIf V18 (.slice (some ⟨q17, 0, none⟩) 1 1) [2]) := by
            have hn : g ≠ q17 := by
              intro e
              have h1 : _ = _ := R17.out
              rw [e, K17.out] at h1
              simp at h1
            refine hints_of_cells rfl (by decide) ?_
            rw [hV]
            exact (Fr.setCell _ g 4 _ (S := [g]) (by simp)).heap K17.out (by simp; exact fun e => hn e.symm)
          rw [← hV] at R18
          rw [hq] at hV
          go_upto_region 31 with fail
          rw [← hV]
          clear hA K17
          clear y0 y1 y2 y3 y4 y5 y6 y7 hV z4
          rw [← hq]
          clear hq
          obtain ⟨y0, y1, y2, y3, y4, y5, y6, y7⟩ := R18.out.c8
          have S5 := Lib.hid (SH.out 1 false (.slice (some ⟨q17, 0, none⟩) 1 1) (.slice (some ⟨gb, 0, none⟩) k cb) _ _ V18 HI17.out (by simp) (HR1.out V18 T18.out) _ (W5.out _))
          go_wp2_with fail
          with_reducible refine (S5.out).mono ?_
          rintro e w19 ⟨rfl, hf⟩
          have T19 := Lib.hid (T18.out.fr hf)
          have R19 := Lib.hid (R18.out.fr hf)
          clear y0 y1 y2 y3 y4 y5 y6 y7
          clear hf S5
          obtain ⟨y0, y1, y2, y3, y4, y5, y6, y7⟩ := R19.out.c8
          go_wp2
          go_ret
          exact ⟨rfl, T19.out.f.grown (by simp)⟩
end Go.Proofs.Ytjjlajcpngphpaa
