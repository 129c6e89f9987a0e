/- The ledger's law of room: walked. -/
import Derived.Test.YtldheaamcnmlgaaLgC15
import Derived.Test.YtldheaamcnmlgaaLgFull
import Derived.Test.YtldheaamcnmlgaaGLf
namespace Go.Proofs.Ytldheaamcnmlgaa
open Go.RowKit Fm

/-- What the test of an entry reads: its own box; the ring's, the entry ahead. -/
def SFl (V : World) (b : Nat) (fl di ge aw : Int) (vb : Value) (a : World) : Prop := Fr V a [] ∧ C5 b (.int .i64 fl) (.int .i64 di) (.int .i64 ge) vb (.int .i64 aw) a
theorem SFl.fr {V : World} {b : Nat} {fl di ge aw : Int} {vb : Value} {a a' : World} (h : SFl V b fl di ge aw vb a) (k : Fr a a' []) : SFl V b fl di ge aw vb a' := ⟨h.1.trans k, h.2.fr k (by simp)⟩
def SFn (V : World) (g b : Nat) (fl di ge aw : Int) (vb ve : Value) (q o : Nat) (f d : Int) (a : World) : Prop := SFl V b fl di ge aw vb a ∧ a.cell? ⟨g, 4, none⟩ = some ve ∧ a.cell? ⟨q, o, none⟩ = some (.int .i64 f) ∧ a.cell? ⟨q, o + 1, none⟩ = some (.int .i64 d)
theorem SFn.fr {V : World} {g b : Nat} {fl di ge aw : Int} {vb ve : Value} {q o : Nat} {f d : Int} {a a' : World} (h : SFn V g b fl di ge aw vb ve q o f d a) (k : Fr a a' []) : SFn V g b fl di ge aw vb ve q o f d a' :=
  ⟨h.1.fr k, k.cell h.2.1 (by simp), k.cell h.2.2.1 (by simp), k.cell h.2.2.2 (by simp)⟩
/-- What the last test reads: the ring's own box. -/
def SFe (V : World) (g : Nat) (v0 v1 v2 v3 v4 : Value) (a : World) : Prop := Fr V a [] ∧ C5 g v0 v1 v2 v3 v4 a
theorem nil_lats {w : World} : HLs w (.slice none 0 0) [] := ⟨none, 0, rfl, by simp, by decide, fun h => absurd h (by simp)⟩
theorem rfld3 (co fo ho : Int) (vm ve : Value) (W : World) : (Instr.field 27 (.agg #[.int .i64 co, .int .i64 fo, .int .i64 ho, vm, ve]) 3).run Try.prog W = .ok ve W := by kernel_rfl
set_option maxHeartbeats 4000000 in
set_option maxRecDepth 100000 in
theorem lfull_true (LG : LgIs) (n0 g0 : Int) (w : World) (hn : -9223372036854775808 ≤ n0 ∧ n0 ≤ 9223372036854775807) (hg : -9223372036854775808 ≤ g0 ∧ g0 ≤ 9223372036854775807) :
    Calls Try.prog 5 #[.int .i64 n0, .int .i64 g0] w fun e w' => e = .returned (.bool true) ∧ Fr w w' [] := by
  obtain ⟨i1, hi1, hy0, hy1, hy2⟩ := info_parts infoL
  obtain ⟨n, hn1⟩ := Int.eq_ofNat_of_zero_le (Int.emod_nonneg n0 (show (140 : Int) ≠ 0 by omega))
  have hn2 : n < 140 := by have := Int.emod_lt_of_pos n0 (show (0 : Int) < 140 by omega); omega
  have N1 := Lib.hid (fun W => numberTo_any n0 140 W (by omega) (by omega) hn.1 hn.2)
  have N2 := Lib.hid (fun W => numberTo_any g0 1000 W (by omega) (by omega) hg.1 hg.2)
  rw [hn1] at N1
  obtain ⟨g1, hg1⟩ : ∃ g1, g1 = g0 % 1000 := ⟨_, rfl⟩
  have hg2 : 0 ≤ g1 ∧ g1 < 1000 := by have := Int.emod_nonneg g0 (show (1000 : Int) ≠ 0 by omega); have := Int.emod_lt_of_pos g0 (show (0 : Int) < 1000 by omega); omega
  rw [← hg1] at N2
  have HFI := Lib.hid (lfirst_any LG w)
  clear hn hg hn1 hg1
  go_enter Try.func5, Try.ntmps5
  go_wp2_with fail
  with_reducible refine (HFI.out).mono ?_
  rintro e w1 ⟨rfl, hf1⟩
  have HF1 := Lib.hid hf1
  clear hf1 HFI
  go_wp2_with fail
  with_reducible refine (N1.out _).mono ?_
  rintro e w2 ⟨rfl, rfl⟩
  go_wp2_with fail
  with_reducible refine (N2.out _).mono ?_
  rintro e w2 ⟨rfl, rfl⟩
  clear N1 N2
  go_wp2_with fail
  go_loopw [6, 7] (fun s6 s7 wx => ∃ k : Nat, s7 = .int .i64 ((n : Int) - 1 - k) ∧ Hid (k ≤ n) ∧ Hid (OwnL wx w1.heap.size s6 (litTo n (g1 + 1) k)) ∧ Hid (Fr w1 wx [])) (fun _ s7 _ => (intOf s7 + 1).toNat)
  case atStart => exact ⟨0, by go_num, Lib.hid (Nat.zero_le _), Lib.hid (OwnL.nil _ _), Lib.hid (Fr.refl _ _)⟩
  case round =>
    obtain ⟨k, rfl, HK, HO, HF⟩ := hrel
    have hk := HK.out
    by_cases hlt : k < n
    · obtain ⟨i, hi⟩ : ∃ i : Nat, i = n - 1 - k := ⟨_, rfl⟩
      have HI := Lib.hid hi
      have hi2 : (n : Int) - 1 - k = i := by omega
      have hin : i < 140 := by omega
      rw [hi2]
      have dg : decide ((0 : Int) ≤ (i : Int)) = true := decide_eq_true (by omega)
      obtain ⟨ua, uc, hv⟩ := HO.out.shape
      rw [litTo_len] at hv
      subst hv
      have HCL : Hid ((laI (g1 + 1) i).cl = [.int .i64 ((i : Int) / 2 % 64), .int .i64 (2 * ((i : Int) % 2) - 1), .int .i64 (g1 + 1)]) := by
        have e1 : ((i / 2 % 64 : Nat) : Int) = (i : Int) / 2 % 64 := by omega
        have e2 : (2 * ((i % 2 : Nat) : Int) - 1) = 2 * ((i : Int) % 2) - 1 := by omega
        show [Value.int .i64 ((i / 2 % 64 : Nat) : Int), .int .i64 (2 * ((i % 2 : Nat) : Int) - 1), .int .i64 (g1 + 1)] = _
        rw [e1, e2]
      have HCE := Lib.hid (row_newL wr [.int .i64 ((i : Int) / 2 % 64), .int .i64 (2 * ((i : Int) % 2) - 1), .int .i64 (g1 + 1)] 37)
      have HON : Hid (∀ u ∈ [Value.int .i64 ((i : Int) / 2 % 64), .int .i64 (2 * ((i : Int) % 2) - 1), .int .i64 (g1 + 1)], u.oneCell' = true) := by
        have := la_one (laI (g1 + 1) i)
        rw [HCL.out] at this
        exact this
      have HOA : Hid ((wr.alloc (.cells #[.int .i64 ((i : Int) / 2 % 64), .int .i64 (2 * ((i : Int) % 2) - 1), .int .i64 (g1 + 1)] 37)).ownsRow w1.heap.size 37 3 (.slice ua k uc) k (laC (litTo n (g1 + 1) k))) := by
        have := World.ownsRow.alloc HO.out (.cells #[.int .i64 ((i : Int) / 2 % 64), .int .i64 (2 * ((i : Int) % 2) - 1), .int .i64 (g1 + 1)] 37)
        rw [litTo_len] at this
        exact this
      have HFA := Lib.hid (HF.out.trans (Fr.alloc wr (.cells #[.int .i64 ((i : Int) / 2 % 64), .int .i64 (2 * ((i : Int) % 2) - 1), .int .i64 (g1 + 1)] 37) []))
      clear hi hi2
      go_upto_region 9 with (at_builtin; refine wpList_append_own _ rfl _ _ 47 rfl w1.heap.size 37 i1 (.agg #[.int .i64 0, .int .i64 0, .int .i64 0]) 3 24 Try.underlying47 hi1 hy0 hy1 hy2 rfl (by decide) (.slice ua k uc) k (laC (litTo n (g1 + 1) k)) rfl HOA.out ⟨wr.heap.size, 0, none⟩ 1 1 [.int .i64 ((i : Int) / 2 % 64), .int .i64 (2 * ((i : Int) % 2) - 1), .int .i64 (g1 + 1)] rfl rfl HCE.out HON.out (by unfold maxLen; omega) (by omega) HFA.out.size ?_; intro v' w6 hown6 hg6 _)
      have HF6 := Lib.hid (HFA.out.grown_own hg6 (fun r hr => .inr (World.ownsRow.lt HOA.out r hr).1))
      have HO6 : Hid (OwnL w6 w1.heap.size v' (litTo n (g1 + 1) (k + 1))) := by
        have e : litTo n (g1 + 1) (k + 1) = litTo n (g1 + 1) k ++ [laI (g1 + 1) i] := by rw [litTo_succ, HI.out]
        show OwnL _ _ _ _
        rw [e]
        refine OwnL.snoc ?_
        rw [litTo_len, HCL.out]
        exact hown6
      clear hown6 hg6 HOA HCE HFA HON HCL HO HF
      go_wp2
      go_roundw
      case rel => exact ⟨k + 1, by have := HI.out; go_num, Lib.hid (by omega), HO6, HF6⟩
      case measure => have := HI.out; first | (simp [intOf]; done) | (simp [intOf]; omega)
    · obtain rfl : k = n := by omega
      have dg : decide ((0 : Int) ≤ (k : Int) - 1 - k) = false := decide_eq_false (by omega)
      have HFL := Lib.hid (full_is 1 0 (g1 + 1) k)
      have HLL := Lib.hid (litTo_len k (g1 + 1) k)
      have HL := Lib.hid HO.out.holds
      obtain ⟨ua, uc, hv⟩ := HO.out.shape
      rw [litTo_len] at hv
      subst hv
      obtain ⟨L, hL⟩ : ∃ L, L = litTo k (g1 + 1) k := ⟨_, rfl⟩
      rw [← hL] at HLL HL
      have HLE := Lib.hid hL
      have HFA := Lib.hid (Fr.alloc wr (.cells #[.int .i64 0] 3) [])
      have HI0 : Hid (HInts (wr.alloc (.cells #[.int .i64 0] 3)) (.slice (some ⟨wr.heap.size, 0, none⟩) 1 1) [0]) := Lib.hid ⟨_, 1, rfl, Nat.le_refl _, by decide, fun _ => ⟨_, _, rfl, fun i hi => by
        obtain rfl : i = 0 := by have : i < 1 := hi; omega
        have := row_newL wr [.int .i64 0] 3 0 (.int .i64 0) rfl
        rwa [Addr.add_lit] at this⟩⟩
      have NW := Lib.hid (LG.new 1 0 _ [0] _ HI0.out (by decide))
      clear hL HO
      go_wp2_with fail
      with_reducible refine (NW.out).mono ?_
      rintro e w2 ⟨u, rfl, ⟨vm, ve, rfl, hm, he⟩, hf2⟩
      have HF2 := Lib.hid ((HF.out.trans HFA.out).trans hf2)
      have AD := Lib.hid (LG.add (newR 1 0 [0]) vm ve _ L w2 hm he ⟨Nat.le_trans (setOf_length [0]) (by decide), by decide, by intro e he; cases he⟩ (HL.out.keep (HFA.out.trans hf2)) (by rw [HLL.out]; omega))
      have HL2 := Lib.hid (HL.out.keep (HFA.out.trans hf2))
      rw [← HLE.out] at HFL
      clear hm he hf2 NW HI0 HFA HL HF
      go_wp2_with fail
      with_reducible refine (AD.out).mono ?_
      rintro e w3 ⟨u, rfl, ⟨um, ue, rfl, hum, hue⟩, hf3⟩
      generalize addR (newR 1 0 [0]) L = R at HFL hum hue ⊢
      obtain ⟨co, fo, ho, ms, es⟩ := R
      have HUM := Lib.hid hum
      have HUE := Lib.hid hue
      dsimp only at hum hue HUM HUE
      obtain ⟨am, cm, rfl, pm, qm, rm⟩ := hum
      obtain ⟨ae, ce, rfl, pe, qe, re⟩ := hue
      have HLS := Lib.hid re
      obtain ⟨p, hp⟩ : ∃ p, p = es.length := ⟨_, rfl⟩
      obtain ⟨m, hmm⟩ : ∃ m, m = ms.length := ⟨_, rfl⟩
      have HP := Lib.hid hp
      have HMM := Lib.hid hmm
      have HPK := Lib.hid (show p = min k 128 by rw [hp]; exact HFL.out.len)
      have hp128 : p ≤ 128 := by have := HPK.out; omega
      have dn : ((p : Int) != if 128 < (k : Int) then 128 else (k : Int)) = false := by
        have := HPK.out
        split <;> simp <;> omega
      unfold rgV
      dsimp only
      rw [← hp, ← hmm]
      rw [← hp] at HLS HUE pe
      rw [← hmm] at HUM pm
      have HF3 := Lib.hid (HF2.out.trans hf3)
      have HL3 := Lib.hid (HL2.out.keep hf3)
      clear hf3 re rm hp hmm AD HL2 HF2
      have HBX := Lib.hid (box_ring w3 (.int .i64 co) (.int .i64 fo) (.int .i64 ho) (.slice am m cm) (.slice ae p ce))
      go_upto_region 12 with fail
      generalize World.alloc w3 _ = W at HBX ⊢
      obtain ⟨y0, y1, y2, y3, y4⟩ := row5 HBX.out.1
      have HFW := Lib.hid HBX.out.2
      go_cut [48] (fun s48 wx => s48 = .bool false ∧ W = wx)
      case first =>
        go_wp2_with fail
        all_goals
          go_meet
          refine ⟨congrArg _ ?_, rfl⟩
          have := HPK.out
          first | (simp; done) | (simp; omega)
      case rest =>
      obtain ⟨rfl, hcut⟩ := hcut
      subst hcut
      clear dn y0 y1 y2 y3 y4
      go_wp2_with fail
      go_loopw [9] (fun s9 wx => ∃ i : Nat, i ≤ p ∧ s9 = .int .i64 i ∧ Hid (Fr W wx [])) (fun s9 _ => p - (intOf s9).toNat)
      case atStart => exact ⟨0, Nat.zero_le _, rfl, Lib.hid (Fr.refl _ _)⟩
      case round =>
        obtain ⟨i, hi, rfl, HF⟩ := hrel
        obtain ⟨y0, y1, y2, y3, y4⟩ := row5 (HF.out.heap HBX.out.1 (by simp))
        by_cases hlt : i < p
        · have dl : decide ((i : Int) < (p : Int)) = true := decide_eq_true (by omega)
          obtain ⟨bl, off, rfl, hc⟩ := HLS.out (by omega)
          have HCC := Lib.hid hc
          obtain ⟨e, he⟩ : ∃ e, e = es.getD i zeroE := ⟨_, rfl⟩
          have hmem : e ∈ es := by rw [he]; exact getD_mem (by have := HP.out; omega) zeroE
          obtain ⟨haw, hbs, hge⟩ := HFL.out.each e hmem
          obtain ⟨vb, c0, c1, c2, c3, c4, hvb⟩ := hc i (by omega)
          rw [← he] at c0 c1 c2 c4 hvb
          rw [haw] at c4
          rw [hbs] at hvb
          rw [hge] at c2
          obtain ⟨av, cv, rfl, _⟩ := hvb
          dsimp only [List.length_nil] at c3
          have HFX := Lib.hid (HFW.out.trans HF.out)
          have d0 := HFX.out.cell c0 (by simp)
          have d1 := HFX.out.cell c1 (by simp)
          have d2 := HFX.out.cell c2 (by simp)
          have d3 := HFX.out.cell c3 (by simp)
          have d4 := HFX.out.cell c4 (by simp)
          obtain ⟨fl, hfl⟩ : ∃ x, x = e.fl := ⟨_, rfl⟩
          obtain ⟨di, hdi⟩ : ∃ x, x = e.di := ⟨_, rfl⟩
          rw [← hfl] at d0
          rw [← hdi] at d1
          have HEX := Lib.hid (⟨he, hfl, hdi⟩ : e = es.getD i zeroE ∧ fl = e.fl ∧ di = e.di)
          have HZ := Lib.hid (heap_alloc_new wr (.cells #[.int .i64 fl, .int .i64 di, .int .i64 (g1 + 1), .slice av 0 cv, .int .i64 (-1)] 40))
          have HFV := Lib.hid (Fr.alloc wr (.cells #[.int .i64 fl, .int .i64 di, .int .i64 (g1 + 1), .slice av 0 cv, .int .i64 (-1)] 40) [])
          clear hc he hmem haw hbs hge c0 c1 c2 c3 c4 hfl hdi
          go_upto_region 18 with fail
          generalize World.alloc wr _ = V at HZ HFV ⊢
          clear y0 y1 y2 y3 y4 d0 d1 d2 d3 d4
          obtain ⟨z0, z1, z2, z3, z4⟩ := row5 HZ.out
          have HFN := Lib.hid (HF.out.trans HFV.out)
          by_cases h0 : i = 0
          · subst h0
            have HSF := Lib.hid (show SFl V wr.heap.size fl di (g1 + 1) (-1) (.slice av 0 cv) V.drew from ⟨Fr.drew V [], (show C5 _ _ _ _ _ _ V from row5 HZ.out).fr (Fr.drew V []) (by simp)⟩)
            clear z0 z1 z2 z3 z4
            refine wp_region_det (S := SFl V wr.heap.size fl di (g1 + 1) (-1) (.slice av 0 cv)) (by kernel_rfl) HSF.out ?_
            refine wpDet_take (i := 0) (oi := _) (v := ?dv1) (by simp only [List.getElem?_toArray, List.getElem?_cons_zero]; rfl) (by kernel_rfl) (by kernel_rfl) (by kernel_rfl) (Or.inl ⟨by rfl, ?dy1⟩) ?dr1
            case dy1 => (intro w hSw; have hS0 := hSw; (try dsimp only [SFl,C5] at hSw); go_simp; refine Came.value ?_ hS0; with_reducible rfl)
            try simp only [Act.put, List.setIfInBounds_toArray, List.set_cons_zero, List.set_cons_succ]
            refine wpDet_take (i := 1) (oi := _) (v := ?dv2) (by simp only [List.getElem?_toArray, List.getElem?_cons_zero, List.getElem?_cons_succ]; rfl) (by kernel_rfl) (by kernel_rfl) (by kernel_rfl) (Or.inl ⟨by rfl, ?dy2⟩) ?dr2
            case dy2 => (intro w hSw; have hS0 := hSw; (try dsimp only [SFl,C5] at hSw); go_simp; refine Came.value ?_ hS0; with_reducible rfl)
            try simp only [Act.put, List.setIfInBounds_toArray, List.set_cons_zero, List.set_cons_succ]
            refine wpDet_take (i := 2) (oi := _) (v := ?dv3) (by simp only [List.getElem?_toArray, List.getElem?_cons_zero, List.getElem?_cons_succ]; rfl) (by kernel_rfl) (by kernel_rfl) (by kernel_rfl) (Or.inl ⟨by rfl, ?dy3⟩) ?dr3
            case dy3 => (intro w hSw; have hS0 := hSw; (try dsimp only [SFl,C5] at hSw); go_simp; refine Came.value ?_ hS0; with_reducible rfl)
            try simp only [Act.put, List.setIfInBounds_toArray, List.set_cons_zero, List.set_cons_succ]
            refine wpDet_take (i := 3) (oi := _) (v := undef) (by simp only [List.getElem?_toArray, List.getElem?_cons_zero, List.getElem?_cons_succ]; rfl) (by kernel_rfl) (by kernel_rfl) (by kernel_rfl) (Or.inr ⟨by rfl, rfl⟩) ?_
            try simp only [Act.put, List.setIfInBounds_toArray, List.set_cons_zero, List.set_cons_succ]
            refine wpDet_take (i := 4) (oi := _) (v := undef) (by simp only [List.getElem?_toArray, List.getElem?_cons_zero, List.getElem?_cons_succ]; rfl) (by kernel_rfl) (by kernel_rfl) (by kernel_rfl) (Or.inr ⟨by rfl, rfl⟩) ?_
            try simp only [Act.put, List.setIfInBounds_toArray, List.set_cons_zero, List.set_cons_succ]
            refine wpDet_take (i := 5) (oi := _) (v := undef) (by simp only [List.getElem?_toArray, List.getElem?_cons_zero, List.getElem?_cons_succ]; rfl) (by kernel_rfl) (by kernel_rfl) (by kernel_rfl) (Or.inr ⟨by rfl, rfl⟩) ?_
            try simp only [Act.put, List.setIfInBounds_toArray, List.set_cons_zero, List.set_cons_succ]
            refine wpDet_take (i := 6) (oi := _) (v := undef) (by simp only [List.getElem?_toArray, List.getElem?_cons_zero, List.getElem?_cons_succ]; rfl) (by kernel_rfl) (by kernel_rfl) (by kernel_rfl) (Or.inr ⟨by rfl, rfl⟩) ?_
            try simp only [Act.put, List.setIfInBounds_toArray, List.set_cons_zero, List.set_cons_succ]
            refine wpDet_take (i := 7) (oi := _) (v := undef) (by simp only [List.getElem?_toArray, List.getElem?_cons_zero, List.getElem?_cons_succ]; rfl) (by kernel_rfl) (by kernel_rfl) (by kernel_rfl) (Or.inr ⟨by rfl, rfl⟩) ?_
            try simp only [Act.put, List.setIfInBounds_toArray, List.set_cons_zero, List.set_cons_succ]
            refine wpDet_take (i := 8) (oi := _) (v := undef) (by simp only [List.getElem?_toArray, List.getElem?_cons_zero, List.getElem?_cons_succ]; rfl) (by kernel_rfl) (by kernel_rfl) (by kernel_rfl) (Or.inr ⟨by rfl, rfl⟩) ?_
            try simp only [Act.put, List.setIfInBounds_toArray, List.set_cons_zero, List.set_cons_succ]
            refine wpDet_take (i := 9) (oi := _) (v := undef) (by simp only [List.getElem?_toArray, List.getElem?_cons_zero, List.getElem?_cons_succ]; rfl) (by kernel_rfl) (by kernel_rfl) (by kernel_rfl) (Or.inr ⟨by rfl, rfl⟩) ?_
            try simp only [Act.put, List.setIfInBounds_toArray, List.set_cons_zero, List.set_cons_succ]
            refine wpDet_take (i := 10) (oi := _) (v := undef) (by simp only [List.getElem?_toArray, List.getElem?_cons_zero, List.getElem?_cons_succ]; rfl) (by kernel_rfl) (by kernel_rfl) (by kernel_rfl) (Or.inr ⟨by rfl, rfl⟩) ?_
            try simp only [Act.put, List.setIfInBounds_toArray, List.set_cons_zero, List.set_cons_succ]
            refine wpDet_take (i := 11) (oi := _) (v := undef) (by simp only [List.getElem?_toArray, List.getElem?_cons_zero, List.getElem?_cons_succ]; rfl) (by kernel_rfl) (by kernel_rfl) (by kernel_rfl) (Or.inr ⟨by rfl, rfl⟩) ?_
            try simp only [Act.put, List.setIfInBounds_toArray, List.set_cons_zero, List.set_cons_succ]
            refine wpDet_take (i := 12) (oi := _) (v := undef) (by simp only [List.getElem?_toArray, List.getElem?_cons_zero, List.getElem?_cons_succ]; rfl) (by kernel_rfl) (by kernel_rfl) (by kernel_rfl) (Or.inr ⟨by rfl, rfl⟩) ?_
            try simp only [Act.put, List.setIfInBounds_toArray, List.set_cons_zero, List.set_cons_succ]
            refine wpDet_take (i := 13) (oi := _) (v := undef) (by simp only [List.getElem?_toArray, List.getElem?_cons_zero, List.getElem?_cons_succ]; rfl) (by kernel_rfl) (by kernel_rfl) (by kernel_rfl) (Or.inr ⟨by rfl, rfl⟩) ?_
            try simp only [Act.put, List.setIfInBounds_toArray, List.set_cons_zero, List.set_cons_succ]
            refine wpDet_take (i := 14) (oi := _) (v := undef) (by simp only [List.getElem?_toArray, List.getElem?_cons_zero, List.getElem?_cons_succ]; rfl) (by kernel_rfl) (by kernel_rfl) (by kernel_rfl) (Or.inr ⟨by rfl, rfl⟩) ?_
            try simp only [Act.put, List.setIfInBounds_toArray, List.set_cons_zero, List.set_cons_succ]
            refine wpDet_take (i := 15) (oi := _) (v := undef) (by simp only [List.getElem?_toArray, List.getElem?_cons_zero, List.getElem?_cons_succ]; rfl) (by kernel_rfl) (by kernel_rfl) (by kernel_rfl) (Or.inr ⟨by rfl, rfl⟩) ?_
            try simp only [Act.put, List.setIfInBounds_toArray, List.set_cons_zero, List.set_cons_succ]
            refine wpDet_take (i := 16) (oi := _) (v := ?dv17) (by simp only [List.getElem?_toArray, List.getElem?_cons_zero, List.getElem?_cons_succ]; rfl) (by kernel_rfl) (by kernel_rfl) (by kernel_rfl) (Or.inl ⟨by rfl, ?dy17⟩) ?dr17
            case dy17 => (intro w hSw; have hS0 := hSw; (try dsimp only [SFl,C5] at hSw); go_simp; refine Came.value ?_ hS0; with_reducible rfl)
            try simp only [Act.put, List.setIfInBounds_toArray, List.set_cons_zero, List.set_cons_succ]
            refine wpDet_take (i := 17) (oi := _) (v := ?dv18) (by simp only [List.getElem?_toArray, List.getElem?_cons_zero, List.getElem?_cons_succ]; rfl) (by kernel_rfl) (by kernel_rfl) (by kernel_rfl) (Or.inl ⟨by rfl, ?dy18⟩) ?dr18
            case dy18 => (intro w hSw; have hS0 := hSw; (try dsimp only [SFl,C5] at hSw); go_simp; refine Came.value ?_ hS0; with_reducible rfl)
            try simp only [Act.put, List.setIfInBounds_toArray, List.set_cons_zero, List.set_cons_succ]
            refine wpDet_take (i := 18) (oi := _) (v := ?dv19) (by simp only [List.getElem?_toArray, List.getElem?_cons_zero, List.getElem?_cons_succ]; rfl) (by kernel_rfl) (by kernel_rfl) (by kernel_rfl) (Or.inl ⟨by rfl, ?dy19⟩) ?dr19
            case dy19 => (intro w hSw; have hS0 := hSw; (try dsimp only [SFl,C5] at hSw); go_simp; refine Came.value ?_ hS0; with_reducible rfl)
            try simp only [Act.put, List.setIfInBounds_toArray, List.set_cons_zero, List.set_cons_succ]
            refine wpDet_take (i := 19) (oi := _) (v := ?dv20) (by simp only [List.getElem?_toArray, List.getElem?_cons_zero, List.getElem?_cons_succ]; rfl) (by kernel_rfl) (by kernel_rfl) (by kernel_rfl) (Or.inl ⟨by rfl, ?dy20⟩) ?dr20
            case dy20 => (intro w hSw; have hS0 := hSw; (try dsimp only [SFl,C5] at hSw); go_simp; refine Came.value ?_ hS0; with_reducible rfl)
            try simp only [Act.put, List.setIfInBounds_toArray, List.set_cons_zero, List.set_cons_succ]
            refine wpDet_take (i := 20) (oi := _) (v := ?dv21) (by simp only [List.getElem?_toArray, List.getElem?_cons_zero, List.getElem?_cons_succ]; rfl) (by kernel_rfl) (by kernel_rfl) (by kernel_rfl) (Or.inl ⟨by rfl, ?dy21⟩) ?dr21
            case dy21 => (intro w hSw; have hS0 := hSw; (try dsimp only [SFl,C5] at hSw); go_simp; refine Came.value ?_ hS0; with_reducible rfl)
            try simp only [Act.put, List.setIfInBounds_toArray, List.set_cons_zero, List.set_cons_succ]
            refine wpDet_take (i := 21) (oi := _) (v := ?dv22) (by simp only [List.getElem?_toArray, List.getElem?_cons_zero, List.getElem?_cons_succ]; rfl) (by kernel_rfl) (by kernel_rfl) (by kernel_rfl) (Or.inl ⟨by rfl, ?dy22⟩) ?dr22
            case dy22 => (intro w hSw; have hS0 := hSw; (try dsimp only [SFl,C5] at hSw); go_simp; refine Came.value ?_ hS0; with_reducible rfl)
            try simp only [Act.put, List.setIfInBounds_toArray, List.set_cons_zero, List.set_cons_succ]
            refine wpDet_take (i := 22) (oi := _) (v := ?dv23) (by simp only [List.getElem?_toArray, List.getElem?_cons_zero, List.getElem?_cons_succ]; rfl) (by kernel_rfl) (by kernel_rfl) (by kernel_rfl) (Or.inl ⟨by rfl, ?dy23⟩) ?dr23
            case dy23 => (intro w hSw; have hS0 := hSw; (try dsimp only [SFl,C5] at hSw); go_simp; refine Came.value ?_ hS0; with_reducible rfl)
            try simp only [Act.put, List.setIfInBounds_toArray, List.set_cons_zero, List.set_cons_succ]
            refine wpDet_take (i := 23) (oi := _) (v := ?dv24) (by simp only [List.getElem?_toArray, List.getElem?_cons_zero, List.getElem?_cons_succ]; rfl) (by kernel_rfl) (by kernel_rfl) (by kernel_rfl) (Or.inl ⟨by rfl, ?dy24⟩) ?dr24
            case dy24 => (intro w hSw; have hS0 := hSw; (try dsimp only [SFl,C5] at hSw); go_simp; refine Came.value ?_ hS0; with_reducible rfl)
            try simp only [Act.put, List.setIfInBounds_toArray, List.set_cons_zero, List.set_cons_succ]
            refine wpDet_take (i := 24) (oi := _) (v := ?dv25) (by simp only [List.getElem?_toArray, List.getElem?_cons_zero, List.getElem?_cons_succ]; rfl) (by kernel_rfl) (by kernel_rfl) (by kernel_rfl) (Or.inl ⟨by rfl, ?dy25⟩) ?dr25
            case dy25 => (intro w hSw; have hS0 := hSw; (try dsimp only [SFl,C5] at hSw); go_simp; refine Came.value ?_ hS0; with_reducible rfl)
            try simp only [Act.put, List.setIfInBounds_toArray, List.set_cons_zero, List.set_cons_succ]
            refine wpDet_take (i := 25) (oi := _) (v := ?dv26) (by simp only [List.getElem?_toArray, List.getElem?_cons_zero, List.getElem?_cons_succ]; rfl) (by kernel_rfl) (by kernel_rfl) (by kernel_rfl) (Or.inl ⟨by rfl, ?dy26⟩) ?dr26
            case dy26 => (intro w hSw; have hS0 := hSw; (try dsimp only [SFl,C5] at hSw); go_simp; refine Came.value ?_ hS0; with_reducible rfl)
            try simp only [Act.put, List.setIfInBounds_toArray, List.set_cons_zero, List.set_cons_succ]
            refine wpDet_take (i := 26) (oi := _) (v := ?dv27) (by simp only [List.getElem?_toArray, List.getElem?_cons_zero, List.getElem?_cons_succ]; rfl) (by kernel_rfl) (by kernel_rfl) (by kernel_rfl) (Or.inl ⟨by rfl, ?dy27⟩) ?dr27
            case dy27 => (intro w hSw; have hS0 := hSw; (try dsimp only [SFl,C5] at hSw); go_simp; refine Came.value ?_ hS0; with_reducible rfl)
            try simp only [Act.put, List.setIfInBounds_toArray, List.set_cons_zero, List.set_cons_succ]
            refine wpDet_take (i := 27) (oi := _) (v := ?dv28) (by simp only [List.getElem?_toArray, List.getElem?_cons_zero, List.getElem?_cons_succ]; rfl) (by kernel_rfl) (by kernel_rfl) (by kernel_rfl) (Or.inl ⟨by rfl, ?dy28⟩) ?dr28
            case dy28 => (intro w hSw; have hS0 := hSw; (try dsimp only [SFl,C5] at hSw); go_simp; refine Came.value ?_ hS0; with_reducible rfl)
            try simp only [Act.put, List.setIfInBounds_toArray, List.set_cons_zero, List.set_cons_succ]
            refine wpDet_take (i := 28) (oi := _) (v := ?dv29) (by simp only [List.getElem?_toArray, List.getElem?_cons_zero, List.getElem?_cons_succ]; rfl) (by kernel_rfl) (by kernel_rfl) (by kernel_rfl) (Or.inl ⟨by rfl, ?dy29⟩) ?dr29
            case dy29 => (intro w hSw; have hS0 := hSw; (try dsimp only [SFl,C5] at hSw); go_simp; refine Came.value ?_ hS0; with_reducible rfl)
            try simp only [Act.put, List.setIfInBounds_toArray, List.set_cons_zero, List.set_cons_succ]
            refine wpDet_take (i := 29) (oi := _) (v := ?dv30) (by simp only [List.getElem?_toArray, List.getElem?_cons_zero, List.getElem?_cons_succ]; rfl) (by kernel_rfl) (by kernel_rfl) (by kernel_rfl) (Or.inl ⟨by rfl, ?dy30⟩) ?dr30
            case dy30 => (intro w hSw; have hS0 := hSw; (try dsimp only [SFl,C5] at hSw); go_simp; refine Came.value ?_ hS0; with_reducible rfl)
            try simp only [Act.put, List.setIfInBounds_toArray, List.set_cons_zero, List.set_cons_succ]
            refine wpDet_take (i := 30) (oi := _) (v := ?dv31) (by simp only [List.getElem?_toArray, List.getElem?_cons_zero, List.getElem?_cons_succ]; rfl) (by kernel_rfl) (by kernel_rfl) (by kernel_rfl) (Or.inl ⟨by rfl, ?dy31⟩) ?dr31
            case dy31 => (intro w hSw; have hS0 := hSw; (try dsimp only [SFl,C5] at hSw); go_simp; refine Came.value ?_ hS0; with_reducible rfl)
            try simp only [Act.put, List.setIfInBounds_toArray, List.set_cons_zero, List.set_cons_succ]
            refine wpDet_take (i := 31) (oi := _) (v := ?dv32) (by simp only [List.getElem?_toArray, List.getElem?_cons_zero, List.getElem?_cons_succ]; rfl) (by kernel_rfl) (by kernel_rfl) (by kernel_rfl) (Or.inl ⟨by rfl, ?dy32⟩) ?dr32
            case dy32 => (intro w hSw; have hS0 := hSw; (try dsimp only [SFl,C5] at hSw); go_simp; refine Came.value ?_ hS0; with_reducible rfl)
            try simp only [Act.put, List.setIfInBounds_toArray, List.set_cons_zero, List.set_cons_succ]
            refine wpDet_take (i := 32) (oi := _) (v := ?dv33) (by simp only [List.getElem?_toArray, List.getElem?_cons_zero, List.getElem?_cons_succ]; rfl) (by kernel_rfl) (by kernel_rfl) (by kernel_rfl) (Or.inl ⟨by rfl, ?dy33⟩) ?dr33
            case dy33 => (intro w hSw; have hS0 := hSw; (try dsimp only [SFl,C5] at hSw); go_simp; refine Came.value ?_ hS0; with_reducible rfl)
            try simp only [Act.put, List.setIfInBounds_toArray, List.set_cons_zero, List.set_cons_succ]
            refine wpDet_take (i := 33) (oi := _) (v := ?dv34) (by simp only [List.getElem?_toArray, List.getElem?_cons_zero, List.getElem?_cons_succ]; rfl) (by kernel_rfl) (by kernel_rfl) (by kernel_rfl) (Or.inl ⟨by rfl, ?dy34⟩) ?dr34
            case dy34 => (intro w hSw; have hS0 := hSw; (try dsimp only [SFl,C5] at hSw); go_simp; refine Came.value ?_ hS0; with_reducible rfl)
            try simp only [Act.put, List.setIfInBounds_toArray, List.set_cons_zero, List.set_cons_succ]
            refine wpDet_take (i := 34) (oi := _) (v := ?dv35) (by simp only [List.getElem?_toArray, List.getElem?_cons_zero, List.getElem?_cons_succ]; rfl) (by kernel_rfl) (by kernel_rfl) (by kernel_rfl) (Or.inl ⟨by rfl, ?dy35⟩) ?dr35
            case dy35 => (intro w hSw; have hS0 := hSw; (try dsimp only [SFl,C5] at hSw); go_simp; refine Came.value ?_ hS0; with_reducible rfl)
            try simp only [Act.put, List.setIfInBounds_toArray, List.set_cons_zero, List.set_cons_succ]
            refine wpDet_done (by kernel_rfl) ?_ _
            rintro w5 hS
            have HF5 := Lib.hid (HFN.out.trans hS.1)
            clear hS HSF
            go_wp2
            go_roundw
            case rel => exact ⟨0 + 1, by omega, by go_num, HF5⟩
            case measure => simp [intOf]; omega
          · obtain ⟨j, rfl⟩ : ∃ j, i = j + 1 := ⟨i - 1, by omega⟩
            obtain ⟨vp, c0, c1, _⟩ := HCC.out j (by omega)
            obtain ⟨x, hx⟩ : ∃ x, x = es.getD j zeroE := ⟨_, rfl⟩
            rw [← hx] at c0 c1
            have HLS2 : Less x e := by rw [hx, HEX.out.1]; exact less_at (es := es) HFL.out.rise (by omega) (by have := HP.out; omega)
            have HLT : true = decide (x.fl < fl ∨ x.fl = fl ∧ x.di < di) := by rw [HEX.out.2.1, HEX.out.2.2]; exact (decide_eq_true HLS2).symm
            have LE := Lib.hid (fun W => rless_any x.fl x.di fl di true HLT W)
            have HG4 := Lib.hid ((row5 ((HF.out.trans HFV.out).heap HBX.out.1 (by simp))).2.2.2.2)
            obtain ⟨xf, hxf⟩ : ∃ y, y = x.fl := ⟨_, rfl⟩
            obtain ⟨xd, hxd⟩ : ∃ y, y = x.di := ⟨_, rfl⟩
            rw [← hxf, ← hxd] at LE
            rw [← hxf] at c0
            rw [← hxd] at c1
            have HFY := Lib.hid ((HFW.out.trans HF.out).trans HFV.out)
            have HSF := Lib.hid (show SFn V w3.heap.size wr.heap.size fl di (g1 + 1) (-1) (.slice av 0 cv) (.slice (some ⟨bl, off, none⟩) p ce) bl (off + j * 5) xf xd V.drew from ⟨⟨Fr.drew V [], (show C5 _ _ _ _ _ _ V from row5 HZ.out).fr (Fr.drew V []) (by simp)⟩, (Fr.drew V []).cell HG4.out (by simp), (HFY.out.trans (Fr.drew V [])).cell c0 (by simp), (HFY.out.trans (Fr.drew V [])).cell c1 (by simp)⟩)
            have dj : decide ((0 : Int) < ((j + 1 : Nat) : Int)) = true := decide_eq_true (by omega)
            have ew : IntKind.i64.wrap (j : Int) = (j : Int) := by simp (disch := omega) only [IntWalk.i64_in]
            have ej : (0 : Int) ≤ (j : Int) ∧ (j : Int) < (p : Int) := by omega
            clear z0 z1 z2 z3 z4 hx hxf hxd c0 c1 HLS2 HLT h0
            refine wp_region_det (S := SFn V w3.heap.size wr.heap.size fl di (g1 + 1) (-1) (.slice av 0 cv) (.slice (some ⟨bl, off, none⟩) p ce) bl (off + j * 5) xf xd) (by kernel_rfl) HSF.out ?_
            refine wpDet_take (i := 0) (oi := _) (v := ?dv36) (by simp only [List.getElem?_toArray, List.getElem?_cons_zero]; rfl) (by kernel_rfl) (by kernel_rfl) (by kernel_rfl) (Or.inl ⟨by rfl, ?dy36⟩) ?dr36
            case dy36 => (intro w hSw; have hS0 := hSw; (try dsimp only [SFn,SFl,C5] at hSw); go_simp; refine Came.value ?_ hS0; with_reducible rfl)
            try simp only [Act.put, List.setIfInBounds_toArray, List.set_cons_zero, List.set_cons_succ]
            refine wpDet_take (i := 1) (oi := _) (v := ?dv37) (by simp only [List.getElem?_toArray, List.getElem?_cons_zero, List.getElem?_cons_succ]; rfl) (by kernel_rfl) (by kernel_rfl) (by kernel_rfl) (Or.inl ⟨by rfl, ?dy37⟩) ?dr37
            case dy37 => (intro w hSw; have hS0 := hSw; (try dsimp only [SFn,SFl,C5] at hSw); go_simp; refine Came.value ?_ hS0; with_reducible rfl)
            try simp only [Act.put, List.setIfInBounds_toArray, List.set_cons_zero, List.set_cons_succ]
            refine wpDet_take (i := 2) (oi := _) (v := ?dv38) (by simp only [List.getElem?_toArray, List.getElem?_cons_zero, List.getElem?_cons_succ]; rfl) (by kernel_rfl) (by kernel_rfl) (by kernel_rfl) (Or.inl ⟨by rfl, ?dy38⟩) ?dr38
            case dy38 => (intro w hSw; have hS0 := hSw; (try dsimp only [SFn,SFl,C5] at hSw); go_simp; refine Came.value ?_ hS0; with_reducible rfl)
            try simp only [Act.put, List.setIfInBounds_toArray, List.set_cons_zero, List.set_cons_succ]
            refine wpDet_take (i := 3) (oi := _) (v := ?dv39) (by simp only [List.getElem?_toArray, List.getElem?_cons_zero, List.getElem?_cons_succ]; rfl) (by kernel_rfl) (by kernel_rfl) (by kernel_rfl) (Or.inl ⟨by rfl, ?dy39⟩) ?dr39
            case dy39 => (intro w hSw; have hS0 := hSw; (try dsimp only [SFn,SFl,C5] at hSw); go_simp; refine Came.value ?_ hS0; with_reducible rfl)
            try simp only [Act.put, List.setIfInBounds_toArray, List.set_cons_zero, List.set_cons_succ]
            refine wpDet_take (i := 4) (oi := _) (v := ?dv40) (by simp only [List.getElem?_toArray, List.getElem?_cons_zero, List.getElem?_cons_succ]; rfl) (by kernel_rfl) (by kernel_rfl) (by kernel_rfl) (Or.inl ⟨by rfl, ?dy40⟩) ?dr40
            case dy40 => (intro w hSw; have hS0 := hSw; (try dsimp only [SFn,SFl,C5] at hSw); go_simp; refine Came.value ?_ hS0; with_reducible rfl)
            try simp only [Act.put, List.setIfInBounds_toArray, List.set_cons_zero, List.set_cons_succ]
            refine wpDet_take (i := 5) (oi := _) (v := ?dv41) (by simp only [List.getElem?_toArray, List.getElem?_cons_zero, List.getElem?_cons_succ]; rfl) (by kernel_rfl) (by kernel_rfl) (by kernel_rfl) (Or.inl ⟨by rfl, ?dy41⟩) ?dr41
            case dy41 => (intro w hSw; have hS0 := hSw; (try dsimp only [SFn,SFl,C5] at hSw); go_simp; refine Came.value ?_ hS0; with_reducible rfl)
            try simp only [Act.put, List.setIfInBounds_toArray, List.set_cons_zero, List.set_cons_succ]
            refine wpDet_take (i := 6) (oi := _) (v := ?dv42) (by simp only [List.getElem?_toArray, List.getElem?_cons_zero, List.getElem?_cons_succ]; rfl) (by kernel_rfl) (by kernel_rfl) (by kernel_rfl) (Or.inl ⟨by rfl, ?dy42⟩) ?dr42
            case dy42 => (intro w hSw; have hS0 := hSw; (try dsimp only [SFn,SFl,C5] at hSw); go_simp; refine Came.value ?_ hS0; with_reducible rfl)
            try simp only [Act.put, List.setIfInBounds_toArray, List.set_cons_zero, List.set_cons_succ]
            refine wpDet_take (i := 7) (oi := _) (v := ?dv43) (by simp only [List.getElem?_toArray, List.getElem?_cons_zero, List.getElem?_cons_succ]; rfl) (by kernel_rfl) (by kernel_rfl) (by kernel_rfl) (Or.inl ⟨by rfl, ?dy43⟩) ?dr43
            case dy43 => (intro w hSw; have hS0 := hSw; (try dsimp only [SFn,SFl,C5] at hSw); go_simp; refine Came.value ?_ hS0; with_reducible rfl)
            try simp only [Act.put, List.setIfInBounds_toArray, List.set_cons_zero, List.set_cons_succ]
            refine wpDet_take (i := 8) (oi := _) (v := ?dv44) (by simp only [List.getElem?_toArray, List.getElem?_cons_zero, List.getElem?_cons_succ]; rfl) (by kernel_rfl) (by kernel_rfl) (by kernel_rfl) (Or.inl ⟨by rfl, ?dy44⟩) ?dr44
            case dy44 => (intro w hSw; have hS0 := hSw; (try dsimp only [SFn,SFl,C5] at hSw); go_simp; refine Came.value ?_ hS0; with_reducible rfl)
            try simp only [Act.put, List.setIfInBounds_toArray, List.set_cons_zero, List.set_cons_succ]
            refine wpDet_take (i := 9) (oi := _) (v := ?dv45) (by simp only [List.getElem?_toArray, List.getElem?_cons_zero, List.getElem?_cons_succ]; rfl) (by kernel_rfl) (by kernel_rfl) (by kernel_rfl) (Or.inl ⟨by rfl, ?dy45⟩) ?dr45
            case dy45 => (intro w hSw; have hS0 := hSw; (try dsimp only [SFn,SFl,C5] at hSw); go_simp; refine Came.value ?_ hS0; with_reducible rfl)
            try simp only [Act.put, List.setIfInBounds_toArray, List.set_cons_zero, List.set_cons_succ]
            refine wpDet_take (i := 10) (oi := _) (v := ?dv46) (by simp only [List.getElem?_toArray, List.getElem?_cons_zero, List.getElem?_cons_succ]; rfl) (by kernel_rfl) (by kernel_rfl) (by kernel_rfl) (Or.inl ⟨by rfl, ?dy46⟩) ?dr46
            case dy46 => (intro w hSw; have hS0 := hSw; (try dsimp only [SFn,SFl,C5] at hSw); go_simp; refine Came.value ?_ hS0; with_reducible rfl)
            try simp only [Act.put, List.setIfInBounds_toArray, List.set_cons_zero, List.set_cons_succ]
            refine wpDet_take (i := 11) (oi := _) (v := ?dv47) (by simp only [List.getElem?_toArray, List.getElem?_cons_zero, List.getElem?_cons_succ]; rfl) (by kernel_rfl) (by kernel_rfl) (by kernel_rfl) (Or.inl ⟨by rfl, ?dy47⟩) ?dr47
            case dy47 => (intro w hSw; have hS0 := hSw; (try dsimp only [SFn,SFl,C5] at hSw); go_simp; refine Came.value ?_ hS0; with_reducible rfl)
            try simp only [Act.put, List.setIfInBounds_toArray, List.set_cons_zero, List.set_cons_succ]
            refine wpDet_take (i := 12) (oi := _) (v := ?dv48) (by simp only [List.getElem?_toArray, List.getElem?_cons_zero, List.getElem?_cons_succ]; rfl) (by kernel_rfl) (by kernel_rfl) (by kernel_rfl) (Or.inl ⟨by rfl, ?dy48⟩) ?dr48
            case dy48 => (intro w hSw; have hS0 := hSw; (try dsimp only [SFn,SFl,C5] at hSw); go_simp; refine Came.value ?_ hS0; with_reducible rfl)
            try simp only [Act.put, List.setIfInBounds_toArray, List.set_cons_zero, List.set_cons_succ]
            refine wpDet_take (i := 13) (oi := _) (v := ?dv49) (by simp only [List.getElem?_toArray, List.getElem?_cons_zero, List.getElem?_cons_succ]; rfl) (by kernel_rfl) (by kernel_rfl) (by kernel_rfl) (Or.inl ⟨by rfl, ?dy49⟩) ?dr49
            case dy49 => (intro w hSw; have hS0 := hSw; (try dsimp only [SFn,SFl,C5] at hSw); go_simp; refine Came.value ?_ hS0; with_reducible rfl)
            try simp only [Act.put, List.setIfInBounds_toArray, List.set_cons_zero, List.set_cons_succ]
            refine wpDet_take (i := 14) (oi := _) (v := ?dv50) (by simp only [List.getElem?_toArray, List.getElem?_cons_zero, List.getElem?_cons_succ]; rfl) (by kernel_rfl) (by kernel_rfl) (by kernel_rfl) (Or.inl ⟨by rfl, ?dy50⟩) ?dr50
            case dy50 => (intro w hSw; go_simp; exact Came.call ((LE.out w).mono fun e w' ⟨he, hf⟩ => ⟨he, hSw.fr hf⟩) (by with_reducible rfl))
            try simp only [Act.put, List.setIfInBounds_toArray, List.set_cons_zero, List.set_cons_succ]
            refine wpDet_take (i := 15) (oi := _) (v := ?dv51) (by simp only [List.getElem?_toArray, List.getElem?_cons_zero, List.getElem?_cons_succ]; rfl) (by kernel_rfl) (by kernel_rfl) (by kernel_rfl) (Or.inl ⟨by rfl, ?dy51⟩) ?dr51
            case dy51 => (intro w hSw; have hS0 := hSw; (try dsimp only [SFn,SFl,C5] at hSw); go_simp; refine Came.value ?_ hS0; with_reducible rfl)
            try simp only [Act.put, List.setIfInBounds_toArray, List.set_cons_zero, List.set_cons_succ]
            refine wpDet_take (i := 16) (oi := _) (v := ?dv52) (by simp only [List.getElem?_toArray, List.getElem?_cons_zero, List.getElem?_cons_succ]; rfl) (by kernel_rfl) (by kernel_rfl) (by kernel_rfl) (Or.inl ⟨by rfl, ?dy52⟩) ?dr52
            case dy52 => (intro w hSw; have hS0 := hSw; (try dsimp only [SFn,SFl,C5] at hSw); go_simp; refine Came.value ?_ hS0; with_reducible rfl)
            try simp only [Act.put, List.setIfInBounds_toArray, List.set_cons_zero, List.set_cons_succ]
            refine wpDet_take (i := 17) (oi := _) (v := ?dv53) (by simp only [List.getElem?_toArray, List.getElem?_cons_zero, List.getElem?_cons_succ]; rfl) (by kernel_rfl) (by kernel_rfl) (by kernel_rfl) (Or.inl ⟨by rfl, ?dy53⟩) ?dr53
            case dy53 => (intro w hSw; have hS0 := hSw; (try dsimp only [SFn,SFl,C5] at hSw); go_simp; refine Came.value ?_ hS0; with_reducible rfl)
            try simp only [Act.put, List.setIfInBounds_toArray, List.set_cons_zero, List.set_cons_succ]
            refine wpDet_take (i := 18) (oi := _) (v := ?dv54) (by simp only [List.getElem?_toArray, List.getElem?_cons_zero, List.getElem?_cons_succ]; rfl) (by kernel_rfl) (by kernel_rfl) (by kernel_rfl) (Or.inl ⟨by rfl, ?dy54⟩) ?dr54
            case dy54 => (intro w hSw; have hS0 := hSw; (try dsimp only [SFn,SFl,C5] at hSw); go_simp; refine Came.value ?_ hS0; with_reducible rfl)
            try simp only [Act.put, List.setIfInBounds_toArray, List.set_cons_zero, List.set_cons_succ]
            refine wpDet_take (i := 19) (oi := _) (v := ?dv55) (by simp only [List.getElem?_toArray, List.getElem?_cons_zero, List.getElem?_cons_succ]; rfl) (by kernel_rfl) (by kernel_rfl) (by kernel_rfl) (Or.inl ⟨by rfl, ?dy55⟩) ?dr55
            case dy55 => (intro w hSw; have hS0 := hSw; (try dsimp only [SFn,SFl,C5] at hSw); go_simp; refine Came.value ?_ hS0; with_reducible rfl)
            try simp only [Act.put, List.setIfInBounds_toArray, List.set_cons_zero, List.set_cons_succ]
            refine wpDet_take (i := 20) (oi := _) (v := ?dv56) (by simp only [List.getElem?_toArray, List.getElem?_cons_zero, List.getElem?_cons_succ]; rfl) (by kernel_rfl) (by kernel_rfl) (by kernel_rfl) (Or.inl ⟨by rfl, ?dy56⟩) ?dr56
            case dy56 => (intro w hSw; have hS0 := hSw; (try dsimp only [SFn,SFl,C5] at hSw); go_simp; refine Came.value ?_ hS0; with_reducible rfl)
            try simp only [Act.put, List.setIfInBounds_toArray, List.set_cons_zero, List.set_cons_succ]
            refine wpDet_take (i := 21) (oi := _) (v := ?dv57) (by simp only [List.getElem?_toArray, List.getElem?_cons_zero, List.getElem?_cons_succ]; rfl) (by kernel_rfl) (by kernel_rfl) (by kernel_rfl) (Or.inl ⟨by rfl, ?dy57⟩) ?dr57
            case dy57 => (intro w hSw; have hS0 := hSw; (try dsimp only [SFn,SFl,C5] at hSw); go_simp; refine Came.value ?_ hS0; with_reducible rfl)
            try simp only [Act.put, List.setIfInBounds_toArray, List.set_cons_zero, List.set_cons_succ]
            refine wpDet_take (i := 22) (oi := _) (v := ?dv58) (by simp only [List.getElem?_toArray, List.getElem?_cons_zero, List.getElem?_cons_succ]; rfl) (by kernel_rfl) (by kernel_rfl) (by kernel_rfl) (Or.inl ⟨by rfl, ?dy58⟩) ?dr58
            case dy58 => (intro w hSw; have hS0 := hSw; (try dsimp only [SFn,SFl,C5] at hSw); go_simp; refine Came.value ?_ hS0; with_reducible rfl)
            try simp only [Act.put, List.setIfInBounds_toArray, List.set_cons_zero, List.set_cons_succ]
            refine wpDet_take (i := 23) (oi := _) (v := ?dv59) (by simp only [List.getElem?_toArray, List.getElem?_cons_zero, List.getElem?_cons_succ]; rfl) (by kernel_rfl) (by kernel_rfl) (by kernel_rfl) (Or.inl ⟨by rfl, ?dy59⟩) ?dr59
            case dy59 => (intro w hSw; have hS0 := hSw; (try dsimp only [SFn,SFl,C5] at hSw); go_simp; refine Came.value ?_ hS0; with_reducible rfl)
            try simp only [Act.put, List.setIfInBounds_toArray, List.set_cons_zero, List.set_cons_succ]
            refine wpDet_take (i := 24) (oi := _) (v := ?dv60) (by simp only [List.getElem?_toArray, List.getElem?_cons_zero, List.getElem?_cons_succ]; rfl) (by kernel_rfl) (by kernel_rfl) (by kernel_rfl) (Or.inl ⟨by rfl, ?dy60⟩) ?dr60
            case dy60 => (intro w hSw; have hS0 := hSw; (try dsimp only [SFn,SFl,C5] at hSw); go_simp; refine Came.value ?_ hS0; with_reducible rfl)
            try simp only [Act.put, List.setIfInBounds_toArray, List.set_cons_zero, List.set_cons_succ]
            refine wpDet_take (i := 25) (oi := _) (v := ?dv61) (by simp only [List.getElem?_toArray, List.getElem?_cons_zero, List.getElem?_cons_succ]; rfl) (by kernel_rfl) (by kernel_rfl) (by kernel_rfl) (Or.inl ⟨by rfl, ?dy61⟩) ?dr61
            case dy61 => (intro w hSw; have hS0 := hSw; (try dsimp only [SFn,SFl,C5] at hSw); go_simp; refine Came.value ?_ hS0; with_reducible rfl)
            try simp only [Act.put, List.setIfInBounds_toArray, List.set_cons_zero, List.set_cons_succ]
            refine wpDet_take (i := 26) (oi := _) (v := ?dv62) (by simp only [List.getElem?_toArray, List.getElem?_cons_zero, List.getElem?_cons_succ]; rfl) (by kernel_rfl) (by kernel_rfl) (by kernel_rfl) (Or.inl ⟨by rfl, ?dy62⟩) ?dr62
            case dy62 => (intro w hSw; have hS0 := hSw; (try dsimp only [SFn,SFl,C5] at hSw); go_simp; refine Came.value ?_ hS0; with_reducible rfl)
            try simp only [Act.put, List.setIfInBounds_toArray, List.set_cons_zero, List.set_cons_succ]
            refine wpDet_take (i := 27) (oi := _) (v := ?dv63) (by simp only [List.getElem?_toArray, List.getElem?_cons_zero, List.getElem?_cons_succ]; rfl) (by kernel_rfl) (by kernel_rfl) (by kernel_rfl) (Or.inl ⟨by rfl, ?dy63⟩) ?dr63
            case dy63 => (intro w hSw; have hS0 := hSw; (try dsimp only [SFn,SFl,C5] at hSw); go_simp; refine Came.value ?_ hS0; with_reducible rfl)
            try simp only [Act.put, List.setIfInBounds_toArray, List.set_cons_zero, List.set_cons_succ]
            refine wpDet_take (i := 28) (oi := _) (v := ?dv64) (by simp only [List.getElem?_toArray, List.getElem?_cons_zero, List.getElem?_cons_succ]; rfl) (by kernel_rfl) (by kernel_rfl) (by kernel_rfl) (Or.inl ⟨by rfl, ?dy64⟩) ?dr64
            case dy64 => (intro w hSw; have hS0 := hSw; (try dsimp only [SFn,SFl,C5] at hSw); go_simp; refine Came.value ?_ hS0; with_reducible rfl)
            try simp only [Act.put, List.setIfInBounds_toArray, List.set_cons_zero, List.set_cons_succ]
            refine wpDet_take (i := 29) (oi := _) (v := ?dv65) (by simp only [List.getElem?_toArray, List.getElem?_cons_zero, List.getElem?_cons_succ]; rfl) (by kernel_rfl) (by kernel_rfl) (by kernel_rfl) (Or.inl ⟨by rfl, ?dy65⟩) ?dr65
            case dy65 => (intro w hSw; have hS0 := hSw; (try dsimp only [SFn,SFl,C5] at hSw); go_simp; refine Came.value ?_ hS0; with_reducible rfl)
            try simp only [Act.put, List.setIfInBounds_toArray, List.set_cons_zero, List.set_cons_succ]
            refine wpDet_take (i := 30) (oi := _) (v := ?dv66) (by simp only [List.getElem?_toArray, List.getElem?_cons_zero, List.getElem?_cons_succ]; rfl) (by kernel_rfl) (by kernel_rfl) (by kernel_rfl) (Or.inl ⟨by rfl, ?dy66⟩) ?dr66
            case dy66 => (intro w hSw; have hS0 := hSw; (try dsimp only [SFn,SFl,C5] at hSw); go_simp; refine Came.value ?_ hS0; with_reducible rfl)
            try simp only [Act.put, List.setIfInBounds_toArray, List.set_cons_zero, List.set_cons_succ]
            refine wpDet_take (i := 31) (oi := _) (v := ?dv67) (by simp only [List.getElem?_toArray, List.getElem?_cons_zero, List.getElem?_cons_succ]; rfl) (by kernel_rfl) (by kernel_rfl) (by kernel_rfl) (Or.inl ⟨by rfl, ?dy67⟩) ?dr67
            case dy67 => (intro w hSw; have hS0 := hSw; (try dsimp only [SFn,SFl,C5] at hSw); go_simp; refine Came.value ?_ hS0; with_reducible rfl)
            try simp only [Act.put, List.setIfInBounds_toArray, List.set_cons_zero, List.set_cons_succ]
            refine wpDet_take (i := 32) (oi := _) (v := ?dv68) (by simp only [List.getElem?_toArray, List.getElem?_cons_zero, List.getElem?_cons_succ]; rfl) (by kernel_rfl) (by kernel_rfl) (by kernel_rfl) (Or.inl ⟨by rfl, ?dy68⟩) ?dr68
            case dy68 => (intro w hSw; have hS0 := hSw; (try dsimp only [SFn,SFl,C5] at hSw); go_simp; refine Came.value ?_ hS0; with_reducible rfl)
            try simp only [Act.put, List.setIfInBounds_toArray, List.set_cons_zero, List.set_cons_succ]
            refine wpDet_take (i := 33) (oi := _) (v := ?dv69) (by simp only [List.getElem?_toArray, List.getElem?_cons_zero, List.getElem?_cons_succ]; rfl) (by kernel_rfl) (by kernel_rfl) (by kernel_rfl) (Or.inl ⟨by rfl, ?dy69⟩) ?dr69
            case dy69 => (intro w hSw; have hS0 := hSw; (try dsimp only [SFn,SFl,C5] at hSw); go_simp; refine Came.value ?_ hS0; with_reducible rfl)
            try simp only [Act.put, List.setIfInBounds_toArray, List.set_cons_zero, List.set_cons_succ]
            refine wpDet_take (i := 34) (oi := _) (v := ?dv70) (by simp only [List.getElem?_toArray, List.getElem?_cons_zero, List.getElem?_cons_succ]; rfl) (by kernel_rfl) (by kernel_rfl) (by kernel_rfl) (Or.inl ⟨by rfl, ?dy70⟩) ?dr70
            case dy70 => (intro w hSw; have hS0 := hSw; (try dsimp only [SFn,SFl,C5] at hSw); go_simp; refine Came.value ?_ hS0; with_reducible rfl)
            try simp only [Act.put, List.setIfInBounds_toArray, List.set_cons_zero, List.set_cons_succ]
            refine wpDet_done (by kernel_rfl) ?_ _
            rintro w5 hS
            have HF5 := Lib.hid (HFN.out.trans hS.1.1)
            clear hS HSF
            go_wp2
            go_roundw
            case rel => exact ⟨j + 1 + 1, by omega, by go_num, HF5⟩
            case measure => simp [intOf]; omega
        · have dl : decide ((i : Int) < (p : Int)) = false := decide_eq_false (by omega)
          obtain rfl : i = p := by omega
          have HE4 := Lib.hid y3
          have HSM : Hid (Small ⟨co, fo, ho, ms, es⟩) := Lib.hid ⟨by have := HFL.out.mem; omega, by have := HP.out; show es.length ≤ 200; omega, fun e he => by have := (HFL.out.each e he).2.1; rw [this]; decide⟩
          have hm1 : ms.length = m := HMM.out.symm
          have hp1 : es.length = i := HP.out.symm
          have PG := Lib.hid (fun W' (hW : Fr w3 W' []) => LG.purge ⟨co, fo, ho, ms, es⟩ (.slice am m cm) (.slice ae i ce) (.slice none 0 0) [] W' (HUM.out.keep hW) (HUE.out.keep hW) HSM.out nil_lats (by simp))
          have PL := Lib.hid (fun W' (hW : Fr w3 W' []) => LG.purge ⟨co, fo, ho, ms, es⟩ (.slice am m cm) (.slice ae i ce) (.slice ua k uc) L W' (HUM.out.keep hW) (HUE.out.keep hW) HSM.out (HL3.out.keep hW) (by have := HLL.out; omega))
          have WA := Lib.hid (fun W' (hW : Fr w3 W' []) => LG.wants ⟨co, fo, ho, ms, es⟩ (.slice am m cm) (.slice ae i ce) 0 W' (HUM.out.keep hW) (HUE.out.keep hW) HSM.out)
          have WB := Lib.hid (fun W' (hW : Fr w3 W' []) => LG.wants ⟨co, fo, ho, ms, es⟩ (.slice am m cm) (.slice ae i ce) 1 W' (HUM.out.keep hW) (HUE.out.keep hW) HSM.out)
          have HL4 := Lib.hid HLE.out
          unfold rgV at PG PL WA WB
          dsimp only at PG PL WA WB
          have HSE : Hid (∀ V, Fr wr V [] → SFe wr w3.heap.size (.int .i64 co) (.int .i64 fo) (.int .i64 ho) (.slice am m cm) (.slice ae i ce) V) :=
            Lib.hid (fun V hV => ⟨hV, (show C5 _ _ _ _ _ _ wr from ⟨y0, y1, y2, y3, y4⟩).fr hV (by simp)⟩)
          have HFX := Lib.hid (HFW.out.trans HF.out)
          have fl0 := rfld3 co fo ho
          clear HE4 HUM HUE HLS HL3 HL4 HLL
          go_upto_region 20 with fail
          clear y0 y1 y2 y3 y4
          refine wp_region_noPanic ?_
          refine wp_region_held_drew (S := (SFe wr w3.heap.size (.int .i64 co) (.int .i64 fo) (.int .i64 ho) (.slice am m cm) (.slice ae i ce))) (by kernel_rfl) (HSE.out _ (Fr.drew wr [])) (fun hHeld => ?_)
          refine wpAnyH_take (i := 0) (oi := _) (v := ?fv0h71n72) (by simp only [List.getElem?_toArray, List.getElem?_cons_zero]; rfl) (by kernel_rfl) (by kernel_rfl) (by kernel_rfl) (fun _ _ _ h => h) (Or.inl ⟨by rfl, ?fy0h71n72⟩) (by assumption) ?fr0h71n72
          case fy0h71n72 => (intro w hSw; (try dsimp only [SFe, C5] at hSw); go_simp; try with_reducible rfl)
          try simp only [Act.put, List.setIfInBounds_toArray, List.set_cons_zero, List.set_cons_succ]
          refine wpAnyH_take (i := 1) (oi := _) (v := ?fv1h71n72) (by simp only [List.getElem?_toArray, List.getElem?_cons_zero, List.getElem?_cons_succ]; rfl) (by kernel_rfl) (by kernel_rfl) (by kernel_rfl) (fun _ _ _ h => h) (Or.inl ⟨by rfl, ?fy1h71n72⟩) (by assumption) ?fr1h71n72
          case fy1h71n72 => (intro w hSw; (try dsimp only [SFe, C5] at hSw); go_simp; try with_reducible rfl)
          try simp only [Act.put, List.setIfInBounds_toArray, List.set_cons_zero, List.set_cons_succ]
          refine wpAnyH_take (i := 2) (oi := _) (v := ?fv2h71n72) (by simp only [List.getElem?_toArray, List.getElem?_cons_zero, List.getElem?_cons_succ]; rfl) (by kernel_rfl) (by kernel_rfl) (by kernel_rfl) (fun _ _ _ h => h) (Or.inl ⟨by rfl, ?fy2h71n72⟩) (by assumption) ?fr2h71n72
          case fy2h71n72 => (intro w hSw; (try dsimp only [SFe, C5] at hSw); go_simp; try with_reducible rfl)
          try simp only [Act.put, List.setIfInBounds_toArray, List.set_cons_zero, List.set_cons_succ]
          refine wpAnyH_ready (rs := [3]) (by kernel_rfl) (by simp) ?_
          refine AllReadyH.cons (o := _) rfl (fun K hK => ?_) AllReadyH.nil
          go_simp
          ((with_reducible refine (PG.out _ (HFX.out.trans (Fr.drew wr []))).mono ?_); rintro e w7 ⟨u, rfl, ⟨um, ue, rfl, hum, hue⟩, hf⟩; rw [show (purgeR ⟨co, fo, ho, ms, es⟩ []).es = [] from HFL.out.none] at hue; obtain ⟨a7, c7, rfl, _⟩ := hue; have HF7 := Lib.hid ((Fr.drew wr []).trans hf); have hS := HSE.out _ HF7.out; clear hum hf; unfold rgV purgeR; dsimp only [List.length_nil])
          go_wp2_with fail
          refine hK.out _ _ hS (fun hHeld => ?_)
          clear hK K
          try simp only [Act.put, List.setIfInBounds_toArray, List.set_cons_zero, List.set_cons_succ]
          refine wpAnyH_take (i := 4) (oi := _) (v := ?fv4h71n73) (by simp only [List.getElem?_toArray, List.getElem?_cons_zero, List.getElem?_cons_succ]; rfl) (by kernel_rfl) (by kernel_rfl) (by kernel_rfl) (fun _ _ _ h => h) (Or.inl ⟨by rfl, ?fy4h71n73⟩) (by assumption) ?fr4h71n73
          case fy4h71n73 => (intro w hSw; (try dsimp only [SFe, C5] at hSw); go_simp; try with_reducible rfl)
          try simp only [Act.put, List.setIfInBounds_toArray, List.set_cons_zero, List.set_cons_succ]
          refine wpAnyH_take (i := 5) (oi := _) (v := ?fv5h71n73) (by simp only [List.getElem?_toArray, List.getElem?_cons_zero, List.getElem?_cons_succ]; rfl) (by kernel_rfl) (by kernel_rfl) (by kernel_rfl) (fun _ _ _ h => h) (Or.inl ⟨by rfl, ?fy5h71n73⟩) (by assumption) ?fr5h71n73
          case fy5h71n73 => (intro w hSw; (try dsimp only [SFe, C5] at hSw); go_simp; try with_reducible rfl)
          try simp only [Act.put, List.setIfInBounds_toArray, List.set_cons_zero, List.set_cons_succ]
          refine wpAnyH_take (i := 6) (oi := _) (v := ?fv6h71n73) (by simp only [List.getElem?_toArray, List.getElem?_cons_zero, List.getElem?_cons_succ]; rfl) (by kernel_rfl) (by kernel_rfl) (by kernel_rfl) (fun _ _ _ h => h) (Or.inl ⟨by rfl, ?fy6h71n73⟩) (by assumption) ?fr6h71n73
          case fy6h71n73 => (intro w hSw; (try dsimp only [SFe, C5] at hSw); go_simp; try with_reducible rfl)
          try simp only [Act.put, List.setIfInBounds_toArray, List.set_cons_zero, List.set_cons_succ]
          refine wpAnyH_take (i := 7) (oi := _) (v := ?fv7h71n73) (by simp only [List.getElem?_toArray, List.getElem?_cons_zero, List.getElem?_cons_succ]; rfl) (by kernel_rfl) (by kernel_rfl) (by kernel_rfl) (fun _ _ _ h => h) (Or.inl ⟨by rfl, ?fy7h71n73⟩) (by assumption) ?fr7h71n73
          case fy7h71n73 => (intro w hSw; (try dsimp only [SFe, C5] at hSw); go_simp; try with_reducible rfl)
          try simp only [Act.put, List.setIfInBounds_toArray, List.set_cons_zero, List.set_cons_succ]
          refine wpAnyH_take (i := 8) (oi := _) (v := ?fv8h71n73) (by simp only [List.getElem?_toArray, List.getElem?_cons_zero, List.getElem?_cons_succ]; rfl) (by kernel_rfl) (by kernel_rfl) (by kernel_rfl) (fun _ _ _ h => h) (Or.inl ⟨by rfl, ?fy8h71n73⟩) (by assumption) ?fr8h71n73
          case fy8h71n73 => (intro w hSw; (try dsimp only [SFe, C5] at hSw); go_simp; try with_reducible rfl)
          try simp only [Act.put, List.setIfInBounds_toArray, List.set_cons_zero, List.set_cons_succ]
          refine wpAnyH_take (i := 9) (oi := _) (v := ?fv9h71n73) (by simp only [List.getElem?_toArray, List.getElem?_cons_zero, List.getElem?_cons_succ]; rfl) (by kernel_rfl) (by kernel_rfl) (by kernel_rfl) (fun _ _ _ h => h) (Or.inl ⟨by rfl, ?fy9h71n73⟩) (by assumption) ?fr9h71n73
          case fy9h71n73 => (intro w hSw; (try dsimp only [SFe, C5] at hSw); go_simp; try with_reducible rfl)
          try simp only [Act.put, List.setIfInBounds_toArray, List.set_cons_zero, List.set_cons_succ]
          refine wpAnyH_take (i := 10) (oi := _) (v := ?fv10h71n73) (by simp only [List.getElem?_toArray, List.getElem?_cons_zero, List.getElem?_cons_succ]; rfl) (by kernel_rfl) (by kernel_rfl) (by kernel_rfl) (fun _ _ _ h => h) (Or.inl ⟨by rfl, ?fy10h71n73⟩) (by assumption) ?fr10h71n73
          case fy10h71n73 => (intro w hSw; (try dsimp only [SFe, C5] at hSw); go_simp; try with_reducible rfl)
          try simp only [Act.put, List.setIfInBounds_toArray, List.set_cons_zero, List.set_cons_succ]
          refine wpAnyH_take (i := 14) (oi := _) (v := ?fv14h71n73) (by simp only [List.getElem?_toArray, List.getElem?_cons_zero, List.getElem?_cons_succ]; rfl) (by kernel_rfl) (by kernel_rfl) (by kernel_rfl) (fun _ _ _ h => h) (Or.inl ⟨by rfl, ?fy14h71n73⟩) (by assumption) ?fr14h71n73
          case fy14h71n73 => (intro w hSw; (try dsimp only [SFe, C5] at hSw); go_simp; try with_reducible rfl)
          try simp only [Act.put, List.setIfInBounds_toArray, List.set_cons_zero, List.set_cons_succ]
          refine wpAnyH_take (i := 15) (oi := _) (v := ?fv15h71n73) (by simp only [List.getElem?_toArray, List.getElem?_cons_zero, List.getElem?_cons_succ]; rfl) (by kernel_rfl) (by kernel_rfl) (by kernel_rfl) (fun _ _ _ h => h) (Or.inl ⟨by rfl, ?fy15h71n73⟩) (by assumption) ?fr15h71n73
          case fy15h71n73 => (intro w hSw; (try dsimp only [SFe, C5] at hSw); go_simp; try with_reducible rfl)
          try simp only [Act.put, List.setIfInBounds_toArray, List.set_cons_zero, List.set_cons_succ]
          refine wpAnyH_take (i := 16) (oi := _) (v := ?fv16h71n73) (by simp only [List.getElem?_toArray, List.getElem?_cons_zero, List.getElem?_cons_succ]; rfl) (by kernel_rfl) (by kernel_rfl) (by kernel_rfl) (fun _ _ _ h => h) (Or.inl ⟨by rfl, ?fy16h71n73⟩) (by assumption) ?fr16h71n73
          case fy16h71n73 => (intro w hSw; (try dsimp only [SFe, C5] at hSw); go_simp; try with_reducible rfl)
          try simp only [Act.put, List.setIfInBounds_toArray, List.set_cons_zero, List.set_cons_succ]
          refine wpAnyH_ready (rs := [11]) (by kernel_rfl) (by simp) ?_
          refine AllReadyH.cons (o := _) rfl (fun K hK => ?_) AllReadyH.nil
          go_simp
          ((with_reducible refine (PL.out _ (HFX.out.trans HF7.out)).mono ?_); rintro e w8 ⟨u, rfl, ⟨vm8, ue, rfl, hum, hue⟩, hf⟩; rw [show (purgeR ⟨co, fo, ho, ms, es⟩ L).es = es from by rw [HLE.out]; exact HFL.out.all] at hue; obtain ⟨a8, c8, rfl, _⟩ := hue; have HF8 := Lib.hid (HF7.out.trans hf); have hS := HSE.out _ HF8.out; clear hum hf; unfold rgV purgeR; dsimp only [List.length_nil]; rw [hp1])
          go_wp2_with fail
          refine hK.out _ _ hS (fun hHeld => ?_)
          clear hK K
          try simp only [Act.put, List.setIfInBounds_toArray, List.set_cons_zero, List.set_cons_succ]
          refine wpAnyH_take (i := 12) (oi := _) (v := ?fv12h71n74) (by simp only [List.getElem?_toArray, List.getElem?_cons_zero, List.getElem?_cons_succ]; rfl) (by kernel_rfl) (by kernel_rfl) (by kernel_rfl) (fun _ _ _ h => h) (Or.inl ⟨by rfl, ?fy12h71n74⟩) (by assumption) ?fr12h71n74
          case fy12h71n74 => (intro w hSw; (try dsimp only [SFe, C5] at hSw); go_simp; try with_reducible rfl)
          try simp only [Act.put, List.setIfInBounds_toArray, List.set_cons_zero, List.set_cons_succ]
          refine wpAnyH_take (i := 13) (oi := _) (v := ?fv13h71n74) (by simp only [List.getElem?_toArray, List.getElem?_cons_zero, List.getElem?_cons_succ]; rfl) (by kernel_rfl) (by kernel_rfl) (by kernel_rfl) (fun _ _ _ h => h) (Or.inl ⟨by rfl, ?fy13h71n74⟩) (by assumption) ?fr13h71n74
          case fy13h71n74 => (intro w hSw; (try dsimp only [SFe, C5] at hSw); go_simp; try with_reducible rfl)
          try simp only [Act.put, List.setIfInBounds_toArray, List.set_cons_zero, List.set_cons_succ]
          refine wpAnyH_take (i := 17) (oi := _) (v := ?fv17h71n74) (by simp only [List.getElem?_toArray, List.getElem?_cons_zero, List.getElem?_cons_succ]; rfl) (by kernel_rfl) (by kernel_rfl) (by kernel_rfl) (fun _ _ _ h => h) (Or.inl ⟨by rfl, ?fy17h71n74⟩) (by assumption) ?fr17h71n74
          case fy17h71n74 => (intro w hSw; (try dsimp only [SFe, C5] at hSw); go_simp; try with_reducible rfl)
          try simp only [Act.put, List.setIfInBounds_toArray, List.set_cons_zero, List.set_cons_succ]
          refine wpAnyH_take (i := 18) (oi := _) (v := ?fv18h71n74) (by simp only [List.getElem?_toArray, List.getElem?_cons_zero, List.getElem?_cons_succ]; rfl) (by kernel_rfl) (by kernel_rfl) (by kernel_rfl) (fun _ _ _ h => h) (Or.inl ⟨by rfl, ?fy18h71n74⟩) (by assumption) ?fr18h71n74
          case fy18h71n74 => (intro w hSw; (try dsimp only [SFe, C5] at hSw); go_simp; try with_reducible rfl)
          try simp only [Act.put, List.setIfInBounds_toArray, List.set_cons_zero, List.set_cons_succ]
          refine wpAnyH_take (i := 19) (oi := _) (v := ?fv19h71n74) (by simp only [List.getElem?_toArray, List.getElem?_cons_zero, List.getElem?_cons_succ]; rfl) (by kernel_rfl) (by kernel_rfl) (by kernel_rfl) (fun _ _ _ h => h) (Or.inl ⟨by rfl, ?fy19h71n74⟩) (by assumption) ?fr19h71n74
          case fy19h71n74 => (intro w hSw; (try dsimp only [SFe, C5] at hSw); go_simp; try with_reducible rfl)
          try simp only [Act.put, List.setIfInBounds_toArray, List.set_cons_zero, List.set_cons_succ]
          refine wpAnyH_take (i := 20) (oi := _) (v := ?fv20h71n74) (by simp only [List.getElem?_toArray, List.getElem?_cons_zero, List.getElem?_cons_succ]; rfl) (by kernel_rfl) (by kernel_rfl) (by kernel_rfl) (fun _ _ _ h => h) (Or.inl ⟨by rfl, ?fy20h71n74⟩) (by assumption) ?fr20h71n74
          case fy20h71n74 => (intro w hSw; (try dsimp only [SFe, C5] at hSw); go_simp; try with_reducible rfl)
          try simp only [Act.put, List.setIfInBounds_toArray, List.set_cons_zero, List.set_cons_succ]
          refine wpAnyH_take (i := 23) (oi := _) (v := ?fv23h71n74) (by simp only [List.getElem?_toArray, List.getElem?_cons_zero, List.getElem?_cons_succ]; rfl) (by kernel_rfl) (by kernel_rfl) (by kernel_rfl) (fun _ _ _ h => h) (Or.inl ⟨by rfl, ?fy23h71n74⟩) (by assumption) ?fr23h71n74
          case fy23h71n74 => (intro w hSw; (try dsimp only [SFe, C5] at hSw); go_simp; try with_reducible rfl)
          try simp only [Act.put, List.setIfInBounds_toArray, List.set_cons_zero, List.set_cons_succ]
          refine wpAnyH_take (i := 24) (oi := _) (v := ?fv24h71n74) (by simp only [List.getElem?_toArray, List.getElem?_cons_zero, List.getElem?_cons_succ]; rfl) (by kernel_rfl) (by kernel_rfl) (by kernel_rfl) (fun _ _ _ h => h) (Or.inl ⟨by rfl, ?fy24h71n74⟩) (by assumption) ?fr24h71n74
          case fy24h71n74 => (intro w hSw; (try dsimp only [SFe, C5] at hSw); go_simp; try with_reducible rfl)
          try simp only [Act.put, List.setIfInBounds_toArray, List.set_cons_zero, List.set_cons_succ]
          refine wpAnyH_take (i := 25) (oi := _) (v := ?fv25h71n74) (by simp only [List.getElem?_toArray, List.getElem?_cons_zero, List.getElem?_cons_succ]; rfl) (by kernel_rfl) (by kernel_rfl) (by kernel_rfl) (fun _ _ _ h => h) (Or.inl ⟨by rfl, ?fy25h71n74⟩) (by assumption) ?fr25h71n74
          case fy25h71n74 => (intro w hSw; (try dsimp only [SFe, C5] at hSw); go_simp; try with_reducible rfl)
          try simp only [Act.put, List.setIfInBounds_toArray, List.set_cons_zero, List.set_cons_succ]
          refine wpAnyH_ready (rs := [21]) (by kernel_rfl) (by simp) ?_
          refine AllReadyH.cons (o := _) rfl (fun K hK => ?_) AllReadyH.nil
          go_simp
          ((with_reducible refine (WA.out _ (HFX.out.trans HF8.out)).mono ?_); rintro e w9 ⟨u, rfl, hu, hf⟩; obtain ⟨a9, c9, rfl, _⟩ := hu; rw [HFL.out.want0, hp1]; have HF9 := Lib.hid (HF8.out.trans hf); have hS := HSE.out _ HF9.out; clear hf)
          go_wp2_with fail
          refine hK.out _ _ hS (fun hHeld => ?_)
          clear hK K
          try simp only [Act.put, List.setIfInBounds_toArray, List.set_cons_zero, List.set_cons_succ]
          refine wpAnyH_take (i := 22) (oi := _) (v := ?fv22h71n75) (by simp only [List.getElem?_toArray, List.getElem?_cons_zero, List.getElem?_cons_succ]; rfl) (by kernel_rfl) (by kernel_rfl) (by kernel_rfl) (fun _ _ _ h => h) (Or.inl ⟨by rfl, ?fy22h71n75⟩) (by assumption) ?fr22h71n75
          case fy22h71n75 => (intro w hSw; (try dsimp only [SFe, C5] at hSw); go_simp; try with_reducible rfl)
          try simp only [Act.put, List.setIfInBounds_toArray, List.set_cons_zero, List.set_cons_succ]
          refine wpAnyH_take (i := 26) (oi := _) (v := ?fv26h71n75) (by simp only [List.getElem?_toArray, List.getElem?_cons_zero, List.getElem?_cons_succ]; rfl) (by kernel_rfl) (by kernel_rfl) (by kernel_rfl) (fun _ _ _ h => h) (Or.inl ⟨by rfl, ?fy26h71n75⟩) (by assumption) ?fr26h71n75
          case fy26h71n75 => (intro w hSw; (try dsimp only [SFe, C5] at hSw); go_simp; try with_reducible rfl)
          try simp only [Act.put, List.setIfInBounds_toArray, List.set_cons_zero, List.set_cons_succ]
          refine wpAnyH_take (i := 27) (oi := _) (v := ?fv27h71n75) (by simp only [List.getElem?_toArray, List.getElem?_cons_zero, List.getElem?_cons_succ]; rfl) (by kernel_rfl) (by kernel_rfl) (by kernel_rfl) (fun _ _ _ h => h) (Or.inl ⟨by rfl, ?fy27h71n75⟩) (by assumption) ?fr27h71n75
          case fy27h71n75 => (intro w hSw; (try dsimp only [SFe, C5] at hSw); go_simp; try with_reducible rfl)
          try simp only [Act.put, List.setIfInBounds_toArray, List.set_cons_zero, List.set_cons_succ]
          refine wpAnyH_take (i := 28) (oi := _) (v := ?fv28h71n75) (by simp only [List.getElem?_toArray, List.getElem?_cons_zero, List.getElem?_cons_succ]; rfl) (by kernel_rfl) (by kernel_rfl) (by kernel_rfl) (fun _ _ _ h => h) (Or.inl ⟨by rfl, ?fy28h71n75⟩) (by assumption) ?fr28h71n75
          case fy28h71n75 => (intro w hSw; (try dsimp only [SFe, C5] at hSw); go_simp; try with_reducible rfl)
          try simp only [Act.put, List.setIfInBounds_toArray, List.set_cons_zero, List.set_cons_succ]
          refine wpAnyH_take (i := 29) (oi := _) (v := ?fv29h71n75) (by simp only [List.getElem?_toArray, List.getElem?_cons_zero, List.getElem?_cons_succ]; rfl) (by kernel_rfl) (by kernel_rfl) (by kernel_rfl) (fun _ _ _ h => h) (Or.inl ⟨by rfl, ?fy29h71n75⟩) (by assumption) ?fr29h71n75
          case fy29h71n75 => (intro w hSw; (try dsimp only [SFe, C5] at hSw); go_simp; try with_reducible rfl)
          try simp only [Act.put, List.setIfInBounds_toArray, List.set_cons_zero, List.set_cons_succ]
          refine wpAnyH_ready (rs := [30]) (by kernel_rfl) (by simp) ?_
          refine AllReadyH.cons (o := _) rfl (fun K hK => ?_) AllReadyH.nil
          go_simp
          ((with_reducible refine (WB.out _ (HFX.out.trans HF9.out)).mono ?_); rintro e w10 ⟨u, rfl, hu, hf⟩; obtain ⟨a10, c10, rfl, _⟩ := hu; rw [HFL.out.want1]; dsimp only [List.length_nil]; have HF10 := Lib.hid (HF9.out.trans hf); have hS := HSE.out _ HF10.out; clear hf)
          go_wp2_with fail
          refine hK.out _ _ hS (fun hHeld => ?_)
          clear hK K
          try simp only [Act.put, List.setIfInBounds_toArray, List.set_cons_zero, List.set_cons_succ]
          refine wpAnyH_take (i := 31) (oi := _) (v := ?fv31h71n76) (by simp only [List.getElem?_toArray, List.getElem?_cons_zero, List.getElem?_cons_succ]; rfl) (by kernel_rfl) (by kernel_rfl) (by kernel_rfl) (fun _ _ _ h => h) (Or.inl ⟨by rfl, ?fy31h71n76⟩) (by assumption) ?fr31h71n76
          case fy31h71n76 => (intro w hSw; (try dsimp only [SFe, C5] at hSw); go_simp; try with_reducible rfl)
          try simp only [Act.put, List.setIfInBounds_toArray, List.set_cons_zero, List.set_cons_succ]
          refine wpAnyH_take (i := 32) (oi := _) (v := ?fv32h71n76) (by simp only [List.getElem?_toArray, List.getElem?_cons_zero, List.getElem?_cons_succ]; rfl) (by kernel_rfl) (by kernel_rfl) (by kernel_rfl) (fun _ _ _ h => h) (Or.inl ⟨by rfl, ?fy32h71n76⟩) (by assumption) ?fr32h71n76
          case fy32h71n76 => (intro w hSw; (try dsimp only [SFe, C5] at hSw); go_simp; try with_reducible rfl)
          try simp only [Act.put, List.setIfInBounds_toArray, List.set_cons_zero, List.set_cons_succ]
          refine wpAnyH_take (i := 33) (oi := _) (v := ?fv33h71n76) (by simp only [List.getElem?_toArray, List.getElem?_cons_zero, List.getElem?_cons_succ]; rfl) (by kernel_rfl) (by kernel_rfl) (by kernel_rfl) (fun _ _ _ h => h) (Or.inl ⟨by rfl, ?fy33h71n76⟩) (by assumption) ?fr33h71n76
          case fy33h71n76 => (intro w hSw; (try dsimp only [SFe, C5] at hSw); go_simp; try with_reducible rfl)
          try simp only [Act.put, List.setIfInBounds_toArray, List.set_cons_zero, List.set_cons_succ]
          refine wpAnyH_take (i := 34) (oi := _) (v := ?fv34h71n76) (by simp only [List.getElem?_toArray, List.getElem?_cons_zero, List.getElem?_cons_succ]; rfl) (by kernel_rfl) (by kernel_rfl) (by kernel_rfl) (fun _ _ _ h => h) (Or.inl ⟨by rfl, ?fy34h71n76⟩) (by assumption) ?fr34h71n76
          case fy34h71n76 => (intro w hSw; (try dsimp only [SFe, C5] at hSw); go_simp; try with_reducible rfl)
          try simp only [Act.put, List.setIfInBounds_toArray, List.set_cons_zero, List.set_cons_succ]
          refine wpAnyH_done (by kernel_rfl) ?_ _
          refine NoPanic.normal ?_
          clear hHeld hS
          go_wp2_with fail
          go_ret
          exact ⟨rfl, (((HF1.out.trans HF3.out).trans HFW.out).trans HF.out).trans HF10.out⟩
theorem lfull_walk (k0 k1 : Int) (W : World) (h0 : -9223372036854775808 ≤ k0 ∧ k0 ≤ 9223372036854775807) (h1 : -9223372036854775808 ≤ k1 ∧ k1 ≤ 9223372036854775807) :
    Calls Try.prog 5 #[.int .i64 k0, .int .i64 k1] W fun x w' => x = .returned (.bool true) ∧ W.grownBy w' none :=
  (lfull_true lg_is k0 k1 W h0 h1).mono fun _ _ ⟨he, hf⟩ => ⟨he, hf.grown (by simp)⟩
end Go.Proofs.Ytldheaamcnmlgaa
