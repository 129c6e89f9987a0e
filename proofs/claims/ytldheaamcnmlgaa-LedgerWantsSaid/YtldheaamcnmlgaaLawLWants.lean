/- The ledger's law of what a car wants: walked. -/
import Derived.Test.YtldheaamcnmlgaaLgEn
import Derived.Test.YtldheaamcnmlgaaGLf
namespace Go.Proofs.Ytldheaamcnmlgaa
open Go.RowKit Fm

/-- A ring in its box, one of its entries, a call. -/
def SWn (V : World) (g : Nat) (v0 v1 v2 v3 v4 : Value) (b o : Nat) (e : En) (vb : Value) (q p : Nat) (f d : Int) (a : World) : Prop := Fr V a [] ∧ C5 g v0 v1 v2 v3 v4 a ∧ EnAt b o e vb a ∧ a.cell? ⟨q, p, none⟩ = some (.int .i64 f) ∧ a.cell? ⟨q, p + 1, none⟩ = some (.int .i64 d)
/-- A ring in its box, a call. -/
def SWc (V : World) (g : Nat) (v0 v1 v2 v3 v4 : Value) (q p : Nat) (f d : Int) (a : World) : Prop := Fr V a [] ∧ C5 g v0 v1 v2 v3 v4 a ∧ a.cell? ⟨q, p, none⟩ = some (.int .i64 f) ∧ a.cell? ⟨q, p + 1, none⟩ = some (.int .i64 d)
theorem SWc.fr {V : World} {g : Nat} {v0 v1 v2 v3 v4 : Value} {q p : Nat} {f d : Int} {a a' : World} (h : SWc V g v0 v1 v2 v3 v4 q p f d a) (k : Fr a a' []) : SWc V g v0 v1 v2 v3 v4 q p f d a' := ⟨h.1.trans k, h.2.1.fr k (by simp), k.cell h.2.2.1 (by simp), k.cell h.2.2.2 (by simp)⟩
/-- A ring in its box, after some bids. -/
structure XIn (V : World) (w : World) (g : Nat) (c : Int) (ms : List Int) (n : Nat) (l : List (Int × Int)) (N : Nat) (R : Rg) (vm ve : Value) : Prop where
  box : w.heap[g]? = some (.cells #[.int .i64 R.co, .int .i64 R.fo, .int .i64 R.ho, vm, ve] 27 (0, 0))
  hm : HInts w vm R.ms
  he : HE w ve R.es
  ms : R.ms = ms
  len : R.es.length = n
  rise : R.es.Pairwise Less
  few : ∀ e ∈ R.es, e.bs.length ≤ N
  wants : wantsR R c = l
  f : Fr V w []
theorem Alone.pair {w w' : World} {r : Rg} {vm ve : Value} {S : List Nat} (h : Alone w (rgV r vm ve) r) (hs : ∀ p ∈ S, ∃ cs, w.heap[p]? = some (.cells cs 27 (0, 0))) (hf : Fr w w' S) : HInts w' vm r.ms ∧ HE w' ve r.es := by
  obtain ⟨a, b, e, h1, h2⟩ := h w' S hs hf
  simp only [rgV, Value.agg.injEq, Array.mk.injEq, List.cons.injEq, true_and, and_true] at e
  obtain ⟨rfl, rfl⟩ := e
  exact ⟨h1, h2⟩
/-- The ring that a bid answered, in its box. -/
structure YIn (V w : World) (gy g : Nat) (R : Rg) (vm ve : Value) : Prop where
  box : w.heap[gy]? = some (.cells #[.int .i64 R.co, .int .i64 R.fo, .int .i64 R.ho, vm, ve] 27 (0, 0))
  al : ∀ w', Fr w w' [g] → HInts w' vm R.ms ∧ HE w' ve R.es
  f : Fr V w []
theorem YIn.of {V a w : World} {gy g : Nat} {R : Rg} {vm ve : Value} {S : List Nat} (box : w.heap[gy]? = some (.cells #[.int .i64 R.co, .int .i64 R.fo, .int .i64 R.ho, vm, ve] 27 (0, 0))) (h : Alone a (rgV R vm ve) R) (hs : ∀ p ∈ g :: S, ∃ cs, a.heap[p]? = some (.cells cs 27 (0, 0))) (hF : Fr a w S) (hV : Fr V w []) : YIn V w gy g R vm ve :=
  ⟨box, fun _ hf => h.pair hs ((hF.mono (fun _ hx => .inl (List.mem_cons_of_mem _ hx))).trans (hf.mono (fun x hx => .inl (by rw [List.mem_singleton.1 hx]; exact List.mem_cons_self)))), hV⟩
set_option maxHeartbeats 8000000 in
set_option maxRecDepth 100000 in
theorem lwants_true (r : Rg) (vm ve : Value) (a1 : Int) (w : World) (hm : HInts w vm r.ms) (he : HE w ve r.es) (ha : -9223372036854775808 ≤ a1 ∧ a1 ≤ 9223372036854775807) :
    Calls Try.prog 3 #[rgV r vm ve, .int .i64 a1] w fun e w' => e = .returned (.bool true) ∧ Fr w w' [] := by
  obtain ⟨b, hb⟩ : ∃ b, b = decide (LightR r) := ⟨_, rfl⟩
  have LI := Lib.hid (fun W (hW : Fr w W []) => light_any r vm ve b hb W (hm.keep hW) (he.keep hW))
  have WN := Lib.hid (fun W c (hs : Small r) (hW : Fr w W []) => lg_is.wants r vm ve c W (hm.keep hW) (he.keep hW) hs)
  have HBL := Lib.hid hb
  have HHE := Lib.hid he
  have HHM := Lib.hid hm
  obtain ⟨co, fo, ho, ms, es⟩ := r
  dsimp only at hm he HHE HHM
  unfold rgV at LI WN
  dsimp only at LI WN
  obtain ⟨am, cm, rfl, pm, qm, rm⟩ := hm
  obtain ⟨ae, ce, rfl, pe, qe, re⟩ := he
  unfold maxLen at qm qe
  obtain ⟨n, hn⟩ : ∃ n, n = es.length := ⟨_, rfl⟩
  have HN := Lib.hid hn
  obtain ⟨m, hmm⟩ : ∃ m, m = ms.length := ⟨_, rfl⟩
  have HM := Lib.hid hmm
  rw [← hn] at pe HHE
  rw [← hmm] at pm HHM
  rw [← hn, ← hmm] at LI WN
  unfold rgV
  dsimp only
  rw [← hn, ← hmm]
  clear rm re hb
  have HTW := Lib.hid (heap_alloc_new w (.cells #[.int .i64 co, .int .i64 fo, .int .i64 ho, .slice am m cm, .slice ae n ce] 27))
  have HF2 := Lib.hid (Fr.alloc w (.cells #[.int .i64 co, .int .i64 fo, .int .i64 ho, .slice am m cm, .slice ae n ce] 27) [])
  have FI := Lib.hid (fun W => lfirst_any lg_is W)
  clear hn hmm
  go_enter Try.func3, Try.ntmps3
  go_upto_region 1 with fail
  generalize World.alloc w _ = V at HTW HF2 ⊢
  go_wp2_with fail
  with_reducible refine (FI.out _).mono ?_
  rintro e w1 ⟨rfl, hf1⟩
  have HF3 := Lib.hid (HF2.out.trans hf1)
  have HTX := Lib.hid (hf1.heap HTW.out (by simp))
  clear hf1 FI HF2 HTW
  obtain ⟨y0, y1, y2, y3, y4⟩ := row5 HTX.out
  go_wp2_with fail
  with_reducible refine (LI.out _ HF3.out).mono ?_
  rintro e w2 ⟨rfl, hf1⟩
  have HF4 := Lib.hid (HF3.out.trans hf1)
  have HTY := Lib.hid (hf1.heap HTX.out (by simp))
  clear hf1 LI HF3 HTX y0 y1 y2 y3 y4
  cases b
  · go_wp2
    go_ret
    exact ⟨rfl, HF4.out⟩
  obtain ⟨y0, y1, y2, y3, y4⟩ := row5 HTY.out
  have HL0 : Hid (LightR ⟨co, fo, ho, ms, es⟩) := Lib.hid (of_decide_eq_true HBL.out.symm)
  have HV := Lib.hid (ring_val HL0.out.2.2.2)
  have HSM := Lib.hid (show Small ⟨co, fo, ho, ms, es⟩ from ⟨by have := HL0.out.2.1; omega, by have := HL0.out.2.2.1; omega, fun e he => by have := HL0.out.1 e he; omega⟩)
  have hm16 : m ≤ 16 := by have := HL0.out.2.1; have := HM.out; dsimp only at *; omega
  have hn30 : n ≤ 30 := by have := HL0.out.2.2.1; have := HN.out; dsimp only at *; omega
  obtain ⟨c, hc1⟩ : ∃ c, c = a1 % 16 := ⟨_, rfl⟩
  have N1 := Lib.hid (fun W => numberTo_any a1 16 W (by omega) (by omega) ha.1 ha.2)
  rw [← hc1] at N1
  clear hc1 ha HBL
  go_wp2_with fail
  with_reducible refine (N1.out _).mono ?_
  rintro e w3 ⟨rfl, rfl⟩
  clear N1
  have WX := Lib.hid (WN.out w2 c HSM.out HF4.out)
  go_wp2_with fail
  with_reducible refine (WX.out).mono ?_
  rintro e W ⟨u, rfl, hu, hf⟩
  have HCW := Lib.hid hu
  obtain ⟨aw, cw, rfl, _⟩ := hu
  have HF5 := Lib.hid (HF4.out.trans hf)
  have HTZ := Lib.hid (hf.heap HTY.out (by simp))
  obtain ⟨nw, hnw⟩ : ∃ nw, nw = (wantsR ⟨co, fo, ho, ms, es⟩ c).length := ⟨_, rfl⟩
  have HNW := Lib.hid hnw
  rw [← hnw] at HCW ⊢
  clear hf WX HF4 HTY hnw y0 y1 y2 y3 y4
  have hnwn : nw ≤ 30 := by rw [HNW.out]; have := wants_le ⟨co, fo, ho, ms, es⟩ c; have := HN.out; dsimp only at *; omega
  obtain ⟨y0, y1, y2, y3, y4⟩ := row5 HTZ.out
  obtain ⟨bi, hbi⟩ : ∃ bi, bi = decide (c ∈ ms) := ⟨_, rfl⟩
  have HBI := Lib.hid hbi
  have AM := Lib.hid (among_any (.slice am m cm) ms c bi hbi W (HHM.out.keep HF5.out))
  clear hbi
  go_wp2_with fail
  with_reducible refine (AM.out).mono ?_
  rintro e w4 ⟨rfl, rfl⟩
  clear AM y0 y1 y2 y3 y4
  go_wp2_with fail
  go_loopw [8, 9] (fun s8 s9 wx => ∃ i : Nat, i ≤ n ∧ s9 = .int .i64 i ∧ s8 = .int .i64 (cntW ms es c i) ∧ Hid (Fr W wx [])) (fun _ s9 _ => n - (intOf s9).toNat)
  case atStart => exact ⟨0, Nat.zero_le _, rfl, by simp [cntW], Lib.hid (Fr.refl _ _)⟩
  case round =>
    obtain ⟨i, hi, rfl, rfl, HF⟩ := hrel
    obtain ⟨y0, y1, y2, y3, y4⟩ := row5 (HF.out.heap HTZ.out (by simp))
    have hcl := cntW_le ms es c i
    by_cases hlt : i < n
    · have dl : decide ((i : Int) < (n : Int)) = true := decide_eq_true (by omega)
      have hile : i < es.length := by have := HN.out; omega
      obtain ⟨bl, off, vb, rfl, hE, hB⟩ := HHE.out.ent hlt
      have HEA := Lib.hid (hE.keep (HF5.out.trans HF.out))
      have HBA := Lib.hid (hB.keep (HF5.out.trans HF.out))
      have HSTEP := Lib.hid (cntW_take (ms := ms) (c := c) hile)
      have HCAT := Lib.hid (fun (h1 : c ∈ ms) (h2 : wantE c (es.getD i zeroE) = true) => cntW_at (r := ⟨co, fo, ho, ms, es⟩) hile h1 h2)
      have HWI := Lib.hid (want_is (car := c) (HV.out.ent (es.getD i zeroE) (getD_mem hile zeroE)) HV.out.cars)
      dsimp only at HCAT HWI
      obtain ⟨S, hS⟩ : ∃ S, S = cntW ms es c i := ⟨_, rfl⟩
      rw [← hS] at HSTEP HCAT hcl ⊢
      have hk16 : (es.getD i zeroE).bs.length ≤ 16 := HL0.out.1 _ (getD_mem hile zeroE)
      generalize es.getD i zeroE = e at HEA HBA HSTEP HCAT HWI hk16
      obtain ⟨e0, e1, e2, bs, e4⟩ := e
      dsimp only at HBA HWI hk16
      obtain ⟨d0, d1, d2, d3, d4⟩ := HEA.out
      dsimp only at d0 d1 d2 d3 d4
      clear hS hE hB
      obtain ⟨zb, zc, hvb⟩ := HBA.out.shape
      subst hvb
      obtain ⟨k, hk⟩ : ∃ k, k = bs.length := ⟨_, rfl⟩
      have HK := Lib.hid hk
      rw [← hk] at HBA HEA d3 hk16
      clear hk
      go_wp2_with fail
      go_loop [10, 11] (fun s10 s11 => ∃ j : Nat, j ≤ k ∧ s11 = .int .i64 j ∧ s10 = .bool (hasC bs c j)) (fun _ s11 => k - (intOf s11).toNat)
      case atStart => exact ⟨0, Nat.zero_le _, rfl, by rw [hasC_zero]⟩
      case round =>
        obtain ⟨j, hj, rfl, rfl⟩ := hrel
        by_cases hlt2 : j < k
        · have dl2 : decide ((j : Int) < (k : Int)) = true := decide_eq_true (by omega)
          have HST := Lib.hid (hasC_step (bs := bs) (c := c) (k := j) (by rw [← HK.out]; exact hlt2))
          obtain ⟨bb, ob, rfl, c0, _⟩ := HBA.out.bid hlt2
          obtain ⟨x, hx⟩ : ∃ x, x = (bs.getD j (0, 0)).1 := ⟨_, rfl⟩
          rw [← hx] at c0 HST
          generalize hasC bs c j = bd at HST ⊢
          clear hx
          cases bd
          · by_cases hxc : x = c
            · have dx : (x == c) = true := by simp [hxc]
              have HS2 : Hid (hasC bs c (j + 1) = true) := Lib.hid (by rw [HST.out, decide_eq_true hxc]; rfl)
              subst hxc
              go_wp2
              go_round
              case rel => exact ⟨j + 1, by omega, by go_num, by rw [HS2.out]⟩
              case measure => simp [intOf]; omega
            · have dx : (x == c) = false := by simp [hxc]
              have HS2 : Hid (hasC bs c (j + 1) = false) := Lib.hid (by rw [HST.out, decide_eq_false hxc]; rfl)
              clear hxc
              go_wp2
              go_round
              case rel => exact ⟨j + 1, by omega, by go_num, by rw [HS2.out]⟩
              case measure => simp [intOf]; omega
          · have HS2 : Hid (hasC bs c (j + 1) = true) := Lib.hid (by rw [HST.out]; rfl)
            go_wp2
            go_round
            case rel => exact ⟨j + 1, by omega, by go_num, by rw [HS2.out]⟩
            case measure => simp [intOf]; omega
        · have dl2 : decide ((j : Int) < (k : Int)) = false := decide_eq_false (by omega)
          obtain rfl : j = k := by omega
          have HAL := Lib.hid (hasC_all (bs := bs) (c := c))
          rw [← HK.out] at HAL
          generalize hasC bs c j = bd at HAL ⊢
          by_cases hwant : c ∈ ms ∧ wantE c ⟨e0, e1, e2, bs, e4⟩ = true
          · rw [if_pos hwant] at HSTEP
            obtain ⟨hq1, hq2⟩ := HCAT.out hwant.1 hwant.2
            obtain ⟨hw1, hw2⟩ := HWI.out.1 hwant.2
            obtain rfl : bi = true := by rw [HBI.out]; exact decide_eq_true hwant.1
            obtain rfl : bd = false := HAL.out.2 hw2
            have da : decide ((0 : Int) ≤ e4) = false := decide_eq_false (by omega)
            rw [← HNW.out] at hq1
            have dn : decide ((nw : Int) ≤ (S : Int)) = false := decide_eq_false (by omega)
            have dn2 : decide (nw ≤ S) = false := decide_eq_false (by omega)
            obtain ⟨bq, oq, rfl, q0, q1⟩ := HCW.out.call hq1
            rw [hq2] at q0 q1
            dsimp only [callOf] at q0 q1
            have hsp : (0 : Int) ≤ (S : Int) ∧ (S : Int) < (nw : Int) := by omega
            have HSW : Hid (∀ V', Fr wr V' [] → SWn wr w.heap.size (.int .i64 co) (.int .i64 fo) (.int .i64 ho) (.slice am m cm) (.slice (some ⟨bl, off, none⟩) n ce) bl (off + i * 5) ⟨e0, e1, e2, bs, e4⟩ (.slice zb j zc) bq (oq + S * 2) e0 e1 V') :=
              Lib.hid (fun V' hV => ⟨hV, (show C5 _ _ _ _ _ _ wr from ⟨y0, y1, y2, y3, y4⟩).fr hV (by simp), HEA.out.keep hV, (HF.out.trans hV).cell q0 (by simp), (HF.out.trans hV).cell q1 (by simp)⟩)
            clear hwant hq1 hq2 hw1 hw2 q0 q1
            go_upto_region 19 with fail
            clear y0 y1 y2 y3 y4 d0 d1 d2 d3 d4
            refine wp_region_noPanic ?_
            refine wp_region_held_drew (S := (SWn wr w.heap.size (.int .i64 co) (.int .i64 fo) (.int .i64 ho) (.slice am m cm) (.slice (some ⟨bl, off, none⟩) n ce) bl (off + i * 5) ⟨e0, e1, e2, bs, e4⟩ (.slice zb j zc) bq (oq + S * 2) e0 e1)) (by kernel_rfl) (HSW.out _ (Fr.drew wr [])) (fun hHeld => ?_)
            refine wpAnyH_take (i := 0) (oi := _) (v := ?fv0h1n2) (by simp only [List.getElem?_toArray, List.getElem?_cons_zero]; rfl) (by kernel_rfl) (by kernel_rfl) (by kernel_rfl) (fun _ _ _ h => h) (Or.inl ⟨by rfl, ?fy0h1n2⟩) (by assumption) ?fr0h1n2
            case fy0h1n2 => (intro w hSw; (try dsimp only [SWn, C5, EnAt] at hSw); go_simp; try with_reducible rfl)
            try simp only [Act.put, List.setIfInBounds_toArray, List.set_cons_zero, List.set_cons_succ]
            refine wpAnyH_take (i := 1) (oi := _) (v := ?fv1h1n2) (by simp only [List.getElem?_toArray, List.getElem?_cons_zero, List.getElem?_cons_succ]; rfl) (by kernel_rfl) (by kernel_rfl) (by kernel_rfl) (fun _ _ _ h => h) (Or.inl ⟨by rfl, ?fy1h1n2⟩) (by assumption) ?fr1h1n2
            case fy1h1n2 => (intro w hSw; (try dsimp only [SWn, C5, EnAt] at hSw); go_simp; try with_reducible rfl)
            try simp only [Act.put, List.setIfInBounds_toArray, List.set_cons_zero, List.set_cons_succ]
            refine wpAnyH_take (i := 2) (oi := _) (v := ?fv2h1n2) (by simp only [List.getElem?_toArray, List.getElem?_cons_zero, List.getElem?_cons_succ]; rfl) (by kernel_rfl) (by kernel_rfl) (by kernel_rfl) (fun _ _ _ h => h) (Or.inl ⟨by rfl, ?fy2h1n2⟩) (by assumption) ?fr2h1n2
            case fy2h1n2 => (intro w hSw; (try dsimp only [SWn, C5, EnAt] at hSw); go_simp; try with_reducible rfl)
            try simp only [Act.put, List.setIfInBounds_toArray, List.set_cons_zero, List.set_cons_succ]
            refine wpAnyH_take (i := 3) (oi := _) (v := ?fv3h1n2) (by simp only [List.getElem?_toArray, List.getElem?_cons_zero, List.getElem?_cons_succ]; rfl) (by kernel_rfl) (by kernel_rfl) (by kernel_rfl) (fun _ _ _ h => h) (Or.inl ⟨by rfl, ?fy3h1n2⟩) (by assumption) ?fr3h1n2
            case fy3h1n2 => (intro w hSw; (try dsimp only [SWn, C5, EnAt] at hSw); go_simp; try with_reducible rfl)
            try simp only [Act.put, List.setIfInBounds_toArray, List.set_cons_zero, List.set_cons_succ]
            refine wpAnyH_take (i := 4) (oi := _) (v := ?fv4h1n2) (by simp only [List.getElem?_toArray, List.getElem?_cons_zero, List.getElem?_cons_succ]; rfl) (by kernel_rfl) (by kernel_rfl) (by kernel_rfl) (fun _ _ _ h => h) (Or.inl ⟨by rfl, ?fy4h1n2⟩) (by assumption) ?fr4h1n2
            case fy4h1n2 => (intro w hSw; (try dsimp only [SWn, C5, EnAt] at hSw); go_simp; try with_reducible rfl)
            try simp only [Act.put, List.setIfInBounds_toArray, List.set_cons_zero, List.set_cons_succ]
            refine wpAnyH_take (i := 5) (oi := _) (v := ?fv5h1n2) (by simp only [List.getElem?_toArray, List.getElem?_cons_zero, List.getElem?_cons_succ]; rfl) (by kernel_rfl) (by kernel_rfl) (by kernel_rfl) (fun _ _ _ h => h) (Or.inl ⟨by rfl, ?fy5h1n2⟩) (by assumption) ?fr5h1n2
            case fy5h1n2 => (intro w hSw; (try dsimp only [SWn, C5, EnAt] at hSw); go_simp; try with_reducible rfl)
            try simp only [Act.put, List.setIfInBounds_toArray, List.set_cons_zero, List.set_cons_succ]
            refine wpAnyH_take (i := 6) (oi := _) (v := ?fv6h1n2) (by simp only [List.getElem?_toArray, List.getElem?_cons_zero, List.getElem?_cons_succ]; rfl) (by kernel_rfl) (by kernel_rfl) (by kernel_rfl) (fun _ _ _ h => h) (Or.inl ⟨by rfl, ?fy6h1n2⟩) (by assumption) ?fr6h1n2
            case fy6h1n2 => (intro w hSw; (try dsimp only [SWn, C5, EnAt] at hSw); go_simp; try with_reducible rfl)
            try simp only [Act.put, List.setIfInBounds_toArray, List.set_cons_zero, List.set_cons_succ]
            refine wpAnyH_take (i := 7) (oi := _) (v := ?fv7h1n2) (by simp only [List.getElem?_toArray, List.getElem?_cons_zero, List.getElem?_cons_succ]; rfl) (by kernel_rfl) (by kernel_rfl) (by kernel_rfl) (fun _ _ _ h => h) (Or.inl ⟨by rfl, ?fy7h1n2⟩) (by assumption) ?fr7h1n2
            case fy7h1n2 => (intro w hSw; (try dsimp only [SWn, C5, EnAt] at hSw); go_simp; try with_reducible rfl)
            try simp only [Act.put, List.setIfInBounds_toArray, List.set_cons_zero, List.set_cons_succ]
            refine wpAnyH_take (i := 8) (oi := _) (v := ?fv8h1n2) (by simp only [List.getElem?_toArray, List.getElem?_cons_zero, List.getElem?_cons_succ]; rfl) (by kernel_rfl) (by kernel_rfl) (by kernel_rfl) (fun _ _ _ h => h) (Or.inl ⟨by rfl, ?fy8h1n2⟩) (by assumption) ?fr8h1n2
            case fy8h1n2 => (intro w hSw; (try dsimp only [SWn, C5, EnAt] at hSw); go_simp; try with_reducible rfl)
            try simp only [Act.put, List.setIfInBounds_toArray, List.set_cons_zero, List.set_cons_succ]
            refine wpAnyH_take (i := 9) (oi := _) (v := ?fv9h1n2) (by simp only [List.getElem?_toArray, List.getElem?_cons_zero, List.getElem?_cons_succ]; rfl) (by kernel_rfl) (by kernel_rfl) (by kernel_rfl) (fun _ _ _ h => h) (Or.inl ⟨by rfl, ?fy9h1n2⟩) (by assumption) ?fr9h1n2
            case fy9h1n2 => (intro w hSw; (try dsimp only [SWn, C5, EnAt] at hSw); go_simp; try with_reducible rfl)
            try simp only [Act.put, List.setIfInBounds_toArray, List.set_cons_zero, List.set_cons_succ]
            refine wpAnyH_take (i := 10) (oi := _) (v := ?fv10h1n2) (by simp only [List.getElem?_toArray, List.getElem?_cons_zero, List.getElem?_cons_succ]; rfl) (by kernel_rfl) (by kernel_rfl) (by kernel_rfl) (fun _ _ _ h => h) (Or.inl ⟨by rfl, ?fy10h1n2⟩) (by assumption) ?fr10h1n2
            case fy10h1n2 => (intro w hSw; (try dsimp only [SWn, C5, EnAt] at hSw); go_simp; try with_reducible rfl)
            try simp only [Act.put, List.setIfInBounds_toArray, List.set_cons_zero, List.set_cons_succ]
            refine wpAnyH_take (i := 11) (oi := _) (v := ?fv11h1n2) (by simp only [List.getElem?_toArray, List.getElem?_cons_zero, List.getElem?_cons_succ]; rfl) (by kernel_rfl) (by kernel_rfl) (by kernel_rfl) (fun _ _ _ h => h) (Or.inl ⟨by rfl, ?fy11h1n2⟩) (by assumption) ?fr11h1n2
            case fy11h1n2 => (intro w hSw; (try dsimp only [SWn, C5, EnAt] at hSw); go_simp; try with_reducible rfl)
            try simp only [Act.put, List.setIfInBounds_toArray, List.set_cons_zero, List.set_cons_succ]
            refine wpAnyH_take (i := 12) (oi := _) (v := ?fv12h1n2) (by simp only [List.getElem?_toArray, List.getElem?_cons_zero, List.getElem?_cons_succ]; rfl) (by kernel_rfl) (by kernel_rfl) (by kernel_rfl) (fun _ _ _ h => h) (Or.inl ⟨by rfl, ?fy12h1n2⟩) (by assumption) ?fr12h1n2
            case fy12h1n2 => (intro w hSw; (try dsimp only [SWn, C5, EnAt] at hSw); go_simp; try with_reducible rfl)
            try simp only [Act.put, List.setIfInBounds_toArray, List.set_cons_zero, List.set_cons_succ]
            refine wpAnyH_take (i := 13) (oi := _) (v := ?fv13h1n2) (by simp only [List.getElem?_toArray, List.getElem?_cons_zero, List.getElem?_cons_succ]; rfl) (by kernel_rfl) (by kernel_rfl) (by kernel_rfl) (fun _ _ _ h => h) (Or.inl ⟨by rfl, ?fy13h1n2⟩) (by assumption) ?fr13h1n2
            case fy13h1n2 => (intro w hSw; (try dsimp only [SWn, C5, EnAt] at hSw); go_simp; try with_reducible rfl)
            try simp only [Act.put, List.setIfInBounds_toArray, List.set_cons_zero, List.set_cons_succ]
            refine wpAnyH_take (i := 14) (oi := _) (v := ?fv14h1n2) (by simp only [List.getElem?_toArray, List.getElem?_cons_zero, List.getElem?_cons_succ]; rfl) (by kernel_rfl) (by kernel_rfl) (by kernel_rfl) (fun _ _ _ h => h) (Or.inl ⟨by rfl, ?fy14h1n2⟩) (by assumption) ?fr14h1n2
            case fy14h1n2 => (intro w hSw; (try dsimp only [SWn, C5, EnAt] at hSw); go_simp; try with_reducible rfl)
            try simp only [Act.put, List.setIfInBounds_toArray, List.set_cons_zero, List.set_cons_succ]
            refine wpAnyH_take (i := 15) (oi := _) (v := ?fv15h1n2) (by simp only [List.getElem?_toArray, List.getElem?_cons_zero, List.getElem?_cons_succ]; rfl) (by kernel_rfl) (by kernel_rfl) (by kernel_rfl) (fun _ _ _ h => h) (Or.inl ⟨by rfl, ?fy15h1n2⟩) (by assumption) ?fr15h1n2
            case fy15h1n2 => (intro w hSw; (try dsimp only [SWn, C5, EnAt] at hSw); go_simp; try with_reducible rfl)
            try simp only [Act.put, List.setIfInBounds_toArray, List.set_cons_zero, List.set_cons_succ]
            refine wpAnyH_ready (rs := [16]) (by kernel_rfl) (by simp) ?_
            refine AllReadyH.cons (o := _) rfl (fun K hK => ?_) AllReadyH.nil
            go_simp
            ((with_reducible refine (sameCall_any e0 e1 e0 e1 true (by simp) _).mono ?_); rintro e w6 ⟨rfl, hf⟩; have HF8 := Lib.hid ((Fr.drew wr []).trans hf); have hS := HSW.out _ HF8.out; clear hf)
            go_wp2_with fail
            refine hK.out _ _ hS (fun hHeld => ?_)
            clear hK K
            try simp only [Act.put, List.setIfInBounds_toArray, List.set_cons_zero, List.set_cons_succ]
            refine wpAnyH_take (i := 17) (oi := _) (v := ?fv17h1n3) (by simp only [List.getElem?_toArray, List.getElem?_cons_zero, List.getElem?_cons_succ]; rfl) (by kernel_rfl) (by kernel_rfl) (by kernel_rfl) (fun _ _ _ h => h) (Or.inl ⟨by rfl, ?fy17h1n3⟩) (by assumption) ?fr17h1n3
            case fy17h1n3 => (intro w hSw; (try dsimp only [SWn, C5, EnAt] at hSw); go_simp; try with_reducible rfl)
            try simp only [Act.put, List.setIfInBounds_toArray, List.set_cons_zero, List.set_cons_succ]
            refine wpAnyH_take (i := 18) (oi := _) (v := ?fv18h1n3) (by simp only [List.getElem?_toArray, List.getElem?_cons_zero, List.getElem?_cons_succ]; rfl) (by kernel_rfl) (by kernel_rfl) (by kernel_rfl) (fun _ _ _ h => h) (Or.inl ⟨by rfl, ?fy18h1n3⟩) (by assumption) ?fr18h1n3
            case fy18h1n3 => (intro w hSw; (try dsimp only [SWn, C5, EnAt] at hSw); go_simp; try with_reducible rfl)
            try simp only [Act.put, List.setIfInBounds_toArray, List.set_cons_zero, List.set_cons_succ]
            refine wpAnyH_done (by kernel_rfl) ?_ _
            refine NoPanic.normal ?_
            have HFn := Lib.hid (HF.out.trans HF8.out)
            clear hHeld hS HSW HF8
            go_wp2
            go_roundw
            case rel => exact ⟨i + 1, by omega, by go_num, by rw [HSTEP.out]; simp, HFn⟩
            case measure => simp [intOf]; omega
          · rw [if_neg hwant] at HSTEP
            have HNO : Hid (bi = false ∨ bd = true ∨ 0 ≤ e4) := Lib.hid (by
              by_cases q1 : c ∈ ms
              · refine .inr ?_
                by_cases q2 : 0 ≤ e4
                · exact .inr q2
                · refine .inl ?_
                  cases hbd : bd
                  · exact absurd ⟨q1, HWI.out.2 ⟨by omega, HAL.out.1 hbd⟩⟩ hwant
                  · rfl
              · exact .inl (by rw [HBI.out]; exact decide_eq_false q1))
            clear hwant
            have HSN : Hid (cntW ms es c (i + 1) = S) := HSTEP
            cases hbi : bi
            · go_wp2
              exact ⟨⟨_, _, _, ⟨i + 1, by omega, rfl, rfl⟩, rfl, by rw [HSN.out], by simp⟩, by simp [intOf]; omega⟩
            · cases hbd : bd
              · have q2 : 0 ≤ e4 := by rcases HNO.out with q | q | q; (rw [hbi] at q; cases q); (rw [hbd] at q; cases q); exact q
                have da : decide ((0 : Int) ≤ e4) = true := decide_eq_true q2
                go_wp2
                exact ⟨⟨_, _, _, ⟨i + 1, by omega, rfl, rfl⟩, rfl, by rw [HSN.out], by simp⟩, by simp [intOf]; omega⟩
              · go_wp2
                exact ⟨⟨_, _, _, ⟨i + 1, by omega, rfl, rfl⟩, rfl, by rw [HSN.out], by simp⟩, by simp [intOf]; omega⟩
    · have dl : decide ((i : Int) < (n : Int)) = false := decide_eq_false (by omega)
      obtain rfl : i = n := by omega
      have q1 : cntW ms es c i = nw := by rw [HN.out, HNW.out]; exact cntW_all ⟨co, fo, ho, ms, es⟩ c
      rw [q1]
      clear q1 hcl
      have HBX := Lib.hid (box_ring wr (.int .i64 co) (.int .i64 fo) (.int .i64 ho) (.slice am m cm) (.slice ae i ce))
      obtain ⟨g, hg⟩ : ∃ g, g = wr.heap.size := ⟨_, rfl⟩
      rw [← hg] at HBX
      go_upto_region 25 with fail
      rw [← hg]
      generalize World.alloc wr _ = W5 at HBX ⊢
      have HG := Lib.hid hg
      clear hg y0 y1 y2 y3 y4
      have HX0 : Hid (XIn wr W5 g c ms i ((wantsR ⟨co, fo, ho, ms, es⟩ c).drop 0) (16 + 0) ⟨co, fo, ho, ms, es⟩ (.slice am m cm) (.slice ae i ce)) :=
        Lib.hid ⟨HBX.out.1, HHM.out.keep ((HF5.out.trans HF.out).trans HBX.out.2), HHE.out.keep ((HF5.out.trans HF.out).trans HBX.out.2), rfl, HN.out.symm, HV.out.rise, HL0.out.1, rfl, HBX.out.2⟩
      obtain ⟨lw, hlw⟩ : ∃ lw, lw = wantsR ⟨co, fo, ho, ms, es⟩ c := ⟨_, rfl⟩
      rw [← hlw] at HX0 HNW HCW
      have HCV := Lib.hid (HCW.out.keep HF.out)
      clear hlw HCW
      go_wp2_with fail
      go_loopw [13] (fun s13 wx => ∃ (k : Nat) (R : Rg) (um ue : Value), k ≤ nw ∧ s13 = .int .i64 k ∧ Hid (XIn wr wx g c ms i (lw.drop k) (16 + k) R um ue)) (fun s13 _ => nw - (intOf s13).toNat)
      case atStart => exact ⟨0, _, _, _, Nat.zero_le _, rfl, HX0⟩
      case round =>
        obtain ⟨k, R, um, ue, hk, rfl, HX⟩ := hrel
        by_cases hlt : k < nw
        · have dl : decide ((k : Int) < (nw : Int)) = true := decide_eq_true (by omega)
          have hkl : k < lw.length := by rw [← HNW.out]; exact hlt
          have HWS := Lib.hid (bid_wanted (r := R) (car := c) (t := (k : Int)) HX.out.rise ⟨by omega, by omega⟩ (HX.out.wants.trans (dr_cons lw k hkl (0, 0))))
          obtain ⟨bq, oq, rfl, q0, q1⟩ := HCV.out.call hlt
          generalize lw.getD k (0, 0) = cc at HWS q0 q1
          obtain ⟨f, d⟩ := cc
          dsimp only at HWS q0 q1
          obtain ⟨pa, pc, hum, _⟩ := HX.out.hm
          obtain ⟨pb, pd, hue, _⟩ := HX.out.he
          have hlm : R.ms.length ≤ 1000 := by have := congrArg List.length HX.out.ms; have := HM.out; omega
          have hle : R.es.length ≤ 1000 := by have := HX.out.len; omega
          have BD := Lib.hid (fun W' (hW : Fr wr W' []) => bid_al R um ue (c, (k : Int)) f d W' (HX.out.hm.keep hW) (HX.out.he.keep hW) hlm hle (fun e he => by have := HX.out.few e he; omega))
          rw [HWS.out.is] at BD
          generalize bidR R (c, (k : Int)) (placeE R.es f d) = R2 at HWS BD
          obtain ⟨l1, hl1⟩ : ∃ x, x = R.ms.length := ⟨_, rfl⟩
          obtain ⟨l2, hl2⟩ : ∃ x, x = R.es.length := ⟨_, rfl⟩
          rw [← hl1] at hum
          rw [← hl2] at hue
          subst hum hue
          obtain ⟨rc, rf, rh, rm, re⟩ := R
          unfold rgV bidV at BD
          dsimp only at BD
          have HSB : Hid (∀ V', Fr wr V' [] → SWc wr g (.int .i64 rc) (.int .i64 rf) (.int .i64 rh) (.slice pa l1 pc) (.slice pb l2 pd) bq (oq + k * 2) f d V') :=
            Lib.hid (fun V' hV => ⟨hV, (show C5 _ _ _ _ _ _ wr from row5 HX.out.box).fr hV (by simp), (HX.out.f.trans hV).cell q0 (by simp), (HX.out.f.trans hV).cell q1 (by simp)⟩)
          have hkp : (0 : Int) ≤ (k : Int) ∧ (k : Int) < (nw : Int) := by omega
          clear hkl hlm hle hl1 hl2 q0 q1
          go_upto_region 28 with fail
          go_cut [14, 15] (fun s14 s15 wx => ∃ (gy : Nat) (um' ue' : Value), s14 = .pointer (some ⟨gy, 0, none⟩) ∧ s15 = .bool true ∧ Hid (YIn wr wx gy g R2 um' ue'))
          case first =>
            have HFD := Lib.hid (Fr.drew wr [])
            refine wp_region_noPanic ?_
            refine wp_region_held_drew (S := SWc wr g (.int .i64 rc) (.int .i64 rf) (.int .i64 rh) (.slice pa l1 pc) (.slice pb l2 pd) bq (oq + k * 2) f d) (by kernel_rfl) (HSB.out _ HFD.out) (fun hHeld => ?_)
            refine wpAnyH_take (i := 0) (oi := _) (v := ?fv0h4n5) (by simp only [List.getElem?_toArray, List.getElem?_cons_zero]; rfl) (by kernel_rfl) (by kernel_rfl) (by kernel_rfl) (fun _ _ _ h => h) (Or.inl ⟨by rfl, ?fy0h4n5⟩) (by assumption) ?fr0h4n5
            case fy0h4n5 => (intro w hSw; (try dsimp only [SWc, C5] at hSw); go_simp; try with_reducible rfl)
            try simp only [Act.put, List.setIfInBounds_toArray, List.set_cons_zero, List.set_cons_succ]
            refine wpAnyH_take (i := 1) (oi := _) (v := ?fv1h4n5) (by simp only [List.getElem?_toArray, List.getElem?_cons_zero, List.getElem?_cons_succ]; rfl) (by kernel_rfl) (by kernel_rfl) (by kernel_rfl) (fun _ _ _ h => h) (Or.inl ⟨by rfl, ?fy1h4n5⟩) (by assumption) ?fr1h4n5
            case fy1h4n5 => (intro w hSw; (try dsimp only [SWc, C5] at hSw); go_simp; try with_reducible rfl)
            try simp only [Act.put, List.setIfInBounds_toArray, List.set_cons_zero, List.set_cons_succ]
            refine wpAnyH_take (i := 2) (oi := _) (v := ?fv2h4n5) (by simp only [List.getElem?_toArray, List.getElem?_cons_zero, List.getElem?_cons_succ]; rfl) (by kernel_rfl) (by kernel_rfl) (by kernel_rfl) (fun _ _ _ h => h) (Or.inl ⟨by rfl, ?fy2h4n5⟩) (by assumption) ?fr2h4n5
            case fy2h4n5 => (intro w hSw; (try dsimp only [SWc, C5] at hSw); go_simp; try with_reducible rfl)
            try simp only [Act.put, List.setIfInBounds_toArray, List.set_cons_zero, List.set_cons_succ]
            refine wpAnyH_take (i := 3) (oi := _) (v := ?fv3h4n5) (by simp only [List.getElem?_toArray, List.getElem?_cons_zero, List.getElem?_cons_succ]; rfl) (by kernel_rfl) (by kernel_rfl) (by kernel_rfl) (fun _ _ _ h => h) (Or.inl ⟨by rfl, ?fy3h4n5⟩) (by assumption) ?fr3h4n5
            case fy3h4n5 => (intro w hSw; (try dsimp only [SWc, C5] at hSw); go_simp; try with_reducible rfl)
            try simp only [Act.put, List.setIfInBounds_toArray, List.set_cons_zero, List.set_cons_succ]
            refine wpAnyH_take (i := 4) (oi := _) (v := ?fv4h4n5) (by simp only [List.getElem?_toArray, List.getElem?_cons_zero, List.getElem?_cons_succ]; rfl) (by kernel_rfl) (by kernel_rfl) (by kernel_rfl) (fun _ _ _ h => h) (Or.inl ⟨by rfl, ?fy4h4n5⟩) (by assumption) ?fr4h4n5
            case fy4h4n5 => (intro w hSw; (try dsimp only [SWc, C5] at hSw); go_simp; try with_reducible rfl)
            try simp only [Act.put, List.setIfInBounds_toArray, List.set_cons_zero, List.set_cons_succ]
            refine wpAnyH_take (i := 5) (oi := _) (v := ?fv5h4n5) (by simp only [List.getElem?_toArray, List.getElem?_cons_zero, List.getElem?_cons_succ]; rfl) (by kernel_rfl) (by kernel_rfl) (by kernel_rfl) (fun _ _ _ h => h) (Or.inl ⟨by rfl, ?fy5h4n5⟩) (by assumption) ?fr5h4n5
            case fy5h4n5 => (intro w hSw; (try dsimp only [SWc, C5] at hSw); go_simp; try with_reducible rfl)
            try simp only [Act.put, List.setIfInBounds_toArray, List.set_cons_zero, List.set_cons_succ]
            refine wpAnyH_take (i := 6) (oi := _) (v := ?fv6h4n5) (by simp only [List.getElem?_toArray, List.getElem?_cons_zero, List.getElem?_cons_succ]; rfl) (by kernel_rfl) (by kernel_rfl) (by kernel_rfl) (fun _ _ _ h => h) (Or.inl ⟨by rfl, ?fy6h4n5⟩) (by assumption) ?fr6h4n5
            case fy6h4n5 => (intro w hSw; (try dsimp only [SWc, C5] at hSw); go_simp; try with_reducible rfl)
            try simp only [Act.put, List.setIfInBounds_toArray, List.set_cons_zero, List.set_cons_succ]
            refine wpAnyH_take (i := 7) (oi := _) (v := ?fv7h4n5) (by simp only [List.getElem?_toArray, List.getElem?_cons_zero, List.getElem?_cons_succ]; rfl) (by kernel_rfl) (by kernel_rfl) (by kernel_rfl) (fun _ _ _ h => h) (Or.inl ⟨by rfl, ?fy7h4n5⟩) (by assumption) ?fr7h4n5
            case fy7h4n5 => (intro w hSw; (try dsimp only [SWc, C5] at hSw); go_simp; try with_reducible rfl)
            try simp only [Act.put, List.setIfInBounds_toArray, List.set_cons_zero, List.set_cons_succ]
            generalize World.drew wr = WD at HFD hHeld ⊢
            refine wpAnyH_ready (rs := [8, 12]) (by kernel_rfl) (by simp) ?_
            refine AllReadyH.cons (o := _) rfl (fun K hK => ?_) ?_
            focus
              go_simp
              ((with_reducible refine (BD.out _ HFD.out).mono ?_); rintro e w7 ⟨u, rfl, x, rfl, ⟨vm7, ve7, rfl, h7, k7⟩, hf, hal⟩; have HF7 := Lib.hid (HFD.out.trans hf); have hS := HSB.out _ HF7.out; obtain ⟨a7, c7, e7, _⟩ := h7; obtain ⟨a8, c8, e8, _⟩ := k7; obtain ⟨n7, hn7⟩ : ∃ x, x = R2.ms.length := ⟨_, rfl⟩; obtain ⟨n8, hn8⟩ : ∃ x, x = R2.es.length := ⟨_, rfl⟩; rw [← hn7] at e7; rw [← hn8] at e8; subst e7 e8; have HAL := Lib.hid hal; clear hal hn7 hn8; unfold rgV)
              go_wp2_with fail
              refine hK.out _ _ hS (fun hHeld => ?_)
              clear hK K
              try simp only [Act.put, List.setIfInBounds_toArray, List.set_cons_zero, List.set_cons_succ]
              refine wpAnyH_take (i := 9) (oi := _) (v := ?fv9h4n6) (by simp only [List.getElem?_toArray, List.getElem?_cons_zero, List.getElem?_cons_succ]; rfl) (by kernel_rfl) (by kernel_rfl) (by kernel_rfl) (fun _ _ _ h => h) (Or.inl ⟨by rfl, ?fy9h4n6⟩) (by assumption) ?fr9h4n6
              case fy9h4n6 => (intro w hSw; (try dsimp only [SWc, C5] at hSw); go_simp; try with_reducible rfl)
              try simp only [Act.put, List.setIfInBounds_toArray, List.set_cons_zero, List.set_cons_succ]
              refine wpAnyH_take (i := 10) (oi := _) (v := ?fv10h4n6) (by simp only [List.getElem?_toArray, List.getElem?_cons_zero, List.getElem?_cons_succ]; rfl) (by kernel_rfl) (by kernel_rfl) (by kernel_rfl) (fun _ _ _ h => h) (Or.inl ⟨by rfl, ?fy10h4n6⟩) (by assumption) ?fr10h4n6
              case fy10h4n6 => (intro w hSw; (try dsimp only [SWc, C5] at hSw); go_simp; try with_reducible rfl)
              try simp only [Act.put, List.setIfInBounds_toArray, List.set_cons_zero, List.set_cons_succ]
              refine wpAnyH_take (i := 11) (oi := _) (v := ?fv11h4n6) (by simp only [List.getElem?_toArray, List.getElem?_cons_zero, List.getElem?_cons_succ]; rfl) (by kernel_rfl) (by kernel_rfl) (by kernel_rfl) (fun _ _ _ h => h) (Or.inl ⟨by rfl, ?fy11h4n6⟩) (by assumption) ?fr11h4n6
              case fy11h4n6 => (intro w hSw; (try dsimp only [SWc, C5] at hSw); go_simp; try with_reducible rfl)
              try simp only [Act.put, List.setIfInBounds_toArray, List.set_cons_zero, List.set_cons_succ]
              refine wpAnyH_ready (rs := [12]) (by kernel_rfl) (by simp) ?_
              refine AllReadyH.cons (o := _) rfl (fun K hK => ?_) AllReadyH.nil
              go_simp
              have HZ := Lib.hid (heap_alloc_new w7 (.cells #[.int .i64 0, .int .i64 0, .int .i64 0, .slice none 0 0, .slice none 0 0] 27))
              have HFA := Lib.hid (Fr.alloc w7 (.cells #[.int .i64 0, .int .i64 0, .int .i64 0, .slice none 0 0, .slice none 0 0] 27) [])
              have hSX := hHeld.fr HFA.out
              refine hK.out _ _ hSX (fun hHeld => ?_)
              clear hK K
              try simp only [Act.put, List.setIfInBounds_toArray, List.set_cons_zero, List.set_cons_succ]
              generalize World.alloc w7 _ = W8 at HZ HFA hHeld ⊢
              obtain ⟨gy, hgy⟩ : ∃ gy, gy = w7.heap.size := ⟨_, rfl⟩
              have HGY := Lib.hid hgy
              rw [← hgy] at HZ ⊢
              clear hgy hSX hS
              obtain ⟨z0, z1, z2, z3, z4⟩ := row5 HZ.out
              obtain ⟨f0, f1, f2, f3, f4⟩ := fz5 HZ.out
              have HZN := Lib.hid (set5 HZ.out (.int .i64 R2.co) (.int .i64 R2.fo) (.int .i64 R2.ho) (.slice a7 n7 c7) (.slice a8 n8 c8))
              have HFN := Lib.hid (set5_fr W8 gy (.int .i64 R2.co) (.int .i64 R2.fo) (.int .i64 R2.ho) (.slice a7 n7 c7) (.slice a8 n8 c8))
              refine wpAnyH_ready (rs := [13]) (by kernel_rfl) (by simp) ?_
              refine AllReadyH.cons (o := _) rfl (fun K hK => ?_) AllReadyH.nil
              go_simp
              clear z0 z1 z2 z3 z4 f0 f1 f2 f3 f4
              generalize World.setCell (World.setCell (World.setCell (World.setCell (World.setCell W8 _ _) _ _) _ _) _ _) _ _ = W9 at HZN HFN ⊢
              have HF9 := Lib.hid ((HF7.out.trans HFA.out).new HFN.out (fun x hx => by rw [List.mem_singleton.1 hx, HGY.out]; exact HF7.out.size))
              have hS9 := HSB.out W9 HF9.out
              refine hK.out _ _ hS9 (fun hHeld => ?_)
              clear hK K
              try simp only [Act.put, List.setIfInBounds_toArray, List.set_cons_zero, List.set_cons_succ]
              refine wpAnyH_take (i := 14) (oi := _) (v := ?fv14h4n7) (by simp only [List.getElem?_toArray, List.getElem?_cons_zero, List.getElem?_cons_succ]; rfl) (by kernel_rfl) (by kernel_rfl) (by kernel_rfl) (fun _ _ _ h => h) (Or.inl ⟨by rfl, ?fy14h4n7⟩) (by assumption) ?fr14h4n7
              case fy14h4n7 => (intro w hSw; (try dsimp only [SWc, C5] at hSw); go_simp; try with_reducible rfl)
              try simp only [Act.put, List.setIfInBounds_toArray, List.set_cons_zero, List.set_cons_succ]
              refine wpAnyH_done (by kernel_rfl) ?_ _
              refine NoPanic.normal ?_
              go_wp2_with fail
              go_meet
              exact ⟨gy, _, _, rfl, rfl, Lib.hid (YIn.of (S := []) HZN.out HAL.out (fun p hp => by obtain rfl := List.mem_singleton.1 hp; exact ⟨_, HF7.out.heap HX.out.box (by simp)⟩) (HFA.out.new HFN.out (fun x hx => by rw [List.mem_singleton.1 hx, HGY.out]; exact Nat.le_refl _)) HF9.out)⟩
            refine AllReadyH.cons (o := _) rfl (fun K hK => ?_) AllReadyH.nil
            focus
              go_simp
              have HZ := Lib.hid (heap_alloc_new WD (.cells #[.int .i64 0, .int .i64 0, .int .i64 0, .slice none 0 0, .slice none 0 0] 27))
              have HFA := Lib.hid (Fr.alloc WD (.cells #[.int .i64 0, .int .i64 0, .int .i64 0, .slice none 0 0, .slice none 0 0] 27) [])
              have hSX := hHeld.fr HFA.out
              refine hK.out _ _ hSX (fun hHeld => ?_)
              clear hK K
              try simp only [Act.put, List.setIfInBounds_toArray, List.set_cons_zero, List.set_cons_succ]
              generalize World.alloc WD _ = W8 at HZ HFA hHeld ⊢
              obtain ⟨gy, hgy⟩ : ∃ gy, gy = WD.heap.size := ⟨_, rfl⟩
              have HGY := Lib.hid hgy
              rw [← hgy] at HZ ⊢
              clear hgy hSX
              refine wpAnyH_ready (rs := [8]) (by kernel_rfl) (by simp) ?_
              refine AllReadyH.cons (o := _) rfl (fun K hK => ?_) AllReadyH.nil
              go_simp
              ((with_reducible refine (BD.out _ (HFD.out.trans HFA.out)).mono ?_); rintro e w7 ⟨u, rfl, x, rfl, ⟨vm7, ve7, rfl, h7, k7⟩, hf, hal⟩; have HF7 := Lib.hid ((HFD.out.trans HFA.out).trans hf); have HZ7 := Lib.hid (hf.heap HZ.out (by simp)); have hS := HSB.out _ HF7.out; obtain ⟨a7, c7, e7, _⟩ := h7; obtain ⟨a8, c8, e8, _⟩ := k7; obtain ⟨n7, hn7⟩ : ∃ x, x = R2.ms.length := ⟨_, rfl⟩; obtain ⟨n8, hn8⟩ : ∃ x, x = R2.es.length := ⟨_, rfl⟩; rw [← hn7] at e7; rw [← hn8] at e8; subst e7 e8; have HAL := Lib.hid hal; clear hal hn7 hn8; unfold rgV)
              go_wp2_with fail
              refine hK.out _ _ hS (fun hHeld => ?_)
              clear hK K
              try simp only [Act.put, List.setIfInBounds_toArray, List.set_cons_zero, List.set_cons_succ]
              refine wpAnyH_take (i := 9) (oi := _) (v := ?fv9h4n8) (by simp only [List.getElem?_toArray, List.getElem?_cons_zero, List.getElem?_cons_succ]; rfl) (by kernel_rfl) (by kernel_rfl) (by kernel_rfl) (fun _ _ _ h => h) (Or.inl ⟨by rfl, ?fy9h4n8⟩) (by assumption) ?fr9h4n8
              case fy9h4n8 => (intro w hSw; (try dsimp only [SWc, C5] at hSw); go_simp; try with_reducible rfl)
              try simp only [Act.put, List.setIfInBounds_toArray, List.set_cons_zero, List.set_cons_succ]
              refine wpAnyH_take (i := 10) (oi := _) (v := ?fv10h4n8) (by simp only [List.getElem?_toArray, List.getElem?_cons_zero, List.getElem?_cons_succ]; rfl) (by kernel_rfl) (by kernel_rfl) (by kernel_rfl) (fun _ _ _ h => h) (Or.inl ⟨by rfl, ?fy10h4n8⟩) (by assumption) ?fr10h4n8
              case fy10h4n8 => (intro w hSw; (try dsimp only [SWc, C5] at hSw); go_simp; try with_reducible rfl)
              try simp only [Act.put, List.setIfInBounds_toArray, List.set_cons_zero, List.set_cons_succ]
              refine wpAnyH_take (i := 11) (oi := _) (v := ?fv11h4n8) (by simp only [List.getElem?_toArray, List.getElem?_cons_zero, List.getElem?_cons_succ]; rfl) (by kernel_rfl) (by kernel_rfl) (by kernel_rfl) (fun _ _ _ h => h) (Or.inl ⟨by rfl, ?fy11h4n8⟩) (by assumption) ?fr11h4n8
              case fy11h4n8 => (intro w hSw; (try dsimp only [SWc, C5] at hSw); go_simp; try with_reducible rfl)
              try simp only [Act.put, List.setIfInBounds_toArray, List.set_cons_zero, List.set_cons_succ]
              clear hS
              obtain ⟨z0, z1, z2, z3, z4⟩ := row5 HZ7.out
              obtain ⟨f0, f1, f2, f3, f4⟩ := fz5 HZ7.out
              have HZN := Lib.hid (set5 HZ7.out (.int .i64 R2.co) (.int .i64 R2.fo) (.int .i64 R2.ho) (.slice a7 n7 c7) (.slice a8 n8 c8))
              have HFN := Lib.hid (set5_fr w7 gy (.int .i64 R2.co) (.int .i64 R2.fo) (.int .i64 R2.ho) (.slice a7 n7 c7) (.slice a8 n8 c8))
              refine wpAnyH_ready (rs := [13]) (by kernel_rfl) (by simp) ?_
              refine AllReadyH.cons (o := _) rfl (fun K hK => ?_) AllReadyH.nil
              go_simp
              clear z0 z1 z2 z3 z4 f0 f1 f2 f3 f4
              generalize World.setCell (World.setCell (World.setCell (World.setCell (World.setCell w7 _ _) _ _) _ _) _ _) _ _ = W9 at HZN HFN ⊢
              have HF9 := Lib.hid (HF7.out.new HFN.out (fun x hx => by rw [List.mem_singleton.1 hx, HGY.out]; exact HFD.out.size))
              have hS9 := HSB.out W9 HF9.out
              refine hK.out _ _ hS9 (fun hHeld => ?_)
              clear hK K
              try simp only [Act.put, List.setIfInBounds_toArray, List.set_cons_zero, List.set_cons_succ]
              refine wpAnyH_take (i := 14) (oi := _) (v := ?fv14h4n9) (by simp only [List.getElem?_toArray, List.getElem?_cons_zero, List.getElem?_cons_succ]; rfl) (by kernel_rfl) (by kernel_rfl) (by kernel_rfl) (fun _ _ _ h => h) (Or.inl ⟨by rfl, ?fy14h4n9⟩) (by assumption) ?fr14h4n9
              case fy14h4n9 => (intro w hSw; (try dsimp only [SWc, C5] at hSw); go_simp; try with_reducible rfl)
              try simp only [Act.put, List.setIfInBounds_toArray, List.set_cons_zero, List.set_cons_succ]
              refine wpAnyH_done (by kernel_rfl) ?_ _
              refine NoPanic.normal ?_
              go_wp2_with fail
              go_meet
              exact ⟨gy, _, _, rfl, rfl, Lib.hid (YIn.of (S := [gy]) HZN.out HAL.out (fun p hp => by
                rcases List.mem_cons.1 hp with q | q
                · subst q; exact ⟨_, HF7.out.heap HX.out.box (by simp)⟩
                · obtain rfl := List.mem_singleton.1 q; exact ⟨_, HZ7.out⟩) HFN.out HF9.out)⟩
          case rest =>
          obtain ⟨gy, um', ue', rfl, rfl, HY⟩ := hcut
          have HY0 := Lib.hid (HY.out.al wc (Fr.refl _ _))
          obtain ⟨a7, c7, e7, _⟩ := HY0.out.1
          obtain ⟨a8, c8, e8, _⟩ := HY0.out.2
          have hs2 : Small R2 := ⟨by rw [HWS.out.ms, HX.out.ms]; have := HM.out; omega, by rw [HWS.out.len, HX.out.len]; omega, fun e he => by have := HWS.out.bs _ HX.out.few e he; omega⟩
          have WB := Lib.hid (lg_is.wants R2 um' ue' c wc HY0.out.1 HY0.out.2 hs2)
          unfold rgV at WB
          obtain ⟨n7, hn7⟩ : ∃ x, x = R2.ms.length := ⟨_, rfl⟩
          obtain ⟨n8, hn8⟩ : ∃ x, x = R2.es.length := ⟨_, rfl⟩
          rw [← hn7] at e7
          rw [← hn8] at e8
          subst e7 e8
          clear hn7 hn8 hs2 BD HSB
          obtain ⟨z0, z1, z2, z3, z4⟩ := row5 HY.out.box
          go_wp2_with fail
          with_reducible refine (WB.out).mono ?_
          rintro e w8 ⟨u, rfl, hu, hf⟩
          rw [HWS.out.wants] at hu
          obtain ⟨a9, c9, rfl, _⟩ := hu
          rw [List.length_drop, ← HNW.out]
          obtain ⟨q, hq⟩ : ∃ q, q = nw - (k + 1) := ⟨_, rfl⟩
          rw [← hq]
          have dq : ((q : Int) != (nw : Int) - (k : Int) - 1) = false := by simp; omega
          have HB8 := Lib.hid (hf.heap HY.out.box (by simp))
          have HX8 := Lib.hid ((HY.out.f.trans hf).heap HX.out.box (by simp))
          have HF8 := Lib.hid hf
          clear hq hf WB z0 z1 z2 z3 z4
          obtain ⟨z0, z1, z2, z3, z4⟩ := row5 HB8.out
          obtain ⟨x0, x1, x2, x3, x4⟩ := row5 HX8.out
          obtain ⟨f0, f1, f2, f3, f4⟩ := fz5 HX8.out
          have HZN := Lib.hid (set5 HX8.out (.int .i64 R2.co) (.int .i64 R2.fo) (.int .i64 R2.ho) (.slice a7 n7 c7) (.slice a8 n8 c8))
          have HFN := Lib.hid (set5_fr w8 g (.int .i64 R2.co) (.int .i64 R2.fo) (.int .i64 R2.ho) (.slice a7 n7 c7) (.slice a8 n8 c8))
          go_upto_region 27 with fail
          generalize World.setCell (World.setCell (World.setCell (World.setCell (World.setCell w8 _ _) _ _) _ _) _ _) _ _ = W9 at HZN HFN ⊢
          clear z0 z1 z2 z3 z4 x0 x1 x2 x3 x4 f0 f1 f2 f3 f4 dq
          have HP := Lib.hid (HY.out.al W9 ((HF8.out.mono (fun x hx => by cases hx)).trans HFN.out))
          have HXN := Lib.hid (XIn.mk HZN.out HP.out.1 HP.out.2 (HWS.out.ms.trans HX.out.ms) (HWS.out.len.trans HX.out.len) HWS.out.rise (HWS.out.bs _ HX.out.few) HWS.out.wants (((HX.out.f.trans HY.out.f).trans HF8.out).new HFN.out (fun x hx => by rw [List.mem_singleton.1 hx, HG.out]; exact Nat.le_refl _)))
          clear HWS HX HY HY0 HB8 HX8 HF8 HZN HFN HP
          go_wp2
          go_roundw
          case rel => exact ⟨k + 1, R2, _, _, by omega, by go_num, HXN⟩
          case measure => simp [intOf]; omega
        · have dl : decide ((k : Int) < (nw : Int)) = false := decide_eq_false (by omega)
          obtain ⟨pb, pd, hue, _⟩ := HX.out.he
          rw [HX.out.len] at hue
          subst hue
          obtain ⟨z0, z1, z2, z3, z4⟩ := row5 HX.out.box
          obtain ⟨y0, y1, y2, y3, y4⟩ := row5 (((HF.out.trans HX.out.f)).heap HTZ.out (by simp))
          have HFz := Lib.hid ((HF5.out.trans HF.out).trans HX.out.f)
          go_wp2
          go_ret
          exact ⟨rfl, HFz.out⟩
theorem lwants_walk (r : Rg) (vm ve : Value) (k1 : Int) (W : World) (hm : HInts W vm r.ms) (he : HE W ve r.es) (hb : -9223372036854775808 ≤ k1 ∧ k1 ≤ 9223372036854775807) :
    Calls Try.prog 3 #[rgV r vm ve, .int .i64 k1] W fun x w' => x = .returned (.bool true) ∧ W.grownBy w' none :=
  (lwants_true r vm ve k1 W hm he hb).mono fun _ _ ⟨he, hf⟩ => ⟨he, hf.grown (by simp)⟩
end Go.Proofs.Ytldheaamcnmlgaa
