/- The ledger's law of whose an entry is: walked. -/
import Derived.Test.YtldheaamcnmlgaaLgC15
import Derived.Test.YtldheaamcnmlgaaLgMine
namespace Go.Proofs.Ytldheaamcnmlgaa
open Go.RowKit Fm

theorem getD_ma (A : List En) (i : Nat) (r : Rg) (h : A = (awardR r).es) (hi : i < r.es.length) : A.getD i zeroE = awardE r.ms (r.es.getD i zeroE) := by rw [h, award_at r i hi]
/-- A ring in its box, one of its members. -/
def SMa (V : World) (g : Nat) (v0 v1 v2 v3 v4 : Value) (bm om : Nat) (x : Int) (a : World) : Prop := Fr V a [] ∧ C5 g v0 v1 v2 v3 v4 a ∧ a.cell? ⟨bm, om, none⟩ = some (.int .i64 x)
/-- .. a latch besides. -/
def SMb (V : World) (g : Nat) (v0 v1 v2 v3 v4 : Value) (bm om : Nat) (x : Int) (bl ol : Nat) (f d e : Int) (a : World) : Prop := Fr V a [] ∧ C5 g v0 v1 v2 v3 v4 a ∧ a.cell? ⟨bm, om, none⟩ = some (.int .i64 x) ∧ a.cell? ⟨bl, ol, none⟩ = some (.int .i64 f) ∧ a.cell? ⟨bl, ol + 1, none⟩ = some (.int .i64 d) ∧ a.cell? ⟨bl, ol + 2, none⟩ = some (.int .i64 e)
/-- Two rings in their boxes, whose an entry of each is. -/
def SMw (V : World) (g : Nat) (v0 v1 v2 v3 v4 : Value) (h : Nat) (t0 t1 t2 t3 t4 : Value) (b o : Nat) (x : Int) (q p : Nat) (a : World) : Prop := Fr V a [] ∧ C5 g v0 v1 v2 v3 v4 a ∧ C5 h t0 t1 t2 t3 t4 a ∧ a.cell? ⟨b, o + 4, none⟩ = some (.int .i64 x) ∧ a.cell? ⟨q, p + 4, none⟩ = some (.int .i64 x)
/-- Nothing is read. -/
def SMo (V : World) (a : World) : Prop := Fr V a []
theorem award_small {r : Rg} (h : LightR r) : Small (awardR r) := by
  refine ⟨by show r.ms.length ≤ 100; have := h.2.1; omega, by rw [award_len]; have := h.2.2.1; omega, fun e he => ?_⟩
  obtain ⟨x, hx, rfl⟩ := List.mem_map.1 he
  rw [(awardE_la r.ms x).2]
  have := h.1 x hx
  omega
theorem light_small {r : Rg} (h : LightR r) : Small r := ⟨by have := h.2.1; omega, by have := h.2.2.1; omega, fun e he => by have := h.1 e he; omega⟩
theorem award_ge {r : Rg} (h : ValR r) : ∀ e ∈ (awardR r).es, -1 ≤ e.aw := fun e he => by
  rcases award_all h e he with q | q
  · omega
  · have := h.cars _ q
    unfold Car at this
    omega
theorem cntE_le (p : En → Bool) (es : List En) : cntE p es ≤ es.length := List.length_filter_le _ _
set_option maxHeartbeats 8000000 in
set_option maxRecDepth 100000 in
theorem lmine_true (r : Rg) (vm ve : Value) (w : World) (hm : HInts w vm r.ms) (he : HE w ve r.es) :
    Calls Try.prog 6 #[rgV r vm ve] w fun e w' => e = .returned (.bool true) ∧ Fr w w' [] := by
  obtain ⟨b, hb⟩ : ∃ b, b = decide (LightR r) := ⟨_, rfl⟩
  have LI := Lib.hid (fun W (hW : Fr w W []) => light_any r vm ve b hb W (hm.keep hW) (he.keep hW))
  have AW := Lib.hid (fun W (hW : Fr w W []) (hs : Small r) => lg_is.award r vm ve W (hm.keep hW) (he.keep hW) hs)
  have AW2 := Lib.hid (fun W vm2 ve2 (hs : Small (awardR r)) (h1 : HInts W vm2 (awardR r).ms) (h2 : HE W ve2 (awardR r).es) => lg_is.award (awardR r) vm2 ve2 W h1 h2 hs)
  have MN := Lib.hid (fun W vm2 ve2 c (hs : Small (awardR r)) (hg : ∀ e ∈ (awardR r).es, -1 ≤ e.aw) (h1 : HInts W vm2 (awardR r).ms) (h2 : HE W ve2 (awardR r).es) => lg_is.mine (awardR r) vm2 ve2 c W h1 h2 hs hg)
  have HBL := Lib.hid hb
  have HAG := Lib.hid (fun (h : ValR r) => again_none h)
  have HHE := Lib.hid he
  obtain ⟨R, hR⟩ : ∃ R, R = r := ⟨_, rfl⟩
  have HRR := Lib.hid hR
  obtain ⟨co, fo, ho, ms, es⟩ := r
  dsimp only at hm he
  unfold rgV at LI AW AW2 MN
  unfold awardR at AW2 MN
  dsimp only at LI AW AW2 MN
  obtain ⟨am, cm, rfl, pm, qm, rm⟩ := hm
  obtain ⟨ae, ce, rfl, pe, qe, re⟩ := he
  unfold maxLen at qm qe
  have HLS := Lib.hid re
  obtain ⟨n, hn⟩ : ∃ n, n = es.length := ⟨_, rfl⟩
  have HN := Lib.hid hn
  obtain ⟨m, hmm⟩ : ∃ m, m = ms.length := ⟨_, rfl⟩
  have HM := Lib.hid hmm
  rw [← hn] at pe HLS HHE
  rw [← hmm] at pm
  rw [← hn, ← hmm] at LI AW
  unfold rgV
  dsimp only
  rw [← hn, ← hmm]
  clear rm re hb hR
  have HTW := Lib.hid (heap_alloc_new w (.cells #[.int .i64 co, .int .i64 fo, .int .i64 ho, .slice am m cm, .slice ae n ce] 27))
  have HF2 := Lib.hid (Fr.alloc w (.cells #[.int .i64 co, .int .i64 fo, .int .i64 ho, .slice am m cm, .slice ae n ce] 27) [])
  have FI := Lib.hid (fun W => lfirst_any lg_is W)
  clear hn hmm
  go_enter Try.func6, Try.ntmps6
  go_upto_region 1 with fail
  generalize World.alloc w _ = V at HTW HF2 ⊢
  go_wp2_with fail
  with_reducible refine (FI.out _).mono ?_
  rintro e w1 ⟨rfl, hf1⟩
  have HF3 := Lib.hid (HF2.out.trans hf1)
  have HTX := Lib.hid (hf1.heap HTW.out (by simp))
  clear hf1 FI HF2 HTW
  obtain ⟨y0, y1, y2, y3, y4⟩ := row5 HTX.out
  go_wp2_with fail
  with_reducible refine (LI.out _ HF3.out).mono ?_
  rintro e w2 ⟨rfl, hf1⟩
  have HF4 := Lib.hid (HF3.out.trans hf1)
  have HTY := Lib.hid (hf1.heap HTX.out (by simp))
  clear hf1 LI HF3 HTX y0 y1 y2 y3 y4
  cases b
  · go_wp2
    go_ret
    exact ⟨rfl, HF4.out⟩
  obtain ⟨y0, y1, y2, y3, y4⟩ := row5 HTY.out
  have HL0 : Hid (LightR ⟨co, fo, ho, ms, es⟩) := Lib.hid (of_decide_eq_true HBL.out.symm)
  have HV := Lib.hid (ring_val HL0.out.2.2.2)
  have HSM := Lib.hid (award_small HL0.out)
  have HGE := Lib.hid (award_ge HV.out)
  have hm16 : m ≤ 16 := by have := HL0.out.2.1; have := HM.out; dsimp only at *; omega
  have hn30 : n ≤ 30 := by have := HL0.out.2.2.1; have := HN.out; dsimp only at *; omega
  clear HBL
  go_wp2_with fail
  with_reducible refine (AW.out _ HF4.out (light_small HL0.out)).mono ?_
  rintro e w3 ⟨u, rfl, x, v, rfl, ⟨um, ue, rfl, hum, hue⟩, hv, hf1⟩
  have HF5 := Lib.hid (HF4.out.trans hf1)
  have HTZ := Lib.hid (hf1.heap HTY.out (by simp))
  clear hf1 AW HF4 HTY y0 y1 y2 y3 y4
  obtain ⟨A, hA⟩ : ∃ A, A = es.map (awardE ms) := ⟨_, rfl⟩
  have HA := Lib.hid hA
  have HWL := Lib.hid (won_cnt HV.out)
  unfold awardR at hum hue HSM HGE HWL HAG
  dsimp only at hum hue HSM HGE HWL HAG
  rw [← hA] at AW2 MN hue HSM HGE HWL HAG
  have hAl : A.length = n := by rw [hA, List.length_map]; exact HN.out.symm
  have hml : ms.length = m := HM.out.symm
  unfold awardR rgV
  dsimp only
  clear hA
  obtain ⟨av, cv, rfl, _⟩ := hv
  obtain ⟨wn, hwn⟩ : ∃ wn, wn = (wonR ⟨co, fo, ho, ms, es⟩).length := ⟨_, rfl⟩
  rw [← hwn] at HWL ⊢
  clear hwn
  have HUM := Lib.hid hum
  have HUE := Lib.hid hue
  obtain ⟨au, cu, rfl, pu, qu, ru⟩ := hum
  obtain ⟨aw, cw, rfl, pw, qw, rw'⟩ := hue
  have HLU := Lib.hid ru
  have HLW := Lib.hid rw'
  unfold maxLen at qu qw
  rw [hml] at pu HLU HUM ⊢
  rw [hAl] at pw HLW HUE ⊢
  clear ru rw'
  have HBX := Lib.hid (box_ring w3 (.int .i64 co) (.int .i64 fo) (.int .i64 ho) (.slice au m cu) (.slice aw n cw))
  obtain ⟨g, hg⟩ : ∃ g, g = w3.heap.size := ⟨_, rfl⟩
  have HG := Lib.hid hg
  rw [← hg] at HBX
  go_upto_region 7 with fail
  rw [← hg]
  generalize World.alloc w3 _ = W at HBX ⊢
  clear hg
  have HFW := Lib.hid (HF5.out.trans HBX.out.2)
  have HRA := Lib.hid (HBX.out.2.heap HTZ.out (by simp))
  have HRB := Lib.hid HBX.out.1
  have HUMW := Lib.hid (HUM.out.keep HBX.out.2)
  have HUEW := Lib.hid (HUE.out.keep HBX.out.2)
  have MN2 := Lib.hid (fun W' c (hW : Fr W W' []) => MN.out W' _ _ c HSM.out HGE.out (HUMW.out.keep hW) (HUEW.out.keep hW))
  have HLUW : Hid (0 < m → ∃ b off, au = some ⟨b, off, none⟩ ∧ ∀ i, i < m → W.cell? ⟨b, off + i, none⟩ = some (.int .i64 (ms.getD i 0))) := Lib.hid (fun h0 => by
    obtain ⟨b, off, h1, h2⟩ := HLU.out h0
    exact ⟨b, off, h1, fun i hi => HBX.out.2.cell (h2 i hi) (by simp)⟩)
  clear HTZ HLU MN
  have HSE : Hid (∀ V', Fr W V' [] → C5 g (.int .i64 co) (.int .i64 fo) (.int .i64 ho) (.slice au m cu) (.slice aw n cw) V') :=
    Lib.hid (fun V' hV => (show C5 _ _ _ _ _ _ W from row5 HRB.out).fr hV (by simp))
  go_wp2_with fail
  go_loopw [6, 7] (fun s6 s7 wr => ∃ i : Nat, i ≤ m ∧ s7 = .int .i64 i ∧ s6 = .int .i64 (sumM A (ms.take i)) ∧ Hid (sumM A (ms.take i) ≤ 30 * i) ∧ Hid (Fr W wr [])) (fun _ s7 _ => m - (intOf s7).toNat)
  case atStart => exact ⟨0, Nat.zero_le _, rfl, by simp [sumM], Lib.hid (by simp [sumM]), Lib.hid (Fr.refl _ _)⟩
  case round =>
    obtain ⟨i, hi, rfl, rfl, HS, HF⟩ := hrel
    obtain ⟨y0, y1, y2, y3, y4⟩ := HSE.out _ HF.out
    by_cases hlt : i < m
    · have dl : decide ((i : Int) < (m : Int)) = true := decide_eq_true (by omega)
      obtain ⟨bm, om, rfl, hcm⟩ := HLUW.out (by omega)
      have HCM := Lib.hid hcm
      obtain ⟨c, hc⟩ : ∃ c, c = ms.getD i 0 := ⟨_, rfl⟩
      have HC := Lib.hid hc
      have hcar : 0 ≤ c := by
        have := HV.out.cars c (by rw [hc]; exact getD_mem (by rw [hml]; omega) 0)
        unfold Car at this
        omega
      have hci : wr.cell? ⟨bm, om + i, none⟩ = some (.int .i64 c) := by rw [hc]; exact HF.out.cell (hcm i hlt) (by simp)
      have HSB : Hid (∀ V', Fr wr V' [] → SMa wr g (.int .i64 co) (.int .i64 fo) (.int .i64 ho) (.slice (some ⟨bm, om, none⟩) m cu) (.slice aw n cw) bm (om + i) c V') :=
        Lib.hid (fun V' hV => ⟨hV, HSE.out _ (HF.out.trans hV), hV.cell hci (by simp)⟩)
      obtain ⟨k, hk⟩ : ∃ k, k = cntE (hasAw c) A := ⟨_, rfl⟩
      have hk30 : k ≤ 30 := by rw [hk]; have := cntE_le (hasAw c) A; omega
      have HSS : Hid (sumM A (ms.take (i + 1)) = sumM A (ms.take i) + k) := by rw [hk, hc]; exact Lib.hid (sumM_take A ms i (by rw [hml]; omega))
      have HMI : Hid ((mineR ⟨co, fo, ho, ms, A⟩ c).length = k) := by rw [hk]; exact Lib.hid (mine_len _ hcar)
      clear hcm hc hk
      go_upto_region 11 with fail
      clear y0 y1 y2 y3 y4 hci
      refine wp_region_noPanic ?_
      refine wp_region_held_drew (S := (SMa wr g (.int .i64 co) (.int .i64 fo) (.int .i64 ho) (.slice (some ⟨bm, om, none⟩) m cu) (.slice aw n cw) bm (om + i) c)) (by kernel_rfl) (HSB.out _ (Fr.drew wr [])) (fun hHeld => ?_)
      refine wpAnyH_take (i := 0) (oi := _) (v := ?fv0h1n2) (by simp only [List.getElem?_toArray, List.getElem?_cons_zero]; rfl) (by kernel_rfl) (by kernel_rfl) (by kernel_rfl) (fun _ _ _ h => h) (Or.inl ⟨by rfl, ?fy0h1n2⟩) (by assumption) ?fr0h1n2
      case fy0h1n2 => (intro w hSw; (try dsimp only [SMa, C5] at hSw); go_simp; try with_reducible rfl)
      try simp only [Act.put, List.setIfInBounds_toArray, List.set_cons_zero, List.set_cons_succ]
      refine wpAnyH_take (i := 1) (oi := _) (v := ?fv1h1n2) (by simp only [List.getElem?_toArray, List.getElem?_cons_zero, List.getElem?_cons_succ]; rfl) (by kernel_rfl) (by kernel_rfl) (by kernel_rfl) (fun _ _ _ h => h) (Or.inl ⟨by rfl, ?fy1h1n2⟩) (by assumption) ?fr1h1n2
      case fy1h1n2 => (intro w hSw; (try dsimp only [SMa, C5] at hSw); go_simp; try with_reducible rfl)
      try simp only [Act.put, List.setIfInBounds_toArray, List.set_cons_zero, List.set_cons_succ]
      refine wpAnyH_take (i := 2) (oi := _) (v := ?fv2h1n2) (by simp only [List.getElem?_toArray, List.getElem?_cons_zero, List.getElem?_cons_succ]; rfl) (by kernel_rfl) (by kernel_rfl) (by kernel_rfl) (fun _ _ _ h => h) (Or.inl ⟨by rfl, ?fy2h1n2⟩) (by assumption) ?fr2h1n2
      case fy2h1n2 => (intro w hSw; (try dsimp only [SMa, C5] at hSw); go_simp; try with_reducible rfl)
      try simp only [Act.put, List.setIfInBounds_toArray, List.set_cons_zero, List.set_cons_succ]
      refine wpAnyH_take (i := 3) (oi := _) (v := ?fv3h1n2) (by simp only [List.getElem?_toArray, List.getElem?_cons_zero, List.getElem?_cons_succ]; rfl) (by kernel_rfl) (by kernel_rfl) (by kernel_rfl) (fun _ _ _ h => h) (Or.inl ⟨by rfl, ?fy3h1n2⟩) (by assumption) ?fr3h1n2
      case fy3h1n2 => (intro w hSw; (try dsimp only [SMa, C5] at hSw); go_simp; try with_reducible rfl)
      try simp only [Act.put, List.setIfInBounds_toArray, List.set_cons_zero, List.set_cons_succ]
      refine wpAnyH_take (i := 4) (oi := _) (v := ?fv4h1n2) (by simp only [List.getElem?_toArray, List.getElem?_cons_zero, List.getElem?_cons_succ]; rfl) (by kernel_rfl) (by kernel_rfl) (by kernel_rfl) (fun _ _ _ h => h) (Or.inl ⟨by rfl, ?fy4h1n2⟩) (by assumption) ?fr4h1n2
      case fy4h1n2 => (intro w hSw; (try dsimp only [SMa, C5] at hSw); go_simp; try with_reducible rfl)
      try simp only [Act.put, List.setIfInBounds_toArray, List.set_cons_zero, List.set_cons_succ]
      refine wpAnyH_take (i := 5) (oi := _) (v := ?fv5h1n2) (by simp only [List.getElem?_toArray, List.getElem?_cons_zero, List.getElem?_cons_succ]; rfl) (by kernel_rfl) (by kernel_rfl) (by kernel_rfl) (fun _ _ _ h => h) (Or.inl ⟨by rfl, ?fy5h1n2⟩) (by assumption) ?fr5h1n2
      case fy5h1n2 => (intro w hSw; (try dsimp only [SMa, C5] at hSw); go_simp; try with_reducible rfl)
      try simp only [Act.put, List.setIfInBounds_toArray, List.set_cons_zero, List.set_cons_succ]
      refine wpAnyH_ready (rs := [6]) (by kernel_rfl) (by simp) ?_
      refine AllReadyH.cons (o := _) rfl (fun K hK => ?_) AllReadyH.nil
      go_simp
      ((with_reducible refine (MN2.out _ c (HF.out.trans (Fr.drew wr []))).mono ?_); rintro e w4 ⟨u, rfl, hu, hf⟩; have HL := Lib.hid hu; obtain ⟨al, cl, rfl, _, _, rl⟩ := hu; rw [HMI.out] at HL rl ⊢; have HLL := Lib.hid rl; clear rl; have HF6 := Lib.hid ((Fr.drew wr []).trans hf); have hS := HSB.out _ HF6.out; clear hf)
      go_wp2_with fail
      refine hK.out _ _ hS (fun hHeld => ?_)
      clear hK K
      try simp only [Act.put, List.setIfInBounds_toArray, List.set_cons_zero, List.set_cons_succ]
      refine wpAnyH_take (i := 7) (oi := _) (v := ?fv7h1n3) (by simp only [List.getElem?_toArray, List.getElem?_cons_zero, List.getElem?_cons_succ]; rfl) (by kernel_rfl) (by kernel_rfl) (by kernel_rfl) (fun _ _ _ h => h) (Or.inl ⟨by rfl, ?fy7h1n3⟩) (by assumption) ?fr7h1n3
      case fy7h1n3 => (intro w hSw; (try dsimp only [SMa, C5] at hSw); go_simp; try with_reducible rfl)
      try simp only [Act.put, List.setIfInBounds_toArray, List.set_cons_zero, List.set_cons_succ]
      refine wpAnyH_done (by kernel_rfl) ?_ _
      refine NoPanic.normal ?_
      clear hHeld hS
      have hs1 : sumM A (ms.take i) ≤ 480 := by have := HS.out; omega
      obtain ⟨S, hS⟩ : ∃ S, S = sumM A (ms.take i) := ⟨_, rfl⟩
      rw [← hS] at HSS hs1 HS ⊢
      have ew : IntKind.i64.wrap ((S : Int) + (k : Int)) = (S : Int) + (k : Int) := IntWalk.i64_in _ (by omega)
      clear hS
      have HF7 := Lib.hid (HF.out.trans HF6.out)
      clear HF HF6 HSB
      go_wp2_with fail
      go_loopw [9] (fun s9 wx => ∃ j : Nat, j ≤ k ∧ s9 = .int .i64 j ∧ Hid (Fr w4 wx [])) (fun s9 _ => k - (intOf s9).toNat)
      case atStart => exact ⟨0, Nat.zero_le _, rfl, Lib.hid (Fr.refl _ _)⟩
      case round =>
        obtain ⟨j, hj, rfl, HFj⟩ := hrel
        by_cases hlt2 : j < k
        · have dl2 : decide ((j : Int) < (k : Int)) = true := decide_eq_true (by omega)
          obtain ⟨bl, ol, rfl, hcl⟩ := HLL.out (by omega)
          obtain ⟨t0, t1, t2⟩ := hcl j hlt2
          obtain ⟨x, hx⟩ : ∃ x, x = (mineR ⟨co, fo, ho, ms, A⟩ c).getD j zLa := ⟨_, rfl⟩
          rw [← hx] at t0 t1 t2
          have HNO : Hid (∀ l, l < m → l ≠ i → false = decide (x ∈ mineR ⟨co, fo, ho, ms, A⟩ (ms.getD l 0))) := Lib.hid (fun l hl hne => by
            refine (decide_eq_false ?_).symm
            have hcl : 0 ≤ ms.getD l 0 := by
              have := HV.out.cars (ms.getD l 0) (getD_mem (by rw [hml]; omega) 0)
              unfold Car at this
              omega
            have hmem : x ∈ mineR ⟨co, fo, ho, ms, A⟩ c := by rw [hx]; exact getD_mem (by rw [HMI.out]; omega) zLa
            have hne2 : c ≠ ms.getD l 0 := by
              rw [HC.out]
              intro q
              have hp := HV.out.mrise
              have h1 : i < ms.length := by rw [hml]; omega
              have h2 : l < ms.length := by rw [hml]; omega
              simp only [List.getD_eq_getElem?_getD, List.getElem?_eq_getElem h1, List.getElem?_eq_getElem h2, Option.getD_some] at q
              rcases Nat.lt_or_gt_of_ne hne with q2 | q2
              · have := List.pairwise_iff_getElem.1 hp l i h2 h1 q2
                dsimp only at this
                omega
              · have := List.pairwise_iff_getElem.1 hp i l h1 h2 q2
                dsimp only at this
                omega
            have := mine_apart HV.out hcar hcl hne2 (l := x) (by unfold awardR; dsimp only; rw [← HA.out]; exact hmem)
            unfold awardR at this
            dsimp only at this
            rw [← HA.out] at this
            exact this)
          obtain ⟨xf, hxf⟩ : ∃ y, y = x.f := ⟨_, rfl⟩
          obtain ⟨xd, hxd⟩ : ∃ y, y = x.d := ⟨_, rfl⟩
          obtain ⟨xg, hxg⟩ : ∃ y, y = x.g := ⟨_, rfl⟩
          have HXX : Hid (x = ⟨xf, xd, xg⟩) := Lib.hid (by rw [hxf, hxd, hxg])
          rw [← hxf] at t0
          rw [← hxd] at t1
          rw [← hxg] at t2
          have HT0 := Lib.hid t0
          have HT1 := Lib.hid t1
          have HT2 := Lib.hid t2
          clear hx hxf hxd hxg t0 t1 t2 hcl
          go_wp2_with fail
          go_loopw [10] (fun s10 wx => ∃ l : Nat, l ≤ m ∧ s10 = .int .i64 l ∧ Hid (Fr w4 wx [])) (fun s10 _ => m - (intOf s10).toNat)
          case atStart => exact ⟨0, Nat.zero_le _, rfl, HFj⟩
          case round =>
            obtain ⟨l, hl, rfl, HFl⟩ := hrel
            obtain ⟨y0, y1, y2, y3, y4⟩ := HSE.out _ (HF7.out.trans HFl.out)
            by_cases hlt3 : l < m
            · have dl3 : decide ((l : Int) < (m : Int)) = true := decide_eq_true (by omega)
              by_cases hli : l = i
              · subst hli
                go_upto_region 19 with fail
                clear y0 y1 y2 y3 y4
                refine wp_region_noPanic ?_
                refine wp_region_held_drew (S := (SMo wr)) (by kernel_rfl) (Fr.drew wr []) (fun hHeld => ?_)
                refine wpAnyH_take (i := 0) (oi := _) (v := ?fv0h4n5) (by simp only [List.getElem?_toArray, List.getElem?_cons_zero]; rfl) (by kernel_rfl) (by kernel_rfl) (by kernel_rfl) (fun _ _ _ h => h) (Or.inl ⟨by rfl, ?fy0h4n5⟩) (by assumption) ?fr0h4n5
                case fy0h4n5 => (intro w hSw; (try dsimp only [SMo] at hSw); go_simp; try with_reducible rfl)
                try simp only [Act.put, List.setIfInBounds_toArray, List.set_cons_zero, List.set_cons_succ]
                refine wpAnyH_take (i := 1) (oi := _) (v := ?fv1h4n5) (by simp only [List.getElem?_toArray, List.getElem?_cons_zero, List.getElem?_cons_succ]; rfl) (by kernel_rfl) (by kernel_rfl) (by kernel_rfl) (fun _ _ _ h => h) (Or.inl ⟨by rfl, ?fy1h4n5⟩) (by assumption) ?fr1h4n5
                case fy1h4n5 => (intro w hSw; (try dsimp only [SMo] at hSw); go_simp; try with_reducible rfl)
                try simp only [Act.put, List.setIfInBounds_toArray, List.set_cons_zero, List.set_cons_succ]
                refine wpAnyH_take (i := 2) (oi := _) (v := ?fv2h4n5) (by simp only [List.getElem?_toArray, List.getElem?_cons_zero, List.getElem?_cons_succ]; rfl) (by kernel_rfl) (by kernel_rfl) (by kernel_rfl) (fun _ _ _ h => h) (Or.inl ⟨by rfl, ?fy2h4n5⟩) (by assumption) ?fr2h4n5
                case fy2h4n5 => (intro w hSw; (try dsimp only [SMo] at hSw); go_simp; try with_reducible rfl)
                try simp only [Act.put, List.setIfInBounds_toArray, List.set_cons_zero, List.set_cons_succ]
                refine wpAnyH_take (i := 3) (oi := _) (v := ?fv3h4n5) (by simp only [List.getElem?_toArray, List.getElem?_cons_zero, List.getElem?_cons_succ]; rfl) (by kernel_rfl) (by kernel_rfl) (by kernel_rfl) (fun _ _ _ h => h) (Or.inl ⟨by rfl, ?fy3h4n5⟩) (by assumption) ?fr3h4n5
                case fy3h4n5 => (intro w hSw; (try dsimp only [SMo] at hSw); go_simp; try with_reducible rfl)
                try simp only [Act.put, List.setIfInBounds_toArray, List.set_cons_zero, List.set_cons_succ]
                refine wpAnyH_take (i := 4) (oi := _) (v := undef) (by simp only [List.getElem?_toArray, List.getElem?_cons_zero, List.getElem?_cons_succ]; rfl) (by kernel_rfl) (by kernel_rfl) (by kernel_rfl) (fun _ _ _ h => h) (Or.inr ⟨by rfl, rfl⟩) (by assumption) ?_
                try simp only [Act.put, List.setIfInBounds_toArray, List.set_cons_zero, List.set_cons_succ]
                refine wpAnyH_take (i := 5) (oi := _) (v := undef) (by simp only [List.getElem?_toArray, List.getElem?_cons_zero, List.getElem?_cons_succ]; rfl) (by kernel_rfl) (by kernel_rfl) (by kernel_rfl) (fun _ _ _ h => h) (Or.inr ⟨by rfl, rfl⟩) (by assumption) ?_
                try simp only [Act.put, List.setIfInBounds_toArray, List.set_cons_zero, List.set_cons_succ]
                refine wpAnyH_take (i := 6) (oi := _) (v := undef) (by simp only [List.getElem?_toArray, List.getElem?_cons_zero, List.getElem?_cons_succ]; rfl) (by kernel_rfl) (by kernel_rfl) (by kernel_rfl) (fun _ _ _ h => h) (Or.inr ⟨by rfl, rfl⟩) (by assumption) ?_
                try simp only [Act.put, List.setIfInBounds_toArray, List.set_cons_zero, List.set_cons_succ]
                refine wpAnyH_take (i := 7) (oi := _) (v := undef) (by simp only [List.getElem?_toArray, List.getElem?_cons_zero, List.getElem?_cons_succ]; rfl) (by kernel_rfl) (by kernel_rfl) (by kernel_rfl) (fun _ _ _ h => h) (Or.inr ⟨by rfl, rfl⟩) (by assumption) ?_
                try simp only [Act.put, List.setIfInBounds_toArray, List.set_cons_zero, List.set_cons_succ]
                refine wpAnyH_take (i := 8) (oi := _) (v := undef) (by simp only [List.getElem?_toArray, List.getElem?_cons_zero, List.getElem?_cons_succ]; rfl) (by kernel_rfl) (by kernel_rfl) (by kernel_rfl) (fun _ _ _ h => h) (Or.inr ⟨by rfl, rfl⟩) (by assumption) ?_
                try simp only [Act.put, List.setIfInBounds_toArray, List.set_cons_zero, List.set_cons_succ]
                refine wpAnyH_take (i := 9) (oi := _) (v := undef) (by simp only [List.getElem?_toArray, List.getElem?_cons_zero, List.getElem?_cons_succ]; rfl) (by kernel_rfl) (by kernel_rfl) (by kernel_rfl) (fun _ _ _ h => h) (Or.inr ⟨by rfl, rfl⟩) (by assumption) ?_
                try simp only [Act.put, List.setIfInBounds_toArray, List.set_cons_zero, List.set_cons_succ]
                refine wpAnyH_take (i := 10) (oi := _) (v := undef) (by simp only [List.getElem?_toArray, List.getElem?_cons_zero, List.getElem?_cons_succ]; rfl) (by kernel_rfl) (by kernel_rfl) (by kernel_rfl) (fun _ _ _ h => h) (Or.inr ⟨by rfl, rfl⟩) (by assumption) ?_
                try simp only [Act.put, List.setIfInBounds_toArray, List.set_cons_zero, List.set_cons_succ]
                refine wpAnyH_take (i := 11) (oi := _) (v := undef) (by simp only [List.getElem?_toArray, List.getElem?_cons_zero, List.getElem?_cons_succ]; rfl) (by kernel_rfl) (by kernel_rfl) (by kernel_rfl) (fun _ _ _ h => h) (Or.inr ⟨by rfl, rfl⟩) (by assumption) ?_
                try simp only [Act.put, List.setIfInBounds_toArray, List.set_cons_zero, List.set_cons_succ]
                refine wpAnyH_take (i := 12) (oi := _) (v := undef) (by simp only [List.getElem?_toArray, List.getElem?_cons_zero, List.getElem?_cons_succ]; rfl) (by kernel_rfl) (by kernel_rfl) (by kernel_rfl) (fun _ _ _ h => h) (Or.inr ⟨by rfl, rfl⟩) (by assumption) ?_
                try simp only [Act.put, List.setIfInBounds_toArray, List.set_cons_zero, List.set_cons_succ]
                refine wpAnyH_take (i := 13) (oi := _) (v := undef) (by simp only [List.getElem?_toArray, List.getElem?_cons_zero, List.getElem?_cons_succ]; rfl) (by kernel_rfl) (by kernel_rfl) (by kernel_rfl) (fun _ _ _ h => h) (Or.inr ⟨by rfl, rfl⟩) (by assumption) ?_
                try simp only [Act.put, List.setIfInBounds_toArray, List.set_cons_zero, List.set_cons_succ]
                refine wpAnyH_take (i := 14) (oi := _) (v := undef) (by simp only [List.getElem?_toArray, List.getElem?_cons_zero, List.getElem?_cons_succ]; rfl) (by kernel_rfl) (by kernel_rfl) (by kernel_rfl) (fun _ _ _ h => h) (Or.inr ⟨by rfl, rfl⟩) (by assumption) ?_
                try simp only [Act.put, List.setIfInBounds_toArray, List.set_cons_zero, List.set_cons_succ]
                refine wpAnyH_take (i := 15) (oi := _) (v := undef) (by simp only [List.getElem?_toArray, List.getElem?_cons_zero, List.getElem?_cons_succ]; rfl) (by kernel_rfl) (by kernel_rfl) (by kernel_rfl) (fun _ _ _ h => h) (Or.inr ⟨by rfl, rfl⟩) (by assumption) ?_
                try simp only [Act.put, List.setIfInBounds_toArray, List.set_cons_zero, List.set_cons_succ]
                refine wpAnyH_take (i := 16) (oi := _) (v := ?fv16h4n5) (by simp only [List.getElem?_toArray, List.getElem?_cons_zero, List.getElem?_cons_succ]; rfl) (by kernel_rfl) (by kernel_rfl) (by kernel_rfl) (fun _ _ _ h => h) (Or.inl ⟨by rfl, ?fy16h4n5⟩) (by assumption) ?fr16h4n5
                case fy16h4n5 => (intro w hSw; (try dsimp only [SMo] at hSw); go_simp; try with_reducible rfl)
                try simp only [Act.put, List.setIfInBounds_toArray, List.set_cons_zero, List.set_cons_succ]
                refine wpAnyH_done (by kernel_rfl) ?_ _
                refine NoPanic.normal ?_
                have HFn := Lib.hid (HFl.out.trans hHeld)
                clear hHeld
                go_wp2
                go_roundw
                case rel => exact ⟨l + 1, by omega, by go_num, HFn⟩
                case measure => simp [intOf]; omega
              · have dn : ((l : Int) != (i : Int)) = true := by simp; omega
                obtain ⟨c', hc'⟩ : ∃ c', c' = ms.getD l 0 := ⟨_, rfl⟩
                have HN2 := Lib.hid (HNO.out l hlt3 hli)
                rw [← hc', HXX.out] at HN2
                have hci : wr.cell? ⟨bm, om + l, none⟩ = some (.int .i64 c') := by rw [hc']; exact (HF7.out.trans HFl.out).cell (HCM.out l hlt3) (by simp)
                have HSB : Hid (∀ V', Fr wr V' [] → SMb wr g (.int .i64 co) (.int .i64 fo) (.int .i64 ho) (.slice (some ⟨bm, om, none⟩) m cu) (.slice aw n cw) bm (om + l) c' bl (ol + j * 3) xf xd xg V') :=
                  Lib.hid (fun V' hV => ⟨hV, HSE.out _ ((HF7.out.trans HFl.out).trans hV), hV.cell hci (by simp), (HFl.out.trans hV).cell HT0.out (by simp), (HFl.out.trans hV).cell HT1.out (by simp), (HFl.out.trans hV).cell HT2.out (by simp)⟩)
                clear hc'
                go_upto_region 19 with fail
                clear y0 y1 y2 y3 y4 hci
                refine wp_region_noPanic ?_
                refine wp_region_held_drew (S := (SMb wr g (.int .i64 co) (.int .i64 fo) (.int .i64 ho) (.slice (some ⟨bm, om, none⟩) m cu) (.slice aw n cw) bm (om + l) c' bl (ol + j * 3) xf xd xg)) (by kernel_rfl) (HSB.out _ (Fr.drew wr [])) (fun hHeld => ?_)
                refine wpAnyH_take (i := 0) (oi := _) (v := ?fv0h6n7) (by simp only [List.getElem?_toArray, List.getElem?_cons_zero]; rfl) (by kernel_rfl) (by kernel_rfl) (by kernel_rfl) (fun _ _ _ h => h) (Or.inl ⟨by rfl, ?fy0h6n7⟩) (by assumption) ?fr0h6n7
                case fy0h6n7 => (intro w hSw; (try dsimp only [SMb, C5] at hSw); go_simp; try with_reducible rfl)
                try simp only [Act.put, List.setIfInBounds_toArray, List.set_cons_zero, List.set_cons_succ]
                refine wpAnyH_take (i := 1) (oi := _) (v := ?fv1h6n7) (by simp only [List.getElem?_toArray, List.getElem?_cons_zero, List.getElem?_cons_succ]; rfl) (by kernel_rfl) (by kernel_rfl) (by kernel_rfl) (fun _ _ _ h => h) (Or.inl ⟨by rfl, ?fy1h6n7⟩) (by assumption) ?fr1h6n7
                case fy1h6n7 => (intro w hSw; (try dsimp only [SMb, C5] at hSw); go_simp; try with_reducible rfl)
                try simp only [Act.put, List.setIfInBounds_toArray, List.set_cons_zero, List.set_cons_succ]
                refine wpAnyH_take (i := 2) (oi := _) (v := ?fv2h6n7) (by simp only [List.getElem?_toArray, List.getElem?_cons_zero, List.getElem?_cons_succ]; rfl) (by kernel_rfl) (by kernel_rfl) (by kernel_rfl) (fun _ _ _ h => h) (Or.inl ⟨by rfl, ?fy2h6n7⟩) (by assumption) ?fr2h6n7
                case fy2h6n7 => (intro w hSw; (try dsimp only [SMb, C5] at hSw); go_simp; try with_reducible rfl)
                try simp only [Act.put, List.setIfInBounds_toArray, List.set_cons_zero, List.set_cons_succ]
                refine wpAnyH_take (i := 3) (oi := _) (v := ?fv3h6n7) (by simp only [List.getElem?_toArray, List.getElem?_cons_zero, List.getElem?_cons_succ]; rfl) (by kernel_rfl) (by kernel_rfl) (by kernel_rfl) (fun _ _ _ h => h) (Or.inl ⟨by rfl, ?fy3h6n7⟩) (by assumption) ?fr3h6n7
                case fy3h6n7 => (intro w hSw; (try dsimp only [SMb, C5] at hSw); go_simp; try with_reducible rfl)
                try simp only [Act.put, List.setIfInBounds_toArray, List.set_cons_zero, List.set_cons_succ]
                refine wpAnyH_take (i := 4) (oi := _) (v := ?fv4h6n7) (by simp only [List.getElem?_toArray, List.getElem?_cons_zero, List.getElem?_cons_succ]; rfl) (by kernel_rfl) (by kernel_rfl) (by kernel_rfl) (fun _ _ _ h => h) (Or.inl ⟨by rfl, ?fy4h6n7⟩) (by assumption) ?fr4h6n7
                case fy4h6n7 => (intro w hSw; (try dsimp only [SMb, C5] at hSw); go_simp; try with_reducible rfl)
                try simp only [Act.put, List.setIfInBounds_toArray, List.set_cons_zero, List.set_cons_succ]
                refine wpAnyH_take (i := 5) (oi := _) (v := ?fv5h6n7) (by simp only [List.getElem?_toArray, List.getElem?_cons_zero, List.getElem?_cons_succ]; rfl) (by kernel_rfl) (by kernel_rfl) (by kernel_rfl) (fun _ _ _ h => h) (Or.inl ⟨by rfl, ?fy5h6n7⟩) (by assumption) ?fr5h6n7
                case fy5h6n7 => (intro w hSw; (try dsimp only [SMb, C5] at hSw); go_simp; try with_reducible rfl)
                try simp only [Act.put, List.setIfInBounds_toArray, List.set_cons_zero, List.set_cons_succ]
                refine wpAnyH_take (i := 6) (oi := _) (v := ?fv6h6n7) (by simp only [List.getElem?_toArray, List.getElem?_cons_zero, List.getElem?_cons_succ]; rfl) (by kernel_rfl) (by kernel_rfl) (by kernel_rfl) (fun _ _ _ h => h) (Or.inl ⟨by rfl, ?fy6h6n7⟩) (by assumption) ?fr6h6n7
                case fy6h6n7 => (intro w hSw; (try dsimp only [SMb, C5] at hSw); go_simp; try with_reducible rfl)
                try simp only [Act.put, List.setIfInBounds_toArray, List.set_cons_zero, List.set_cons_succ]
                refine wpAnyH_take (i := 7) (oi := _) (v := ?fv7h6n7) (by simp only [List.getElem?_toArray, List.getElem?_cons_zero, List.getElem?_cons_succ]; rfl) (by kernel_rfl) (by kernel_rfl) (by kernel_rfl) (fun _ _ _ h => h) (Or.inl ⟨by rfl, ?fy7h6n7⟩) (by assumption) ?fr7h6n7
                case fy7h6n7 => (intro w hSw; (try dsimp only [SMb, C5] at hSw); go_simp; try with_reducible rfl)
                try simp only [Act.put, List.setIfInBounds_toArray, List.set_cons_zero, List.set_cons_succ]
                refine wpAnyH_take (i := 8) (oi := _) (v := ?fv8h6n7) (by simp only [List.getElem?_toArray, List.getElem?_cons_zero, List.getElem?_cons_succ]; rfl) (by kernel_rfl) (by kernel_rfl) (by kernel_rfl) (fun _ _ _ h => h) (Or.inl ⟨by rfl, ?fy8h6n7⟩) (by assumption) ?fr8h6n7
                case fy8h6n7 => (intro w hSw; (try dsimp only [SMb, C5] at hSw); go_simp; try with_reducible rfl)
                try simp only [Act.put, List.setIfInBounds_toArray, List.set_cons_zero, List.set_cons_succ]
                refine wpAnyH_take (i := 9) (oi := _) (v := ?fv9h6n7) (by simp only [List.getElem?_toArray, List.getElem?_cons_zero, List.getElem?_cons_succ]; rfl) (by kernel_rfl) (by kernel_rfl) (by kernel_rfl) (fun _ _ _ h => h) (Or.inl ⟨by rfl, ?fy9h6n7⟩) (by assumption) ?fr9h6n7
                case fy9h6n7 => (intro w hSw; (try dsimp only [SMb, C5] at hSw); go_simp; try with_reducible rfl)
                try simp only [Act.put, List.setIfInBounds_toArray, List.set_cons_zero, List.set_cons_succ]
                refine wpAnyH_take (i := 11) (oi := _) (v := ?fv11h6n7) (by simp only [List.getElem?_toArray, List.getElem?_cons_zero, List.getElem?_cons_succ]; rfl) (by kernel_rfl) (by kernel_rfl) (by kernel_rfl) (fun _ _ _ h => h) (Or.inl ⟨by rfl, ?fy11h6n7⟩) (by assumption) ?fr11h6n7
                case fy11h6n7 => (intro w hSw; (try dsimp only [SMb, C5] at hSw); go_simp; try with_reducible rfl)
                try simp only [Act.put, List.setIfInBounds_toArray, List.set_cons_zero, List.set_cons_succ]
                refine wpAnyH_take (i := 12) (oi := _) (v := ?fv12h6n7) (by simp only [List.getElem?_toArray, List.getElem?_cons_zero, List.getElem?_cons_succ]; rfl) (by kernel_rfl) (by kernel_rfl) (by kernel_rfl) (fun _ _ _ h => h) (Or.inl ⟨by rfl, ?fy12h6n7⟩) (by assumption) ?fr12h6n7
                case fy12h6n7 => (intro w hSw; (try dsimp only [SMb, C5] at hSw); go_simp; try with_reducible rfl)
                try simp only [Act.put, List.setIfInBounds_toArray, List.set_cons_zero, List.set_cons_succ]
                refine wpAnyH_take (i := 13) (oi := _) (v := ?fv13h6n7) (by simp only [List.getElem?_toArray, List.getElem?_cons_zero, List.getElem?_cons_succ]; rfl) (by kernel_rfl) (by kernel_rfl) (by kernel_rfl) (fun _ _ _ h => h) (Or.inl ⟨by rfl, ?fy13h6n7⟩) (by assumption) ?fr13h6n7
                case fy13h6n7 => (intro w hSw; (try dsimp only [SMb, C5] at hSw); go_simp; try with_reducible rfl)
                try simp only [Act.put, List.setIfInBounds_toArray, List.set_cons_zero, List.set_cons_succ]
                refine wpAnyH_take (i := 14) (oi := _) (v := ?fv14h6n7) (by simp only [List.getElem?_toArray, List.getElem?_cons_zero, List.getElem?_cons_succ]; rfl) (by kernel_rfl) (by kernel_rfl) (by kernel_rfl) (fun _ _ _ h => h) (Or.inl ⟨by rfl, ?fy14h6n7⟩) (by assumption) ?fr14h6n7
                case fy14h6n7 => (intro w hSw; (try dsimp only [SMb, C5] at hSw); go_simp; try with_reducible rfl)
                try simp only [Act.put, List.setIfInBounds_toArray, List.set_cons_zero, List.set_cons_succ]
                refine wpAnyH_ready (rs := [10]) (by kernel_rfl) (by simp) ?_
                refine AllReadyH.cons (o := _) rfl (fun K hK => ?_) AllReadyH.nil
                go_simp
                ((with_reducible refine (MN2.out _ c' ((HF7.out.trans HFl.out).trans (Fr.drew wr []))).mono ?_); rintro e w5 ⟨u, rfl, hu, hf⟩; have HL2 := Lib.hid hu; have HF8 := Lib.hid ((Fr.drew wr []).trans hf); have hS := HSB.out _ HF8.out; clear hf hu)
                go_wp2_with fail
                refine hK.out _ _ hS (fun hHeld => ?_)
                clear hK K
                try simp only [Act.put, List.setIfInBounds_toArray, List.set_cons_zero, List.set_cons_succ]
                refine wpAnyH_ready (rs := [15]) (by kernel_rfl) (by simp) ?_
                refine AllReadyH.cons (o := _) rfl (fun K hK => ?_) AllReadyH.nil
                go_simp
                ((with_reducible refine (hasLatch_any u _ ⟨xf, xd, xg⟩ _ HL2.out false HN2.out).mono ?_); rintro e w6 ⟨rfl, hf⟩; have HF9 := Lib.hid (HF8.out.trans hf); have hS := HSB.out _ HF9.out; clear hf)
                go_wp2_with fail
                refine hK.out _ _ hS (fun hHeld => ?_)
                clear hK K
                try simp only [Act.put, List.setIfInBounds_toArray, List.set_cons_zero, List.set_cons_succ]
                refine wpAnyH_take (i := 16) (oi := _) (v := ?fv16h6n8) (by simp only [List.getElem?_toArray, List.getElem?_cons_zero, List.getElem?_cons_succ]; rfl) (by kernel_rfl) (by kernel_rfl) (by kernel_rfl) (fun _ _ _ h => h) (Or.inl ⟨by rfl, ?fy16h6n8⟩) (by assumption) ?fr16h6n8
                case fy16h6n8 => (intro w hSw; (try dsimp only [SMb, C5] at hSw); go_simp; try with_reducible rfl)
                try simp only [Act.put, List.setIfInBounds_toArray, List.set_cons_zero, List.set_cons_succ]
                refine wpAnyH_done (by kernel_rfl) ?_ _
                refine NoPanic.normal ?_
                have HFn := Lib.hid (HFl.out.trans HF9.out)
                clear hHeld hS HSB HL2 HF8 HF9
                go_wp2
                go_roundw
                case rel => exact ⟨l + 1, by omega, by go_num, HFn⟩
                case measure => simp [intOf]; omega
            · have dl3 : decide ((l : Int) < (m : Int)) = false := decide_eq_false (by omega)
              go_wp2
              go_roundw
              case rel => exact ⟨j + 1, by omega, by go_num, HFl⟩
              case measure => simp [intOf]; omega
        · have dl2 : decide ((j : Int) < (k : Int)) = false := decide_eq_false (by omega)
          have HFn := Lib.hid (HF7.out.trans HFj.out)
          have HSN : Hid (sumM A (ms.take (i + 1)) ≤ 30 * (i + 1)) := by have := HS.out; rw [HSS.out]; exact Lib.hid (by omega)
          go_wp2
          go_roundw
          case rel => exact ⟨i + 1, by omega, by go_num, by rw [HSS.out]; simp, HSN, HFn⟩
          case measure => simp [intOf]; omega
    · have dl : decide ((i : Int) < (m : Int)) = false := decide_eq_false (by omega)
      obtain rfl : i = m := by omega
      obtain ⟨P, hP⟩ : ∃ P, P = sumM A (ms.take i) := ⟨_, rfl⟩
      have HPA : Hid (cntE isAw A = P) := by
        rw [hP, ← hml, List.take_length]
        have := sum_is HV.out.mrise HV.out.cars (es := A) (by
          have := award_all HV.out
          unfold awardR at this
          dsimp only at this
          rw [← HA.out] at this
          exact this)
        exact Lib.hid this.symm
      have hP30 : P ≤ 30 := by have := cntE_le isAw A; have := HPA.out; omega
      rw [← hP]
      have HLWW := Lib.hid HLW.out
      obtain ⟨z0, z1, z2, z3, z4⟩ := row5 (HF.out.heap HRA.out (by simp))
      clear hP HS
      go_wp2_with fail
      clear y0 y1 y2 y3 y4 z0 z1 z2 z3 z4
      go_loopw [11, 12, 13] (fun s11 s12 s13 wx => ∃ i : Nat, i ≤ n ∧ s13 = .int .i64 i ∧ s11 = .int .i64 (cntE isAw (A.take i)) ∧ s12 = .int .i64 (cntE isAw (es.take i)) ∧ Hid (Fr W wx [])) (fun _ _ s13 _ => n - (intOf s13).toNat)
      case atStart => exact ⟨0, Nat.zero_le _, rfl, rfl, rfl, HF⟩
      case round =>
        obtain ⟨l, hl, rfl, rfl, rfl, HFl⟩ := hrel
        obtain ⟨y0, y1, y2, y3, y4⟩ := HSE.out _ HFl.out
        obtain ⟨z0, z1, z2, z3, z4⟩ := row5 (HFl.out.heap HRA.out (by simp))
        by_cases hlt2 : l < n
        · have dl2 : decide ((l : Int) < (n : Int)) = true := decide_eq_true (by omega)
          obtain ⟨bl, ol, rfl, hc⟩ := HLW.out (by omega)
          obtain ⟨_, _, _, _, _, c4, _⟩ := hc l hlt2
          obtain ⟨bk, ok, rfl, hd⟩ := HLS.out (by omega)
          obtain ⟨_, _, _, _, _, d4, _⟩ := hd l hlt2
          obtain ⟨a1, ha1⟩ : ∃ a1, a1 = (A.getD l zeroE).aw := ⟨_, rfl⟩
          obtain ⟨a0, ha0⟩ : ∃ a0, a0 = (es.getD l zeroE).aw := ⟨_, rfl⟩
          rw [← ha1] at c4
          rw [← ha0] at d4
          have hle : l < es.length := by have := HN.out; omega
          have hg := getD_ma A l ⟨co, fo, ho, ms, es⟩ HA.out hle
          dsimp only at hg
          have hva := award_aw (HV.out.ent (es.getD l zeroE) (getD_mem hle zeroE))
          dsimp only at hva
          rw [← hg, ← ha1] at hva
          have hst : 0 ≤ a0 → a1 = a0 := fun h => by rw [ha1, hg, award_stays (by rw [← ha0]; exact h), ha0]
          have HC1 := Lib.hid (cntE_take isAw A l (by omega))
          have HC0 := Lib.hid (cntE_take isAw es l hle)
          unfold isAw at HC1 HC0
          rw [← ha1] at HC1
          rw [← ha0] at HC0
          have hb1 : cntE isAw (A.take l) ≤ 30 := by have := cntE_le isAw (A.take l); rw [List.length_take] at this; omega
          have hb0 : cntE isAw (es.take l) ≤ 30 := by have := cntE_le isAw (es.take l); rw [List.length_take] at this; omega
          have e4 := (HFW.out.trans HFl.out)
          have HCE : Hid (wr.cell? ⟨bl, ol + l * 5 + 4, none⟩ = some (.int .i64 a1)) := Lib.hid ((HBX.out.2.trans HFl.out).cell c4 (by simp))
          have HDE : Hid (wr.cell? ⟨bk, ok + l * 5 + 4, none⟩ = some (.int .i64 a0)) := Lib.hid ((HFW.out.trans HFl.out).cell d4 (by simp))
          have c5 := HCE.out
          have d5 := HDE.out
          clear c4 d4 hc hd ha1 ha0 hg e4
          unfold isAw
          obtain ⟨N1, hN1⟩ : ∃ x, x = cntE (fun e => decide (0 ≤ e.aw)) (A.take l) := ⟨_, rfl⟩
          obtain ⟨N0, hN0⟩ : ∃ x, x = cntE (fun e => decide (0 ≤ e.aw)) (es.take l) := ⟨_, rfl⟩
          unfold isAw at hb1 hb0
          rw [← hN1] at HC1 hb1 ⊢
          rw [← hN0] at HC0 hb0 ⊢
          clear hN1 hN0 hva
          by_cases h0 : 0 ≤ a0
          · obtain rfl := hst h0
            have da : decide ((0 : Int) ≤ a1) = true := decide_eq_true h0
            rw [if_pos (by rw [decide_eq_true_eq]; exact h0)] at HC1 HC0
            have HSW : Hid (SMw wr g (.int .i64 co) (.int .i64 fo) (.int .i64 ho) (.slice au i cu) (.slice (some ⟨bl, ol, none⟩) n cw) w.heap.size (.int .i64 co) (.int .i64 fo) (.int .i64 ho) (.slice am i cm) (.slice (some ⟨bk, ok, none⟩) n ce) bl (ol + l * 5) a1 bk (ok + l * 5) wr.drew) :=
              Lib.hid ⟨Fr.drew wr [], HSE.out _ (HFl.out.trans (Fr.drew wr [])), (show C5 _ _ _ _ _ _ wr from ⟨z0, z1, z2, z3, z4⟩).fr (Fr.drew wr []) (by simp), (Fr.drew wr []).cell c5 (by simp), (Fr.drew wr []).cell d5 (by simp)⟩
            go_upto_region 32 with fail
            clear y0 y1 y2 y3 y4 z0 z1 z2 z3 z4 c5 d5
            refine wp_region_noPanic ?_
            refine wp_region_held_drew (S := (SMw wr g (.int .i64 co) (.int .i64 fo) (.int .i64 ho) (.slice au i cu) (.slice (some ⟨bl, ol, none⟩) n cw) w.heap.size (.int .i64 co) (.int .i64 fo) (.int .i64 ho) (.slice am i cm) (.slice (some ⟨bk, ok, none⟩) n ce) bl (ol + l * 5) a1 bk (ok + l * 5))) (by kernel_rfl) HSW.out (fun hHeld => ?_)
            refine wpAnyH_take (i := 0) (oi := _) (v := ?fv0h9n10) (by simp only [List.getElem?_toArray, List.getElem?_cons_zero]; rfl) (by kernel_rfl) (by kernel_rfl) (by kernel_rfl) (fun _ _ _ h => h) (Or.inl ⟨by rfl, ?fy0h9n10⟩) (by assumption) ?fr0h9n10
            case fy0h9n10 => (intro w hSw; (try dsimp only [SMw, C5] at hSw); go_simp; try with_reducible rfl)
            try simp only [Act.put, List.setIfInBounds_toArray, List.set_cons_zero, List.set_cons_succ]
            refine wpAnyH_take (i := 1) (oi := _) (v := ?fv1h9n10) (by simp only [List.getElem?_toArray, List.getElem?_cons_zero, List.getElem?_cons_succ]; rfl) (by kernel_rfl) (by kernel_rfl) (by kernel_rfl) (fun _ _ _ h => h) (Or.inl ⟨by rfl, ?fy1h9n10⟩) (by assumption) ?fr1h9n10
            case fy1h9n10 => (intro w hSw; (try dsimp only [SMw, C5] at hSw); go_simp; try with_reducible rfl)
            try simp only [Act.put, List.setIfInBounds_toArray, List.set_cons_zero, List.set_cons_succ]
            refine wpAnyH_take (i := 2) (oi := _) (v := ?fv2h9n10) (by simp only [List.getElem?_toArray, List.getElem?_cons_zero, List.getElem?_cons_succ]; rfl) (by kernel_rfl) (by kernel_rfl) (by kernel_rfl) (fun _ _ _ h => h) (Or.inl ⟨by rfl, ?fy2h9n10⟩) (by assumption) ?fr2h9n10
            case fy2h9n10 => (intro w hSw; (try dsimp only [SMw, C5] at hSw); go_simp; try with_reducible rfl)
            try simp only [Act.put, List.setIfInBounds_toArray, List.set_cons_zero, List.set_cons_succ]
            refine wpAnyH_take (i := 3) (oi := _) (v := ?fv3h9n10) (by simp only [List.getElem?_toArray, List.getElem?_cons_zero, List.getElem?_cons_succ]; rfl) (by kernel_rfl) (by kernel_rfl) (by kernel_rfl) (fun _ _ _ h => h) (Or.inl ⟨by rfl, ?fy3h9n10⟩) (by assumption) ?fr3h9n10
            case fy3h9n10 => (intro w hSw; (try dsimp only [SMw, C5] at hSw); go_simp; try with_reducible rfl)
            try simp only [Act.put, List.setIfInBounds_toArray, List.set_cons_zero, List.set_cons_succ]
            refine wpAnyH_take (i := 4) (oi := _) (v := ?fv4h9n10) (by simp only [List.getElem?_toArray, List.getElem?_cons_zero, List.getElem?_cons_succ]; rfl) (by kernel_rfl) (by kernel_rfl) (by kernel_rfl) (fun _ _ _ h => h) (Or.inl ⟨by rfl, ?fy4h9n10⟩) (by assumption) ?fr4h9n10
            case fy4h9n10 => (intro w hSw; (try dsimp only [SMw, C5] at hSw); go_simp; try with_reducible rfl)
            try simp only [Act.put, List.setIfInBounds_toArray, List.set_cons_zero, List.set_cons_succ]
            refine wpAnyH_take (i := 5) (oi := _) (v := ?fv5h9n10) (by simp only [List.getElem?_toArray, List.getElem?_cons_zero, List.getElem?_cons_succ]; rfl) (by kernel_rfl) (by kernel_rfl) (by kernel_rfl) (fun _ _ _ h => h) (Or.inl ⟨by rfl, ?fy5h9n10⟩) (by assumption) ?fr5h9n10
            case fy5h9n10 => (intro w hSw; (try dsimp only [SMw, C5] at hSw); go_simp; try with_reducible rfl)
            try simp only [Act.put, List.setIfInBounds_toArray, List.set_cons_zero, List.set_cons_succ]
            refine wpAnyH_take (i := 6) (oi := _) (v := ?fv6h9n10) (by simp only [List.getElem?_toArray, List.getElem?_cons_zero, List.getElem?_cons_succ]; rfl) (by kernel_rfl) (by kernel_rfl) (by kernel_rfl) (fun _ _ _ h => h) (Or.inl ⟨by rfl, ?fy6h9n10⟩) (by assumption) ?fr6h9n10
            case fy6h9n10 => (intro w hSw; (try dsimp only [SMw, C5] at hSw); go_simp; try with_reducible rfl)
            try simp only [Act.put, List.setIfInBounds_toArray, List.set_cons_zero, List.set_cons_succ]
            refine wpAnyH_take (i := 7) (oi := _) (v := ?fv7h9n10) (by simp only [List.getElem?_toArray, List.getElem?_cons_zero, List.getElem?_cons_succ]; rfl) (by kernel_rfl) (by kernel_rfl) (by kernel_rfl) (fun _ _ _ h => h) (Or.inl ⟨by rfl, ?fy7h9n10⟩) (by assumption) ?fr7h9n10
            case fy7h9n10 => (intro w hSw; (try dsimp only [SMw, C5] at hSw); go_simp; try with_reducible rfl)
            try simp only [Act.put, List.setIfInBounds_toArray, List.set_cons_zero, List.set_cons_succ]
            refine wpAnyH_take (i := 8) (oi := _) (v := ?fv8h9n10) (by simp only [List.getElem?_toArray, List.getElem?_cons_zero, List.getElem?_cons_succ]; rfl) (by kernel_rfl) (by kernel_rfl) (by kernel_rfl) (fun _ _ _ h => h) (Or.inl ⟨by rfl, ?fy8h9n10⟩) (by assumption) ?fr8h9n10
            case fy8h9n10 => (intro w hSw; (try dsimp only [SMw, C5] at hSw); go_simp; try with_reducible rfl)
            try simp only [Act.put, List.setIfInBounds_toArray, List.set_cons_zero, List.set_cons_succ]
            refine wpAnyH_take (i := 9) (oi := _) (v := ?fv9h9n10) (by simp only [List.getElem?_toArray, List.getElem?_cons_zero, List.getElem?_cons_succ]; rfl) (by kernel_rfl) (by kernel_rfl) (by kernel_rfl) (fun _ _ _ h => h) (Or.inl ⟨by rfl, ?fy9h9n10⟩) (by assumption) ?fr9h9n10
            case fy9h9n10 => (intro w hSw; (try dsimp only [SMw, C5] at hSw); go_simp; try with_reducible rfl)
            try simp only [Act.put, List.setIfInBounds_toArray, List.set_cons_zero, List.set_cons_succ]
            refine wpAnyH_take (i := 10) (oi := _) (v := ?fv10h9n10) (by simp only [List.getElem?_toArray, List.getElem?_cons_zero, List.getElem?_cons_succ]; rfl) (by kernel_rfl) (by kernel_rfl) (by kernel_rfl) (fun _ _ _ h => h) (Or.inl ⟨by rfl, ?fy10h9n10⟩) (by assumption) ?fr10h9n10
            case fy10h9n10 => (intro w hSw; (try dsimp only [SMw, C5] at hSw); go_simp; try with_reducible rfl)
            try simp only [Act.put, List.setIfInBounds_toArray, List.set_cons_zero, List.set_cons_succ]
            refine wpAnyH_take (i := 11) (oi := _) (v := ?fv11h9n10) (by simp only [List.getElem?_toArray, List.getElem?_cons_zero, List.getElem?_cons_succ]; rfl) (by kernel_rfl) (by kernel_rfl) (by kernel_rfl) (fun _ _ _ h => h) (Or.inl ⟨by rfl, ?fy11h9n10⟩) (by assumption) ?fr11h9n10
            case fy11h9n10 => (intro w hSw; (try dsimp only [SMw, C5] at hSw); go_simp; try with_reducible rfl)
            try simp only [Act.put, List.setIfInBounds_toArray, List.set_cons_zero, List.set_cons_succ]
            refine wpAnyH_take (i := 12) (oi := _) (v := ?fv12h9n10) (by simp only [List.getElem?_toArray, List.getElem?_cons_zero, List.getElem?_cons_succ]; rfl) (by kernel_rfl) (by kernel_rfl) (by kernel_rfl) (fun _ _ _ h => h) (Or.inl ⟨by rfl, ?fy12h9n10⟩) (by assumption) ?fr12h9n10
            case fy12h9n10 => (intro w hSw; (try dsimp only [SMw, C5] at hSw); go_simp; try with_reducible rfl)
            try simp only [Act.put, List.setIfInBounds_toArray, List.set_cons_zero, List.set_cons_succ]
            refine wpAnyH_done (by kernel_rfl) ?_ _
            refine NoPanic.normal ?_
            have HFn := Lib.hid (HFl.out.trans hHeld.1)
            clear hHeld HSW
            go_wp2
            go_roundw
            case rel => exact ⟨l + 1, by omega, by go_num, by rw [HC1.out]; simp, by rw [HC0.out]; simp, HFn⟩
            case measure => simp [intOf]; omega
          · have da0 : decide ((0 : Int) ≤ a0) = false := decide_eq_false h0
            rw [if_neg (by rw [decide_eq_true_eq]; exact h0)] at HC0
            by_cases h1 : 0 ≤ a1
            · have da1 : decide ((0 : Int) ≤ a1) = true := decide_eq_true h1
              rw [if_pos (by rw [decide_eq_true_eq]; exact h1)] at HC1
              go_wp2
              go_roundw
              case rel => exact ⟨l + 1, by omega, by go_num, by rw [HC1.out]; simp, by rw [HC0.out]; simp, HFl⟩
              case measure => simp [intOf]; omega
            · have da1 : decide ((0 : Int) ≤ a1) = false := decide_eq_false h1
              rw [if_neg (by rw [decide_eq_true_eq]; exact h1)] at HC1
              go_wp2
              go_roundw
              case rel => exact ⟨l + 1, by omega, by go_num, by rw [HC1.out]; simp, by rw [HC0.out]; simp, HFl⟩
              case measure => simp [intOf]; omega
        · have dl2 : decide ((l : Int) < (n : Int)) = false := decide_eq_false (by omega)
          obtain rfl : l = n := by omega
          have q1 : cntE isAw (A.take l) = P := by rw [← hAl, List.take_length]; exact HPA.out
          obtain ⟨P0, hP0⟩ : ∃ P0, P0 = cntE isAw (es.take l) := ⟨_, rfl⟩
          have hsum : P = P0 + wn := by
            have := HWL.out
            rw [HPA.out] at this
            rw [hP0, HN.out, List.take_length]
            exact this
          rw [q1, ← hP0]
          clear q1 hP0
          have AX := Lib.hid (AW2.out wr _ _ HSM.out (HUMW.out.keep HFl.out) (HUEW.out.keep HFl.out))
          clear z0 z1 z2 z3 z4
          go_wp2_with fail
          with_reducible refine (AX.out).mono ?_
          rintro e w5 ⟨u, rfl, x, v, rfl, ⟨vm5, ve5, rfl, h5, h6⟩, hv, hf⟩
          rw [HAG.out HV.out] at hv
          obtain ⟨a5, c5, rfl, _⟩ := hv
          have HF8 := Lib.hid (HFl.out.trans hf)
          obtain ⟨a7, c7, e7, _⟩ := h5
          obtain ⟨a8, c8, e8, _⟩ := h6
          obtain ⟨n7, hn7⟩ : ∃ x, x = (awardR ⟨co, fo, ho, ms, A⟩).ms.length := ⟨_, rfl⟩
          obtain ⟨n8, hn8⟩ : ∃ x, x = (awardR ⟨co, fo, ho, ms, A⟩).es.length := ⟨_, rfl⟩
          rw [← hn7] at e7
          rw [← hn8] at e8
          subst e7 e8
          have FA := Lib.hid (box_ring w5 (.int .i64 co) (.int .i64 fo) (.int .i64 ho) (.slice a7 n7 c7) (.slice a8 n8 c8)).2
          unfold rgV awardR
          dsimp only [List.length_nil]
          clear hn7 hn8 hf AX y0 y1 y2 y3 y4
          go_upto_region 35 with fail
          generalize World.alloc w5 _ = W5 at FA ⊢
          have HF9 := Lib.hid (HF8.out.trans FA.out)
          obtain ⟨y0, y1, y2, y3, y4⟩ := HSE.out _ HF9.out
          have MA := Lib.hid (MN2.out W5 (-1) HF9.out)
          have HMN := Lib.hid (mine_none HV.out)
          unfold awardR at HMN
          dsimp only at HMN
          rw [← HA.out] at HMN
          have de : ((P : Int) == (P0 : Int) + (wn : Int)) = true := by simp; omega
          go_wp2_with fail
          with_reducible refine (MA.out).mono ?_
          rintro e w6 ⟨u, rfl, hu, hf⟩
          rw [HMN.out.1] at hu
          obtain ⟨a6, c6, rfl, _⟩ := hu
          have HF10 := Lib.hid (HF9.out.trans hf)
          clear y0 y1 y2 y3 y4 hf
          obtain ⟨y0, y1, y2, y3, y4⟩ := HSE.out _ HF10.out
          have MB := Lib.hid (MN2.out w6 99 HF10.out)
          dsimp only [List.length_nil]
          go_wp2_with fail
          with_reducible refine (MB.out).mono ?_
          rintro e w7 ⟨u, rfl, hu, hf⟩
          rw [HMN.out.2] at hu
          obtain ⟨a7, c7, rfl, _⟩ := hu
          dsimp only [List.length_nil]
          have HF11 := Lib.hid (HFW.out.trans (HF10.out.trans hf))
          clear hf
          go_wp2_with fail
          go_ret
          exact ⟨rfl, HF11.out⟩
theorem lmine_walk (r : Rg) (vm ve : Value) (W : World) (hm : HInts W vm r.ms) (he : HE W ve r.es) :
    Calls Try.prog 6 #[rgV r vm ve] W fun x w' => x = .returned (.bool true) ∧ W.grownBy w' none :=
  (lmine_true r vm ve W hm he).mono fun _ _ ⟨he, hf⟩ => ⟨he, hf.grown (by simp)⟩
end Go.Proofs.Ytldheaamcnmlgaa
