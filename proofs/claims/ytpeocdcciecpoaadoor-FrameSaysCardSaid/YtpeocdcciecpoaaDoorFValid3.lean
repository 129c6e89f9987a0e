/- The program's Valid: the entries of a ring. -/
import Derived.Test.YtpeocdcciecpoaaDoorFValid2
import Derived.Test.YtpeocdcciecpoaaDoorFSame4
namespace Go.Proofs.YtpeocdcciecpoaaDoor
open Go.RowKit Fm

/-- The entry ahead of the k-th. -/
def prevE (l : List En) (k : Nat) : Option En := if k = 0 then none else some (l.getD (k - 1) zeroE)
theorem entsC_at {ms : List Int} {l : List En} {k : Nat} (hk : k < l.length) (h : entsC ms (prevE l k) (l.drop k) = entsC ms none l) :
    (entC ms (prevE l k) (l.getD k zeroE) = 0 → entsC ms (prevE l (k + 1)) (l.drop (k + 1)) = entsC ms none l) ∧
    (entC ms (prevE l k) (l.getD k zeroE) ≠ 0 → entsC ms none l = entC ms (prevE l k) (l.getD k zeroE)) := by
  rw [dr_cons l k hk zeroE] at h
  have h : (if entC ms (prevE l k) (l.getD k zeroE) = 0 then entsC ms (some (l.getD k zeroE)) (l.drop (k + 1)) else entC ms (prevE l k) (l.getD k zeroE)) = entsC ms none l := h
  refine ⟨fun h0 => ?_, fun h0 => ?_⟩
  · rw [if_pos h0] at h
    rw [← h]
    show entsC ms (if k + 1 = 0 then none else some (l.getD (k + 1 - 1) zeroE)) _ = _
    rw [if_neg (by omega), Nat.add_sub_cancel]
  · rw [if_neg h0] at h
    exact h.symm

def AwOk (ms : List Int) (e : En) : Prop := e.aw = -1 ∨ e.aw ∈ ms
theorem ent_latch {ms : List Int} {p : Option En} {e : En} (h : ¬ (LatchOk e ∧ (e.aw = -1 ∨ e.aw ∈ ms))) : entC ms p e = 3 := by unfold entC; rw [if_pos h]
theorem ent_after {ms : List Int} {p : Option En} {e : En} (h : LatchOk e ∧ (e.aw = -1 ∨ e.aw ∈ ms)) (h2 : ¬ After p e) : entC ms p e = 11 := by
  unfold entC; rw [if_neg (fun hn => hn h), if_pos h2]
theorem ent_bids {ms : List Int} {p : Option En} {e : En} (h : LatchOk e ∧ (e.aw = -1 ∨ e.aw ∈ ms)) (h2 : After p e) : entC ms p e = bidsC ms e.bs := by
  unfold entC; rw [if_neg (fun hn => hn h), if_neg (fun hn => hn h2)]
theorem ahead_less {q e : En} (hq : LatchOk q) (he : LatchOk e) : (q.fl < e.fl ∨ q.fl = e.fl ∧ q.di = -1 ∧ e.di = 1) ↔ Less q e := by
  have h1 := hq.2.2.1
  have h2 := he.2.2.1
  unfold Less; omega
theorem latch_step {l : List En} {k : Nat} (h : ∀ j, j < k → LatchOk (l.getD j zeroE)) (hk : LatchOk (l.getD k zeroE)) : ∀ j, j < k + 1 → LatchOk (l.getD j zeroE) := by
  intro j hj
  by_cases e : j = k
  · subst e; exact hk
  · exact h j (by omega)
theorem prev_pos {l : List En} {k : Nat} (h : 0 < k) : prevE l k = some (l.getD (k - 1) zeroE) := by unfold prevE; rw [if_neg (by omega)]
theorem prev_zero {l : List En} {k : Nat} (h : k = 0) : prevE l k = none := by unfold prevE; rw [if_pos h]

/-- The ring's box, the entry ahead, the entry's box. -/
def AheadS (w0 : World) (g : Nat) (ve : Value) (b o : Nat) (q1 q2 : Int) (h : Nat) (e1 e2 : Int) (a : World) : Prop :=
  Fr w0 a [] ∧ a.cell? ⟨g, 4, none⟩ = some ve ∧ a.cell? ⟨b, o, none⟩ = some (.int .i64 q1) ∧ a.cell? ⟨b, o + 1, none⟩ = some (.int .i64 q2) ∧ a.cell? ⟨h, 0, none⟩ = some (.int .i64 e1) ∧ a.cell? ⟨h, 1, none⟩ = some (.int .i64 e2)
theorem AheadS.keep {w0 : World} {g : Nat} {ve : Value} {b o : Nat} {q1 q2 : Int} {h : Nat} {e1 e2 : Int} {a c : World} (hh : AheadS w0 g ve b o q1 q2 h e1 e2 a) (k : Fr a c []) : AheadS w0 g ve b o q1 q2 h e1 e2 c :=
  ⟨hh.1.trans k, k.cell hh.2.1 (by simp), k.cell hh.2.2.1 (by simp), k.cell hh.2.2.2.1 (by simp), k.cell hh.2.2.2.2.1 (by simp), k.cell hh.2.2.2.2.2 (by simp)⟩

set_option maxHeartbeats 4000000 in
set_option maxRecDepth 100000 in
theorem validEntries_any (co fo ho : Int) (ms : List Int) (l : List En) (vm ve : Value) (w : World) (A : Nat → Addr) (B : Nat) (is : List Nat) (hE : EV is w A B) (hm : Holds .i64 w vm ms) (he : HE w ve l) (hms : ms.length ≤ 1000000) (hs : ∀ i ∈ [2, 3, 10], i ∈ is := by decide) :
    Calls Tryd.prog 64 #[.agg #[.int .i64 co, .int .i64 fo, .int .i64 ho, vm, ve]] w fun e w' => e = .returned (ev A (entsC ms none l)) ∧ Fr w w' [] := by
  have HEV := Lib.hid hE
  have HM := Lib.hid hm
  obtain ⟨am, cm, rfl⟩ := hm.shape
  obtain ⟨a, cap, rfl, h1, h2, h3⟩ := he
  unfold maxLen at h2
  have HZ := Lib.hid (heap_alloc_new w (.cells #[.int .i64 co, .int .i64 fo, .int .i64 ho, .slice am ms.length cm, .slice a l.length cap] 27))
  have HF0 := Lib.hid (Fr.alloc w (.cells #[.int .i64 co, .int .i64 fo, .int .i64 ho, .slice am ms.length cm, .slice a l.length cap] 27) [])
  have HS := Lib.hid hs
  clear hE hm hs
  go_enter Tryd.func64, Tryd.ntmps64
  go_wp2
  go_loopw [9] (fun i wr => ∃ k : Nat, k ≤ l.length ∧ i = .int .i64 k ∧ entsC ms (prevE l k) (l.drop k) = entsC ms none l ∧ (∀ j, j < k → LatchOk (l.getD j zeroE)) ∧ Fr (w.alloc (.cells #[.int .i64 co, .int .i64 fo, .int .i64 ho, .slice am ms.length cm, .slice a l.length cap] 27)) wr []) (fun i _ => l.length - (intOf i).toNat)
  case atStart => exact ⟨0, Nat.zero_le _, rfl, rfl, fun j hj => by omega, Fr.refl _ _⟩
  case round =>
    obtain ⟨k, hk, rfl, hrec, hall, hf⟩ := hrel
    have HRB := Lib.hid (hf.heap HZ.out (by simp))
    have HF := Lib.hid (HF0.out.trans hf)
    have HALL := Lib.hid hall
    have HFB := Lib.hid hf
    clear hall hf
    by_cases hlt : k < l.length
    · obtain ⟨bl, off, rfl, hc⟩ := h3 (by omega)
      obtain ⟨u, x0, x1, x2, x3, x4, hb⟩ := hc k hlt
      have hat := entsC_at hlt hrec
      have HQ : 0 < k → ∃ q : En, q = l.getD (k - 1) zeroE ∧ LatchOk q ∧ w.cell? ⟨bl, off + (k - 1) * 5, none⟩ = some (.int .i64 q.fl) ∧ w.cell? ⟨bl, off + (k - 1) * 5 + 1, none⟩ = some (.int .i64 q.di) := fun h0 => by
        obtain ⟨u', q0, q1, _⟩ := hc (k - 1) (by omega)
        exact ⟨_, rfl, HALL.out (k - 1) (by omega), q0, q1⟩
      have HLS := Lib.hid (fun hk' => latch_step (k := k) HALL.out hk')
      obtain ⟨e, he⟩ : ∃ e, e = l.getD k zeroE := ⟨_, rfl⟩
      rw [← he] at x0 x1 x2 x4 hb hat HLS
      obtain ⟨z1, d1, rfl⟩ := hb.shape
      obtain ⟨e0, e1, e2, el, e4⟩ := e
      simp only at x0 x1 x2 x4 hb
      have HBD := Lib.hid hb
      have HAT := Lib.hid hat
      replace x0 := HF.out.cell x0 (by simp)
      replace x1 := HF.out.cell x1 (by simp)
      replace x2 := HF.out.cell x2 (by simp)
      replace x3 := HF.out.cell x3 (by simp)
      replace x4 := HF.out.cell x4 (by simp)
      have HBX := Lib.hid (heap_alloc_new wr (.cells #[.int .i64 e0, .int .i64 e1, .int .i64 e2, .slice z1 el.length d1, .int .i64 e4] 61))
      have HFX := Lib.hid (Fr.alloc wr (.cells #[.int .i64 e0, .int .i64 e1, .int .i64 e2, .slice z1 el.length d1, .int .i64 e4] 61) [])
      have HRX := Lib.hid (HFX.out.heap HRB.out (by simp))
      clear hb hat hc h3 hrec he
      by_cases hL : 0 ≤ e0 ∧ e0 < 64 ∧ (e1 = 1 ∨ e1 = -1) ∧ 1 ≤ e2 ∧ e2 ≤ 2147483647
      rotate_left
      · have HC := Lib.hid (no hL)
        have HR : Hid (entsC ms none l = 3) := by
          have e3 : entC ms (prevE l k) ⟨e0, e1, e2, el, e4⟩ = 3 := ent_latch (fun h => hL h.1)
          show _ = _
          rw [HAT.out.2 (by rw [e3]; decide), e3]
        clear hL
        go_wp2_with fail
        refine (isLatch_any _ _ _ _ HC.out _).mono ?_
        rintro e w1 ⟨rfl, hf1⟩
        have hR := (HEV.out.keep ((HF.out.trans HFX.out).trans hf1)).range (HS.out 2 (by decide))
        go_wp2
        go_ret
        exact ⟨by rw [HR.out]; rfl, (HF.out.trans HFX.out).trans hf1⟩
      have HC := Lib.hid (yes hL)
      have HLO := Lib.hid (show LatchOk ⟨e0, e1, e2, el, e4⟩ from hL)
      clear hL
      by_cases hA : e4 = -1 ∨ e4 ∈ ms
      rotate_left
      · have hne : (e4 != -1) = true := by simp; intro q; exact hA (.inl q)
        have HD := Lib.hid (no (P := e4 ∈ ms) (fun q => hA (.inr q)))
        have HR : Hid (entsC ms none l = 3) := by
          have e3 : entC ms (prevE l k) ⟨e0, e1, e2, el, e4⟩ = 3 := ent_latch (fun h => hA h.2)
          show _ = _
          rw [HAT.out.2 (by rw [e3]; decide), e3]
        clear hA
        go_wp2_with fail
        refine (isLatch_any _ _ _ _ HC.out _).mono ?_
        rintro e w1 ⟨rfl, hf1⟩
        have HF1 := Lib.hid ((HF.out.trans HFX.out).trans hf1)
        have k1 := row5 (hf1.heap HRX.out (by simp))
        have k2 := row5 (hf1.heap HBX.out (by simp))
        clear hf1
        go_wp2_with fail
        refine (contains_any _ ms e4 _ HD.out _ (HM.out.keep HF1.out)).mono ?_
        rintro e w2 ⟨rfl, rfl⟩
        have hR := (HEV.out.keep HF1.out).range (HS.out 2 (by decide))
        go_wp2
        go_ret
        exact ⟨by rw [HR.out]; rfl, HF1.out⟩
      have HAW := Lib.hid hA
      have hcA : (e4 != -1) = false ∨ ((e4 != -1) = true ∧ Hid (true = decide (e4 ∈ ms))) := by
        by_cases q : e4 = -1
        · exact .inl (by simp [q])
        · exact .inr ⟨by simpa using q, Lib.hid (yes (hA.resolve_left q))⟩
      clear hA
      have hcP : (k = 0) ∨ (0 < k) := by omega
      rcases hcP with hk0 | hk0
      · have HPZ := Lib.hid (show entC ms (prevE l k) ⟨e0, e1, e2, el, e4⟩ = bidsC ms el from ent_bids ⟨HLO.out, HAW.out⟩ (by rw [prev_zero hk0]; exact trivial))
        have HK0 := Lib.hid hk0
        have hgt : decide (0 < k) = false := by simp; omega
        clear hk0 HQ
        rcases hcA with hne | ⟨hne, HD⟩
        · go_wp2_with fail
          refine (isLatch_any _ _ _ _ HC.out _).mono ?_
          rintro e w1 ⟨rfl, hf1⟩
          have HF1 := Lib.hid ((HF.out.trans HFX.out).trans hf1)
          have HG1 := Lib.hid hf1
          have HX1 := Lib.hid (hf1.heap HRX.out (by simp))
          have HX2 := Lib.hid (hf1.heap HBX.out (by simp))
          have k1 := row5 HX1.out
          have k2 := row5 HX2.out
          clear hf1
          go_wp2
          clear k1 k2
          refine wp_region_det (S := fun a => Fr w1 a []) (by kernel_rfl) (Fr.drew _ _) ?_
          refine wpDet_take (i := 0) (oi := _) (v := ?dv1) (by simp only [List.getElem?_toArray, List.getElem?_cons_zero]; rfl) (by kernel_rfl) (by kernel_rfl) (by kernel_rfl) (Or.inl ⟨by rfl, ?dy1⟩) ?dr1
          case dy1 => (intro w hSw; have hS0 := hSw; (try dsimp only at hSw); go_simp; refine Came.value ?_ hS0; with_reducible rfl)
          try simp only [Act.put, List.setIfInBounds_toArray, List.set_cons_zero, List.set_cons_succ]
          refine wpDet_take (i := 1) (oi := _) (v := ?dv2) (by simp only [List.getElem?_toArray, List.getElem?_cons_zero, List.getElem?_cons_succ]; rfl) (by kernel_rfl) (by kernel_rfl) (by kernel_rfl) (Or.inl ⟨by rfl, ?dy2⟩) ?dr2
          case dy2 => (intro w hSw; have hS0 := hSw; (try dsimp only at hSw); go_simp; refine Came.value ?_ hS0; with_reducible rfl)
          try simp only [Act.put, List.setIfInBounds_toArray, List.set_cons_zero, List.set_cons_succ]
          refine wpDet_take (i := 2) (oi := _) (v := ?dv3) (by simp only [List.getElem?_toArray, List.getElem?_cons_zero, List.getElem?_cons_succ]; rfl) (by kernel_rfl) (by kernel_rfl) (by kernel_rfl) (Or.inl ⟨by rfl, ?dy3⟩) ?dr3
          case dy3 => (intro w hSw; have hS0 := hSw; (try dsimp only at hSw); go_simp; refine Came.value ?_ hS0; with_reducible rfl)
          try simp only [Act.put, List.setIfInBounds_toArray, List.set_cons_zero, List.set_cons_succ]
          refine wpDet_take (i := 3) (oi := _) (v := undef) (by simp only [List.getElem?_toArray, List.getElem?_cons_zero, List.getElem?_cons_succ]; rfl) (by kernel_rfl) (by kernel_rfl) (by kernel_rfl) (Or.inr ⟨by rfl, rfl⟩) ?_
          try simp only [Act.put, List.setIfInBounds_toArray, List.set_cons_zero, List.set_cons_succ]
          refine wpDet_take (i := 4) (oi := _) (v := undef) (by simp only [List.getElem?_toArray, List.getElem?_cons_zero, List.getElem?_cons_succ]; rfl) (by kernel_rfl) (by kernel_rfl) (by kernel_rfl) (Or.inr ⟨by rfl, rfl⟩) ?_
          try simp only [Act.put, List.setIfInBounds_toArray, List.set_cons_zero, List.set_cons_succ]
          refine wpDet_take (i := 5) (oi := _) (v := undef) (by simp only [List.getElem?_toArray, List.getElem?_cons_zero, List.getElem?_cons_succ]; rfl) (by kernel_rfl) (by kernel_rfl) (by kernel_rfl) (Or.inr ⟨by rfl, rfl⟩) ?_
          try simp only [Act.put, List.setIfInBounds_toArray, List.set_cons_zero, List.set_cons_succ]
          refine wpDet_take (i := 6) (oi := _) (v := undef) (by simp only [List.getElem?_toArray, List.getElem?_cons_zero, List.getElem?_cons_succ]; rfl) (by kernel_rfl) (by kernel_rfl) (by kernel_rfl) (Or.inr ⟨by rfl, rfl⟩) ?_
          try simp only [Act.put, List.setIfInBounds_toArray, List.set_cons_zero, List.set_cons_succ]
          refine wpDet_take (i := 7) (oi := _) (v := undef) (by simp only [List.getElem?_toArray, List.getElem?_cons_zero, List.getElem?_cons_succ]; rfl) (by kernel_rfl) (by kernel_rfl) (by kernel_rfl) (Or.inr ⟨by rfl, rfl⟩) ?_
          try simp only [Act.put, List.setIfInBounds_toArray, List.set_cons_zero, List.set_cons_succ]
          refine wpDet_take (i := 8) (oi := _) (v := undef) (by simp only [List.getElem?_toArray, List.getElem?_cons_zero, List.getElem?_cons_succ]; rfl) (by kernel_rfl) (by kernel_rfl) (by kernel_rfl) (Or.inr ⟨by rfl, rfl⟩) ?_
          try simp only [Act.put, List.setIfInBounds_toArray, List.set_cons_zero, List.set_cons_succ]
          refine wpDet_take (i := 9) (oi := _) (v := undef) (by simp only [List.getElem?_toArray, List.getElem?_cons_zero, List.getElem?_cons_succ]; rfl) (by kernel_rfl) (by kernel_rfl) (by kernel_rfl) (Or.inr ⟨by rfl, rfl⟩) ?_
          try simp only [Act.put, List.setIfInBounds_toArray, List.set_cons_zero, List.set_cons_succ]
          refine wpDet_take (i := 10) (oi := _) (v := undef) (by simp only [List.getElem?_toArray, List.getElem?_cons_zero, List.getElem?_cons_succ]; rfl) (by kernel_rfl) (by kernel_rfl) (by kernel_rfl) (Or.inr ⟨by rfl, rfl⟩) ?_
          try simp only [Act.put, List.setIfInBounds_toArray, List.set_cons_zero, List.set_cons_succ]
          refine wpDet_take (i := 11) (oi := _) (v := undef) (by simp only [List.getElem?_toArray, List.getElem?_cons_zero, List.getElem?_cons_succ]; rfl) (by kernel_rfl) (by kernel_rfl) (by kernel_rfl) (Or.inr ⟨by rfl, rfl⟩) ?_
          try simp only [Act.put, List.setIfInBounds_toArray, List.set_cons_zero, List.set_cons_succ]
          refine wpDet_take (i := 12) (oi := _) (v := undef) (by simp only [List.getElem?_toArray, List.getElem?_cons_zero, List.getElem?_cons_succ]; rfl) (by kernel_rfl) (by kernel_rfl) (by kernel_rfl) (Or.inr ⟨by rfl, rfl⟩) ?_
          try simp only [Act.put, List.setIfInBounds_toArray, List.set_cons_zero, List.set_cons_succ]
          refine wpDet_take (i := 13) (oi := _) (v := undef) (by simp only [List.getElem?_toArray, List.getElem?_cons_zero, List.getElem?_cons_succ]; rfl) (by kernel_rfl) (by kernel_rfl) (by kernel_rfl) (Or.inr ⟨by rfl, rfl⟩) ?_
          try simp only [Act.put, List.setIfInBounds_toArray, List.set_cons_zero, List.set_cons_succ]
          refine wpDet_take (i := 14) (oi := _) (v := undef) (by simp only [List.getElem?_toArray, List.getElem?_cons_zero, List.getElem?_cons_succ]; rfl) (by kernel_rfl) (by kernel_rfl) (by kernel_rfl) (Or.inr ⟨by rfl, rfl⟩) ?_
          try simp only [Act.put, List.setIfInBounds_toArray, List.set_cons_zero, List.set_cons_succ]
          refine wpDet_take (i := 15) (oi := _) (v := undef) (by simp only [List.getElem?_toArray, List.getElem?_cons_zero, List.getElem?_cons_succ]; rfl) (by kernel_rfl) (by kernel_rfl) (by kernel_rfl) (Or.inr ⟨by rfl, rfl⟩) ?_
          try simp only [Act.put, List.setIfInBounds_toArray, List.set_cons_zero, List.set_cons_succ]
          refine wpDet_take (i := 16) (oi := _) (v := ?dv17) (by simp only [List.getElem?_toArray, List.getElem?_cons_zero, List.getElem?_cons_succ]; rfl) (by kernel_rfl) (by kernel_rfl) (by kernel_rfl) (Or.inl ⟨by rfl, ?dy17⟩) ?dr17
          case dy17 => (intro w hSw; have hS0 := hSw; (try dsimp only at hSw); go_simp; refine Came.value ?_ hS0; with_reducible rfl)
          try simp only [Act.put, List.setIfInBounds_toArray, List.set_cons_zero, List.set_cons_succ]
          refine wpDet_done (by kernel_rfl) ?_ _
          intro w3 hf3
          have k1 := row5 (hf3.heap HX1.out (by simp))
          have k2 := row5 (hf3.heap HX2.out (by simp))
          have HF3 := Lib.hid (HF1.out.trans hf3)
          have HG3 := Lib.hid (HG1.out.trans hf3)
          clear hf3
          go_wp2_with fail
          refine (validBids_any _ el _ ms _ A B is (HEV.out.keep HF3.out) (HBD.out.keep HF3.out) (HM.out.keep HF3.out) hms HS.out).mono ?_
          rintro e w4 ⟨rfl, hf4⟩
          by_cases hz : bidsC ms el = 0
          · have HN := Lib.hid (HAT.out.1 (HPZ.out.trans hz))
            rw [hz, show ev A 0 = .nilIface from rfl]
            clear hz
            go_wp2
            go_roundw
            case rel => exact ⟨k + 1, by omega, by go_num, HN.out, HLS.out HLO.out, ((HFB.out.trans HFX.out).trans HG3.out).trans hf4⟩
            case measure => simp [intOf]; omega
          · have HR : Hid (entsC ms none l = bidsC ms el) := by show _ = _; rw [HAT.out.2 (by rw [HPZ.out]; exact hz), HPZ.out]
            rw [ev_ne A hz]
            have HEN := Lib.hid (ev_ne A hz)
            clear hz
            go_wp2
            go_ret
            exact ⟨by rw [HR.out, HEN.out]; rfl, HF3.out.trans hf4⟩
        · go_wp2_with fail
          refine (isLatch_any _ _ _ _ HC.out _).mono ?_
          rintro e w1 ⟨rfl, hf1⟩
          have HF1 := Lib.hid ((HF.out.trans HFX.out).trans hf1)
          have HG1 := Lib.hid hf1
          have HX1 := Lib.hid (hf1.heap HRX.out (by simp))
          have HX2 := Lib.hid (hf1.heap HBX.out (by simp))
          have k1 := row5 HX1.out
          have k2 := row5 HX2.out
          clear hf1
          go_wp2_with fail
          refine (contains_any _ ms e4 _ HD.out _ (HM.out.keep HF1.out)).mono ?_
          rintro e w2 ⟨rfl, rfl⟩
          go_wp2
          clear k1 k2
          refine wp_region_det (S := fun a => Fr w1 a []) (by kernel_rfl) (Fr.drew _ _) ?_
          refine wpDet_take (i := 0) (oi := _) (v := ?dv18) (by simp only [List.getElem?_toArray, List.getElem?_cons_zero]; rfl) (by kernel_rfl) (by kernel_rfl) (by kernel_rfl) (Or.inl ⟨by rfl, ?dy18⟩) ?dr18
          case dy18 => (intro w hSw; have hS0 := hSw; (try dsimp only at hSw); go_simp; refine Came.value ?_ hS0; with_reducible rfl)
          try simp only [Act.put, List.setIfInBounds_toArray, List.set_cons_zero, List.set_cons_succ]
          refine wpDet_take (i := 1) (oi := _) (v := ?dv19) (by simp only [List.getElem?_toArray, List.getElem?_cons_zero, List.getElem?_cons_succ]; rfl) (by kernel_rfl) (by kernel_rfl) (by kernel_rfl) (Or.inl ⟨by rfl, ?dy19⟩) ?dr19
          case dy19 => (intro w hSw; have hS0 := hSw; (try dsimp only at hSw); go_simp; refine Came.value ?_ hS0; with_reducible rfl)
          try simp only [Act.put, List.setIfInBounds_toArray, List.set_cons_zero, List.set_cons_succ]
          refine wpDet_take (i := 2) (oi := _) (v := ?dv20) (by simp only [List.getElem?_toArray, List.getElem?_cons_zero, List.getElem?_cons_succ]; rfl) (by kernel_rfl) (by kernel_rfl) (by kernel_rfl) (Or.inl ⟨by rfl, ?dy20⟩) ?dr20
          case dy20 => (intro w hSw; have hS0 := hSw; (try dsimp only at hSw); go_simp; refine Came.value ?_ hS0; with_reducible rfl)
          try simp only [Act.put, List.setIfInBounds_toArray, List.set_cons_zero, List.set_cons_succ]
          refine wpDet_take (i := 3) (oi := _) (v := undef) (by simp only [List.getElem?_toArray, List.getElem?_cons_zero, List.getElem?_cons_succ]; rfl) (by kernel_rfl) (by kernel_rfl) (by kernel_rfl) (Or.inr ⟨by rfl, rfl⟩) ?_
          try simp only [Act.put, List.setIfInBounds_toArray, List.set_cons_zero, List.set_cons_succ]
          refine wpDet_take (i := 4) (oi := _) (v := undef) (by simp only [List.getElem?_toArray, List.getElem?_cons_zero, List.getElem?_cons_succ]; rfl) (by kernel_rfl) (by kernel_rfl) (by kernel_rfl) (Or.inr ⟨by rfl, rfl⟩) ?_
          try simp only [Act.put, List.setIfInBounds_toArray, List.set_cons_zero, List.set_cons_succ]
          refine wpDet_take (i := 5) (oi := _) (v := undef) (by simp only [List.getElem?_toArray, List.getElem?_cons_zero, List.getElem?_cons_succ]; rfl) (by kernel_rfl) (by kernel_rfl) (by kernel_rfl) (Or.inr ⟨by rfl, rfl⟩) ?_
          try simp only [Act.put, List.setIfInBounds_toArray, List.set_cons_zero, List.set_cons_succ]
          refine wpDet_take (i := 6) (oi := _) (v := undef) (by simp only [List.getElem?_toArray, List.getElem?_cons_zero, List.getElem?_cons_succ]; rfl) (by kernel_rfl) (by kernel_rfl) (by kernel_rfl) (Or.inr ⟨by rfl, rfl⟩) ?_
          try simp only [Act.put, List.setIfInBounds_toArray, List.set_cons_zero, List.set_cons_succ]
          refine wpDet_take (i := 7) (oi := _) (v := undef) (by simp only [List.getElem?_toArray, List.getElem?_cons_zero, List.getElem?_cons_succ]; rfl) (by kernel_rfl) (by kernel_rfl) (by kernel_rfl) (Or.inr ⟨by rfl, rfl⟩) ?_
          try simp only [Act.put, List.setIfInBounds_toArray, List.set_cons_zero, List.set_cons_succ]
          refine wpDet_take (i := 8) (oi := _) (v := undef) (by simp only [List.getElem?_toArray, List.getElem?_cons_zero, List.getElem?_cons_succ]; rfl) (by kernel_rfl) (by kernel_rfl) (by kernel_rfl) (Or.inr ⟨by rfl, rfl⟩) ?_
          try simp only [Act.put, List.setIfInBounds_toArray, List.set_cons_zero, List.set_cons_succ]
          refine wpDet_take (i := 9) (oi := _) (v := undef) (by simp only [List.getElem?_toArray, List.getElem?_cons_zero, List.getElem?_cons_succ]; rfl) (by kernel_rfl) (by kernel_rfl) (by kernel_rfl) (Or.inr ⟨by rfl, rfl⟩) ?_
          try simp only [Act.put, List.setIfInBounds_toArray, List.set_cons_zero, List.set_cons_succ]
          refine wpDet_take (i := 10) (oi := _) (v := undef) (by simp only [List.getElem?_toArray, List.getElem?_cons_zero, List.getElem?_cons_succ]; rfl) (by kernel_rfl) (by kernel_rfl) (by kernel_rfl) (Or.inr ⟨by rfl, rfl⟩) ?_
          try simp only [Act.put, List.setIfInBounds_toArray, List.set_cons_zero, List.set_cons_succ]
          refine wpDet_take (i := 11) (oi := _) (v := undef) (by simp only [List.getElem?_toArray, List.getElem?_cons_zero, List.getElem?_cons_succ]; rfl) (by kernel_rfl) (by kernel_rfl) (by kernel_rfl) (Or.inr ⟨by rfl, rfl⟩) ?_
          try simp only [Act.put, List.setIfInBounds_toArray, List.set_cons_zero, List.set_cons_succ]
          refine wpDet_take (i := 12) (oi := _) (v := undef) (by simp only [List.getElem?_toArray, List.getElem?_cons_zero, List.getElem?_cons_succ]; rfl) (by kernel_rfl) (by kernel_rfl) (by kernel_rfl) (Or.inr ⟨by rfl, rfl⟩) ?_
          try simp only [Act.put, List.setIfInBounds_toArray, List.set_cons_zero, List.set_cons_succ]
          refine wpDet_take (i := 13) (oi := _) (v := undef) (by simp only [List.getElem?_toArray, List.getElem?_cons_zero, List.getElem?_cons_succ]; rfl) (by kernel_rfl) (by kernel_rfl) (by kernel_rfl) (Or.inr ⟨by rfl, rfl⟩) ?_
          try simp only [Act.put, List.setIfInBounds_toArray, List.set_cons_zero, List.set_cons_succ]
          refine wpDet_take (i := 14) (oi := _) (v := undef) (by simp only [List.getElem?_toArray, List.getElem?_cons_zero, List.getElem?_cons_succ]; rfl) (by kernel_rfl) (by kernel_rfl) (by kernel_rfl) (Or.inr ⟨by rfl, rfl⟩) ?_
          try simp only [Act.put, List.setIfInBounds_toArray, List.set_cons_zero, List.set_cons_succ]
          refine wpDet_take (i := 15) (oi := _) (v := undef) (by simp only [List.getElem?_toArray, List.getElem?_cons_zero, List.getElem?_cons_succ]; rfl) (by kernel_rfl) (by kernel_rfl) (by kernel_rfl) (Or.inr ⟨by rfl, rfl⟩) ?_
          try simp only [Act.put, List.setIfInBounds_toArray, List.set_cons_zero, List.set_cons_succ]
          refine wpDet_take (i := 16) (oi := _) (v := ?dv34) (by simp only [List.getElem?_toArray, List.getElem?_cons_zero, List.getElem?_cons_succ]; rfl) (by kernel_rfl) (by kernel_rfl) (by kernel_rfl) (Or.inl ⟨by rfl, ?dy34⟩) ?dr34
          case dy34 => (intro w hSw; have hS0 := hSw; (try dsimp only at hSw); go_simp; refine Came.value ?_ hS0; with_reducible rfl)
          try simp only [Act.put, List.setIfInBounds_toArray, List.set_cons_zero, List.set_cons_succ]
          refine wpDet_done (by kernel_rfl) ?_ _
          intro w3 hf3
          have k1 := row5 (hf3.heap HX1.out (by simp))
          have k2 := row5 (hf3.heap HX2.out (by simp))
          have HF3 := Lib.hid (HF1.out.trans hf3)
          have HG3 := Lib.hid (HG1.out.trans hf3)
          clear hf3
          go_wp2_with fail
          refine (validBids_any _ el _ ms _ A B is (HEV.out.keep HF3.out) (HBD.out.keep HF3.out) (HM.out.keep HF3.out) hms HS.out).mono ?_
          rintro e w4 ⟨rfl, hf4⟩
          by_cases hz : bidsC ms el = 0
          · have HN := Lib.hid (HAT.out.1 (HPZ.out.trans hz))
            rw [hz, show ev A 0 = .nilIface from rfl]
            clear hz
            go_wp2
            go_roundw
            case rel => exact ⟨k + 1, by omega, by go_num, HN.out, HLS.out HLO.out, ((HFB.out.trans HFX.out).trans HG3.out).trans hf4⟩
            case measure => simp [intOf]; omega
          · have HR : Hid (entsC ms none l = bidsC ms el) := by show _ = _; rw [HAT.out.2 (by rw [HPZ.out]; exact hz), HPZ.out]
            rw [ev_ne A hz]
            have HEN := Lib.hid (ev_ne A hz)
            clear hz
            go_wp2
            go_ret
            exact ⟨by rw [HR.out, HEN.out]; rfl, HF3.out.trans hf4⟩
      · obtain ⟨q, hq, hql, q0, q1⟩ := HQ hk0
        replace q0 := HF.out.cell q0 (by simp)
        replace q1 := HF.out.cell q1 (by simp)
        obtain ⟨qf, qd, qg, qb, qa⟩ := q
        simp only at q0 q1
        have HQ0 := Lib.hid q0
        have HQ1 := Lib.hid q1
        have HPP := Lib.hid ((prev_pos hk0).trans (congrArg some hq.symm))
        have HAL := Lib.hid (ahead_less hql HLO.out)
        have hgt : decide (0 < k) = true := by simp; omega
        have hn4 : (1 : Int) ≤ (k : Int) := by omega
        clear q0 q1 hq hql HQ hk0
        by_cases hles : Less ⟨qf, qd, qg, qb, qa⟩ ⟨e0, e1, e2, el, e4⟩
        · have HA := Lib.hid (yes (HAL.out.2 hles))
          have HPZ := Lib.hid (show entC ms (prevE l k) ⟨e0, e1, e2, el, e4⟩ = bidsC ms el from ent_bids ⟨HLO.out, HAW.out⟩ (by rw [HPP.out]; exact hles))
          clear hles
          rcases hcA with hne | ⟨hne, HD⟩
          · go_wp2_with fail
            refine (isLatch_any _ _ _ _ HC.out _).mono ?_
            rintro e w1 ⟨rfl, hf1⟩
            have HF1 := Lib.hid ((HF.out.trans HFX.out).trans hf1)
            have HG1 := Lib.hid hf1
            have HX1 := Lib.hid (hf1.heap HRX.out (by simp))
            have HX2 := Lib.hid (hf1.heap HBX.out (by simp))
            have k1 := row5 HX1.out
            have k2 := row5 HX2.out
            clear hf1
            go_wp2
            clear k1 k2
            have hn0 : (0 : Int) ≤ (k : Int) - 1 := by omega
            have hn3 : (k : Int) - 1 < (l.length : Int) := by omega
            have hn1 : ((k : Int) - 1).toNat = k - 1 := by omega
            have hn2 : IntKind.i64.wrap ((k : Int) - 1) = (k : Int) - 1 := IntWalk.i64_in _ (by omega)
            have k1 := row5 HX1.out
            have k2 := row5 HX2.out
            have HFQ := Lib.hid (HFX.out.trans HG1.out)
            refine wp_region_det (S := AheadS w1 w.heap.size (.slice (some ⟨bl, off, none⟩) l.length cap) bl (off + (k - 1) * 5) qf qd wr.heap.size e0 e1) (by kernel_rfl) (AheadS.keep ⟨Fr.refl _ _, k1.2.2.2.2, HFQ.out.cell HQ0.out (by simp), HFQ.out.cell HQ1.out (by simp), k2.1, k2.2.1⟩ (Fr.drew _ _)) ?_
            clear k1 k2
            refine wpDet_take (i := 0) (oi := _) (v := ?dv35) (by simp only [List.getElem?_toArray, List.getElem?_cons_zero]; rfl) (by kernel_rfl) (by kernel_rfl) (by kernel_rfl) (Or.inl ⟨by rfl, ?dy35⟩) ?dr35
            case dy35 => (intro w hSw; have hS0 := hSw; (try dsimp only [AheadS] at hSw); go_simp; refine Came.value ?_ hS0; with_reducible rfl)
            try simp only [Act.put, List.setIfInBounds_toArray, List.set_cons_zero, List.set_cons_succ]
            refine wpDet_take (i := 1) (oi := _) (v := ?dv36) (by simp only [List.getElem?_toArray, List.getElem?_cons_zero, List.getElem?_cons_succ]; rfl) (by kernel_rfl) (by kernel_rfl) (by kernel_rfl) (Or.inl ⟨by rfl, ?dy36⟩) ?dr36
            case dy36 => (intro w hSw; have hS0 := hSw; (try dsimp only [AheadS] at hSw); go_simp; refine Came.value ?_ hS0; with_reducible rfl)
            try simp only [Act.put, List.setIfInBounds_toArray, List.set_cons_zero, List.set_cons_succ]
            refine wpDet_take (i := 2) (oi := _) (v := ?dv37) (by simp only [List.getElem?_toArray, List.getElem?_cons_zero, List.getElem?_cons_succ]; rfl) (by kernel_rfl) (by kernel_rfl) (by kernel_rfl) (Or.inl ⟨by rfl, ?dy37⟩) ?dr37
            case dy37 => (intro w hSw; have hS0 := hSw; (try dsimp only [AheadS] at hSw); go_simp; refine Came.value ?_ hS0; with_reducible rfl)
            try simp only [Act.put, List.setIfInBounds_toArray, List.set_cons_zero, List.set_cons_succ]
            refine wpDet_take (i := 3) (oi := _) (v := ?dv38) (by simp only [List.getElem?_toArray, List.getElem?_cons_zero, List.getElem?_cons_succ]; rfl) (by kernel_rfl) (by kernel_rfl) (by kernel_rfl) (Or.inl ⟨by rfl, ?dy38⟩) ?dr38
            case dy38 => (intro w hSw; have hS0 := hSw; (try dsimp only [AheadS] at hSw); go_simp; refine Came.value ?_ hS0; with_reducible rfl)
            try simp only [Act.put, List.setIfInBounds_toArray, List.set_cons_zero, List.set_cons_succ]
            refine wpDet_take (i := 4) (oi := _) (v := ?dv39) (by simp only [List.getElem?_toArray, List.getElem?_cons_zero, List.getElem?_cons_succ]; rfl) (by kernel_rfl) (by kernel_rfl) (by kernel_rfl) (Or.inl ⟨by rfl, ?dy39⟩) ?dr39
            case dy39 => (intro w hSw; have hS0 := hSw; (try dsimp only [AheadS] at hSw); go_simp; refine Came.value ?_ hS0; with_reducible rfl)
            try simp only [Act.put, List.setIfInBounds_toArray, List.set_cons_zero, List.set_cons_succ]
            refine wpDet_take (i := 5) (oi := _) (v := ?dv40) (by simp only [List.getElem?_toArray, List.getElem?_cons_zero, List.getElem?_cons_succ]; rfl) (by kernel_rfl) (by kernel_rfl) (by kernel_rfl) (Or.inl ⟨by rfl, ?dy40⟩) ?dr40
            case dy40 => (intro w hSw; have hS0 := hSw; (try dsimp only [AheadS] at hSw); go_simp; refine Came.value ?_ hS0; with_reducible rfl)
            try simp only [Act.put, List.setIfInBounds_toArray, List.set_cons_zero, List.set_cons_succ]
            refine wpDet_take (i := 6) (oi := _) (v := ?dv41) (by simp only [List.getElem?_toArray, List.getElem?_cons_zero, List.getElem?_cons_succ]; rfl) (by kernel_rfl) (by kernel_rfl) (by kernel_rfl) (Or.inl ⟨by rfl, ?dy41⟩) ?dr41
            case dy41 => (intro w hSw; have hS0 := hSw; (try dsimp only [AheadS] at hSw); go_simp; refine Came.value ?_ hS0; with_reducible rfl)
            try simp only [Act.put, List.setIfInBounds_toArray, List.set_cons_zero, List.set_cons_succ]
            refine wpDet_take (i := 7) (oi := _) (v := ?dv42) (by simp only [List.getElem?_toArray, List.getElem?_cons_zero, List.getElem?_cons_succ]; rfl) (by kernel_rfl) (by kernel_rfl) (by kernel_rfl) (Or.inl ⟨by rfl, ?dy42⟩) ?dr42
            case dy42 => (intro w hSw; have hS0 := hSw; (try dsimp only [AheadS] at hSw); go_simp; refine Came.value ?_ hS0; with_reducible rfl)
            try simp only [Act.put, List.setIfInBounds_toArray, List.set_cons_zero, List.set_cons_succ]
            refine wpDet_take (i := 8) (oi := _) (v := ?dv43) (by simp only [List.getElem?_toArray, List.getElem?_cons_zero, List.getElem?_cons_succ]; rfl) (by kernel_rfl) (by kernel_rfl) (by kernel_rfl) (Or.inl ⟨by rfl, ?dy43⟩) ?dr43
            case dy43 => (intro w hSw; have hS0 := hSw; (try dsimp only [AheadS] at hSw); go_simp; refine Came.value ?_ hS0; with_reducible rfl)
            try simp only [Act.put, List.setIfInBounds_toArray, List.set_cons_zero, List.set_cons_succ]
            refine wpDet_take (i := 9) (oi := _) (v := ?dv44) (by simp only [List.getElem?_toArray, List.getElem?_cons_zero, List.getElem?_cons_succ]; rfl) (by kernel_rfl) (by kernel_rfl) (by kernel_rfl) (Or.inl ⟨by rfl, ?dy44⟩) ?dr44
            case dy44 => (intro w hSw; have hS0 := hSw; (try dsimp only [AheadS] at hSw); go_simp; refine Came.value ?_ hS0; with_reducible rfl)
            try simp only [Act.put, List.setIfInBounds_toArray, List.set_cons_zero, List.set_cons_succ]
            refine wpDet_take (i := 10) (oi := _) (v := ?dv45) (by simp only [List.getElem?_toArray, List.getElem?_cons_zero, List.getElem?_cons_succ]; rfl) (by kernel_rfl) (by kernel_rfl) (by kernel_rfl) (Or.inl ⟨by rfl, ?dy45⟩) ?dr45
            case dy45 => (intro w hSw; have hS0 := hSw; (try dsimp only [AheadS] at hSw); go_simp; refine Came.value ?_ hS0; with_reducible rfl)
            try simp only [Act.put, List.setIfInBounds_toArray, List.set_cons_zero, List.set_cons_succ]
            refine wpDet_take (i := 11) (oi := _) (v := ?dv46) (by simp only [List.getElem?_toArray, List.getElem?_cons_zero, List.getElem?_cons_succ]; rfl) (by kernel_rfl) (by kernel_rfl) (by kernel_rfl) (Or.inl ⟨by rfl, ?dy46⟩) ?dr46
            case dy46 => (intro w hSw; have hS0 := hSw; (try dsimp only [AheadS] at hSw); go_simp; refine Came.value ?_ hS0; with_reducible rfl)
            try simp only [Act.put, List.setIfInBounds_toArray, List.set_cons_zero, List.set_cons_succ]
            refine wpDet_take (i := 12) (oi := _) (v := ?dv47) (by simp only [List.getElem?_toArray, List.getElem?_cons_zero, List.getElem?_cons_succ]; rfl) (by kernel_rfl) (by kernel_rfl) (by kernel_rfl) (Or.inl ⟨by rfl, ?dy47⟩) ?dr47
            case dy47 => (intro w hSw; have hS0 := hSw; (try dsimp only [AheadS] at hSw); go_simp; refine Came.value ?_ hS0; with_reducible rfl)
            try simp only [Act.put, List.setIfInBounds_toArray, List.set_cons_zero, List.set_cons_succ]
            refine wpDet_take (i := 13) (oi := _) (v := ?dv48) (by simp only [List.getElem?_toArray, List.getElem?_cons_zero, List.getElem?_cons_succ]; rfl) (by kernel_rfl) (by kernel_rfl) (by kernel_rfl) (Or.inl ⟨by rfl, ?dy48⟩) ?dr48
            case dy48 => (intro w hSw; have hS0 := hSw; (try dsimp only [AheadS] at hSw); go_simp; refine Came.value ?_ hS0; with_reducible rfl)
            try simp only [Act.put, List.setIfInBounds_toArray, List.set_cons_zero, List.set_cons_succ]
            refine wpDet_take (i := 14) (oi := _) (v := ?dv49) (by simp only [List.getElem?_toArray, List.getElem?_cons_zero, List.getElem?_cons_succ]; rfl) (by kernel_rfl) (by kernel_rfl) (by kernel_rfl) (Or.inl ⟨by rfl, ?dy49⟩) ?dr49
            case dy49 => (intro w hSw; go_simp; exact Came.call ((ahead_any _ _ _ _ true HA.out w).mono fun e w' ⟨he, hf⟩ => ⟨he, hSw.keep hf⟩) (by with_reducible rfl))
            try simp only [Act.put, List.setIfInBounds_toArray, List.set_cons_zero, List.set_cons_succ]
            refine wpDet_take (i := 15) (oi := _) (v := ?dv50) (by simp only [List.getElem?_toArray, List.getElem?_cons_zero, List.getElem?_cons_succ]; rfl) (by kernel_rfl) (by kernel_rfl) (by kernel_rfl) (Or.inl ⟨by rfl, ?dy50⟩) ?dr50
            case dy50 => (intro w hSw; have hS0 := hSw; (try dsimp only [AheadS] at hSw); go_simp; refine Came.value ?_ hS0; with_reducible rfl)
            try simp only [Act.put, List.setIfInBounds_toArray, List.set_cons_zero, List.set_cons_succ]
            refine wpDet_take (i := 16) (oi := _) (v := ?dv51) (by simp only [List.getElem?_toArray, List.getElem?_cons_zero, List.getElem?_cons_succ]; rfl) (by kernel_rfl) (by kernel_rfl) (by kernel_rfl) (Or.inl ⟨by rfl, ?dy51⟩) ?dr51
            case dy51 => (intro w hSw; have hS0 := hSw; (try dsimp only [AheadS] at hSw); go_simp; refine Came.value ?_ hS0; with_reducible rfl)
            try simp only [Act.put, List.setIfInBounds_toArray, List.set_cons_zero, List.set_cons_succ]
            clear hn0 hn3 hn1 hn2
            refine wpDet_done (by kernel_rfl) ?_ _
            intro w3 hS3
            have hf3 := hS3.1
            clear hS3
            have k1 := row5 (hf3.heap HX1.out (by simp))
            have k2 := row5 (hf3.heap HX2.out (by simp))
            have HF3 := Lib.hid (HF1.out.trans hf3)
            have HG3 := Lib.hid (HG1.out.trans hf3)
            clear hf3
            go_wp2_with fail
            refine (validBids_any _ el _ ms _ A B is (HEV.out.keep HF3.out) (HBD.out.keep HF3.out) (HM.out.keep HF3.out) hms HS.out).mono ?_
            rintro e w4 ⟨rfl, hf4⟩
            by_cases hz : bidsC ms el = 0
            · have HN := Lib.hid (HAT.out.1 (HPZ.out.trans hz))
              rw [hz, show ev A 0 = .nilIface from rfl]
              clear hz
              go_wp2
              go_roundw
              case rel => exact ⟨k + 1, by omega, by go_num, HN.out, HLS.out HLO.out, ((HFB.out.trans HFX.out).trans HG3.out).trans hf4⟩
              case measure => simp [intOf]; omega
            · have HR : Hid (entsC ms none l = bidsC ms el) := by show _ = _; rw [HAT.out.2 (by rw [HPZ.out]; exact hz), HPZ.out]
              rw [ev_ne A hz]
              have HEN := Lib.hid (ev_ne A hz)
              clear hz
              go_wp2
              go_ret
              exact ⟨by rw [HR.out, HEN.out]; rfl, HF3.out.trans hf4⟩
          · go_wp2_with fail
            refine (isLatch_any _ _ _ _ HC.out _).mono ?_
            rintro e w1 ⟨rfl, hf1⟩
            have HF1 := Lib.hid ((HF.out.trans HFX.out).trans hf1)
            have HG1 := Lib.hid hf1
            have HX1 := Lib.hid (hf1.heap HRX.out (by simp))
            have HX2 := Lib.hid (hf1.heap HBX.out (by simp))
            have k1 := row5 HX1.out
            have k2 := row5 HX2.out
            clear hf1
            go_wp2_with fail
            refine (contains_any _ ms e4 _ HD.out _ (HM.out.keep HF1.out)).mono ?_
            rintro e w2 ⟨rfl, rfl⟩
            go_wp2
            clear k1 k2
            have hn0 : (0 : Int) ≤ (k : Int) - 1 := by omega
            have hn3 : (k : Int) - 1 < (l.length : Int) := by omega
            have hn1 : ((k : Int) - 1).toNat = k - 1 := by omega
            have hn2 : IntKind.i64.wrap ((k : Int) - 1) = (k : Int) - 1 := IntWalk.i64_in _ (by omega)
            have k1 := row5 HX1.out
            have k2 := row5 HX2.out
            have HFQ := Lib.hid (HFX.out.trans HG1.out)
            refine wp_region_det (S := AheadS w1 w.heap.size (.slice (some ⟨bl, off, none⟩) l.length cap) bl (off + (k - 1) * 5) qf qd wr.heap.size e0 e1) (by kernel_rfl) (AheadS.keep ⟨Fr.refl _ _, k1.2.2.2.2, HFQ.out.cell HQ0.out (by simp), HFQ.out.cell HQ1.out (by simp), k2.1, k2.2.1⟩ (Fr.drew _ _)) ?_
            clear k1 k2
            refine wpDet_take (i := 0) (oi := _) (v := ?dv52) (by simp only [List.getElem?_toArray, List.getElem?_cons_zero]; rfl) (by kernel_rfl) (by kernel_rfl) (by kernel_rfl) (Or.inl ⟨by rfl, ?dy52⟩) ?dr52
            case dy52 => (intro w hSw; have hS0 := hSw; (try dsimp only [AheadS] at hSw); go_simp; refine Came.value ?_ hS0; with_reducible rfl)
            try simp only [Act.put, List.setIfInBounds_toArray, List.set_cons_zero, List.set_cons_succ]
            refine wpDet_take (i := 1) (oi := _) (v := ?dv53) (by simp only [List.getElem?_toArray, List.getElem?_cons_zero, List.getElem?_cons_succ]; rfl) (by kernel_rfl) (by kernel_rfl) (by kernel_rfl) (Or.inl ⟨by rfl, ?dy53⟩) ?dr53
            case dy53 => (intro w hSw; have hS0 := hSw; (try dsimp only [AheadS] at hSw); go_simp; refine Came.value ?_ hS0; with_reducible rfl)
            try simp only [Act.put, List.setIfInBounds_toArray, List.set_cons_zero, List.set_cons_succ]
            refine wpDet_take (i := 2) (oi := _) (v := ?dv54) (by simp only [List.getElem?_toArray, List.getElem?_cons_zero, List.getElem?_cons_succ]; rfl) (by kernel_rfl) (by kernel_rfl) (by kernel_rfl) (Or.inl ⟨by rfl, ?dy54⟩) ?dr54
            case dy54 => (intro w hSw; have hS0 := hSw; (try dsimp only [AheadS] at hSw); go_simp; refine Came.value ?_ hS0; with_reducible rfl)
            try simp only [Act.put, List.setIfInBounds_toArray, List.set_cons_zero, List.set_cons_succ]
            refine wpDet_take (i := 3) (oi := _) (v := ?dv55) (by simp only [List.getElem?_toArray, List.getElem?_cons_zero, List.getElem?_cons_succ]; rfl) (by kernel_rfl) (by kernel_rfl) (by kernel_rfl) (Or.inl ⟨by rfl, ?dy55⟩) ?dr55
            case dy55 => (intro w hSw; have hS0 := hSw; (try dsimp only [AheadS] at hSw); go_simp; refine Came.value ?_ hS0; with_reducible rfl)
            try simp only [Act.put, List.setIfInBounds_toArray, List.set_cons_zero, List.set_cons_succ]
            refine wpDet_take (i := 4) (oi := _) (v := ?dv56) (by simp only [List.getElem?_toArray, List.getElem?_cons_zero, List.getElem?_cons_succ]; rfl) (by kernel_rfl) (by kernel_rfl) (by kernel_rfl) (Or.inl ⟨by rfl, ?dy56⟩) ?dr56
            case dy56 => (intro w hSw; have hS0 := hSw; (try dsimp only [AheadS] at hSw); go_simp; refine Came.value ?_ hS0; with_reducible rfl)
            try simp only [Act.put, List.setIfInBounds_toArray, List.set_cons_zero, List.set_cons_succ]
            refine wpDet_take (i := 5) (oi := _) (v := ?dv57) (by simp only [List.getElem?_toArray, List.getElem?_cons_zero, List.getElem?_cons_succ]; rfl) (by kernel_rfl) (by kernel_rfl) (by kernel_rfl) (Or.inl ⟨by rfl, ?dy57⟩) ?dr57
            case dy57 => (intro w hSw; have hS0 := hSw; (try dsimp only [AheadS] at hSw); go_simp; refine Came.value ?_ hS0; with_reducible rfl)
            try simp only [Act.put, List.setIfInBounds_toArray, List.set_cons_zero, List.set_cons_succ]
            refine wpDet_take (i := 6) (oi := _) (v := ?dv58) (by simp only [List.getElem?_toArray, List.getElem?_cons_zero, List.getElem?_cons_succ]; rfl) (by kernel_rfl) (by kernel_rfl) (by kernel_rfl) (Or.inl ⟨by rfl, ?dy58⟩) ?dr58
            case dy58 => (intro w hSw; have hS0 := hSw; (try dsimp only [AheadS] at hSw); go_simp; refine Came.value ?_ hS0; with_reducible rfl)
            try simp only [Act.put, List.setIfInBounds_toArray, List.set_cons_zero, List.set_cons_succ]
            refine wpDet_take (i := 7) (oi := _) (v := ?dv59) (by simp only [List.getElem?_toArray, List.getElem?_cons_zero, List.getElem?_cons_succ]; rfl) (by kernel_rfl) (by kernel_rfl) (by kernel_rfl) (Or.inl ⟨by rfl, ?dy59⟩) ?dr59
            case dy59 => (intro w hSw; have hS0 := hSw; (try dsimp only [AheadS] at hSw); go_simp; refine Came.value ?_ hS0; with_reducible rfl)
            try simp only [Act.put, List.setIfInBounds_toArray, List.set_cons_zero, List.set_cons_succ]
            refine wpDet_take (i := 8) (oi := _) (v := ?dv60) (by simp only [List.getElem?_toArray, List.getElem?_cons_zero, List.getElem?_cons_succ]; rfl) (by kernel_rfl) (by kernel_rfl) (by kernel_rfl) (Or.inl ⟨by rfl, ?dy60⟩) ?dr60
            case dy60 => (intro w hSw; have hS0 := hSw; (try dsimp only [AheadS] at hSw); go_simp; refine Came.value ?_ hS0; with_reducible rfl)
            try simp only [Act.put, List.setIfInBounds_toArray, List.set_cons_zero, List.set_cons_succ]
            refine wpDet_take (i := 9) (oi := _) (v := ?dv61) (by simp only [List.getElem?_toArray, List.getElem?_cons_zero, List.getElem?_cons_succ]; rfl) (by kernel_rfl) (by kernel_rfl) (by kernel_rfl) (Or.inl ⟨by rfl, ?dy61⟩) ?dr61
            case dy61 => (intro w hSw; have hS0 := hSw; (try dsimp only [AheadS] at hSw); go_simp; refine Came.value ?_ hS0; with_reducible rfl)
            try simp only [Act.put, List.setIfInBounds_toArray, List.set_cons_zero, List.set_cons_succ]
            refine wpDet_take (i := 10) (oi := _) (v := ?dv62) (by simp only [List.getElem?_toArray, List.getElem?_cons_zero, List.getElem?_cons_succ]; rfl) (by kernel_rfl) (by kernel_rfl) (by kernel_rfl) (Or.inl ⟨by rfl, ?dy62⟩) ?dr62
            case dy62 => (intro w hSw; have hS0 := hSw; (try dsimp only [AheadS] at hSw); go_simp; refine Came.value ?_ hS0; with_reducible rfl)
            try simp only [Act.put, List.setIfInBounds_toArray, List.set_cons_zero, List.set_cons_succ]
            refine wpDet_take (i := 11) (oi := _) (v := ?dv63) (by simp only [List.getElem?_toArray, List.getElem?_cons_zero, List.getElem?_cons_succ]; rfl) (by kernel_rfl) (by kernel_rfl) (by kernel_rfl) (Or.inl ⟨by rfl, ?dy63⟩) ?dr63
            case dy63 => (intro w hSw; have hS0 := hSw; (try dsimp only [AheadS] at hSw); go_simp; refine Came.value ?_ hS0; with_reducible rfl)
            try simp only [Act.put, List.setIfInBounds_toArray, List.set_cons_zero, List.set_cons_succ]
            refine wpDet_take (i := 12) (oi := _) (v := ?dv64) (by simp only [List.getElem?_toArray, List.getElem?_cons_zero, List.getElem?_cons_succ]; rfl) (by kernel_rfl) (by kernel_rfl) (by kernel_rfl) (Or.inl ⟨by rfl, ?dy64⟩) ?dr64
            case dy64 => (intro w hSw; have hS0 := hSw; (try dsimp only [AheadS] at hSw); go_simp; refine Came.value ?_ hS0; with_reducible rfl)
            try simp only [Act.put, List.setIfInBounds_toArray, List.set_cons_zero, List.set_cons_succ]
            refine wpDet_take (i := 13) (oi := _) (v := ?dv65) (by simp only [List.getElem?_toArray, List.getElem?_cons_zero, List.getElem?_cons_succ]; rfl) (by kernel_rfl) (by kernel_rfl) (by kernel_rfl) (Or.inl ⟨by rfl, ?dy65⟩) ?dr65
            case dy65 => (intro w hSw; have hS0 := hSw; (try dsimp only [AheadS] at hSw); go_simp; refine Came.value ?_ hS0; with_reducible rfl)
            try simp only [Act.put, List.setIfInBounds_toArray, List.set_cons_zero, List.set_cons_succ]
            refine wpDet_take (i := 14) (oi := _) (v := ?dv66) (by simp only [List.getElem?_toArray, List.getElem?_cons_zero, List.getElem?_cons_succ]; rfl) (by kernel_rfl) (by kernel_rfl) (by kernel_rfl) (Or.inl ⟨by rfl, ?dy66⟩) ?dr66
            case dy66 => (intro w hSw; go_simp; exact Came.call ((ahead_any _ _ _ _ true HA.out w).mono fun e w' ⟨he, hf⟩ => ⟨he, hSw.keep hf⟩) (by with_reducible rfl))
            try simp only [Act.put, List.setIfInBounds_toArray, List.set_cons_zero, List.set_cons_succ]
            refine wpDet_take (i := 15) (oi := _) (v := ?dv67) (by simp only [List.getElem?_toArray, List.getElem?_cons_zero, List.getElem?_cons_succ]; rfl) (by kernel_rfl) (by kernel_rfl) (by kernel_rfl) (Or.inl ⟨by rfl, ?dy67⟩) ?dr67
            case dy67 => (intro w hSw; have hS0 := hSw; (try dsimp only [AheadS] at hSw); go_simp; refine Came.value ?_ hS0; with_reducible rfl)
            try simp only [Act.put, List.setIfInBounds_toArray, List.set_cons_zero, List.set_cons_succ]
            refine wpDet_take (i := 16) (oi := _) (v := ?dv68) (by simp only [List.getElem?_toArray, List.getElem?_cons_zero, List.getElem?_cons_succ]; rfl) (by kernel_rfl) (by kernel_rfl) (by kernel_rfl) (Or.inl ⟨by rfl, ?dy68⟩) ?dr68
            case dy68 => (intro w hSw; have hS0 := hSw; (try dsimp only [AheadS] at hSw); go_simp; refine Came.value ?_ hS0; with_reducible rfl)
            try simp only [Act.put, List.setIfInBounds_toArray, List.set_cons_zero, List.set_cons_succ]
            clear hn0 hn3 hn1 hn2
            refine wpDet_done (by kernel_rfl) ?_ _
            intro w3 hS3
            have hf3 := hS3.1
            clear hS3
            have k1 := row5 (hf3.heap HX1.out (by simp))
            have k2 := row5 (hf3.heap HX2.out (by simp))
            have HF3 := Lib.hid (HF1.out.trans hf3)
            have HG3 := Lib.hid (HG1.out.trans hf3)
            clear hf3
            go_wp2_with fail
            refine (validBids_any _ el _ ms _ A B is (HEV.out.keep HF3.out) (HBD.out.keep HF3.out) (HM.out.keep HF3.out) hms HS.out).mono ?_
            rintro e w4 ⟨rfl, hf4⟩
            by_cases hz : bidsC ms el = 0
            · have HN := Lib.hid (HAT.out.1 (HPZ.out.trans hz))
              rw [hz, show ev A 0 = .nilIface from rfl]
              clear hz
              go_wp2
              go_roundw
              case rel => exact ⟨k + 1, by omega, by go_num, HN.out, HLS.out HLO.out, ((HFB.out.trans HFX.out).trans HG3.out).trans hf4⟩
              case measure => simp [intOf]; omega
            · have HR : Hid (entsC ms none l = bidsC ms el) := by show _ = _; rw [HAT.out.2 (by rw [HPZ.out]; exact hz), HPZ.out]
              rw [ev_ne A hz]
              have HEN := Lib.hid (ev_ne A hz)
              clear hz
              go_wp2
              go_ret
              exact ⟨by rw [HR.out, HEN.out]; rfl, HF3.out.trans hf4⟩
        · have HA := Lib.hid (no (fun q => hles (HAL.out.1 q)))
          have HR : Hid (entsC ms none l = 11) := by
            have e3 : entC ms (prevE l k) ⟨e0, e1, e2, el, e4⟩ = 11 := ent_after ⟨HLO.out, HAW.out⟩ (by rw [HPP.out]; exact hles)
            show _ = _
            rw [HAT.out.2 (by rw [e3]; decide), e3]
          clear hles
          rcases hcA with hne | ⟨hne, HD⟩
          · go_wp2_with fail
            refine (isLatch_any _ _ _ _ HC.out _).mono ?_
            rintro e w1 ⟨rfl, hf1⟩
            have HF1 := Lib.hid ((HF.out.trans HFX.out).trans hf1)
            have HG1 := Lib.hid hf1
            have HX1 := Lib.hid (hf1.heap HRX.out (by simp))
            have HX2 := Lib.hid (hf1.heap HBX.out (by simp))
            have k1 := row5 HX1.out
            have k2 := row5 HX2.out
            clear hf1
            go_wp2
            clear k1 k2
            have hn0 : (0 : Int) ≤ (k : Int) - 1 := by omega
            have hn3 : (k : Int) - 1 < (l.length : Int) := by omega
            have hn1 : ((k : Int) - 1).toNat = k - 1 := by omega
            have hn2 : IntKind.i64.wrap ((k : Int) - 1) = (k : Int) - 1 := IntWalk.i64_in _ (by omega)
            have k1 := row5 HX1.out
            have k2 := row5 HX2.out
            have HFQ := Lib.hid (HFX.out.trans HG1.out)
            refine wp_region_det (S := AheadS w1 w.heap.size (.slice (some ⟨bl, off, none⟩) l.length cap) bl (off + (k - 1) * 5) qf qd wr.heap.size e0 e1) (by kernel_rfl) (AheadS.keep ⟨Fr.refl _ _, k1.2.2.2.2, HFQ.out.cell HQ0.out (by simp), HFQ.out.cell HQ1.out (by simp), k2.1, k2.2.1⟩ (Fr.drew _ _)) ?_
            clear k1 k2
            refine wpDet_take (i := 0) (oi := _) (v := ?dv69) (by simp only [List.getElem?_toArray, List.getElem?_cons_zero]; rfl) (by kernel_rfl) (by kernel_rfl) (by kernel_rfl) (Or.inl ⟨by rfl, ?dy69⟩) ?dr69
            case dy69 => (intro w hSw; have hS0 := hSw; (try dsimp only [AheadS] at hSw); go_simp; refine Came.value ?_ hS0; with_reducible rfl)
            try simp only [Act.put, List.setIfInBounds_toArray, List.set_cons_zero, List.set_cons_succ]
            refine wpDet_take (i := 1) (oi := _) (v := ?dv70) (by simp only [List.getElem?_toArray, List.getElem?_cons_zero, List.getElem?_cons_succ]; rfl) (by kernel_rfl) (by kernel_rfl) (by kernel_rfl) (Or.inl ⟨by rfl, ?dy70⟩) ?dr70
            case dy70 => (intro w hSw; have hS0 := hSw; (try dsimp only [AheadS] at hSw); go_simp; refine Came.value ?_ hS0; with_reducible rfl)
            try simp only [Act.put, List.setIfInBounds_toArray, List.set_cons_zero, List.set_cons_succ]
            refine wpDet_take (i := 2) (oi := _) (v := ?dv71) (by simp only [List.getElem?_toArray, List.getElem?_cons_zero, List.getElem?_cons_succ]; rfl) (by kernel_rfl) (by kernel_rfl) (by kernel_rfl) (Or.inl ⟨by rfl, ?dy71⟩) ?dr71
            case dy71 => (intro w hSw; have hS0 := hSw; (try dsimp only [AheadS] at hSw); go_simp; refine Came.value ?_ hS0; with_reducible rfl)
            try simp only [Act.put, List.setIfInBounds_toArray, List.set_cons_zero, List.set_cons_succ]
            refine wpDet_take (i := 3) (oi := _) (v := ?dv72) (by simp only [List.getElem?_toArray, List.getElem?_cons_zero, List.getElem?_cons_succ]; rfl) (by kernel_rfl) (by kernel_rfl) (by kernel_rfl) (Or.inl ⟨by rfl, ?dy72⟩) ?dr72
            case dy72 => (intro w hSw; have hS0 := hSw; (try dsimp only [AheadS] at hSw); go_simp; refine Came.value ?_ hS0; with_reducible rfl)
            try simp only [Act.put, List.setIfInBounds_toArray, List.set_cons_zero, List.set_cons_succ]
            refine wpDet_take (i := 4) (oi := _) (v := ?dv73) (by simp only [List.getElem?_toArray, List.getElem?_cons_zero, List.getElem?_cons_succ]; rfl) (by kernel_rfl) (by kernel_rfl) (by kernel_rfl) (Or.inl ⟨by rfl, ?dy73⟩) ?dr73
            case dy73 => (intro w hSw; have hS0 := hSw; (try dsimp only [AheadS] at hSw); go_simp; refine Came.value ?_ hS0; with_reducible rfl)
            try simp only [Act.put, List.setIfInBounds_toArray, List.set_cons_zero, List.set_cons_succ]
            refine wpDet_take (i := 5) (oi := _) (v := ?dv74) (by simp only [List.getElem?_toArray, List.getElem?_cons_zero, List.getElem?_cons_succ]; rfl) (by kernel_rfl) (by kernel_rfl) (by kernel_rfl) (Or.inl ⟨by rfl, ?dy74⟩) ?dr74
            case dy74 => (intro w hSw; have hS0 := hSw; (try dsimp only [AheadS] at hSw); go_simp; refine Came.value ?_ hS0; with_reducible rfl)
            try simp only [Act.put, List.setIfInBounds_toArray, List.set_cons_zero, List.set_cons_succ]
            refine wpDet_take (i := 6) (oi := _) (v := ?dv75) (by simp only [List.getElem?_toArray, List.getElem?_cons_zero, List.getElem?_cons_succ]; rfl) (by kernel_rfl) (by kernel_rfl) (by kernel_rfl) (Or.inl ⟨by rfl, ?dy75⟩) ?dr75
            case dy75 => (intro w hSw; have hS0 := hSw; (try dsimp only [AheadS] at hSw); go_simp; refine Came.value ?_ hS0; with_reducible rfl)
            try simp only [Act.put, List.setIfInBounds_toArray, List.set_cons_zero, List.set_cons_succ]
            refine wpDet_take (i := 7) (oi := _) (v := ?dv76) (by simp only [List.getElem?_toArray, List.getElem?_cons_zero, List.getElem?_cons_succ]; rfl) (by kernel_rfl) (by kernel_rfl) (by kernel_rfl) (Or.inl ⟨by rfl, ?dy76⟩) ?dr76
            case dy76 => (intro w hSw; have hS0 := hSw; (try dsimp only [AheadS] at hSw); go_simp; refine Came.value ?_ hS0; with_reducible rfl)
            try simp only [Act.put, List.setIfInBounds_toArray, List.set_cons_zero, List.set_cons_succ]
            refine wpDet_take (i := 8) (oi := _) (v := ?dv77) (by simp only [List.getElem?_toArray, List.getElem?_cons_zero, List.getElem?_cons_succ]; rfl) (by kernel_rfl) (by kernel_rfl) (by kernel_rfl) (Or.inl ⟨by rfl, ?dy77⟩) ?dr77
            case dy77 => (intro w hSw; have hS0 := hSw; (try dsimp only [AheadS] at hSw); go_simp; refine Came.value ?_ hS0; with_reducible rfl)
            try simp only [Act.put, List.setIfInBounds_toArray, List.set_cons_zero, List.set_cons_succ]
            refine wpDet_take (i := 9) (oi := _) (v := ?dv78) (by simp only [List.getElem?_toArray, List.getElem?_cons_zero, List.getElem?_cons_succ]; rfl) (by kernel_rfl) (by kernel_rfl) (by kernel_rfl) (Or.inl ⟨by rfl, ?dy78⟩) ?dr78
            case dy78 => (intro w hSw; have hS0 := hSw; (try dsimp only [AheadS] at hSw); go_simp; refine Came.value ?_ hS0; with_reducible rfl)
            try simp only [Act.put, List.setIfInBounds_toArray, List.set_cons_zero, List.set_cons_succ]
            refine wpDet_take (i := 10) (oi := _) (v := ?dv79) (by simp only [List.getElem?_toArray, List.getElem?_cons_zero, List.getElem?_cons_succ]; rfl) (by kernel_rfl) (by kernel_rfl) (by kernel_rfl) (Or.inl ⟨by rfl, ?dy79⟩) ?dr79
            case dy79 => (intro w hSw; have hS0 := hSw; (try dsimp only [AheadS] at hSw); go_simp; refine Came.value ?_ hS0; with_reducible rfl)
            try simp only [Act.put, List.setIfInBounds_toArray, List.set_cons_zero, List.set_cons_succ]
            refine wpDet_take (i := 11) (oi := _) (v := ?dv80) (by simp only [List.getElem?_toArray, List.getElem?_cons_zero, List.getElem?_cons_succ]; rfl) (by kernel_rfl) (by kernel_rfl) (by kernel_rfl) (Or.inl ⟨by rfl, ?dy80⟩) ?dr80
            case dy80 => (intro w hSw; have hS0 := hSw; (try dsimp only [AheadS] at hSw); go_simp; refine Came.value ?_ hS0; with_reducible rfl)
            try simp only [Act.put, List.setIfInBounds_toArray, List.set_cons_zero, List.set_cons_succ]
            refine wpDet_take (i := 12) (oi := _) (v := ?dv81) (by simp only [List.getElem?_toArray, List.getElem?_cons_zero, List.getElem?_cons_succ]; rfl) (by kernel_rfl) (by kernel_rfl) (by kernel_rfl) (Or.inl ⟨by rfl, ?dy81⟩) ?dr81
            case dy81 => (intro w hSw; have hS0 := hSw; (try dsimp only [AheadS] at hSw); go_simp; refine Came.value ?_ hS0; with_reducible rfl)
            try simp only [Act.put, List.setIfInBounds_toArray, List.set_cons_zero, List.set_cons_succ]
            refine wpDet_take (i := 13) (oi := _) (v := ?dv82) (by simp only [List.getElem?_toArray, List.getElem?_cons_zero, List.getElem?_cons_succ]; rfl) (by kernel_rfl) (by kernel_rfl) (by kernel_rfl) (Or.inl ⟨by rfl, ?dy82⟩) ?dr82
            case dy82 => (intro w hSw; have hS0 := hSw; (try dsimp only [AheadS] at hSw); go_simp; refine Came.value ?_ hS0; with_reducible rfl)
            try simp only [Act.put, List.setIfInBounds_toArray, List.set_cons_zero, List.set_cons_succ]
            refine wpDet_take (i := 14) (oi := _) (v := ?dv83) (by simp only [List.getElem?_toArray, List.getElem?_cons_zero, List.getElem?_cons_succ]; rfl) (by kernel_rfl) (by kernel_rfl) (by kernel_rfl) (Or.inl ⟨by rfl, ?dy83⟩) ?dr83
            case dy83 => (intro w hSw; go_simp; exact Came.call ((ahead_any _ _ _ _ false HA.out w).mono fun e w' ⟨he, hf⟩ => ⟨he, hSw.keep hf⟩) (by with_reducible rfl))
            try simp only [Act.put, List.setIfInBounds_toArray, List.set_cons_zero, List.set_cons_succ]
            refine wpDet_take (i := 15) (oi := _) (v := ?dv84) (by simp only [List.getElem?_toArray, List.getElem?_cons_zero, List.getElem?_cons_succ]; rfl) (by kernel_rfl) (by kernel_rfl) (by kernel_rfl) (Or.inl ⟨by rfl, ?dy84⟩) ?dr84
            case dy84 => (intro w hSw; have hS0 := hSw; (try dsimp only [AheadS] at hSw); go_simp; refine Came.value ?_ hS0; with_reducible rfl)
            try simp only [Act.put, List.setIfInBounds_toArray, List.set_cons_zero, List.set_cons_succ]
            refine wpDet_take (i := 16) (oi := _) (v := ?dv85) (by simp only [List.getElem?_toArray, List.getElem?_cons_zero, List.getElem?_cons_succ]; rfl) (by kernel_rfl) (by kernel_rfl) (by kernel_rfl) (Or.inl ⟨by rfl, ?dy85⟩) ?dr85
            case dy85 => (intro w hSw; have hS0 := hSw; (try dsimp only [AheadS] at hSw); go_simp; refine Came.value ?_ hS0; with_reducible rfl)
            try simp only [Act.put, List.setIfInBounds_toArray, List.set_cons_zero, List.set_cons_succ]
            clear hn0 hn3 hn1 hn2
            refine wpDet_done (by kernel_rfl) ?_ _
            intro w3 hS3
            have hf3 := hS3.1
            clear hS3
            have k1 := row5 (hf3.heap HX1.out (by simp))
            have k2 := row5 (hf3.heap HX2.out (by simp))
            have HF3 := Lib.hid (HF1.out.trans hf3)
            have HG3 := Lib.hid (HG1.out.trans hf3)
            clear hf3
            have hT := (HEV.out.keep HF3.out).twice (HS.out 10 (by decide))
            go_wp2
            go_ret
            exact ⟨by rw [HR.out]; rfl, HF3.out⟩
          · go_wp2_with fail
            refine (isLatch_any _ _ _ _ HC.out _).mono ?_
            rintro e w1 ⟨rfl, hf1⟩
            have HF1 := Lib.hid ((HF.out.trans HFX.out).trans hf1)
            have HG1 := Lib.hid hf1
            have HX1 := Lib.hid (hf1.heap HRX.out (by simp))
            have HX2 := Lib.hid (hf1.heap HBX.out (by simp))
            have k1 := row5 HX1.out
            have k2 := row5 HX2.out
            clear hf1
            go_wp2_with fail
            refine (contains_any _ ms e4 _ HD.out _ (HM.out.keep HF1.out)).mono ?_
            rintro e w2 ⟨rfl, rfl⟩
            go_wp2
            clear k1 k2
            have hn0 : (0 : Int) ≤ (k : Int) - 1 := by omega
            have hn3 : (k : Int) - 1 < (l.length : Int) := by omega
            have hn1 : ((k : Int) - 1).toNat = k - 1 := by omega
            have hn2 : IntKind.i64.wrap ((k : Int) - 1) = (k : Int) - 1 := IntWalk.i64_in _ (by omega)
            have k1 := row5 HX1.out
            have k2 := row5 HX2.out
            have HFQ := Lib.hid (HFX.out.trans HG1.out)
            refine wp_region_det (S := AheadS w1 w.heap.size (.slice (some ⟨bl, off, none⟩) l.length cap) bl (off + (k - 1) * 5) qf qd wr.heap.size e0 e1) (by kernel_rfl) (AheadS.keep ⟨Fr.refl _ _, k1.2.2.2.2, HFQ.out.cell HQ0.out (by simp), HFQ.out.cell HQ1.out (by simp), k2.1, k2.2.1⟩ (Fr.drew _ _)) ?_
            clear k1 k2
            refine wpDet_take (i := 0) (oi := _) (v := ?dv86) (by simp only [List.getElem?_toArray, List.getElem?_cons_zero]; rfl) (by kernel_rfl) (by kernel_rfl) (by kernel_rfl) (Or.inl ⟨by rfl, ?dy86⟩) ?dr86
            case dy86 => (intro w hSw; have hS0 := hSw; (try dsimp only [AheadS] at hSw); go_simp; refine Came.value ?_ hS0; with_reducible rfl)
            try simp only [Act.put, List.setIfInBounds_toArray, List.set_cons_zero, List.set_cons_succ]
            refine wpDet_take (i := 1) (oi := _) (v := ?dv87) (by simp only [List.getElem?_toArray, List.getElem?_cons_zero, List.getElem?_cons_succ]; rfl) (by kernel_rfl) (by kernel_rfl) (by kernel_rfl) (Or.inl ⟨by rfl, ?dy87⟩) ?dr87
            case dy87 => (intro w hSw; have hS0 := hSw; (try dsimp only [AheadS] at hSw); go_simp; refine Came.value ?_ hS0; with_reducible rfl)
            try simp only [Act.put, List.setIfInBounds_toArray, List.set_cons_zero, List.set_cons_succ]
            refine wpDet_take (i := 2) (oi := _) (v := ?dv88) (by simp only [List.getElem?_toArray, List.getElem?_cons_zero, List.getElem?_cons_succ]; rfl) (by kernel_rfl) (by kernel_rfl) (by kernel_rfl) (Or.inl ⟨by rfl, ?dy88⟩) ?dr88
            case dy88 => (intro w hSw; have hS0 := hSw; (try dsimp only [AheadS] at hSw); go_simp; refine Came.value ?_ hS0; with_reducible rfl)
            try simp only [Act.put, List.setIfInBounds_toArray, List.set_cons_zero, List.set_cons_succ]
            refine wpDet_take (i := 3) (oi := _) (v := ?dv89) (by simp only [List.getElem?_toArray, List.getElem?_cons_zero, List.getElem?_cons_succ]; rfl) (by kernel_rfl) (by kernel_rfl) (by kernel_rfl) (Or.inl ⟨by rfl, ?dy89⟩) ?dr89
            case dy89 => (intro w hSw; have hS0 := hSw; (try dsimp only [AheadS] at hSw); go_simp; refine Came.value ?_ hS0; with_reducible rfl)
            try simp only [Act.put, List.setIfInBounds_toArray, List.set_cons_zero, List.set_cons_succ]
            refine wpDet_take (i := 4) (oi := _) (v := ?dv90) (by simp only [List.getElem?_toArray, List.getElem?_cons_zero, List.getElem?_cons_succ]; rfl) (by kernel_rfl) (by kernel_rfl) (by kernel_rfl) (Or.inl ⟨by rfl, ?dy90⟩) ?dr90
            case dy90 => (intro w hSw; have hS0 := hSw; (try dsimp only [AheadS] at hSw); go_simp; refine Came.value ?_ hS0; with_reducible rfl)
            try simp only [Act.put, List.setIfInBounds_toArray, List.set_cons_zero, List.set_cons_succ]
            refine wpDet_take (i := 5) (oi := _) (v := ?dv91) (by simp only [List.getElem?_toArray, List.getElem?_cons_zero, List.getElem?_cons_succ]; rfl) (by kernel_rfl) (by kernel_rfl) (by kernel_rfl) (Or.inl ⟨by rfl, ?dy91⟩) ?dr91
            case dy91 => (intro w hSw; have hS0 := hSw; (try dsimp only [AheadS] at hSw); go_simp; refine Came.value ?_ hS0; with_reducible rfl)
            try simp only [Act.put, List.setIfInBounds_toArray, List.set_cons_zero, List.set_cons_succ]
            refine wpDet_take (i := 6) (oi := _) (v := ?dv92) (by simp only [List.getElem?_toArray, List.getElem?_cons_zero, List.getElem?_cons_succ]; rfl) (by kernel_rfl) (by kernel_rfl) (by kernel_rfl) (Or.inl ⟨by rfl, ?dy92⟩) ?dr92
            case dy92 => (intro w hSw; have hS0 := hSw; (try dsimp only [AheadS] at hSw); go_simp; refine Came.value ?_ hS0; with_reducible rfl)
            try simp only [Act.put, List.setIfInBounds_toArray, List.set_cons_zero, List.set_cons_succ]
            refine wpDet_take (i := 7) (oi := _) (v := ?dv93) (by simp only [List.getElem?_toArray, List.getElem?_cons_zero, List.getElem?_cons_succ]; rfl) (by kernel_rfl) (by kernel_rfl) (by kernel_rfl) (Or.inl ⟨by rfl, ?dy93⟩) ?dr93
            case dy93 => (intro w hSw; have hS0 := hSw; (try dsimp only [AheadS] at hSw); go_simp; refine Came.value ?_ hS0; with_reducible rfl)
            try simp only [Act.put, List.setIfInBounds_toArray, List.set_cons_zero, List.set_cons_succ]
            refine wpDet_take (i := 8) (oi := _) (v := ?dv94) (by simp only [List.getElem?_toArray, List.getElem?_cons_zero, List.getElem?_cons_succ]; rfl) (by kernel_rfl) (by kernel_rfl) (by kernel_rfl) (Or.inl ⟨by rfl, ?dy94⟩) ?dr94
            case dy94 => (intro w hSw; have hS0 := hSw; (try dsimp only [AheadS] at hSw); go_simp; refine Came.value ?_ hS0; with_reducible rfl)
            try simp only [Act.put, List.setIfInBounds_toArray, List.set_cons_zero, List.set_cons_succ]
            refine wpDet_take (i := 9) (oi := _) (v := ?dv95) (by simp only [List.getElem?_toArray, List.getElem?_cons_zero, List.getElem?_cons_succ]; rfl) (by kernel_rfl) (by kernel_rfl) (by kernel_rfl) (Or.inl ⟨by rfl, ?dy95⟩) ?dr95
            case dy95 => (intro w hSw; have hS0 := hSw; (try dsimp only [AheadS] at hSw); go_simp; refine Came.value ?_ hS0; with_reducible rfl)
            try simp only [Act.put, List.setIfInBounds_toArray, List.set_cons_zero, List.set_cons_succ]
            refine wpDet_take (i := 10) (oi := _) (v := ?dv96) (by simp only [List.getElem?_toArray, List.getElem?_cons_zero, List.getElem?_cons_succ]; rfl) (by kernel_rfl) (by kernel_rfl) (by kernel_rfl) (Or.inl ⟨by rfl, ?dy96⟩) ?dr96
            case dy96 => (intro w hSw; have hS0 := hSw; (try dsimp only [AheadS] at hSw); go_simp; refine Came.value ?_ hS0; with_reducible rfl)
            try simp only [Act.put, List.setIfInBounds_toArray, List.set_cons_zero, List.set_cons_succ]
            refine wpDet_take (i := 11) (oi := _) (v := ?dv97) (by simp only [List.getElem?_toArray, List.getElem?_cons_zero, List.getElem?_cons_succ]; rfl) (by kernel_rfl) (by kernel_rfl) (by kernel_rfl) (Or.inl ⟨by rfl, ?dy97⟩) ?dr97
            case dy97 => (intro w hSw; have hS0 := hSw; (try dsimp only [AheadS] at hSw); go_simp; refine Came.value ?_ hS0; with_reducible rfl)
            try simp only [Act.put, List.setIfInBounds_toArray, List.set_cons_zero, List.set_cons_succ]
            refine wpDet_take (i := 12) (oi := _) (v := ?dv98) (by simp only [List.getElem?_toArray, List.getElem?_cons_zero, List.getElem?_cons_succ]; rfl) (by kernel_rfl) (by kernel_rfl) (by kernel_rfl) (Or.inl ⟨by rfl, ?dy98⟩) ?dr98
            case dy98 => (intro w hSw; have hS0 := hSw; (try dsimp only [AheadS] at hSw); go_simp; refine Came.value ?_ hS0; with_reducible rfl)
            try simp only [Act.put, List.setIfInBounds_toArray, List.set_cons_zero, List.set_cons_succ]
            refine wpDet_take (i := 13) (oi := _) (v := ?dv99) (by simp only [List.getElem?_toArray, List.getElem?_cons_zero, List.getElem?_cons_succ]; rfl) (by kernel_rfl) (by kernel_rfl) (by kernel_rfl) (Or.inl ⟨by rfl, ?dy99⟩) ?dr99
            case dy99 => (intro w hSw; have hS0 := hSw; (try dsimp only [AheadS] at hSw); go_simp; refine Came.value ?_ hS0; with_reducible rfl)
            try simp only [Act.put, List.setIfInBounds_toArray, List.set_cons_zero, List.set_cons_succ]
            refine wpDet_take (i := 14) (oi := _) (v := ?dv100) (by simp only [List.getElem?_toArray, List.getElem?_cons_zero, List.getElem?_cons_succ]; rfl) (by kernel_rfl) (by kernel_rfl) (by kernel_rfl) (Or.inl ⟨by rfl, ?dy100⟩) ?dr100
            case dy100 => (intro w hSw; go_simp; exact Came.call ((ahead_any _ _ _ _ false HA.out w).mono fun e w' ⟨he, hf⟩ => ⟨he, hSw.keep hf⟩) (by with_reducible rfl))
            try simp only [Act.put, List.setIfInBounds_toArray, List.set_cons_zero, List.set_cons_succ]
            refine wpDet_take (i := 15) (oi := _) (v := ?dv101) (by simp only [List.getElem?_toArray, List.getElem?_cons_zero, List.getElem?_cons_succ]; rfl) (by kernel_rfl) (by kernel_rfl) (by kernel_rfl) (Or.inl ⟨by rfl, ?dy101⟩) ?dr101
            case dy101 => (intro w hSw; have hS0 := hSw; (try dsimp only [AheadS] at hSw); go_simp; refine Came.value ?_ hS0; with_reducible rfl)
            try simp only [Act.put, List.setIfInBounds_toArray, List.set_cons_zero, List.set_cons_succ]
            refine wpDet_take (i := 16) (oi := _) (v := ?dv102) (by simp only [List.getElem?_toArray, List.getElem?_cons_zero, List.getElem?_cons_succ]; rfl) (by kernel_rfl) (by kernel_rfl) (by kernel_rfl) (Or.inl ⟨by rfl, ?dy102⟩) ?dr102
            case dy102 => (intro w hSw; have hS0 := hSw; (try dsimp only [AheadS] at hSw); go_simp; refine Came.value ?_ hS0; with_reducible rfl)
            try simp only [Act.put, List.setIfInBounds_toArray, List.set_cons_zero, List.set_cons_succ]
            clear hn0 hn3 hn1 hn2
            refine wpDet_done (by kernel_rfl) ?_ _
            intro w3 hS3
            have hf3 := hS3.1
            clear hS3
            have k1 := row5 (hf3.heap HX1.out (by simp))
            have k2 := row5 (hf3.heap HX2.out (by simp))
            have HF3 := Lib.hid (HF1.out.trans hf3)
            have HG3 := Lib.hid (HG1.out.trans hf3)
            clear hf3
            have hT := (HEV.out.keep HF3.out).twice (HS.out 10 (by decide))
            go_wp2
            go_ret
            exact ⟨by rw [HR.out]; rfl, HF3.out⟩
    · obtain rfl : k = l.length := by omega
      have HR : Hid (entsC ms none l = 0) := by
        show _ = _
        rw [← hrec, List.drop_length]; rfl
      clear h3 hrec
      go_wp2
      go_ret
      exact ⟨by rw [HR.out]; rfl, HF.out⟩
end Go.Proofs.YtpeocdcciecpoaaDoor
