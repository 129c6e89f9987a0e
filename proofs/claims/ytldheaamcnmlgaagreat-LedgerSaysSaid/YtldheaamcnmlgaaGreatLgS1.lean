/- Package ledger: whether two rings are the same. -/
import Derived.Test.YtldheaamcnmlgaaGreatGLg
import Derived.Test.YtldheaamcnmlgaaGreatGLf
import Derived.Test.YtldheaamcnmlgaaGreatGLd
namespace Go.Proofs.YtldheaamcnmlgaaGreat
open Go.RowKit Fm

theorem fr_drewN {w w' : World} {q : Nat} (h : w' = w.drewN q) : Fr w w' [] := by rw [h]; exact Fr.drewN w q []
set_option maxRecDepth 100000 in
theorem eqBids_any (v1 : Value) (l : List (Int × Int)) (v2 : Value) (m : List (Int × Int)) (w : World) (h1 : HB w v1 l) (h2 : HB w v2 m) (b : Bool) (hb : b = true ↔ l = m) :
    Calls Tryz.prog 89 #[v1, v2] w fun e w' => e = .returned (.bool b) ∧ Fr w w' [] := by
  obtain ⟨a1, c1, rfl, p1, q1, r1⟩ := h1
  obtain ⟨a2, c2, rfl, p2, q2, r2⟩ := h2
  unfold maxLen at q1 q2
  have HB := Lib.hid hb
  clear hb
  by_cases hl : l.length = m.length
  · have hne : ((l.length : Int) != (m.length : Int)) = false := by simp [hl]
    have HL := Lib.hid hl
    clear hl
    go_enter Tryz.func89, Tryz.ntmps89
    go_wp2
    go_loopw [13] (fun i wr => ∃ k : Nat, k ≤ l.length ∧ i = .int .i64 k ∧ l.take k = m.take k ∧ Fr w wr []) (fun i _ => l.length - (intOf i).toNat)
    case atStart => exact ⟨0, Nat.zero_le _, rfl, by simp, Fr.refl _ _⟩
    case round =>
      obtain ⟨k, hk, rfl, hpre, hg⟩ := hrel
      have HP := Lib.hid hpre
      have HG := Lib.hid hg
      clear hpre
      by_cases hlt : k < l.length
      · have hlt2 : k < m.length := by have := HL.out; omega
        obtain ⟨b1, o1, rfl, k1⟩ := r1 (by omega)
        obtain ⟨b2, o2, rfl, k2⟩ := r2 (by omega)
        obtain ⟨x, hx⟩ : ∃ x, x = (l.getD k (0, 0)).1 := ⟨_, rfl⟩
        obtain ⟨x', hx'⟩ : ∃ x, x = (l.getD k (0, 0)).2 := ⟨_, rfl⟩
        obtain ⟨y, hy⟩ : ∃ y, y = (m.getD k (0, 0)).1 := ⟨_, rfl⟩
        obtain ⟨y', hy'⟩ : ∃ y, y = (m.getD k (0, 0)).2 := ⟨_, rfl⟩
        have g1 : wr.cell? ⟨b1, o1 + k * 2, none⟩ = some (.int .i64 x) := by rw [hx]; exact hg.cell (k1 k hlt).1 (by simp)
        have g1' : wr.cell? ⟨b1, o1 + k * 2 + 1, none⟩ = some (.int .i64 x') := by rw [hx']; exact hg.cell (k1 k hlt).2 (by simp)
        have g2 : wr.cell? ⟨b2, o2 + k * 2, none⟩ = some (.int .i64 y) := by rw [hy]; exact hg.cell (k2 k hlt2).1 (by simp)
        have g2' : wr.cell? ⟨b2, o2 + k * 2 + 1, none⟩ = some (.int .i64 y') := by rw [hy']; exact hg.cell (k2 k hlt2).2 (by simp)
        by_cases hxy : x = y ∧ x' = y'
        · have HN := Lib.hid (pre_step (0, 0) HL.out HP.out hlt (Prod.ext (by rw [← hx, ← hy, hxy.1]) (by rw [← hx', ← hy', hxy.2])))
          obtain ⟨rfl, rfl⟩ := hxy
          clear hx hy hx' hy' k1 k2 r1 r2 hg
          go_wp2
          go_quiet (fail)
          go_wp2
          go_roundw
          case rel => exact ⟨k + 1, by omega, by go_num, HN.out, HG.out.trans (Fr.drewN _ _ _)⟩
          case measure => simp [intOf]; omega
        · have HN : Hid (b = false) := by
            show _ = _
            cases b with
            | false => rfl
            | true => exact absurd (HB.out.1 rfl) (pre_no (0, 0) (k := k) (by intro e; exact hxy ⟨by rw [hx, hy, e], by rw [hx', hy', e]⟩))
          have HX := Lib.hid hxy
          clear hxy hx hy hx' hy' k1 k2 r1 r2 hg
          have e1 : (x == y) = false ∨ ((x == y) = true ∧ (x' == y') = false) := by
            by_cases q : x = y
            · exact .inr ⟨by simpa using q, by simpa using fun q' => HX.out ⟨q, q'⟩⟩
            · exact .inl (by simpa using q)
          go_wp2
          have hreg : ∀ W : World, (binOp .neq 30 (.agg #[.int .i64 x, .int .i64 x']) (.agg #[.int .i64 y, .int .i64 y'])).run Tryz.prog W = .ok (.bool true) W := by
            intro W
            rcases e1 with e1 | ⟨e1, e2⟩ <;> go_simp
          clear e1
          go_quiet (fail)
          go_wp2
          go_ret
          exact ⟨by rw [HN.out]; rfl, HG.out.trans (Fr.drewN _ _ _)⟩
      · obtain rfl : k = l.length := by omega
        have HN : Hid (b = true) := HB.out.2 (pre_all HL.out HP.out)
        clear r1 r2 hg
        go_wp2
        go_ret
        exact ⟨by rw [HN.out]; rfl, HG.out⟩
  · have hne : ((l.length : Int) != (m.length : Int)) = true := by simp; omega
    have HN : Hid (b = false) := by
      show _ = _
      cases b with
      | false => rfl
      | true => exact absurd (congrArg List.length (HB.out.1 rfl)) hl
    clear hl r1 r2
    go_enter Tryz.func89, Tryz.ntmps89
    go_wp2
    go_ret
    exact ⟨by rw [HN.out]; rfl, Fr.refl _ _⟩

set_option maxRecDepth 100000 in
theorem sameEntry_any (e f : En) (v1 v2 : Value) (b : Bool) (hb : b = true ↔ e = f) (w : World) (h1 : HB w v1 e.bs) (h2 : HB w v2 f.bs) :
    Calls Tryz.prog 64 #[enV e v1, enV f v2] w fun e w' => e = .returned (.bool b) ∧ Fr w w' [] := by
  obtain ⟨a1, a2, a3, l, a4⟩ := e
  obtain ⟨b1, b2, b3, m, b4⟩ := f
  unfold enV
  simp only at h1 h2 ⊢
  have H1 := Lib.hid h1
  have H2 := Lib.hid h2
  clear h1 h2
  by_cases hL : a1 = b1 ∧ a2 = b2 ∧ a3 = b3
  · have hreg := fun W => eqLatch W a1 a2 a3 b1 b2 b3 true (yes hL)
    by_cases hA : a4 = b4
    · have HB2 : Hid (b = true ↔ l = m) := by
        show _ ↔ _
        obtain ⟨rfl, rfl, rfl⟩ := hL
        subst hA
        rw [hb]
        exact ⟨fun h => by cases h; rfl, fun h => by rw [h]⟩
      have e1 : (a4 == b4) = true := by simp [hA]
      clear hL hA hb
      go_enter Tryz.func64, Tryz.ntmps64
      go_wp2_with fail
      refine (eqBids_any _ l _ m _ (H1.out.keep ((Fr.alloc _ _ _).trans (Fr.alloc _ _ _))) (H2.out.keep ((Fr.alloc _ _ _).trans (Fr.alloc _ _ _))) b HB2.out).mono ?_
      rintro e w1 ⟨rfl, hf⟩
      go_wp2
      go_ret
      exact ⟨rfl, ((Fr.alloc _ _ _).trans (Fr.alloc _ _ _)).trans hf⟩
    · have e1 : (a4 == b4) = false := by simp [hA]
      obtain rfl := en_ne hb (fun h => hA (by cases h; rfl))
      clear hL hA hb
      go_enter Tryz.func64, Tryz.ntmps64
      go_wp2
      go_ret
      exact ⟨rfl, (Fr.alloc _ _ _).trans (Fr.alloc _ _ _)⟩
  · have hreg := fun W => eqLatch W a1 a2 a3 b1 b2 b3 false (no hL)
    obtain rfl := en_ne hb (fun h => hL (by cases h; exact ⟨rfl, rfl, rfl⟩))
    clear hL hb
    go_enter Tryz.func64, Tryz.ntmps64
    go_wp2
    go_ret
    exact ⟨rfl, (Fr.alloc _ _ _).trans (Fr.alloc _ _ _)⟩

set_option maxHeartbeats 1000000 in
set_option maxRecDepth 100000 in
theorem eqEnts_any (v1 : Value) (l : List En) (v2 : Value) (m : List En) (w : World) (h1 : HE w v1 l) (h2 : HE w v2 m) (b : Bool) (hb : b = true ↔ l = m) :
    Calls Tryz.prog 63 #[v1, v2, .func (Fn.func 64) #[] #[]] w fun e w' => e = .returned (.bool b) ∧ Fr w w' [] := by
  obtain ⟨a1, c1, rfl, p1, q1, r1⟩ := h1
  obtain ⟨a2, c2, rfl, p2, q2, r2⟩ := h2
  unfold maxLen at q1 q2
  have HB := Lib.hid hb
  clear hb
  by_cases hl : l.length = m.length
  · have hne : ((l.length : Int) != (m.length : Int)) = false := by simp [hl]
    have HL := Lib.hid hl
    clear hl
    go_enter Tryz.func63, Tryz.ntmps63
    go_wp2
    go_loopw [17] (fun i wr => ∃ k : Nat, k ≤ l.length ∧ i = .int .i64 k ∧ l.take k = m.take k ∧ Fr w wr []) (fun i _ => l.length - (intOf i).toNat)
    case atStart => exact ⟨0, Nat.zero_le _, rfl, by simp, Fr.refl _ _⟩
    case round =>
      obtain ⟨k, hk, rfl, hpre, hg⟩ := hrel
      have HP := Lib.hid hpre
      have HG := Lib.hid hg
      clear hpre
      by_cases hlt : k < l.length
      · have hlt2 : k < m.length := by have := HL.out; omega
        obtain ⟨b1, o1, rfl, k1⟩ := r1 (by omega)
        obtain ⟨b2, o2, rfl, k2⟩ := r2 (by omega)
        obtain ⟨u1, x0, x1, x2, x3, x4, hb1⟩ := k1 k hlt
        obtain ⟨u2, y0, y1, y2, y3, y4, hb2⟩ := k2 k hlt2
        obtain ⟨e, he⟩ : ∃ e, e = l.getD k zeroE := ⟨_, rfl⟩
        obtain ⟨f, hf⟩ : ∃ f, f = m.getD k zeroE := ⟨_, rfl⟩
        rw [← he] at x0 x1 x2 x4 hb1
        rw [← hf] at y0 y1 y2 y4 hb2
        have HB1 := Lib.hid hb1
        have HB2 := Lib.hid hb2
        obtain ⟨e0, e1, e2, el, e4⟩ := e
        obtain ⟨f0, f1, f2, fl, f4⟩ := f
        simp only at x0 x1 x2 x4 y0 y1 y2 y4
        obtain ⟨z1, d1, rfl⟩ := HB1.out.shape
        obtain ⟨z2, d2, rfl⟩ := HB2.out.shape
        have X := Lib.hid (show EntS w b1 (o1 + k * 5) b2 (o2 + k * 5) ⟨e0, e1, e2, el, e4⟩ ⟨f0, f1, f2, fl, f4⟩ (.slice z1 el.length d1) (.slice z2 fl.length d2) w from ⟨Fr.refl _ _, x0, x1, x2, x3, x4, y0, y1, y2, y3, y4, HB1.out, HB2.out⟩)
        have XR := Lib.hid (X.out.keep hg)
        clear x0 x1 x2 x3 x4 y0 y1 y2 y3 y4 hb1 hb2 k1 k2 r1 r2 HB1 HB2
        obtain ⟨_, x0, x1, x2, x3, x4, y0, y1, y2, y3, y4, _, _⟩ := XR.out
        simp only at x0 x1 x2 x4 y0 y1 y2 y4
        by_cases hxy : (⟨e0, e1, e2, el, e4⟩ : En) = ⟨f0, f1, f2, fl, f4⟩
        · have HN := Lib.hid (pre_step zeroE HL.out HP.out hlt (by rw [← he, ← hf, hxy]))
          have HXY := Lib.hid hxy
          clear hxy he hf hg
          clear x0 x1 x2 x3 x4
          obtain ⟨_, x0, x1, x2, x3, x4, _⟩ := XR.out
          simp only at x0 x1 x2 x4
          have XA := Lib.hid (XR.out.keep (Fr.alloc wr (.cells #[.int .i64 e0, .int .i64 e1, .int .i64 e2, .slice z1 el.length d1, .int .i64 e4] 56) []))
          clear y0 y1 y2 y3 y4
          obtain ⟨_, _, _, _, _, _, y0, y1, y2, y3, y4, _⟩ := XA.out
          simp only at y0 y1 y2 y4
          go_wp2_with fail
          refine (sameEntry_any ⟨e0, e1, e2, el, e4⟩ ⟨f0, f1, f2, fl, f4⟩ (.slice z1 el.length d1) (.slice z2 fl.length d2) true (iyes HXY.out) _ (XA.out.hb1.keep (Fr.alloc _ _ _)) (XA.out.hb2.keep (Fr.alloc _ _ _))).mono ?_
          rintro e w1 ⟨rfl, hf1⟩
          go_wp2
          go_roundw
          case rel => exact ⟨k + 1, by omega, by go_num, HN.out, (HG.out.trans ((Fr.alloc _ _ _).trans (Fr.alloc _ _ _))).trans hf1⟩
          case measure => simp [intOf]; omega
        · have HN : Hid (b = false) := en_ne' HB.out (pre_no zeroE (k := k) (by rw [← he, ← hf]; exact hxy))
          have HXY := Lib.hid hxy
          clear hxy he hf hg
          clear x0 x1 x2 x3 x4
          obtain ⟨_, x0, x1, x2, x3, x4, _⟩ := XR.out
          simp only at x0 x1 x2 x4
          have XA := Lib.hid (XR.out.keep (Fr.alloc wr (.cells #[.int .i64 e0, .int .i64 e1, .int .i64 e2, .slice z1 el.length d1, .int .i64 e4] 56) []))
          clear y0 y1 y2 y3 y4
          obtain ⟨_, _, _, _, _, _, y0, y1, y2, y3, y4, _⟩ := XA.out
          simp only at y0 y1 y2 y4
          go_wp2_with fail
          refine (sameEntry_any ⟨e0, e1, e2, el, e4⟩ ⟨f0, f1, f2, fl, f4⟩ (.slice z1 el.length d1) (.slice z2 fl.length d2) false (ino HXY.out) _ (XA.out.hb1.keep (Fr.alloc _ _ _)) (XA.out.hb2.keep (Fr.alloc _ _ _))).mono ?_
          rintro e w1 ⟨rfl, hf1⟩
          go_wp2
          go_ret
          exact ⟨by rw [HN.out]; rfl, (HG.out.trans ((Fr.alloc _ _ _).trans (Fr.alloc _ _ _))).trans hf1⟩
      · obtain rfl : k = l.length := by omega
        have HN : Hid (b = true) := HB.out.2 (pre_all HL.out HP.out)
        clear r1 r2 hg
        go_wp2
        go_ret
        exact ⟨by rw [HN.out]; rfl, HG.out⟩
  · have hne : ((l.length : Int) != (m.length : Int)) = true := by simp; omega
    have HN : Hid (b = false) := en_ne' HB.out (fun h => hl (congrArg List.length h))
    clear hl r1 r2
    go_enter Tryz.func63, Tryz.ntmps63
    go_wp2
    go_ret
    exact ⟨by rw [HN.out]; rfl, Fr.refl _ _⟩

theorem eqEpoch (W : World) (a1 a2 b1 b2 : Int) (r : Bool) (hr : r = decide (a1 = b1 ∧ a2 = b2)) :
    (binOp .eql 23 (.agg #[.int .i64 a1, .int .i64 a2]) (.agg #[.int .i64 b1, .int .i64 b2])).run Tryz.prog W = .ok (.bool r) W := by
  have hcase : (a1 == b1) = false ∨ ((a1 == b1) = true ∧ (a2 == b2) = false) ∨ ((a1 == b1) = true ∧ (a2 == b2) = true) := by
    cases (a1 == b1) <;> cases (a2 == b2) <;> simp
  rcases hcase with e1 | ⟨e1, e2⟩ | ⟨e1, e2⟩
  · have : r = false := by rw [hr, decide_eq_false_iff_not]; rintro ⟨rfl, _⟩; simp at e1
    subst this; clear hr; go_simp
  · have : r = false := by rw [hr, decide_eq_false_iff_not]; rintro ⟨_, rfl⟩; simp at e2
    subst this; clear hr; go_simp
  · have : r = true := by rw [hr, decide_eq_true_iff]; simp at e1 e2; exact ⟨e1, e2⟩
    subst this; clear hr; go_simp

set_option maxHeartbeats 1000000 in
set_option maxRecDepth 100000 in
theorem lsame_any (r s : Rg) (vm ve vm' ve' : Value) (b : Bool) (hb : b = true ↔ r = s) (w : World) (hm : Holds .i64 w vm r.ms) (he : HE w ve r.es) (hm' : Holds .i64 w vm' s.ms) (he' : HE w ve' s.es) :
    Calls Tryz.prog 27 #[rgV r vm ve, rgV s vm' ve'] w fun e w' => e = .returned (.bool b) ∧ Fr w w' [] := by
  obtain ⟨a1, a2, a3, ms, es⟩ := r
  obtain ⟨b1, b2, b3, ns, fs⟩ := s
  unfold rgV
  simp only at hm he hm' he' ⊢
  have HM := Lib.hid hm
  have HX := Lib.hid he
  have HM' := Lib.hid hm'
  have HX' := Lib.hid he'
  have HZ := Lib.hid (two_boxes w (.cells #[.int .i64 a1, .int .i64 a2, .int .i64 a3, vm, ve] 27) (.cells #[.int .i64 b1, .int .i64 b2, .int .i64 b3, vm', ve'] 27))
  have HF0 := Lib.hid ((Fr.alloc w (.cells #[.int .i64 a1, .int .i64 a2, .int .i64 a3, vm, ve] 27) []).trans (Fr.alloc _ (.cells #[.int .i64 b1, .int .i64 b2, .int .i64 b3, vm', ve'] 27) []))
  clear hm he hm' he'
  by_cases hE : a1 = b1 ∧ a2 = b2
  rotate_left
  · have hreg := fun W => eqEpoch W a1 a2 b1 b2 false (no hE)
    obtain rfl := en_ne' hb (fun h => hE (by cases h; exact ⟨rfl, rfl⟩))
    clear hE hb
    go_enter Tryz.func27, Tryz.ntmps27
    go_wp2
    go_ret
    exact ⟨rfl, HF0.out⟩
  by_cases hH : a3 = b3
  rotate_left
  · have hreg := fun W => eqEpoch W a1 a2 b1 b2 true (yes hE)
    have e1 : (a3 == b3) = false := by simp [hH]
    obtain rfl := en_ne' hb (fun h => hH (by cases h; rfl))
    clear hE hH hb
    go_enter Tryz.func27, Tryz.ntmps27
    go_wp2
    go_ret
    exact ⟨rfl, HF0.out⟩
  by_cases hN : ms = ns
  rotate_left
  · have hreg := fun W => eqEpoch W a1 a2 b1 b2 true (yes hE)
    have e1 : (a3 == b3) = true := by simp [hH]
    obtain rfl := en_ne' hb (fun h => hN (by cases h; rfl))
    have HN := Lib.hid hN
    clear hE hH hN hb
    go_enter Tryz.func27, Tryz.ntmps27
    go_wp2_with fail
    refine (same_any _ ms _ ns _ (HM.out.keep HF0.out) (HM'.out.keep HF0.out) false (no HN.out)).mono ?_
    rintro e w1 ⟨rfl, q, hq⟩
    have hf1 := fr_drewN hq
    clear hq
    have l1 := row5 (hf1.heap HZ.out.1 (by simp))
    have l2 := row5 (hf1.heap HZ.out.2 (by simp))
    have HF2 := Lib.hid (HF0.out.trans hf1)
    clear hf1
    go_wp2
    go_ret
    exact ⟨rfl, HF2.out⟩
  · have hreg := fun W => eqEpoch W a1 a2 b1 b2 true (yes hE)
    have e1 : (a3 == b3) = true := by simp [hH]
    have HN := Lib.hid hN
    have HB2 : Hid (b = true ↔ es = fs) := by
      show _ ↔ _
      obtain ⟨rfl, rfl⟩ := hE
      subst hH hN
      rw [hb]
      exact ⟨fun h => by cases h; rfl, fun h => by rw [h]⟩
    clear hE hH hN hb
    go_enter Tryz.func27, Tryz.ntmps27
    go_wp2_with fail
    refine (same_any _ ms _ ns _ (HM.out.keep HF0.out) (HM'.out.keep HF0.out) true (yes HN.out)).mono ?_
    rintro e w1 ⟨rfl, q, hq⟩
    have hf1 := fr_drewN hq
    clear hq
    have l1 := row5 (hf1.heap HZ.out.1 (by simp))
    have l2 := row5 (hf1.heap HZ.out.2 (by simp))
    have HF2 := Lib.hid (HF0.out.trans hf1)
    clear hf1
    go_wp2_with fail
    refine (eqEnts_any _ es _ fs _ (HX.out.keep HF2.out) (HX'.out.keep HF2.out) b HB2.out).mono ?_
    rintro e w2 ⟨rfl, hf2⟩
    go_wp2
    go_ret
    exact ⟨rfl, HF2.out.trans hf2⟩
end Go.Proofs.YtldheaamcnmlgaaGreat
