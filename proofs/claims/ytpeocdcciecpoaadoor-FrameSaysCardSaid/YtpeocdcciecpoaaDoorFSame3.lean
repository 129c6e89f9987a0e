/- Whether two lists of entries, two rings, two frames are the same: the program's and the document's. -/
import Derived.Test.YtpeocdcciecpoaaDoorFSame2
namespace Go.Proofs.YtpeocdcciecpoaaDoor
open Go.RowKit Fm

/-- Two entries, where they lie. -/
def EntS (w0 : World) (b1 o1 b2 o2 : Nat) (e f : En) (u1 u2 : Value) (a : World) : Prop :=
  Fr w0 a [] ∧ a.cell? ⟨b1, o1, none⟩ = some (.int .i64 e.fl) ∧ a.cell? ⟨b1, o1 + 1, none⟩ = some (.int .i64 e.di) ∧ a.cell? ⟨b1, o1 + 2, none⟩ = some (.int .i64 e.ge) ∧ a.cell? ⟨b1, o1 + 3, none⟩ = some u1 ∧ a.cell? ⟨b1, o1 + 4, none⟩ = some (.int .i64 e.aw) ∧
  a.cell? ⟨b2, o2, none⟩ = some (.int .i64 f.fl) ∧ a.cell? ⟨b2, o2 + 1, none⟩ = some (.int .i64 f.di) ∧ a.cell? ⟨b2, o2 + 2, none⟩ = some (.int .i64 f.ge) ∧ a.cell? ⟨b2, o2 + 3, none⟩ = some u2 ∧ a.cell? ⟨b2, o2 + 4, none⟩ = some (.int .i64 f.aw) ∧
  HB a u1 e.bs ∧ HB a u2 f.bs
theorem EntS.keep {w0 : World} {b1 o1 b2 o2 : Nat} {e f : En} {u1 u2 : Value} {a c : World} (h : EntS w0 b1 o1 b2 o2 e f u1 u2 a) (k : Fr a c []) : EntS w0 b1 o1 b2 o2 e f u1 u2 c := by
  obtain ⟨h0, x0, x1, x2, x3, x4, y0, y1, y2, y3, y4, hb, hb'⟩ := h
  exact ⟨h0.trans k, k.cell x0 (by simp), k.cell x1 (by simp), k.cell x2 (by simp), k.cell x3 (by simp), k.cell x4 (by simp), k.cell y0 (by simp), k.cell y1 (by simp), k.cell y2 (by simp), k.cell y3 (by simp), k.cell y4 (by simp), hb.keep k, hb'.keep k⟩
theorem EntS.fr {w0 : World} {b1 o1 b2 o2 : Nat} {e f : En} {u1 u2 : Value} {a : World} (h : EntS w0 b1 o1 b2 o2 e f u1 u2 a) : Fr w0 a [] := h.1
theorem EntS.here {w0 : World} {b1 o1 b2 o2 : Nat} {e f : En} {u1 u2 : Value} {a : World} (h : EntS w0 b1 o1 b2 o2 e f u1 u2 a) : EntS a b1 o1 b2 o2 e f u1 u2 a := ⟨Fr.refl _ _, h.2⟩
theorem EntS.hb1 {w0 : World} {b1 o1 b2 o2 : Nat} {e f : En} {u1 u2 : Value} {a : World} (h : EntS w0 b1 o1 b2 o2 e f u1 u2 a) : HB a u1 e.bs := h.2.2.2.2.2.2.2.2.2.2.2.1
theorem EntS.hb2 {w0 : World} {b1 o1 b2 o2 : Nat} {e f : En} {u1 u2 : Value} {a : World} (h : EntS w0 b1 o1 b2 o2 e f u1 u2 a) : HB a u2 f.bs := h.2.2.2.2.2.2.2.2.2.2.2.2
theorem en_ne' {α : Type} {e f : α} {b : Bool} (hb : b = true ↔ e = f) (h : ¬ e = f) : b = false := by
  cases b with
  | false => rfl
  | true => exact absurd (hb.1 rfl) h

set_option maxHeartbeats 1000000 in
set_option maxRecDepth 100000 in
theorem eqEnts_any (v1 : Value) (l : List En) (v2 : Value) (m : List En) (w : World) (h1 : HE w v1 l) (h2 : HE w v2 m) (b : Bool) (hb : b = true ↔ l = m) :
    Calls Tryd.prog 66 #[v1, v2, .func (Fn.func 67) #[] #[]] w fun e w' => e = .returned (.bool b) ∧ Fr w w' [] := by
  obtain ⟨a1, c1, rfl, p1, q1, r1⟩ := h1
  obtain ⟨a2, c2, rfl, p2, q2, r2⟩ := h2
  unfold maxLen at q1 q2
  have HB := Lib.hid hb
  clear hb
  by_cases hl : l.length = m.length
  · have hne : ((l.length : Int) != (m.length : Int)) = false := by simp [hl]
    have HL := Lib.hid hl
    clear hl
    go_enter Tryd.func66, Tryd.ntmps66
    go_wp2
    go_loopw [17] (fun i wr => ∃ k : Nat, k ≤ l.length ∧ i = .int .i64 k ∧ l.take k = m.take k ∧ Fr w wr []) (fun i _ => l.length - (intOf i).toNat)
    case atStart => exact ⟨0, Nat.zero_le _, rfl, by simp, Fr.refl _ _⟩
    case round =>
      obtain ⟨k, hk, rfl, hpre, hg⟩ := hrel
      have HP := Lib.hid hpre
      have HG := Lib.hid hg
      clear hpre
      by_cases hlt : k < l.length
      · have hlt2 : k < m.length := by have := HL.out; omega
        obtain ⟨b1, o1, rfl, k1⟩ := r1 (by omega)
        obtain ⟨b2, o2, rfl, k2⟩ := r2 (by omega)
        obtain ⟨u1, x0, x1, x2, x3, x4, hb1⟩ := k1 k hlt
        obtain ⟨u2, y0, y1, y2, y3, y4, hb2⟩ := k2 k hlt2
        obtain ⟨e, he⟩ : ∃ e, e = l.getD k zeroE := ⟨_, rfl⟩
        obtain ⟨f, hf⟩ : ∃ f, f = m.getD k zeroE := ⟨_, rfl⟩
        rw [← he] at x0 x1 x2 x4 hb1
        rw [← hf] at y0 y1 y2 y4 hb2
        have HB1 := Lib.hid hb1
        have HB2 := Lib.hid hb2
        obtain ⟨e0, e1, e2, el, e4⟩ := e
        obtain ⟨f0, f1, f2, fl, f4⟩ := f
        simp only at x0 x1 x2 x4 y0 y1 y2 y4
        obtain ⟨z1, d1, rfl⟩ := HB1.out.shape
        obtain ⟨z2, d2, rfl⟩ := HB2.out.shape
        have X := Lib.hid (show EntS w b1 (o1 + k * 5) b2 (o2 + k * 5) ⟨e0, e1, e2, el, e4⟩ ⟨f0, f1, f2, fl, f4⟩ (.slice z1 el.length d1) (.slice z2 fl.length d2) w from ⟨Fr.refl _ _, x0, x1, x2, x3, x4, y0, y1, y2, y3, y4, HB1.out, HB2.out⟩)
        have XR := Lib.hid (X.out.keep hg)
        clear x0 x1 x2 x3 x4 y0 y1 y2 y3 y4 hb1 hb2 k1 k2 r1 r2 HB1 HB2
        obtain ⟨_, x0, x1, x2, x3, x4, y0, y1, y2, y3, y4, _, _⟩ := XR.out
        simp only at x0 x1 x2 x4 y0 y1 y2 y4
        by_cases hxy : (⟨e0, e1, e2, el, e4⟩ : En) = ⟨f0, f1, f2, fl, f4⟩
        · have HN := Lib.hid (pre_step zeroE HL.out HP.out hlt (by rw [← he, ← hf, hxy]))
          have HXY := Lib.hid hxy
          clear hxy he hf hg
          clear x0 x1 x2 x3 x4
          obtain ⟨_, x0, x1, x2, x3, x4, _⟩ := XR.out
          simp only at x0 x1 x2 x4
          have XA := Lib.hid (XR.out.keep (Fr.alloc wr (.cells #[.int .i64 e0, .int .i64 e1, .int .i64 e2, .slice z1 el.length d1, .int .i64 e4] 61) []))
          clear y0 y1 y2 y3 y4
          obtain ⟨_, _, _, _, _, _, y0, y1, y2, y3, y4, _⟩ := XA.out
          simp only at y0 y1 y2 y4
          go_wp2_with fail
          refine (sameEntry_any ⟨e0, e1, e2, el, e4⟩ ⟨f0, f1, f2, fl, f4⟩ (.slice z1 el.length d1) (.slice z2 fl.length d2) true (iyes HXY.out) _ (XA.out.hb1.keep (Fr.alloc _ _ _)) (XA.out.hb2.keep (Fr.alloc _ _ _))).mono ?_
          rintro e w1 ⟨rfl, hf1⟩
          go_wp2
          go_roundw
          case rel => exact ⟨k + 1, by omega, by go_num, HN.out, (HG.out.trans ((Fr.alloc _ _ _).trans (Fr.alloc _ _ _))).trans hf1⟩
          case measure => simp [intOf]; omega
        · have HN : Hid (b = false) := en_ne' HB.out (pre_no zeroE (k := k) (by rw [← he, ← hf]; exact hxy))
          have HXY := Lib.hid hxy
          clear hxy he hf hg
          clear x0 x1 x2 x3 x4
          obtain ⟨_, x0, x1, x2, x3, x4, _⟩ := XR.out
          simp only at x0 x1 x2 x4
          have XA := Lib.hid (XR.out.keep (Fr.alloc wr (.cells #[.int .i64 e0, .int .i64 e1, .int .i64 e2, .slice z1 el.length d1, .int .i64 e4] 61) []))
          clear y0 y1 y2 y3 y4
          obtain ⟨_, _, _, _, _, _, y0, y1, y2, y3, y4, _⟩ := XA.out
          simp only at y0 y1 y2 y4
          go_wp2_with fail
          refine (sameEntry_any ⟨e0, e1, e2, el, e4⟩ ⟨f0, f1, f2, fl, f4⟩ (.slice z1 el.length d1) (.slice z2 fl.length d2) false (ino HXY.out) _ (XA.out.hb1.keep (Fr.alloc _ _ _)) (XA.out.hb2.keep (Fr.alloc _ _ _))).mono ?_
          rintro e w1 ⟨rfl, hf1⟩
          go_wp2
          go_ret
          exact ⟨by rw [HN.out]; rfl, (HG.out.trans ((Fr.alloc _ _ _).trans (Fr.alloc _ _ _))).trans hf1⟩
      · obtain rfl : k = l.length := by omega
        have HN : Hid (b = true) := HB.out.2 (pre_all HL.out HP.out)
        clear r1 r2 hg
        go_wp2
        go_ret
        exact ⟨by rw [HN.out]; rfl, HG.out⟩
  · have hne : ((l.length : Int) != (m.length : Int)) = true := by simp; omega
    have HN : Hid (b = false) := en_ne' HB.out (fun h => hl (congrArg List.length h))
    clear hl r1 r2
    go_enter Tryd.func66, Tryd.ntmps66
    go_wp2
    go_ret
    exact ⟨by rw [HN.out]; rfl, Fr.refl _ _⟩

set_option maxHeartbeats 1000000 in
set_option maxRecDepth 100000 in
theorem rsameEnts_any (v1 : Value) (l : List En) (v2 : Value) (m : List En) (w : World) (h1 : HE w v1 l) (h2 : HE w v2 m) (b : Bool) (hb : b = true ↔ l = m) :
    Calls Tryd.prog 53 #[v1, v2] w fun e w' => e = .returned (.bool b) ∧ Fr w w' [] := by
  obtain ⟨a1, c1, rfl, p1, q1, r1⟩ := h1
  obtain ⟨a2, c2, rfl, p2, q2, r2⟩ := h2
  unfold maxLen at q1 q2
  have HB := Lib.hid hb
  clear hb
  by_cases hl : l.length = m.length
  · have hne : ((l.length : Int) != (m.length : Int)) = false := by simp [hl]
    have HL := Lib.hid hl
    clear hl
    go_enter Tryd.func53, Tryd.ntmps53
    go_wp2
    go_loopw [5] (fun i wr => ∃ k : Nat, k ≤ l.length ∧ i = .int .i64 k ∧ l.take k = m.take k ∧ Fr w wr []) (fun i _ => l.length - (intOf i).toNat)
    case atStart => exact ⟨0, Nat.zero_le _, rfl, by simp, Fr.refl _ _⟩
    case round =>
      obtain ⟨k, hk, rfl, hpre, hg⟩ := hrel
      have HP := Lib.hid hpre
      have HG := Lib.hid hg
      clear hpre
      by_cases hlt : k < l.length
      · have hlt2 : k < m.length := by have := HL.out; omega
        obtain ⟨b1, o1, rfl, k1⟩ := r1 (by omega)
        obtain ⟨b2, o2, rfl, k2⟩ := r2 (by omega)
        obtain ⟨u1, x0, x1, x2, x3, x4, hb1⟩ := k1 k hlt
        obtain ⟨u2, y0, y1, y2, y3, y4, hb2⟩ := k2 k hlt2
        obtain ⟨e, he⟩ : ∃ e, e = l.getD k zeroE := ⟨_, rfl⟩
        obtain ⟨f, hf⟩ : ∃ f, f = m.getD k zeroE := ⟨_, rfl⟩
        rw [← he] at x0 x1 x2 x4 hb1
        rw [← hf] at y0 y1 y2 y4 hb2
        have HB1 := Lib.hid hb1
        have HB2 := Lib.hid hb2
        obtain ⟨e0, e1, e2, el, e4⟩ := e
        obtain ⟨f0, f1, f2, fl, f4⟩ := f
        simp only at x0 x1 x2 x4 y0 y1 y2 y4
        obtain ⟨z1, d1, rfl⟩ := HB1.out.shape
        obtain ⟨z2, d2, rfl⟩ := HB2.out.shape
        have X := Lib.hid (show EntS w b1 (o1 + k * 5) b2 (o2 + k * 5) ⟨e0, e1, e2, el, e4⟩ ⟨f0, f1, f2, fl, f4⟩ (.slice z1 el.length d1) (.slice z2 fl.length d2) w from ⟨Fr.refl _ _, x0, x1, x2, x3, x4, y0, y1, y2, y3, y4, HB1.out, HB2.out⟩)
        have XR := Lib.hid (X.out.keep hg)
        clear x0 x1 x2 x3 x4 y0 y1 y2 y3 y4 hb1 hb2 k1 k2 r1 r2 HB1 HB2
        obtain ⟨_, x0, x1, x2, x3, x4, y0, y1, y2, y3, y4, _, _⟩ := XR.out
        simp only at x0 x1 x2 x4 y0 y1 y2 y4
        by_cases hxy : (⟨e0, e1, e2, el, e4⟩ : En) = ⟨f0, f1, f2, fl, f4⟩
        · have HN := Lib.hid (pre_step zeroE HL.out HP.out hlt (by rw [← he, ← hf, hxy]))
          have HXY := Lib.hid hxy
          clear hxy he hf hg
          clear x0 x1 x2 x3 x4 y0 y1 y2 y3 y4
          have XS := XR.out.here
          go_wp2
          refine wp_region_det (S := EntS wr b1 (o1 + k * 5) b2 (o2 + k * 5) ⟨e0, e1, e2, el, e4⟩ ⟨f0, f1, f2, fl, f4⟩ (.slice z1 el.length d1) (.slice z2 fl.length d2)) (by kernel_rfl) (XS.keep (Fr.drew _ _)) ?_
          refine wpDet_take (i := 0) (oi := _) (v := ?dv1) (by simp only [List.getElem?_toArray, List.getElem?_cons_zero]; rfl) (by kernel_rfl) (by kernel_rfl) (by kernel_rfl) (Or.inl ⟨by rfl, ?dy1⟩) ?dr1
          case dy1 => (intro w hSw; have hS0 := hSw; (try dsimp only [EntS] at hSw); go_simp; refine Came.value ?_ hS0; with_reducible rfl)
          try simp only [Act.put, List.setIfInBounds_toArray, List.set_cons_zero, List.set_cons_succ]
          refine wpDet_take (i := 1) (oi := _) (v := ?dv2) (by simp only [List.getElem?_toArray, List.getElem?_cons_zero, List.getElem?_cons_succ]; rfl) (by kernel_rfl) (by kernel_rfl) (by kernel_rfl) (Or.inl ⟨by rfl, ?dy2⟩) ?dr2
          case dy2 => (intro w hSw; have hS0 := hSw; (try dsimp only [EntS] at hSw); go_simp; refine Came.value ?_ hS0; with_reducible rfl)
          try simp only [Act.put, List.setIfInBounds_toArray, List.set_cons_zero, List.set_cons_succ]
          refine wpDet_take (i := 2) (oi := _) (v := ?dv3) (by simp only [List.getElem?_toArray, List.getElem?_cons_zero, List.getElem?_cons_succ]; rfl) (by kernel_rfl) (by kernel_rfl) (by kernel_rfl) (Or.inl ⟨by rfl, ?dy3⟩) ?dr3
          case dy3 => (intro w hSw; have hS0 := hSw; (try dsimp only [EntS] at hSw); go_simp; refine Came.value ?_ hS0; with_reducible rfl)
          try simp only [Act.put, List.setIfInBounds_toArray, List.set_cons_zero, List.set_cons_succ]
          refine wpDet_take (i := 3) (oi := _) (v := ?dv4) (by simp only [List.getElem?_toArray, List.getElem?_cons_zero, List.getElem?_cons_succ]; rfl) (by kernel_rfl) (by kernel_rfl) (by kernel_rfl) (Or.inl ⟨by rfl, ?dy4⟩) ?dr4
          case dy4 => (intro w hSw; have hS0 := hSw; (try dsimp only [EntS] at hSw); go_simp; refine Came.value ?_ hS0; with_reducible rfl)
          try simp only [Act.put, List.setIfInBounds_toArray, List.set_cons_zero, List.set_cons_succ]
          refine wpDet_take (i := 4) (oi := _) (v := ?dv5) (by simp only [List.getElem?_toArray, List.getElem?_cons_zero, List.getElem?_cons_succ]; rfl) (by kernel_rfl) (by kernel_rfl) (by kernel_rfl) (Or.inl ⟨by rfl, ?dy5⟩) ?dr5
          case dy5 => (intro w hSw; have hS0 := hSw; (try dsimp only [EntS] at hSw); go_simp; refine Came.value ?_ hS0; with_reducible rfl)
          try simp only [Act.put, List.setIfInBounds_toArray, List.set_cons_zero, List.set_cons_succ]
          refine wpDet_take (i := 5) (oi := _) (v := ?dv6) (by simp only [List.getElem?_toArray, List.getElem?_cons_zero, List.getElem?_cons_succ]; rfl) (by kernel_rfl) (by kernel_rfl) (by kernel_rfl) (Or.inl ⟨by rfl, ?dy6⟩) ?dr6
          case dy6 => (intro w hSw; have hS0 := hSw; (try dsimp only [EntS] at hSw); go_simp; refine Came.value ?_ hS0; with_reducible rfl)
          try simp only [Act.put, List.setIfInBounds_toArray, List.set_cons_zero, List.set_cons_succ]
          refine wpDet_take (i := 6) (oi := _) (v := ?dv7) (by simp only [List.getElem?_toArray, List.getElem?_cons_zero, List.getElem?_cons_succ]; rfl) (by kernel_rfl) (by kernel_rfl) (by kernel_rfl) (Or.inl ⟨by rfl, ?dy7⟩) ?dr7
          case dy7 => (intro w hSw; have hS0 := hSw; (try dsimp only [EntS] at hSw); go_simp; refine Came.value ?_ hS0; with_reducible rfl)
          try simp only [Act.put, List.setIfInBounds_toArray, List.set_cons_zero, List.set_cons_succ]
          refine wpDet_take (i := 7) (oi := _) (v := ?dv8) (by simp only [List.getElem?_toArray, List.getElem?_cons_zero, List.getElem?_cons_succ]; rfl) (by kernel_rfl) (by kernel_rfl) (by kernel_rfl) (Or.inl ⟨by rfl, ?dy8⟩) ?dr8
          case dy8 => (intro w hSw; have hS0 := hSw; (try dsimp only [EntS] at hSw); go_simp; refine Came.value ?_ hS0; with_reducible rfl)
          try simp only [Act.put, List.setIfInBounds_toArray, List.set_cons_zero, List.set_cons_succ]
          refine wpDet_take (i := 8) (oi := _) (v := ?dv9) (by simp only [List.getElem?_toArray, List.getElem?_cons_zero, List.getElem?_cons_succ]; rfl) (by kernel_rfl) (by kernel_rfl) (by kernel_rfl) (Or.inl ⟨by rfl, ?dy9⟩) ?dr9
          case dy9 => (intro w hSw; go_simp; exact Came.call ((rsameEntry_any ⟨e0, e1, e2, el, e4⟩ ⟨f0, f1, f2, fl, f4⟩ (.slice z1 el.length d1) (.slice z2 fl.length d2) true (iyes HXY.out) w hSw.hb1 hSw.hb2).mono fun e w' ⟨he, hf⟩ => ⟨he, hSw.keep hf⟩) (by with_reducible rfl))
          try simp only [Act.put, List.setIfInBounds_toArray, List.set_cons_zero, List.set_cons_succ]
          refine wpDet_take (i := 9) (oi := _) (v := ?dv10) (by simp only [List.getElem?_toArray, List.getElem?_cons_zero, List.getElem?_cons_succ]; rfl) (by kernel_rfl) (by kernel_rfl) (by kernel_rfl) (Or.inl ⟨by rfl, ?dy10⟩) ?dr10
          case dy10 => (intro w hSw; have hS0 := hSw; (try dsimp only [EntS] at hSw); go_simp; refine Came.value ?_ hS0; with_reducible rfl)
          try simp only [Act.put, List.setIfInBounds_toArray, List.set_cons_zero, List.set_cons_succ]
          refine wpDet_done (by kernel_rfl) ?_ _
          rintro w1 hS1
          have HS1 := Lib.hid hS1.fr
          clear hS1 XS
          go_wp2
          go_roundw
          case rel => exact ⟨k + 1, by omega, by go_num, HN.out, HG.out.trans HS1.out⟩
          case measure => simp [intOf]; omega
        · have HN : Hid (b = false) := en_ne' HB.out (pre_no zeroE (k := k) (by rw [← he, ← hf]; exact hxy))
          have HXY := Lib.hid hxy
          clear hxy he hf hg
          clear x0 x1 x2 x3 x4 y0 y1 y2 y3 y4
          have XS := XR.out.here
          go_wp2
          refine wp_region_det (S := EntS wr b1 (o1 + k * 5) b2 (o2 + k * 5) ⟨e0, e1, e2, el, e4⟩ ⟨f0, f1, f2, fl, f4⟩ (.slice z1 el.length d1) (.slice z2 fl.length d2)) (by kernel_rfl) (XS.keep (Fr.drew _ _)) ?_
          refine wpDet_take (i := 0) (oi := _) (v := ?dv11) (by simp only [List.getElem?_toArray, List.getElem?_cons_zero]; rfl) (by kernel_rfl) (by kernel_rfl) (by kernel_rfl) (Or.inl ⟨by rfl, ?dy11⟩) ?dr11
          case dy11 => (intro w hSw; have hS0 := hSw; (try dsimp only [EntS] at hSw); go_simp; refine Came.value ?_ hS0; with_reducible rfl)
          try simp only [Act.put, List.setIfInBounds_toArray, List.set_cons_zero, List.set_cons_succ]
          refine wpDet_take (i := 1) (oi := _) (v := ?dv12) (by simp only [List.getElem?_toArray, List.getElem?_cons_zero, List.getElem?_cons_succ]; rfl) (by kernel_rfl) (by kernel_rfl) (by kernel_rfl) (Or.inl ⟨by rfl, ?dy12⟩) ?dr12
          case dy12 => (intro w hSw; have hS0 := hSw; (try dsimp only [EntS] at hSw); go_simp; refine Came.value ?_ hS0; with_reducible rfl)
          try simp only [Act.put, List.setIfInBounds_toArray, List.set_cons_zero, List.set_cons_succ]
          refine wpDet_take (i := 2) (oi := _) (v := ?dv13) (by simp only [List.getElem?_toArray, List.getElem?_cons_zero, List.getElem?_cons_succ]; rfl) (by kernel_rfl) (by kernel_rfl) (by kernel_rfl) (Or.inl ⟨by rfl, ?dy13⟩) ?dr13
          case dy13 => (intro w hSw; have hS0 := hSw; (try dsimp only [EntS] at hSw); go_simp; refine Came.value ?_ hS0; with_reducible rfl)
          try simp only [Act.put, List.setIfInBounds_toArray, List.set_cons_zero, List.set_cons_succ]
          refine wpDet_take (i := 3) (oi := _) (v := ?dv14) (by simp only [List.getElem?_toArray, List.getElem?_cons_zero, List.getElem?_cons_succ]; rfl) (by kernel_rfl) (by kernel_rfl) (by kernel_rfl) (Or.inl ⟨by rfl, ?dy14⟩) ?dr14
          case dy14 => (intro w hSw; have hS0 := hSw; (try dsimp only [EntS] at hSw); go_simp; refine Came.value ?_ hS0; with_reducible rfl)
          try simp only [Act.put, List.setIfInBounds_toArray, List.set_cons_zero, List.set_cons_succ]
          refine wpDet_take (i := 4) (oi := _) (v := ?dv15) (by simp only [List.getElem?_toArray, List.getElem?_cons_zero, List.getElem?_cons_succ]; rfl) (by kernel_rfl) (by kernel_rfl) (by kernel_rfl) (Or.inl ⟨by rfl, ?dy15⟩) ?dr15
          case dy15 => (intro w hSw; have hS0 := hSw; (try dsimp only [EntS] at hSw); go_simp; refine Came.value ?_ hS0; with_reducible rfl)
          try simp only [Act.put, List.setIfInBounds_toArray, List.set_cons_zero, List.set_cons_succ]
          refine wpDet_take (i := 5) (oi := _) (v := ?dv16) (by simp only [List.getElem?_toArray, List.getElem?_cons_zero, List.getElem?_cons_succ]; rfl) (by kernel_rfl) (by kernel_rfl) (by kernel_rfl) (Or.inl ⟨by rfl, ?dy16⟩) ?dr16
          case dy16 => (intro w hSw; have hS0 := hSw; (try dsimp only [EntS] at hSw); go_simp; refine Came.value ?_ hS0; with_reducible rfl)
          try simp only [Act.put, List.setIfInBounds_toArray, List.set_cons_zero, List.set_cons_succ]
          refine wpDet_take (i := 6) (oi := _) (v := ?dv17) (by simp only [List.getElem?_toArray, List.getElem?_cons_zero, List.getElem?_cons_succ]; rfl) (by kernel_rfl) (by kernel_rfl) (by kernel_rfl) (Or.inl ⟨by rfl, ?dy17⟩) ?dr17
          case dy17 => (intro w hSw; have hS0 := hSw; (try dsimp only [EntS] at hSw); go_simp; refine Came.value ?_ hS0; with_reducible rfl)
          try simp only [Act.put, List.setIfInBounds_toArray, List.set_cons_zero, List.set_cons_succ]
          refine wpDet_take (i := 7) (oi := _) (v := ?dv18) (by simp only [List.getElem?_toArray, List.getElem?_cons_zero, List.getElem?_cons_succ]; rfl) (by kernel_rfl) (by kernel_rfl) (by kernel_rfl) (Or.inl ⟨by rfl, ?dy18⟩) ?dr18
          case dy18 => (intro w hSw; have hS0 := hSw; (try dsimp only [EntS] at hSw); go_simp; refine Came.value ?_ hS0; with_reducible rfl)
          try simp only [Act.put, List.setIfInBounds_toArray, List.set_cons_zero, List.set_cons_succ]
          refine wpDet_take (i := 8) (oi := _) (v := ?dv19) (by simp only [List.getElem?_toArray, List.getElem?_cons_zero, List.getElem?_cons_succ]; rfl) (by kernel_rfl) (by kernel_rfl) (by kernel_rfl) (Or.inl ⟨by rfl, ?dy19⟩) ?dr19
          case dy19 => (intro w hSw; go_simp; exact Came.call ((rsameEntry_any ⟨e0, e1, e2, el, e4⟩ ⟨f0, f1, f2, fl, f4⟩ (.slice z1 el.length d1) (.slice z2 fl.length d2) false (ino HXY.out) w hSw.hb1 hSw.hb2).mono fun e w' ⟨he, hf⟩ => ⟨he, hSw.keep hf⟩) (by with_reducible rfl))
          try simp only [Act.put, List.setIfInBounds_toArray, List.set_cons_zero, List.set_cons_succ]
          refine wpDet_take (i := 9) (oi := _) (v := ?dv20) (by simp only [List.getElem?_toArray, List.getElem?_cons_zero, List.getElem?_cons_succ]; rfl) (by kernel_rfl) (by kernel_rfl) (by kernel_rfl) (Or.inl ⟨by rfl, ?dy20⟩) ?dr20
          case dy20 => (intro w hSw; have hS0 := hSw; (try dsimp only [EntS] at hSw); go_simp; refine Came.value ?_ hS0; with_reducible rfl)
          try simp only [Act.put, List.setIfInBounds_toArray, List.set_cons_zero, List.set_cons_succ]
          refine wpDet_done (by kernel_rfl) ?_ _
          rintro w1 hS1
          have HS1 := Lib.hid hS1.fr
          clear hS1 XS
          go_wp2
          go_ret
          exact ⟨by rw [HN.out]; rfl, HG.out.trans HS1.out⟩
      · obtain rfl : k = l.length := by omega
        have HN : Hid (b = true) := HB.out.2 (pre_all HL.out HP.out)
        clear r1 r2 hg
        go_wp2
        go_ret
        exact ⟨by rw [HN.out]; rfl, HG.out⟩
  · have hne : ((l.length : Int) != (m.length : Int)) = true := by simp; omega
    have HN : Hid (b = false) := en_ne' HB.out (fun h => hl (congrArg List.length h))
    clear hl r1 r2
    go_enter Tryd.func53, Tryd.ntmps53
    go_wp2
    go_ret
    exact ⟨by rw [HN.out]; rfl, Fr.refl _ _⟩
end Go.Proofs.YtpeocdcciecpoaaDoor
