/- The document's sameness: of calls, of latches, of lists of latches (RSame over Lat). -/
import Derived.Test.YtfopmpaoigdelaaLat
import Derived.Test.YtfopmpaoigdelaaDet
namespace Go.Proofs.Ytfopmpaoigdelaa
open Go.RowKit

theorem call_same (f d f' d' : Int) (w : World) (b : Bool) (hb : decide (f = f' ∧ d = d') = b) :
    Calls Try.prog 10 #[.agg #[.int .i64 f, .int .i64 d], .agg #[.int .i64 f', .int .i64 d']] w fun e w' => e = .returned (.bool b) ∧ Fr w w' [] := by
  have HF := Lib.hid ((Fr.alloc w (.cells #[.int .i64 f, .int .i64 d] 23) []).trans (Fr.alloc _ (.cells #[.int .i64 f', .int .i64 d'] 23) []))
  by_cases h1 : f = f'
  · subst h1
    have HB : Hid (b = decide (d = d')) := by show _ = _; rw [← hb]; simp
    clear hb
    go_enter Try.func10, Try.ntmps10
    go_wp2
    go_ret
    exact ⟨by rw [HB.out]; rfl, HF.out⟩
  · have HB : Hid (b = false) := by show _ = _; rw [← hb]; simp [h1]
    have e1 : (f == f') = false := by simp [h1]
    clear hb h1
    go_enter Try.func10, Try.ntmps10
    go_wp2
    go_ret
    exact ⟨by rw [HB.out]; rfl, HF.out⟩
set_option maxRecDepth 100000 in
theorem latch_same (x y : La) (w : World) (b : Bool) (hb : decide (x = y) = b) :
    Calls Try.prog 11 #[.agg #[.int .i64 x.f, .int .i64 x.d, .int .i64 x.g], .agg #[.int .i64 y.f, .int .i64 y.d, .int .i64 y.g]] w fun e w' => e = .returned (.bool b) ∧ Fr w w' [] := by
  obtain ⟨f, d, g⟩ := x
  obtain ⟨f', d', g'⟩ := y
  have HF := Lib.hid ((Fr.alloc w (.cells #[.int .i64 f, .int .i64 d, .int .i64 g] 25) []).trans (Fr.alloc _ (.cells #[.int .i64 f', .int .i64 d', .int .i64 g'] 25) []))
  have H1 := Lib.hid ((Fr.alloc _ (.cells #[.int .i64 f', .int .i64 d', .int .i64 g'] 25) []).heap (heap_alloc_new w (.cells #[.int .i64 f, .int .i64 d, .int .i64 g] 25)) (by simp))
  have H2 := Lib.hid (heap_alloc_new (w.alloc (.cells #[.int .i64 f, .int .i64 d, .int .i64 g] 25)) (.cells #[.int .i64 f', .int .i64 d', .int .i64 g'] 25))
  rw [show (w.alloc (.cells #[.int .i64 f, .int .i64 d, .int .i64 g] 25)).heap.size = w.heap.size + 1 by simp] at H2
  by_cases h1 : f = f' ∧ d = d'
  · obtain ⟨rfl, rfl⟩ := h1
    have HB : Hid (b = decide (g = g')) := by show _ = _; rw [← hb]; simp
    clear hb
    go_enter Try.func11, Try.ntmps11
    go_wp2_with fail
    refine (call_same f d f d _ true (by simp)).mono ?_
    rintro e w1 ⟨rfl, hf⟩
    obtain ⟨_, _, r2⟩ := row3 (hf.heap H1.out (by simp))
    obtain ⟨_, _, q2⟩ := row3 (hf.heap H2.out (by simp))
    have HF1 := Lib.hid (HF.out.trans hf)
    clear hf
    go_wp2
    go_ret
    exact ⟨by rw [HB.out]; rfl, HF1.out⟩
  · have HB : Hid (b = false) := by
      show _ = _
      rw [← hb, decide_eq_false_iff_not]
      intro e
      rw [La.mk.injEq] at e
      exact h1 ⟨e.1, e.2.1⟩
    have HN := Lib.hid (show decide (f = f' ∧ d = d') = false by simp; exact fun a => fun c => h1 ⟨a, c⟩)
    clear hb h1
    go_enter Try.func11, Try.ntmps11
    go_wp2_with fail
    refine (call_same f d f' d' _ false HN.out).mono ?_
    rintro e w1 ⟨rfl, hf⟩
    have HF1 := Lib.hid (HF.out.trans hf)
    clear hf
    go_wp2
    go_ret
    exact ⟨by rw [HB.out]; rfl, HF1.out⟩
def la3 (w : World) (b o : Nat) (x : La) : Prop := w.cell? ⟨b, o, none⟩ = some (.int .i64 x.f) ∧ w.cell? ⟨b, o + 1, none⟩ = some (.int .i64 x.d) ∧ w.cell? ⟨b, o + 2, none⟩ = some (.int .i64 x.g)
/-- What stands while two are held against each other. -/
def SL (W : World) (b1 o1 b2 o2 : Nat) (x y : La) (a : World) : Prop := Fr W a [] ∧
  (a.cell? ⟨b1, o1, none⟩ = some (.int .i64 x.f) ∧ a.cell? ⟨b1, o1 + 1, none⟩ = some (.int .i64 x.d) ∧ a.cell? ⟨b1, o1 + 2, none⟩ = some (.int .i64 x.g)) ∧
  (a.cell? ⟨b2, o2, none⟩ = some (.int .i64 y.f) ∧ a.cell? ⟨b2, o2 + 1, none⟩ = some (.int .i64 y.d) ∧ a.cell? ⟨b2, o2 + 2, none⟩ = some (.int .i64 y.g))
theorem SL.fr {W a a' : World} {b1 o1 b2 o2 : Nat} {x y : La} (h : SL W b1 o1 b2 o2 x y a) (k : Fr a a' []) : SL W b1 o1 b2 o2 x y a' := by
  obtain ⟨h0, ⟨h1, h2, h3⟩, h4, h5, h6⟩ := h
  exact ⟨h0.trans k, ⟨k.cell h1 (by simp), k.cell h2 (by simp), k.cell h3 (by simp)⟩, k.cell h4 (by simp), k.cell h5 (by simp), k.cell h6 (by simp)⟩
theorem la_snoc (l : List La) (k : Nat) (h : k < l.length) : l.take (k + 1) = l.take k ++ [l.getD k zLa] := by
  rw [List.take_succ_eq_append_getElem h]; simp [h]

set_option maxRecDepth 100000 in
theorem latchs_same (v1 : Value) (l : List La) (v2 : Value) (m : List La) (w : World) (h1 : HLs w v1 l) (h2 : HLs w v2 m) (b : Bool) (hb : b = decide (l = m)) :
    Calls Try.prog 21 #[v1, v2] w fun e w' => e = .returned (.bool b) ∧ Fr w w' [] := by
  obtain ⟨a1, c1, rfl, p1, q1, r1⟩ := h1
  obtain ⟨a2, c2, rfl, p2, q2, r2⟩ := h2
  unfold maxLen at q1 q2
  by_cases hl : l.length = m.length
  · have hne : ((l.length : Int) != (m.length : Int)) = false := by simp [hl]
    have HL := Lib.hid hl
    have HB := Lib.hid hb
    clear hl hb
    go_enter Try.func21, Try.ntmps21
    go_wp2
    go_loopw [5] (fun i wr => ∃ k : Nat, k ≤ l.length ∧ i = .int .i64 k ∧ l.take k = m.take k ∧ Fr w wr []) (fun i _ => l.length - (intOf i).toNat)
    case atStart => exact ⟨0, Nat.zero_le _, rfl, by simp, Fr.refl _ _⟩
    case round =>
      obtain ⟨k, hk, rfl, hpre, hg⟩ := hrel
      have HP := Lib.hid hpre
      have HG := Lib.hid hg
      clear hpre hg
      by_cases hlt : k < l.length
      · have hlt2 : k < m.length := by have := HL.out; omega
        obtain ⟨b1, o1, rfl, k1⟩ := r1 (by omega)
        obtain ⟨b2, o2, rfl, k2⟩ := r2 (by omega)
        obtain ⟨x, hx⟩ : ∃ x, x = l.getD k zLa := ⟨_, rfl⟩
        obtain ⟨y, hy⟩ : ∃ y, y = m.getD k zLa := ⟨_, rfl⟩
        have g1 := k1 k hlt
        have g2 := k2 k hlt2
        rw [← hx] at g1
        rw [← hy] at g2
        have HS := Lib.hid (show SL wr b1 (o1 + k * 3) b2 (o2 + k * 3) x y wr.drew from ⟨Fr.drew _ _, ⟨((HG.out.trans (Fr.drew _ [])).cell g1.1 (by simp)), ((HG.out.trans (Fr.drew _ [])).cell g1.2.1 (by simp)), ((HG.out.trans (Fr.drew _ [])).cell g1.2.2 (by simp))⟩, ((HG.out.trans (Fr.drew _ [])).cell g2.1 (by simp)), ((HG.out.trans (Fr.drew _ [])).cell g2.2.1 (by simp)), ((HG.out.trans (Fr.drew _ [])).cell g2.2.2 (by simp))⟩)
        have s1 := la_snoc l k hlt
        have s2 := la_snoc m k hlt2
        rw [← hx] at s1
        rw [← hy] at s2
        by_cases hxy : x = y
        · have HV := Lib.hid (fun W => latch_same x y W true (by simp [hxy]))
          have HN : Hid (l.take (k + 1) = m.take (k + 1)) := by show _ = _; rw [s1, s2, hxy, HP.out]
          clear hxy hx hy k1 k2 r1 r2 s1 s2 g1 g2
          go_wp2
          refine wp_region_det (S := SL wr b1 (o1 + k * 3) b2 (o2 + k * 3) x y) (by kernel_rfl) HS.out ?_
          refine wpDet_take (i := 0) (oi := _) (v := ?dv1) (by simp only [List.getElem?_toArray, List.getElem?_cons_zero]; rfl) (by kernel_rfl) (by kernel_rfl) (by kernel_rfl) (Or.inl ⟨by rfl, ?dy1⟩) ?dr1
          case dy1 => (intro w hSw; have hS0 := hSw; (try dsimp only [SL] at hSw); go_simp; refine Came.value ?_ hS0; with_reducible rfl)
          try simp only [Act.put, List.setIfInBounds_toArray, List.set_cons_zero, List.set_cons_succ]
          refine wpDet_take (i := 1) (oi := _) (v := ?dv2) (by simp only [List.getElem?_toArray, List.getElem?_cons_zero, List.getElem?_cons_succ]; rfl) (by kernel_rfl) (by kernel_rfl) (by kernel_rfl) (Or.inl ⟨by rfl, ?dy2⟩) ?dr2
          case dy2 => (intro w hSw; have hS0 := hSw; (try dsimp only [SL] at hSw); go_simp; refine Came.value ?_ hS0; with_reducible rfl)
          try simp only [Act.put, List.setIfInBounds_toArray, List.set_cons_zero, List.set_cons_succ]
          refine wpDet_take (i := 2) (oi := _) (v := ?dv3) (by simp only [List.getElem?_toArray, List.getElem?_cons_zero, List.getElem?_cons_succ]; rfl) (by kernel_rfl) (by kernel_rfl) (by kernel_rfl) (Or.inl ⟨by rfl, ?dy3⟩) ?dr3
          case dy3 => (intro w hSw; have hS0 := hSw; (try dsimp only [SL] at hSw); go_simp; refine Came.value ?_ hS0; with_reducible rfl)
          try simp only [Act.put, List.setIfInBounds_toArray, List.set_cons_zero, List.set_cons_succ]
          refine wpDet_take (i := 3) (oi := _) (v := ?dv4) (by simp only [List.getElem?_toArray, List.getElem?_cons_zero, List.getElem?_cons_succ]; rfl) (by kernel_rfl) (by kernel_rfl) (by kernel_rfl) (Or.inl ⟨by rfl, ?dy4⟩) ?dr4
          case dy4 => (intro w hSw; have hS0 := hSw; (try dsimp only [SL] at hSw); go_simp; refine Came.value ?_ hS0; with_reducible rfl)
          try simp only [Act.put, List.setIfInBounds_toArray, List.set_cons_zero, List.set_cons_succ]
          refine wpDet_take (i := 4) (oi := _) (v := ?dv5) (by simp only [List.getElem?_toArray, List.getElem?_cons_zero, List.getElem?_cons_succ]; rfl) (by kernel_rfl) (by kernel_rfl) (by kernel_rfl) (Or.inl ⟨by rfl, ?dy5⟩) ?dr5
          case dy5 => (intro w hSw; have hS0 := hSw; (try dsimp only [SL] at hSw); go_simp; refine Came.value ?_ hS0; with_reducible rfl)
          try simp only [Act.put, List.setIfInBounds_toArray, List.set_cons_zero, List.set_cons_succ]
          refine wpDet_take (i := 5) (oi := _) (v := ?dv6) (by simp only [List.getElem?_toArray, List.getElem?_cons_zero, List.getElem?_cons_succ]; rfl) (by kernel_rfl) (by kernel_rfl) (by kernel_rfl) (Or.inl ⟨by rfl, ?dy6⟩) ?dr6
          case dy6 => (intro w hSw; have hS0 := hSw; (try dsimp only [SL] at hSw); go_simp; refine Came.value ?_ hS0; with_reducible rfl)
          try simp only [Act.put, List.setIfInBounds_toArray, List.set_cons_zero, List.set_cons_succ]
          refine wpDet_take (i := 6) (oi := _) (v := ?dv7) (by simp only [List.getElem?_toArray, List.getElem?_cons_zero, List.getElem?_cons_succ]; rfl) (by kernel_rfl) (by kernel_rfl) (by kernel_rfl) (Or.inl ⟨by rfl, ?dy7⟩) ?dr7
          case dy7 => (intro w hSw; have hS0 := hSw; (try dsimp only [SL] at hSw); go_simp; refine Came.value ?_ hS0; with_reducible rfl)
          try simp only [Act.put, List.setIfInBounds_toArray, List.set_cons_zero, List.set_cons_succ]
          refine wpDet_take (i := 7) (oi := _) (v := ?dv8) (by simp only [List.getElem?_toArray, List.getElem?_cons_zero, List.getElem?_cons_succ]; rfl) (by kernel_rfl) (by kernel_rfl) (by kernel_rfl) (Or.inl ⟨by rfl, ?dy8⟩) ?dr8
          case dy8 => (intro w hSw; have hS0 := hSw; (try dsimp only [SL] at hSw); go_simp; refine Came.value ?_ hS0; with_reducible rfl)
          try simp only [Act.put, List.setIfInBounds_toArray, List.set_cons_zero, List.set_cons_succ]
          refine wpDet_take (i := 8) (oi := _) (v := ?dv9) (by simp only [List.getElem?_toArray, List.getElem?_cons_zero, List.getElem?_cons_succ]; rfl) (by kernel_rfl) (by kernel_rfl) (by kernel_rfl) (Or.inl ⟨by rfl, ?dy9⟩) ?dr9
          case dy9 => (intro w hSw; go_simp; exact Came.call ((HV.out w).mono fun e w' ⟨he, hf⟩ => ⟨he, hSw.fr hf⟩) (by with_reducible rfl))
          try simp only [Act.put, List.setIfInBounds_toArray, List.set_cons_zero, List.set_cons_succ]
          refine wpDet_take (i := 9) (oi := _) (v := ?dv10) (by simp only [List.getElem?_toArray, List.getElem?_cons_zero, List.getElem?_cons_succ]; rfl) (by kernel_rfl) (by kernel_rfl) (by kernel_rfl) (Or.inl ⟨by rfl, ?dy10⟩) ?dr10
          case dy10 => (intro w hSw; have hS0 := hSw; (try dsimp only [SL] at hSw); go_simp; refine Came.value ?_ hS0; with_reducible rfl)
          try simp only [Act.put, List.setIfInBounds_toArray, List.set_cons_zero, List.set_cons_succ]
          refine wpDet_done (by kernel_rfl) ?_ _
          rintro w1 ⟨hF, _, _⟩
          have HF := Lib.hid (HG.out.trans hF)
          clear hF
          go_wp2
          go_roundw
          case rel => exact ⟨k + 1, by omega, by go_num, HN.out, HF.out⟩
          case measure => simp [intOf]; omega
        · have HV := Lib.hid (fun W => latch_same x y W false (by simp [hxy]))
          have HN : Hid (b = false) := by
            show _ = _
            rw [HB.out, decide_eq_false_iff_not]
            intro e
            rw [hx, hy, e] at hxy
            exact hxy rfl
          clear hxy hx hy k1 k2 r1 r2 s1 s2 g1 g2
          go_wp2
          refine wp_region_det (S := SL wr b1 (o1 + k * 3) b2 (o2 + k * 3) x y) (by kernel_rfl) HS.out ?_
          refine wpDet_take (i := 0) (oi := _) (v := ?dv11) (by simp only [List.getElem?_toArray, List.getElem?_cons_zero]; rfl) (by kernel_rfl) (by kernel_rfl) (by kernel_rfl) (Or.inl ⟨by rfl, ?dy11⟩) ?dr11
          case dy11 => (intro w hSw; have hS0 := hSw; (try dsimp only [SL] at hSw); go_simp; refine Came.value ?_ hS0; with_reducible rfl)
          try simp only [Act.put, List.setIfInBounds_toArray, List.set_cons_zero, List.set_cons_succ]
          refine wpDet_take (i := 1) (oi := _) (v := ?dv12) (by simp only [List.getElem?_toArray, List.getElem?_cons_zero, List.getElem?_cons_succ]; rfl) (by kernel_rfl) (by kernel_rfl) (by kernel_rfl) (Or.inl ⟨by rfl, ?dy12⟩) ?dr12
          case dy12 => (intro w hSw; have hS0 := hSw; (try dsimp only [SL] at hSw); go_simp; refine Came.value ?_ hS0; with_reducible rfl)
          try simp only [Act.put, List.setIfInBounds_toArray, List.set_cons_zero, List.set_cons_succ]
          refine wpDet_take (i := 2) (oi := _) (v := ?dv13) (by simp only [List.getElem?_toArray, List.getElem?_cons_zero, List.getElem?_cons_succ]; rfl) (by kernel_rfl) (by kernel_rfl) (by kernel_rfl) (Or.inl ⟨by rfl, ?dy13⟩) ?dr13
          case dy13 => (intro w hSw; have hS0 := hSw; (try dsimp only [SL] at hSw); go_simp; refine Came.value ?_ hS0; with_reducible rfl)
          try simp only [Act.put, List.setIfInBounds_toArray, List.set_cons_zero, List.set_cons_succ]
          refine wpDet_take (i := 3) (oi := _) (v := ?dv14) (by simp only [List.getElem?_toArray, List.getElem?_cons_zero, List.getElem?_cons_succ]; rfl) (by kernel_rfl) (by kernel_rfl) (by kernel_rfl) (Or.inl ⟨by rfl, ?dy14⟩) ?dr14
          case dy14 => (intro w hSw; have hS0 := hSw; (try dsimp only [SL] at hSw); go_simp; refine Came.value ?_ hS0; with_reducible rfl)
          try simp only [Act.put, List.setIfInBounds_toArray, List.set_cons_zero, List.set_cons_succ]
          refine wpDet_take (i := 4) (oi := _) (v := ?dv15) (by simp only [List.getElem?_toArray, List.getElem?_cons_zero, List.getElem?_cons_succ]; rfl) (by kernel_rfl) (by kernel_rfl) (by kernel_rfl) (Or.inl ⟨by rfl, ?dy15⟩) ?dr15
          case dy15 => (intro w hSw; have hS0 := hSw; (try dsimp only [SL] at hSw); go_simp; refine Came.value ?_ hS0; with_reducible rfl)
          try simp only [Act.put, List.setIfInBounds_toArray, List.set_cons_zero, List.set_cons_succ]
          refine wpDet_take (i := 5) (oi := _) (v := ?dv16) (by simp only [List.getElem?_toArray, List.getElem?_cons_zero, List.getElem?_cons_succ]; rfl) (by kernel_rfl) (by kernel_rfl) (by kernel_rfl) (Or.inl ⟨by rfl, ?dy16⟩) ?dr16
          case dy16 => (intro w hSw; have hS0 := hSw; (try dsimp only [SL] at hSw); go_simp; refine Came.value ?_ hS0; with_reducible rfl)
          try simp only [Act.put, List.setIfInBounds_toArray, List.set_cons_zero, List.set_cons_succ]
          refine wpDet_take (i := 6) (oi := _) (v := ?dv17) (by simp only [List.getElem?_toArray, List.getElem?_cons_zero, List.getElem?_cons_succ]; rfl) (by kernel_rfl) (by kernel_rfl) (by kernel_rfl) (Or.inl ⟨by rfl, ?dy17⟩) ?dr17
          case dy17 => (intro w hSw; have hS0 := hSw; (try dsimp only [SL] at hSw); go_simp; refine Came.value ?_ hS0; with_reducible rfl)
          try simp only [Act.put, List.setIfInBounds_toArray, List.set_cons_zero, List.set_cons_succ]
          refine wpDet_take (i := 7) (oi := _) (v := ?dv18) (by simp only [List.getElem?_toArray, List.getElem?_cons_zero, List.getElem?_cons_succ]; rfl) (by kernel_rfl) (by kernel_rfl) (by kernel_rfl) (Or.inl ⟨by rfl, ?dy18⟩) ?dr18
          case dy18 => (intro w hSw; have hS0 := hSw; (try dsimp only [SL] at hSw); go_simp; refine Came.value ?_ hS0; with_reducible rfl)
          try simp only [Act.put, List.setIfInBounds_toArray, List.set_cons_zero, List.set_cons_succ]
          refine wpDet_take (i := 8) (oi := _) (v := ?dv19) (by simp only [List.getElem?_toArray, List.getElem?_cons_zero, List.getElem?_cons_succ]; rfl) (by kernel_rfl) (by kernel_rfl) (by kernel_rfl) (Or.inl ⟨by rfl, ?dy19⟩) ?dr19
          case dy19 => (intro w hSw; go_simp; exact Came.call ((HV.out w).mono fun e w' ⟨he, hf⟩ => ⟨he, hSw.fr hf⟩) (by with_reducible rfl))
          try simp only [Act.put, List.setIfInBounds_toArray, List.set_cons_zero, List.set_cons_succ]
          refine wpDet_take (i := 9) (oi := _) (v := ?dv20) (by simp only [List.getElem?_toArray, List.getElem?_cons_zero, List.getElem?_cons_succ]; rfl) (by kernel_rfl) (by kernel_rfl) (by kernel_rfl) (Or.inl ⟨by rfl, ?dy20⟩) ?dr20
          case dy20 => (intro w hSw; have hS0 := hSw; (try dsimp only [SL] at hSw); go_simp; refine Came.value ?_ hS0; with_reducible rfl)
          try simp only [Act.put, List.setIfInBounds_toArray, List.set_cons_zero, List.set_cons_succ]
          refine wpDet_done (by kernel_rfl) ?_ _
          rintro w1 ⟨hF, _, _⟩
          have HF := Lib.hid (HG.out.trans hF)
          clear hF
          go_wp2
          go_ret
          exact ⟨by rw [HN.out]; rfl, HF.out⟩
      · obtain rfl : k = l.length := by omega
        have HN : Hid (b = true) := by
          show _ = _
          rw [HB.out, decide_eq_true_iff]
          have := HP.out
          rwa [List.take_length, HL.out, List.take_length] at this
        clear r1 r2
        go_wp2
        go_ret
        exact ⟨by rw [HN.out]; rfl, HG.out⟩
  · have hne : ((l.length : Int) != (m.length : Int)) = true := by simp; omega
    have HN : Hid (b = false) := by
      show _ = _
      rw [hb, decide_eq_false_iff_not]
      rintro rfl
      exact hl rfl
    clear hl hb r1 r2
    go_enter Try.func21, Try.ntmps21
    go_wp2
    go_ret
    exact ⟨by rw [HN.out]; rfl, Fr.refl _ _⟩
end Go.Proofs.Ytfopmpaoigdelaa
