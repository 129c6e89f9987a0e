/- Whether two bids, two lists of bids are the same: the document's (out of FSame). -/
import Derived.Test.YtfphihhcclfmnaaBds
import Derived.Test.YtfphihhcclfmnaaDet
namespace Go.Proofs.Ytfphihhcclfmnaa
open Go.RowKit

theorem tk_snoc {α : Type} (l : List α) (k : Nat) (h : k < l.length) (d : α) : l.take (k + 1) = l.take k ++ [l.getD k d] := by
  rw [List.take_succ_eq_append_getElem h]; simp [h]
theorem bcase {P : Prop} [Decidable P] {b : Bool} (h : b = decide P) : (P ∧ b = true) ∨ (¬ P ∧ b = false) := by
  by_cases hp : P
  · exact .inl ⟨hp, by simp [h, hp]⟩
  · exact .inr ⟨hp, by simp [h, hp]⟩
theorem yes {P : Prop} [Decidable P] (h : P) : true = decide P := (decide_eq_true h).symm
theorem no {P : Prop} [Decidable P] (h : ¬ P) : false = decide P := (decide_eq_false h).symm
theorem pre_all {α : Type} {l m : List α} (hl : l.length = m.length) (h : l.take l.length = m.take l.length) : l = m := by
  rwa [List.take_length, hl, List.take_length] at h
theorem pre_step {α : Type} {l m : List α} {k : Nat} (d : α) (hl : l.length = m.length) (h : l.take k = m.take k) (hk : k < l.length) (e : l.getD k d = m.getD k d) : l.take (k + 1) = m.take (k + 1) := by
  rw [tk_snoc l k hk d, tk_snoc m k (by omega) d, h, e]
theorem pre_no {α : Type} {l m : List α} {k : Nat} (d : α) (e : l.getD k d ≠ m.getD k d) : ¬ l = m := fun h => e (by rw [h])

theorem rsameBid_any (a1 a2 b1 b2 : Int) (b : Bool) (hb : b = decide (a1 = b1 ∧ a2 = b2)) (w : World) : Calls Try.prog 10 #[.agg #[.int .i64 a1, .int .i64 a2], .agg #[.int .i64 b1, .int .i64 b2]] w fun e w' => e = .returned (.bool b) ∧ Fr w w' [] := by
  have hcase : (a1 = b1 ∧ a2 = b2 ∧ b = true) ∨ (a1 = b1 ∧ ¬ a2 = b2 ∧ b = false) ∨ (¬ a1 = b1 ∧ b = false) := by
    rcases bcase hb with ⟨h, e⟩ | ⟨h, e⟩ <;> subst e <;> simp only [and_true, reduceCtorEq, and_false, or_false, false_or] <;> omega
  clear hb
  rcases hcase with ⟨h1, h2, rfl⟩ | ⟨h1, h2, rfl⟩ | ⟨h1, rfl⟩
  all_goals
    go_enter Try.func10, Try.ntmps10
    go_wp2
    go_ret
    refine ⟨?_, (Fr.alloc _ _ _).trans (Fr.alloc _ _ _)⟩
    simp [*]

/-- Two bids, where they lie. -/
def BidS (w0 : World) (b1 o1 b2 o2 : Nat) (x x' y y' : Int) (a : World) : Prop :=
  Fr w0 a [] ∧ a.cell? ⟨b1, o1, none⟩ = some (.int .i64 x) ∧ a.cell? ⟨b1, o1 + 1, none⟩ = some (.int .i64 x') ∧ a.cell? ⟨b2, o2, none⟩ = some (.int .i64 y) ∧ a.cell? ⟨b2, o2 + 1, none⟩ = some (.int .i64 y')
theorem BidS.keep {w0 : World} {b1 o1 b2 o2 : Nat} {x x' y y' : Int} {a c : World} (h : BidS w0 b1 o1 b2 o2 x x' y y' a) (k : Fr a c []) : BidS w0 b1 o1 b2 o2 x x' y y' c :=
  ⟨h.1.trans k, k.cell h.2.1 (by simp), k.cell h.2.2.1 (by simp), k.cell h.2.2.2.1 (by simp), k.cell h.2.2.2.2 (by simp)⟩
set_option maxRecDepth 100000 in
theorem rsameBids_any (v1 : Value) (l : List (Int × Int)) (v2 : Value) (m : List (Int × Int)) (w : World) (h1 : HB w v1 l) (h2 : HB w v2 m) (b : Bool) (hb : b = true ↔ l = m) :
    Calls Try.prog 17 #[v1, v2] w fun e w' => e = .returned (.bool b) ∧ Fr w w' [] := by
  obtain ⟨a1, c1, rfl, p1, q1, r1⟩ := h1
  obtain ⟨a2, c2, rfl, p2, q2, r2⟩ := h2
  unfold maxLen at q1 q2
  have HB := Lib.hid hb
  clear hb
  by_cases hl : l.length = m.length
  · have hne : ((l.length : Int) != (m.length : Int)) = false := by simp [hl]
    have HL := Lib.hid hl
    clear hl
    go_enter Try.func17, Try.ntmps17
    go_wp2
    go_loopw [5] (fun i wr => ∃ k : Nat, k ≤ l.length ∧ i = .int .i64 k ∧ l.take k = m.take k ∧ Fr w wr []) (fun i _ => l.length - (intOf i).toNat)
    case atStart => exact ⟨0, Nat.zero_le _, rfl, by simp, Fr.refl _ _⟩
    case round =>
      obtain ⟨k, hk, rfl, hpre, hg⟩ := hrel
      have HP := Lib.hid hpre
      have HG := Lib.hid hg
      clear hpre
      by_cases hlt : k < l.length
      · have hlt2 : k < m.length := by have := HL.out; omega
        obtain ⟨b1, o1, rfl, k1⟩ := r1 (by omega)
        obtain ⟨b2, o2, rfl, k2⟩ := r2 (by omega)
        obtain ⟨x, hx⟩ : ∃ x, x = (l.getD k (0, 0)).1 := ⟨_, rfl⟩
        obtain ⟨x', hx'⟩ : ∃ x, x = (l.getD k (0, 0)).2 := ⟨_, rfl⟩
        obtain ⟨y, hy⟩ : ∃ y, y = (m.getD k (0, 0)).1 := ⟨_, rfl⟩
        obtain ⟨y', hy'⟩ : ∃ y, y = (m.getD k (0, 0)).2 := ⟨_, rfl⟩
        have g1 : wr.cell? ⟨b1, o1 + k * 2, none⟩ = some (.int .i64 x) := by rw [hx]; exact hg.cell (k1 k hlt).1 (by simp)
        have g1' : wr.cell? ⟨b1, o1 + k * 2 + 1, none⟩ = some (.int .i64 x') := by rw [hx']; exact hg.cell (k1 k hlt).2 (by simp)
        have g2 : wr.cell? ⟨b2, o2 + k * 2, none⟩ = some (.int .i64 y) := by rw [hy]; exact hg.cell (k2 k hlt2).1 (by simp)
        have g2' : wr.cell? ⟨b2, o2 + k * 2 + 1, none⟩ = some (.int .i64 y') := by rw [hy']; exact hg.cell (k2 k hlt2).2 (by simp)
        by_cases hxy : x = y ∧ x' = y'
        · have HN := Lib.hid (pre_step (0, 0) HL.out HP.out hlt (Prod.ext (by rw [← hx, ← hy, hxy.1]) (by rw [← hx', ← hy', hxy.2])))
          obtain ⟨rfl, rfl⟩ := hxy
          clear hx hy hx' hy' k1 k2 r1 r2 hg
          have HS0 : BidS wr b1 (o1 + k * 2) b2 (o2 + k * 2) x x' x x' wr := ⟨Fr.refl _ _, g1, g1', g2, g2'⟩
          go_wp2
          refine wp_region_det (S := BidS wr b1 (o1 + k * 2) b2 (o2 + k * 2) x x' x x') (by kernel_rfl) (HS0.keep (Fr.drew _ _)) ?_
          refine wpDet_take (i := 0) (oi := _) (v := ?dv1) (by simp only [List.getElem?_toArray, List.getElem?_cons_zero]; rfl) (by kernel_rfl) (by kernel_rfl) (by kernel_rfl) (Or.inl ⟨by rfl, ?dy1⟩) ?dr1
          case dy1 => (intro w hSw; have hS0 := hSw; (try dsimp only [BidS] at hSw); go_simp; refine Came.value ?_ hS0; with_reducible rfl)
          try simp only [Act.put, List.setIfInBounds_toArray, List.set_cons_zero, List.set_cons_succ]
          refine wpDet_take (i := 1) (oi := _) (v := ?dv2) (by simp only [List.getElem?_toArray, List.getElem?_cons_zero, List.getElem?_cons_succ]; rfl) (by kernel_rfl) (by kernel_rfl) (by kernel_rfl) (Or.inl ⟨by rfl, ?dy2⟩) ?dr2
          case dy2 => (intro w hSw; have hS0 := hSw; (try dsimp only [BidS] at hSw); go_simp; refine Came.value ?_ hS0; with_reducible rfl)
          try simp only [Act.put, List.setIfInBounds_toArray, List.set_cons_zero, List.set_cons_succ]
          refine wpDet_take (i := 2) (oi := _) (v := ?dv3) (by simp only [List.getElem?_toArray, List.getElem?_cons_zero, List.getElem?_cons_succ]; rfl) (by kernel_rfl) (by kernel_rfl) (by kernel_rfl) (Or.inl ⟨by rfl, ?dy3⟩) ?dr3
          case dy3 => (intro w hSw; have hS0 := hSw; (try dsimp only [BidS] at hSw); go_simp; refine Came.value ?_ hS0; with_reducible rfl)
          try simp only [Act.put, List.setIfInBounds_toArray, List.set_cons_zero, List.set_cons_succ]
          refine wpDet_take (i := 3) (oi := _) (v := ?dv4) (by simp only [List.getElem?_toArray, List.getElem?_cons_zero, List.getElem?_cons_succ]; rfl) (by kernel_rfl) (by kernel_rfl) (by kernel_rfl) (Or.inl ⟨by rfl, ?dy4⟩) ?dr4
          case dy4 => (intro w hSw; have hS0 := hSw; (try dsimp only [BidS] at hSw); go_simp; refine Came.value ?_ hS0; with_reducible rfl)
          try simp only [Act.put, List.setIfInBounds_toArray, List.set_cons_zero, List.set_cons_succ]
          refine wpDet_take (i := 4) (oi := _) (v := ?dv5) (by simp only [List.getElem?_toArray, List.getElem?_cons_zero, List.getElem?_cons_succ]; rfl) (by kernel_rfl) (by kernel_rfl) (by kernel_rfl) (Or.inl ⟨by rfl, ?dy5⟩) ?dr5
          case dy5 => (intro w hSw; have hS0 := hSw; (try dsimp only [BidS] at hSw); go_simp; refine Came.value ?_ hS0; with_reducible rfl)
          try simp only [Act.put, List.setIfInBounds_toArray, List.set_cons_zero, List.set_cons_succ]
          refine wpDet_take (i := 5) (oi := _) (v := ?dv6) (by simp only [List.getElem?_toArray, List.getElem?_cons_zero, List.getElem?_cons_succ]; rfl) (by kernel_rfl) (by kernel_rfl) (by kernel_rfl) (Or.inl ⟨by rfl, ?dy6⟩) ?dr6
          case dy6 => (intro w hSw; have hS0 := hSw; (try dsimp only [BidS] at hSw); go_simp; refine Came.value ?_ hS0; with_reducible rfl)
          try simp only [Act.put, List.setIfInBounds_toArray, List.set_cons_zero, List.set_cons_succ]
          refine wpDet_take (i := 6) (oi := _) (v := ?dv7) (by simp only [List.getElem?_toArray, List.getElem?_cons_zero, List.getElem?_cons_succ]; rfl) (by kernel_rfl) (by kernel_rfl) (by kernel_rfl) (Or.inl ⟨by rfl, ?dy7⟩) ?dr7
          case dy7 => (intro w hSw; have hS0 := hSw; (try dsimp only [BidS] at hSw); go_simp; refine Came.value ?_ hS0; with_reducible rfl)
          try simp only [Act.put, List.setIfInBounds_toArray, List.set_cons_zero, List.set_cons_succ]
          refine wpDet_take (i := 7) (oi := _) (v := ?dv8) (by simp only [List.getElem?_toArray, List.getElem?_cons_zero, List.getElem?_cons_succ]; rfl) (by kernel_rfl) (by kernel_rfl) (by kernel_rfl) (Or.inl ⟨by rfl, ?dy8⟩) ?dr8
          case dy8 => (intro w hSw; have hS0 := hSw; (try dsimp only [BidS] at hSw); go_simp; refine Came.value ?_ hS0; with_reducible rfl)
          try simp only [Act.put, List.setIfInBounds_toArray, List.set_cons_zero, List.set_cons_succ]
          refine wpDet_take (i := 8) (oi := _) (v := ?dv9) (by simp only [List.getElem?_toArray, List.getElem?_cons_zero, List.getElem?_cons_succ]; rfl) (by kernel_rfl) (by kernel_rfl) (by kernel_rfl) (Or.inl ⟨by rfl, ?dy9⟩) ?dr9
          case dy9 => (intro w hSw; go_simp; exact Came.call ((rsameBid_any _ _ _ _ true (yes ⟨rfl, rfl⟩) w).mono fun e w' ⟨he, hf⟩ => ⟨he, hSw.keep hf⟩) (by with_reducible rfl))
          try simp only [Act.put, List.setIfInBounds_toArray, List.set_cons_zero, List.set_cons_succ]
          refine wpDet_take (i := 9) (oi := _) (v := ?dv10) (by simp only [List.getElem?_toArray, List.getElem?_cons_zero, List.getElem?_cons_succ]; rfl) (by kernel_rfl) (by kernel_rfl) (by kernel_rfl) (Or.inl ⟨by rfl, ?dy10⟩) ?dr10
          case dy10 => (intro w hSw; have hS0 := hSw; (try dsimp only [BidS] at hSw); go_simp; refine Came.value ?_ hS0; with_reducible rfl)
          try simp only [Act.put, List.setIfInBounds_toArray, List.set_cons_zero, List.set_cons_succ]
          refine wpDet_done (by kernel_rfl) ?_ _
          rintro w1 hS1
          have HS1 := Lib.hid hS1
          clear hS1
          go_wp2
          go_roundw
          case rel => exact ⟨k + 1, by omega, by go_num, HN.out, HG.out.trans HS1.out.1⟩
          case measure => simp [intOf]; omega
        · have HN : Hid (b = false) := by
            show _ = _
            cases b with
            | false => rfl
            | true => exact absurd (HB.out.1 rfl) (pre_no (0, 0) (k := k) (by intro e; exact hxy ⟨by rw [hx, hy, e], by rw [hx', hy', e]⟩))
          have HX := Lib.hid hxy
          clear hxy hx hy hx' hy' k1 k2 r1 r2 hg
          have HS0 : BidS wr b1 (o1 + k * 2) b2 (o2 + k * 2) x x' y y' wr := ⟨Fr.refl _ _, g1, g1', g2, g2'⟩
          go_wp2
          refine wp_region_det (S := BidS wr b1 (o1 + k * 2) b2 (o2 + k * 2) x x' y y') (by kernel_rfl) (HS0.keep (Fr.drew _ _)) ?_
          refine wpDet_take (i := 0) (oi := _) (v := ?dv11) (by simp only [List.getElem?_toArray, List.getElem?_cons_zero]; rfl) (by kernel_rfl) (by kernel_rfl) (by kernel_rfl) (Or.inl ⟨by rfl, ?dy11⟩) ?dr11
          case dy11 => (intro w hSw; have hS0 := hSw; (try dsimp only [BidS] at hSw); go_simp; refine Came.value ?_ hS0; with_reducible rfl)
          try simp only [Act.put, List.setIfInBounds_toArray, List.set_cons_zero, List.set_cons_succ]
          refine wpDet_take (i := 1) (oi := _) (v := ?dv12) (by simp only [List.getElem?_toArray, List.getElem?_cons_zero, List.getElem?_cons_succ]; rfl) (by kernel_rfl) (by kernel_rfl) (by kernel_rfl) (Or.inl ⟨by rfl, ?dy12⟩) ?dr12
          case dy12 => (intro w hSw; have hS0 := hSw; (try dsimp only [BidS] at hSw); go_simp; refine Came.value ?_ hS0; with_reducible rfl)
          try simp only [Act.put, List.setIfInBounds_toArray, List.set_cons_zero, List.set_cons_succ]
          refine wpDet_take (i := 2) (oi := _) (v := ?dv13) (by simp only [List.getElem?_toArray, List.getElem?_cons_zero, List.getElem?_cons_succ]; rfl) (by kernel_rfl) (by kernel_rfl) (by kernel_rfl) (Or.inl ⟨by rfl, ?dy13⟩) ?dr13
          case dy13 => (intro w hSw; have hS0 := hSw; (try dsimp only [BidS] at hSw); go_simp; refine Came.value ?_ hS0; with_reducible rfl)
          try simp only [Act.put, List.setIfInBounds_toArray, List.set_cons_zero, List.set_cons_succ]
          refine wpDet_take (i := 3) (oi := _) (v := ?dv14) (by simp only [List.getElem?_toArray, List.getElem?_cons_zero, List.getElem?_cons_succ]; rfl) (by kernel_rfl) (by kernel_rfl) (by kernel_rfl) (Or.inl ⟨by rfl, ?dy14⟩) ?dr14
          case dy14 => (intro w hSw; have hS0 := hSw; (try dsimp only [BidS] at hSw); go_simp; refine Came.value ?_ hS0; with_reducible rfl)
          try simp only [Act.put, List.setIfInBounds_toArray, List.set_cons_zero, List.set_cons_succ]
          refine wpDet_take (i := 4) (oi := _) (v := ?dv15) (by simp only [List.getElem?_toArray, List.getElem?_cons_zero, List.getElem?_cons_succ]; rfl) (by kernel_rfl) (by kernel_rfl) (by kernel_rfl) (Or.inl ⟨by rfl, ?dy15⟩) ?dr15
          case dy15 => (intro w hSw; have hS0 := hSw; (try dsimp only [BidS] at hSw); go_simp; refine Came.value ?_ hS0; with_reducible rfl)
          try simp only [Act.put, List.setIfInBounds_toArray, List.set_cons_zero, List.set_cons_succ]
          refine wpDet_take (i := 5) (oi := _) (v := ?dv16) (by simp only [List.getElem?_toArray, List.getElem?_cons_zero, List.getElem?_cons_succ]; rfl) (by kernel_rfl) (by kernel_rfl) (by kernel_rfl) (Or.inl ⟨by rfl, ?dy16⟩) ?dr16
          case dy16 => (intro w hSw; have hS0 := hSw; (try dsimp only [BidS] at hSw); go_simp; refine Came.value ?_ hS0; with_reducible rfl)
          try simp only [Act.put, List.setIfInBounds_toArray, List.set_cons_zero, List.set_cons_succ]
          refine wpDet_take (i := 6) (oi := _) (v := ?dv17) (by simp only [List.getElem?_toArray, List.getElem?_cons_zero, List.getElem?_cons_succ]; rfl) (by kernel_rfl) (by kernel_rfl) (by kernel_rfl) (Or.inl ⟨by rfl, ?dy17⟩) ?dr17
          case dy17 => (intro w hSw; have hS0 := hSw; (try dsimp only [BidS] at hSw); go_simp; refine Came.value ?_ hS0; with_reducible rfl)
          try simp only [Act.put, List.setIfInBounds_toArray, List.set_cons_zero, List.set_cons_succ]
          refine wpDet_take (i := 7) (oi := _) (v := ?dv18) (by simp only [List.getElem?_toArray, List.getElem?_cons_zero, List.getElem?_cons_succ]; rfl) (by kernel_rfl) (by kernel_rfl) (by kernel_rfl) (Or.inl ⟨by rfl, ?dy18⟩) ?dr18
          case dy18 => (intro w hSw; have hS0 := hSw; (try dsimp only [BidS] at hSw); go_simp; refine Came.value ?_ hS0; with_reducible rfl)
          try simp only [Act.put, List.setIfInBounds_toArray, List.set_cons_zero, List.set_cons_succ]
          refine wpDet_take (i := 8) (oi := _) (v := ?dv19) (by simp only [List.getElem?_toArray, List.getElem?_cons_zero, List.getElem?_cons_succ]; rfl) (by kernel_rfl) (by kernel_rfl) (by kernel_rfl) (Or.inl ⟨by rfl, ?dy19⟩) ?dr19
          case dy19 => (intro w hSw; go_simp; exact Came.call ((rsameBid_any _ _ _ _ false (no HX.out) w).mono fun e w' ⟨he, hf⟩ => ⟨he, hSw.keep hf⟩) (by with_reducible rfl))
          try simp only [Act.put, List.setIfInBounds_toArray, List.set_cons_zero, List.set_cons_succ]
          refine wpDet_take (i := 9) (oi := _) (v := ?dv20) (by simp only [List.getElem?_toArray, List.getElem?_cons_zero, List.getElem?_cons_succ]; rfl) (by kernel_rfl) (by kernel_rfl) (by kernel_rfl) (Or.inl ⟨by rfl, ?dy20⟩) ?dr20
          case dy20 => (intro w hSw; have hS0 := hSw; (try dsimp only [BidS] at hSw); go_simp; refine Came.value ?_ hS0; with_reducible rfl)
          try simp only [Act.put, List.setIfInBounds_toArray, List.set_cons_zero, List.set_cons_succ]
          refine wpDet_done (by kernel_rfl) ?_ _
          rintro w1 hS1
          have HS1 := Lib.hid hS1
          clear hS1
          go_wp2
          go_ret
          exact ⟨by rw [HN.out]; rfl, HG.out.trans HS1.out.1⟩
      · obtain rfl : k = l.length := by omega
        have HN : Hid (b = true) := HB.out.2 (pre_all HL.out HP.out)
        clear r1 r2 hg
        go_wp2
        go_ret
        exact ⟨by rw [HN.out]; rfl, HG.out⟩
  · have hne : ((l.length : Int) != (m.length : Int)) = true := by simp; omega
    have HN : Hid (b = false) := by
      show _ = _
      cases b with
      | false => rfl
      | true => exact absurd (congrArg List.length (HB.out.1 rfl)) hl
    clear hl r1 r2
    go_enter Try.func17, Try.ntmps17
    go_wp2
    go_ret
    exact ⟨by rw [HN.out]; rfl, Fr.refl _ _⟩
end Go.Proofs.Ytfphihhcclfmnaa
