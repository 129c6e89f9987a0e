/- Whether two bids, two lists of bids are the same: the document's (out of FSame). Whether two calls, latches, epochs, entries, rings are the same: the document's. -/
import Derived.Test.YtldheaamcnmlgaaGLa
import Derived.Test.YtldheaamcnmlgaaGLb
import Derived.Laws.StructEq
namespace Go.Proofs.Ytldheaamcnmlgaa
open Go.RowKit

theorem tk_snoc {α : Type} (l : List α) (k : Nat) (h : k < l.length) (d : α) : l.take (k + 1) = l.take k ++ [l.getD k d] := by
  rw [List.take_succ_eq_append_getElem h]; simp [h]
theorem bcase {P : Prop} [Decidable P] {b : Bool} (h : b = decide P) : (P ∧ b = true) ∨ (¬ P ∧ b = false) := by
  by_cases hp : P
  · exact .inl ⟨hp, by simp [h, hp]⟩
  · exact .inr ⟨hp, by simp [h, hp]⟩
theorem yes {P : Prop} [Decidable P] (h : P) : true = decide P := (decide_eq_true h).symm
theorem no {P : Prop} [Decidable P] (h : ¬ P) : false = decide P := (decide_eq_false h).symm
theorem pre_all {α : Type} {l m : List α} (hl : l.length = m.length) (h : l.take l.length = m.take l.length) : l = m := by
  rwa [List.take_length, hl, List.take_length] at h
theorem pre_step {α : Type} {l m : List α} {k : Nat} (d : α) (hl : l.length = m.length) (h : l.take k = m.take k) (hk : k < l.length) (e : l.getD k d = m.getD k d) : l.take (k + 1) = m.take (k + 1) := by
  rw [tk_snoc l k hk d, tk_snoc m k (by omega) d, h, e]
theorem pre_no {α : Type} {l m : List α} {k : Nat} (d : α) (e : l.getD k d ≠ m.getD k d) : ¬ l = m := fun h => e (by rw [h])

theorem rsameBid_any (a1 a2 b1 b2 : Int) (b : Bool) (hb : b = decide (a1 = b1 ∧ a2 = b2)) (w : World) : Calls Try.prog 63 #[.agg #[.int .i64 a1, .int .i64 a2], .agg #[.int .i64 b1, .int .i64 b2]] w fun e w' => e = .returned (.bool b) ∧ Fr w w' [] := by
  have hcase : (a1 = b1 ∧ a2 = b2 ∧ b = true) ∨ (a1 = b1 ∧ ¬ a2 = b2 ∧ b = false) ∨ (¬ a1 = b1 ∧ b = false) := by
    rcases bcase hb with ⟨h, e⟩ | ⟨h, e⟩ <;> subst e <;> simp only [and_true, reduceCtorEq, and_false, or_false, false_or] <;> omega
  clear hb
  rcases hcase with ⟨h1, h2, rfl⟩ | ⟨h1, h2, rfl⟩ | ⟨h1, rfl⟩
  all_goals
    go_enter Try.func63, Try.ntmps63
    go_wp2
    go_ret
    refine ⟨?_, (Fr.alloc _ _ _).trans (Fr.alloc _ _ _)⟩
    simp [*]

/-- Two bids, where they lie. -/
def BidS (w0 : World) (b1 o1 b2 o2 : Nat) (x x' y y' : Int) (a : World) : Prop :=
  Fr w0 a [] ∧ a.cell? ⟨b1, o1, none⟩ = some (.int .i64 x) ∧ a.cell? ⟨b1, o1 + 1, none⟩ = some (.int .i64 x') ∧ a.cell? ⟨b2, o2, none⟩ = some (.int .i64 y) ∧ a.cell? ⟨b2, o2 + 1, none⟩ = some (.int .i64 y')
theorem BidS.keep {w0 : World} {b1 o1 b2 o2 : Nat} {x x' y y' : Int} {a c : World} (h : BidS w0 b1 o1 b2 o2 x x' y y' a) (k : Fr a c []) : BidS w0 b1 o1 b2 o2 x x' y y' c :=
  ⟨h.1.trans k, k.cell h.2.1 (by simp), k.cell h.2.2.1 (by simp), k.cell h.2.2.2.1 (by simp), k.cell h.2.2.2.2 (by simp)⟩
set_option maxRecDepth 100000 in
theorem rsameBids_any (v1 : Value) (l : List (Int × Int)) (v2 : Value) (m : List (Int × Int)) (w : World) (h1 : HB w v1 l) (h2 : HB w v2 m) (b : Bool) (hb : b = true ↔ l = m) :
    Calls Try.prog 43 #[v1, v2] w fun e w' => e = .returned (.bool b) ∧ Fr w w' [] := by
  obtain ⟨a1, c1, rfl, p1, q1, r1⟩ := h1
  obtain ⟨a2, c2, rfl, p2, q2, r2⟩ := h2
  unfold maxLen at q1 q2
  have HB := Lib.hid hb
  clear hb
  by_cases hl : l.length = m.length
  · have hne : ((l.length : Int) != (m.length : Int)) = false := by simp [hl]
    have HL := Lib.hid hl
    clear hl
    go_enter Try.func43, Try.ntmps43
    go_wp2
    go_loopw [5] (fun i wr => ∃ k : Nat, k ≤ l.length ∧ i = .int .i64 k ∧ l.take k = m.take k ∧ Fr w wr []) (fun i _ => l.length - (intOf i).toNat)
    case atStart => exact ⟨0, Nat.zero_le _, rfl, by simp, Fr.refl _ _⟩
    case round =>
      obtain ⟨k, hk, rfl, hpre, hg⟩ := hrel
      have HP := Lib.hid hpre
      have HG := Lib.hid hg
      clear hpre
      by_cases hlt : k < l.length
      · have hlt2 : k < m.length := by have := HL.out; omega
        obtain ⟨b1, o1, rfl, k1⟩ := r1 (by omega)
        obtain ⟨b2, o2, rfl, k2⟩ := r2 (by omega)
        obtain ⟨x, hx⟩ : ∃ x, x = (l.getD k (0, 0)).1 := ⟨_, rfl⟩
        obtain ⟨x', hx'⟩ : ∃ x, x = (l.getD k (0, 0)).2 := ⟨_, rfl⟩
        obtain ⟨y, hy⟩ : ∃ y, y = (m.getD k (0, 0)).1 := ⟨_, rfl⟩
        obtain ⟨y', hy'⟩ : ∃ y, y = (m.getD k (0, 0)).2 := ⟨_, rfl⟩
        have g1 : wr.cell? ⟨b1, o1 + k * 2, none⟩ = some (.int .i64 x) := by rw [hx]; exact hg.cell (k1 k hlt).1 (by simp)
        have g1' : wr.cell? ⟨b1, o1 + k * 2 + 1, none⟩ = some (.int .i64 x') := by rw [hx']; exact hg.cell (k1 k hlt).2 (by simp)
        have g2 : wr.cell? ⟨b2, o2 + k * 2, none⟩ = some (.int .i64 y) := by rw [hy]; exact hg.cell (k2 k hlt2).1 (by simp)
        have g2' : wr.cell? ⟨b2, o2 + k * 2 + 1, none⟩ = some (.int .i64 y') := by rw [hy']; exact hg.cell (k2 k hlt2).2 (by simp)
        by_cases hxy : x = y ∧ x' = y'
        · have HN := Lib.hid (pre_step (0, 0) HL.out HP.out hlt (Prod.ext (by rw [← hx, ← hy, hxy.1]) (by rw [← hx', ← hy', hxy.2])))
          obtain ⟨rfl, rfl⟩ := hxy
          clear hx hy hx' hy' k1 k2 r1 r2 hg
          have HS0 : BidS wr b1 (o1 + k * 2) b2 (o2 + k * 2) x x' x x' wr := ⟨Fr.refl _ _, g1, g1', g2, g2'⟩
          go_wp2
          refine wp_region_det (S := BidS wr b1 (o1 + k * 2) b2 (o2 + k * 2) x x' x x') (by kernel_rfl) (HS0.keep (Fr.drew _ _)) ?_
          refine wpDet_take (i := 0) (oi := _) (v := ?dv1) (by simp only [List.getElem?_toArray, List.getElem?_cons_zero]; rfl) (by kernel_rfl) (by kernel_rfl) (by kernel_rfl) (Or.inl ⟨by rfl, ?dy1⟩) ?dr1
          case dy1 => (intro w hSw; have hS0 := hSw; (try dsimp only [BidS] at hSw); go_simp; refine Came.value ?_ hS0; with_reducible rfl)
          try simp only [Act.put, List.setIfInBounds_toArray, List.set_cons_zero, List.set_cons_succ]
          refine wpDet_take (i := 1) (oi := _) (v := ?dv2) (by simp only [List.getElem?_toArray, List.getElem?_cons_zero, List.getElem?_cons_succ]; rfl) (by kernel_rfl) (by kernel_rfl) (by kernel_rfl) (Or.inl ⟨by rfl, ?dy2⟩) ?dr2
          case dy2 => (intro w hSw; have hS0 := hSw; (try dsimp only [BidS] at hSw); go_simp; refine Came.value ?_ hS0; with_reducible rfl)
          try simp only [Act.put, List.setIfInBounds_toArray, List.set_cons_zero, List.set_cons_succ]
          refine wpDet_take (i := 2) (oi := _) (v := ?dv3) (by simp only [List.getElem?_toArray, List.getElem?_cons_zero, List.getElem?_cons_succ]; rfl) (by kernel_rfl) (by kernel_rfl) (by kernel_rfl) (Or.inl ⟨by rfl, ?dy3⟩) ?dr3
          case dy3 => (intro w hSw; have hS0 := hSw; (try dsimp only [BidS] at hSw); go_simp; refine Came.value ?_ hS0; with_reducible rfl)
          try simp only [Act.put, List.setIfInBounds_toArray, List.set_cons_zero, List.set_cons_succ]
          refine wpDet_take (i := 3) (oi := _) (v := ?dv4) (by simp only [List.getElem?_toArray, List.getElem?_cons_zero, List.getElem?_cons_succ]; rfl) (by kernel_rfl) (by kernel_rfl) (by kernel_rfl) (Or.inl ⟨by rfl, ?dy4⟩) ?dr4
          case dy4 => (intro w hSw; have hS0 := hSw; (try dsimp only [BidS] at hSw); go_simp; refine Came.value ?_ hS0; with_reducible rfl)
          try simp only [Act.put, List.setIfInBounds_toArray, List.set_cons_zero, List.set_cons_succ]
          refine wpDet_take (i := 4) (oi := _) (v := ?dv5) (by simp only [List.getElem?_toArray, List.getElem?_cons_zero, List.getElem?_cons_succ]; rfl) (by kernel_rfl) (by kernel_rfl) (by kernel_rfl) (Or.inl ⟨by rfl, ?dy5⟩) ?dr5
          case dy5 => (intro w hSw; have hS0 := hSw; (try dsimp only [BidS] at hSw); go_simp; refine Came.value ?_ hS0; with_reducible rfl)
          try simp only [Act.put, List.setIfInBounds_toArray, List.set_cons_zero, List.set_cons_succ]
          refine wpDet_take (i := 5) (oi := _) (v := ?dv6) (by simp only [List.getElem?_toArray, List.getElem?_cons_zero, List.getElem?_cons_succ]; rfl) (by kernel_rfl) (by kernel_rfl) (by kernel_rfl) (Or.inl ⟨by rfl, ?dy6⟩) ?dr6
          case dy6 => (intro w hSw; have hS0 := hSw; (try dsimp only [BidS] at hSw); go_simp; refine Came.value ?_ hS0; with_reducible rfl)
          try simp only [Act.put, List.setIfInBounds_toArray, List.set_cons_zero, List.set_cons_succ]
          refine wpDet_take (i := 6) (oi := _) (v := ?dv7) (by simp only [List.getElem?_toArray, List.getElem?_cons_zero, List.getElem?_cons_succ]; rfl) (by kernel_rfl) (by kernel_rfl) (by kernel_rfl) (Or.inl ⟨by rfl, ?dy7⟩) ?dr7
          case dy7 => (intro w hSw; have hS0 := hSw; (try dsimp only [BidS] at hSw); go_simp; refine Came.value ?_ hS0; with_reducible rfl)
          try simp only [Act.put, List.setIfInBounds_toArray, List.set_cons_zero, List.set_cons_succ]
          refine wpDet_take (i := 7) (oi := _) (v := ?dv8) (by simp only [List.getElem?_toArray, List.getElem?_cons_zero, List.getElem?_cons_succ]; rfl) (by kernel_rfl) (by kernel_rfl) (by kernel_rfl) (Or.inl ⟨by rfl, ?dy8⟩) ?dr8
          case dy8 => (intro w hSw; have hS0 := hSw; (try dsimp only [BidS] at hSw); go_simp; refine Came.value ?_ hS0; with_reducible rfl)
          try simp only [Act.put, List.setIfInBounds_toArray, List.set_cons_zero, List.set_cons_succ]
          refine wpDet_take (i := 8) (oi := _) (v := ?dv9) (by simp only [List.getElem?_toArray, List.getElem?_cons_zero, List.getElem?_cons_succ]; rfl) (by kernel_rfl) (by kernel_rfl) (by kernel_rfl) (Or.inl ⟨by rfl, ?dy9⟩) ?dr9
          case dy9 => (intro w hSw; go_simp; exact Came.call ((rsameBid_any _ _ _ _ true (yes ⟨rfl, rfl⟩) w).mono fun e w' ⟨he, hf⟩ => ⟨he, hSw.keep hf⟩) (by with_reducible rfl))
          try simp only [Act.put, List.setIfInBounds_toArray, List.set_cons_zero, List.set_cons_succ]
          refine wpDet_take (i := 9) (oi := _) (v := ?dv10) (by simp only [List.getElem?_toArray, List.getElem?_cons_zero, List.getElem?_cons_succ]; rfl) (by kernel_rfl) (by kernel_rfl) (by kernel_rfl) (Or.inl ⟨by rfl, ?dy10⟩) ?dr10
          case dy10 => (intro w hSw; have hS0 := hSw; (try dsimp only [BidS] at hSw); go_simp; refine Came.value ?_ hS0; with_reducible rfl)
          try simp only [Act.put, List.setIfInBounds_toArray, List.set_cons_zero, List.set_cons_succ]
          refine wpDet_done (by kernel_rfl) ?_ _
          rintro w1 hS1
          have HS1 := Lib.hid hS1
          clear hS1
          go_wp2
          go_roundw
          case rel => exact ⟨k + 1, by omega, by go_num, HN.out, HG.out.trans HS1.out.1⟩
          case measure => simp [intOf]; omega
        · have HN : Hid (b = false) := by
            show _ = _
            cases b with
            | false => rfl
            | true => exact absurd (HB.out.1 rfl) (pre_no (0, 0) (k := k) (by intro e; exact hxy ⟨by rw [hx, hy, e], by rw [hx', hy', e]⟩))
          have HX := Lib.hid hxy
          clear hxy hx hy hx' hy' k1 k2 r1 r2 hg
          have HS0 : BidS wr b1 (o1 + k * 2) b2 (o2 + k * 2) x x' y y' wr := ⟨Fr.refl _ _, g1, g1', g2, g2'⟩
          go_wp2
          refine wp_region_det (S := BidS wr b1 (o1 + k * 2) b2 (o2 + k * 2) x x' y y') (by kernel_rfl) (HS0.keep (Fr.drew _ _)) ?_
          refine wpDet_take (i := 0) (oi := _) (v := ?dv11) (by simp only [List.getElem?_toArray, List.getElem?_cons_zero]; rfl) (by kernel_rfl) (by kernel_rfl) (by kernel_rfl) (Or.inl ⟨by rfl, ?dy11⟩) ?dr11
          case dy11 => (intro w hSw; have hS0 := hSw; (try dsimp only [BidS] at hSw); go_simp; refine Came.value ?_ hS0; with_reducible rfl)
          try simp only [Act.put, List.setIfInBounds_toArray, List.set_cons_zero, List.set_cons_succ]
          refine wpDet_take (i := 1) (oi := _) (v := ?dv12) (by simp only [List.getElem?_toArray, List.getElem?_cons_zero, List.getElem?_cons_succ]; rfl) (by kernel_rfl) (by kernel_rfl) (by kernel_rfl) (Or.inl ⟨by rfl, ?dy12⟩) ?dr12
          case dy12 => (intro w hSw; have hS0 := hSw; (try dsimp only [BidS] at hSw); go_simp; refine Came.value ?_ hS0; with_reducible rfl)
          try simp only [Act.put, List.setIfInBounds_toArray, List.set_cons_zero, List.set_cons_succ]
          refine wpDet_take (i := 2) (oi := _) (v := ?dv13) (by simp only [List.getElem?_toArray, List.getElem?_cons_zero, List.getElem?_cons_succ]; rfl) (by kernel_rfl) (by kernel_rfl) (by kernel_rfl) (Or.inl ⟨by rfl, ?dy13⟩) ?dr13
          case dy13 => (intro w hSw; have hS0 := hSw; (try dsimp only [BidS] at hSw); go_simp; refine Came.value ?_ hS0; with_reducible rfl)
          try simp only [Act.put, List.setIfInBounds_toArray, List.set_cons_zero, List.set_cons_succ]
          refine wpDet_take (i := 3) (oi := _) (v := ?dv14) (by simp only [List.getElem?_toArray, List.getElem?_cons_zero, List.getElem?_cons_succ]; rfl) (by kernel_rfl) (by kernel_rfl) (by kernel_rfl) (Or.inl ⟨by rfl, ?dy14⟩) ?dr14
          case dy14 => (intro w hSw; have hS0 := hSw; (try dsimp only [BidS] at hSw); go_simp; refine Came.value ?_ hS0; with_reducible rfl)
          try simp only [Act.put, List.setIfInBounds_toArray, List.set_cons_zero, List.set_cons_succ]
          refine wpDet_take (i := 4) (oi := _) (v := ?dv15) (by simp only [List.getElem?_toArray, List.getElem?_cons_zero, List.getElem?_cons_succ]; rfl) (by kernel_rfl) (by kernel_rfl) (by kernel_rfl) (Or.inl ⟨by rfl, ?dy15⟩) ?dr15
          case dy15 => (intro w hSw; have hS0 := hSw; (try dsimp only [BidS] at hSw); go_simp; refine Came.value ?_ hS0; with_reducible rfl)
          try simp only [Act.put, List.setIfInBounds_toArray, List.set_cons_zero, List.set_cons_succ]
          refine wpDet_take (i := 5) (oi := _) (v := ?dv16) (by simp only [List.getElem?_toArray, List.getElem?_cons_zero, List.getElem?_cons_succ]; rfl) (by kernel_rfl) (by kernel_rfl) (by kernel_rfl) (Or.inl ⟨by rfl, ?dy16⟩) ?dr16
          case dy16 => (intro w hSw; have hS0 := hSw; (try dsimp only [BidS] at hSw); go_simp; refine Came.value ?_ hS0; with_reducible rfl)
          try simp only [Act.put, List.setIfInBounds_toArray, List.set_cons_zero, List.set_cons_succ]
          refine wpDet_take (i := 6) (oi := _) (v := ?dv17) (by simp only [List.getElem?_toArray, List.getElem?_cons_zero, List.getElem?_cons_succ]; rfl) (by kernel_rfl) (by kernel_rfl) (by kernel_rfl) (Or.inl ⟨by rfl, ?dy17⟩) ?dr17
          case dy17 => (intro w hSw; have hS0 := hSw; (try dsimp only [BidS] at hSw); go_simp; refine Came.value ?_ hS0; with_reducible rfl)
          try simp only [Act.put, List.setIfInBounds_toArray, List.set_cons_zero, List.set_cons_succ]
          refine wpDet_take (i := 7) (oi := _) (v := ?dv18) (by simp only [List.getElem?_toArray, List.getElem?_cons_zero, List.getElem?_cons_succ]; rfl) (by kernel_rfl) (by kernel_rfl) (by kernel_rfl) (Or.inl ⟨by rfl, ?dy18⟩) ?dr18
          case dy18 => (intro w hSw; have hS0 := hSw; (try dsimp only [BidS] at hSw); go_simp; refine Came.value ?_ hS0; with_reducible rfl)
          try simp only [Act.put, List.setIfInBounds_toArray, List.set_cons_zero, List.set_cons_succ]
          refine wpDet_take (i := 8) (oi := _) (v := ?dv19) (by simp only [List.getElem?_toArray, List.getElem?_cons_zero, List.getElem?_cons_succ]; rfl) (by kernel_rfl) (by kernel_rfl) (by kernel_rfl) (Or.inl ⟨by rfl, ?dy19⟩) ?dr19
          case dy19 => (intro w hSw; go_simp; exact Came.call ((rsameBid_any _ _ _ _ false (no HX.out) w).mono fun e w' ⟨he, hf⟩ => ⟨he, hSw.keep hf⟩) (by with_reducible rfl))
          try simp only [Act.put, List.setIfInBounds_toArray, List.set_cons_zero, List.set_cons_succ]
          refine wpDet_take (i := 9) (oi := _) (v := ?dv20) (by simp only [List.getElem?_toArray, List.getElem?_cons_zero, List.getElem?_cons_succ]; rfl) (by kernel_rfl) (by kernel_rfl) (by kernel_rfl) (Or.inl ⟨by rfl, ?dy20⟩) ?dr20
          case dy20 => (intro w hSw; have hS0 := hSw; (try dsimp only [BidS] at hSw); go_simp; refine Came.value ?_ hS0; with_reducible rfl)
          try simp only [Act.put, List.setIfInBounds_toArray, List.set_cons_zero, List.set_cons_succ]
          refine wpDet_done (by kernel_rfl) ?_ _
          rintro w1 hS1
          have HS1 := Lib.hid hS1
          clear hS1
          go_wp2
          go_ret
          exact ⟨by rw [HN.out]; rfl, HG.out.trans HS1.out.1⟩
      · obtain rfl : k = l.length := by omega
        have HN : Hid (b = true) := HB.out.2 (pre_all HL.out HP.out)
        clear r1 r2 hg
        go_wp2
        go_ret
        exact ⟨by rw [HN.out]; rfl, HG.out⟩
  · have hne : ((l.length : Int) != (m.length : Int)) = true := by simp; omega
    have HN : Hid (b = false) := by
      show _ = _
      cases b with
      | false => rfl
      | true => exact absurd (congrArg List.length (HB.out.1 rfl)) hl
    clear hl r1 r2
    go_enter Try.func43, Try.ntmps43
    go_wp2
    go_ret
    exact ⟨by rw [HN.out]; rfl, Fr.refl _ _⟩
end Go.Proofs.Ytldheaamcnmlgaa

namespace Go.Proofs.Ytldheaamcnmlgaa
open Go.RowKit Fm
theorem iyes {P : Prop} (h : P) : true = true ↔ P := ⟨fun _ => h, fun _ => rfl⟩
theorem ino {P : Prop} (h : ¬ P) : false = true ↔ P := ⟨(fun e => by cases e), fun e => absurd e h⟩
set_option maxRecDepth 100000 in
theorem rsameInts_any (v1 : Value) (l : List Int) (v2 : Value) (m : List Int) (w : World) (h1 : Holds .i64 w v1 l) (h2 : Holds .i64 w v2 m) (b : Bool) (hb : b = true ↔ l = m) :
    Calls Try.prog 24 #[v1, v2] w fun e w' => e = .returned (.bool b) ∧ Fr w w' [] := by
  obtain ⟨a1, c1, rfl, p1, q1, r1⟩ := h1
  obtain ⟨a2, c2, rfl, p2, q2, r2⟩ := h2
  unfold maxLen at q1 q2
  have HB := Lib.hid hb
  clear hb
  by_cases hl : l.length = m.length
  · have hne : ((l.length : Int) != (m.length : Int)) = false := by simp [hl]
    have HL := Lib.hid hl
    clear hl
    go_enter Try.func24, Try.ntmps24
    go_wp2
    go_loopw [5] (fun i wr => ∃ k : Nat, k ≤ l.length ∧ i = .int .i64 k ∧ l.take k = m.take k ∧ Fr w wr []) (fun i _ => l.length - (intOf i).toNat)
    case atStart => exact ⟨0, Nat.zero_le _, rfl, by simp, Fr.refl _ _⟩
    case round =>
      obtain ⟨k, hk, rfl, hpre, hg⟩ := hrel
      have HP := Lib.hid hpre
      have HG := Lib.hid hg
      clear hpre
      by_cases hlt : k < l.length
      · have hlt2 : k < m.length := by have := HL.out; omega
        obtain ⟨b1, o1, rfl, k1⟩ := r1 (by omega)
        obtain ⟨b2, o2, rfl, k2⟩ := r2 (by omega)
        obtain ⟨x, hx⟩ : ∃ x, x = l.getD k 0 := ⟨_, rfl⟩
        obtain ⟨y, hy⟩ : ∃ y, y = m.getD k 0 := ⟨_, rfl⟩
        have g1 : wr.cell? ⟨b1, o1 + k, none⟩ = some (.int .i64 x) := by rw [hx]; exact hg.cell (k1 k hlt) (by simp)
        have g2 : wr.cell? ⟨b2, o2 + k, none⟩ = some (.int .i64 y) := by rw [hy]; exact hg.cell (k2 k hlt2) (by simp)
        by_cases hxy : x = y
        · have e1 : (x == y) = true := by simp [hxy]
          have HN := Lib.hid (pre_step 0 HL.out HP.out hlt (by rw [← hx, ← hy, hxy]))
          clear hxy hx hy k1 k2 r1 r2 hg
          go_wp2
          go_quiet (fail)
          go_wp2
          go_roundw
          case rel => exact ⟨k + 1, by omega, by go_num, HN.out, HG.out.trans (Fr.drewN _ _ _)⟩
          case measure => simp [intOf]; omega
        · have e1 : (x == y) = false := by simp [hxy]
          have HN : Hid (b = false) := by
            show _ = _
            cases b with
            | false => rfl
            | true => exact absurd (HB.out.1 rfl) (pre_no 0 (k := k) (by rw [← hx, ← hy]; exact hxy))
          clear hxy hx hy k1 k2 r1 r2 hg
          go_wp2
          go_quiet (fail)
          go_wp2
          go_ret
          exact ⟨by rw [HN.out]; rfl, HG.out.trans (Fr.drewN _ _ _)⟩
      · obtain rfl : k = l.length := by omega
        have HN : Hid (b = true) := HB.out.2 (pre_all HL.out HP.out)
        clear r1 r2 hg
        go_wp2
        go_ret
        exact ⟨by rw [HN.out]; rfl, HG.out⟩
  · have hne : ((l.length : Int) != (m.length : Int)) = true := by simp; omega
    have HN : Hid (b = false) := by
      show _ = _
      cases b with
      | false => rfl
      | true => exact absurd (congrArg List.length (HB.out.1 rfl)) hl
    clear hl r1 r2
    go_enter Try.func24, Try.ntmps24
    go_wp2
    go_ret
    exact ⟨by rw [HN.out]; rfl, Fr.refl _ _⟩

theorem en_ne {e f : En} {b : Bool} (hb : b = true ↔ e = f) (h : ¬ e = f) : b = false := by
  cases b with
  | false => rfl
  | true => exact absurd (hb.1 rfl) h

theorem sameCall_any (a1 a2 b1 b2 : Int) (b : Bool) (hb : b = decide (a1 = b1 ∧ a2 = b2)) (w : World) : Calls Try.prog 13 #[.agg #[.int .i64 a1, .int .i64 a2], .agg #[.int .i64 b1, .int .i64 b2]] w fun e w' => e = .returned (.bool b) ∧ Fr w w' [] := by
  have hcase : (a1 = b1 ∧ a2 = b2 ∧ b = true) ∨ (a1 = b1 ∧ ¬ a2 = b2 ∧ b = false) ∨ (¬ a1 = b1 ∧ b = false) := by
    rcases bcase hb with ⟨h, e⟩ | ⟨h, e⟩ <;> subst e <;> simp only [and_true, reduceCtorEq, and_false, or_false, false_or] <;> omega
  clear hb
  rcases hcase with ⟨h1, h2, rfl⟩ | ⟨h1, h2, rfl⟩ | ⟨h1, rfl⟩
  all_goals
    go_enter Try.func13, Try.ntmps13
    go_wp2
    go_ret
    refine ⟨?_, (Fr.alloc _ _ _).trans (Fr.alloc _ _ _)⟩
    simp [*]
theorem sameLatch_any (a1 a2 a3 b1 b2 b3 : Int) (b : Bool) (hb : b = decide (a1 = b1 ∧ a2 = b2 ∧ a3 = b3)) (w : World) : Calls Try.prog 42 #[.agg #[.int .i64 a1, .int .i64 a2, .int .i64 a3], .agg #[.int .i64 b1, .int .i64 b2, .int .i64 b3]] w fun e w' => e = .returned (.bool b) ∧ Fr w w' [] := by
  by_cases hL : a1 = b1 ∧ a2 = b2
  · have HC := Lib.hid (yes hL)
    have e1 : (a3 == b3) = b := by
      rcases bcase hb with ⟨h, e⟩ | ⟨h, e⟩
      · subst e; simp [h.2.2]
      · subst e; simp; intro q; exact h ⟨hL.1, hL.2, q⟩
    have HZ := Lib.hid (two_boxes w (.cells #[.int .i64 a1, .int .i64 a2, .int .i64 a3] 37) (.cells #[.int .i64 b1, .int .i64 b2, .int .i64 b3] 37))
    clear hL hb
    cases b
    all_goals
      go_enter Try.func42, Try.ntmps42
      go_wp2_with fail
      refine (sameCall_any _ _ _ _ _ HC.out _).mono ?_
      rintro e w1 ⟨rfl, hf⟩
      have k1 := hf.heap HZ.out.1 (by simp)
      have k2 := hf.heap HZ.out.2 (by simp)
      have c1 : w1.cell? ⟨w.heap.size, 2, none⟩ = some (.int .i64 a3) := by rw [cell_of_row _ _ 2 _ _ _ k1]; rfl
      have c2 : w1.cell? ⟨w.heap.size + 1, 2, none⟩ = some (.int .i64 b3) := by rw [cell_of_row _ _ 2 _ _ _ k2]; rfl
      clear k1 k2
      go_wp2
      go_ret
      exact ⟨rfl, ((Fr.alloc _ _ _).trans (Fr.alloc _ _ _)).trans hf⟩
  · have HC := Lib.hid (no hL)
    obtain rfl : b = false := by rw [hb, decide_eq_false_iff_not]; rintro ⟨q1, q2, _⟩; exact hL ⟨q1, q2⟩
    clear hL hb
    go_enter Try.func42, Try.ntmps42
    go_wp2_with fail
    refine (sameCall_any _ _ _ _ _ HC.out _).mono ?_
    rintro e w1 ⟨rfl, hf⟩
    go_wp2
    go_ret
    exact ⟨rfl, ((Fr.alloc _ _ _).trans (Fr.alloc _ _ _)).trans hf⟩

theorem rsameEntry_any (e f : En) (v1 v2 : Value) (b : Bool) (hb : b = true ↔ e = f) (w : World) (h1 : HB w v1 e.bs) (h2 : HB w v2 f.bs) :
    Calls Try.prog 23 #[enV e v1, enV f v2] w fun e w' => e = .returned (.bool b) ∧ Fr w w' [] := by
  obtain ⟨a1, a2, a3, l, a4⟩ := e
  obtain ⟨b1, b2, b3, m, b4⟩ := f
  unfold enV
  simp only at h1 h2 ⊢
  have H1 := Lib.hid h1
  have H2 := Lib.hid h2
  have HZ := Lib.hid (two_boxes w (.cells #[.int .i64 a1, .int .i64 a2, .int .i64 a3, v1, .int .i64 a4] 40) (.cells #[.int .i64 b1, .int .i64 b2, .int .i64 b3, v2, .int .i64 b4] 40))
  have HF0 := Lib.hid ((Fr.alloc w (.cells #[.int .i64 a1, .int .i64 a2, .int .i64 a3, v1, .int .i64 a4] 40) []).trans (Fr.alloc _ (.cells #[.int .i64 b1, .int .i64 b2, .int .i64 b3, v2, .int .i64 b4] 40) []))
  clear h1 h2
  by_cases hL : a1 = b1 ∧ a2 = b2 ∧ a3 = b3
  · have HC := Lib.hid (yes hL)
    by_cases hl : l = m
    · have e1 : (a4 == b4) = b := by
        obtain ⟨rfl, rfl, rfl⟩ := hL
        subst hl
        cases b with
        | true => have := hb.1 rfl; cases this; simp
        | false =>
          simp only [beq_eq_false_iff_ne]
          intro q
          subst q
          exact absurd (hb.2 rfl) (by simp)
      have HD := Lib.hid hl
      clear hL hb hl
      cases b
      all_goals
        go_enter Try.func23, Try.ntmps23
        go_wp2_with fail
        refine (sameLatch_any _ _ _ _ _ _ _ HC.out _).mono ?_
        rintro e w1 ⟨rfl, hf⟩
        have k1 := row5 (hf.heap HZ.out.1 (by simp))
        have k2 := row5 (hf.heap HZ.out.2 (by simp))
        have HF := Lib.hid hf
        clear hf
        go_wp2_with fail
        refine (rsameBids_any _ l _ m _ (H1.out.keep (HF0.out.trans HF.out)) (H2.out.keep (HF0.out.trans HF.out)) true (iyes HD.out)).mono ?_
        rintro e w2 ⟨rfl, hf2⟩
        have k1' := row5 ((HF.out.trans hf2).heap HZ.out.1 (by simp))
        have k2' := row5 ((HF.out.trans hf2).heap HZ.out.2 (by simp))
        clear k1 k2
        go_wp2
        go_ret
        exact ⟨rfl, (HF0.out.trans HF.out).trans hf2⟩
    · have HD := Lib.hid hl
      obtain rfl := en_ne hb (fun h => hl (by cases h; rfl))
      clear hL hb hl
      go_enter Try.func23, Try.ntmps23
      go_wp2_with fail
      refine (sameLatch_any _ _ _ _ _ _ _ HC.out _).mono ?_
      rintro e w1 ⟨rfl, hf⟩
      have k1 := row5 (hf.heap HZ.out.1 (by simp))
      have k2 := row5 (hf.heap HZ.out.2 (by simp))
      have HF := Lib.hid hf
      clear hf
      go_wp2_with fail
      refine (rsameBids_any _ l _ m _ (H1.out.keep (HF0.out.trans HF.out)) (H2.out.keep (HF0.out.trans HF.out)) false (ino HD.out)).mono ?_
      rintro e w2 ⟨rfl, hf2⟩
      go_wp2
      go_ret
      exact ⟨rfl, (HF0.out.trans HF.out).trans hf2⟩
  · have HC := Lib.hid (no hL)
    obtain rfl := en_ne hb (fun h => hL (by cases h; exact ⟨rfl, rfl, rfl⟩))
    clear hL hb
    go_enter Try.func23, Try.ntmps23
    go_wp2_with fail
    refine (sameLatch_any _ _ _ _ _ _ _ HC.out _).mono ?_
    rintro e w1 ⟨rfl, hf⟩
    go_wp2
    go_ret
    exact ⟨rfl, HF0.out.trans hf⟩
/-- Two entries, where they lie. -/
def EntS (w0 : World) (b1 o1 b2 o2 : Nat) (e f : En) (u1 u2 : Value) (a : World) : Prop :=
  Fr w0 a [] ∧ a.cell? ⟨b1, o1, none⟩ = some (.int .i64 e.fl) ∧ a.cell? ⟨b1, o1 + 1, none⟩ = some (.int .i64 e.di) ∧ a.cell? ⟨b1, o1 + 2, none⟩ = some (.int .i64 e.ge) ∧ a.cell? ⟨b1, o1 + 3, none⟩ = some u1 ∧ a.cell? ⟨b1, o1 + 4, none⟩ = some (.int .i64 e.aw) ∧
  a.cell? ⟨b2, o2, none⟩ = some (.int .i64 f.fl) ∧ a.cell? ⟨b2, o2 + 1, none⟩ = some (.int .i64 f.di) ∧ a.cell? ⟨b2, o2 + 2, none⟩ = some (.int .i64 f.ge) ∧ a.cell? ⟨b2, o2 + 3, none⟩ = some u2 ∧ a.cell? ⟨b2, o2 + 4, none⟩ = some (.int .i64 f.aw) ∧
  HB a u1 e.bs ∧ HB a u2 f.bs
theorem EntS.keep {w0 : World} {b1 o1 b2 o2 : Nat} {e f : En} {u1 u2 : Value} {a c : World} (h : EntS w0 b1 o1 b2 o2 e f u1 u2 a) (k : Fr a c []) : EntS w0 b1 o1 b2 o2 e f u1 u2 c := by
  obtain ⟨h0, x0, x1, x2, x3, x4, y0, y1, y2, y3, y4, hb, hb'⟩ := h
  exact ⟨h0.trans k, k.cell x0 (by simp), k.cell x1 (by simp), k.cell x2 (by simp), k.cell x3 (by simp), k.cell x4 (by simp), k.cell y0 (by simp), k.cell y1 (by simp), k.cell y2 (by simp), k.cell y3 (by simp), k.cell y4 (by simp), hb.keep k, hb'.keep k⟩
theorem EntS.fr {w0 : World} {b1 o1 b2 o2 : Nat} {e f : En} {u1 u2 : Value} {a : World} (h : EntS w0 b1 o1 b2 o2 e f u1 u2 a) : Fr w0 a [] := h.1
theorem EntS.here {w0 : World} {b1 o1 b2 o2 : Nat} {e f : En} {u1 u2 : Value} {a : World} (h : EntS w0 b1 o1 b2 o2 e f u1 u2 a) : EntS a b1 o1 b2 o2 e f u1 u2 a := ⟨Fr.refl _ _, h.2⟩
theorem EntS.hb1 {w0 : World} {b1 o1 b2 o2 : Nat} {e f : En} {u1 u2 : Value} {a : World} (h : EntS w0 b1 o1 b2 o2 e f u1 u2 a) : HB a u1 e.bs := h.2.2.2.2.2.2.2.2.2.2.2.1
theorem EntS.hb2 {w0 : World} {b1 o1 b2 o2 : Nat} {e f : En} {u1 u2 : Value} {a : World} (h : EntS w0 b1 o1 b2 o2 e f u1 u2 a) : HB a u2 f.bs := h.2.2.2.2.2.2.2.2.2.2.2.2
theorem en_ne' {α : Type} {e f : α} {b : Bool} (hb : b = true ↔ e = f) (h : ¬ e = f) : b = false := by
  cases b with
  | false => rfl
  | true => exact absurd (hb.1 rfl) h

end Go.Proofs.Ytldheaamcnmlgaa
