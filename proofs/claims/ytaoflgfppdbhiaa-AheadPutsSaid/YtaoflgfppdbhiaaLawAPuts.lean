/- A call more is there, all else stays; one that is none changes nothing; put twice it is as once. -/
import Derived.Test.YtaoflgfppdbhiaaAFirst
import Derived.Deep.DeepCutAuto
import Derived.Deep.CutBlock
namespace Go.Proofs.Ytaoflgfppdbhiaa
open Go.RowKit

theorem put_self (s : Sp) (f e : Int) : (s.put f e).hall f e = (decide (0 ≤ f ∧ f < 64 ∧ (e = 1 ∨ e = -1)) || s.hall f e) := by
  unfold Sp.put Sp.hall
  by_cases h1 : e = 1
  · subst h1
    simp [hasB_or, hasB_one, Bool.or_comm]
  · by_cases h2 : e = -1
    · subst h2
      simp [hasB_or, hasB_one, Bool.or_comm]
    · simp [h1, h2]
theorem put_other {s : Sp} (f e i d : Int) (h : i ≠ f ∨ d ≠ e) : (s.put f e).hall i d = s.hall i d := by
  unfold Sp.put Sp.hall
  by_cases h1 : e = 1
  · subst h1
    by_cases d1 : d = 1
    · subst d1
      have : ¬ i = f := by omega
      simp [hasB_or, hasB_one, this]
    · simp [d1]
  · by_cases h2 : e = -1
    · subst h2
      by_cases d1 : d = -1
      · subst d1
        have : ¬ i = f := by omega
        simp [hasB_or, hasB_one, this]
      · simp [d1]
    · simp [h1, h2]
theorem put_car (s : Sp) (f e : Int) : (s.put f e).c = s.c := by
  unfold Sp.put
  split
  · rfl
  · split <;> rfl
theorem put_put (s : Sp) (f e : Int) : (s.put f e).put f e = s.put f e := by
  unfold Sp.put
  by_cases h1 : e = 1
  · simp [h1, Nat.or_assoc]
  · by_cases h2 : e = -1
    · simp [h2, Nat.or_assoc]
    · simp [h1, h2]
theorem hall_zero (s : Sp) (z : Int) : s.hall z 0 = false := rfl

/-- The cells of the stops, the call, and the stops with the call; in a world that came of W. -/
def AP (W : World) (b p u d : Nat) (f e : Int) (p' u' d' : Nat) (a : World) : Prop := Fr W a [] ∧
  (a.cell? ⟨W.heap.size, 0, none⟩ = some (.int .u64 p) ∧ a.cell? ⟨W.heap.size, 1, none⟩ = some (.int .u64 u) ∧ a.cell? ⟨W.heap.size, 2, none⟩ = some (.int .u64 d)) ∧
  (a.cell? ⟨W.heap.size + 1, 0, none⟩ = some (.int .i64 f) ∧ a.cell? ⟨W.heap.size + 1, 1, none⟩ = some (.int .i64 e)) ∧
  (a.cell? ⟨b, 0, none⟩ = some (.int .u64 p') ∧ a.cell? ⟨b, 1, none⟩ = some (.int .u64 u') ∧ a.cell? ⟨b, 2, none⟩ = some (.int .u64 d'))
theorem AP.fr {W : World} {b p u d : Nat} {f e : Int} {p' u' d' : Nat} {a a' : World} (h : AP W b p u d f e p' u' d' a) (k : Fr a a' []) : AP W b p u d f e p' u' d' a' := by
  obtain ⟨h0, ⟨h1, h2, h3⟩, ⟨h4, h5⟩, h6, h7, h8⟩ := h
  exact ⟨h0.trans k, ⟨k.cell h1 (by simp), k.cell h2 (by simp), k.cell h3 (by simp)⟩, ⟨k.cell h4 (by simp), k.cell h5 (by simp)⟩, k.cell h6 (by simp), k.cell h7 (by simp), k.cell h8 (by simp)⟩
/-- The first two boxes. -/
def AQ (W : World) (p u d : Nat) (f e : Int) (a : World) : Prop := Fr W a [] ∧
  (a.cell? ⟨W.heap.size, 0, none⟩ = some (.int .u64 p) ∧ a.cell? ⟨W.heap.size, 1, none⟩ = some (.int .u64 u) ∧ a.cell? ⟨W.heap.size, 2, none⟩ = some (.int .u64 d)) ∧
  (a.cell? ⟨W.heap.size + 1, 0, none⟩ = some (.int .i64 f) ∧ a.cell? ⟨W.heap.size + 1, 1, none⟩ = some (.int .i64 e))
theorem AQ.fr {W : World} {p u d : Nat} {f e : Int} {a a' : World} (h : AQ W p u d f e a) (k : Fr a a' []) : AQ W p u d f e a' := by
  obtain ⟨h0, ⟨h1, h2, h3⟩, h4, h5⟩ := h
  exact ⟨h0.trans k, ⟨k.cell h1 (by simp), k.cell h2 (by simp), k.cell h3 (by simp)⟩, k.cell h4 (by simp), k.cell h5 (by simp)⟩
theorem AQ.new (w : World) (p u d : Nat) (f e : Int) : AQ w p u d f e ((w.alloc (.cells #[.int .u64 p, .int .u64 u, .int .u64 d] 24)).alloc (.cells #[.int .i64 f, .int .i64 e] 26)) := by
  have a2 := heap_alloc_new (w.alloc (.cells #[.int .u64 p, .int .u64 u, .int .u64 d] 24)) (.cells #[.int .i64 f, .int .i64 e] 26)
  rw [show (w.alloc (.cells #[.int .u64 p, .int .u64 u, .int .u64 d] 24)).heap.size = w.heap.size + 1 by simp] at a2
  exact ⟨(Fr.alloc w _ []).trans (Fr.alloc _ _ []), arow ((Fr.alloc _ _ []).heap (heap_alloc_new w _) (by simp)), by rw [cell_of_row _ _ 0 _ _ _ a2]; rfl, by rw [cell_of_row _ _ 1 _ _ _ a2]; rfl⟩
theorem AQ.more {W : World} {p u d : Nat} {f e : Int} {a : World} (h : AQ W p u d f e a) (p' u' d' : Nat) : AP W a.heap.size p u d f e p' u' d' (a.alloc (.cells #[.int .u64 p', .int .u64 u', .int .u64 d'] 24)) := by
  have k := h.fr (Fr.alloc a (.cells #[.int .u64 p', .int .u64 u', .int .u64 d'] 24) [])
  exact ⟨k.1, k.2.1, k.2.2, arow (heap_alloc_new a _)⟩

set_option maxHeartbeats 4000000 in
set_option maxRecDepth 100000 in
theorem puts_true (s : Sp) (f e : Int) (h : s.ok) (w : World) :
    Calls Try.prog 3 #[s.v, .agg #[.int .i64 f, .int .i64 e]] w fun x w' => x = .returned (.bool true) ∧ Fr w w' [] := by
  obtain ⟨t, ht⟩ : ∃ t, t = s.put f e := ⟨_, rfl⟩
  obtain ⟨g, hg⟩ : ∃ g, g = decide (0 ≤ f ∧ f < 64 ∧ (e = 1 ∨ e = -1)) := ⟨_, rfl⟩
  have hto : t.ok := by rw [ht]; exact Sp.put_ok h f e
  have hself : g = t.hall f e := by
    rw [ht, put_self, ← hg]
    cases g with
    | true => rfl
    | false =>
      rw [Bool.false_or]
      have hn := of_decide_eq_false hg.symm
      unfold Sp.hall
      by_cases h1 : e = 1
      · rw [if_pos h1]
        cases hb : hasB s.u f with
        | false => rfl
        | true => have := hasB_range h.u hb; exact absurd ⟨this.1, this.2, .inl h1⟩ hn
      · by_cases h2 : e = -1
        · rw [if_neg h1, if_pos h2]
          cases hb : hasB s.d f with
          | false => rfl
          | true => have := hasB_range h.d hb; exact absurd ⟨this.1, this.2, .inr h2⟩ hn
        · rw [if_neg h1, if_neg h2]
  have PT := Lib.hid (fun W => put_any s f e W h t ht)
  have PU := Lib.hid (fun W => put_any t f e W hto t (by rw [ht, put_put]))
  have HG := Lib.hid (fun W => hall_any t f e W hto g hself)
  have HZ := Lib.hid (fun W => hall_any s 3 0 W h false (hall_zero s 3).symm)
  have HO := Lib.hid (fun (i d : Int) (hn : i ≠ f ∨ d ≠ e) (x : Bool) (hx : x = s.hall i d) W => And.intro (hall_any t i d W hto x (by rw [hx, ht, put_other f e i d hn])) (hall_any s i d W h x hx))
  have HA := Lib.hid (fun (i : Int) (x : Bool) (hx : x = hasB s.c i) W => And.intro (at_any t i W hto x (by rw [hx, ht, put_car])) (at_any s i W h x hx))
  have HGG := Lib.hid hg
  clear hg hself ht
  obtain ⟨p, u, d⟩ := s
  obtain ⟨p', u', d'⟩ := t
  have HQ0 := Lib.hid (AQ.new w p u d f e)
  clear h hto
  dsimp only [Sp.v] at *
  go_enter Try.func3, Try.ntmps3
  go_wp2_with fail
  with_reducible refine (first_any _).mono ?_
  rintro x w1 ⟨rfl, hf⟩
  have HQ1 := Lib.hid (HQ0.out.fr hf)
  clear hf
  obtain ⟨_, ⟨c0, c1, c2⟩, k0, k1⟩ := HQ1.out
  go_wp2_with fail
  with_reducible refine (PT.out _).mono ?_
  rintro x w2 ⟨rfl, hf⟩
  have HP := Lib.hid ((HQ1.out.fr hf).more p' u' d')
  have HB := Lib.hid ((HQ1.out.fr hf).1.size)
  clear hf c0 c1 c2 k0 k1
  obtain ⟨_, ⟨c0, c1, c2⟩, ⟨k0, k1⟩, t0, t1, t2⟩ := HP.out
  go_upto_region 5 with fail
  go_cut [7] (fun s7 wx => s7 = .bool g ∧ wx = w2.alloc (.cells #[.int .u64 p', .int .u64 u', .int .u64 d'] 24))
  case first =>
    by_cases h1 : 0 ≤ f
    · by_cases h2 : f < 64
      · by_cases h3 : e = 1
        · have HV : Hid (g = true) := by show _ = _; rw [HGG.out]; simp [*]
          clear HGG
          go_wp2
          go_meet
          exact ⟨by rw [HV.out], rfl⟩
        · by_cases h4 : e = -1
          · have HV : Hid (g = true) := by show _ = _; rw [HGG.out]; simp [*]
            clear HGG
            go_wp2
            go_meet
            exact ⟨by rw [HV.out], rfl⟩
          · have HV : Hid (g = false) := by show _ = _; rw [HGG.out]; simp [*]
            have e3 : (e == 1) = false := by simp [h3]
            have e4 : (e == -1) = false := by simp [h4]
            clear HGG
            go_wp2
            go_meet
            exact ⟨by rw [HV.out], rfl⟩
      · have HV : Hid (g = false) := by show _ = _; rw [HGG.out]; simp [*]
        clear HGG
        go_wp2
        go_meet
        exact ⟨by rw [HV.out], rfl⟩
    · have HV : Hid (g = false) := by show _ = _; rw [HGG.out]; simp [*]
      clear HGG
      go_wp2
      go_meet
      exact ⟨by rw [HV.out], rfl⟩
  case rest =>
    obtain ⟨rfl, rfl⟩ := hcut
    have kg : (g != g) = false := by simp
    go_wp2_with fail
    with_reducible refine (HG.out _).mono ?_
    rintro x w3 ⟨rfl, hf⟩
    have HP3 := Lib.hid (HP.out.fr hf)
    clear hf c0 c1 c2 k0 k1 t0 t1 t2 HP HGG HG HQ1 HQ0 PT
    go_wp2
    go_loopw [8] (fun i wr => ∃ k : Nat, k ≤ 64 ∧ i = .int .i64 k ∧ Hid (AP w w2.heap.size p u d f e p' u' d' wr)) (fun i _ => 64 - (intOf i).toNat)
    case atStart => exact ⟨0, Nat.zero_le _, rfl, HP3⟩
    case round =>
      clear HP3
      obtain ⟨k, hk, rfl, HP3⟩ := hrel
      by_cases hlt : k < 64
      · go_wp2
        go_loopw [9] (fun i wr => ∃ m : Int, -1 ≤ m ∧ m ≤ 2 ∧ i = .int .i64 m ∧ Hid (AP w w2.heap.size p u d f e p' u' d' wr)) (fun i _ => (2 - intOf i).toNat)
        case atStart => exact ⟨-1, by decide, by decide, rfl, HP3⟩
        case round =>
          clear HP3
          obtain ⟨m, hm0, hm1, rfl, HP4⟩ := hrel
          by_cases hlm : m ≤ 1
          · have HS := Lib.hid (HP4.out.fr (Fr.drew _ []))
            by_cases q1 : (k : Int) = f
            · by_cases q2 : m = e
              · have e1 : ((k : Int) != f) = false := by simp [q1]
                have e2 : (m != e) = false := by simp [q2]
                clear q1 q2
                go_wp2
                refine wp_region_det (S := AP w w2.heap.size p u d f e p' u' d') (by kernel_rfl) HS.out ?_
                refine wpDet_take (i := 0) (oi := _) (v := ?dv1) (by simp only [List.getElem?_toArray, List.getElem?_cons_zero]; rfl) (by kernel_rfl) (by kernel_rfl) (by kernel_rfl) (Or.inl ⟨by rfl, ?dy1⟩) ?dr1
                case dy1 => (intro w hSw; have hS0 := hSw; (try dsimp only [AP] at hSw); go_simp; refine Came.value ?_ hS0; with_reducible rfl)
                try simp only [Act.put, List.setIfInBounds_toArray, List.set_cons_zero, List.set_cons_succ]
                refine wpDet_take (i := 1) (oi := _) (v := ?dv2) (by simp only [List.getElem?_toArray, List.getElem?_cons_zero, List.getElem?_cons_succ]; rfl) (by kernel_rfl) (by kernel_rfl) (by kernel_rfl) (Or.inl ⟨by rfl, ?dy2⟩) ?dr2
                case dy2 => (intro w hSw; have hS0 := hSw; (try dsimp only [AP] at hSw); go_simp; refine Came.value ?_ hS0; with_reducible rfl)
                try simp only [Act.put, List.setIfInBounds_toArray, List.set_cons_zero, List.set_cons_succ]
                refine wpDet_take (i := 2) (oi := _) (v := ?dv3) (by simp only [List.getElem?_toArray, List.getElem?_cons_zero, List.getElem?_cons_succ]; rfl) (by kernel_rfl) (by kernel_rfl) (by kernel_rfl) (Or.inl ⟨by rfl, ?dy3⟩) ?dr3
                case dy3 => (intro w hSw; have hS0 := hSw; (try dsimp only [AP] at hSw); go_simp; refine Came.value ?_ hS0; with_reducible rfl)
                try simp only [Act.put, List.setIfInBounds_toArray, List.set_cons_zero, List.set_cons_succ]
                refine wpDet_take (i := 3) (oi := _) (v := ?dv4) (by simp only [List.getElem?_toArray, List.getElem?_cons_zero, List.getElem?_cons_succ]; rfl) (by kernel_rfl) (by kernel_rfl) (by kernel_rfl) (Or.inl ⟨by rfl, ?dy4⟩) ?dr4
                case dy4 => (intro w hSw; have hS0 := hSw; (try dsimp only [AP] at hSw); go_simp; refine Came.value ?_ hS0; with_reducible rfl)
                try simp only [Act.put, List.setIfInBounds_toArray, List.set_cons_zero, List.set_cons_succ]
                refine wpDet_take (i := 4) (oi := _) (v := ?dv5) (by simp only [List.getElem?_toArray, List.getElem?_cons_zero, List.getElem?_cons_succ]; rfl) (by kernel_rfl) (by kernel_rfl) (by kernel_rfl) (Or.inl ⟨by rfl, ?dy5⟩) ?dr5
                case dy5 => (intro w hSw; have hS0 := hSw; (try dsimp only [AP] at hSw); go_simp; refine Came.value ?_ hS0; with_reducible rfl)
                try simp only [Act.put, List.setIfInBounds_toArray, List.set_cons_zero, List.set_cons_succ]
                refine wpDet_take (i := 5) (oi := _) (v := ?dv6) (by simp only [List.getElem?_toArray, List.getElem?_cons_zero, List.getElem?_cons_succ]; rfl) (by kernel_rfl) (by kernel_rfl) (by kernel_rfl) (Or.inl ⟨by rfl, ?dy6⟩) ?dr6
                case dy6 => (intro w hSw; have hS0 := hSw; (try dsimp only [AP] at hSw); go_simp; refine Came.value ?_ hS0; with_reducible rfl)
                try simp only [Act.put, List.setIfInBounds_toArray, List.set_cons_zero, List.set_cons_succ]
                refine wpDet_take (i := 6) (oi := _) (v := ?dv7) (by simp only [List.getElem?_toArray, List.getElem?_cons_zero, List.getElem?_cons_succ]; rfl) (by kernel_rfl) (by kernel_rfl) (by kernel_rfl) (Or.inl ⟨by rfl, ?dy7⟩) ?dr7
                case dy7 => (intro w hSw; have hS0 := hSw; (try dsimp only [AP] at hSw); go_simp; refine Came.value ?_ hS0; with_reducible rfl)
                try simp only [Act.put, List.setIfInBounds_toArray, List.set_cons_zero, List.set_cons_succ]
                refine wpDet_take (i := 7) (oi := _) (v := ?dv8) (by simp only [List.getElem?_toArray, List.getElem?_cons_zero, List.getElem?_cons_succ]; rfl) (by kernel_rfl) (by kernel_rfl) (by kernel_rfl) (Or.inl ⟨by rfl, ?dy8⟩) ?dr8
                case dy8 => (intro w hSw; have hS0 := hSw; (try dsimp only [AP] at hSw); go_simp; refine Came.value ?_ hS0; with_reducible rfl)
                try simp only [Act.put, List.setIfInBounds_toArray, List.set_cons_zero, List.set_cons_succ]
                refine wpDet_take (i := 8) (oi := _) (v := ?dv9) (by simp only [List.getElem?_toArray, List.getElem?_cons_zero, List.getElem?_cons_succ]; rfl) (by kernel_rfl) (by kernel_rfl) (by kernel_rfl) (Or.inl ⟨by rfl, ?dy9⟩) ?dr9
                case dy9 => (intro w hSw; have hS0 := hSw; (try dsimp only [AP] at hSw); go_simp; refine Came.value ?_ hS0; with_reducible rfl)
                try simp only [Act.put, List.setIfInBounds_toArray, List.set_cons_zero, List.set_cons_succ]
                refine wpDet_take (i := 9) (oi := _) (v := ?dv10) (by simp only [List.getElem?_toArray, List.getElem?_cons_zero, List.getElem?_cons_succ]; rfl) (by kernel_rfl) (by kernel_rfl) (by kernel_rfl) (Or.inl ⟨by rfl, ?dy10⟩) ?dr10
                case dy10 => (intro w hSw; have hS0 := hSw; (try dsimp only [AP] at hSw); go_simp; refine Came.value ?_ hS0; with_reducible rfl)
                try simp only [Act.put, List.setIfInBounds_toArray, List.set_cons_zero, List.set_cons_succ]
                refine wpDet_take (i := 10) (oi := _) (v := ?dv11) (by simp only [List.getElem?_toArray, List.getElem?_cons_zero, List.getElem?_cons_succ]; rfl) (by kernel_rfl) (by kernel_rfl) (by kernel_rfl) (Or.inl ⟨by rfl, ?dy11⟩) ?dr11
                case dy11 => (intro w hSw; have hS0 := hSw; (try dsimp only [AP] at hSw); go_simp; refine Came.value ?_ hS0; with_reducible rfl)
                try simp only [Act.put, List.setIfInBounds_toArray, List.set_cons_zero, List.set_cons_succ]
                refine wpDet_take (i := 11) (oi := _) (v := undef) (by simp only [List.getElem?_toArray, List.getElem?_cons_zero, List.getElem?_cons_succ]; rfl) (by kernel_rfl) (by kernel_rfl) (by kernel_rfl) (Or.inr ⟨by rfl, rfl⟩) ?_
                try simp only [Act.put, List.setIfInBounds_toArray, List.set_cons_zero, List.set_cons_succ]
                refine wpDet_take (i := 12) (oi := _) (v := undef) (by simp only [List.getElem?_toArray, List.getElem?_cons_zero, List.getElem?_cons_succ]; rfl) (by kernel_rfl) (by kernel_rfl) (by kernel_rfl) (Or.inr ⟨by rfl, rfl⟩) ?_
                try simp only [Act.put, List.setIfInBounds_toArray, List.set_cons_zero, List.set_cons_succ]
                refine wpDet_take (i := 13) (oi := _) (v := undef) (by simp only [List.getElem?_toArray, List.getElem?_cons_zero, List.getElem?_cons_succ]; rfl) (by kernel_rfl) (by kernel_rfl) (by kernel_rfl) (Or.inr ⟨by rfl, rfl⟩) ?_
                try simp only [Act.put, List.setIfInBounds_toArray, List.set_cons_zero, List.set_cons_succ]
                refine wpDet_take (i := 14) (oi := _) (v := undef) (by simp only [List.getElem?_toArray, List.getElem?_cons_zero, List.getElem?_cons_succ]; rfl) (by kernel_rfl) (by kernel_rfl) (by kernel_rfl) (Or.inr ⟨by rfl, rfl⟩) ?_
                try simp only [Act.put, List.setIfInBounds_toArray, List.set_cons_zero, List.set_cons_succ]
                refine wpDet_take (i := 15) (oi := _) (v := undef) (by simp only [List.getElem?_toArray, List.getElem?_cons_zero, List.getElem?_cons_succ]; rfl) (by kernel_rfl) (by kernel_rfl) (by kernel_rfl) (Or.inr ⟨by rfl, rfl⟩) ?_
                try simp only [Act.put, List.setIfInBounds_toArray, List.set_cons_zero, List.set_cons_succ]
                refine wpDet_take (i := 16) (oi := _) (v := undef) (by simp only [List.getElem?_toArray, List.getElem?_cons_zero, List.getElem?_cons_succ]; rfl) (by kernel_rfl) (by kernel_rfl) (by kernel_rfl) (Or.inr ⟨by rfl, rfl⟩) ?_
                try simp only [Act.put, List.setIfInBounds_toArray, List.set_cons_zero, List.set_cons_succ]
                refine wpDet_take (i := 17) (oi := _) (v := undef) (by simp only [List.getElem?_toArray, List.getElem?_cons_zero, List.getElem?_cons_succ]; rfl) (by kernel_rfl) (by kernel_rfl) (by kernel_rfl) (Or.inr ⟨by rfl, rfl⟩) ?_
                try simp only [Act.put, List.setIfInBounds_toArray, List.set_cons_zero, List.set_cons_succ]
                refine wpDet_take (i := 18) (oi := _) (v := undef) (by simp only [List.getElem?_toArray, List.getElem?_cons_zero, List.getElem?_cons_succ]; rfl) (by kernel_rfl) (by kernel_rfl) (by kernel_rfl) (Or.inr ⟨by rfl, rfl⟩) ?_
                try simp only [Act.put, List.setIfInBounds_toArray, List.set_cons_zero, List.set_cons_succ]
                refine wpDet_take (i := 19) (oi := _) (v := undef) (by simp only [List.getElem?_toArray, List.getElem?_cons_zero, List.getElem?_cons_succ]; rfl) (by kernel_rfl) (by kernel_rfl) (by kernel_rfl) (Or.inr ⟨by rfl, rfl⟩) ?_
                try simp only [Act.put, List.setIfInBounds_toArray, List.set_cons_zero, List.set_cons_succ]
                refine wpDet_take (i := 20) (oi := _) (v := ?dv21) (by simp only [List.getElem?_toArray, List.getElem?_cons_zero, List.getElem?_cons_succ]; rfl) (by kernel_rfl) (by kernel_rfl) (by kernel_rfl) (Or.inl ⟨by rfl, ?dy21⟩) ?dr21
                case dy21 => (intro w hSw; have hS0 := hSw; (try dsimp only [AP] at hSw); go_simp; refine Came.value ?_ hS0; with_reducible rfl)
                try simp only [Act.put, List.setIfInBounds_toArray, List.set_cons_zero, List.set_cons_succ]
                refine wpDet_done (by kernel_rfl) ?_ _
                rintro w5 hS5
                have HP5 := Lib.hid hS5
                clear hS5
                go_wp2
                go_roundw
                case rel => exact ⟨m + 1, by omega, by omega, by go_num, HP5⟩
                case measure => simp [intOf]; omega
              · obtain ⟨x, hx⟩ : ∃ x, x = Sp.hall ⟨p, u, d⟩ k m := ⟨_, rfl⟩
                have HT := Lib.hid (fun W => (HO.out k m (.inr q2) x hx W).1)
                have HX := Lib.hid (fun W => (HO.out k m (.inr q2) x hx W).2)
                have e1 : ((k : Int) != f) = false := by simp [q1]
                have e2 : (m != e) = true := by simp [q2]
                have e3 : (x != x) = false := by simp
                clear q1 q2 hx
                go_wp2
                refine wp_region_det (S := AP w w2.heap.size p u d f e p' u' d') (by kernel_rfl) HS.out ?_
                refine wpDet_take (i := 0) (oi := _) (v := ?dv22) (by simp only [List.getElem?_toArray, List.getElem?_cons_zero]; rfl) (by kernel_rfl) (by kernel_rfl) (by kernel_rfl) (Or.inl ⟨by rfl, ?dy22⟩) ?dr22
                case dy22 => (intro w hSw; have hS0 := hSw; (try dsimp only [AP] at hSw); go_simp; refine Came.value ?_ hS0; with_reducible rfl)
                try simp only [Act.put, List.setIfInBounds_toArray, List.set_cons_zero, List.set_cons_succ]
                refine wpDet_take (i := 1) (oi := _) (v := ?dv23) (by simp only [List.getElem?_toArray, List.getElem?_cons_zero, List.getElem?_cons_succ]; rfl) (by kernel_rfl) (by kernel_rfl) (by kernel_rfl) (Or.inl ⟨by rfl, ?dy23⟩) ?dr23
                case dy23 => (intro w hSw; have hS0 := hSw; (try dsimp only [AP] at hSw); go_simp; refine Came.value ?_ hS0; with_reducible rfl)
                try simp only [Act.put, List.setIfInBounds_toArray, List.set_cons_zero, List.set_cons_succ]
                refine wpDet_take (i := 2) (oi := _) (v := ?dv24) (by simp only [List.getElem?_toArray, List.getElem?_cons_zero, List.getElem?_cons_succ]; rfl) (by kernel_rfl) (by kernel_rfl) (by kernel_rfl) (Or.inl ⟨by rfl, ?dy24⟩) ?dr24
                case dy24 => (intro w hSw; have hS0 := hSw; (try dsimp only [AP] at hSw); go_simp; refine Came.value ?_ hS0; with_reducible rfl)
                try simp only [Act.put, List.setIfInBounds_toArray, List.set_cons_zero, List.set_cons_succ]
                refine wpDet_take (i := 3) (oi := _) (v := ?dv25) (by simp only [List.getElem?_toArray, List.getElem?_cons_zero, List.getElem?_cons_succ]; rfl) (by kernel_rfl) (by kernel_rfl) (by kernel_rfl) (Or.inl ⟨by rfl, ?dy25⟩) ?dr25
                case dy25 => (intro w hSw; have hS0 := hSw; (try dsimp only [AP] at hSw); go_simp; refine Came.value ?_ hS0; with_reducible rfl)
                try simp only [Act.put, List.setIfInBounds_toArray, List.set_cons_zero, List.set_cons_succ]
                refine wpDet_take (i := 4) (oi := _) (v := ?dv26) (by simp only [List.getElem?_toArray, List.getElem?_cons_zero, List.getElem?_cons_succ]; rfl) (by kernel_rfl) (by kernel_rfl) (by kernel_rfl) (Or.inl ⟨by rfl, ?dy26⟩) ?dr26
                case dy26 => (intro w hSw; have hS0 := hSw; (try dsimp only [AP] at hSw); go_simp; refine Came.value ?_ hS0; with_reducible rfl)
                try simp only [Act.put, List.setIfInBounds_toArray, List.set_cons_zero, List.set_cons_succ]
                refine wpDet_take (i := 5) (oi := _) (v := ?dv27) (by simp only [List.getElem?_toArray, List.getElem?_cons_zero, List.getElem?_cons_succ]; rfl) (by kernel_rfl) (by kernel_rfl) (by kernel_rfl) (Or.inl ⟨by rfl, ?dy27⟩) ?dr27
                case dy27 => (intro w hSw; have hS0 := hSw; (try dsimp only [AP] at hSw); go_simp; refine Came.value ?_ hS0; with_reducible rfl)
                try simp only [Act.put, List.setIfInBounds_toArray, List.set_cons_zero, List.set_cons_succ]
                refine wpDet_take (i := 6) (oi := _) (v := ?dv28) (by simp only [List.getElem?_toArray, List.getElem?_cons_zero, List.getElem?_cons_succ]; rfl) (by kernel_rfl) (by kernel_rfl) (by kernel_rfl) (Or.inl ⟨by rfl, ?dy28⟩) ?dr28
                case dy28 => (intro w hSw; have hS0 := hSw; (try dsimp only [AP] at hSw); go_simp; refine Came.value ?_ hS0; with_reducible rfl)
                try simp only [Act.put, List.setIfInBounds_toArray, List.set_cons_zero, List.set_cons_succ]
                refine wpDet_take (i := 7) (oi := _) (v := ?dv29) (by simp only [List.getElem?_toArray, List.getElem?_cons_zero, List.getElem?_cons_succ]; rfl) (by kernel_rfl) (by kernel_rfl) (by kernel_rfl) (Or.inl ⟨by rfl, ?dy29⟩) ?dr29
                case dy29 => (intro w hSw; have hS0 := hSw; (try dsimp only [AP] at hSw); go_simp; refine Came.value ?_ hS0; with_reducible rfl)
                try simp only [Act.put, List.setIfInBounds_toArray, List.set_cons_zero, List.set_cons_succ]
                refine wpDet_take (i := 8) (oi := _) (v := ?dv30) (by simp only [List.getElem?_toArray, List.getElem?_cons_zero, List.getElem?_cons_succ]; rfl) (by kernel_rfl) (by kernel_rfl) (by kernel_rfl) (Or.inl ⟨by rfl, ?dy30⟩) ?dr30
                case dy30 => (intro w hSw; have hS0 := hSw; (try dsimp only [AP] at hSw); go_simp; refine Came.value ?_ hS0; with_reducible rfl)
                try simp only [Act.put, List.setIfInBounds_toArray, List.set_cons_zero, List.set_cons_succ]
                refine wpDet_take (i := 9) (oi := _) (v := ?dv31) (by simp only [List.getElem?_toArray, List.getElem?_cons_zero, List.getElem?_cons_succ]; rfl) (by kernel_rfl) (by kernel_rfl) (by kernel_rfl) (Or.inl ⟨by rfl, ?dy31⟩) ?dr31
                case dy31 => (intro w hSw; have hS0 := hSw; (try dsimp only [AP] at hSw); go_simp; refine Came.value ?_ hS0; with_reducible rfl)
                try simp only [Act.put, List.setIfInBounds_toArray, List.set_cons_zero, List.set_cons_succ]
                refine wpDet_take (i := 10) (oi := _) (v := ?dv32) (by simp only [List.getElem?_toArray, List.getElem?_cons_zero, List.getElem?_cons_succ]; rfl) (by kernel_rfl) (by kernel_rfl) (by kernel_rfl) (Or.inl ⟨by rfl, ?dy32⟩) ?dr32
                case dy32 => (intro w hSw; have hS0 := hSw; (try dsimp only [AP] at hSw); go_simp; refine Came.value ?_ hS0; with_reducible rfl)
                try simp only [Act.put, List.setIfInBounds_toArray, List.set_cons_zero, List.set_cons_succ]
                refine wpDet_take (i := 11) (oi := _) (v := ?dv33) (by simp only [List.getElem?_toArray, List.getElem?_cons_zero, List.getElem?_cons_succ]; rfl) (by kernel_rfl) (by kernel_rfl) (by kernel_rfl) (Or.inl ⟨by rfl, ?dy33⟩) ?dr33
                case dy33 => (intro w hSw; have hS0 := hSw; (try dsimp only [AP] at hSw); go_simp; refine Came.value ?_ hS0; with_reducible rfl)
                try simp only [Act.put, List.setIfInBounds_toArray, List.set_cons_zero, List.set_cons_succ]
                refine wpDet_take (i := 12) (oi := _) (v := ?dv34) (by simp only [List.getElem?_toArray, List.getElem?_cons_zero, List.getElem?_cons_succ]; rfl) (by kernel_rfl) (by kernel_rfl) (by kernel_rfl) (Or.inl ⟨by rfl, ?dy34⟩) ?dr34
                case dy34 => (intro w hSw; have hS0 := hSw; (try dsimp only [AP] at hSw); go_simp; refine Came.value ?_ hS0; with_reducible rfl)
                try simp only [Act.put, List.setIfInBounds_toArray, List.set_cons_zero, List.set_cons_succ]
                refine wpDet_take (i := 13) (oi := _) (v := ?dv35) (by simp only [List.getElem?_toArray, List.getElem?_cons_zero, List.getElem?_cons_succ]; rfl) (by kernel_rfl) (by kernel_rfl) (by kernel_rfl) (Or.inl ⟨by rfl, ?dy35⟩) ?dr35
                case dy35 => (intro w hSw; have hS0 := hSw; (try dsimp only [AP] at hSw); go_simp; refine Came.value ?_ hS0; with_reducible rfl)
                try simp only [Act.put, List.setIfInBounds_toArray, List.set_cons_zero, List.set_cons_succ]
                refine wpDet_take (i := 14) (oi := _) (v := ?dv36) (by simp only [List.getElem?_toArray, List.getElem?_cons_zero, List.getElem?_cons_succ]; rfl) (by kernel_rfl) (by kernel_rfl) (by kernel_rfl) (Or.inl ⟨by rfl, ?dy36⟩) ?dr36
                case dy36 => (intro w hSw; go_simp; exact Came.call ((HT.out w).mono fun e w' ⟨he, hf⟩ => ⟨he, hSw.fr hf⟩) (by with_reducible rfl))
                try simp only [Act.put, List.setIfInBounds_toArray, List.set_cons_zero, List.set_cons_succ]
                refine wpDet_take (i := 15) (oi := _) (v := ?dv37) (by simp only [List.getElem?_toArray, List.getElem?_cons_zero, List.getElem?_cons_succ]; rfl) (by kernel_rfl) (by kernel_rfl) (by kernel_rfl) (Or.inl ⟨by rfl, ?dy37⟩) ?dr37
                case dy37 => (intro w hSw; have hS0 := hSw; (try dsimp only [AP] at hSw); go_simp; refine Came.value ?_ hS0; with_reducible rfl)
                try simp only [Act.put, List.setIfInBounds_toArray, List.set_cons_zero, List.set_cons_succ]
                refine wpDet_take (i := 16) (oi := _) (v := ?dv38) (by simp only [List.getElem?_toArray, List.getElem?_cons_zero, List.getElem?_cons_succ]; rfl) (by kernel_rfl) (by kernel_rfl) (by kernel_rfl) (Or.inl ⟨by rfl, ?dy38⟩) ?dr38
                case dy38 => (intro w hSw; have hS0 := hSw; (try dsimp only [AP] at hSw); go_simp; refine Came.value ?_ hS0; with_reducible rfl)
                try simp only [Act.put, List.setIfInBounds_toArray, List.set_cons_zero, List.set_cons_succ]
                refine wpDet_take (i := 17) (oi := _) (v := ?dv39) (by simp only [List.getElem?_toArray, List.getElem?_cons_zero, List.getElem?_cons_succ]; rfl) (by kernel_rfl) (by kernel_rfl) (by kernel_rfl) (Or.inl ⟨by rfl, ?dy39⟩) ?dr39
                case dy39 => (intro w hSw; have hS0 := hSw; (try dsimp only [AP] at hSw); go_simp; refine Came.value ?_ hS0; with_reducible rfl)
                try simp only [Act.put, List.setIfInBounds_toArray, List.set_cons_zero, List.set_cons_succ]
                refine wpDet_take (i := 18) (oi := _) (v := ?dv40) (by simp only [List.getElem?_toArray, List.getElem?_cons_zero, List.getElem?_cons_succ]; rfl) (by kernel_rfl) (by kernel_rfl) (by kernel_rfl) (Or.inl ⟨by rfl, ?dy40⟩) ?dr40
                case dy40 => (intro w hSw; go_simp; exact Came.call ((HX.out w).mono fun e w' ⟨he, hf⟩ => ⟨he, hSw.fr hf⟩) (by with_reducible rfl))
                try simp only [Act.put, List.setIfInBounds_toArray, List.set_cons_zero, List.set_cons_succ]
                refine wpDet_take (i := 19) (oi := _) (v := ?dv41) (by simp only [List.getElem?_toArray, List.getElem?_cons_zero, List.getElem?_cons_succ]; rfl) (by kernel_rfl) (by kernel_rfl) (by kernel_rfl) (Or.inl ⟨by rfl, ?dy41⟩) ?dr41
                case dy41 => (intro w hSw; have hS0 := hSw; (try dsimp only [AP] at hSw); go_simp; refine Came.value ?_ hS0; with_reducible rfl)
                try simp only [Act.put, List.setIfInBounds_toArray, List.set_cons_zero, List.set_cons_succ]
                refine wpDet_take (i := 20) (oi := _) (v := ?dv42) (by simp only [List.getElem?_toArray, List.getElem?_cons_zero, List.getElem?_cons_succ]; rfl) (by kernel_rfl) (by kernel_rfl) (by kernel_rfl) (Or.inl ⟨by rfl, ?dy42⟩) ?dr42
                case dy42 => (intro w hSw; have hS0 := hSw; (try dsimp only [AP] at hSw); go_simp; refine Came.value ?_ hS0; with_reducible rfl)
                try simp only [Act.put, List.setIfInBounds_toArray, List.set_cons_zero, List.set_cons_succ]
                refine wpDet_done (by kernel_rfl) ?_ _
                rintro w5 hS5
                have HP5 := Lib.hid hS5
                clear hS5
                go_wp2
                go_roundw
                case rel => exact ⟨m + 1, by omega, by omega, by go_num, HP5⟩
                case measure => simp [intOf]; omega
            · obtain ⟨x, hx⟩ : ∃ x, x = Sp.hall ⟨p, u, d⟩ k m := ⟨_, rfl⟩
              have HT := Lib.hid (fun W => (HO.out k m (.inl q1) x hx W).1)
              have HX := Lib.hid (fun W => (HO.out k m (.inl q1) x hx W).2)
              have e1 : ((k : Int) != f) = true := by simp [q1]
              have e3 : (x != x) = false := by simp
              clear q1 hx
              go_wp2
              refine wp_region_det (S := AP w w2.heap.size p u d f e p' u' d') (by kernel_rfl) HS.out ?_
              refine wpDet_take (i := 0) (oi := _) (v := ?dv43) (by simp only [List.getElem?_toArray, List.getElem?_cons_zero]; rfl) (by kernel_rfl) (by kernel_rfl) (by kernel_rfl) (Or.inl ⟨by rfl, ?dy43⟩) ?dr43
              case dy43 => (intro w hSw; have hS0 := hSw; (try dsimp only [AP] at hSw); go_simp; refine Came.value ?_ hS0; with_reducible rfl)
              try simp only [Act.put, List.setIfInBounds_toArray, List.set_cons_zero, List.set_cons_succ]
              refine wpDet_take (i := 1) (oi := _) (v := ?dv44) (by simp only [List.getElem?_toArray, List.getElem?_cons_zero, List.getElem?_cons_succ]; rfl) (by kernel_rfl) (by kernel_rfl) (by kernel_rfl) (Or.inl ⟨by rfl, ?dy44⟩) ?dr44
              case dy44 => (intro w hSw; have hS0 := hSw; (try dsimp only [AP] at hSw); go_simp; refine Came.value ?_ hS0; with_reducible rfl)
              try simp only [Act.put, List.setIfInBounds_toArray, List.set_cons_zero, List.set_cons_succ]
              refine wpDet_take (i := 2) (oi := _) (v := ?dv45) (by simp only [List.getElem?_toArray, List.getElem?_cons_zero, List.getElem?_cons_succ]; rfl) (by kernel_rfl) (by kernel_rfl) (by kernel_rfl) (Or.inl ⟨by rfl, ?dy45⟩) ?dr45
              case dy45 => (intro w hSw; have hS0 := hSw; (try dsimp only [AP] at hSw); go_simp; refine Came.value ?_ hS0; with_reducible rfl)
              try simp only [Act.put, List.setIfInBounds_toArray, List.set_cons_zero, List.set_cons_succ]
              refine wpDet_take (i := 3) (oi := _) (v := ?dv46) (by simp only [List.getElem?_toArray, List.getElem?_cons_zero, List.getElem?_cons_succ]; rfl) (by kernel_rfl) (by kernel_rfl) (by kernel_rfl) (Or.inl ⟨by rfl, ?dy46⟩) ?dr46
              case dy46 => (intro w hSw; have hS0 := hSw; (try dsimp only [AP] at hSw); go_simp; refine Came.value ?_ hS0; with_reducible rfl)
              try simp only [Act.put, List.setIfInBounds_toArray, List.set_cons_zero, List.set_cons_succ]
              refine wpDet_take (i := 4) (oi := _) (v := ?dv47) (by simp only [List.getElem?_toArray, List.getElem?_cons_zero, List.getElem?_cons_succ]; rfl) (by kernel_rfl) (by kernel_rfl) (by kernel_rfl) (Or.inl ⟨by rfl, ?dy47⟩) ?dr47
              case dy47 => (intro w hSw; have hS0 := hSw; (try dsimp only [AP] at hSw); go_simp; refine Came.value ?_ hS0; with_reducible rfl)
              try simp only [Act.put, List.setIfInBounds_toArray, List.set_cons_zero, List.set_cons_succ]
              refine wpDet_take (i := 5) (oi := _) (v := undef) (by simp only [List.getElem?_toArray, List.getElem?_cons_zero, List.getElem?_cons_succ]; rfl) (by kernel_rfl) (by kernel_rfl) (by kernel_rfl) (Or.inr ⟨by rfl, rfl⟩) ?_
              try simp only [Act.put, List.setIfInBounds_toArray, List.set_cons_zero, List.set_cons_succ]
              refine wpDet_take (i := 6) (oi := _) (v := undef) (by simp only [List.getElem?_toArray, List.getElem?_cons_zero, List.getElem?_cons_succ]; rfl) (by kernel_rfl) (by kernel_rfl) (by kernel_rfl) (Or.inr ⟨by rfl, rfl⟩) ?_
              try simp only [Act.put, List.setIfInBounds_toArray, List.set_cons_zero, List.set_cons_succ]
              refine wpDet_take (i := 7) (oi := _) (v := undef) (by simp only [List.getElem?_toArray, List.getElem?_cons_zero, List.getElem?_cons_succ]; rfl) (by kernel_rfl) (by kernel_rfl) (by kernel_rfl) (Or.inr ⟨by rfl, rfl⟩) ?_
              try simp only [Act.put, List.setIfInBounds_toArray, List.set_cons_zero, List.set_cons_succ]
              refine wpDet_take (i := 8) (oi := _) (v := undef) (by simp only [List.getElem?_toArray, List.getElem?_cons_zero, List.getElem?_cons_succ]; rfl) (by kernel_rfl) (by kernel_rfl) (by kernel_rfl) (Or.inr ⟨by rfl, rfl⟩) ?_
              try simp only [Act.put, List.setIfInBounds_toArray, List.set_cons_zero, List.set_cons_succ]
              refine wpDet_take (i := 9) (oi := _) (v := ?dv52) (by simp only [List.getElem?_toArray, List.getElem?_cons_zero, List.getElem?_cons_succ]; rfl) (by kernel_rfl) (by kernel_rfl) (by kernel_rfl) (Or.inl ⟨by rfl, ?dy52⟩) ?dr52
              case dy52 => (intro w hSw; have hS0 := hSw; (try dsimp only [AP] at hSw); go_simp; refine Came.value ?_ hS0; with_reducible rfl)
              try simp only [Act.put, List.setIfInBounds_toArray, List.set_cons_zero, List.set_cons_succ]
              refine wpDet_take (i := 10) (oi := _) (v := ?dv53) (by simp only [List.getElem?_toArray, List.getElem?_cons_zero, List.getElem?_cons_succ]; rfl) (by kernel_rfl) (by kernel_rfl) (by kernel_rfl) (Or.inl ⟨by rfl, ?dy53⟩) ?dr53
              case dy53 => (intro w hSw; have hS0 := hSw; (try dsimp only [AP] at hSw); go_simp; refine Came.value ?_ hS0; with_reducible rfl)
              try simp only [Act.put, List.setIfInBounds_toArray, List.set_cons_zero, List.set_cons_succ]
              refine wpDet_take (i := 11) (oi := _) (v := ?dv54) (by simp only [List.getElem?_toArray, List.getElem?_cons_zero, List.getElem?_cons_succ]; rfl) (by kernel_rfl) (by kernel_rfl) (by kernel_rfl) (Or.inl ⟨by rfl, ?dy54⟩) ?dr54
              case dy54 => (intro w hSw; have hS0 := hSw; (try dsimp only [AP] at hSw); go_simp; refine Came.value ?_ hS0; with_reducible rfl)
              try simp only [Act.put, List.setIfInBounds_toArray, List.set_cons_zero, List.set_cons_succ]
              refine wpDet_take (i := 12) (oi := _) (v := ?dv55) (by simp only [List.getElem?_toArray, List.getElem?_cons_zero, List.getElem?_cons_succ]; rfl) (by kernel_rfl) (by kernel_rfl) (by kernel_rfl) (Or.inl ⟨by rfl, ?dy55⟩) ?dr55
              case dy55 => (intro w hSw; have hS0 := hSw; (try dsimp only [AP] at hSw); go_simp; refine Came.value ?_ hS0; with_reducible rfl)
              try simp only [Act.put, List.setIfInBounds_toArray, List.set_cons_zero, List.set_cons_succ]
              refine wpDet_take (i := 13) (oi := _) (v := ?dv56) (by simp only [List.getElem?_toArray, List.getElem?_cons_zero, List.getElem?_cons_succ]; rfl) (by kernel_rfl) (by kernel_rfl) (by kernel_rfl) (Or.inl ⟨by rfl, ?dy56⟩) ?dr56
              case dy56 => (intro w hSw; have hS0 := hSw; (try dsimp only [AP] at hSw); go_simp; refine Came.value ?_ hS0; with_reducible rfl)
              try simp only [Act.put, List.setIfInBounds_toArray, List.set_cons_zero, List.set_cons_succ]
              refine wpDet_take (i := 14) (oi := _) (v := ?dv57) (by simp only [List.getElem?_toArray, List.getElem?_cons_zero, List.getElem?_cons_succ]; rfl) (by kernel_rfl) (by kernel_rfl) (by kernel_rfl) (Or.inl ⟨by rfl, ?dy57⟩) ?dr57
              case dy57 => (intro w hSw; go_simp; exact Came.call ((HT.out w).mono fun e w' ⟨he, hf⟩ => ⟨he, hSw.fr hf⟩) (by with_reducible rfl))
              try simp only [Act.put, List.setIfInBounds_toArray, List.set_cons_zero, List.set_cons_succ]
              refine wpDet_take (i := 15) (oi := _) (v := ?dv58) (by simp only [List.getElem?_toArray, List.getElem?_cons_zero, List.getElem?_cons_succ]; rfl) (by kernel_rfl) (by kernel_rfl) (by kernel_rfl) (Or.inl ⟨by rfl, ?dy58⟩) ?dr58
              case dy58 => (intro w hSw; have hS0 := hSw; (try dsimp only [AP] at hSw); go_simp; refine Came.value ?_ hS0; with_reducible rfl)
              try simp only [Act.put, List.setIfInBounds_toArray, List.set_cons_zero, List.set_cons_succ]
              refine wpDet_take (i := 16) (oi := _) (v := ?dv59) (by simp only [List.getElem?_toArray, List.getElem?_cons_zero, List.getElem?_cons_succ]; rfl) (by kernel_rfl) (by kernel_rfl) (by kernel_rfl) (Or.inl ⟨by rfl, ?dy59⟩) ?dr59
              case dy59 => (intro w hSw; have hS0 := hSw; (try dsimp only [AP] at hSw); go_simp; refine Came.value ?_ hS0; with_reducible rfl)
              try simp only [Act.put, List.setIfInBounds_toArray, List.set_cons_zero, List.set_cons_succ]
              refine wpDet_take (i := 17) (oi := _) (v := ?dv60) (by simp only [List.getElem?_toArray, List.getElem?_cons_zero, List.getElem?_cons_succ]; rfl) (by kernel_rfl) (by kernel_rfl) (by kernel_rfl) (Or.inl ⟨by rfl, ?dy60⟩) ?dr60
              case dy60 => (intro w hSw; have hS0 := hSw; (try dsimp only [AP] at hSw); go_simp; refine Came.value ?_ hS0; with_reducible rfl)
              try simp only [Act.put, List.setIfInBounds_toArray, List.set_cons_zero, List.set_cons_succ]
              refine wpDet_take (i := 18) (oi := _) (v := ?dv61) (by simp only [List.getElem?_toArray, List.getElem?_cons_zero, List.getElem?_cons_succ]; rfl) (by kernel_rfl) (by kernel_rfl) (by kernel_rfl) (Or.inl ⟨by rfl, ?dy61⟩) ?dr61
              case dy61 => (intro w hSw; go_simp; exact Came.call ((HX.out w).mono fun e w' ⟨he, hf⟩ => ⟨he, hSw.fr hf⟩) (by with_reducible rfl))
              try simp only [Act.put, List.setIfInBounds_toArray, List.set_cons_zero, List.set_cons_succ]
              refine wpDet_take (i := 19) (oi := _) (v := ?dv62) (by simp only [List.getElem?_toArray, List.getElem?_cons_zero, List.getElem?_cons_succ]; rfl) (by kernel_rfl) (by kernel_rfl) (by kernel_rfl) (Or.inl ⟨by rfl, ?dy62⟩) ?dr62
              case dy62 => (intro w hSw; have hS0 := hSw; (try dsimp only [AP] at hSw); go_simp; refine Came.value ?_ hS0; with_reducible rfl)
              try simp only [Act.put, List.setIfInBounds_toArray, List.set_cons_zero, List.set_cons_succ]
              refine wpDet_take (i := 20) (oi := _) (v := ?dv63) (by simp only [List.getElem?_toArray, List.getElem?_cons_zero, List.getElem?_cons_succ]; rfl) (by kernel_rfl) (by kernel_rfl) (by kernel_rfl) (Or.inl ⟨by rfl, ?dy63⟩) ?dr63
              case dy63 => (intro w hSw; have hS0 := hSw; (try dsimp only [AP] at hSw); go_simp; refine Came.value ?_ hS0; with_reducible rfl)
              try simp only [Act.put, List.setIfInBounds_toArray, List.set_cons_zero, List.set_cons_succ]
              refine wpDet_done (by kernel_rfl) ?_ _
              rintro w5 hS5
              have HP5 := Lib.hid hS5
              clear hS5
              go_wp2
              go_roundw
              case rel => exact ⟨m + 1, by omega, by omega, by go_num, HP5⟩
              case measure => simp [intOf]; omega
          · obtain ⟨x, hx⟩ : ∃ x, x = hasB p k := ⟨_, rfl⟩
            have HT := Lib.hid (fun W => (HA.out k x hx W).1)
            have HX := Lib.hid (fun W => (HA.out k x hx W).2)
            have e3 : (x != x) = false := by simp
            have HS := Lib.hid (HP4.out.fr (Fr.drew _ []))
            clear hx
            go_wp2
            refine wp_region_det (S := AP w w2.heap.size p u d f e p' u' d') (by kernel_rfl) HS.out ?_
            refine wpDet_take (i := 0) (oi := _) (v := ?dv64) (by simp only [List.getElem?_toArray, List.getElem?_cons_zero]; rfl) (by kernel_rfl) (by kernel_rfl) (by kernel_rfl) (Or.inl ⟨by rfl, ?dy64⟩) ?dr64
            case dy64 => (intro w hSw; have hS0 := hSw; (try dsimp only [AP] at hSw); go_simp; refine Came.value ?_ hS0; with_reducible rfl)
            try simp only [Act.put, List.setIfInBounds_toArray, List.set_cons_zero, List.set_cons_succ]
            refine wpDet_take (i := 1) (oi := _) (v := ?dv65) (by simp only [List.getElem?_toArray, List.getElem?_cons_zero, List.getElem?_cons_succ]; rfl) (by kernel_rfl) (by kernel_rfl) (by kernel_rfl) (Or.inl ⟨by rfl, ?dy65⟩) ?dr65
            case dy65 => (intro w hSw; have hS0 := hSw; (try dsimp only [AP] at hSw); go_simp; refine Came.value ?_ hS0; with_reducible rfl)
            try simp only [Act.put, List.setIfInBounds_toArray, List.set_cons_zero, List.set_cons_succ]
            refine wpDet_take (i := 2) (oi := _) (v := ?dv66) (by simp only [List.getElem?_toArray, List.getElem?_cons_zero, List.getElem?_cons_succ]; rfl) (by kernel_rfl) (by kernel_rfl) (by kernel_rfl) (Or.inl ⟨by rfl, ?dy66⟩) ?dr66
            case dy66 => (intro w hSw; go_simp; exact Came.call ((HT.out w).mono fun e w' ⟨he, hf⟩ => ⟨he, hSw.fr hf⟩) (by with_reducible rfl))
            try simp only [Act.put, List.setIfInBounds_toArray, List.set_cons_zero, List.set_cons_succ]
            refine wpDet_take (i := 3) (oi := _) (v := ?dv67) (by simp only [List.getElem?_toArray, List.getElem?_cons_zero, List.getElem?_cons_succ]; rfl) (by kernel_rfl) (by kernel_rfl) (by kernel_rfl) (Or.inl ⟨by rfl, ?dy67⟩) ?dr67
            case dy67 => (intro w hSw; have hS0 := hSw; (try dsimp only [AP] at hSw); go_simp; refine Came.value ?_ hS0; with_reducible rfl)
            try simp only [Act.put, List.setIfInBounds_toArray, List.set_cons_zero, List.set_cons_succ]
            refine wpDet_take (i := 4) (oi := _) (v := ?dv68) (by simp only [List.getElem?_toArray, List.getElem?_cons_zero, List.getElem?_cons_succ]; rfl) (by kernel_rfl) (by kernel_rfl) (by kernel_rfl) (Or.inl ⟨by rfl, ?dy68⟩) ?dr68
            case dy68 => (intro w hSw; have hS0 := hSw; (try dsimp only [AP] at hSw); go_simp; refine Came.value ?_ hS0; with_reducible rfl)
            try simp only [Act.put, List.setIfInBounds_toArray, List.set_cons_zero, List.set_cons_succ]
            refine wpDet_take (i := 5) (oi := _) (v := ?dv69) (by simp only [List.getElem?_toArray, List.getElem?_cons_zero, List.getElem?_cons_succ]; rfl) (by kernel_rfl) (by kernel_rfl) (by kernel_rfl) (Or.inl ⟨by rfl, ?dy69⟩) ?dr69
            case dy69 => (intro w hSw; go_simp; exact Came.call ((HX.out w).mono fun e w' ⟨he, hf⟩ => ⟨he, hSw.fr hf⟩) (by with_reducible rfl))
            try simp only [Act.put, List.setIfInBounds_toArray, List.set_cons_zero, List.set_cons_succ]
            refine wpDet_take (i := 6) (oi := _) (v := ?dv70) (by simp only [List.getElem?_toArray, List.getElem?_cons_zero, List.getElem?_cons_succ]; rfl) (by kernel_rfl) (by kernel_rfl) (by kernel_rfl) (Or.inl ⟨by rfl, ?dy70⟩) ?dr70
            case dy70 => (intro w hSw; have hS0 := hSw; (try dsimp only [AP] at hSw); go_simp; refine Came.value ?_ hS0; with_reducible rfl)
            try simp only [Act.put, List.setIfInBounds_toArray, List.set_cons_zero, List.set_cons_succ]
            refine wpDet_done (by kernel_rfl) ?_ _
            rintro w5 hS5
            have HP5 := Lib.hid hS5
            clear hS5
            go_wp2
            go_roundw
            case rel => exact ⟨k + 1, by omega, by go_num, HP5⟩
            case measure => simp [intOf]; omega
      · obtain ⟨_, ⟨c0, c1, c2⟩, ⟨k0, k1⟩, t0, t1, t2⟩ := HP3.out
        go_wp2_with fail
        with_reducible refine (PU.out _).mono ?_
        rintro x w4 ⟨rfl, hf⟩
        have FA := Fr.alloc w4 (.cells #[.int .u64 p', .int .u64 u', .int .u64 d'] 24) []
        have HP4 := Lib.hid ((HP3.out.fr hf).fr FA)
        clear hf FA c0 c1 c2 k0 k1 t0 t1 t2
        obtain ⟨x0, x1, x2⟩ := arow (heap_alloc_new w4 (.cells #[.int .u64 p', .int .u64 u', .int .u64 d'] 24))
        obtain ⟨_, ⟨c0, c1, c2⟩, ⟨k0, k1⟩, t0, t1, t2⟩ := HP4.out
        go_wp2_with fail
        with_reducible refine (HZ.out _).mono ?_
        rintro x w5 ⟨rfl, hf⟩
        have F5 := Lib.hid (HP4.out.1.trans hf)
        clear hf c0 c1 c2 k0 k1 t0 t1 t2 x0 x1 x2
        go_wp2
        go_ret
        exact ⟨rfl, F5.out⟩
theorem aputs_walk (s : Sp) (h : s.ok) (f e : Int) (w : World) : Calls Try.prog 3 #[s.v, .agg #[.int .i64 f, .int .i64 e]] w fun x w' => x = .returned (.bool true) ∧ w.grownBy w' none :=
  (puts_true s f e h w).mono fun _ _ ⟨he, hf⟩ => ⟨he, hf.grown (by simp)⟩
end Go.Proofs.Ytaoflgfppdbhiaa
