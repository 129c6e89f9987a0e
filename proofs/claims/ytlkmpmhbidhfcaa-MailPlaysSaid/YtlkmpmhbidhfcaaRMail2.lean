/- The document's mail: Take, Swap. -/
import Derived.Test.YtlkmpmhbidhfcaaRMail
import Derived.BigRegion
import Derived.Deep.DeepCutAuto
namespace Go.Proofs.Ytlkmpmhbidhfcaa
open Go.RowKit

theorem rswap_none (B q : Nat) (u : Value) (Q : List Rt) (i k : Int) (w : World) (h : Rl w B q u Q) (hi : ¬ ((0 ≤ i ∧ i < (Q.length : Int)) ∧ 0 ≤ k ∧ k < (Q.length : Int))) :
    Calls Try.prog 20 #[.pointer (some ⟨q, 0, none⟩), .int .i64 i, .int .i64 k] w fun e w' => e = .returned (.bool false) ∧ w = w' := by
  obtain ⟨a, c, rfl⟩ := h.shape
  obtain ⟨c0, _⟩ := h.cells
  obtain ⟨n, hn⟩ : ∃ n, n = Q.length := ⟨_, rfl⟩
  rw [← hn] at c0 hi
  clear h hn
  have hcase : i < 0 ∨ (¬ i < 0 ∧ (n : Int) ≤ i) ∨ (¬ i < 0 ∧ ¬ (n : Int) ≤ i ∧ k < 0) ∨ (¬ i < 0 ∧ ¬ (n : Int) ≤ i ∧ ¬ k < 0 ∧ (n : Int) ≤ k) := by omega
  clear hi
  rcases hcase with h1 | ⟨h1, h2⟩ | ⟨h1, h2, h3⟩ | ⟨h1, h2, h3, h4⟩
  all_goals
    go_enter Try.func20, Try.ntmps20
    go_wp2
    go_ret
    exact ⟨rfl, rfl⟩

/-- The i-th and the k-th in each other's place. -/
def rswp (Q : List Rt) (i k : Nat) : List Rt := (Q.set i (Q.getD k dR)).set k (Q.getD i dR)
theorem rswp_len (Q : List Rt) (i k : Nat) : (rswp Q i k).length = Q.length := by simp [rswp]
theorem itC_set (Q : List Rt) (i : Nat) (x : Rt) : itC (Q.set i x) = ((itC Q).set (i * 2) (.int .i64 x.1)).set (i * 2 + 1) x.2.1 := by
  induction Q generalizing i with
  | nil => simp [itC]
  | cons b l ih =>
    cases i with
    | zero => simp [itC]
    | succ i => rw [List.set_cons_succ, itC_cons, itC_cons, ih, show (i + 1) * 2 = i * 2 + 1 + 1 by omega]; simp
theorem Rl.set {w : World} {B q g c m : Nat} {Q : List Rt} (h : Rl w B q (.slice (some ⟨g, 0, none⟩) m c) Q) (i : Nat) (x : Rt) (hx : Own w B x.2.1 x.2.2) :
    Rl ((w.setCell ⟨g, i * 2, none⟩ (.int .i64 x.1)).setCell ⟨g, i * 2 + 1, none⟩ x.2.1) B q (.slice (some ⟨g, 0, none⟩) m c) (Q.set i x) := by
  obtain rfl := row_n h.2.2.1
  have hf : Fr w ((w.setCell ⟨g, i * 2, none⟩ (.int .i64 x.1)).setCell ⟨g, i * 2 + 1, none⟩ x.2.1) [g] := (Fr.setCell w g _ _ (by simp)).trans (Fr.setCell _ g _ _ (by simp))
  have hgm : ∀ r ∈ [g], r ∈ rbs q (.slice (some ⟨g, 0, none⟩) Q.length c) := by intro r hr; obtain rfl := List.mem_singleton.1 hr; simp [rbs, Value.ownBlock]
  have hno : ∀ r ∈ [g], ∀ cs fz, w.heap[r]? ≠ some (.cells cs 5 fz) := fun r hr cs fz e => h.apart e (by decide) (by decide) (hgm r hr)
  refine ⟨h.1, hf.heap h.2.1 (by intro hm; obtain rfl := List.mem_singleton.1 hm; exact row_ne h.2.2.1 h.2.1 (by decide) rfl), ?_, ?_⟩
  · rw [List.length_set, itC_set]
    exact (World.ownsRow.stored (World.ownsRow.stored h.2.2.1 (i * 2) (.int .i64 x.1)).1 (i * 2 + 1) x.2.1).1
  · intro y hy
    rcases List.mem_or_eq_of_mem_set hy with hy | rfl
    · exact (h.2.2.2 y hy).keepT hf hno
    · exact hx.keepT hf hno
/-- Behind a Swap, or a Take: the items. -/
def Rq (w w' : World) (B q : Nat) (u : Value) (Q : List Rt) : Prop := ∃ u', Rl w' B q u' Q ∧ Fr w w' (rbs q u)
set_option maxHeartbeats 2000000 in
set_option maxRecDepth 100000 in
theorem rswap_any (B q : Nat) (u : Value) (Q : List Rt) (i k : Nat) (w : World) (h : Rl w B q u Q) (hi : i < Q.length) (hk : k < Q.length) :
    Calls Try.prog 20 #[.pointer (some ⟨q, 0, none⟩), .int .i64 i, .int .i64 k] w fun e w' => e = .returned (.bool true) ∧ Rq w w' B q u (rswp Q i k) := by
  have oi := h.own i hi
  have ok := h.own k hk
  obtain ⟨g, c, rfl, h1, h2, e0, e1⟩ := h.at i hi
  obtain ⟨g', c', he, _, _, e2, e3⟩ := h.at k hk
  simp only [Value.slice.injEq, Option.some.injEq, Addr.mk.injEq, and_true, true_and] at he
  obtain ⟨rfl, rfl⟩ := he
  obtain ⟨x, hx⟩ : ∃ x, x = Q.getD i dR := ⟨_, rfl⟩
  obtain ⟨y, hy⟩ : ∃ y, y = Q.getD k dR := ⟨_, rfl⟩
  rw [← hx] at e0 e1 oi
  rw [← hy] at e2 e3 ok
  obtain ⟨x1, xv, xl⟩ := x
  obtain ⟨y1, yv, yl⟩ := y
  obtain ⟨xa, xc, hxv⟩ := oi.shape
  obtain ⟨ya, yc, hyv⟩ := ok.shape
  simp only at e0 e1 e2 e3 oi ok hxv hyv
  subst hxv hyv
  have OI := Lib.hid oi
  have OK := Lib.hid ok
  clear oi ok
  -- the two items in boxes
  obtain ⟨W2, hW2⟩ : ∃ W2, W2 = (w.alloc (.cells #[.int .i64 x1, .slice xa xl.length xc] 46)).alloc (.cells #[.int .i64 y1, .slice ya yl.length yc] 46) := ⟨_, rfl⟩
  have FA := Lib.hid (show Fr w W2 [] by rw [hW2]; exact (Fr.alloc w _ []).trans (Fr.alloc _ _ []))
  have X2 := Lib.hid (show W2.heap[w.heap.size]? = some (.cells #[.int .i64 x1, .slice xa xl.length xc] 46 (0, 0)) by rw [hW2]; exact (Fr.alloc _ _ []).heap (heap_alloc_new w _) (by simp))
  have Y2 := Lib.hid (show W2.heap[w.heap.size + 1]? = some (.cells #[.int .i64 y1, .slice ya yl.length yc] 46 (0, 0)) by
    rw [hW2]
    have h := heap_alloc_new (w.alloc (.cells #[.int .i64 x1, .slice xa xl.length xc] 46)) (.cells #[.int .i64 y1, .slice ya yl.length yc] 46)
    rwa [show (w.alloc (.cells #[.int .i64 x1, .slice xa xl.length xc] 46)).heap.size = w.heap.size + 1 by simp] at h)
  obtain ⟨c0, _⟩ := h.cells
  have hA := h.keep (Fr.alloc w (.cells #[.int .i64 x1, .slice xa xl.length xc] 46) [])
  have R2 := Lib.hid (h.keep FA.out)
  have k0 := hA.cells.1
  have k2 := (Fr.alloc w (.cells #[.int .i64 x1, .slice xa xl.length xc] 46) []).cell e2 (by simp)
  have k3 := (Fr.alloc w (.cells #[.int .i64 x1, .slice xa xl.length xc] 46) []).cell e3 (by simp)
  have hgq : g < w.heap.size := by obtain ⟨cs, hc, _⟩ := row_at h.2.2.1; exact size_of_row hc
  have hne1 : w.heap.size ≠ g := by omega
  have hne2 : w.heap.size + 1 ≠ g := by omega
  have m0 := R2.out.cells.1
  have z := fun j => World.ownsRow.frozenAt R2.out.2.2.1 j
  have m1 := FA.out.cell e0 (by simp)
  have m2 := FA.out.cell e1 (by simp)
  have m3 := FA.out.cell e2 (by simp)
  have m4 := FA.out.cell e3 (by simp)
  obtain ⟨p0, p1⟩ := row2 X2.out
  obtain ⟨q0, q1⟩ := row2 Y2.out
  have h3 : ¬ (i : Int) < 0 := by omega
  have h4 : ¬ (Q.length : Int) ≤ (i : Int) := by omega
  have h5 : ¬ (k : Int) < 0 := by omega
  have h6 : ¬ (Q.length : Int) ≤ (k : Int) := by omega
  have HW := Lib.hid hW2
  have HX := Lib.hid hx
  have HY := Lib.hid hy
  unfold maxLen at h2
  clear h hA hW2 hx hy
  go_enter Try.func20, Try.ntmps20
  go_wp2
  rw [← HW.out]
  clear c0 e0 e1 e2 e3 k0 k2 k3
  go_region
  all_goals
    go_wp2
    obtain ⟨W3, hW3⟩ : ∃ W3, W3 = ((W2.setCell ⟨g, i * 2, none⟩ (.int .i64 y1)).setCell ⟨g, i * 2 + 1, none⟩ (.slice ya yl.length yc)).drew := ⟨_, rfl⟩
    have R3 := Lib.hid (show Rl W3 B q (.slice (some ⟨g, 0, none⟩) Q.length c) (Q.set i (y1, .slice ya yl.length yc, yl)) by
      rw [hW3]
      exact (R2.out.set i (y1, .slice ya yl.length yc, yl) (OK.out.keepT FA.out (by simp))).keep (Fr.drew _ _))
    have F3 := Lib.hid (show Fr W2 W3 [g] by
      rw [hW3]
      exact ((Fr.setCell W2 g (i * 2) _ (by simp)).trans (Fr.setCell _ g (i * 2 + 1) _ (by simp))).trans (Fr.drew _ _))
    have X3 := Lib.hid (F3.out.heap X2.out (by simpa using hne1))
    obtain ⟨s0, s1⟩ := row2 X3.out
    have t0 := R3.out.cells.1
    have hk' : k < (Q.set i (y1, .slice ya yl.length yc, yl)).length := by rw [List.length_set]; exact hk
    obtain ⟨g3, c3, he3, _, _, t1, t2⟩ := R3.out.at k hk'
    rw [List.length_set] at he3
    simp only [Value.slice.injEq, Option.some.injEq, Addr.mk.injEq, and_true, true_and] at he3
    obtain ⟨rfl, rfl⟩ := he3
    obtain ⟨v1, hv1⟩ : ∃ v1, v1 = (Value.int .i64 ((Q.set i (y1, .slice ya yl.length yc, yl)).getD k dR).1) := ⟨_, rfl⟩
    obtain ⟨v2, hv2⟩ : ∃ v2, v2 = ((Q.set i (y1, .slice ya yl.length yc, yl)).getD k dR).2.1 := ⟨_, rfl⟩
    rw [← hv1] at t1
    rw [← hv2] at t2
    have z3 : ∀ j, W3.frozen? ⟨g, j, none⟩ = false := by
      have h := R3.out.2.2.1
      rw [List.length_set] at h
      exact fun j => World.ownsRow.frozenAt h j
    have HW3 := Lib.hid hW3
    rw [← HW3.out]
    clear hW3 hv1 hv2 m0 m1 m2 m3 m4 z p0 p1 q0 q1 hk'
    go_region
  all_goals
    go_wp2
    go_ret
    have HNO := Lib.hid (show ∀ r ∈ [g], ∀ cs fz, W2.heap[r]? ≠ some (.cells cs 5 fz) from fun r hr cs fz e => R2.out.apart e (by decide) (by decide) (by obtain rfl := List.mem_singleton.1 hr; simp [rbs, Value.ownBlock]))
    have R4 := Lib.hid ((R3.out.set k (x1, .slice xa xl.length xc, xl) ((OI.out.keepT FA.out (by simp)).keepT F3.out HNO.out)).keep (Fr.drew _ []))
    have F4 := Lib.hid (((FA.out.mono (by simp)).trans F3.out).trans ((((Fr.setCell W3 g (k * 2) (.int .i64 x1) (S := [g]) (by simp)).trans (Fr.setCell _ g (k * 2 + 1) (.slice xa xl.length xc) (by simp)))).trans (Fr.drew _ _)))
    refine ⟨rfl, .slice (some ⟨g, 0, none⟩) Q.length c, ?_, F4.out.mono (by simp [rbs, Value.ownBlock])⟩
    unfold rswp
    rw [← HX.out, ← HY.out]
    exact R4.out

theorem rtake_none (B q : Nat) (u : Value) (Q : List Rt) (i : Int) (w : World) (h : Rl w B q u Q) (hi : ¬ (0 ≤ i ∧ i < (Q.length : Int))) :
    Calls Try.prog 17 #[.pointer (some ⟨q, 0, none⟩), .int .i64 i] w fun e w' => e = .returned (.tuple #[.agg #[.int .i64 0, .slice none 0 0], .bool false]) ∧ Fr w w' [] := by
  have HA := Lib.hid (Fr.alloc w (.cells #[.int .i64 0, .slice none 0 0] 46) [])
  obtain ⟨a, c, rfl⟩ := h.shape
  obtain ⟨c0, _⟩ := (h.keep HA.out).cells
  have HN := heap_alloc_new w (.cells #[.int .i64 0, .slice none 0 0] 46)
  have z0 := frozen_of_row _ _ 0 _ _ HN
  have z1 := frozen_of_row _ _ 1 _ _ HN
  obtain ⟨r0, r1⟩ := row2 HN
  obtain ⟨n, hn⟩ : ∃ n, n = Q.length := ⟨_, rfl⟩
  rw [← hn] at c0 hi
  clear h hn HN
  have hcase : i < 0 ∨ (¬ i < 0 ∧ (n : Int) ≤ i) := by omega
  clear hi
  rcases hcase with h1 | ⟨h1, h2⟩
  all_goals
    go_enter Try.func17, Try.ntmps17
    go_wp2
    exact bodyPost_ret (v := .tuple #[.agg #[.int .i64 0, .slice none 0 0], .bool false]) (by simp [results, Try.results17, go_sem, r0, r1]) rfl ⟨rfl, HA.out⟩

/-- What a Take gives: the item, what is left. -/
def RtakeQ (w : World) (B q : Nat) (u : Value) (Q : List Rt) (i : Nat) (x : Value) (w' : World) : Prop :=
  x = .tuple #[.agg #[.int .i64 (Q.getD i dR).1, (Q.getD i dR).2.1], .bool true] ∧ Rq w w' B q u (Q.eraseIdx i) ∧ Own w' B (Q.getD i dR).2.1 (Q.getD i dR).2.2
set_option maxHeartbeats 2000000 in
set_option maxRecDepth 100000 in
theorem rtake_any (B q : Nat) (u : Value) (Q : List Rt) (i : Nat) (w : World) (h : Rl w B q u Q) (hi : i < Q.length) (hL : Q.length ≤ 4096) :
    Calls Try.prog 17 #[.pointer (some ⟨q, 0, none⟩), .int .i64 i] w (Gives (RtakeQ w B q u Q i)) := by
  have oi := h.own i hi
  obtain ⟨g, c, rfl, h1, h2, e0, e1⟩ := h.at i hi
  obtain ⟨x, hx⟩ : ∃ x, x = Q.getD i dR := ⟨_, rfl⟩
  rw [← hx] at e0 e1 oi
  obtain ⟨x1, xv, xl⟩ := x
  obtain ⟨xa, xc, hxv⟩ := oi.shape
  simp only at e0 e1 oi hxv
  subst hxv
  have OI := Lib.hid oi
  obtain ⟨i0, ji, hz0, hz1, hz2⟩ := info_parts infoRt
  -- the answer's box, and the item's
  obtain ⟨W2, hW2⟩ : ∃ W2, W2 = (w.alloc (.cells #[.int .i64 0, .slice none 0 0] 46)).alloc (.cells #[.int .i64 x1, .slice xa xl.length xc] 46) := ⟨_, rfl⟩
  have FA := Lib.hid (show Fr w W2 [] by rw [hW2]; exact (Fr.alloc w _ []).trans (Fr.alloc _ _ []))
  have X2 := Lib.hid (show W2.heap[w.heap.size]? = some (.cells #[.int .i64 0, .slice none 0 0] 46 (0, 0)) by rw [hW2]; exact (Fr.alloc _ _ []).heap (heap_alloc_new w _) (by simp))
  have Y2 := Lib.hid (show W2.heap[w.heap.size + 1]? = some (.cells #[.int .i64 x1, .slice xa xl.length xc] 46 (0, 0)) by
    rw [hW2]
    have h := heap_alloc_new (w.alloc (.cells #[.int .i64 0, .slice none 0 0] 46)) (.cells #[.int .i64 x1, .slice xa xl.length xc] 46)
    rwa [show (w.alloc (.cells #[.int .i64 0, .slice none 0 0] 46)).heap.size = w.heap.size + 1 by simp] at h)
  have HSZ := Lib.hid (show W2.heap.size = w.heap.size + 2 by rw [hW2]; simp)
  have hA := h.keep (Fr.alloc w (.cells #[.int .i64 0, .slice none 0 0] 46) [])
  have R2 := Lib.hid (h.keep FA.out)
  obtain ⟨c0, _⟩ := hA.cells
  have k1 := (Fr.alloc w (.cells #[.int .i64 0, .slice none 0 0] 46) []).cell e0 (by simp)
  have k2 := (Fr.alloc w (.cells #[.int .i64 0, .slice none 0 0] 46) []).cell e1 (by simp)
  have c2 := R2.out.cells.1
  have c3 := (R2.out.keep (Fr.alloc W2 (.cells #[] 46) [])).cells.1
  have h3 : ¬ (i : Int) < 0 := by omega
  have h4 : ¬ (Q.length : Int) ≤ (i : Int) := by omega
  have HX := Lib.hid hx
  have HW := Lib.hid hW2
  have HO := Lib.hid (own_empty W2 46 2)
  have HC1 := Lib.hid (show ∀ j v, ((itC Q).take (i * 2))[j]? = some v → (W2.alloc (.cells #[] 46)).cell? ((⟨g, 0, none⟩ : Addr).add j) = some v from fun j v hj =>
    row_cells (row_keep R2.out.2.2.1 (Fr.alloc W2 (.cells #[] 46) [])) j v (by
      have := (List.getElem?_eq_some_iff.1 hj).1
      rw [List.length_take] at this
      rwa [List.getElem?_take_of_lt (by omega)] at hj))
  have HL1 : Hid (((itC Q).take (i * 2)).length = i * 2) := by show _ = _; rw [List.length_take, itC_len]; omega
  have H1C := Lib.hid (show ∀ v ∈ itC Q, v.oneCell' = true from fun v hv => by
    obtain ⟨y, hy0, hy⟩ := List.mem_flatMap.1 hv
    simp only [List.mem_cons, List.not_mem_nil, or_false] at hy
    rcases hy with rfl | rfl
    · rfl
    · obtain ⟨ya, yc, e⟩ := (h.2.2.2 y hy0).shape
      rw [e]; rfl)
  have hic : i ≤ c := by omega
  unfold maxLen at h2
  clear h hx hW2 oi hA
  go_enter Try.func17, Try.ntmps17
  go_upto_region 4 with fail
  rw [← HW.out]
  go_upto_region 5 with (at_builtin; refine wpList_append_own _ rfl _ _ 40 rfl W2.heap.size 46 i0 (.agg #[.int .i64 0, .slice none 0 0]) 2 32 Try.underlying40 ji hz0 hz1 hz2 rfl (by decide) _ _ _ rfl HO.out ⟨g, 0, none⟩ i c ((itC Q).take (i * 2)) rfl HL1.out HC1.out (fun v hv => H1C.out v (List.mem_of_mem_take hv)) (by unfold maxLen; omega) (by omega) (by simp) ?_; intro v' w3 hown hg _)
  have O3 := Lib.hid (show w3.ownsRow W2.heap.size 46 2 v' i ((itC Q).take (i * 2)) by simpa using hown)
  have F3 := Lib.hid (Fr.of_grown (grown_new (World.grownBy_alloc W2 _ none) hg (fun r hr => by cases hr; exact Nat.le_refl _)) [])
  have R3 := Lib.hid (R2.out.keep F3.out)
  have X3 := Lib.hid (F3.out.heap X2.out (by simp))
  have Y3 := Lib.hid (F3.out.heap Y2.out (by simp))
  have d0 := R3.out.cells.1
  clear hown hg c0 k1 k2 c2 c3 e0 e1
  obtain ⟨A, hA, hsrc⟩ : ∃ A : Addr, (if c = i + 1 then some (⟨g, 0, none⟩ : Addr) else some ⟨g, (i + 1) * 2, none⟩) = some A ∧ Hid (∀ t u, ((itC Q).drop ((i + 1) * 2))[t]? = some u → w3.cell? (A.add t) = some u) := by
    by_cases hc : c = i + 1
    · refine ⟨⟨g, 0, none⟩, by simp [hc], fun t u hu => ?_⟩
      have h0 : ((itC Q).drop ((i + 1) * 2)).length = 0 := by rw [List.length_drop, itC_len]; omega
      rw [List.length_eq_zero_iff.1 h0] at hu
      simp at hu
    · refine ⟨⟨g, (i + 1) * 2, none⟩, by simp [hc], fun t u hu => ?_⟩
      rw [List.getElem?_drop] at hu
      have := row_cells R3.out.2.2.1 _ u hu
      rw [Addr.add_lit] at this ⊢
      rw [Nat.zero_add] at this
      exact this
  have s1 : Hid (((itC Q).drop ((i + 1) * 2)).length = (Q.length - (i + 1)) * 2) := by show _ = _; rw [List.length_drop, itC_len]; omega
  have hwr : IntKind.i64.wrap ((i : Int) + 1) = (i : Int) + 1 := by rw [IntKind.wrap_i64]; omega
  have hp0 : (0 : Int) ≤ (i : Int) + 1 := by omega
  have hp1 : (i : Int) + 1 ≤ (Q.length : Int) := by omega
  have hp2 : ((i : Int) + 1).toNat = i + 1 := by omega
  go_upto_region 6 with (at_builtin; refine wpList_append_own _ rfl _ _ 40 rfl W2.heap.size 46 i0 (.agg #[.int .i64 0, .slice none 0 0]) 2 32 Try.underlying40 ji hz0 hz1 hz2 rfl (by decide) v' i ((itC Q).take (i * 2)) rfl O3.out A (Q.length - (i + 1)) (c - (i + 1)) ((itC Q).drop ((i + 1) * 2)) rfl s1.out hsrc.out (fun v hv => H1C.out v (List.mem_of_mem_drop hv)) (by unfold maxLen; omega) (by omega) (by have := F3.out.size; omega) ?_; intro v4 w4 hown4 hg4 _; obtain ⟨a4, c4, rfl⟩ := row_shape hown4; have P4 := Lib.hid (row_far hg4 O3.out R3.out.2.1 (by decide)); have k4 := (row2 P4.out).1; have f4 := frozen_of_row _ _ 0 _ _ P4.out)
  have hnx : ∀ r, v'.ownBlock = some r → w.heap.size + 2 ≤ r := fun r hr => by have := (World.ownsRow.lt O3.out r hr).1; have := HSZ.out; omega
  have X4 := Lib.hid (show w4.heap[w.heap.size]? = some (.cells #[.int .i64 0, .slice none 0 0] 46 (0, 0)) by
    rw [hg4.block _ (size_of_row X3.out) (fun e => by have := hnx _ e.symm; omega)]; exact X3.out)
  have Y4 := Lib.hid (show w4.heap[w.heap.size + 1]? = some (.cells #[.int .i64 x1, .slice xa xl.length xc] 46 (0, 0)) by
    rw [hg4.block _ (size_of_row Y3.out) (fun e => by have := hnx _ e.symm; omega)]; exact Y3.out)
  have F4 := Lib.hid (show Fr W2 w4 [] from F3.out.grown_own hg4 (fun r hr => .inr (by have := hnx r hr; have := HSZ.out; omega)))
  have O4 := Lib.hid hown4
  have hXq : w.heap.size ≠ q := by have := R2.out.lt; intro e; subst e; have h1 := R2.out.2.1.symm.trans X2.out; simp at h1
  have hYq : w.heap.size + 1 ≠ q := by intro e; subst e; have h1 := R2.out.2.1.symm.trans Y2.out; simp at h1
  obtain ⟨W5, hW5⟩ : ∃ W5, W5 = w4.setCell ⟨q, 0, none⟩ (.slice a4 (i + (Q.length - (i + 1))) c4) := ⟨_, rfl⟩
  have S5 := Lib.hid (show Fr w4 W5 [q] by rw [hW5]; exact Fr.setCell w4 q 0 _ (by simp))
  have X5 := Lib.hid (S5.out.heap X4.out (by simpa using hXq))
  have Y5 := Lib.hid (S5.out.heap Y4.out (by simpa using hYq))
  have P5 := Lib.hid (show W5.heap[q]? = some (.cells #[.slice a4 (i + (Q.length - (i + 1))) c4, .int .i64 0] 42 (0, 0)) by rw [hW5, heap_setCell_same _ q 0 _ _ _ P4.out]; rfl)
  rw [← hW5]
  obtain ⟨x0, x1'⟩ := row2 X5.out
  obtain ⟨y0, y1⟩ := row2 Y5.out
  have zx0 := frozen_of_row _ _ 0 _ _ X5.out
  have zx1 := frozen_of_row _ _ 1 _ _ X5.out
  clear k4 f4 hg4 hown4 hW5 hnx
  go_wp2
  have S6 := Lib.hid ((Fr.setCell W5 w.heap.size 0 (.int .i64 x1) (S := [w.heap.size]) (by simp)).trans (Fr.setCell _ w.heap.size 1 (.slice xa xl.length xc) (S := [w.heap.size]) (by simp)))
  have FT := Lib.hid (((F4.out.mono (T := [q, w.heap.size]) (by simp)).trans (S5.out.mono (by simp))).trans (S6.out.mono (by simp)))
  have HNO := Lib.hid (show ∀ r ∈ [q, w.heap.size], ∀ cs fz, W2.heap[r]? ≠ some (.cells cs 5 fz) from fun r hr cs fz e => by
    simp only [List.mem_cons, List.not_mem_nil, or_false] at hr
    rcases hr with rfl | rfl
    · rw [R2.out.2.1] at e; simp at e
    · rw [X2.out] at e; simp at e)
  have FW := Lib.hid ((((FA.out.trans F4.out).mono (T := rbs q (.slice (some ⟨g, 0, none⟩) Q.length c)) (by simp)).trans (S5.out.mono (by simp [rbs]))).new S6.out (by simp))
  have hlen : (Q.eraseIdx i).length = i + (Q.length - (i + 1)) := by rw [List.length_eraseIdx, if_pos hi]; omega
  have hitc : itC (Q.eraseIdx i) = (itC Q).take (i * 2) ++ (itC Q).drop ((i + 1) * 2) := by rw [List.eraseIdx_eq_take_drop_succ, itC_app, itC_take, itC_drop]
  have ROW := Lib.hid (row_fr (row_fr O4.out S5.out (by intro r hr; obtain rfl := List.mem_singleton.1 hr; exact row_ne O4.out P4.out (by decide))) S6.out (by intro r hr e; obtain rfl := List.mem_singleton.1 hr; have := (World.ownsRow.lt O4.out _ e).1; have := HSZ.out; omega))
  have HEND : Hid (RtakeQ w B q (.slice (some ⟨g, 0, none⟩) Q.length c) Q i (.tuple #[.agg #[.int .i64 x1, .slice xa xl.length xc], .bool true]) ((W5.setCell ⟨w.heap.size, 0, none⟩ (.int .i64 x1)).setCell ⟨w.heap.size, 1, none⟩ (.slice xa xl.length xc))) := by
    show RtakeQ _ _ _ _ _ _ _ _
    unfold RtakeQ
    rw [← HX.out]
    refine ⟨rfl, ⟨.slice a4 (i + (Q.length - (i + 1))) c4, ⟨R2.out.1, S6.out.heap P5.out (by simpa using fun e => hXq e.symm), ?_, fun y hy => (R2.out.2.2.2 y (List.mem_of_mem_eraseIdx hy)).keepT FT.out HNO.out⟩, FW.out⟩, (OI.out.keepT FA.out (by simp)).keepT FT.out HNO.out⟩
    rw [hlen, hitc]
    exact row_mono ROW.out (by have := R2.out.1; have := R2.out.lt; omega)
  exact bodyPost_ret (v := .tuple #[.agg #[.int .i64 x1, .slice xa xl.length xc], .bool true]) (by simp [results, Try.results17, go_sem, x0, x1']) rfl (gives HEND.out)
end Go.Proofs.Ytlkmpmhbidhfcaa
