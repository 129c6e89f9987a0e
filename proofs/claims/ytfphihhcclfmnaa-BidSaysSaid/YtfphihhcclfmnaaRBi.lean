/- The document's bids: less, the first of a car, the least, whether all have bid, a copy. -/
import Derived.Test.YtfphihhcclfmnaaBds
import Derived.Test.YtfphihhcclfmnaaDetM
import Derived.Test.YtfphihhcclfmnaaOwnI
namespace Go.Proofs.Ytfphihhcclfmnaa
open Go.RowKit

theorem two_bids (w : World) (a b : Int × Int) : Fr w ((w.alloc (bidBox a)).alloc (bidBox b)) [] ∧ ((w.alloc (bidBox a)).alloc (bidBox b)).heap[w.heap.size]? = some (bidBox a) ∧ ((w.alloc (bidBox a)).alloc (bidBox b)).heap[w.heap.size + 1]? = some (bidBox b) := by
  have n2 := heap_alloc_new (w.alloc (bidBox a)) (bidBox b)
  rw [show (w.alloc (bidBox a)).heap.size = w.heap.size + 1 by simp] at n2
  exact ⟨(Fr.alloc _ _ []).trans (Fr.alloc _ _ []), (Fr.alloc _ _ []).heap (heap_alloc_new w (bidBox a)) (by simp), n2⟩
set_option maxRecDepth 100000 in
theorem rless_b (a b : Int × Int) (w : World) (r : Bool) (hr : r = ltB a b) : Calls Try.prog 16 #[bidV a, bidV b] w fun x w' => x = .returned (.bool r) ∧ Fr w w' [] := by
  have HF := Lib.hid (two_bids w a b).1
  obtain ⟨a1, a2⟩ := a
  obtain ⟨b1, b2⟩ := b
  dsimp only [bidV, bidBox] at *
  by_cases h1 : a2 < b2
  · have HB : Hid (r = true) := by show _ = _; rw [hr, ltB_iff]; exact .inl h1
    clear hr
    go_enter Try.func16, Try.ntmps16
    go_wp2
    go_ret
    exact ⟨by rw [HB.out]; rfl, HF.out⟩
  · by_cases h2 : a2 = b2
    · subst h2
      by_cases h3 : a1 < b1
      · have HB : Hid (r = true) := by show _ = _; rw [hr, ltB_iff]; exact .inr ⟨rfl, h3⟩
        clear hr h1
        go_enter Try.func16, Try.ntmps16
        go_wp2
        go_ret
        exact ⟨by rw [HB.out]; rfl, HF.out⟩
      · have HB : Hid (r = false) := by show _ = _; rw [hr, ltB_no]; dsimp only; omega
        clear hr h1
        go_enter Try.func16, Try.ntmps16
        go_wp2
        go_ret
        exact ⟨by rw [HB.out]; rfl, HF.out⟩
    · have HB : Hid (r = false) := by show _ = _; rw [hr, ltB_no]; dsimp only; omega
      have h3 : (a2 == b2) = false := by simp [h2]
      clear hr h2
      go_enter Try.func16, Try.ntmps16
      go_wp2
      go_ret
      exact ⟨by rw [HB.out]; rfl, HF.out⟩
/-- The first of a car, by its place. -/
theorem find_take {l : List (Int × Int)} {c : Int} {k : Nat} (hk : k < l.length) (no : ∀ i, i < k → (l.getD i (0, 0)).1 ≠ c) (yes : (l.getD k (0, 0)).1 = c) : bidOf l c = some (l.getD k (0, 0)) := by
  induction l generalizing k with
  | nil => simp at hk
  | cons x l ih =>
    unfold bidOf
    rw [List.find?_cons]
    cases k with
    | zero =>
      have : x.1 = c := yes
      rw [decide_eq_true this]; rfl
    | succ k =>
      have : ¬ x.1 = c := no 0 (by omega)
      rw [decide_eq_false this]
      have := ih (k := k) (by simpa using hk) (fun i hi => no (i + 1) (by omega)) yes
      unfold bidOf at this
      simpa using this
theorem find_none' {l : List (Int × Int)} {c : Int} (no : ∀ i, i < l.length → (l.getD i (0, 0)).1 ≠ c) : bidOf l c = none := by
  rw [bidOf_none]
  intro x hx e
  obtain ⟨i, hi, rfl⟩ := List.getElem_of_mem hx
  exact no i hi (by rw [List.getD_eq_getElem?_getD, List.getElem?_eq_getElem hi]; exact e)
/-- Where the first of a car stands; -1. -/
def FindIs (l : List (Int × Int)) (c : Int) (z : Int) : Prop := (z = -1 ∧ bidOf l c = none) ∨ ∃ k : Nat, z = k ∧ k < l.length ∧ bidOf l c = some (l.getD k (0, 0))
set_option maxHeartbeats 1000000 in
set_option maxRecDepth 100000 in
theorem rfind_b (v : Value) (l : List (Int × Int)) (c : Int) (w : World) (h : HB w v l) (hl : l.length ≤ 1000000) :
    Calls Try.prog 14 #[v, .int .i64 c] w fun x w' => ∃ z, x = .returned (.int .i64 z) ∧ FindIs l c z ∧ w' = w := by
  obtain ⟨a, cap, rfl, p1, q1, r1⟩ := h
  unfold maxLen at q1
  go_enter Try.func14, Try.ntmps14
  go_wp2
  go_loopw [5] (fun s5 wx => ∃ k : Nat, s5 = .int .i64 k ∧ Hid (k ≤ l.length) ∧ Hid (∀ i, i < k → (l.getD i (0, 0)).1 ≠ c) ∧ wx = w) (fun s5 _ => l.length - (intOf s5).toNat)
  case atStart => exact ⟨0, rfl, Lib.hid (Nat.zero_le _), Lib.hid (fun i hi => by omega), rfl⟩
  case round =>
    obtain ⟨k, rfl, HK, HN, rfl⟩ := hrel
    have hk := HK.out
    by_cases hlt : k < l.length
    · obtain ⟨b, off, rfl, hc⟩ := r1 (by omega)
      obtain ⟨x0, _⟩ := hc k hlt
      obtain ⟨y, hy⟩ : ∃ y, y = (l.getD k (0, 0)).1 := ⟨_, rfl⟩
      rw [← hy] at x0
      have HY := Lib.hid hy
      clear hy hc r1
      by_cases e : y = c
      · have HE := Lib.hid e
        subst e
        have HR := Lib.hid (find_take hlt HN.out HY.out.symm)
        clear HN
        go_wp2
        go_ret
        exact ⟨_, rfl, .inr ⟨k, rfl, hlt, HR.out⟩, rfl⟩
      · have HN2 : Hid (∀ i, i < k + 1 → (l.getD i (0, 0)).1 ≠ c) := Lib.hid (fun i hi => by
          by_cases z : i = k
          · subst z; rw [← HY.out]; exact e
          · exact HN.out i (by omega))
        have e2 : (y == c) = false := by simp [e]
        clear HN e
        go_wp2
        go_roundw
        case rel => exact ⟨k + 1, by go_num, Lib.hid (by omega), HN2, by trivial⟩
        case measure => simp [intOf]; omega
    · obtain rfl : k = l.length := by omega
      have HR := Lib.hid (find_none' HN.out)
      clear HN r1
      go_wp2
      go_ret
      exact ⟨_, rfl, .inl ⟨rfl, HR.out⟩, rfl⟩

theorem full_take {ms : List Int} {l : List (Int × Int)} (h : ∀ i, i < ms.length → (bidOf l (ms.getD i 0)).isSome = true) : fullB ms l = true := by
  unfold fullB
  rw [List.all_eq_true]
  intro m hm
  obtain ⟨i, hi, rfl⟩ := List.getElem_of_mem hm
  have := h i hi
  rwa [List.getD_eq_getElem?_getD, List.getElem?_eq_getElem hi] at this
theorem full_not {ms : List Int} {l : List (Int × Int)} {i : Nat} (hi : i < ms.length) (h : bidOf l (ms.getD i 0) = none) : fullB ms l = false := by
  refine Bool.eq_false_iff.2 fun k => ?_
  unfold fullB at k
  rw [List.all_eq_true] at k
  have := k ms[i] (List.getElem_mem hi)
  rw [List.getD_eq_getElem?_getD, List.getElem?_eq_getElem hi] at h
  rw [show (some ms[i]).getD 0 = ms[i] from rfl] at h
  rw [h] at this
  cases this
set_option maxHeartbeats 1000000 in
set_option maxRecDepth 100000 in
theorem rfull_b (vm : Value) (ms : List Int) (v : Value) (l : List (Int × Int)) (w : World) (hm : HInts w vm ms) (h : HB w v l) (hl : l.length ≤ 1000000) (r : Bool) (hr : r = fullB ms l) :
    Calls Try.prog 19 #[vm, v] w fun x w' => x = .returned (.bool r) ∧ w' = w := by
  have FI := Lib.hid (fun c => rfind_b v l c w h hl)
  obtain ⟨am, cm, rfl, pm, qm, rm⟩ := hm
  obtain ⟨a, cap, rfl, p1, q1, r1⟩ := h
  unfold maxLen at qm
  have HR := Lib.hid hr
  clear hr r1 p1 q1
  go_enter Try.func19, Try.ntmps19
  go_wp2
  go_loopw [5] (fun s5 wx => ∃ k : Nat, s5 = .int .i64 k ∧ Hid (k ≤ ms.length) ∧ Hid (∀ i, i < k → (bidOf l (ms.getD i 0)).isSome = true) ∧ wx = w) (fun s5 _ => ms.length - (intOf s5).toNat)
  case atStart => exact ⟨0, rfl, Lib.hid (Nat.zero_le _), Lib.hid (fun i hi => by omega), rfl⟩
  case round =>
    obtain ⟨k, rfl, HK, HN, rfl⟩ := hrel
    have hk := HK.out
    by_cases hlt : k < ms.length
    · obtain ⟨b, off, rfl, hc⟩ := rm (by omega)
      have x0 := hc k hlt
      obtain ⟨y, hy⟩ : ∃ y, y = ms.getD k 0 := ⟨_, rfl⟩
      rw [← hy] at x0
      have HY := Lib.hid hy
      have FI1 := Lib.hid (FI.out y)
      clear hy hc rm FI
      go_wp2_with fail
      with_reducible refine (FI1.out).mono ?_
      rintro e w2 ⟨z, rfl, hz, rfl⟩
      rcases hz with ⟨rfl, hz⟩ | ⟨j, rfl, hj, hz⟩
      · have HN2 : Hid (r = false) := by
          show _ = _
          rw [HR.out]
          exact full_not hlt (by rw [← HY.out]; exact hz)
        clear HN hz
        go_wp2
        go_ret
        exact ⟨by rw [HN2.out]; rfl, rfl⟩
      · have HN2 : Hid (∀ i, i < k + 1 → (bidOf l (ms.getD i 0)).isSome = true) := Lib.hid (fun i hi => by
          by_cases z : i = k
          · subst z; rw [← HY.out, hz]; rfl
          · exact HN.out i (by omega))
        clear HN hz
        go_wp2
        go_roundw
        case rel => exact ⟨k + 1, by go_num, Lib.hid (by omega), HN2, by trivial⟩
        case measure => simp [intOf]; omega
    · obtain rfl : k = ms.length := by omega
      have HN2 : Hid (r = true) := by
        show _ = _
        rw [HR.out]
        exact full_take HN.out
      clear HN rm FI
      go_wp2
      go_ret
      exact ⟨by rw [HN2.out]; rfl, rfl⟩
/-- Where the least stands; -1. -/
def LeastAt (l : List (Int × Int)) (z : Int) : Prop := (z = -1 ∧ l = []) ∨ ∃ j : Nat, z = j ∧ j < l.length ∧ LeastB l (l.getD j (0, 0))
theorem take_more (l : List (Int × Int)) (k : Nat) (h : k < l.length) : l.take (k + 1) = l.take k ++ [l.getD k (0, 0)] := by
  rw [List.take_succ_eq_append_getElem h]; simp [h]
theorem least_first (x : Int × Int) : LeastB [x] x := ⟨by simp, fun y hy => by
  obtain rfl : y = x := by simpa using hy
  exact ltB_self _⟩
/-- Two bids, where they lie. -/
def B2 (b o1 o2 : Nat) (x y : Int × Int) (a : World) : Prop :=
  (a.cell? ⟨b, o1, none⟩ = some (.int .i64 x.1) ∧ a.cell? ⟨b, o1 + 1, none⟩ = some (.int .i64 x.2)) ∧ a.cell? ⟨b, o2, none⟩ = some (.int .i64 y.1) ∧ a.cell? ⟨b, o2 + 1, none⟩ = some (.int .i64 y.2)
def B2F (V : World) (b o1 o2 : Nat) (x y : Int × Int) (a : World) : Prop := Fr V a [] ∧ B2 b o1 o2 x y a
theorem B2F.fr {V : World} {b o1 o2 : Nat} {x y : Int × Int} {a a' : World} (h : B2F V b o1 o2 x y a) (k : Fr a a' []) : B2F V b o1 o2 x y a' :=
  ⟨h.1.trans k, ⟨k.cell h.2.1.1 (by simp), k.cell h.2.1.2 (by simp)⟩, k.cell h.2.2.1 (by simp), k.cell h.2.2.2 (by simp)⟩
set_option maxHeartbeats 2000000 in
set_option maxRecDepth 100000 in
theorem rleast_b (v : Value) (l : List (Int × Int)) (w : World) (h : HB w v l) (hl : l.length ≤ 1000000) :
    Calls Try.prog 8 #[v] w fun x w' => ∃ z, x = .returned (.int .i64 z) ∧ LeastAt l z ∧ Fr w w' [] := by
  obtain ⟨a, cap, rfl, p1, q1, r1⟩ := h
  unfold maxLen at q1
  have LL := Lib.hid (fun x y r hr W => rless_b x y W r hr)
  go_enter Try.func8, Try.ntmps8
  go_wp2
  go_loopw [3, 4] (fun s3 s4 wx => ∃ (k : Nat) (z : Int), s4 = .int .i64 k ∧ s3 = .int .i64 z ∧ Hid (k ≤ l.length) ∧ Hid (LeastAt (l.take k) z) ∧ Hid (Fr w wx [])) (fun _ s4 _ => l.length - (intOf s4).toNat)
  case atStart => exact ⟨0, -1, rfl, rfl, Lib.hid (Nat.zero_le _), Lib.hid (.inl ⟨rfl, rfl⟩), Lib.hid (Fr.refl _ _)⟩
  case round =>
    obtain ⟨k, z, rfl, rfl, HK, HL, HF⟩ := hrel
    have hk := HK.out
    by_cases hlt : k < l.length
    · obtain ⟨b, off, rfl, hc⟩ := r1 (by omega)
      obtain ⟨y, hy⟩ : ∃ y, y = l.getD k (0, 0) := ⟨_, rfl⟩
      have HT := Lib.hid (show l.take (k + 1) = l.take k ++ [y] by rw [hy]; exact take_more l k hlt)
      have hlen : (l.take k).length = k := by rw [List.length_take]; omega
      have HY : Hid ((l.take (k + 1)).getD k (0, 0) = y) := by
        show _ = _
        rw [HT.out, List.getD_eq_getElem?_getD, List.getElem?_append_right (by omega), hlen]; simp
      have HKL := Lib.hid (show (l.take (k + 1)).length = k + 1 by rw [List.length_take]; omega)
      rcases HL.out with ⟨rfl, hn⟩ | ⟨j, rfl, hj, hle⟩
      · have HL2 : Hid (LeastAt (l.take (k + 1)) k) := by
          refine Lib.hid (.inr ⟨k, rfl, by rw [HKL.out]; omega, ?_⟩)
          rw [HY.out, HT.out, hn]
          exact least_first y
        have HW := Lib.hid (HF.out.trans (Fr.drew wr []))
        clear HL hn HT HY hy hc r1 hlen
        go_wp2
        refine wp_region_det (S := fun a => Fr w a []) (by kernel_rfl) HW.out ?_
        refine wpDet_take (i := 0) (oi := _) (v := ?dv1) (by simp only [List.getElem?_toArray, List.getElem?_cons_zero]; rfl) (by kernel_rfl) (by kernel_rfl) (by kernel_rfl) (Or.inl ⟨by rfl, ?dy1⟩) ?dr1
        case dy1 => (intro w hSw; have hS0 := hSw; (try dsimp only at hSw); go_simp; refine Came.value ?_ hS0; with_reducible rfl)
        try simp only [Act.put, List.setIfInBounds_toArray, List.set_cons_zero, List.set_cons_succ]
        refine wpDet_take (i := 1) (oi := _) (v := ?dv2) (by simp only [List.getElem?_toArray, List.getElem?_cons_zero, List.getElem?_cons_succ]; rfl) (by kernel_rfl) (by kernel_rfl) (by kernel_rfl) (Or.inl ⟨by rfl, ?dy2⟩) ?dr2
        case dy2 => (intro w hSw; have hS0 := hSw; (try dsimp only at hSw); go_simp; refine Came.value ?_ hS0; with_reducible rfl)
        try simp only [Act.put, List.setIfInBounds_toArray, List.set_cons_zero, List.set_cons_succ]
        refine wpDet_take (i := 2) (oi := _) (v := ?dv3) (by simp only [List.getElem?_toArray, List.getElem?_cons_zero, List.getElem?_cons_succ]; rfl) (by kernel_rfl) (by kernel_rfl) (by kernel_rfl) (Or.inl ⟨by rfl, ?dy3⟩) ?dr3
        case dy3 => (intro w hSw; have hS0 := hSw; (try dsimp only at hSw); go_simp; refine Came.value ?_ hS0; with_reducible rfl)
        try simp only [Act.put, List.setIfInBounds_toArray, List.set_cons_zero, List.set_cons_succ]
        refine wpDet_take (i := 3) (oi := _) (v := undef) (by simp only [List.getElem?_toArray, List.getElem?_cons_zero, List.getElem?_cons_succ]; rfl) (by kernel_rfl) (by kernel_rfl) (by kernel_rfl) (Or.inr ⟨by rfl, rfl⟩) ?_
        try simp only [Act.put, List.setIfInBounds_toArray, List.set_cons_zero, List.set_cons_succ]
        refine wpDet_take (i := 4) (oi := _) (v := undef) (by simp only [List.getElem?_toArray, List.getElem?_cons_zero, List.getElem?_cons_succ]; rfl) (by kernel_rfl) (by kernel_rfl) (by kernel_rfl) (Or.inr ⟨by rfl, rfl⟩) ?_
        try simp only [Act.put, List.setIfInBounds_toArray, List.set_cons_zero, List.set_cons_succ]
        refine wpDet_take (i := 5) (oi := _) (v := undef) (by simp only [List.getElem?_toArray, List.getElem?_cons_zero, List.getElem?_cons_succ]; rfl) (by kernel_rfl) (by kernel_rfl) (by kernel_rfl) (Or.inr ⟨by rfl, rfl⟩) ?_
        try simp only [Act.put, List.setIfInBounds_toArray, List.set_cons_zero, List.set_cons_succ]
        refine wpDet_take (i := 6) (oi := _) (v := undef) (by simp only [List.getElem?_toArray, List.getElem?_cons_zero, List.getElem?_cons_succ]; rfl) (by kernel_rfl) (by kernel_rfl) (by kernel_rfl) (Or.inr ⟨by rfl, rfl⟩) ?_
        try simp only [Act.put, List.setIfInBounds_toArray, List.set_cons_zero, List.set_cons_succ]
        refine wpDet_take (i := 7) (oi := _) (v := undef) (by simp only [List.getElem?_toArray, List.getElem?_cons_zero, List.getElem?_cons_succ]; rfl) (by kernel_rfl) (by kernel_rfl) (by kernel_rfl) (Or.inr ⟨by rfl, rfl⟩) ?_
        try simp only [Act.put, List.setIfInBounds_toArray, List.set_cons_zero, List.set_cons_succ]
        refine wpDet_take (i := 8) (oi := _) (v := undef) (by simp only [List.getElem?_toArray, List.getElem?_cons_zero, List.getElem?_cons_succ]; rfl) (by kernel_rfl) (by kernel_rfl) (by kernel_rfl) (Or.inr ⟨by rfl, rfl⟩) ?_
        try simp only [Act.put, List.setIfInBounds_toArray, List.set_cons_zero, List.set_cons_succ]
        refine wpDet_take (i := 9) (oi := _) (v := undef) (by simp only [List.getElem?_toArray, List.getElem?_cons_zero, List.getElem?_cons_succ]; rfl) (by kernel_rfl) (by kernel_rfl) (by kernel_rfl) (Or.inr ⟨by rfl, rfl⟩) ?_
        try simp only [Act.put, List.setIfInBounds_toArray, List.set_cons_zero, List.set_cons_succ]
        refine wpDet_take (i := 10) (oi := _) (v := undef) (by simp only [List.getElem?_toArray, List.getElem?_cons_zero, List.getElem?_cons_succ]; rfl) (by kernel_rfl) (by kernel_rfl) (by kernel_rfl) (Or.inr ⟨by rfl, rfl⟩) ?_
        try simp only [Act.put, List.setIfInBounds_toArray, List.set_cons_zero, List.set_cons_succ]
        refine wpDet_take (i := 11) (oi := _) (v := undef) (by simp only [List.getElem?_toArray, List.getElem?_cons_zero, List.getElem?_cons_succ]; rfl) (by kernel_rfl) (by kernel_rfl) (by kernel_rfl) (Or.inr ⟨by rfl, rfl⟩) ?_
        try simp only [Act.put, List.setIfInBounds_toArray, List.set_cons_zero, List.set_cons_succ]
        refine wpDet_take (i := 12) (oi := _) (v := ?dv13) (by simp only [List.getElem?_toArray, List.getElem?_cons_zero, List.getElem?_cons_succ]; rfl) (by kernel_rfl) (by kernel_rfl) (by kernel_rfl) (Or.inl ⟨by rfl, ?dy13⟩) ?dr13
        case dy13 => (intro w hSw; have hS0 := hSw; (try dsimp only at hSw); go_simp; refine Came.value ?_ hS0; with_reducible rfl)
        try simp only [Act.put, List.setIfInBounds_toArray, List.set_cons_zero, List.set_cons_succ]
        refine wpDet_done (by kernel_rfl) ?_ _
        rintro w1 hF
        have HF1 := Lib.hid hF
        clear hF HW HF
        go_wp2
        go_roundw
        case rel => exact ⟨k + 1, k, by go_num, rfl, Lib.hid (by omega), HL2, HF1⟩
        case measure => simp [intOf]; omega
      · rw [hlen] at hj
        obtain ⟨u, hu⟩ : ∃ u, u = (l.take k).getD j (0, 0) := ⟨_, rfl⟩
        have hu2 : u = l.getD j (0, 0) := by rw [hu]; simp [List.getD, hj]
        obtain ⟨x0, x1⟩ := hc k hlt
        obtain ⟨y0, y1⟩ := hc j (by omega)
        rw [← hy] at x0 x1
        rw [← hu2] at y0 y1
        rw [← hu] at hle
        obtain ⟨g, hg⟩ : ∃ g, g = ltB y u := ⟨_, rfl⟩
        have LE := Lib.hid (LL.out y u g hg)
        have HLE := Lib.hid (show LeastB (l.take (k + 1)) (if g = true then y else u) by rw [HT.out, hg]; exact hle.snoc y)
        have HU : Hid ((l.take (k + 1)).getD j (0, 0) = u) := by
          show _ = _
          rw [hu2]; simp [List.getD, show j < k + 1 by omega]
        have HS := Lib.hid (show B2F w b (off + k * 2) (off + j * 2) y u wr.drew from ⟨HF.out.trans (Fr.drew wr []), ⟨(HF.out.trans (Fr.drew wr [])).cell x0 (by simp), (HF.out.trans (Fr.drew wr [])).cell x1 (by simp)⟩, (HF.out.trans (Fr.drew wr [])).cell y0 (by simp), (HF.out.trans (Fr.drew wr [])).cell y1 (by simp)⟩)
        have hj0 : decide ((j : Int) < 0) = false := decide_eq_false (by omega)
        have hjl : j < l.length := by omega
        clear LL HL hle HT hy hu hu2 hc r1 hlen x0 x1 y0 y1 HF hg
        obtain ⟨ya, yb⟩ := y
        obtain ⟨ua, ub⟩ := u
        dsimp only [bidV] at LE
        go_wp2
        refine wp_region_det (S := B2F w b (off + k * 2) (off + j * 2) (ya, yb) (ua, ub)) (by kernel_rfl) HS.out ?_
        refine wpDet_take (i := 0) (oi := _) (v := ?dv14) (by simp only [List.getElem?_toArray, List.getElem?_cons_zero]; rfl) (by kernel_rfl) (by kernel_rfl) (by kernel_rfl) (Or.inl ⟨by rfl, ?dy14⟩) ?dr14
        case dy14 => (intro w hSw; have hS0 := hSw; (try dsimp only [B2F,B2] at hSw); go_simp; refine Came.value ?_ hS0; with_reducible rfl)
        try simp only [Act.put, List.setIfInBounds_toArray, List.set_cons_zero, List.set_cons_succ]
        refine wpDet_take (i := 1) (oi := _) (v := ?dv15) (by simp only [List.getElem?_toArray, List.getElem?_cons_zero, List.getElem?_cons_succ]; rfl) (by kernel_rfl) (by kernel_rfl) (by kernel_rfl) (Or.inl ⟨by rfl, ?dy15⟩) ?dr15
        case dy15 => (intro w hSw; have hS0 := hSw; (try dsimp only [B2F,B2] at hSw); go_simp; refine Came.value ?_ hS0; with_reducible rfl)
        try simp only [Act.put, List.setIfInBounds_toArray, List.set_cons_zero, List.set_cons_succ]
        refine wpDet_take (i := 2) (oi := _) (v := ?dv16) (by simp only [List.getElem?_toArray, List.getElem?_cons_zero, List.getElem?_cons_succ]; rfl) (by kernel_rfl) (by kernel_rfl) (by kernel_rfl) (Or.inl ⟨by rfl, ?dy16⟩) ?dr16
        case dy16 => (intro w hSw; have hS0 := hSw; (try dsimp only [B2F,B2] at hSw); go_simp; refine Came.value ?_ hS0; with_reducible rfl)
        try simp only [Act.put, List.setIfInBounds_toArray, List.set_cons_zero, List.set_cons_succ]
        refine wpDet_take (i := 3) (oi := _) (v := ?dv17) (by simp only [List.getElem?_toArray, List.getElem?_cons_zero, List.getElem?_cons_succ]; rfl) (by kernel_rfl) (by kernel_rfl) (by kernel_rfl) (Or.inl ⟨by rfl, ?dy17⟩) ?dr17
        case dy17 => (intro w hSw; have hS0 := hSw; (try dsimp only [B2F,B2] at hSw); go_simp; refine Came.value ?_ hS0; with_reducible rfl)
        try simp only [Act.put, List.setIfInBounds_toArray, List.set_cons_zero, List.set_cons_succ]
        refine wpDet_take (i := 4) (oi := _) (v := ?dv18) (by simp only [List.getElem?_toArray, List.getElem?_cons_zero, List.getElem?_cons_succ]; rfl) (by kernel_rfl) (by kernel_rfl) (by kernel_rfl) (Or.inl ⟨by rfl, ?dy18⟩) ?dr18
        case dy18 => (intro w hSw; have hS0 := hSw; (try dsimp only [B2F,B2] at hSw); go_simp; refine Came.value ?_ hS0; with_reducible rfl)
        try simp only [Act.put, List.setIfInBounds_toArray, List.set_cons_zero, List.set_cons_succ]
        refine wpDet_take (i := 5) (oi := _) (v := ?dv19) (by simp only [List.getElem?_toArray, List.getElem?_cons_zero, List.getElem?_cons_succ]; rfl) (by kernel_rfl) (by kernel_rfl) (by kernel_rfl) (Or.inl ⟨by rfl, ?dy19⟩) ?dr19
        case dy19 => (intro w hSw; have hS0 := hSw; (try dsimp only [B2F,B2] at hSw); go_simp; refine Came.value ?_ hS0; with_reducible rfl)
        try simp only [Act.put, List.setIfInBounds_toArray, List.set_cons_zero, List.set_cons_succ]
        refine wpDet_take (i := 6) (oi := _) (v := ?dv20) (by simp only [List.getElem?_toArray, List.getElem?_cons_zero, List.getElem?_cons_succ]; rfl) (by kernel_rfl) (by kernel_rfl) (by kernel_rfl) (Or.inl ⟨by rfl, ?dy20⟩) ?dr20
        case dy20 => (intro w hSw; have hS0 := hSw; (try dsimp only [B2F,B2] at hSw); go_simp; refine Came.value ?_ hS0; with_reducible rfl)
        try simp only [Act.put, List.setIfInBounds_toArray, List.set_cons_zero, List.set_cons_succ]
        refine wpDet_take (i := 7) (oi := _) (v := ?dv21) (by simp only [List.getElem?_toArray, List.getElem?_cons_zero, List.getElem?_cons_succ]; rfl) (by kernel_rfl) (by kernel_rfl) (by kernel_rfl) (Or.inl ⟨by rfl, ?dy21⟩) ?dr21
        case dy21 => (intro w hSw; have hS0 := hSw; (try dsimp only [B2F,B2] at hSw); go_simp; refine Came.value ?_ hS0; with_reducible rfl)
        try simp only [Act.put, List.setIfInBounds_toArray, List.set_cons_zero, List.set_cons_succ]
        refine wpDet_take (i := 8) (oi := _) (v := ?dv22) (by simp only [List.getElem?_toArray, List.getElem?_cons_zero, List.getElem?_cons_succ]; rfl) (by kernel_rfl) (by kernel_rfl) (by kernel_rfl) (Or.inl ⟨by rfl, ?dy22⟩) ?dr22
        case dy22 => (intro w hSw; have hS0 := hSw; (try dsimp only [B2F,B2] at hSw); go_simp; refine Came.value ?_ hS0; with_reducible rfl)
        try simp only [Act.put, List.setIfInBounds_toArray, List.set_cons_zero, List.set_cons_succ]
        refine wpDet_take (i := 9) (oi := _) (v := ?dv23) (by simp only [List.getElem?_toArray, List.getElem?_cons_zero, List.getElem?_cons_succ]; rfl) (by kernel_rfl) (by kernel_rfl) (by kernel_rfl) (Or.inl ⟨by rfl, ?dy23⟩) ?dr23
        case dy23 => (intro w hSw; have hS0 := hSw; (try dsimp only [B2F,B2] at hSw); go_simp; refine Came.value ?_ hS0; with_reducible rfl)
        try simp only [Act.put, List.setIfInBounds_toArray, List.set_cons_zero, List.set_cons_succ]
        refine wpDet_take (i := 10) (oi := _) (v := ?dv24) (by simp only [List.getElem?_toArray, List.getElem?_cons_zero, List.getElem?_cons_succ]; rfl) (by kernel_rfl) (by kernel_rfl) (by kernel_rfl) (Or.inl ⟨by rfl, ?dy24⟩) ?dr24
        case dy24 => (intro w hSw; have hS0 := hSw; (try dsimp only [B2F,B2] at hSw); go_simp; refine Came.value ?_ hS0; with_reducible rfl)
        try simp only [Act.put, List.setIfInBounds_toArray, List.set_cons_zero, List.set_cons_succ]
        refine wpDet_take (i := 11) (oi := _) (v := ?dv25) (by simp only [List.getElem?_toArray, List.getElem?_cons_zero, List.getElem?_cons_succ]; rfl) (by kernel_rfl) (by kernel_rfl) (by kernel_rfl) (Or.inl ⟨by rfl, ?dy25⟩) ?dr25
        case dy25 => (intro w hSw; go_simp; exact Came.call ((LE.out w).mono fun e w' ⟨he, hf⟩ => ⟨he, hSw.fr hf⟩) (by with_reducible rfl))
        try simp only [Act.put, List.setIfInBounds_toArray, List.set_cons_zero, List.set_cons_succ]
        refine wpDet_take (i := 12) (oi := _) (v := ?dv26) (by simp only [List.getElem?_toArray, List.getElem?_cons_zero, List.getElem?_cons_succ]; rfl) (by kernel_rfl) (by kernel_rfl) (by kernel_rfl) (Or.inl ⟨by rfl, ?dy26⟩) ?dr26
        case dy26 => (intro w hSw; have hS0 := hSw; (try dsimp only [B2F,B2] at hSw); go_simp; refine Came.value ?_ hS0; with_reducible rfl)
        try simp only [Act.put, List.setIfInBounds_toArray, List.set_cons_zero, List.set_cons_succ]
        refine wpDet_done (by kernel_rfl) ?_ _
        rintro w1 hF
        have HF1 := Lib.hid hF.1
        clear hF HS LE
        cases g with
        | false =>
          have HL2 : Hid (LeastAt (l.take (k + 1)) j) := Lib.hid (.inr ⟨j, rfl, by rw [HKL.out]; omega, by rw [HU.out]; exact HLE.out⟩)
          clear HLE HU HY
          go_wp2
          go_roundw
          case rel => exact ⟨k + 1, j, by go_num, rfl, Lib.hid (by omega), HL2, HF1⟩
          case measure => simp [intOf]; omega
        | true =>
          have HL2 : Hid (LeastAt (l.take (k + 1)) k) := Lib.hid (.inr ⟨k, rfl, by rw [HKL.out]; omega, by rw [HY.out]; exact HLE.out⟩)
          clear HLE HU HY
          go_wp2
          go_roundw
          case rel => exact ⟨k + 1, k, by go_num, rfl, Lib.hid (by omega), HL2, HF1⟩
          case measure => simp [intOf]; omega
    · obtain rfl : k = l.length := by omega
      have HL2 := HL.out
      rw [List.take_length] at HL2
      have HL2 := Lib.hid HL2
      clear HL r1 LL
      go_wp2
      go_ret
      exact ⟨_, rfl, HL2.out, HF.out⟩
end Go.Proofs.Ytfphihhcclfmnaa
