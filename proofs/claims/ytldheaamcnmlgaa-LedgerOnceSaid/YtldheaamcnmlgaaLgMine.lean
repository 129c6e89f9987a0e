/- What is awarded is one member's. Plain: no program. -/
import Derived.Test.YtldheaamcnmlgaaGLj
namespace Go.Proofs.Ytldheaamcnmlgaa
open Go.RowKit Fm

/-- How many of some entries are so. -/
def cntE (p : En → Bool) (es : List En) : Nat := (es.filter p).length
theorem cntE_take (p : En → Bool) (es : List En) (k : Nat) (h : k < es.length) : cntE p (es.take (k + 1)) = cntE p (es.take k) + (if p (es.getD k zeroE) = true then 1 else 0) := by
  have e : es.take (k + 1) = es.take k ++ [es.getD k zeroE] := by rw [List.take_succ_eq_append_getElem h]; simp [h]
  unfold cntE
  rw [e, List.filter_append, List.length_append]
  congr 1
  by_cases q : p (es.getD k zeroE) = true
  · rw [List.filter_cons, if_pos q, if_pos q]; rfl
  · rw [List.filter_cons, if_neg q, if_neg q]; rfl
theorem cntE_all (p : En → Bool) (es : List En) : cntE p (es.take es.length) = cntE p es := by rw [List.take_length]
def hasAw (m : Int) (e : En) : Bool := decide (e.aw = m)
def isAw (e : En) : Bool := decide (0 ≤ e.aw)
theorem mine_len (r : Rg) {m : Int} (h : 0 ≤ m) : (mineR r m).length = cntE (hasAw m) r.es := by
  unfold mineR cntE hasAw
  rw [if_pos h, List.length_map]
/-- How many are whose, over some members. -/
def sumM (es : List En) (ms : List Int) : Nat := (ms.map fun m => cntE (hasAw m) es).sum
theorem sumM_take (es : List En) (ms : List Int) (k : Nat) (h : k < ms.length) : sumM es (ms.take (k + 1)) = sumM es (ms.take k) + cntE (hasAw (ms.getD k 0)) es := by
  have e : ms.take (k + 1) = ms.take k ++ [ms.getD k 0] := by rw [List.take_succ_eq_append_getElem h]; simp [h]
  unfold sumM
  rw [e, List.map_append, List.sum_append]; simp
theorem one_of_all : ∀ {ms : List Int} {a : Int}, ms.Pairwise (· < ·) → (ms.map fun m => if decide (a = m) = true then 1 else 0).sum = if a ∈ ms then 1 else 0
  | [], a, _ => by simp
  | m :: ms, a, h => by
    have h1 := List.pairwise_cons.1 h
    rw [List.map_cons, List.sum_cons, one_of_all h1.2]
    by_cases q : a = m
    · subst q
      rw [if_pos (by simp), if_neg (fun hm => by have := h1.1 a hm; omega), if_pos (by simp)]
    · by_cases q2 : a ∈ ms
      · rw [if_neg (by simpa using q), if_pos q2, if_pos (by simp [q2])]
      · rw [if_neg (by simpa using q), if_neg q2, if_neg (by simp [q, q2])]
theorem sum_add (f g : Int → Nat) : ∀ ms : List Int, (ms.map fun m => f m + g m).sum = (ms.map f).sum + (ms.map g).sum
  | [] => rfl
  | m :: ms => by simp only [List.map_cons, List.sum_cons, sum_add f g ms]; omega
/-- All that is awarded is some member's, just one's. -/
theorem sum_is {ms : List Int} (hr : ms.Pairwise (· < ·)) (hc : ∀ m ∈ ms, Car m) : ∀ {es : List En}, (∀ e ∈ es, e.aw = -1 ∨ e.aw ∈ ms) → sumM es ms = cntE isAw es
  | [], _ => by
    have z : ∀ ms : List Int, sumM [] ms = 0 := fun ms => by
      induction ms with
      | nil => rfl
      | cons m ms ih =>
        unfold sumM at ih ⊢
        rw [List.map_cons, List.sum_cons, ih]; rfl
    rw [z]; rfl
  | e :: es, h => by
    have ih := sum_is hr hc (es := es) (fun x hx => h x (by simp [hx]))
    have e1 : ∀ (p : En → Bool), cntE p (e :: es) = (if p e = true then 1 else 0) + cntE p es := fun p => by
      unfold cntE
      rw [List.filter_cons]
      split <;> simp <;> omega
    unfold sumM at ih ⊢
    have e2 : (ms.map fun m => cntE (hasAw m) (e :: es)) = ms.map fun m => (if decide (e.aw = m) = true then 1 else 0) + cntE (hasAw m) es := List.map_congr_left fun m _ => e1 (hasAw m)
    rw [e2, sum_add, one_of_all hr, ih, e1 isAw]
    congr 1
    unfold isAw
    rcases h e (by simp) with q | q
    · rw [if_neg (fun hm => by have := hc _ hm; unfold Car at this; omega), if_neg (by rw [q]; decide)]
    · rw [if_pos q, if_pos (by have := hc _ q; unfold Car at this; exact decide_eq_true this.1)]
theorem awardE_la (ms : List Int) (e : En) : laOf (awardE ms e) = laOf e ∧ (awardE ms e).bs = e.bs := by
  unfold awardE; split <;> exact ⟨rfl, rfl⟩
theorem win_facts {ms : List Int} {e : En} (h : winE ms e = true) (hv : ValE ms e) : e.aw = -1 ∧ e.bs ≠ [] ∧ (leastB e.bs).1 ∈ ms ∧ LeastB e.bs (leastB e.bs) := by
  unfold winE at h
  simp only [Bool.and_eq_true, decide_eq_true_eq, Bool.not_eq_true', List.isEmpty_eq_false_iff] at h
  have hl := leastB_is h.2
  exact ⟨h.1.1, h.2, (hv.bids _ hl.1).1, hl⟩
theorem award_aw {ms : List Int} {e : En} (hv : ValE ms e) : (awardE ms e).aw = -1 ∨ (awardE ms e).aw ∈ ms := by
  unfold awardE
  by_cases q : winE ms e = true
  · rw [if_pos q]; exact .inr (win_facts q hv).2.2.1
  · rw [if_neg q]; exact hv.aw
theorem award_stays {ms : List Int} {e : En} (h : 0 ≤ e.aw) : awardE ms e = e := by
  unfold awardE
  rw [if_neg]
  intro q
  unfold winE at q
  simp only [Bool.and_eq_true, decide_eq_true_eq] at q
  omega
theorem no_more {ms : List Int} {e : En} (hv : ValE ms e) (hc : ∀ m ∈ ms, Car m) : winE ms (awardE ms e) = false := by
  by_cases q : winE ms e = true
  · have h := (win_facts q hv).2.2.1
    have := hc _ h
    unfold Car at this
    unfold awardE
    rw [if_pos q]
    unfold winE
    rw [decide_eq_false (by show ¬ (leastB e.bs).1 = -1; omega)]; rfl
  · unfold awardE
    rw [if_neg q]
    simpa using q
theorem award_len (r : Rg) : (awardR r).es.length = r.es.length := by simp [awardR]
theorem award_at (r : Rg) (i : Nat) (h : i < r.es.length) : (awardR r).es.getD i zeroE = awardE r.ms (r.es.getD i zeroE) := by
  simp only [awardR, List.getD_eq_getElem?_getD, List.getElem?_map, List.getElem?_eq_getElem h]; rfl
theorem award_all {r : Rg} (h : ValR r) : ∀ e ∈ (awardR r).es, e.aw = -1 ∨ e.aw ∈ r.ms := by
  intro e he
  obtain ⟨x, hx, rfl⟩ := List.mem_map.1 he
  exact award_aw (h.ent x hx)
theorem again_none {r : Rg} (h : ValR r) : wonR (awardR r) = [] := by
  unfold wonR
  rw [List.filter_eq_nil_iff.2, List.map_nil]
  intro e he
  obtain ⟨x, hx, rfl⟩ := List.mem_map.1 he
  have := no_more (h.ent x hx) h.cars
  show ¬ winE r.ms _ = true
  rw [this]; decide
theorem won_cnt {r : Rg} (h : ValR r) : cntE isAw (awardR r).es = cntE isAw r.es + (wonR r).length := by
  have key : ∀ es : List En, (∀ e ∈ es, ValE r.ms e) → cntE isAw (es.map (awardE r.ms)) = cntE isAw es + (es.filter (winE r.ms)).length := by
    intro es
    induction es with
    | nil => intro _; rfl
    | cons e es ih =>
      intro hv
      have ih := ih (fun x hx => hv x (by simp [hx]))
      have h0 := hv e (by simp)
      unfold cntE at ih ⊢
      rw [List.map_cons, List.filter_cons, List.filter_cons, List.filter_cons]
      by_cases q : winE r.ms e = true
      · obtain ⟨w1, _, w3, _⟩ := win_facts q h0
        have w4 := h.cars _ w3
        unfold Car at w4
        have a1 : isAw (awardE r.ms e) = true := by unfold isAw awardE; rw [if_pos q]; exact decide_eq_true w4.1
        have a2 : ¬ isAw e = true := by unfold isAw; rw [w1]; decide
        rw [if_pos a1, if_neg a2, if_pos q, List.length_cons, List.length_cons, ih]; omega
      · have a0 : awardE r.ms e = e := by unfold awardE; rw [if_neg q]
        rw [a0, if_neg q]
        split
        · rw [List.length_cons, List.length_cons, ih]; omega
        · exact ih
  have := key r.es h.ent
  unfold wonR
  rw [List.length_map]
  exact this
/-- What is one member's is no other's. -/
theorem mine_apart {r : Rg} (h : ValR r) {m m' : Int} (hm : 0 ≤ m) (hm' : 0 ≤ m') (hne : m ≠ m') {l : La} (hl : l ∈ mineR (awardR r) m) : l ∉ mineR (awardR r) m' := by
  unfold mineR at *
  rw [if_pos hm] at hl
  rw [if_pos hm']
  intro hk
  obtain ⟨a, ha, rfl⟩ := List.mem_map.1 hl
  obtain ⟨b, hb, he⟩ := List.mem_map.1 hk
  obtain ⟨ha1, ha2⟩ := List.mem_filter.1 ha
  obtain ⟨hb1, hb2⟩ := List.mem_filter.1 hb
  simp only [laOf, La.mk.injEq] at he
  obtain ⟨i, hi, rfl⟩ := List.mem_iff_getElem.1 ha1
  obtain ⟨j, hj, rfl⟩ := List.mem_iff_getElem.1 hb1
  have hp : (awardR r).es.Pairwise Less := by
    refine List.pairwise_map.2 (h.rise.imp ?_)
    intro x y hxy
    have h1 := (awardE_la r.ms x).1
    have h2 := (awardE_la r.ms y).1
    simp only [laOf, La.mk.injEq] at h1 h2
    unfold Less at hxy ⊢
    rw [h1.1, h1.2.1, h2.1, h2.2.1]
    exact hxy
  have : j = i := pair_inj hp hj hi (by
    rw [List.getD_eq_getElem?_getD, List.getD_eq_getElem?_getD, List.getElem?_eq_getElem hi, List.getElem?_eq_getElem hj]
    exact ⟨he.1, he.2.1⟩)
  subst this
  simp only [decide_eq_true_eq] at ha2 hb2
  omega
theorem mine_none {r : Rg} (h : ValR r) : mineR (awardR r) (-1) = [] ∧ mineR (awardR r) 99 = [] := by
  refine ⟨by unfold mineR; rw [if_neg (by omega)], ?_⟩
  unfold mineR
  rw [if_pos (by omega), List.filter_eq_nil_iff.2, List.map_nil]
  intro e he
  rcases award_all h e he with q | q
  · simp [q]
  · have := h.cars _ q
    unfold Car at this
    simp; omega
end Go.Proofs.Ytldheaamcnmlgaa
