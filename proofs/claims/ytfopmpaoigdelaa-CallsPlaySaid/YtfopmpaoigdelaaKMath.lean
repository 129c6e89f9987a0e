/- Sets of calls, plainly: lists of latches that rise by their calls. -/
import Derived.Test.YtfopmpaoigdelaaLat
namespace Go.Proofs.Ytfopmpaoigdelaa

/-- The calls' order. -/
def Lt2 (f d f' d' : Int) : Prop := f < f' ∨ (f = f' ∧ d < d')
instance (f d f' d' : Int) : Decidable (Lt2 f d f' d') := inferInstanceAs (Decidable (_ ∨ _))
theorem Lt2.trans {f d f' d' f'' d'' : Int} (h : Lt2 f d f' d') (k : Lt2 f' d' f'' d'') : Lt2 f d f'' d'' := by
  unfold Lt2 at *; omega
theorem Lt2.irrefl {f d : Int} : ¬ Lt2 f d f d := by unfold Lt2; omega
theorem Lt2.tri (f d f' d' : Int) : Lt2 f d f' d' ∨ (f = f' ∧ d = d') ∨ Lt2 f' d' f d := by unfold Lt2; omega
/-- What compare says. -/
def cmp2 (f d f' d' : Int) : Int := if Lt2 f d f' d' then -1 else if f = f' ∧ d = d' then 0 else 1
/-- It is of this call. -/
def La.at (x : La) (f d : Int) : Prop := x.f = f ∧ x.d = d
instance (x : La) (f d : Int) : Decidable (x.at f d) := inferInstanceAs (Decidable (_ ∧ _))
def below (f d : Int) (x : La) : Bool := decide (Lt2 x.f x.d f d)
def above (f d : Int) (x : La) : Bool := decide (Lt2 f d x.f x.d)
def isAt (f d : Int) (x : La) : Bool := decide (x.at f d)
/-- They rise. -/
def Sd (L : List La) : Prop := L.Pairwise fun x y => Lt2 x.f x.d y.f y.d
def posL (L : List La) (f d : Int) : Nat := (L.filter (below f d)).length
def hasL (L : List La) (f d : Int) : Bool := L.any (isAt f d)
def getL (L : List La) (f d : Int) : La := (L.find? (isAt f d)).getD zLa
def putL (L : List La) (x : La) : List La := L.filter (below x.f x.d) ++ x :: L.filter (above x.f x.d)
def delL (L : List La) (f d : Int) : List La := L.filter fun x => !isAt f d x
def keepL (L K : List La) : List La := L.filter fun x => decide (x ∈ K)

theorem Sd.nil : Sd [] := List.Pairwise.nil
theorem Sd.filter {L : List La} (h : Sd L) (p : La → Bool) : Sd (L.filter p) := List.Pairwise.sublist List.filter_sublist h
theorem Sd.del {L : List La} (h : Sd L) (f d : Int) : Sd (delL L f d) := h.filter _
theorem Sd.keep {L : List La} (h : Sd L) (K : List La) : Sd (keepL L K) := h.filter _
theorem Sd.put {L : List La} (h : Sd L) (x : La) : Sd (putL L x) := by
  unfold putL Sd
  rw [List.pairwise_append, List.pairwise_cons]
  refine ⟨h.filter _, ⟨fun y hy => ?_, h.filter _⟩, fun y hy z hz => ?_⟩
  · simpa [above] using (List.mem_filter.1 hy).2
  · have h1 : Lt2 y.f y.d x.f x.d := by simpa [below] using (List.mem_filter.1 hy).2
    rcases List.mem_cons.1 hz with rfl | hz
    · exact h1
    · exact h1.trans (by simpa [above] using (List.mem_filter.1 hz).2)
theorem mem_put {L : List La} {x y : La} : y ∈ putL L x ↔ y = x ∨ (y ∈ L ∧ ¬ y.at x.f x.d) := by
  unfold putL
  rw [List.mem_append, List.mem_cons, List.mem_filter, List.mem_filter]
  simp only [below, above, decide_eq_true_eq]
  constructor
  · rintro (⟨h, k⟩ | h | ⟨h, k⟩)
    · exact .inr ⟨h, fun e => by obtain ⟨e1, e2⟩ := e; rw [e1, e2] at k; exact Lt2.irrefl k⟩
    · exact .inl h
    · exact .inr ⟨h, fun e => by obtain ⟨e1, e2⟩ := e; rw [e1, e2] at k; exact Lt2.irrefl k⟩
  · rintro (h | ⟨h, k⟩)
    · exact .inr (.inl h)
    · rcases Lt2.tri y.f y.d x.f x.d with t | t | t
      · exact .inl ⟨h, t⟩
      · exact absurd t k
      · exact .inr (.inr ⟨h, t⟩)
theorem mem_del {L : List La} {f d : Int} {y : La} : y ∈ delL L f d ↔ y ∈ L ∧ ¬ y.at f d := by simp [delL, isAt]
theorem mem_keep {L K : List La} {y : La} : y ∈ keepL L K ↔ y ∈ L ∧ y ∈ K := by simp [keepL]
theorem has_iff {L : List La} {f d : Int} : hasL L f d = true ↔ ∃ x ∈ L, x.at f d := by simp [hasL, isAt]
theorem has_no {L : List La} {f d : Int} : hasL L f d = false ↔ ∀ x ∈ L, ¬ x.at f d := by simp [hasL, isAt]

/-- Two that rise and have the same are one. -/
theorem sd_unique : ∀ {L M : List La}, Sd L → Sd M → (∀ x, x ∈ L ↔ x ∈ M) → L = M
  | [], [], _, _, _ => rfl
  | [], y :: M, _, _, h => absurd ((h y).2 (by simp)) (by simp)
  | x :: L, [], _, _, h => absurd ((h x).1 (by simp)) (by simp)
  | x :: L, y :: M, hL, hM, h => by
    have h1 := List.pairwise_cons.1 hL
    have h2 := List.pairwise_cons.1 hM
    have e : x = y := by
      rcases List.mem_cons.1 ((h x).1 (by simp)) with e | e
      · exact e
      · rcases List.mem_cons.1 ((h y).2 (by simp)) with k | k
        · exact k.symm
        · exact absurd ((h1.1 _ k).trans (h2.1 _ e)) Lt2.irrefl
    subst e
    have hn : ∀ z ∈ L, z ≠ x := fun z hz k => by subst k; exact Lt2.irrefl (h1.1 _ hz)
    have hm : ∀ z ∈ M, z ≠ x := fun z hz k => by subst k; exact Lt2.irrefl (h2.1 _ hz)
    rw [sd_unique (L := L) (M := M) h1.2 h2.2 fun z => ⟨fun hz => ?_, fun hz => ?_⟩]
    · exact (List.mem_cons.1 ((h z).1 (by simp [hz]))).resolve_left (hn z hz)
    · exact (List.mem_cons.1 ((h z).2 (by simp [hz]))).resolve_left (hm z hz)
/-- One of a call alone. -/
theorem sd_one {L : List La} (h : Sd L) {x y : La} (hx : x ∈ L) (hy : y ∈ L) (he : x.f = y.f ∧ x.d = y.d) : x = y := by
  induction L with
  | nil => simp at hx
  | cons z L ih =>
    have h1 := List.pairwise_cons.1 h
    rcases List.mem_cons.1 hx with e | e
    · rcases List.mem_cons.1 hy with e' | e'
      · rw [e, e']
      · have := h1.1 _ e'; rw [← e, he.1, he.2] at this; exact absurd this Lt2.irrefl
    · rcases List.mem_cons.1 hy with e' | e'
      · have := h1.1 _ e; rw [← e', he.1, he.2] at this; exact absurd this Lt2.irrefl
      · exact ih h1.2 e e'

/-- Where a call's latch stands, or would stand: what is ahead is less, what is from there on is not. -/
structure Cut2 (L A M C : List La) (f d : Int) : Prop where
  all : L = A ++ (M ++ C)
  lt : ∀ x ∈ A, Lt2 x.f x.d f d
  eq : ∀ x ∈ M, x.at f d
  gt : ∀ x ∈ C, Lt2 f d x.f x.d
  one : M.length ≤ 1
theorem Sd.cut {L : List La} (h : Sd L) (f d : Int) : ∃ A M C, Cut2 L A M C f d := by
  induction L with
  | nil => exact ⟨[], [], [], rfl, by simp, by simp, by simp, by simp⟩
  | cons y L ih =>
    have h1 := List.pairwise_cons.1 h
    rcases Lt2.tri y.f y.d f d with t | t | t
    · obtain ⟨A, M, C, k⟩ := ih h1.2
      refine ⟨y :: A, M, C, by rw [k.all]; rfl, fun x hx => ?_, k.eq, k.gt, k.one⟩
      rcases List.mem_cons.1 hx with rfl | hx
      · exact t
      · exact k.lt x hx
    · refine ⟨[], [y], L, rfl, by simp, fun x hx => ?_, fun x hx => ?_, by simp⟩
      · obtain rfl : x = y := by simpa using hx
        exact t
      · have := h1.1 x hx; rwa [t.1, t.2] at this
    · refine ⟨[], [], y :: L, rfl, by simp, by simp, fun x hx => ?_, by simp⟩
      rcases List.mem_cons.1 hx with e | e
      · rw [e]; exact t
      · exact t.trans (h1.1 x e)
section
variable {L A M C : List La} {f d : Int} (k : Cut2 L A M C f d)
include k
theorem Cut2.below_eq : L.filter (below f d) = A := by
  rw [k.all, List.filter_append, List.filter_append, List.filter_eq_self.2 (fun x hx => by simpa [below] using k.lt x hx), List.filter_eq_nil_iff.2 (fun x hx => ?_), List.filter_eq_nil_iff.2 (fun x hx => ?_)]
  · simp
  · have h := k.gt x hx; simp only [below, decide_eq_true_eq]; intro t; exact Lt2.irrefl (h.trans t)
  · obtain ⟨h1, h2⟩ := k.eq x hx; simp only [below, decide_eq_true_eq, h1, h2]; exact Lt2.irrefl
theorem Cut2.above_eq : L.filter (above f d) = C := by
  rw [k.all, List.filter_append, List.filter_append, List.filter_eq_nil_iff.2 (fun x hx => ?_), List.filter_eq_nil_iff.2 (fun x hx => ?_), List.filter_eq_self.2 (fun x hx => by simpa [above] using k.gt x hx)]
  · simp
  · obtain ⟨h1, h2⟩ := k.eq x hx; simp only [above, decide_eq_true_eq, h1, h2]; exact Lt2.irrefl
  · have h := k.lt x hx; simp only [above, decide_eq_true_eq]; intro t; exact Lt2.irrefl (h.trans t)
theorem Cut2.pos : posL L f d = A.length := by unfold posL; rw [k.below_eq]
theorem Cut2.has : hasL L f d = decide (0 < M.length) := by
  cases M with
  | nil =>
    rw [has_no.2]; · rfl
    intro x hx t
    rw [k.all] at hx
    rcases List.mem_append.1 hx with hx | hx
    · have := k.lt x hx; rw [t.1, t.2] at this; exact Lt2.irrefl this
    · have := k.gt x (by simpa using hx); rw [t.1, t.2] at this; exact Lt2.irrefl this
  | cons m M =>
    rw [has_iff.2 ⟨m, by rw [k.all]; simp, k.eq m (by simp)⟩]; simp
theorem Cut2.del : delL L f d = A ++ C := by
  unfold delL
  rw [k.all, List.filter_append, List.filter_append, List.filter_eq_self.2 (fun x hx => ?_), List.filter_eq_nil_iff.2 (fun x hx => ?_), List.filter_eq_self.2 (fun x hx => ?_)]
  · simp
  · have h := k.gt x hx; simp only [isAt, Bool.not_eq_true', decide_eq_false_iff_not]; rintro ⟨h1, h2⟩; rw [h1, h2] at h; exact Lt2.irrefl h
  · simp [isAt, k.eq x hx]
  · have h := k.lt x hx; simp only [isAt, Bool.not_eq_true', decide_eq_false_iff_not]; rintro ⟨h1, h2⟩; rw [h1, h2] at h; exact Lt2.irrefl h
theorem Cut2.put {x : La} (hf : x.f = f) (hd : x.d = d) : putL L x = A ++ x :: C := by
  unfold putL
  rw [hf, hd, k.below_eq, k.above_eq]
end
theorem pos_le (L : List La) (f d : Int) : posL L f d ≤ L.length := List.length_filter_le _ _
theorem Sd.pos_lt {L : List La} (h : Sd L) {f d : Int} (j : Nat) (hj : j < posL L f d) : Lt2 (L.getD j zLa).f (L.getD j zLa).d f d := by
  obtain ⟨A, M, C, k⟩ := h.cut f d
  rw [k.pos] at hj
  have : L.getD j zLa = A[j] := by rw [k.all]; simp [List.getElem?_append_left hj, hj]
  rw [this]
  exact k.lt _ (List.getElem_mem hj)
theorem Sd.pos_ge {L : List La} (h : Sd L) {f d : Int} (j : Nat) (hj : posL L f d ≤ j) (hl : j < L.length) : ¬ Lt2 (L.getD j zLa).f (L.getD j zLa).d f d := by
  obtain ⟨A, M, C, k⟩ := h.cut f d
  rw [k.pos] at hj
  have hm : L.getD j zLa ∈ M ++ C := by
    have hl2 : j - A.length < (M ++ C).length := by rw [k.all, List.length_append] at hl; omega
    have : L.getD j zLa = (M ++ C)[j - A.length] := by
      rw [k.all, List.getD_eq_getElem?_getD, List.getElem?_append_right hj, List.getElem?_eq_getElem hl2]; rfl
    rw [this]; exact List.getElem_mem hl2
  rcases List.mem_append.1 hm with hm | hm
  · obtain ⟨h1, h2⟩ := k.eq _ hm; rw [h1, h2]; exact Lt2.irrefl
  · intro t; exact Lt2.irrefl ((k.gt _ hm).trans t)
/-- A place that parts them so is it. -/
theorem Sd.pos_eq {L : List La} (h : Sd L) {f d : Int} {i : Nat} (hi : i ≤ L.length) (h1 : ∀ j, j < i → Lt2 (L.getD j zLa).f (L.getD j zLa).d f d) (h2 : ∀ j, i ≤ j → j < L.length → ¬ Lt2 (L.getD j zLa).f (L.getD j zLa).d f d) : posL L f d = i := by
  have := pos_le L f d
  rcases Nat.lt_trichotomy (posL L f d) i with t | t | t
  · exact absurd (h1 _ t) (h.pos_ge _ (Nat.le_refl _) (by omega))
  · exact t
  · exact absurd (h.pos_lt _ t) (h2 _ (Nat.le_refl _) (by omega))
/-- At that place it is, or is not. -/
theorem Sd.has_at {L : List La} (h : Sd L) (f d : Int) : hasL L f d = decide (posL L f d < L.length ∧ (L.getD (posL L f d) zLa).at f d) := by
  obtain ⟨A, M, C, k⟩ := h.cut f d
  rw [k.has, k.pos, k.all]
  have e : (A ++ (M ++ C)).getD A.length zLa = (M ++ C).getD 0 zLa := by
    rw [List.getD_eq_getElem?_getD, List.getElem?_append_right (Nat.le_refl _), Nat.sub_self]; simp
  rw [e]
  cases M with
  | nil =>
    symm
    rw [show decide (0 < ([] : List La).length) = false by rfl, decide_eq_false_iff_not]
    rintro ⟨h1, h2⟩
    cases C with
    | nil => simp at h1
    | cons c C =>
      have := k.gt c (by simp)
      simp only [List.nil_append, List.getD_cons_zero] at h2
      rw [h2.1, h2.2] at this
      exact Lt2.irrefl this
  | cons m M =>
    have := k.eq m (by simp)
    simp [this]
theorem Sd.put_no {L : List La} (h : Sd L) (x : La) (hn : hasL L x.f x.d = false) : putL L x = L.take (posL L x.f x.d) ++ x :: L.drop (posL L x.f x.d) := by
  obtain ⟨A, M, C, k⟩ := h.cut x.f x.d
  have hm : M = [] := by
    rw [k.has] at hn
    exact List.eq_nil_of_length_eq_zero (by simp at hn; simp [hn])
  subst hm
  rw [k.put rfl rfl, k.pos, k.all]
  simp
theorem Sd.put_yes {L : List La} (h : Sd L) (x : La) (hn : hasL L x.f x.d = true) : putL L x = L.set (posL L x.f x.d) x ∧ posL L x.f x.d < L.length := by
  obtain ⟨A, M, C, k⟩ := h.cut x.f x.d
  obtain ⟨m, rfl⟩ : ∃ m, M = [m] := by
    rw [k.has] at hn
    have := k.one
    match M, this, hn with
    | [m], _, _ => exact ⟨m, rfl⟩
  rw [k.put rfl rfl, k.pos, k.all]
  simp
theorem Sd.del_yes {L : List La} (h : Sd L) (f d : Int) (hn : hasL L f d = true) : delL L f d = L.eraseIdx (posL L f d) ∧ posL L f d < L.length := by
  obtain ⟨A, M, C, k⟩ := h.cut f d
  obtain ⟨m, rfl⟩ : ∃ m, M = [m] := by
    rw [k.has] at hn
    have := k.one
    match M, this, hn with
    | [m], _, _ => exact ⟨m, rfl⟩
  rw [k.del, k.pos, k.all]
  simp [List.eraseIdx_append_of_length_le]
theorem del_no {L : List La} {f d : Int} (hn : hasL L f d = false) : delL L f d = L := by
  unfold delL
  rw [List.filter_eq_self]
  intro x hx
  simp [isAt, has_no.1 hn x hx]
theorem Sd.get_at {L : List La} (h : Sd L) {f d : Int} (hn : hasL L f d = true) : getL L f d = L.getD (posL L f d) zLa ∧ (getL L f d).at f d ∧ getL L f d ∈ L := by
  have h1 := hn
  rw [h.has_at, decide_eq_true_iff] at h1
  have hm : L.getD (posL L f d) zLa ∈ L := by rw [List.getD_eq_getElem?_getD, List.getElem?_eq_getElem h1.1]; exact List.getElem_mem h1.1
  obtain ⟨y, hy⟩ : ∃ y, L.find? (isAt f d) = some y := by
    cases hq : L.find? (isAt f d) with
    | some y => exact ⟨y, rfl⟩
    | none => exact absurd (by simpa [isAt] using h1.2) ((List.find?_eq_none.1 hq) _ hm)
  have e : getL L f d = y := by unfold getL; rw [hy]; rfl
  have hy1 : y.at f d := by simpa [isAt] using List.find?_some hy
  have hy2 : y ∈ L := List.mem_of_find?_eq_some hy
  rw [e]
  exact ⟨sd_one h hy2 hm ⟨hy1.1.trans h1.2.1.symm, hy1.2.trans h1.2.2.symm⟩, hy1, hy2⟩
theorem get_no {L : List La} {f d : Int} (hn : hasL L f d = false) : getL L f d = zLa := by
  unfold getL
  rw [List.find?_eq_none.2 (fun x hx => by simp [isAt, has_no.1 hn x hx])]
  rfl
theorem put_len {L : List La} (h : Sd L) (x : La) : (putL L x).length = if hasL L x.f x.d then L.length else L.length + 1 := by
  cases hb : hasL L x.f x.d with
  | true => rw [(h.put_yes x hb).1]; simp
  | false => rw [h.put_no x hb]; have := pos_le L x.f x.d; simp; omega
theorem put_le (L : List La) (h : Sd L) (x : La) : (putL L x).length ≤ L.length + 1 := by rw [put_len h]; split <;> omega
theorem del_len {L : List La} (h : Sd L) (f d : Int) : (delL L f d).length = if hasL L f d then L.length - 1 else L.length := by
  cases hb : hasL L f d with
  | true => rw [(h.del_yes f d hb).1, List.length_eraseIdx, if_pos (h.del_yes f d hb).2]; rfl
  | false => rw [del_no hb]; rfl
theorem del_le (L : List La) (f d : Int) : (delL L f d).length ≤ L.length := List.length_filter_le _ _
theorem keep_le (L K : List La) : (keepL L K).length ≤ L.length := List.length_filter_le _ _
end Go.Proofs.Ytfopmpaoigdelaa
