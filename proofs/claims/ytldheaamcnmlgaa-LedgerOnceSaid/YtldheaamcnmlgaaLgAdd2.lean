/- Adding to entries that rise: what comes of it. Plain: no program. -/
import Derived.Test.YtldheaamcnmlgaaGLj
namespace Go.Proofs.Ytldheaamcnmlgaa
open Go.RowKit Fm

/-- A call of a house. -/
def CallOk (f d : Int) : Prop := (0 ≤ f ∧ f < 64) ∧ (d = 1 ∨ d = -1)
def codeE (e : En) : Int := 2 * e.fl + (e.di + 1) / 2
theorem code_range {e : En} (h : CallOk e.fl e.di) : 0 ≤ codeE e ∧ codeE e < 128 := by unfold CallOk codeE at *; omega
theorem code_less {a b : En} (ha : CallOk a.fl a.di) (hb : CallOk b.fl b.di) (h : Less a b) : codeE a < codeE b := by unfold CallOk codeE Less at *; omega
theorem rise_len : ∀ {l : List Int} {lo hi : Int}, l.Pairwise (· < ·) → (∀ x ∈ l, lo ≤ x ∧ x < hi) → lo ≤ hi → (l.length : Int) ≤ hi - lo
  | [], lo, hi, _, _, h => by simp; omega
  | a :: l, lo, hi, hp, hx, h => by
    have h0 := hx a (by simp)
    have h1 := List.pairwise_cons.1 hp
    have := rise_len (l := l) (lo := a + 1) (hi := hi) h1.2 (fun x hm => ⟨by have := h1.1 x hm; omega, (hx x (by simp [hm])).2⟩) (by omega)
    simp only [List.length_cons]; omega
theorem rise_full : ∀ {l : List Int} {lo hi : Int}, l.Pairwise (· < ·) → (∀ x ∈ l, lo ≤ x ∧ x < hi) → hi - lo ≤ (l.length : Int) → ∀ v, lo ≤ v → v < hi → v ∈ l
  | [], lo, hi, _, _, h, v, h1, h2 => by simp at h; omega
  | a :: l, lo, hi, hp, hx, h, v, h1, h2 => by
    have h0 := hx a (by simp)
    have h3 := List.pairwise_cons.1 hp
    have hl := rise_len (l := l) (lo := a + 1) (hi := hi) h3.2 (fun x hm => ⟨by have := h3.1 x hm; omega, (hx x (by simp [hm])).2⟩) (by omega)
    simp only [List.length_cons] at h
    have ea : a = lo := by omega
    by_cases q : v = a
    · rw [q]; simp
    · have := rise_full (l := l) (lo := a + 1) (hi := hi) h3.2 (fun x hm => ⟨by have := h3.1 x hm; omega, (hx x (by simp [hm])).2⟩) (by omega) v (by omega) h2
      simp [this]
theorem rise_count : ∀ {l : List Int} {lo hi : Int}, l.Pairwise (· < ·) → (∀ x, x ∈ l ↔ lo ≤ x ∧ x < hi) → lo ≤ hi → (l.length : Int) = hi - lo := by
  intro l lo hi hp hx h
  have h1 := rise_len hp (fun x hm => (hx x).1 hm) h
  have key : ∀ {l : List Int} {lo : Int}, l.Pairwise (· < ·) → (∀ x, lo ≤ x → x < hi → x ∈ l) → lo ≤ hi → hi - lo ≤ (l.length : Int) := by
    intro l
    induction l with
    | nil =>
      intro lo _ hx h
      by_cases q : lo < hi
      · exact absurd (hx lo (by omega) q) (by simp)
      · simp; omega
    | cons a l ih =>
      intro lo hp hx h
      have hc := List.pairwise_cons.1 hp
      by_cases q : lo < hi
      · have h2 := ih (lo := lo + 1) hc.2 (fun x hx1 hx2 => by
          have hm := hx x (by omega) hx2
          rcases List.mem_cons.1 hm with rfl | hm
          · have h3 := hx lo (by omega) q
            rcases List.mem_cons.1 h3 with h4 | h4
            · omega
            · have := hc.1 lo h4; omega
          · exact hm) (by omega)
        simp only [List.length_cons]; omega
      · simp only [List.length_cons]; omega
  have h2 := key hp (fun x q1 q2 => (hx x).2 ⟨q1, q2⟩) h
  omega
theorem code_rise {es : List En} (hp : es.Pairwise Less) (hv : ∀ e ∈ es, CallOk e.fl e.di) : (es.map codeE).Pairwise (· < ·) := by
  refine List.pairwise_map.2 ?_
  induction es with
  | nil => exact .nil
  | cons a es ih =>
    have hc := List.pairwise_cons.1 hp
    exact List.pairwise_cons.2 ⟨fun b hb => code_less (hv a (by simp)) (hv b (by simp [hb])) (hc.1 b hb), ih hc.2 (fun e he => hv e (by simp [he]))⟩
theorem code_inj {f d f' d' : Int} (h : CallOk f d) (h' : CallOk f' d') (e : 2 * f + (d + 1) / 2 = 2 * f' + (d' + 1) / 2) : f = f' ∧ d = d' := by unfold CallOk at *; omega
/-- A token that is full holds every call. -/
theorem full_has {es : List En} (hp : es.Pairwise Less) (hv : ∀ e ∈ es, CallOk e.fl e.di) (hl : 128 ≤ es.length) {f d : Int} (hc : CallOk f d) : ∃ e ∈ es, e.fl = f ∧ e.di = d := by
  have hr := code_rise hp hv
  have hx : ∀ x ∈ es.map codeE, (0 : Int) ≤ x ∧ x < 128 := fun x hx => by
    obtain ⟨e, he, rfl⟩ := List.mem_map.1 hx
    exact code_range (hv e he)
  have := rise_full hr hx (by rw [List.length_map]; omega) (2 * f + (d + 1) / 2) (by unfold CallOk at hc; omega) (by unfold CallOk at hc; omega)
  obtain ⟨e, he, h⟩ := List.mem_map.1 this
  exact ⟨e, he, code_inj (hv e he) hc h⟩
/-- Where a call that is not there would stand. -/
theorem split_call {f d : Int} : ∀ {es : List En}, es.Pairwise Less → (¬ ∃ e ∈ es, e.fl = f ∧ e.di = d) → ∃ A B, es = A ++ B ∧ (∀ a ∈ A, a.fl < f ∨ (a.fl = f ∧ a.di < d)) ∧ ∀ b ∈ B, f < b.fl ∨ (f = b.fl ∧ d < b.di)
  | [], _, _ => ⟨[], [], rfl, by simp, by simp⟩
  | e :: es, hp, hn => by
    have hc := List.pairwise_cons.1 hp
    have h0 : ¬ (e.fl = f ∧ e.di = d) := fun q => hn ⟨e, by simp, q⟩
    by_cases q : e.fl < f ∨ (e.fl = f ∧ e.di < d)
    · obtain ⟨A, B, h1, h2, h3⟩ := split_call (f := f) (d := d) hc.2 (fun ⟨x, hx, h⟩ => hn ⟨x, by simp [hx], h⟩)
      refine ⟨e :: A, B, by rw [h1]; rfl, fun a ha => ?_, h3⟩
      rcases List.mem_cons.1 ha with rfl | ha
      · exact q
      · exact h2 a ha
    · refine ⟨[], e :: es, rfl, by simp, fun b hb => ?_⟩
      rcases List.mem_cons.1 hb with rfl | hb
      · omega
      · have := hc.1 b hb
        unfold Less at this; omega
/-- What is added to entries that rise. -/
structure Added (es : List En) (L : List La) (es' : List En) : Prop where
  rise : es'.Pairwise Less
  ok : ∀ e ∈ es', CallOk e.fl e.di
  old : ∀ e ∈ es, e ∈ es'
  all : ∀ x ∈ L, ∃ e ∈ es', e.fl = x.f ∧ e.di = x.d
  src : ∀ e ∈ es', e ∈ es ∨ ∃ x ∈ L, e = newOf x
theorem step_added {es : List En} {x : La} (hp : es.Pairwise Less) (hv : ∀ e ∈ es, CallOk e.fl e.di) (hx : CallOk x.f x.d) : Added es [x] (addStep es x) := by
  by_cases q : ∃ e ∈ es, e.fl = x.f ∧ e.di = x.d
  · rw [step_have q]
    exact ⟨hp, hv, fun e he => he, fun y hy => by obtain rfl := List.mem_singleton.1 hy; exact q, fun e he => .inl he⟩
  · obtain ⟨A, B, rfl, hA, hB⟩ := split_call hp q
    have hl : (A ++ B).length < 128 := by
      rcases Nat.lt_or_ge (A ++ B).length 128 with h | h
      · exact h
      · exact absurd (full_has hp hv h hx) q
    rw [step_new hA hB hl]
    have h1 := List.pairwise_append.1 hp
    refine ⟨List.pairwise_append.2 ⟨h1.1, List.pairwise_cons.2 ⟨fun b hb => hB b hb, h1.2.1⟩, fun a ha b hb => ?_⟩, fun e he => ?_, fun e he => ?_, fun y hy => ?_, fun e he => ?_⟩
    · rcases List.mem_cons.1 hb with rfl | hb
      · exact hA a ha
      · exact h1.2.2 a ha b hb
    · rcases List.mem_append.1 he with q | q
      · exact hv e (by simp [q])
      · rcases List.mem_cons.1 q with rfl | q
        · exact hx
        · exact hv e (by simp [q])
    · rcases List.mem_append.1 he with q | q
      · simp [q]
      · simp [q]
    · obtain rfl := List.mem_singleton.1 hy
      exact ⟨newOf y, by simp, rfl, rfl⟩
    · rcases List.mem_append.1 he with q | q
      · exact .inl (by simp [q])
      · rcases List.mem_cons.1 q with rfl | q
        · exact .inr ⟨x, by simp, rfl⟩
        · exact .inl (by simp [q])
theorem fold_added : ∀ {L : List La} {es : List En}, es.Pairwise Less → (∀ e ∈ es, CallOk e.fl e.di) → (∀ x ∈ L, CallOk x.f x.d) → Added es L (L.foldl addStep es)
  | [], es, hp, hv, _ => ⟨hp, hv, fun e he => he, by simp, fun e he => .inl he⟩
  | x :: L, es, hp, hv, hx => by
    have h1 := step_added hp hv (hx x (by simp))
    have h2 := fold_added (L := L) h1.rise h1.ok (fun y hy => hx y (by simp [hy]))
    rw [List.foldl_cons]
    refine ⟨h2.rise, h2.ok, fun e he => h2.old e (h1.old e he), fun y hy => ?_, fun e he => ?_⟩
    · rcases List.mem_cons.1 hy with rfl | hy
      · obtain ⟨e, he, h⟩ := h1.all y (by simp)
        exact ⟨e, h2.old e he, h⟩
      · exact h2.all y hy
    · rcases h2.src e he with q | ⟨y, hy, q⟩
      · rcases h1.src e q with q2 | ⟨y, hy, q2⟩
        · exact .inl q2
        · obtain rfl := List.mem_singleton.1 hy
          exact .inr ⟨y, by simp, q2⟩
      · exact .inr ⟨y, by simp [hy], q⟩
theorem mem_insL {x y : La} : ∀ {S : List La}, y ∈ insL x S ↔ y = x ∨ y ∈ S
  | [] => by simp [insL]
  | z :: S => by
    unfold insL
    split
    · simp
    · rw [List.mem_cons, mem_insL (S := S), List.mem_cons]
      constructor
      · rintro (h | h | h)
        · exact .inr (.inl h)
        · exact .inl h
        · exact .inr (.inr h)
      · rintro (h | h | h)
        · exact .inr (.inl h)
        · exact .inl h
        · exact .inr (.inr h)
theorem mem_foldL {y : La} : ∀ {L S : List La}, y ∈ L.foldl (fun s x => insL x s) S ↔ y ∈ L ∨ y ∈ S
  | [], S => by simp
  | x :: L, S => by
    rw [List.foldl_cons, mem_foldL, mem_insL, List.mem_cons]
    constructor
    · rintro (h | h | h)
      · exact .inl (.inr h)
      · exact .inl (.inl h)
      · exact .inr h
    · rintro ((h | h) | h)
      · exact .inr (.inl h)
      · exact .inl h
      · exact .inr (.inr h)
theorem mem_sortL {y : La} {L : List La} : y ∈ sortL L ↔ y ∈ L := by unfold sortL; rw [mem_foldL]; simp
theorem addR_added {r : Rg} {L : List La} (hp : r.es.Pairwise Less) (hv : ∀ e ∈ r.es, CallOk e.fl e.di) (hx : ∀ x ∈ L, CallOk x.f x.d) : Added r.es L (addR r L).es := by
  have h := fold_added (L := sortL L) hp hv (fun x hx' => hx x (mem_sortL.1 hx'))
  exact ⟨h.rise, h.ok, h.old, fun x hx' => h.all x (mem_sortL.2 hx'), fun e he => by
    rcases h.src e he with q | ⟨y, hy, q⟩
    · exact .inl q
    · exact .inr ⟨y, mem_sortL.1 hy, q⟩⟩
/-- What is there already is not added. -/
theorem addR_same {r : Rg} {L : List La} (h : ∀ x ∈ L, ∃ e ∈ r.es, e.fl = x.f ∧ e.di = x.d) : addR r L = r := by
  unfold addR
  rw [add_have (fun x hx => h x (mem_sortL.1 hx))]
theorem purgeE_same {es : List En} {L : List La} (h : ∀ e ∈ es, laOf e ∈ L) : purgeE es L = es := by
  unfold purgeE
  exact List.filter_eq_self.2 (fun e he => decide_eq_true (h e he))
theorem added_la {es' : List En} {L : List La} (h : Added [] L es') : ∀ e ∈ es', laOf e ∈ L ∧ e.aw = -1 ∧ e.bs = [] := by
  intro e he
  rcases h.src e he with q | ⟨x, hx, rfl⟩
  · cases q
  · exact ⟨hx, rfl, rfl⟩
end Go.Proofs.Ytldheaamcnmlgaa
