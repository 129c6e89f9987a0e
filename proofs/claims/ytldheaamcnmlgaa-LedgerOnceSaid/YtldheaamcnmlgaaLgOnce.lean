/- Ring by ring: what an entry keeps. Plain: no program. -/
import Derived.Test.YtldheaamcnmlgaaLgAdd2
import Derived.Test.YtldheaamcnmlgaaLgMine
import Derived.Test.YtldheaamcnmlgaaLgWant
namespace Go.Proofs.Ytldheaamcnmlgaa
open Go.RowKit Fm

theorem rise_inj : ∀ {l : List (Int × Int)}, RiseB l → ∀ {x y : Int × Int}, x ∈ l → y ∈ l → x.1 = y.1 → x = y
  | [], _, x, y, hx, _, _ => by cases hx
  | a :: l, h, x, y, hx, hy, e => by
    have hc := List.pairwise_cons.1 h
    rcases List.mem_cons.1 hx with h1 | h1 <;> rcases List.mem_cons.1 hy with h2 | h2
    · rw [h1, h2]
    · have := hc.1 y h2; rw [h1] at e; omega
    · have := hc.1 x h1; rw [h2] at e; omega
    · exact rise_inj hc.2 h1 h2 e
structure OnceR (lit : List La) (ms : List Int) (r : Rg) : Prop where
  mem : r.ms = ms
  rise : r.es.Pairwise Less
  ok : ∀ e ∈ r.es, CallOk e.fl e.di
  la : ∀ e ∈ r.es, laOf e ∈ lit
  full : r.es = [] ∨ ∀ x ∈ lit, ∃ e ∈ r.es, e.fl = x.f ∧ e.di = x.d
  bids : ∀ e ∈ r.es, RiseB e.bs ∧ ∀ b ∈ e.bs, b.1 ∈ ms
theorem once_new (lit : List La) (co fo : Int) (l : List Int) : OnceR lit (setOf l) (newR co fo l) :=
  ⟨rfl, .nil, (fun _ he => nomatch he), (fun _ he => nomatch he), .inl rfl, (fun _ he => nomatch he)⟩
theorem OnceR.few {lit : List La} {ms : List Int} {r : Rg} (h : OnceR lit ms r) (hm : ∀ m ∈ ms, Car m) : ∀ e ∈ r.es, e.bs.length ≤ 16 := by
  intro e he
  obtain ⟨h1, h2⟩ := h.bids e he
  have := rise_len (l := e.bs.map (fun b : Int × Int => b.1)) (lo := 0) (hi := 16) (List.pairwise_map.2 h1) (fun x hx => by
    obtain ⟨b, hb, rfl⟩ := List.mem_map.1 hx
    exact hm _ (h2 b hb)) (by omega)
  rw [List.length_map] at this
  omega
theorem OnceR.len {lit : List La} {ms : List Int} {r : Rg} (h : OnceR lit ms r) : r.es.length ≤ 128 := by
  have := rise_len (lo := 0) (hi := 128) (code_rise h.rise h.ok) (fun x hx => by
    obtain ⟨e, he, rfl⟩ := List.mem_map.1 hx
    exact code_range (h.ok e he)) (by omega)
  rw [List.length_map] at this
  omega
theorem once_next {lit : List La} {ms : List Int} {r : Rg} (h : OnceR lit ms r) (hx : ∀ x ∈ lit, CallOk x.f x.d) : OnceR lit ms (addR (purgeR r lit) lit) ∧ (r.es = [] ∨ addR (purgeR r lit) lit = r) ∧ (addR (purgeR r lit) lit).ho = r.ho := by
  have hp : purgeR r lit = r := by unfold purgeR; rw [purgeE_same h.la]
  rw [hp]
  rcases h.full with q | q
  · refine ⟨?_, .inl q, rfl⟩
    have ha := addR_added h.rise h.ok hx
    rw [q] at ha
    have hl := added_la ha
    exact ⟨h.mem, ha.rise, ha.ok, fun e he => (hl e he).1, .inr ha.all, fun e he => by rw [(hl e he).2.2]; exact ⟨.nil, by intro b hb; cases hb⟩⟩
  · rw [addR_same q]
    exact ⟨h, .inr rfl, rfl⟩
/-- What is awarded stands as it stood. -/
def Kept (r r' : Rg) : Prop := r'.es.length = r.es.length ∧ r'.ho = r.ho ∧ ∀ k, k < r.es.length → 0 ≤ (r.es.getD k zeroE).aw → r'.es.getD k zeroE = r.es.getD k zeroE
theorem Kept.refl (r : Rg) : Kept r r := ⟨rfl, rfl, fun _ _ _ => rfl⟩
theorem Kept.trans {a b c : Rg} (h : Kept a b) (k : Kept b c) : Kept a c :=
  ⟨k.1.trans h.1, k.2.1.trans h.2.1, fun i hi ha => by
    have h1 := h.2.2 i hi ha
    rw [k.2.2 i (by rw [h.1]; exact hi) (by rw [h1]; exact ha), h1]⟩
theorem bids_put {ms : List Int} {l : List (Int × Int)} {b : Int × Int} (h : RiseB l ∧ ∀ x ∈ l, x.1 ∈ ms) (hb : b.1 ∈ ms) : RiseB (putB l b) ∧ ∀ x ∈ putB l b, x.1 ∈ ms := by
  refine ⟨h.1.put b, fun x hx => ?_⟩
  unfold putB at hx
  split at hx
  · exact h.2 x hx
  · rcases mem_insB.1 hx with rfl | hx
    · exact hb
    · exact h.2 x hx
theorem once_bid {lit : List La} {ms : List Int} {r r' : Rg} {car t : Int} {c : Int × Int} {cs : List (Int × Int)} {k : Nat} (h : OnceR lit ms r) (s : WantStep r r' car t c cs k) : OnceR lit ms r' ∧ Kept r r' := by
  obtain ⟨A, B, e, h1, h2, h3, h4⟩ := s.es
  have hcar : car ∈ ms := by rw [← h.mem]; exact s.may.2.2.1
  have haw : e.aw = -1 := by
    unfold wantE at h3
    simp only [Bool.and_eq_true, decide_eq_true_eq] at h3
    exact h3.1
  have hin : ∀ x ∈ r'.es, ∃ y ∈ r.es, laOf x = laOf y ∧ (x.bs = y.bs ∨ x.bs = putB y.bs (car, t)) := by
    intro x hx
    rw [h2] at hx
    rw [h1]
    rcases List.mem_append.1 hx with q | q
    · exact ⟨x, by simp [q], rfl, .inl rfl⟩
    · rcases List.mem_cons.1 q with rfl | q
      · exact ⟨e, by simp, rfl, .inr rfl⟩
      · exact ⟨x, by simp [q], rfl, .inl rfl⟩
  refine ⟨⟨by rw [s.ms, h.mem], s.rise, fun x hx => ?_, fun x hx => ?_, ?_, fun x hx => ?_⟩, s.len, s.head.2.2, fun j hj ha => ?_⟩
  · obtain ⟨y, hy, h5, _⟩ := hin x hx
    simp only [laOf, La.mk.injEq] at h5
    rw [h5.1, h5.2.1]
    exact h.ok y hy
  · obtain ⟨y, hy, h5, _⟩ := hin x hx
    rw [h5]
    exact h.la y hy
  · rcases h.full with q | q
    · rw [h1] at q; simp at q
    · refine .inr fun x hx => ?_
      obtain ⟨y, hy, h5⟩ := q x hx
      rw [h1] at hy
      rw [h2]
      rcases List.mem_append.1 hy with w | w
      · exact ⟨y, by simp [w], h5⟩
      · rcases List.mem_cons.1 w with rfl | w
        · exact ⟨bidE y (car, t), by simp, h5⟩
        · exact ⟨y, by simp [w], h5⟩
  · obtain ⟨y, hy, _, h5⟩ := hin x hx
    rcases h5 with h5 | h5
    · rw [h5]; exact h.bids y hy
    · rw [h5]; exact bids_put (h.bids y hy) hcar
  · by_cases q : j = A.length
    · subst q
      rw [h1, getD_midE] at ha
      omega
    · rw [h1, h2]
      exact getD_other j q
/-- What is told of each that is awarded. -/
structure WonIs (ms : List Int) (e : En) : Prop where
  aw : 0 ≤ e.aw
  len : e.bs.length = ms.length
  least : ∀ o ∈ e.bs, ∀ v ∈ e.bs, v.1 = e.aw → ¬ (o.2 < v.2 ∨ (o.2 = v.2 ∧ o.1 < v.1))
theorem once_award {lit : List La} {ms : List Int} {r : Rg} (h : OnceR lit ms r) (hr : ms.Pairwise (· < ·)) (hm : ∀ m ∈ ms, Car m) : OnceR lit ms (awardR r) ∧ Kept r (awardR r) ∧ ∀ e ∈ wonR r, WonIs ms e := by
  have hin : ∀ x ∈ (awardR r).es, ∃ y ∈ r.es, laOf x = laOf y ∧ x.bs = y.bs := by
    intro x hx
    obtain ⟨y, hy, rfl⟩ := List.mem_map.1 hx
    exact ⟨y, hy, awardE_la r.ms y⟩
  refine ⟨⟨h.mem, ?_, fun x hx => ?_, fun x hx => ?_, ?_, fun x hx => ?_⟩, ⟨award_len r, rfl, fun k hk ha => by rw [award_at r k hk]; exact award_stays ha⟩, fun e he => ?_⟩
  · refine List.pairwise_map.2 (h.rise.imp ?_)
    intro x y hxy
    have h1 := (awardE_la r.ms x).1
    have h2 := (awardE_la r.ms y).1
    simp only [laOf, La.mk.injEq] at h1 h2
    unfold Less at hxy ⊢
    rw [h1.1, h1.2.1, h2.1, h2.2.1]
    exact hxy
  · obtain ⟨y, hy, h5, _⟩ := hin x hx
    simp only [laOf, La.mk.injEq] at h5
    rw [h5.1, h5.2.1]
    exact h.ok y hy
  · obtain ⟨y, hy, h5, _⟩ := hin x hx
    rw [h5]
    exact h.la y hy
  · rcases h.full with q | q
    · left
      unfold awardR
      simp [q]
    · refine .inr fun x hx => ?_
      obtain ⟨y, hy, h5⟩ := q x hx
      refine ⟨awardE r.ms y, List.mem_map_of_mem hy, ?_⟩
      have h1 := (awardE_la r.ms y).1
      simp only [laOf, La.mk.injEq] at h1
      rw [h1.1, h1.2.1]
      exact h5
  · obtain ⟨y, hy, _, h5⟩ := hin x hx
    rw [h5]
    exact h.bids y hy
  · unfold wonR at he
    obtain ⟨y, hy, rfl⟩ := List.mem_map.1 he
    obtain ⟨hy1, hy2⟩ := List.mem_filter.1 hy
    obtain ⟨b1, b2⟩ := h.bids y hy1
    have hw := hy2
    unfold winE at hw
    simp only [Bool.and_eq_true, decide_eq_true_eq, Bool.not_eq_true', List.isEmpty_eq_false_iff] at hw
    obtain ⟨⟨_, hf⟩, hne⟩ := hw
    have hl := leastB_is hne
    have ea : (awardE r.ms y).aw = (leastB y.bs).1 := by unfold awardE; rw [if_pos hy2]
    have eb := (awardE_la r.ms y).2
    have hc := hm _ (b2 _ hl.1)
    unfold Car at hc
    refine ⟨by rw [ea]; exact hc.1, ?_, ?_⟩
    · rw [eb, ← List.length_map (f := fun b : Int × Int => b.1)]
      congr 1
      refine rises_unique (List.pairwise_map.2 b1) hr (fun x => ⟨fun hx => ?_, fun hx => ?_⟩)
      · obtain ⟨b, hb, rfl⟩ := List.mem_map.1 hx
        exact b2 b hb
      · unfold fullB at hf
        have := List.all_eq_true.1 hf x (by rw [h.mem]; exact hx)
        obtain ⟨z, hz⟩ := Option.isSome_iff_exists.1 this
        obtain ⟨z1, z2⟩ := bidOf_car hz
        exact List.mem_map.2 ⟨z, z2, z1⟩
    · rw [eb, ea]
      intro o ho v hv hva
      obtain rfl := rise_inj b1 hv hl.1 hva
      exact (ltB_no _ _).1 (hl.2 o ho)
theorem once_pass {lit : List La} {ms : List Int} {r : Rg} (h : OnceR lit ms r) (hh : r.ho < 1099511627776) : OnceR lit ms (passR r) ∧ passB r = true ∧ (passR r).ho = r.ho + 1 ∧ (passR r).es = r.es := by
  have hn : ¬ (1099511627776 : Int) ≤ r.ho := by omega
  have e : passR r = { r with ho := r.ho + 1 } := by unfold passR; rw [if_neg hn]
  rw [e]
  exact ⟨⟨h.mem, h.rise, h.ok, h.la, h.full, h.bids⟩, by unfold passB; exact decide_eq_true hn, rfl, rfl⟩
end Go.Proofs.Ytldheaamcnmlgaa
