/- What a ring that may be is. Plain: no program. What adding and purging do to entries that rise. Plain: no program. -/
import Derived.Test.YtldheaamcnmlgaaGLc
namespace Go.Proofs.Ytldheaamcnmlgaa
open Go.RowKit Fm

theorem less_trans {a b c : En} (h : Less a b) (k : Less b c) : Less a c := by unfold Less at *; omega
theorem less_irr (a : En) : ¬ Less a a := by unfold Less; omega
structure ValE (ms : List Int) (e : En) : Prop where
  latch : LatchOk e
  aw : e.aw = -1 ∨ e.aw ∈ ms
  few : e.bs.length ≤ ms.length
  bids : BidsOk ms e.bs
  rise : RiseB e.bs
structure ValR (r : Rg) : Prop where
  head : HeadOk r
  m0 : r.ms ≠ []
  m16 : r.ms.length ≤ 16
  cars : ∀ m ∈ r.ms, Car m
  mrise : r.ms.Pairwise (· < ·)
  e128 : r.es.length ≤ 128
  ent : ∀ e ∈ r.es, ValE r.ms e
  rise : r.es.Pairwise Less
theorem rise_pair : ∀ {l : List Int}, Rise l → l.Pairwise (· < ·)
  | [], _ => .nil
  | [a], _ => List.pairwise_singleton _ _
  | a :: b :: l, h => by
    have h1 : a < b := h 0 (by simp)
    have h2 : Rise (b :: l) := fun i hi => by
      have := h (i + 1) (by simp at hi ⊢; omega)
      simpa using this
    have h3 := rise_pair h2
    refine List.pairwise_cons.2 ⟨fun x hx => ?_, h3⟩
    rcases List.mem_cons.1 hx with rfl | hx
    · exact h1
    · have := (List.pairwise_cons.1 h3).1 x hx
      omega
theorem ents_val {ms : List Int} : ∀ {p : Option En} {es : List En}, entsC ms p es = 0 → (∀ e ∈ es, ValE ms e) ∧ es.Pairwise Less ∧ ∀ q, p = some q → ∀ e ∈ es, Less q e
  | _, [], _ => ⟨by simp, .nil, by simp⟩
  | p, e :: es, h => by
    unfold entsC at h
    split at h
    · next h0 =>
      obtain ⟨k1, k2, k3⟩ := ents_val (p := some e) (es := es) h
      unfold entC at h0
      split at h0
      · cases h0
      · next h1 =>
        split at h0
        · cases h0
        · next h2 =>
          have h2 := Classical.not_not.1 h2
          unfold bidsC at h0
          split at h0
          · cases h0
          · next h3 =>
            split at h0
            · cases h0
            · next h4 =>
              split at h0
              · cases h0
              · next h5 =>
                obtain ⟨a1, a2⟩ := Classical.not_not.1 h1
                have hb := List.pairwise_map.1 (rise_pair (Classical.not_not.1 h5))
                refine ⟨?_, List.pairwise_cons.2 ⟨k3 e rfl, k2⟩, ?_⟩
                · intro x hx
                  rcases List.mem_cons.1 hx with rfl | hx
                  · exact ⟨a1, a2, by omega, Classical.not_not.1 h4, hb⟩
                  · exact k1 x hx
                · rintro q rfl x hx
                  rcases List.mem_cons.1 hx with rfl | hx
                  · exact h2
                  · exact less_trans h2 (k3 e rfl x hx)
    · next h0 => exact absurd h h0
theorem ring_val {r : Rg} (h : ringC r = 0) : ValR r := by
  unfold ringC at h
  split at h
  · cases h
  · next h1 =>
    split at h
    · cases h
    · next h2 =>
      split at h
      · next h3 =>
        unfold membC at h3
        split at h3
        · cases h3
        · next h4 =>
          split at h3
          · cases h3
          · next h5 =>
            obtain ⟨k1, k2, _⟩ := ents_val h
            exact ⟨Classical.not_not.1 h1, fun e => h2 (by rw [e]; simp), by omega, Classical.not_not.1 h4, rise_pair (Classical.not_not.1 h5), by omega, k1, k2⟩
      · next h3 => exact absurd h h3
/-- Two entries of a ring with one call are one. -/
theorem pair_inj {es : List En} (h : es.Pairwise Less) {i j : Nat} (hi : i < es.length) (hj : j < es.length) (e : (es.getD i zeroE).fl = (es.getD j zeroE).fl ∧ (es.getD i zeroE).di = (es.getD j zeroE).di) : i = j := by
  have key : ∀ a b, a < b → b < es.length → Less (es.getD a zeroE) (es.getD b zeroE) := fun a b hab hb => by
    have := List.pairwise_iff_getElem.1 h a b (by omega) hb hab
    rwa [List.getD_eq_getElem?_getD, List.getD_eq_getElem?_getD, List.getElem?_eq_getElem (by omega), List.getElem?_eq_getElem hb]
  rcases Nat.lt_trichotomy i j with q | q | q
  · have := key i j q hj
    unfold Less at this; omega
  · exact q
  · have := key j i q hi
    unfold Less at this; omega
theorem less_at {es : List En} (h : es.Pairwise Less) {i j : Nat} (hij : i < j) (hj : j < es.length) : Less (es.getD i zeroE) (es.getD j zeroE) := by
  have := List.pairwise_iff_getElem.1 h i j (by omega) hj hij
  rwa [List.getD_eq_getElem?_getD, List.getD_eq_getElem?_getD, List.getElem?_eq_getElem (by omega), List.getElem?_eq_getElem hj]
end Go.Proofs.Ytldheaamcnmlgaa

namespace Go.Proofs.Ytldheaamcnmlgaa
open Go.RowKit Fm

/-- One call is ahead of another. -/
def LtLa (x y : La) : Prop := x.f < y.f ∨ (x.f = y.f ∧ x.d < y.d)
theorem ltC_is (f d f' d' : Int) : ltC f d f' d' = true ↔ f < f' ∨ (f = f' ∧ d < d') := by
  unfold ltC; simp
theorem ltC_not (f d f' d' : Int) : ltC f d f' d' = false ↔ ¬ (f < f' ∨ (f = f' ∧ d < d')) := by
  rw [← ltC_is]; simp
theorem insL_end (x : La) : ∀ {s : List La}, (∀ y ∈ s, LtLa y x) → insL x s = s ++ [x]
  | [], _ => rfl
  | y :: s, h => by
    have h0 := h y (by simp)
    unfold LtLa at h0
    unfold insL
    rw [if_neg (by rw [ltC_is]; omega), insL_end x (fun z hz => h z (by simp [hz]))]; rfl
theorem sort_more : ∀ {L s : List La}, (s ++ L).Pairwise LtLa → L.foldl (fun s x => insL x s) s = s ++ L
  | [], s, _ => by simp
  | x :: L, s, h => by
    have e : s ++ x :: L = (s ++ [x]) ++ L := by simp
    have h1 : ∀ y ∈ s, LtLa y x := fun y hy => (List.pairwise_append.1 h).2.2 y hy x (by simp)
    rw [List.foldl_cons, insL_end x h1, e]
    exact sort_more (by rw [← e]; exact h)
theorem sort_self {L : List La} (h : L.Pairwise LtLa) : sortL L = L := by
  have := sort_more (s := []) (L := L) (by simpa using h)
  simpa [sortL] using this
theorem placeE_lt {f d : Int} : ∀ {es : List En}, placeE es f d < es.length ↔ ∃ e ∈ es, e.fl = f ∧ e.di = d
  | [] => by simp [placeE]
  | x :: l => by
    by_cases g : x.fl = f ∧ x.di = d
    · refine ⟨fun _ => ⟨x, by simp, g⟩, fun _ => ?_⟩
      unfold placeE
      rw [List.takeWhile_cons, if_neg (by simpa using g)]; simp
    · have e : placeE (x :: l) f d = placeE l f d + 1 := by
        unfold placeE
        rw [List.takeWhile_cons, if_pos (by rw [← Bool.decide_and, decide_eq_false g]; rfl), List.length_cons]
      rw [e, List.length_cons, Nat.add_lt_add_iff_right, placeE_lt (es := l)]
      refine ⟨fun ⟨y, hy, h⟩ => ⟨y, by simp [hy], h⟩, fun ⟨y, hy, h⟩ => ?_⟩
      rcases List.mem_cons.1 hy with rfl | hy
      · exact absurd h g
      · exact ⟨y, hy, h⟩
theorem step_have {es : List En} {x : La} (h : ∃ e ∈ es, e.fl = x.f ∧ e.di = x.d) : addStep es x = es := by
  unfold addStep
  rw [if_pos (.inr (placeE_lt.2 h))]
theorem add_have : ∀ {L : List La} {es : List En}, (∀ x ∈ L, ∃ e ∈ es, e.fl = x.f ∧ e.di = x.d) → L.foldl addStep es = es
  | [], _, _ => rfl
  | x :: L, es, h => by
    rw [List.foldl_cons, step_have (h x (by simp))]
    exact add_have (fun y hy => h y (by simp [hy]))
def newOf (x : La) : En := ⟨x.f, x.d, x.g, [], -1⟩
theorem insE_mid (x : La) : ∀ {A B : List En}, (∀ a ∈ A, ltC a.fl a.di x.f x.d = true) → (∀ b ∈ B, ltC b.fl b.di x.f x.d = false) → insE x (A ++ B) = A ++ newOf x :: B
  | [], [], _, _ => rfl
  | [], b :: B, _, h => by
    show insE x (b :: B) = _
    unfold insE
    rw [if_neg (by rw [h b (by simp)]; decide)]; rfl
  | a :: A, B, h, k => by
    show insE x (a :: (A ++ B)) = _
    unfold insE
    rw [if_pos (h a (by simp)), insE_mid x (fun y hy => h y (by simp [hy])) k]; rfl
theorem step_new {A B : List En} {x : La} (hA : ∀ a ∈ A, a.fl < x.f ∨ (a.fl = x.f ∧ a.di < x.d)) (hB : ∀ b ∈ B, x.f < b.fl ∨ (x.f = b.fl ∧ x.d < b.di)) (hl : (A ++ B).length < 128) : addStep (A ++ B) x = A ++ newOf x :: B := by
  have hn : ¬ (128 ≤ (A ++ B).length ∨ placeE (A ++ B) x.f x.d < (A ++ B).length) := by
    rintro (h | h)
    · omega
    · obtain ⟨e, he, h1, h2⟩ := placeE_lt.1 h
      rcases List.mem_append.1 he with q | q
      · have := hA e q; omega
      · have := hB e q; omega
  unfold addStep
  rw [if_neg hn, insE_mid x (fun a ha => (ltC_is ..).2 (hA a ha)) (fun b hb => (ltC_not ..).2 (by have := hB b hb; omega))]
theorem pair_la {es : List En} (h : es.Pairwise Less) : (es.map laOf).Pairwise LtLa := List.pairwise_map.2 h
/-- What an entry is, its time one more. -/
def upLa (e : En) : La := ⟨e.fl, e.di, e.ge + 1⟩
theorem split_at {es : List En} {k : Nat} (hk : k < es.length) : es = es.take k ++ es.getD k zeroE :: es.drop (k + 1) := by
  have h := (List.take_append_drop k es).symm
  rw [List.drop_eq_getElem_cons hk] at h
  rw [List.getD_eq_getElem?_getD, List.getElem?_eq_getElem hk]
  exact h
section
variable {A B : List En} {e : En} (h : (A ++ e :: B).Pairwise Less)
include h
theorem cut_facts : (∀ a ∈ A, Less a e) ∧ (∀ b ∈ B, Less e b) := by
  have h1 := List.pairwise_append.1 h
  exact ⟨fun a ha => h1.2.2 a ha e (by simp), fun b hb => (List.pairwise_cons.1 h1.2.1).1 b hb⟩
/-- All but one lit: all but it stay. -/
theorem purge_cut : purgeE (A ++ e :: B) ((A ++ B).map laOf) = A ++ B := by
  obtain ⟨hA, hB⟩ := cut_facts h
  have hin : ∀ x ∈ A ++ B, laOf x ∈ (A ++ B).map laOf := fun x hx => List.mem_map_of_mem hx
  have hout : laOf e ∉ (A ++ B).map laOf := by
    intro hm
    obtain ⟨y, hy, he⟩ := List.mem_map.1 hm
    simp only [laOf, La.mk.injEq] at he
    rcases List.mem_append.1 hy with q | q
    · have := hA y q; unfold Less at this; omega
    · have := hB y q; unfold Less at this; omega
  unfold purgeE
  rw [List.filter_append, List.filter_cons, if_neg (by simpa using hout)]
  rw [List.filter_eq_self.2 (fun x hx => decide_eq_true (hin x (by simp [hx]))), List.filter_eq_self.2 (fun x hx => decide_eq_true (hin x (by simp [hx])))]
/-- One lit anew: all but it stay. -/
theorem purge_anew : purgeE (A ++ e :: B) (A.map laOf ++ upLa e :: B.map laOf) = A ++ B := by
  obtain ⟨hA, hB⟩ := cut_facts h
  have hout : laOf e ∉ A.map laOf ++ upLa e :: B.map laOf := by
    intro hm
    rcases List.mem_append.1 hm with q | q
    · obtain ⟨y, hy, he⟩ := List.mem_map.1 q
      simp only [laOf, La.mk.injEq] at he
      have := hA y hy; unfold Less at this; omega
    · rcases List.mem_cons.1 q with q | q
      · simp only [laOf, upLa, La.mk.injEq] at q; omega
      · obtain ⟨y, hy, he⟩ := List.mem_map.1 q
        simp only [laOf, La.mk.injEq] at he
        have := hB y hy; unfold Less at this; omega
  unfold purgeE
  rw [List.filter_append, List.filter_cons, if_neg (by simpa using hout)]
  rw [List.filter_eq_self.2 (fun x hx => decide_eq_true (List.mem_append_left _ (List.mem_map_of_mem hx))), List.filter_eq_self.2 (fun x hx => decide_eq_true (List.mem_append_right _ (List.mem_cons_of_mem _ (List.mem_map_of_mem hx))))]
theorem anew_pair : (A.map laOf ++ upLa e :: B.map laOf).Pairwise LtLa := by
  have h1 := List.pairwise_append.1 h
  have h2 := List.pairwise_cons.1 h1.2.1
  refine List.pairwise_append.2 ⟨pair_la h1.1, List.pairwise_cons.2 ⟨?_, pair_la h2.2⟩, ?_⟩
  · intro x hx
    obtain ⟨y, hy, rfl⟩ := List.mem_map.1 hx
    exact h2.1 y hy
  · intro x hx z hz
    obtain ⟨y, hy, rfl⟩ := List.mem_map.1 hx
    rcases List.mem_cons.1 hz with rfl | hz
    · exact h1.2.2 y hy e (by simp)
    · obtain ⟨u, hu, rfl⟩ := List.mem_map.1 hz
      exact h1.2.2 y hy u (by simp [hu])
/-- And it comes back new. -/
theorem add_anew (hl : (A ++ B).length < 128) : (sortL (A.map laOf ++ upLa e :: B.map laOf)).foldl addStep (A ++ B) = A ++ newOf (upLa e) :: B := by
  obtain ⟨hA, hB⟩ := cut_facts h
  rw [sort_self (anew_pair h), List.foldl_append, List.foldl_cons]
  rw [add_have (L := A.map laOf) (es := A ++ B) (fun x hx => by
    obtain ⟨y, hy, rfl⟩ := List.mem_map.1 hx
    exact ⟨y, by simp [hy], rfl, rfl⟩)]
  rw [step_new (A := A) (B := B) (x := upLa e) hA hB hl]
  exact add_have (fun x hx => by
    obtain ⟨y, hy, rfl⟩ := List.mem_map.1 hx
    exact ⟨y, by simp [hy], rfl, rfl⟩)
end
/-- The places of what stays. -/
theorem getD_split {A B : List En} {e : En} (i : Nat) (_hi : i < (A ++ e :: B).length) (hne : i ≠ A.length) : (A ++ B).getD (if A.length < i then i - 1 else i) zeroE = (A ++ e :: B).getD i zeroE := by
  by_cases q : A.length < i
  · rw [if_pos q]
    simp only [List.getD_eq_getElem?_getD]
    rw [List.getElem?_append_right (by omega), List.getElem?_append_right (by omega), show i - A.length = (i - 1 - A.length) + 1 by omega, List.getElem?_cons_succ]
  · rw [if_neg q]
    simp only [List.getD_eq_getElem?_getD]
    rw [List.getElem?_append_left (by omega), List.getElem?_append_left (by omega)]
theorem getD_other {A B : List En} {e y : En} (i : Nat) (hne : i ≠ A.length) : (A ++ y :: B).getD i zeroE = (A ++ e :: B).getD i zeroE := by
  simp only [List.getD_eq_getElem?_getD]
  by_cases q : A.length < i
  · rw [List.getElem?_append_right (by omega), List.getElem?_append_right (by omega), show i - A.length = (i - A.length - 1) + 1 by omega, List.getElem?_cons_succ, List.getElem?_cons_succ]
  · rw [List.getElem?_append_left (by omega), List.getElem?_append_left (by omega)]
end Go.Proofs.Ytldheaamcnmlgaa
