/- A region that draws its order, some of whose operations make memory whenever they like (their values tell where: not one value): those with one value and those that make are walked in one order, the rest (from number t on) behind them. Those of F are told by their operands alone: the rest need not wait for them. -/
import Derived.Test.YtfphihhcclfmnaaDetT
namespace Go.Proofs.Ytfphihhcclfmnaa
open Go.RowKit

section
variable {P : Program} {ops : Array Oper} {Q : Exit → Act → World → Prop} {md : Region.Mode}

/-- It lasts, whatever memory is made. -/
def Lasts (M : World → Prop) : Prop := ∀ a a', M a → Fr a a' [] → M a'
theorem Lasts.row {M : World → Prop} (h : Lasts M) (b p : Nat) (o : Obj) : Lasts (fun w => M w ∧ b ≤ p ∧ w.heap[p]? = some o) :=
  fun _ _ k f => ⟨h _ _ k.1 f, k.2.1, f.heap k.2.2 (by simp)⟩
/-- In state a operation o makes a block that holds obj, and tells where. -/
def NewOp (P : Program) (ops : Array Oper) (o : Oper) (f : Nat → Value) (obj : Obj) (a : Act) : Prop :=
  Region.wanted o (yielded ops a.tmps) = true ∧ ∀ w, (execOp a.eval o).run P w = .ok (.value (f w.heap.size)) (w.alloc obj)
theorem NewOp.of_same {o : Oper} {f : Nat → Value} {obj : Obj} {a a' : Act} (hy : NewOp P ops o f obj a) (he : execOp a'.eval o = execOp a.eval o)
    (hw : Region.wanted o (yielded ops a'.tmps) = Region.wanted o (yielded ops a.tmps)) : NewOp P ops o f obj a' := by
  unfold NewOp at *
  rw [he, hw]
  exact hy
theorem NewOp.wpOp {i : Nat} {o : Oper} {f : Nat → Value} {obj : Obj} {a : Act} (hi : ops[i]? = some o) (hy : NewOp P ops o f obj a)
    {K : Act → World → Prop} {w : World} (h : K (a.put o.dst (f w.heap.size)) (w.alloc obj)) : wpOp P ops Q i K a w := by
  unfold Go.wpOp
  simp only [hi, hy.1, if_true]
  refine .inl ?_
  unfold Oper.wp
  rw [hy.2 w]
  exact h

/-- The numbers of a list, a bit a number. -/
def bitsM : List Nat → Nat
  | [] => 0
  | i :: l => bitsM l ||| 2 ^ i
theorem bitsM_spec {l : List Nat} {i : Nat} (h : (bitsM l).testBit i = true) : i ∈ l := by
  induction l with
  | nil => simp [bitsM] at h
  | cons j l ih =>
    rw [bitsM, Nat.testBit_or, Bool.or_eq_true] at h
    rcases h with h | h
    · exact List.mem_cons_of_mem _ (ih h)
    · rw [Nat.testBit_two_pow] at h
      rw [of_decide_eq_true h]; exact List.mem_cons_self ..
/-- Every operation from number t on waits for all ahead of t but those of F. -/
def tailOF (md : Region.Mode) (ops : Array Oper) (t : Nat) (F : List Nat) : Bool :=
  (List.range ops.size).all fun k => decide (k < t) || ((reachM md ops k (waitsM md ops k) ||| bitsM F) &&& (2 ^ t - 1)) == 2 ^ t - 1
theorem tail_waitsF {t : Nat} {F : List Nat} (ht : tailOF md ops t F = true) {listed : Array Bool} (hc : allIn md ops listed) {k : Nat} (hk : k ∈ Region.ready md ops listed) (htk : t ≤ k) : ∀ i < t, i ∉ F → listed.getD i false = true := by
  obtain ⟨_, o, ho, hall⟩ := mem_ready.1 hk
  have hlt : k < ops.size := (Array.getElem?_eq_some_iff.1 ho).1
  have h := List.all_eq_true.1 ht k (List.mem_range.2 hlt)
  rw [decide_eq_false (by omega), Bool.false_or, beq_iff_eq] at h
  intro i hi hF
  refine reach_in hc k _ (waits_in ho hall) i ?_
  have := congrArg (fun m => m.testBit i) h
  simp only [Nat.testBit_and, Nat.testBit_or, Nat.testBit_two_pow_sub_one, decide_eq_true hi, Bool.and_true, Bool.or_eq_true] at this
  exact this.resolve_right (fun q => hF (bitsM_spec q))

/-- Whatever order is picked from here on; M: what is known of the memory. -/
def wpMix (P : Program) (md : Region.Mode) (ops : Array Oper) (Q : Exit → Act → World → Prop) (nw : Nat → Option ((Nat → Value) × Obj)) (F : List Nat) (b t : Nat) : Nat → Array Bool → Act → (World → Prop) → Prop
  | 0, _, _, _ => False
  | fuel + 1, listed, a, M =>
    ((∀ i ∈ Region.ready md ops listed, t ≤ i ∨ (i ∈ F ∧ i < t ∧ ∃ o v, ops[i]? = some o ∧ Yields P ops o v a ∧ wpMix P md ops Q nw F b t fuel (listed.setIfInBounds i true) (a.put o.dst v) M)) ∧ ∀ w, M w → wpAny P md ops Q (fuel + 1) listed a w) ∨
    (Region.ready md ops listed ≠ [] ∧ ∀ i ∈ Region.ready md ops listed, i < t ∧ ∃ o, ops[i]? = some o ∧
      ((nw i = none ∧ ∃ v, EndsIf P ops M o v a ∧ wpMix P md ops Q nw F b t fuel (listed.setIfInBounds i true) (a.put o.dst v) M) ∨
       (∃ f obj, nw i = some (f, obj) ∧ NewOp P ops o f obj a ∧ ∀ p, wpMix P md ops Q nw F b t fuel (listed.setIfInBounds i true) (a.put o.dst (f p)) (fun w => M w ∧ b ≤ p ∧ w.heap[p]? = some obj))))
variable {nw : Nat → Option ((Nat → Value) × Obj)} {F : List Nat} {b t : Nat}
theorem ends_of_yields {M : World → Prop} {o : Oper} {v : Value} {a : Act} (h : Yields P ops o v a) : EndsIf P ops M o v a := by
  rcases h with ⟨hw, h⟩ | h
  · exact .inl ⟨hw, fun w hM => by rw [h w]; exact ⟨rfl, hM⟩⟩
  · exact .inr h
/-- Those of F make no memory. -/
def calm (nw : Nat → Option ((Nat → Value) × Obj)) (F : List Nat) : Bool := F.all fun i => (nw i).isNone
theorem calm_spec (h : calm nw F = true) {i : Nat} (hi : i ∈ F) : nw i = none := by
  have := List.all_eq_true.1 h i hi
  cases e : nw i with
  | none => rfl
  | some x => rw [e] at this; cases this

theorem wpAny_of_mix : ∀ (fuel : Nat) (listed : Array Bool) (a : Act) (M : World → Prop), wpMix P md ops Q nw F b t fuel listed a M → Lasts M → (∀ w, M w → b ≤ w.heap.size) → ∀ w, M w → wpAny P md ops Q fuel listed a w
  | 0, _, _, _, h, _, _, _, _ => h.elim
  | fuel + 1, listed, a, M, h, hl, hb, w, hM => by
    rcases h with ⟨_, h2⟩ | ⟨h1, h2⟩
    · exact h2 w hM
    · refine ⟨fun h0 => absurd h0 h1, fun i hi => ?_⟩
      obtain ⟨_, o, ho, ⟨_, v, hy, h'⟩ | ⟨f, obj, _, hy, h'⟩⟩ := h2 i hi
      · exact hy.wpOp ho hM (fun w' hS' => wpAny_of_mix fuel _ _ M h' hl hb w' hS')
      · exact hy.wpOp ho (wpAny_of_mix fuel _ _ _ (h' w.heap.size) (hl.row b _ _) (fun w' k => hb w' k.1) _ ⟨hl _ _ hM (Fr.alloc w obj []), hb w hM, heap_alloc_new w obj⟩)

theorem not_listed {listed : Array Bool} {i : Nat} (hr : i ∈ Region.ready md ops listed) (h : listed.getD i false = true) : False := by
  have h0 := (mem_ready.1 hr).1
  rcases Nat.lt_or_ge i listed.size with h' | h'
  · simp [h'] at h0 h; rw [h0] at h; cases h
  · simp [Array.getElem?_eq_none h'] at h

theorem wpMix_first {i : Nat} {oi : Oper} {v : Value} (hit : i < t) (hiF : i ∉ F) (hcalm : calm nw F = true) (ht : tailOF md ops t F = true) (hi : ops[i]? = some oi) (hnw : nw i = none) (hsel : ∀ (j : Nat) (o : Oper) cs b, ops[j]? = some o → o.op ≠ .select cs b) :
    ∀ (fuel : Nat) (listed : Array Bool) (a : Act) (M : World → Prop), allIn md ops listed → Lasts M →
      (∀ j oj, ops[j]? = some oj → j ≠ i → listed.getD j true = false → (∀ e ∈ oj.after, Region.binds md e = true → e.on ≠ i) → oi.apart ops oj = true) →
      i ∈ Region.ready md ops listed → (∀ M', Lasts M' → (∀ w, M' w → M w) → EndsIf P ops M' oi v a) →
      wpMix P md ops Q nw F b t fuel (listed.setIfInBounds i true) (a.put oi.dst v) M → wpMix P md ops Q nw F b t (fuel + 1) listed a M := by
  intro fuel
  induction fuel with
  | zero => intro listed a M _ _ _ _ _ H; exact H.elim
  | succ fuel ih =>
    intro listed a M hc hl hfree hr hy H
    have hkt : ∀ k ∈ Region.ready md ops listed, k < t := fun k hk => Nat.lt_of_not_le fun htk => not_listed hr (tail_waitsF ht hc hk htk i hit hiF)
    refine Or.inr ⟨fun h => (by rw [h] at hr; cases hr), fun k hk => ⟨hkt k hk, ?_⟩⟩
    by_cases hki : k = i
    · subst hki; exact ⟨oi, hi, .inl ⟨hnw, v, hy M hl (fun _ h => h), H⟩⟩
    · have Hk : ∃ oj, ops[k]? = some oj ∧
          ((nw k = none ∧ ∃ u, EndsIf P ops M oj u (a.put oi.dst v) ∧ wpMix P md ops Q nw F b t fuel ((listed.setIfInBounds i true).setIfInBounds k true) ((a.put oi.dst v).put oj.dst u) M) ∨
           (∃ f obj, nw k = some (f, obj) ∧ NewOp P ops oj f obj (a.put oi.dst v) ∧ ∀ p, wpMix P md ops Q nw F b t fuel ((listed.setIfInBounds i true).setIfInBounds k true) ((a.put oi.dst v).put oj.dst (f p)) (fun w => M w ∧ b ≤ p ∧ w.heap[p]? = some obj))) := by
        rcases H with ⟨h1, _⟩ | ⟨_, H⟩
        · rcases h1 k (ready_mono hk hki) with h1 | ⟨hF, _, oj, u, hoj, hyj, H'⟩
          · exact absurd (hkt k hk) (Nat.not_lt_of_le h1)
          · exact ⟨oj, hoj, .inl ⟨calm_spec hcalm hF, u, ends_of_yields hyj, H'⟩⟩
        · exact (H k (ready_mono hk hki)).2
      · obtain ⟨oj, hoj, Hj⟩ := Hk
        obtain ⟨hjun, oj', hoj', hall⟩ := mem_ready.1 hk
        obtain rfl := Option.some.inj (hoj.symm.trans hoj')
        have hnot : ∀ e ∈ oj.after, Region.binds md e = true → e.on ≠ i := fun e he hb heq => by
          have h1 := hall e he hb
          rw [heq] at h1
          exact not_listed hr h1
        obtain ⟨h1, h2, h3⟩ := Oper.apart_spec (hfree k oj hoj hki hjun hnot)
        have hfree' : ∀ m ok, ops[m]? = some ok → m ≠ i → (listed.setIfInBounds k true).getD m true = false →
            (∀ e ∈ ok.after, Region.binds md e = true → e.on ≠ i) → oi.apart ops ok = true := fun m ok hm hmi hun hno => by
          refine hfree m ok hm hmi ?_ hno
          by_cases hkm : k = m
          · subst hkm; exact hjun
          · rw [getD_set_ne true hkm] at hun; exact hun
        refine ⟨oj, hoj, ?_⟩
        rcases Hj with ⟨hn, u, hyj, H'⟩ | ⟨f, obj, hn, hyj, H'⟩
        · refine .inl ⟨hn, u, hyj.of_same (execOp_put oj (fun cs b => hsel k oj cs b hoj) a oi.dst v h1).symm (wanted_put oj a oi.dst v h1).symm, ?_⟩
          refine ih (listed.setIfInBounds k true) (a.put oj.dst u) M (allIn_set hc hk) hl hfree' (ready_mono hr (Ne.symm hki)) (fun M' hl' hm => (hy M' hl' hm).of_same (execOp_put oi (fun cs b => hsel i oi cs b hi) a oj.dst u h3) (wanted_put oi a oj.dst u h3)) ?_
          rw [Array.setIfInBounds_comm _ _ hki, ← Act.put_comm a v u h2]
          exact H'
        · refine .inr ⟨f, obj, hn, hyj.of_same (execOp_put oj (fun cs b => hsel k oj cs b hoj) a oi.dst v h1).symm (wanted_put oj a oi.dst v h1).symm, fun p => ?_⟩
          refine ih (listed.setIfInBounds k true) (a.put oj.dst (f p)) _ (allIn_set hc hk) (hl.row b p obj) hfree' (ready_mono hr (Ne.symm hki)) (fun M' hl' hm => (hy M' hl' (fun w h => (hm w h).1)).of_same (execOp_put oi (fun cs b => hsel i oi cs b hi) a oj.dst (f p) h3) (wanted_put oi a oj.dst (f p) h3)) ?_
          rw [Array.setIfInBounds_comm _ _ hki, ← Act.put_comm a v (f p) h2]
          exact H' p

/-- Nobody ahead of t waits for one of L. -/
def inert (md : Region.Mode) (ops : Array Oper) (t : Nat) (L : List Nat) : Bool :=
  (List.range ops.size).all fun k => decide (t ≤ k) || match ops[k]? with
    | some o => o.after.toList.all fun e => !(Region.binds md e) || !(L.contains e.on)
    | none => true
theorem inert_spec {L : List Nat} (h : inert md ops t L = true) {k : Nat} {o : Oper} (hk : k < t) (ho : ops[k]? = some o) {e} (he : e ∈ o.after) (hb : Region.binds md e = true) : e.on ∉ L := by
  have h1 := List.all_eq_true.1 h k (List.mem_range.2 (Array.getElem?_eq_some_iff.1 ho).1)
  rw [decide_eq_false (by omega), Bool.false_or, ho] at h1
  have h2 := List.all_eq_true.1 h1 e (by simpa using he)
  rw [hb] at h2
  intro hm
  rw [show L.contains e.on = true from by simpa using hm] at h2
  simp at h2
theorem wpMix_new {i : Nat} {oi : Oper} {f : Nat → Value} {obj : Obj} {L : List Nat} (hit : i < t) (hiF : i ∉ F) (hcalm : calm nw F = true) (ht : tailOF md ops t F = true) (hi : ops[i]? = some oi) (hnw : nw i = some (f, obj)) (hsel : ∀ (j : Nat) (o : Oper) cs b, ops[j]? = some o → o.op ≠ .select cs b)
    (hL : ∀ k ∈ L, nw k ≠ none) (hin : inert md ops t L = true) :
    ∀ (fuel : Nat) (listed : Array Bool) (a : Act) (M : World → Prop), allIn md ops listed →
      (∀ j oj, ops[j]? = some oj → j ≠ i → listed.getD j true = false → (∀ e ∈ oj.after, Region.binds md e = true → e.on ≠ i) → oi.apart ops oj = true) →
      i ∈ Region.ready md ops listed → (∀ k ∈ Region.ready md ops listed, k = i ∨ k ∈ L) → NewOp P ops oi f obj a →
      (∀ p, wpMix P md ops Q nw F b t fuel (listed.setIfInBounds i true) (a.put oi.dst (f p)) (fun w => M w ∧ b ≤ p ∧ w.heap[p]? = some obj)) → wpMix P md ops Q nw F b t (fuel + 1) listed a M := by
  intro fuel
  induction fuel with
  | zero => intro listed a M _ _ _ _ _ H; exact (H 0).elim
  | succ fuel ih =>
    intro listed a M hc hfree hr hall hy H
    have hkt : ∀ k ∈ Region.ready md ops listed, k < t := fun k hk => Nat.lt_of_not_le fun htk => not_listed hr (tail_waitsF ht hc hk htk i hit hiF)
    refine Or.inr ⟨fun h => (by rw [h] at hr; cases hr), fun k hk => ⟨hkt k hk, ?_⟩⟩
    by_cases hki : k = i
    · subst hki; exact ⟨oi, hi, .inr ⟨f, obj, hnw, hy, H⟩⟩
    · have hkL := (hall k hk).resolve_left hki
      have get : ∀ p, ∃ oj, ops[k]? = some oj ∧ ∃ f' obj', nw k = some (f', obj') ∧ NewOp P ops oj f' obj' (a.put oi.dst (f p)) ∧ ∀ p', wpMix P md ops Q nw F b t fuel ((listed.setIfInBounds i true).setIfInBounds k true) ((a.put oi.dst (f p)).put oj.dst (f' p')) (fun w => (M w ∧ b ≤ p ∧ w.heap[p]? = some obj) ∧ b ≤ p' ∧ w.heap[p']? = some obj') := fun p => by
        rcases H p with ⟨h1, _⟩ | ⟨_, H⟩
        · rcases h1 k (ready_mono hk hki) with h1 | ⟨hF, _⟩
          · exact absurd (hkt k hk) (Nat.not_lt_of_le h1)
          · exact absurd (calm_spec hcalm hF) (hL k hkL)
        · obtain ⟨_, oj, hoj, ⟨hn, _⟩ | ⟨f', obj', hn, hyj, H'⟩⟩ := H k (ready_mono hk hki)
          · exact absurd hn (hL k hkL)
          · exact ⟨oj, hoj, f', obj', hn, hyj, H'⟩
      obtain ⟨oj, hoj, f', obj', hn, hyj, _⟩ := get 0
      obtain ⟨hjun, oj', hoj', hdep⟩ := mem_ready.1 hk
      obtain rfl := Option.some.inj (hoj.symm.trans hoj')
      have hnot : ∀ e ∈ oj.after, Region.binds md e = true → e.on ≠ i := fun e he hb heq => by
        have h1 := hdep e he hb
        rw [heq] at h1
        exact not_listed hr h1
      obtain ⟨h1, h2, h3⟩ := Oper.apart_spec (hfree k oj hoj hki hjun hnot)
      have hfree' : ∀ m ok, ops[m]? = some ok → m ≠ i → (listed.setIfInBounds k true).getD m true = false →
          (∀ e ∈ ok.after, Region.binds md e = true → e.on ≠ i) → oi.apart ops ok = true := fun m ok hm hmi hun hno => by
        refine hfree m ok hm hmi ?_ hno
        by_cases hkm : k = m
        · subst hkm; exact hjun
        · rw [getD_set_ne true hkm] at hun; exact hun
      have hr' := ready_mono hr (Ne.symm hki)
      have hall' : ∀ m ∈ Region.ready md ops (listed.setIfInBounds k true), m = i ∨ m ∈ L := fun m hm => by
        have hmt : m < t := Nat.lt_of_not_le fun htm => not_listed hr' (tail_waitsF ht (allIn_set hc hk) hm htm i hit hiF)
        obtain ⟨hmun, om, hom, hmd⟩ := mem_ready.1 hm
        refine hall m (mem_ready.2 ⟨?_, om, hom, fun e he hb => ?_⟩)
        · by_cases hkm : k = m
          · subst hkm; exact hjun
          · rw [getD_set_ne true hkm] at hmun; exact hmun
        · have := hmd e he hb
          have hne : k ≠ e.on := fun q => inert_spec hin hmt hom he hb (q ▸ hkL)
          rw [getD_set_ne false hne] at this
          exact this
      refine ⟨oj, hoj, .inr ⟨f', obj', hn, hyj.of_same (execOp_put oj (fun cs b => hsel k oj cs b hoj) a oi.dst (f 0) h1).symm (wanted_put oj a oi.dst (f 0) h1).symm, fun p' => ?_⟩⟩
      refine ih (listed.setIfInBounds k true) (a.put oj.dst (f' p')) _ (allIn_set hc hk) hfree' hr' hall' (hy.of_same (execOp_put oi (fun cs b => hsel i oi cs b hi) a oj.dst (f' p') h3) (wanted_put oi a oj.dst (f' p') h3)) (fun p => ?_)
      obtain ⟨oj2, hoj2, f2, obj2, hn2, _, H'⟩ := get p
      obtain rfl := Option.some.inj (hoj.symm.trans hoj2)
      obtain ⟨rfl, rfl⟩ : f' = f2 ∧ obj' = obj2 := by
        have := Option.some.inj (hn.symm.trans hn2)
        exact ⟨congrArg Prod.fst this, congrArg Prod.snd this⟩
      rw [Array.setIfInBounds_comm _ _ hki, ← Act.put_comm a (f p) (f' p') h2]
      have e : (fun w : World => (M w ∧ b ≤ p' ∧ w.heap[p']? = some obj') ∧ b ≤ p ∧ w.heap[p]? = some obj) = (fun w : World => (M w ∧ b ≤ p ∧ w.heap[p]? = some obj) ∧ b ≤ p' ∧ w.heap[p']? = some obj') :=
        funext fun w => propext ⟨fun h => ⟨⟨h.1.1, h.2⟩, h.1.2⟩, fun h => ⟨⟨h.1.1, h.2⟩, h.1.2⟩⟩
      rw [e]
      exact H' p'

theorem wpMix_pure {i : Nat} {oi : Oper} {v : Value} (hit : i < t) (hiF : i ∈ F) (hcalm : calm nw F = true) (hi : ops[i]? = some oi) (hsel : ∀ (j : Nat) (o : Oper) cs b, ops[j]? = some o → o.op ≠ .select cs b)
    (hQ : ∀ c a a' w, Q (.panic c) a' w → Q (.panic c) a w) :
    ∀ (fuel : Nat) (listed : Array Bool) (a : Act) (M : World → Prop),
      (∀ j oj, ops[j]? = some oj → j ≠ i → listed.getD j true = false → (∀ e ∈ oj.after, Region.binds md e = true → e.on ≠ i) → oi.apart ops oj = true) →
      i ∈ Region.ready md ops listed → Yields P ops oi v a →
      wpMix P md ops Q nw F b t fuel (listed.setIfInBounds i true) (a.put oi.dst v) M → wpMix P md ops Q nw F b t (fuel + 1) listed a M := by
  intro fuel
  induction fuel with
  | zero => intro listed a M _ _ _ H; exact H.elim
  | succ fuel ih =>
    intro listed a M hfree hr hy H
    -- what comes of another one, taken first
    have swap : ∀ k, k ∈ Region.ready md ops listed → k ≠ i → ∀ oj, ops[k]? = some oj →
        (execOp (a.put oi.dst v).eval oj = execOp a.eval oj ∧ Region.wanted oj (yielded ops (a.put oi.dst v).tmps) = Region.wanted oj (yielded ops a.tmps)) ∧
        ∀ u M', wpMix P md ops Q nw F b t fuel ((listed.setIfInBounds i true).setIfInBounds k true) ((a.put oi.dst v).put oj.dst u) M' → wpMix P md ops Q nw F b t (fuel + 1) (listed.setIfInBounds k true) (a.put oj.dst u) M' := fun k hk hki oj hoj => by
      obtain ⟨hjun, oj', hoj', hall⟩ := mem_ready.1 hk
      obtain rfl := Option.some.inj (hoj.symm.trans hoj')
      have hnot : ∀ e ∈ oj.after, Region.binds md e = true → e.on ≠ i := fun e he hb heq => by
        have h1 := hall e he hb
        rw [heq] at h1
        exact not_listed hr h1
      obtain ⟨h1, h2, h3⟩ := Oper.apart_spec (hfree k oj hoj hki hjun hnot)
      have hfree' : ∀ m ok, ops[m]? = some ok → m ≠ i → (listed.setIfInBounds k true).getD m true = false →
          (∀ e ∈ ok.after, Region.binds md e = true → e.on ≠ i) → oi.apart ops ok = true := fun m ok hm hmi hun hno => by
        refine hfree m ok hm hmi ?_ hno
        by_cases hkm : k = m
        · subst hkm; exact hjun
        · rw [getD_set_ne true hkm] at hun; exact hun
      refine ⟨⟨execOp_put oj (fun cs b => hsel k oj cs b hoj) a oi.dst v h1, wanted_put oj a oi.dst v h1⟩, fun u M' H' => ?_⟩
      refine ih (listed.setIfInBounds k true) (a.put oj.dst u) M' hfree' (ready_mono hr (Ne.symm hki)) (hy.of_same (execOp_put oi (fun cs b => hsel i oi cs b hi) a oj.dst u h3) (wanted_put oi a oj.dst u h3)) ?_
      rw [Array.setIfInBounds_comm _ _ hki, ← Act.put_comm a v u h2]
      exact H'
    rcases id H with ⟨h1, h2⟩ | ⟨_, h2⟩
    · refine Or.inl ⟨fun k hk => ?_, fun w hM => wpAny_first hi hsel (fun c a w => hQ c a _ w) (fuel + 1) listed a w hfree hr hy (h2 w hM)⟩
      by_cases hki : k = i
      · subst hki; exact .inr ⟨hiF, hit, oi, v, hi, hy, H⟩
      · rcases h1 k (ready_mono hk hki) with h1 | ⟨hF, hkt, oj, u, hoj, hyj, H'⟩
        · exact .inl h1
        · obtain ⟨q, s⟩ := swap k hk hki oj hoj
          exact .inr ⟨hF, hkt, oj, u, hoj, hyj.of_same q.1.symm q.2.symm, s u M H'⟩
    · refine Or.inr ⟨fun h => (by rw [h] at hr; cases hr), fun k hk => ?_⟩
      by_cases hki : k = i
      · subst hki; exact ⟨hit, oi, hi, .inl ⟨calm_spec hcalm hiF, v, ends_of_yields hy, H⟩⟩
      · obtain ⟨hkt, oj, hoj, Hj⟩ := h2 k (ready_mono hk hki)
        obtain ⟨q, s⟩ := swap k hk hki oj hoj
        rcases Hj with ⟨hn, u, hyj, H'⟩ | ⟨f, obj, hn, hyj, H'⟩
        · exact ⟨hkt, oj, hoj, .inl ⟨hn, u, hyj.of_same q.1.symm q.2.symm, s u M H'⟩⟩
        · exact ⟨hkt, oj, hoj, .inr ⟨f, obj, hn, hyj.of_same q.1.symm q.2.symm, fun p => s (f p) _ (H' p)⟩⟩

/-- The same, where what has come up waits for nothing that has not, and the tail waits for all. -/
def wpMixU (P : Program) (md : Region.Mode) (ops : Array Oper) (Q : Exit → Act → World → Prop) (nw : Nat → Option ((Nat → Value) × Obj)) (F : List Nat) (b t fuel : Nat) (listed : Array Bool) (a : Act) (M : World → Prop) : Prop :=
  calm nw F = true → tailOF md ops t F = true → allIn md ops listed → Lasts M → wpMix P md ops Q nw F b t fuel listed a M
theorem wpMixU_take {i : Nat} {oi : Oper} {v : Value} {fuel : Nat} {listed : Array Bool} {a : Act} {M : World → Prop} (hit : i < t) (hF : decide (i ∈ F) = false) (hi : ops[i]? = some oi) (hnw : nw i = none)
    (hs : Region.noSelect ops = true) (hf : Region.free md ops listed i = true) (hr : (Region.ready md ops listed).contains i = true)
    (hw : Region.wanted oi (yielded ops a.tmps) = true)
    (hy : ∀ M', Lasts M' → (∀ w, M' w → M w) → ∀ w, M' w → Came P M' v ((execOp a.eval oi).run P w))
    (h : wpMixU P md ops Q nw F b t fuel (listed.setIfInBounds i true) (a.put oi.dst v) M) : wpMixU P md ops Q nw F b t (fuel + 1) listed a M := fun hca ht hc hl =>
  wpMix_first hit (of_decide_eq_false hF) hca ht hi hnw (Region.noSelect_spec hs) fuel listed a M hc hl (Region.free_spec hi hf) (by simpa using hr) (fun M' hl' hm => .inl ⟨hw, hy M' hl' hm⟩) (h hca ht (allIn_set hc (by simpa using hr)) hl)
theorem wpMixU_skip {i : Nat} {oi : Oper} {fuel : Nat} {listed : Array Bool} {a : Act} {M : World → Prop} (hit : i < t) (hF : decide (i ∈ F) = false) (hi : ops[i]? = some oi) (hnw : nw i = none)
    (hs : Region.noSelect ops = true) (hf : Region.free md ops listed i = true) (hr : (Region.ready md ops listed).contains i = true)
    (hw : Region.wanted oi (yielded ops a.tmps) = false)
    (h : wpMixU P md ops Q nw F b t fuel (listed.setIfInBounds i true) (a.put oi.dst undef) M) : wpMixU P md ops Q nw F b t (fuel + 1) listed a M := fun hca ht hc hl =>
  wpMix_first hit (of_decide_eq_false hF) hca ht hi hnw (Region.noSelect_spec hs) fuel listed a M hc hl (Region.free_spec hi hf) (by simpa using hr) (fun _ _ _ => .inr ⟨hw, rfl⟩) (h hca ht (allIn_set hc (by simpa using hr)) hl)
/-- Number i makes memory; all others that may come up now are of L, which make memory too, and for which none ahead of t waits. -/
theorem wpMixU_new {i : Nat} {oi : Oper} {f : Nat → Value} {obj : Obj} (L : List Nat) {fuel : Nat} {listed : Array Bool} {a : Act} {M : World → Prop} (hit : i < t) (hF : decide (i ∈ F) = false) (hi : ops[i]? = some oi) (hnw : nw i = some (f, obj))
    (hs : Region.noSelect ops = true) (hf : Region.free md ops listed i = true) (hr : (Region.ready md ops listed).contains i = true)
    (hL : (L.all fun k => (nw k).isSome) = true) (hin : inert md ops t L = true) (ha : ((Region.ready md ops listed).all fun k => k == i || L.contains k) = true)
    (hw : Region.wanted oi (yielded ops a.tmps) = true) (hy : ∀ w, (execOp a.eval oi).run P w = .ok (.value (f w.heap.size)) (w.alloc obj))
    (h : ∀ p, wpMixU P md ops Q nw F b t fuel (listed.setIfInBounds i true) (a.put oi.dst (f p)) (fun w => M w ∧ b ≤ p ∧ w.heap[p]? = some obj)) : wpMixU P md ops Q nw F b t (fuel + 1) listed a M := fun hca ht hc hl =>
  wpMix_new hit (of_decide_eq_false hF) hca ht hi hnw (Region.noSelect_spec hs) (fun k hk e => by have := List.all_eq_true.1 hL k hk; rw [e] at this; cases this) hin fuel listed a M hc (Region.free_spec hi hf) (by simpa using hr)
    (fun k hk => by have := List.all_eq_true.1 ha k hk; simpa using this) ⟨hw, hy⟩ (fun p => h p hca ht (allIn_set hc (by simpa using hr)) (hl.row b p obj))
/-- Number i of F. -/
theorem wpMixU_pure {i : Nat} {oi : Oper} {v : Value} {fuel : Nat} {listed : Array Bool} {a : Act} {M : World → Prop} (hit : i < t) (hF : decide (i ∈ F) = true) (hi : ops[i]? = some oi)
    (hQ : ∀ c a a' w, Q (.panic c) a' w → Q (.panic c) a w)
    (hs : Region.noSelect ops = true) (hf : Region.free md ops listed i = true) (hr : (Region.ready md ops listed).contains i = true)
    (hw : Region.wanted oi (yielded ops a.tmps) = true) (hy : ∀ w, (execOp a.eval oi).run P w = .ok (.value v) w)
    (h : wpMixU P md ops Q nw F b t fuel (listed.setIfInBounds i true) (a.put oi.dst v) M) : wpMixU P md ops Q nw F b t (fuel + 1) listed a M := fun hca ht hc hl =>
  wpMix_pure hit (of_decide_eq_true hF) hca hi (Region.noSelect_spec hs) hQ fuel listed a M (Region.free_spec hi hf) (by simpa using hr) (.inl ⟨hw, hy⟩) (h hca ht (allIn_set hc (by simpa using hr)) hl)
/-- The tail. -/
theorem wpMixU_tail {fuel : Nat} {listed : Array Bool} {a : Act} {M : World → Prop} (S : World → Prop) (hr : ((Region.ready md ops listed).all fun i => decide (t ≤ i)) = true) (_ : ∀ w, M w → S w)
    (h : ∀ w, M w → wpAnyH P md ops Q S (fuel + 1) listed a w) : wpMixU P md ops Q nw F b t (fuel + 1) listed a M := fun _ _ _ _ =>
  Or.inl ⟨fun i hi => Or.inl <| of_decide_eq_true (List.all_eq_true.1 hr i hi), fun w hM => wpAny_of_held _ _ _ _ (h w hM)⟩
theorem wp_region_mix {id : Nat} {a : Act} {w : World} {M : World → Prop} (nw : Nat → Option ((Nat → Value) × Obj)) (F : List Nat) (b t : Nat) (hm : P.follows .mixedOrders = true) (hca : calm nw F = true) (ht : tailOF .any ops t F = true) (hl : Lasts M) (hb : ∀ w, M w → b ≤ w.heap.size) (hM : M w.drew)
    (h : wpMixU P .any ops Q nw F b t ops.size (Array.replicate ops.size false) a M) : (Code.region id ops true).wp P Q a w :=
  wp_region_any hm (wpAny_of_mix _ _ _ M (h hca ht allIn_start hl) hl hb _ hM)
end
end Go.Proofs.Ytfphihhcclfmnaa
