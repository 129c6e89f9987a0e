/- A region that draws its order, whose last operations (from number t on) have no one value (a call that hands back new memory): those ahead of t by XDet's walk, the rest, in whatever order, behind them. -/
import Derived.Test.YtfphihhcclfmnaaDet
import Derived.OrdersHeld
namespace Go.Proofs.Ytfphihhcclfmnaa
open Go.RowKit

section
variable {P : Program} {ops : Array Oper} {Q : Exit → Act → World → Prop} {md : Region.Mode} {S : World → Prop}

/-- What has come up waits for nothing that has not. -/
def allIn (md : Region.Mode) (ops : Array Oper) (listed : Array Bool) : Prop :=
  ∀ p o, ops[p]? = some o → listed.getD p false = true → ∀ e ∈ o.after, Region.binds md e = true → listed.getD e.on false = true
theorem allIn_start : allIn md ops (Array.replicate ops.size false) := by
  intro p o ho hp
  have hlt : p < ops.size := (Array.getElem?_eq_some_iff.1 ho).1
  simp [hlt] at hp
theorem getD_up {listed : Array Bool} {k i : Nat} (h : listed.getD i false = true) : (listed.setIfInBounds k true).getD i false = true := by
  by_cases e : k = i
  · subst e
    rcases Nat.lt_or_ge k listed.size with h' | h'
    · simp [h']
    · simp [Array.getElem?_eq_none h'] at h
  · rw [getD_set_ne false e]; exact h
theorem allIn_set {listed : Array Bool} (h : allIn md ops listed) {k : Nat} (hk : k ∈ Region.ready md ops listed) : allIn md ops (listed.setIfInBounds k true) := by
  intro p o ho hp e he hb
  refine getD_up ?_
  obtain ⟨_, ok, hok, hall⟩ := mem_ready.1 hk
  by_cases hkp : k = p
  · subst hkp
    obtain rfl := Option.some.inj (hok.symm.trans ho)
    exact hall e he hb
  · rw [getD_set_ne false hkp] at hp
    exact h p o ho hp e he hb

/-- What number p waits for itself, and through others: a bit an operation. -/
def waitsM (md : Region.Mode) (ops : Array Oper) (p : Nat) : Nat :=
  match ops[p]? with
  | some o => o.after.toList.foldl (fun a e => if Region.binds md e then a ||| 2 ^ e.on else a) 0
  | none => 0
def reachM (md : Region.Mode) (ops : Array Oper) : Nat → Nat → Nat
  | 0, m => m
  | p + 1, m => reachM md ops p (if m.testBit p then m ||| waitsM md ops p else m)
/-- Every operation from number t on waits for all that stand ahead of t. -/
def tailOK (md : Region.Mode) (ops : Array Oper) (t : Nat) : Bool :=
  (List.range ops.size).all fun k => decide (k < t) || (reachM md ops k (waitsM md ops k) &&& (2 ^ t - 1)) == 2 ^ t - 1
def InM (listed : Array Bool) (m : Nat) : Prop := ∀ i, m.testBit i = true → listed.getD i false = true
theorem InM.or {listed : Array Bool} {m n : Nat} (h : InM listed m) (k : InM listed n) : InM listed (m ||| n) := fun i hi => by
  rw [Nat.testBit_or, Bool.or_eq_true] at hi
  exact hi.elim (h i) (k i)
theorem waits_in {listed : Array Bool} {p : Nat} {o : Oper} (ho : ops[p]? = some o) (h : ∀ e ∈ o.after, Region.binds md e = true → listed.getD e.on false = true) : InM listed (waitsM md ops p) := by
  unfold waitsM
  rw [ho]
  have key : ∀ (l : List _) (a : Nat), (∀ e ∈ l, Region.binds md e = true → listed.getD e.on false = true) → InM listed a → InM listed (l.foldl (fun a e => if Region.binds md e then a ||| 2 ^ e.on else a) a) := by
    intro l
    induction l with
    | nil => intro a _ ha; exact ha
    | cons e l ih =>
      intro a hl ha
      refine ih _ (fun e' he' => hl e' (List.mem_cons_of_mem _ he')) ?_
      by_cases hb : Region.binds md e = true
      · dsimp only
        rw [if_pos hb]
        refine ha.or (fun i hi => ?_)
        rw [Nat.testBit_two_pow] at hi
        obtain rfl : e.on = i := of_decide_eq_true hi
        exact hl e (List.mem_cons_self ..) hb
      · dsimp only
        rw [if_neg hb]; exact ha
  exact key _ 0 (fun e he => h e (by simpa using he)) (fun i hi => by simp at hi)
theorem reach_in {listed : Array Bool} (h : allIn md ops listed) : ∀ (p m : Nat), InM listed m → InM listed (reachM md ops p m)
  | 0, _, hm => hm
  | p + 1, m, hm => by
    refine reach_in h p _ ?_
    split
    · rename_i hp
      refine hm.or ?_
      cases ho : ops[p]? with
      | none => intro i hi; simp [waitsM, ho] at hi
      | some o => exact waits_in ho (h p o ho (hm p hp))
    · exact hm
theorem tail_waits {t : Nat} (ht : tailOK md ops t = true) {listed : Array Bool} (hc : allIn md ops listed) {k : Nat} (hk : k ∈ Region.ready md ops listed) (htk : t ≤ k) : ∀ i < t, listed.getD i false = true := by
  obtain ⟨_, o, ho, hall⟩ := mem_ready.1 hk
  have hlt : k < ops.size := (Array.getElem?_eq_some_iff.1 ho).1
  have h := List.all_eq_true.1 ht k (List.mem_range.2 hlt)
  rw [decide_eq_false (by omega), Bool.false_or, beq_iff_eq] at h
  intro i hi
  refine reach_in hc k _ (waits_in ho hall) i ?_
  have := congrArg (fun m => m.testBit i) h
  simp only [Nat.testBit_and, Nat.testBit_two_pow_sub_one, decide_eq_true hi, Bool.and_true] at this
  exact this

/-- Whatever order is picked from here on, the tail by whatever walk. -/
def wpDetT (P : Program) (md : Region.Mode) (ops : Array Oper) (Q : Exit → Act → World → Prop) (S : World → Prop) (t : Nat) : Nat → Array Bool → Act → Prop
  | 0, _, _ => False
  | fuel + 1, listed, a =>
    ((∀ i ∈ Region.ready md ops listed, t ≤ i) ∧ ∀ w, S w → wpAny P md ops Q (fuel + 1) listed a w) ∨
    (Region.ready md ops listed ≠ [] ∧ ∀ i ∈ Region.ready md ops listed, i < t ∧ ∃ o v, ops[i]? = some o ∧ EndsIf P ops S o v a ∧ wpDetT P md ops Q S t fuel (listed.setIfInBounds i true) (a.put o.dst v))
theorem wpAny_of_detT {t : Nat} : ∀ (fuel : Nat) (listed : Array Bool) (a : Act), wpDetT P md ops Q S t fuel listed a → ∀ w, S w → wpAny P md ops Q fuel listed a w
  | 0, _, _, h, _, _ => h.elim
  | fuel + 1, listed, a, h, w, hS => by
    rcases h with ⟨_, h2⟩ | ⟨h1, h2⟩
    · exact h2 w hS
    · refine ⟨fun h0 => absurd h0 h1, fun i hi => ?_⟩
      obtain ⟨_, o, v, ho, hy, h'⟩ := h2 i hi
      exact hy.wpOp ho hS (fun w' hS' => wpAny_of_detT fuel _ _ h' w' hS')
theorem wpDetT_first {i t : Nat} {oi : Oper} {v : Value} (hit : i < t) (ht : tailOK md ops t = true) (hi : ops[i]? = some oi) (hsel : ∀ (j : Nat) (o : Oper) cs b, ops[j]? = some o → o.op ≠ .select cs b) :
    ∀ (fuel : Nat) (listed : Array Bool) (a : Act), allIn md ops listed →
      (∀ j oj, ops[j]? = some oj → j ≠ i → listed.getD j true = false → (∀ e ∈ oj.after, Region.binds md e = true → e.on ≠ i) → oi.apart ops oj = true) →
      i ∈ Region.ready md ops listed → EndsIf P ops S oi v a →
      wpDetT P md ops Q S t fuel (listed.setIfInBounds i true) (a.put oi.dst v) → wpDetT P md ops Q S t (fuel + 1) listed a := by
  intro fuel
  induction fuel with
  | zero => intro listed a _ _ _ _ H; exact H.elim
  | succ fuel ih =>
    intro listed a hc hfree hr hy H
    have hkt : ∀ k ∈ Region.ready md ops listed, k < t := fun k hk => by
      refine Nat.lt_of_not_le fun htk => ?_
      have h1 := tail_waits ht hc hk htk i hit
      have h0 := (mem_ready.1 hr).1
      rcases Nat.lt_or_ge i listed.size with h' | h'
      · simp [h'] at h0 h1; rw [h0] at h1; cases h1
      · simp [Array.getElem?_eq_none h'] at h1
    refine Or.inr ⟨fun h => (by rw [h] at hr; cases hr), fun k hk => ⟨hkt k hk, ?_⟩⟩
    by_cases hki : k = i
    · subst hki; exact ⟨oi, v, hi, hy, H⟩
    · rcases H with ⟨h1, _⟩ | ⟨_, H⟩
      · exact absurd (hkt k hk) (Nat.not_lt_of_le (h1 k (ready_mono hk hki)))
      · obtain ⟨_, oj, u, hoj, hyj, H'⟩ := H k (ready_mono hk hki)
        obtain ⟨hjun, oj', hoj', hall⟩ := mem_ready.1 hk
        obtain rfl := Option.some.inj (hoj.symm.trans hoj')
        have hnot : ∀ e ∈ oj.after, Region.binds md e = true → e.on ≠ i := fun e he hb heq => by
          have h1 := hall e he hb
          have h0 := (mem_ready.1 hr).1
          rw [heq] at h1
          rcases Nat.lt_or_ge i listed.size with h' | h'
          · simp [h'] at h0 h1; rw [h0] at h1; cases h1
          · simp [Array.getElem?_eq_none h'] at h1
        obtain ⟨h1, h2, h3⟩ := Oper.apart_spec (hfree k oj hoj hki hjun hnot)
        have hfree' : ∀ m ok, ops[m]? = some ok → m ≠ i → (listed.setIfInBounds k true).getD m true = false →
            (∀ e ∈ ok.after, Region.binds md e = true → e.on ≠ i) → oi.apart ops ok = true := fun m ok hm hmi hun hno => by
          refine hfree m ok hm hmi ?_ hno
          by_cases hkm : k = m
          · subst hkm; exact hjun
          · rw [getD_set_ne true hkm] at hun; exact hun
        refine ⟨oj, u, hoj, hyj.of_same (execOp_put oj (fun cs b => hsel k oj cs b hoj) a oi.dst v h1).symm (wanted_put oj a oi.dst v h1).symm, ?_⟩
        refine ih (listed.setIfInBounds k true) (a.put oj.dst u) (allIn_set hc hk) hfree' (ready_mono hr (Ne.symm hki)) (hy.of_same (execOp_put oi (fun cs b => hsel i oi cs b hi) a oj.dst u h3) (wanted_put oi a oj.dst u h3)) ?_
        rw [Array.setIfInBounds_comm _ _ hki, ← Act.put_comm a v u h2]
        exact H'
/-- The same, where what has come up waits for nothing that has not, and the tail waits for all. -/
def wpDetU (P : Program) (md : Region.Mode) (ops : Array Oper) (Q : Exit → Act → World → Prop) (S : World → Prop) (t fuel : Nat) (listed : Array Bool) (a : Act) : Prop :=
  tailOK md ops t = true → allIn md ops listed → wpDetT P md ops Q S t fuel listed a
theorem wpDetU_take {i t : Nat} {oi : Oper} {v : Value} {fuel : Nat} {listed : Array Bool} {a : Act} (hit : i < t) (hi : ops[i]? = some oi)
    (hs : Region.noSelect ops = true) (hf : Region.free md ops listed i = true) (hr : (Region.ready md ops listed).contains i = true)
    (hy : EndsIf P ops S oi v a)
    (h : wpDetU P md ops Q S t fuel (listed.setIfInBounds i true) (a.put oi.dst v)) : wpDetU P md ops Q S t (fuel + 1) listed a := fun ht hc =>
  wpDetT_first hit ht hi (Region.noSelect_spec hs) fuel listed a hc (Region.free_spec hi hf) (by simpa using hr) hy (h ht (allIn_set hc (by simpa using hr)))
/-- The tail. -/
theorem wpDetU_tail {t fuel : Nat} {listed : Array Bool} {a : Act} (hr : ((Region.ready md ops listed).all fun i => decide (t ≤ i)) = true)
    (h : ∀ w, S w → wpAnyH P md ops Q S (fuel + 1) listed a w) : wpDetU P md ops Q S t (fuel + 1) listed a := fun _ _ =>
  Or.inl ⟨fun i hi => of_decide_eq_true (List.all_eq_true.1 hr i hi), fun w hS => wpAny_of_held _ _ _ _ (h w hS)⟩
theorem wp_region_detU {id : Nat} {a : Act} {w : World} (t : Nat) (hm : P.follows .mixedOrders = true) (ht : tailOK .any ops t = true) (hS : S w.drew)
    (h : wpDetU P .any ops Q S t ops.size (Array.replicate ops.size false) a) : (Code.region id ops true).wp P Q a w :=
  wp_region_any hm (wpAny_of_detT _ _ _ (h ht allIn_start) _ hS)
end
end Go.Proofs.Ytfphihhcclfmnaa
