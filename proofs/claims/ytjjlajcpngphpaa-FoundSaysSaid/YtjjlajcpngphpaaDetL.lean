/- A region that draws its order and ends with one operation that waits for all others (a store into what was read): all but it by XDet's walk, it by itself, behind them. -/
import Derived.Test.YtjjlajcpngphpaaDet
namespace Go.Proofs.Ytjjlajcpngphpaa
open Go.RowKit

section
variable {P : Program} {ops : Array Oper} {Q : Exit → Act → World → Prop} {md : Region.Mode} {S : World → Prop}

/-- Number j waits for all others. -/
def waitsAll (md : Region.Mode) (ops : Array Oper) (j : Nat) : Bool :=
  match ops[j]? with
  | some o => (List.range ops.size).all fun k => k == j || o.after.any (fun e => Region.binds md e && e.on == k)
  | none => false
/-- Whatever order is picked from here on, number j the last. -/
def wpDetL (P : Program) (md : Region.Mode) (ops : Array Oper) (Q : Exit → Act → World → Prop) (S : World → Prop) (j : Nat) : Nat → Array Bool → Act → Prop
  | 0, _, _ => False
  | fuel + 1, listed, a =>
    (Region.ready md ops listed = [j] ∧ Region.ready md ops (listed.setIfInBounds j true) = [] ∧ ∀ w, S w → wpOp P ops Q j (fun a' w' => Q .normal a' w') a w) ∨
    (Region.ready md ops listed ≠ [] ∧ ∀ i ∈ Region.ready md ops listed, i ≠ j ∧ ∃ o v, ops[i]? = some o ∧ EndsIf P ops S o v a ∧ wpDetL P md ops Q S j fuel (listed.setIfInBounds i true) (a.put o.dst v))
theorem wpAny_of_detL {j : Nat} : ∀ (fuel : Nat) (listed : Array Bool) (a : Act), wpDetL P md ops Q S j fuel listed a → ∀ w, S w → wpAny P md ops Q fuel listed a w
  | 0, _, _, h, _, _ => h.elim
  | fuel + 1, listed, a, h, w, hS => by
    rcases h with ⟨h1, h2, h3⟩ | ⟨h1, h2⟩
    · refine ⟨fun h0 => (by rw [h1] at h0; cases h0), fun i hi => ?_⟩
      rw [h1] at hi
      obtain rfl := List.mem_singleton.1 hi
      refine wpOp_mono (fun a' w' hq => ?_) (h3 w hS)
      cases fuel with
      | zero => exact ⟨h2, hq⟩
      | succ n => exact ⟨fun _ => hq, by rw [h2]; simp⟩
    · refine ⟨fun h0 => absurd h0 h1, fun i hi => ?_⟩
      obtain ⟨_, o, v, ho, hy, h'⟩ := h2 i hi
      exact hy.wpOp ho hS (fun w' hS' => wpAny_of_detL fuel _ _ h' w' hS')
theorem waits_not {j : Nat} (hl : waitsAll md ops j = true) {i : Nat} (hij : i ≠ j) {listed : Array Bool} (hi : i ∈ Region.ready md ops listed) : j ∉ Region.ready md ops listed := by
  intro hj
  obtain ⟨hun, oi, hoi, _⟩ := mem_ready.1 hi
  obtain ⟨_, oj, hoj, hall⟩ := mem_ready.1 hj
  unfold waitsAll at hl
  rw [hoj] at hl
  have hlt : i < ops.size := (Array.getElem?_eq_some_iff.1 hoi).1
  have := List.all_eq_true.1 hl i (List.mem_range.2 hlt)
  simp only [Bool.or_eq_true, beq_iff_eq, hij, false_or] at this
  obtain ⟨e, he, h2⟩ := Array.any_eq_true'.1 this
  simp only [Bool.and_eq_true, beq_iff_eq] at h2
  have h1 := hall e he h2.1
  rw [h2.2] at h1
  rcases Nat.lt_or_ge i listed.size with h' | h'
  · simp [h'] at h1 hun; rw [hun] at h1; cases h1
  · simp [Array.getElem?_eq_none h'] at h1
theorem wpDetL_first {i j : Nat} {oi : Oper} {v : Value} (hij : i ≠ j) (hl : waitsAll md ops j = true) (hi : ops[i]? = some oi) (hsel : ∀ (j : Nat) (o : Oper) cs b, ops[j]? = some o → o.op ≠ .select cs b) :
    ∀ (fuel : Nat) (listed : Array Bool) (a : Act),
      (∀ j oj, ops[j]? = some oj → j ≠ i → listed.getD j true = false → (∀ e ∈ oj.after, Region.binds md e = true → e.on ≠ i) → oi.apart ops oj = true) →
      i ∈ Region.ready md ops listed → EndsIf P ops S oi v a →
      wpDetL P md ops Q S j fuel (listed.setIfInBounds i true) (a.put oi.dst v) → wpDetL P md ops Q S j (fuel + 1) listed a := by
  intro fuel
  induction fuel with
  | zero => intro listed a _ _ _ H; exact H.elim
  | succ fuel ih =>
    intro listed a hfree hr hy H
    have hjn := waits_not hl hij hr
    refine Or.inr ⟨fun h => (by rw [h] at hr; cases hr), fun k hk => ⟨fun e => hjn (e ▸ hk), ?_⟩⟩
    by_cases hki : k = i
    · subst hki; exact ⟨oi, v, hi, hy, H⟩
    · rcases H with ⟨h1, _, _⟩ | ⟨_, H⟩
      · have := ready_mono hk hki
        rw [h1] at this
        obtain rfl := List.mem_singleton.1 this
        exact absurd hk hjn
      · obtain ⟨_, oj, u, hoj, hyj, H'⟩ := H k (ready_mono hk hki)
        obtain ⟨hjun, oj', hoj', hall⟩ := mem_ready.1 hk
        obtain rfl := Option.some.inj (hoj.symm.trans hoj')
        have hnot : ∀ e ∈ oj.after, Region.binds md e = true → e.on ≠ i := fun e he hb heq => by
          have h1 := hall e he hb
          have h0 := (mem_ready.1 hr).1
          rw [heq] at h1
          rcases Nat.lt_or_ge i listed.size with h' | h'
          · simp [h'] at h0 h1; rw [h0] at h1; cases h1
          · simp [Array.getElem?_eq_none h'] at h1
        obtain ⟨h1, h2, h3⟩ := Oper.apart_spec (hfree k oj hoj hki hjun hnot)
        have hfree' : ∀ m ok, ops[m]? = some ok → m ≠ i → (listed.setIfInBounds k true).getD m true = false →
            (∀ e ∈ ok.after, Region.binds md e = true → e.on ≠ i) → oi.apart ops ok = true := fun m ok hm hmi hun hno => by
          refine hfree m ok hm hmi ?_ hno
          by_cases hkm : k = m
          · subst hkm; exact hjun
          · rw [getD_set_ne true hkm] at hun; exact hun
        refine ⟨oj, u, hoj, hyj.of_same (execOp_put oj (fun cs b => hsel k oj cs b hoj) a oi.dst v h1).symm (wanted_put oj a oi.dst v h1).symm, ?_⟩
        refine ih (listed.setIfInBounds k true) (a.put oj.dst u) hfree' (ready_mono hr (Ne.symm hki)) (hy.of_same (execOp_put oi (fun cs b => hsel i oi cs b hi) a oj.dst u h3) (wanted_put oi a oj.dst u h3)) ?_
        rw [Array.setIfInBounds_comm _ _ hki, ← Act.put_comm a v u h2]
        exact H'
theorem wpDetL_take {i j : Nat} {oi : Oper} {v : Value} {fuel : Nat} {listed : Array Bool} {a : Act} (hij : i ≠ j) (hl : waitsAll md ops j = true) (hi : ops[i]? = some oi)
    (hs : Region.noSelect ops = true) (hf : Region.free md ops listed i = true) (hr : (Region.ready md ops listed).contains i = true)
    (hy : EndsIf P ops S oi v a)
    (h : wpDetL P md ops Q S j fuel (listed.setIfInBounds i true) (a.put oi.dst v)) : wpDetL P md ops Q S j (fuel + 1) listed a :=
  wpDetL_first hij hl hi (Region.noSelect_spec hs) fuel listed a (Region.free_spec hi hf) (by simpa using hr) hy h
/-- The last one. -/
theorem wpDetL_last {j : Nat} {oj : Oper} {fuel : Nat} {listed : Array Bool} {a : Act} (hr : Region.ready md ops listed = [j]) (hr2 : Region.ready md ops (listed.setIfInBounds j true) = []) (hj : ops[j]? = some oj)
    (h : ∀ w, S w → ∀ K' : Act → World → Prop, Hid (∀ a w, Q .normal a w → K' a w) → if Region.wanted oj (yielded ops a.tmps) = true then Oper.wp P oj a w K' Q else K' (a.put oj.dst undef) w) :
    wpDetL P md ops Q S j (fuel + 1) listed a := Or.inl ⟨hr, hr2, fun w hS => wpOp_step hj (fun K' hK => h w hS K' (Lib.hid hK))⟩
theorem wp_region_detL {id : Nat} {a : Act} {w : World} (j : Nat) (hm : P.follows .mixedOrders = true) (hS : S w.drew)
    (h : wpDetL P .any ops Q S j ops.size (Array.replicate ops.size false) a) : (Code.region id ops true).wp P Q a w :=
  wp_region_any hm (wpAny_of_detL _ _ _ h _ hS)
end
end Go.Proofs.Ytjjlajcpngphpaa
