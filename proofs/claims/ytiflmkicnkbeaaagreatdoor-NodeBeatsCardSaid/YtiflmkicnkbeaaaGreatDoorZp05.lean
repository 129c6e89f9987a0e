import Derived.Test.YtiflmkicnkbeaaaGreatDoorZp01
import Derived.Test.YtiflmkicnkbeaaaGreatDoorZp02
import Derived.Test.YtiflmkicnkbeaaaGreatDoorZp03
import Derived.Test.YtiflmkicnkbeaaaGreatDoorZp04
import Derived.Laws.StructEq
import Derived.IntWalk
import Derived.Deep.AppendLies
import Derived.Deep.DeepCutAuto
import Derived.Deep.CutBlock
import Derived.Lib.AppendZerosOnto
import Derived.Deep.Upon
import Derived.Deep.RegionHeld3
import Derived.Lib.Walk
import Derived.Shelf.Slices.SearchI
import Derived.Shelf.Slices.Empties
import Derived.Test.YtiflmkicnkbeaaaGreatDoorProg
import Derived.Laws.CopyRow
namespace Go.Proofs.YtiflmkicnkbeaaaGreatDoor
open Go.RowKit Fm
def bidMay (r : Rg) (b : Int × Int) (k : Nat) : Prop := k < r.es.length ∧ (r.es.getD k zeroE).aw = -1 ∧ b.1 ∈ r.ms ∧ 0 ≤ b.2 ∧ b.2 ≤ 1048576
instance (r : Rg) (b : Int × Int) (k : Nat) : Decidable (bidMay r b k) := by unfold bidMay; exact inferInstance
end Go.Proofs.YtiflmkicnkbeaaaGreatDoor
namespace Go.Proofs.YtiflmkicnkbeaaaGreatDoor
open Go.RowKit
def SH (W : World) (b o bx : Nat) (x y : La) (a : World) : Prop := Fr W a [] ∧
 (a.cell? ⟨b, o, none⟩ = some (.int .i64 x.f) ∧ a.cell? ⟨b, o + 1, none⟩ = some (.int .i64 x.d) ∧ a.cell? ⟨b, o + 2, none⟩ = some (.int .i64 x.g)) ∧
 (a.cell? ⟨bx, 0, none⟩ = some (.int .i64 y.f) ∧ a.cell? ⟨bx, 1, none⟩ = some (.int .i64 y.d) ∧ a.cell? ⟨bx, 2, none⟩ = some (.int .i64 y.g))
end Go.Proofs.YtiflmkicnkbeaaaGreatDoor
namespace Go.Proofs.YtiflmkicnkbeaaaGreatDoor
open Go.RowKit
theorem tk_snoc {α : Type} (l : List α) (k : Nat) (h : k < l.length) (d : α) : l.take (k + 1) = l.take k ++ [l.getD k d] := by
 rw [List.take_succ_eq_append_getElem h]; simp [h]
theorem bcase {P : Prop} [Decidable P] {b : Bool} (h : b = decide P) : (P ∧ b = true) ∨ (¬ P ∧ b = false) := by
 by_cases hp : P
 · exact .inl ⟨hp, by simp [h, hp]⟩
 · exact .inr ⟨hp, by simp [h, hp]⟩
theorem yes {P : Prop} [Decidable P] (h : P) : true = decide P := (decide_eq_true h).symm
theorem no {P : Prop} [Decidable P] (h : ¬ P) : false = decide P := (decide_eq_false h).symm
theorem pre_all {α : Type} {l m : List α} (hl : l.length = m.length) (h : l.take l.length = m.take l.length) : l = m := by
 rwa [List.take_length, hl, List.take_length] at h
theorem pre_step {α : Type} {l m : List α} {k : Nat} (d : α) (hl : l.length = m.length) (h : l.take k = m.take k) (hk : k < l.length) (e : l.getD k d = m.getD k d) : l.take (k + 1) = m.take (k + 1) := by
 rw [tk_snoc l k hk d, tk_snoc m k (by omega) d, h, e]
theorem pre_no {α : Type} {l m : List α} {k : Nat} (d : α) (e : l.getD k d ≠ m.getD k d) : ¬ l = m := fun h => e (by rw [h])
end Go.Proofs.YtiflmkicnkbeaaaGreatDoor
namespace Go.Proofs.YtiflmkicnkbeaaaGreatDoor
open Go.RowKit Fm
theorem iyes {P : Prop} (h : P) : true = true ↔ P := ⟨fun _ => h, fun _ => rfl⟩
theorem ino {P : Prop} (h : ¬ P) : false = true ↔ P := ⟨(fun e => by cases e), fun e => absurd e h⟩
theorem en_ne {e f : En} {b : Bool} (hb : b = true ↔ e = f) (h : ¬ e = f) : b = false := by
 cases b with
 | false => rfl
 | true => exact absurd (hb.1 rfl) h
def EntS (w0 : World) (b1 o1 b2 o2 : Nat) (e f : En) (u1 u2 : Value) (a : World) : Prop :=
 Fr w0 a [] ∧ a.cell? ⟨b1, o1, none⟩ = some (.int .i64 e.fl) ∧ a.cell? ⟨b1, o1 + 1, none⟩ = some (.int .i64 e.di) ∧ a.cell? ⟨b1, o1 + 2, none⟩ = some (.int .i64 e.ge) ∧ a.cell? ⟨b1, o1 + 3, none⟩ = some u1 ∧ a.cell? ⟨b1, o1 + 4, none⟩ = some (.int .i64 e.aw) ∧
 a.cell? ⟨b2, o2, none⟩ = some (.int .i64 f.fl) ∧ a.cell? ⟨b2, o2 + 1, none⟩ = some (.int .i64 f.di) ∧ a.cell? ⟨b2, o2 + 2, none⟩ = some (.int .i64 f.ge) ∧ a.cell? ⟨b2, o2 + 3, none⟩ = some u2 ∧ a.cell? ⟨b2, o2 + 4, none⟩ = some (.int .i64 f.aw) ∧
 HB a u1 e.bs ∧ HB a u2 f.bs
theorem EntS.keep {w0 : World} {b1 o1 b2 o2 : Nat} {e f : En} {u1 u2 : Value} {a c : World} (h : EntS w0 b1 o1 b2 o2 e f u1 u2 a) (k : Fr a c []) : EntS w0 b1 o1 b2 o2 e f u1 u2 c := by
 obtain ⟨h0, x0, x1, x2, x3, x4, y0, y1, y2, y3, y4, hb, hb'⟩ := h
 exact ⟨h0.trans k, k.cell x0 (by simp), k.cell x1 (by simp), k.cell x2 (by simp), k.cell x3 (by simp), k.cell x4 (by simp), k.cell y0 (by simp), k.cell y1 (by simp), k.cell y2 (by simp), k.cell y3 (by simp), k.cell y4 (by simp), hb.keep k, hb'.keep k⟩
theorem EntS.hb1 {w0 : World} {b1 o1 b2 o2 : Nat} {e f : En} {u1 u2 : Value} {a : World} (h : EntS w0 b1 o1 b2 o2 e f u1 u2 a) : HB a u1 e.bs := h.2.2.2.2.2.2.2.2.2.2.2.1
theorem EntS.hb2 {w0 : World} {b1 o1 b2 o2 : Nat} {e f : En} {u1 u2 : Value} {a : World} (h : EntS w0 b1 o1 b2 o2 e f u1 u2 a) : HB a u2 f.bs := h.2.2.2.2.2.2.2.2.2.2.2.2
theorem en_ne' {α : Type} {e f : α} {b : Bool} (hb : b = true ↔ e = f) (h : ¬ e = f) : b = false := by
 cases b with
 | false => rfl
 | true => exact absurd (hb.1 rfl) h
end Go.Proofs.YtiflmkicnkbeaaaGreatDoor
namespace Go.Proofs.YtiflmkicnkbeaaaGreatDoor
open Go.RowKit Fm
theorem dr_cons {α : Type} (l : List α) (k : Nat) (h : k < l.length) (d : α) : l.drop k = l.getD k d :: l.drop (k + 1) := by
 rw [List.drop_eq_getElem_cons h]; simp [h]
def EpOk (c f : Int) : Prop := 1 ≤ c ∧ c ≤ 4294967295 ∧ 0 ≤ f ∧ f < 16
instance (c f : Int) : Decidable (EpOk c f) := by unfold EpOk; exact inferInstance
theorem take_mem {l : List Int} {k : Nat} (h : k < l.length) {x : Int} (h1 : x ∉ l.take k) (h2 : l.getD k 0 ≠ x) : x ∉ l.take (k + 1) := by
 rw [tk_snoc l k h 0]
 simp only [List.mem_append, List.mem_singleton, not_or]
 exact ⟨h1, fun e => h2 e.symm⟩
theorem getD_mem {α : Type} {l : List α} {k : Nat} (h : k < l.length) (d : α) : l.getD k d ∈ l := by simp [h]
theorem rise_step {l : List Int} {k : Nat} (hk : 1 ≤ k) (h : ∀ i, i + 1 < k → l.getD i 0 < l.getD (i + 1) 0) (hs : l.getD (k - 1) 0 < l.getD k 0) : ∀ i, i + 1 < k + 1 → l.getD i 0 < l.getD (i + 1) 0 := by
 intro i hi
 by_cases e : i + 1 = k
 · obtain rfl : i = k - 1 := by omega
   rw [show k - 1 + 1 = k by omega]; exact hs
 · exact h i (by omega)
theorem not_all {l : List Int} {k : Nat} (h : k < l.length) (hn : ¬ Car (l.getD k 0)) : ¬ ∀ m ∈ l, Car m := fun ha => hn (ha _ (getD_mem h 0))
theorem all_step {l : List Int} {k : Nat} (h : k < l.length) (ha : ∀ m ∈ l.take k, Car m) (hc : Car (l.getD k 0)) : ∀ m ∈ l.take (k + 1), Car m := by
 rw [tk_snoc l k h 0]
 intro m hm
 rcases List.mem_append.1 hm with hm | hm
 · exact ha m hm
 · obtain rfl := List.mem_singleton.1 hm; exact hc
theorem bids_step {ms : List Int} {l : List (Int × Int)} {k : Nat} (h : k < l.length) (ha : BidsOk ms (l.take k)) (h1 : (l.getD k (0, 0)).1 ∈ ms) (h2 : 0 ≤ (l.getD k (0, 0)).2) (h3 : (l.getD k (0, 0)).2 ≤ 1048576) : BidsOk ms (l.take (k + 1)) := by
 rw [tk_snoc l k h (0, 0)]
 intro b hb
 rcases List.mem_append.1 hb with hb | hb
 · exact ha b hb
 · obtain rfl := List.mem_singleton.1 hb; exact ⟨h1, h2, h3⟩
theorem bids_no {ms : List Int} {l : List (Int × Int)} {k : Nat} (h : k < l.length) (hn : ¬ ((l.getD k (0, 0)).1 ∈ ms ∧ 0 ≤ (l.getD k (0, 0)).2 ∧ (l.getD k (0, 0)).2 ≤ 1048576)) : ¬ BidsOk ms l := fun ha => hn (ha _ (getD_mem h (0, 0)))
def prevE (l : List En) (k : Nat) : Option En := if k = 0 then none else some (l.getD (k - 1) zeroE)
theorem entsC_at {ms : List Int} {l : List En} {k : Nat} (hk : k < l.length) (h : entsC ms (prevE l k) (l.drop k) = entsC ms none l) :
 (entC ms (prevE l k) (l.getD k zeroE) = 0 → entsC ms (prevE l (k + 1)) (l.drop (k + 1)) = entsC ms none l) ∧
 (entC ms (prevE l k) (l.getD k zeroE) ≠ 0 → entsC ms none l = entC ms (prevE l k) (l.getD k zeroE)) := by
 rw [dr_cons l k hk zeroE] at h
 have h : (if entC ms (prevE l k) (l.getD k zeroE) = 0 then entsC ms (some (l.getD k zeroE)) (l.drop (k + 1)) else entC ms (prevE l k) (l.getD k zeroE)) = entsC ms none l := h
 refine ⟨fun h0 => ?_, fun h0 => ?_⟩
 · rw [if_pos h0] at h
   rw [← h]
   show entsC ms (if k + 1 = 0 then none else some (l.getD (k + 1 - 1) zeroE)) _ = _
   rw [if_neg (by omega), Nat.add_sub_cancel]
 · rw [if_neg h0] at h
   exact h.symm
theorem ent_latch {ms : List Int} {p : Option En} {e : En} (h : ¬ (LatchOk e ∧ (e.aw = -1 ∨ e.aw ∈ ms))) : entC ms p e = 3 := by unfold entC; rw [if_pos h]
theorem ent_after {ms : List Int} {p : Option En} {e : En} (h : LatchOk e ∧ (e.aw = -1 ∨ e.aw ∈ ms)) (h2 : ¬ After p e) : entC ms p e = 11 := by
 unfold entC; rw [if_neg (fun hn => hn h), if_pos h2]
theorem ent_bids {ms : List Int} {p : Option En} {e : En} (h : LatchOk e ∧ (e.aw = -1 ∨ e.aw ∈ ms)) (h2 : After p e) : entC ms p e = bidsC ms e.bs := by
 unfold entC; rw [if_neg (fun hn => hn h), if_neg (fun hn => hn h2)]
theorem latch_step {l : List En} {k : Nat} (h : ∀ j, j < k → LatchOk (l.getD j zeroE)) (hk : LatchOk (l.getD k zeroE)) : ∀ j, j < k + 1 → LatchOk (l.getD j zeroE) := by
 intro j hj
 by_cases e : j = k
 · subst e; exact hk
 · exact h j (by omega)
theorem prev_pos {l : List En} {k : Nat} (h : 0 < k) : prevE l k = some (l.getD (k - 1) zeroE) := by unfold prevE; rw [if_neg (by omega)]
theorem prev_zero {l : List En} {k : Nat} (h : k = 0) : prevE l k = none := by unfold prevE; rw [if_pos h]
def AheadS (w0 : World) (g : Nat) (ve : Value) (b o : Nat) (q1 q2 : Int) (h : Nat) (e1 e2 : Int) (a : World) : Prop :=
 Fr w0 a [] ∧ a.cell? ⟨g, 4, none⟩ = some ve ∧ a.cell? ⟨b, o, none⟩ = some (.int .i64 q1) ∧ a.cell? ⟨b, o + 1, none⟩ = some (.int .i64 q2) ∧ a.cell? ⟨h, 0, none⟩ = some (.int .i64 e1) ∧ a.cell? ⟨h, 1, none⟩ = some (.int .i64 e2)
theorem AheadS.keep {w0 : World} {g : Nat} {ve : Value} {b o : Nat} {q1 q2 : Int} {h : Nat} {e1 e2 : Int} {a c : World} (hh : AheadS w0 g ve b o q1 q2 h e1 e2 a) (k : Fr a c []) : AheadS w0 g ve b o q1 q2 h e1 e2 c :=
 ⟨hh.1.trans k, k.cell hh.2.1 (by simp), k.cell hh.2.2.1 (by simp), k.cell hh.2.2.2.1 (by simp), k.cell hh.2.2.2.2.1 (by simp), k.cell hh.2.2.2.2.2 (by simp)⟩
theorem ringC_head {r : Rg} (h : ¬ HeadOk r) : ringC r = 3 := by unfold ringC; rw [if_pos h]
theorem ringC_many {r : Rg} (h : HeadOk r) (h2 : 16 < r.ms.length ∨ r.ms.length = 0 ∨ 128 < r.es.length) : ringC r = 4 := by unfold ringC; rw [if_neg (fun q => q h), if_pos h2]
theorem ringC_memb {r : Rg} (h : HeadOk r) (h2 : ¬ (16 < r.ms.length ∨ r.ms.length = 0 ∨ 128 < r.es.length)) (h3 : membC r.ms ≠ 0) : ringC r = membC r.ms := by unfold ringC; rw [if_neg (fun q => q h), if_neg h2, if_neg h3]
theorem ringC_ents {r : Rg} (h : HeadOk r) (h2 : ¬ (16 < r.ms.length ∨ r.ms.length = 0 ∨ 128 < r.es.length)) (h3 : membC r.ms = 0) : ringC r = entsC r.ms none r.es := by unfold ringC; rw [if_neg (fun q => q h), if_neg h2, if_pos h3]
end Go.Proofs.YtiflmkicnkbeaaaGreatDoor
namespace Go.Proofs.YtiflmkicnkbeaaaGreatDoor
open Go.RowKit Fm
def LightR (r : Rg) : Prop := (∀ e ∈ r.es, e.bs.length ≤ 16) ∧ r.ms.length ≤ 16 ∧ r.es.length ≤ 30 ∧ ringC r = 0
instance (r : Rg) : Decidable (LightR r) := by unfold LightR; infer_instance
end Go.Proofs.YtiflmkicnkbeaaaGreatDoor
namespace Go.Proofs.YtiflmkicnkbeaaaGreatDoor
open Go.RowKit Fm
theorem wpList_clear {P : Program} {w : World} {ops : Array Oper} {rest : List Oper} {o : Oper} {a : Act} {Q : Exit → Act → World → Prop} (hgd : o.guard = none) (s : Operand) (t : TypeId) (ho : o.op = .call { callee := .builtin .clear, args := #[s], argTypes := #[t] }) (v : Value) (hs : a.eval s = v)
 {v' : Value} {w' : World} (hr : (Builtin.clear_ #[t] o.type #[v]).run P w = .ok v' w') (h : wpList P ops Q rest (a.put o.dst v') w') : wpList P ops Q (o :: rest) a w := by
 refine wpList_plain hgd fun K hK => ?_
 unfold Oper.wp
 simp [execOp, ho, resolve, invoke, builtin, hs, hr, Result.andThen]
 exact hK _ _ h
theorem set_take {α : Type} {ys : List α} {i : Nat} {x : α} (h : i < ys.length) : (ys.set i x).take (i + 1) = ys.take i ++ [x] := by
 rw [List.take_succ_eq_append_getElem (by simpa using h), List.take_set_of_le (Nat.le_refl i)]
 simp
end Go.Proofs.YtiflmkicnkbeaaaGreatDoor
