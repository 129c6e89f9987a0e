import Derived.Test.YtiflmkicnkbeaaaGreatDoorRows
import Derived.WalkKit
import Derived.WalkSmall
import Derived.WalkSpells
import Derived.WalkLawsBesides
import Derived.Lib.Hide
import Derived.Laws.CopyOwn
import Derived.Laws.AppendOwnNone
import Derived.BigQuiet
import Derived.Deep.QuietTactic
import Derived.Deep.RegionHeld3
import Derived.Deep.AppendLies
import Derived.Laws.OwnMore
import Derived.Laws.BytesArg
import Derived.Laws.BytesString
import Derived.Lib.ConvBytes
import Derived.Lib.SliceRun
import Derived.Deep.RegionLaw
import Derived.OrdersHeld
import Derived.OpenShut
import Derived.Deep.RegionHeld
namespace Go.Proofs.YtiflmkicnkbeaaaGreatDoor
open Go.RowKit
theorem infoU8 : (Tryz.prog.info? 5).map (fun i => (i.zero, i.size, i.bytes)) = some (some (.int .u8 0), 1, 1) := by kernel_rfl
def Gives (Q : Value → World → Prop) (e : Ending) (w' : World) : Prop := ∃ v, e = .returned v ∧ Q v w'
theorem gives {Q : Value → World → Prop} {v : Value} {w' : World} (h : Q v w') : Gives Q (.returned v) w' := ⟨v, rfl, h⟩
def u8s (l : List Int) : List Value := l.map (Value.int .u8)
@[simp] theorem u8s_len (l : List Int) : (u8s l).length = l.length := by simp [u8s]
def Holds (k : IntKind) (w : World) (v : Value) (l : List Int) : Prop :=
 ∃ a cap, v = .slice a l.length cap ∧ l.length ≤ cap ∧ cap ≤ maxLen ∧
   (0 < l.length → ∃ b off, a = some ⟨b, off, none⟩ ∧ ∀ i, i < l.length → w.cell? ⟨b, off + i, none⟩ = some (.int k (l.getD i 0)))
abbrev Bytes (w : World) (v : Value) (l : List Int) : Prop := Holds .u8 w v l
theorem below_grown {a b : World} (h : a.grownBy b none) : Below a.heap.size a b := ⟨h.os, h.tape, h.output, h.size, fun k hk => h.block k hk (by simp)⟩
theorem grown_refl (a : World) (row : Option Nat) : a.grownBy a row := ⟨rfl, rfl, rfl, Nat.le_refl _, fun _ _ _ => rfl⟩
theorem one_cell (k : IntKind) (x : Int) : ∀ u ∈ [Value.int k x], u.oneCell' = true := by
 intro u hu; simp at hu; subst hu; rfl
theorem take_snoc (l : List Int) (k : Nat) (h : k < l.length) : l.take (k + 1) = l.take k ++ [l.getD k 0] := by
 rw [List.take_succ_eq_append_getElem h]; simp [h]
structure Fr (w w' : World) (S : List Nat) : Prop where
 os : w'.os = w.os
 tape : w'.tape = w.tape
 output : w'.output = w.output
 size : w.heap.size ≤ w'.heap.size
 block : ∀ k, k < w.heap.size → k ∉ S → w'.heap[k]? = w.heap[k]?
theorem Fr.refl (w : World) (S : List Nat) : Fr w w S := ⟨rfl, rfl, rfl, Nat.le_refl _, fun _ _ _ => rfl⟩
theorem Fr.mono {w w' : World} {S T : List Nat} (h : Fr w w' S) (hs : ∀ x ∈ S, x ∈ T ∨ w.heap.size ≤ x) : Fr w w' T :=
 ⟨h.os, h.tape, h.output, h.size, fun k hk hn => h.block k hk (fun hm => (hs k hm).elim hn (fun h1 => by omega))⟩
theorem Fr.comb {a b c : World} {S T U : List Nat} (h : Fr a b S) (k : Fr b c T) (hs : ∀ x ∈ S, x ∈ U ∨ a.heap.size ≤ x) (ht : ∀ x ∈ T, x ∈ U ∨ a.heap.size ≤ x) : Fr a c U :=
 ⟨k.os.trans h.os, k.tape.trans h.tape, k.output.trans h.output, Nat.le_trans h.size k.size, fun i hi hn =>
  (k.block i (Nat.lt_of_lt_of_le hi h.size) (fun hm => (ht i hm).elim hn (fun h1 => by omega))).trans (h.block i hi (fun hm => (hs i hm).elim hn (fun h1 => by omega)))⟩
theorem Fr.trans {a b c : World} {S : List Nat} (h : Fr a b S) (k : Fr b c S) : Fr a c S := h.comb k (fun _ hx => .inl hx) (fun _ hx => .inl hx)
theorem Fr.new {a b c : World} {S T : List Nat} (h : Fr a b S) (k : Fr b c T) (ht : ∀ x ∈ T, a.heap.size ≤ x) : Fr a c S := h.comb k (fun _ hx => .inl hx) (fun x hx => .inr (ht x hx))
theorem Fr.alloc (w : World) (o : Obj) (S : List Nat) : Fr w (w.alloc o) S := ⟨rfl, rfl, rfl, by simp, fun k hk _ => Below.heap_alloc w o k hk⟩
theorem Fr.setCell (w : World) (b i : Nat) (v : Value) {S : List Nat} (h : b ∈ S) : Fr w (w.setCell ⟨b, i, none⟩ v) S :=
 ⟨rfl, rfl, rfl, by simp, fun k _ hk => heap_setCell_other w ⟨b, i, none⟩ k v (fun e => hk (by simp only at e; rw [e]; exact h))⟩
theorem Fr.drew (w : World) (S : List Nat) : Fr w w.drew S := ⟨rfl, rfl, rfl, Nat.le_refl _, fun _ _ _ => rfl⟩
theorem Fr.drewN (w : World) (n : Nat) (S : List Nat) : Fr w (w.drewN n) S := ⟨rfl, rfl, rfl, Nat.le_refl _, fun _ _ _ => rfl⟩
theorem Fr.of_grown {w w' : World} (h : w.grownBy w' none) (S : List Nat) : Fr w w' S := ⟨h.os, h.tape, h.output, h.size, fun k hk _ => h.block k hk (by simp)⟩
theorem Fr.of_grown_row {w w' : World} {g : Nat} (h : w.grownBy w' (some g)) {S : List Nat} (hg : g ∈ S) : Fr w w' S := ⟨h.os, h.tape, h.output, h.size, fun k hk hn => h.block k hk (by simp; intro e; subst e; exact hn hg)⟩
theorem Fr.grown {w w' : World} {S : List Nat} (h : Fr w w' S) (hs : ∀ x ∈ S, w.heap.size ≤ x) : w.grownBy w' none := ⟨h.os, h.tape, h.output, h.size, fun k hk _ => h.block k hk (fun hm => by have := hs k hm; omega)⟩
theorem Fr.cell {w w' : World} {S : List Nat} (h : Fr w w' S) {a : Addr} {v : Value} (hc : w.cell? a = some v) (hn : a.block ∉ S) : w'.cell? a = some v :=
 (World.cell?_of_block (h.block a.block (World.block_lt_of_cell? w a hc) hn)).trans hc
theorem Fr.heap {w w' : World} {S : List Nat} (h : Fr w w' S) {k : Nat} {o : Obj} (hk : w.heap[k]? = some o) (hn : k ∉ S) : w'.heap[k]? = some o := by
 rw [h.block k (Array.getElem?_eq_some_iff.1 hk).1 hn]; exact hk
theorem Holds.fr {k : IntKind} {w w' : World} {v : Value} {l : List Int} {S : List Nat} (h : Holds k w v l) (hg : Fr w w' S) (hne : ∀ r ∈ S, v.ownBlock ≠ some r) : Holds k w' v l := by
 obtain ⟨a, cap, rfl, h1, h2, h3⟩ := h
 refine ⟨a, cap, rfl, h1, h2, fun h0 => ?_⟩
 obtain ⟨b, off, rfl, hc⟩ := h3 h0
 exact ⟨b, off, rfl, fun i hi => hg.cell (hc i hi) (fun hm => hne b hm rfl)⟩
theorem make_zero (w : World) (n : Nat) (hc : n ≤ 140737488355328) (C : Int) (hC : C = (n : Int)) :
 (Instr.makeSlice 62 (.int .i64 C) (.int .i64 C)).run Tryz.prog w = .ok (.slice (some ⟨w.heap.size, 0, none⟩) n n) (w.alloc (.cells (u8s (List.replicate n 0)).toArray 5)) := by
 obtain ⟨i0, hi, hz0, hz1, hz2⟩ := info_parts infoU8
 subst hC
 have hr := run_make (P := Tryz.prog) w 62 5 i0 (.int .u8 0) Tryz.underlying62 hi hz0 .i64 .i64 (n : Int) (n : Int) (by omega) (by omega) (by rw [hz2]; omega) (by omega)
 rw [hr, Int.toNat_natCast, hz1, Nat.mul_one]
 have e : madeCells (Value.int .u8 0).cells n = (u8s (List.replicate n 0)).toArray := by
  have h : ∀ x ∈ List.range n, (fun x => (Value.int .u8 0).cells[x % (Value.int .u8 0).cells.size]!) x = Value.int .u8 0 := by
   intro x _; simp [Value.cells, Nat.mod_one]
  apply Array.ext'
  simp only [madeCells, Array.toList_map, Array.toList_range]
  rw [List.map_congr_left h]
  refine List.ext_getElem (by simp [u8s]) (fun i h1 h2 => by simp [u8s])
 rw [e]
end Go.Proofs.YtiflmkicnkbeaaaGreatDoor
namespace Go.Proofs.YtiflmkicnkbeaaaGreatDoor
open Go.RowKit
section
variable {P : Program} {ops : Array Oper} {Q : Exit → Act → World → Prop} {md : Region.Mode} {S : World → Prop}
theorem zHU {fuel : Nat} {listed : Array Bool} {a : Act} {w : World} (h : Hid (∀ w, S w → S w) → wpAnyH P md ops Q S fuel listed a w) : wpAnyH P md ops Q S fuel listed a w := h (Lib.hid fun _ h => h)
theorem zH (i : Nat) {oi : Oper} {v : Value} {fuel : Nat} {listed l' : Array Bool} {a a' : Act} {w : World}
 (h : wpAnyH P md ops Q S fuel l' a' w)
 (hi : ops[i]? = some oi := by (first | (simp only [List.getElem?_toArray, List.getElem?_cons_zero, List.getElem?_cons_succ]; rfl) | rfl))
 (hs : Region.noSelect ops = true := by kernel_rfl) (hf : Region.free md ops listed i = true := by kernel_rfl) (hr : (Region.ready md ops listed).contains i = true := by kernel_rfl)
 (hw : Region.wanted oi (yielded ops a.tmps) = true := by rfl)
 (hv : ∀ w, S w → (execOp a.eval oi).run P w = .ok (.value v) w := by (intro w hS0; have hSw := hU.out w hS0; clear hS0; go_simp; try with_reducible rfl))
 (hQ : ∀ c a w, Q (.panic c) (a.put oi.dst v) w → Q (.panic c) a w := by exact fun _ _ _ h => h)
 (hS : S w := by assumption)
 (hl : listed.setIfInBounds i true = l' := by (try simp only [List.setIfInBounds_toArray, List.set_cons_zero, List.set_cons_succ]); rfl)
 (ha : a.put oi.dst v = a' := by (try simp only [Act.put, List.setIfInBounds_toArray, List.set_cons_zero, List.set_cons_succ]); rfl) :
 wpAnyH P md ops Q S (fuel + 1) listed a w := by
 subst hl ha
 exact wpAnyH_take hi hs hf hr hQ (.inl ⟨hw, hv⟩) hS h
end
end Go.Proofs.YtiflmkicnkbeaaaGreatDoor
namespace Go.Proofs.YtiflmkicnkbeaaaGreatDoor
open Go.RowKit
section
variable {P : Program} {ops : Array Oper} {Q : Exit → Act → World → Prop} {md : Region.Mode} {S : World → Prop}
def Came (P : Program) (S : World → Prop) (v : Value) : Result Next → Prop
 | .ok (.value x) w' => x = v ∧ S w'
 | .ok .skip w' => v = undef ∧ S w'
 | .ok (.enter f args) w' => Calls P f args w' fun e w'' => e = .returned v ∧ S w''
 | _ => False
theorem Came.value {v x : Value} {w' : World} (h : x = v) (hS : S w') : Came P S v (.ok (.value x) w') := ⟨h, hS⟩
theorem Came.call {v u : Value} {f : FuncId} {args : Array Value} {w' : World} (h : Calls P f args w' fun e w'' => e = .returned u ∧ S w'') (hv : u = v) : Came P S v (.ok (.enter f args) w') := hv ▸ h
def EndsIf (P : Program) (ops : Array Oper) (S : World → Prop) (o : Oper) (v : Value) (a : Act) : Prop :=
 (Region.wanted o (yielded ops a.tmps) = true ∧ ∀ w, S w → Came P S v ((execOp a.eval o).run P w)) ∨
 (Region.wanted o (yielded ops a.tmps) = false ∧ v = undef)
theorem EndsIf.of_same {o : Oper} {v : Value} {a a' : Act} (hy : EndsIf P ops S o v a) (he : execOp a'.eval o = execOp a.eval o)
 (hw : Region.wanted o (yielded ops a'.tmps) = Region.wanted o (yielded ops a.tmps)) : EndsIf P ops S o v a' := by
 unfold EndsIf at *
 rw [he, hw]
 exact hy
theorem EndsIf.wpOp {i : Nat} {o : Oper} {v : Value} {a : Act} (hi : ops[i]? = some o) (hy : EndsIf P ops S o v a)
 {K : Act → World → Prop} {w : World} (hS : S w) (h : ∀ w', S w' → K (a.put o.dst v) w') : wpOp P ops Q i K a w := by
 unfold Go.wpOp
 simp only [hi]
 rcases hy with ⟨hw, hv⟩ | ⟨hw, rfl⟩
 · simp only [hw, if_true]
   refine .inl ?_
   have h1 := hv w hS
   unfold Oper.wp
   generalize (execOp a.eval o).run P w = r at h1
   cases r with
   | ok n w' =>
     cases n with
     | value x => obtain ⟨rfl, h2⟩ := h1; exact h _ h2
     | skip => obtain ⟨rfl, h2⟩ := h1; exact h _ h2
     | enter f args =>
       refine Calls.mono h1 ?_
       rintro e w'' ⟨rfl, h2⟩
       exact h _ h2
     | defer d => exact h1.elim
     | row r args => exact h1.elim
     | _ => exact h1.elim
   | halt x w' => exact h1.elim
 · simp only [hw, Bool.false_eq_true, if_false]
   exact h w hS
def wpDet (P : Program) (md : Region.Mode) (ops : Array Oper) (Q : Exit → Act → World → Prop) (S : World → Prop) : Nat → Array Bool → Act → Prop
 | 0, listed, a => Region.ready md ops listed = [] ∧ ∀ w, S w → Q .normal a w
 | fuel + 1, listed, a =>
   (Region.ready md ops listed = [] → ∀ w, S w → Q .normal a w) ∧
   ∀ i ∈ Region.ready md ops listed, ∃ o v, ops[i]? = some o ∧ EndsIf P ops S o v a ∧ wpDet P md ops Q S fuel (listed.setIfInBounds i true) (a.put o.dst v)
theorem wpAny_of_det : ∀ (fuel : Nat) (listed : Array Bool) (a : Act), wpDet P md ops Q S fuel listed a → ∀ w, S w → wpAny P md ops Q fuel listed a w
 | 0, _, _, h, w, hS => ⟨h.1, h.2 w hS⟩
 | fuel + 1, _, _, h, w, hS => ⟨fun h0 => h.1 h0 w hS, fun i hi => by
  obtain ⟨o, v, ho, hy, h'⟩ := h.2 i hi
  exact hy.wpOp ho hS (fun w' hS' => wpAny_of_det fuel _ _ h' w' hS')⟩
theorem wpDet_first {i : Nat} {oi : Oper} {v : Value} (hi : ops[i]? = some oi) (hsel : ∀ (j : Nat) (o : Oper) cs b, ops[j]? = some o → o.op ≠ .select cs b) :
 ∀ (fuel : Nat) (listed : Array Bool) (a : Act),
   (∀ j oj, ops[j]? = some oj → j ≠ i → listed.getD j true = false → (∀ e ∈ oj.after, Region.binds md e = true → e.on ≠ i) → oi.apart ops oj = true) →
   i ∈ Region.ready md ops listed → EndsIf P ops S oi v a →
   wpDet P md ops Q S fuel (listed.setIfInBounds i true) (a.put oi.dst v) → wpDet P md ops Q S (fuel + 1) listed a := by
 intro fuel
 induction fuel with
 | zero =>
   intro listed a _ hr hy H
   refine ⟨fun h => (by rw [h] at hr; cases hr), fun j hj => ?_⟩
   by_cases hji : j = i
   · subst hji; exact ⟨oi, v, hi, hy, H⟩
   · have := ready_mono hj hji
     rw [H.1] at this
     cases this
 | succ fuel ih =>
   intro listed a hfree hr hy H
   refine ⟨fun h => (by rw [h] at hr; cases hr), fun j hj => ?_⟩
   by_cases hji : j = i
   · subst hji; exact ⟨oi, v, hi, hy, H⟩
   · obtain ⟨oj, u, hoj, hyj, H'⟩ := H.2 j (ready_mono hj hji)
     obtain ⟨hjun, oj', hoj', hall⟩ := mem_ready.1 hj
     obtain rfl := Option.some.inj (hoj.symm.trans hoj')
     have hnot : ∀ e ∈ oj.after, Region.binds md e = true → e.on ≠ i := fun e he hb heq => by
      have h1 := hall e he hb
      have h0 := (mem_ready.1 hr).1
      rw [heq] at h1
      rcases Nat.lt_or_ge i listed.size with h' | h'
      · simp [h'] at h0 h1; rw [h0] at h1; cases h1
      · simp [Array.getElem?_eq_none h'] at h1
     obtain ⟨h1, h2, h3⟩ := Oper.apart_spec (hfree j oj hoj hji hjun hnot)
     have hfree' : ∀ k ok, ops[k]? = some ok → k ≠ i → (listed.setIfInBounds j true).getD k true = false →
      (∀ e ∈ ok.after, Region.binds md e = true → e.on ≠ i) → oi.apart ops ok = true := fun k ok hk hki hun hno => by
      refine hfree k ok hk hki ?_ hno
      by_cases hjk : j = k
      · subst hjk; exact hjun
      · rw [getD_set_ne true hjk] at hun; exact hun
     refine ⟨oj, u, hoj, hyj.of_same (execOp_put oj (fun cs b => hsel j oj cs b hoj) a oi.dst v h1).symm (wanted_put oj a oi.dst v h1).symm, ?_⟩
     refine ih (listed.setIfInBounds j true) (a.put oj.dst u) hfree' (ready_mono hr (Ne.symm hji)) (hy.of_same (execOp_put oi (fun cs b => hsel i oi cs b hi) a oj.dst u h3) (wanted_put oi a oj.dst u h3)) ?_
     rw [Array.setIfInBounds_comm _ _ hji, ← Act.put_comm a v u h2]
     exact H'
theorem wpDet_take {i : Nat} {oi : Oper} {v : Value} {fuel : Nat} {listed : Array Bool} {a : Act} (hi : ops[i]? = some oi)
 (hs : Region.noSelect ops = true) (hf : Region.free md ops listed i = true) (hr : (Region.ready md ops listed).contains i = true)
 (hy : EndsIf P ops S oi v a)
 (h : wpDet P md ops Q S fuel (listed.setIfInBounds i true) (a.put oi.dst v)) : wpDet P md ops Q S (fuel + 1) listed a :=
 wpDet_first hi (Region.noSelect_spec hs) fuel listed a (Region.free_spec hi hf) (by simpa using hr) hy h
theorem wpDet_done {listed : Array Bool} {a : Act} (hr : Region.ready md ops listed = []) (h : ∀ w, S w → Q .normal a w) :
 ∀ fuel, wpDet P md ops Q S fuel listed a
 | 0 => ⟨hr, h⟩
 | _ + 1 => ⟨fun _ => h, by rw [hr]; simp⟩
theorem wp_region_det {id : Nat} {a : Act} {w : World} (hm : P.follows .mixedOrders = true) (hS : S w.drew)
 (h : wpDet P .any ops Q S ops.size (Array.replicate ops.size false) a) : (Code.region id ops true).wp P Q a w :=
 wp_region_any hm (wpAny_of_det _ _ _ h _ hS)
end
end Go.Proofs.YtiflmkicnkbeaaaGreatDoor
namespace Go.Proofs.YtiflmkicnkbeaaaGreatDoor
open Go.RowKit
section
variable {P : Program} {ops : Array Oper} {Q : Exit → Act → World → Prop} {md : Region.Mode} {S : World → Prop}
theorem zDU {fuel : Nat} {listed : Array Bool} {a : Act} (h : Hid (∀ w, S w → S w) → wpDet P md ops Q S fuel listed a) : wpDet P md ops Q S fuel listed a := h (Lib.hid fun _ h => h)
theorem zD (i : Nat) {oi : Oper} {v : Value} {fuel : Nat} {listed l' : Array Bool} {a a' : Act}
 (h : wpDet P md ops Q S fuel l' a')
 (hi : ops[i]? = some oi := by (first | (simp only [List.getElem?_toArray, List.getElem?_cons_zero, List.getElem?_cons_succ]; rfl) | rfl))
 (hs : Region.noSelect ops = true := by kernel_rfl) (hf : Region.free md ops listed i = true := by kernel_rfl) (hr : (Region.ready md ops listed).contains i = true := by kernel_rfl)
 (hw : Region.wanted oi (yielded ops a.tmps) = true := by rfl)
 (hv : ∀ w, S w → Came P S v ((execOp a.eval oi).run P w) := by (intro w hS0; have hSw := hU.out w hS0; go_simp; exact Came.value (by with_reducible rfl) hS0))
 (hl : listed.setIfInBounds i true = l' := by (try simp only [List.setIfInBounds_toArray, List.set_cons_zero, List.set_cons_succ]); rfl)
 (ha : a.put oi.dst v = a' := by (try simp only [Act.put, List.setIfInBounds_toArray, List.set_cons_zero, List.set_cons_succ]); rfl) :
 wpDet P md ops Q S (fuel + 1) listed a := by
 subst hl ha
 exact wpDet_take hi hs hf hr (.inl ⟨hw, hv⟩) h
theorem zDs (i : Nat) {oi : Oper} {fuel : Nat} {listed l' : Array Bool} {a a' : Act}
 (h : wpDet P md ops Q S fuel l' a')
 (hi : ops[i]? = some oi := by (first | (simp only [List.getElem?_toArray, List.getElem?_cons_zero, List.getElem?_cons_succ]; rfl) | rfl))
 (hs : Region.noSelect ops = true := by kernel_rfl) (hf : Region.free md ops listed i = true := by kernel_rfl) (hr : (Region.ready md ops listed).contains i = true := by kernel_rfl)
 (hw : Region.wanted oi (yielded ops a.tmps) = false := by rfl)
 (hl : listed.setIfInBounds i true = l' := by (try simp only [List.setIfInBounds_toArray, List.set_cons_zero, List.set_cons_succ]); rfl)
 (ha : a.put oi.dst undef = a' := by (try simp only [Act.put, List.setIfInBounds_toArray, List.set_cons_zero, List.set_cons_succ]); rfl) :
 wpDet P md ops Q S (fuel + 1) listed a := by
 subst hl ha
 exact wpDet_take hi hs hf hr (.inr ⟨hw, rfl⟩) h
end
end Go.Proofs.YtiflmkicnkbeaaaGreatDoor
namespace Go.Proofs.YtiflmkicnkbeaaaGreatDoor
open Go.RowKit
theorem size_of_row {w : World} {g : Nat} {o : Obj} (h : w.heap[g]? = some o) : g < w.heap.size := (Array.getElem?_eq_some_iff.1 h).1
theorem row2 {w : World} {g : Nat} {a b : Value} {T : TypeId} (h : w.heap[g]? = some (.cells #[a, b] T (0, 0))) :
 w.cell? ⟨g, 0, none⟩ = some a ∧ w.cell? ⟨g, 1, none⟩ = some b :=
 ⟨by rw [cell_of_row w g 0 _ _ _ h]; rfl, by rw [cell_of_row w g 1 _ _ _ h]; rfl⟩
theorem Holds.shape {k : IntKind} {w : World} {v : Value} {l : List Int} (h : Holds k w v l) : ∃ a cap, v = .slice a l.length cap := by
 obtain ⟨a, cap, h, _⟩ := h; exact ⟨a, cap, h⟩
theorem Holds.keep {k : IntKind} {w w' : World} {v : Value} {l : List Int} (h : Holds k w v l) (hg : Fr w w' []) : Holds k w' v l := h.fr hg (by simp)
theorem row_shape {w : World} {B sz n : Nat} {T : TypeId} {v : Value} {xs : List Value} (h : w.ownsRow B T sz v n xs) : ∃ a c, v = .slice a n c := by
 rcases h.2 with ⟨rfl, h0⟩ | ⟨g, cap, cur, rfl, _⟩
 · exact ⟨none, 0, by rw [h0]⟩
 · exact ⟨_, _, rfl⟩
theorem row_head {w : World} {B sz n : Nat} {T : TypeId} {v : Value} {xs : List Value} (h : w.ownsRow B T sz v n xs) (h0 : 0 < n) : ∃ g c, v = .slice (some ⟨g, 0, none⟩) n c ∧ n ≤ c ∧ c ≤ maxLen ∧ w.heap.size > g := by
 rcases h.2 with ⟨_, h1⟩ | ⟨g, cap, cur, rfl, _, hg, hn, hm, _⟩
 · omega
 · exact ⟨g, cap, rfl, hn, hm, size_of_row hg⟩
theorem row_n {w : World} {B sz n m g c : Nat} {T : TypeId} {xs : List Value} (h : w.ownsRow B T sz (.slice (some ⟨g, 0, none⟩) m c) n xs) : m = n := by
 obtain ⟨a, c', he⟩ := row_shape h
 simp only [Value.slice.injEq] at he
 exact he.2.1
theorem row_at {w : World} {B sz n m g c : Nat} {T : TypeId} {xs : List Value} (h : w.ownsRow B T sz (.slice (some ⟨g, 0, none⟩) m c) n xs) : ∃ cs : Array Value, w.heap[g]? = some (.cells cs T (0, 0)) ∧ B ≤ g ∧ n ≤ c ∧ c ≤ maxLen ∧ cs.size = c * sz ∧ cs.toList.take (n * sz) = xs := by
 rcases h.2 with ⟨h, _⟩ | ⟨g', cap', cur, h, hb, hg, h1, h2, h3, h4⟩
 · simp at h
 · simp only [Value.slice.injEq, Option.some.injEq, Addr.mk.injEq, and_true] at h
   obtain ⟨rfl, rfl, rfl⟩ := h
   exact ⟨cur, hg, hb, h1, h2, h3, h4⟩
theorem row_fr {w w' : World} {B sz n : Nat} {T : TypeId} {v : Value} {xs : List Value} {S : List Nat} (h : w.ownsRow B T sz v n xs) (hg : Fr w w' S) (hne : ∀ r ∈ S, v.ownBlock ≠ some r) : w'.ownsRow B T sz v n xs := by
 refine ⟨h.1, ?_⟩
 rcases h.2 with h2 | ⟨g, cap, cur, rfl, hb, hgg, rest⟩
 · exact .inl h2
 · exact .inr ⟨g, cap, cur, rfl, hb, hg.heap hgg (fun hm => hne g hm rfl), rest⟩
theorem row_ne {w : World} {B sz n : Nat} {T T' : TypeId} {v : Value} {xs : List Value} {g : Nat} {cs : Array Value} {fz : Nat × Nat} (h : w.ownsRow B T sz v n xs) (hg : w.heap[g]? = some (.cells cs T' fz)) (hT : T' ≠ T) : v.ownBlock ≠ some g := by
 rcases h.2 with ⟨rfl, _⟩ | ⟨g', cap, cur, rfl, hb, hgg, rest⟩
 · simp [Value.ownBlock]
 · intro e
   obtain rfl : g' = g := by simpa [Value.ownBlock] using e
   rw [hg] at hgg
   simp at hgg
   exact hT hgg.2.1
theorem row_mono {w : World} {B B' sz n : Nat} {T : TypeId} {v : Value} {xs : List Value} (h : w.ownsRow B T sz v n xs) (hB : B' ≤ B) : w.ownsRow B' T sz v n xs :=
 ⟨h.1, h.2.imp id (fun ⟨g, cap, cur, a, b, c⟩ => ⟨g, cap, cur, a, by omega, c⟩)⟩
theorem Fr.grown_own {w0 w w' : World} {S : List Nat} {v : Value} (hf : Fr w0 w S) (hgr : w.grownBy w' v.ownBlock) (h : ∀ r, v.ownBlock = some r → r ∈ S ∨ w0.heap.size ≤ r) : Fr w0 w' S :=
 ⟨hgr.os.trans hf.os, hgr.tape.trans hf.tape, hgr.output.trans hf.output, Nat.le_trans hf.size hgr.size, fun k hk hn => by
  rw [hgr.block k (Nat.lt_of_lt_of_le hk hf.size) (fun e => (h k e.symm).elim hn (fun h1 => by omega))]; exact hf.block k hk hn⟩
end Go.Proofs.YtiflmkicnkbeaaaGreatDoor
namespace Go.Proofs.YtiflmkicnkbeaaaGreatDoor
open Go.RowKit
theorem infoI : (Tryz.prog.info? 3).map (fun i => (i.zero, i.size, i.bytes)) = some (some (.int .i64 0), 1, 8) := by kernel_rfl
def i64s (l : List Int) : List Value := l.map (Value.int .i64)
@[simp] theorem i64s_len (l : List Int) : (i64s l).length = l.length := by simp [i64s]
theorem i64s_snoc (l : List Int) (x : Int) : i64s (l ++ [x]) = i64s l ++ [.int .i64 x] := by simp [i64s]
def OwnI (w : World) (B : Nat) (v : Value) (l : List Int) : Prop := w.ownsRow B 3 1 v l.length (i64s l)
abbrev HInts (w : World) (v : Value) (l : List Int) : Prop := Holds .i64 w v l
theorem OwnI.holds {w : World} {B : Nat} {v : Value} {l : List Int} (h : OwnI w B v l) : HInts w v l := by
 rcases h.2 with ⟨rfl, h0⟩ | ⟨g, cap, cur, rfl, hb, hg, hn, hm, hs, ht⟩
 · obtain rfl := List.eq_nil_of_length_eq_zero h0
   exact ⟨none, 0, rfl, by simp, by decide, fun h => absurd h (by simp)⟩
 · refine ⟨_, cap, rfl, hn, hm, fun _ => ⟨g, 0, rfl, fun i hi => ?_⟩⟩
   have e : (i64s l)[i]? = some (.int .i64 (l.getD i 0)) := by simp [i64s, hi]
   rw [← ht] at e
   rw [List.getElem?_take_of_lt (by omega)] at e
   rw [Nat.zero_add, cell_of_row w g i _ _ _ hg]
   simpa using e
theorem OwnI.fr {w w' : World} {B : Nat} {v : Value} {l : List Int} {S : List Nat} (h : OwnI w B v l) (hg : Fr w w' S) (hne : ∀ r ∈ S, v.ownBlock ≠ some r) : OwnI w' B v l := row_fr h hg hne
theorem OwnI.keep {w w' : World} {B : Nat} {v : Value} {l : List Int} (h : OwnI w B v l) (hg : Fr w w' []) : OwnI w' B v l := h.fr hg (by simp)
theorem OwnI.far {w w' : World} {B p : Nat} {v : Value} {l : List Int} (h : OwnI w B v l) (hg : Fr w w' [p]) {cs : Array Value} {T : TypeId} {fz : Nat × Nat} (hp : w.heap[p]? = some (.cells cs T fz)) (hT : T ≠ 3) : OwnI w' B v l :=
 h.fr hg (by intro r hr; obtain rfl := List.mem_singleton.1 hr; exact row_ne h hp hT)
theorem OwnI.nil (w : World) (B : Nat) : OwnI w B (.slice none 0 0) [] := ⟨rfl, .inl ⟨rfl, rfl⟩⟩
theorem OwnI.snoc {w : World} {B : Nat} {v : Value} {l : List Int} {x : Int} (h : w.ownsRow B 3 1 v (l.length + 1) (i64s l ++ [.int .i64 x])) : OwnI w B v (l ++ [x]) := by
 unfold OwnI
 rw [i64s_snoc]
 simpa using h
theorem OwnI.block {w : World} {B : Nat} {v : Value} {l : List Int} (h : OwnI w B v l) : ∀ r, v.ownBlock = some r → B ≤ r ∧ r < w.heap.size := World.ownsRow.lt h
theorem OwnI.mono {w : World} {B B' : Nat} {v : Value} {l : List Int} (h : OwnI w B v l) (hB : B' ≤ B) : OwnI w B' v l := row_mono h hB
end Go.Proofs.YtiflmkicnkbeaaaGreatDoor
namespace Go.Proofs.YtiflmkicnkbeaaaGreatDoor
open Go.RowKit
section
variable {P : Program} {ops : Array Oper} {Q : Exit → Act → World → Prop} {md : Region.Mode} {S : World → Prop}
def allIn (md : Region.Mode) (ops : Array Oper) (listed : Array Bool) : Prop :=
 ∀ p o, ops[p]? = some o → listed.getD p false = true → ∀ e ∈ o.after, Region.binds md e = true → listed.getD e.on false = true
theorem allIn_start : allIn md ops (Array.replicate ops.size false) := by
 intro p o ho hp
 have hlt : p < ops.size := (Array.getElem?_eq_some_iff.1 ho).1
 simp [hlt] at hp
theorem getD_up {listed : Array Bool} {k i : Nat} (h : listed.getD i false = true) : (listed.setIfInBounds k true).getD i false = true := by
 by_cases e : k = i
 · subst e
   rcases Nat.lt_or_ge k listed.size with h' | h'
   · simp [h']
   · simp [Array.getElem?_eq_none h'] at h
 · rw [getD_set_ne false e]; exact h
theorem allIn_set {listed : Array Bool} (h : allIn md ops listed) {k : Nat} (hk : k ∈ Region.ready md ops listed) : allIn md ops (listed.setIfInBounds k true) := by
 intro p o ho hp e he hb
 refine getD_up ?_
 obtain ⟨_, ok, hok, hall⟩ := mem_ready.1 hk
 by_cases hkp : k = p
 · subst hkp
   obtain rfl := Option.some.inj (hok.symm.trans ho)
   exact hall e he hb
 · rw [getD_set_ne false hkp] at hp
   exact h p o ho hp e he hb
def waitsM (md : Region.Mode) (ops : Array Oper) (p : Nat) : Nat :=
 match ops[p]? with
 | some o => o.after.toList.foldl (fun a e => if Region.binds md e then a ||| 2 ^ e.on else a) 0
 | none => 0
def reachM (md : Region.Mode) (ops : Array Oper) : Nat → Nat → Nat
 | 0, m => m
 | p + 1, m => reachM md ops p (if m.testBit p then m ||| waitsM md ops p else m)
def InM (listed : Array Bool) (m : Nat) : Prop := ∀ i, m.testBit i = true → listed.getD i false = true
theorem InM.or {listed : Array Bool} {m n : Nat} (h : InM listed m) (k : InM listed n) : InM listed (m ||| n) := fun i hi => by
 rw [Nat.testBit_or, Bool.or_eq_true] at hi
 exact hi.elim (h i) (k i)
theorem waits_in {listed : Array Bool} {p : Nat} {o : Oper} (ho : ops[p]? = some o) (h : ∀ e ∈ o.after, Region.binds md e = true → listed.getD e.on false = true) : InM listed (waitsM md ops p) := by
 unfold waitsM
 rw [ho]
 have key : ∀ (l : List _) (a : Nat), (∀ e ∈ l, Region.binds md e = true → listed.getD e.on false = true) → InM listed a → InM listed (l.foldl (fun a e => if Region.binds md e then a ||| 2 ^ e.on else a) a) := by
  intro l
  induction l with
  | nil => intro a _ ha; exact ha
  | cons e l ih =>
    intro a hl ha
    refine ih _ (fun e' he' => hl e' (List.mem_cons_of_mem _ he')) ?_
    by_cases hb : Region.binds md e = true
    · dsimp only
      rw [if_pos hb]
      refine ha.or (fun i hi => ?_)
      rw [Nat.testBit_two_pow] at hi
      obtain rfl : e.on = i := of_decide_eq_true hi
      exact hl e (List.mem_cons_self ..) hb
    · dsimp only
      rw [if_neg hb]; exact ha
 exact key _ 0 (fun e he => h e (by simpa using he)) (fun i hi => by simp at hi)
theorem reach_in {listed : Array Bool} (h : allIn md ops listed) : ∀ (p m : Nat), InM listed m → InM listed (reachM md ops p m)
 | 0, _, hm => hm
 | p + 1, m, hm => by
   refine reach_in h p _ ?_
   split
   · rename_i hp
     refine hm.or ?_
     cases ho : ops[p]? with
     | none => intro i hi; simp [waitsM, ho] at hi
     | some o => exact waits_in ho (h p o ho (hm p hp))
   · exact hm
end
end Go.Proofs.YtiflmkicnkbeaaaGreatDoor
namespace Go.Proofs.YtiflmkicnkbeaaaGreatDoor
open Go.RowKit
section
variable {P : Program} {ops : Array Oper} {Q : Exit → Act → World → Prop} {md : Region.Mode}
def Lasts (M : World → Prop) : Prop := ∀ a a', M a → Fr a a' [] → M a'
theorem Lasts.row {M : World → Prop} (h : Lasts M) (b p : Nat) (o : Obj) : Lasts (fun w => M w ∧ b ≤ p ∧ w.heap[p]? = some o) :=
 fun _ _ k f => ⟨h _ _ k.1 f, k.2.1, f.heap k.2.2 (by simp)⟩
def NewOp (P : Program) (ops : Array Oper) (o : Oper) (f : Nat → Value) (obj : Obj) (a : Act) : Prop :=
 Region.wanted o (yielded ops a.tmps) = true ∧ ∀ w, (execOp a.eval o).run P w = .ok (.value (f w.heap.size)) (w.alloc obj)
theorem NewOp.of_same {o : Oper} {f : Nat → Value} {obj : Obj} {a a' : Act} (hy : NewOp P ops o f obj a) (he : execOp a'.eval o = execOp a.eval o)
 (hw : Region.wanted o (yielded ops a'.tmps) = Region.wanted o (yielded ops a.tmps)) : NewOp P ops o f obj a' := by
 unfold NewOp at *
 rw [he, hw]
 exact hy
theorem NewOp.wpOp {i : Nat} {o : Oper} {f : Nat → Value} {obj : Obj} {a : Act} (hi : ops[i]? = some o) (hy : NewOp P ops o f obj a)
 {K : Act → World → Prop} {w : World} (h : K (a.put o.dst (f w.heap.size)) (w.alloc obj)) : wpOp P ops Q i K a w := by
 unfold Go.wpOp
 simp only [hi, hy.1, if_true]
 refine .inl ?_
 unfold Oper.wp
 rw [hy.2 w]
 exact h
def bitsM : List Nat → Nat
 | [] => 0
 | i :: l => bitsM l ||| 2 ^ i
theorem bitsM_spec {l : List Nat} {i : Nat} (h : (bitsM l).testBit i = true) : i ∈ l := by
 induction l with
 | nil => simp [bitsM] at h
 | cons j l ih =>
   rw [bitsM, Nat.testBit_or, Bool.or_eq_true] at h
   rcases h with h | h
   · exact List.mem_cons_of_mem _ (ih h)
   · rw [Nat.testBit_two_pow] at h
     rw [of_decide_eq_true h]; exact List.mem_cons_self ..
def tailOF (md : Region.Mode) (ops : Array Oper) (t : Nat) (F : List Nat) : Bool :=
 (List.range ops.size).all fun k => decide (k < t) || ((reachM md ops k (waitsM md ops k) ||| bitsM F) &&& (2 ^ t - 1)) == 2 ^ t - 1
theorem tail_waitsF {t : Nat} {F : List Nat} (ht : tailOF md ops t F = true) {listed : Array Bool} (hc : allIn md ops listed) {k : Nat} (hk : k ∈ Region.ready md ops listed) (htk : t ≤ k) : ∀ i < t, i ∉ F → listed.getD i false = true := by
 obtain ⟨_, o, ho, hall⟩ := mem_ready.1 hk
 have hlt : k < ops.size := (Array.getElem?_eq_some_iff.1 ho).1
 have h := List.all_eq_true.1 ht k (List.mem_range.2 hlt)
 rw [decide_eq_false (by omega), Bool.false_or, beq_iff_eq] at h
 intro i hi hF
 refine reach_in hc k _ (waits_in ho hall) i ?_
 have := congrArg (fun m => m.testBit i) h
 simp only [Nat.testBit_and, Nat.testBit_or, Nat.testBit_two_pow_sub_one, decide_eq_true hi, Bool.and_true, Bool.or_eq_true] at this
 exact this.resolve_right (fun q => hF (bitsM_spec q))
def wpMix (P : Program) (md : Region.Mode) (ops : Array Oper) (Q : Exit → Act → World → Prop) (nw : Nat → Option ((Nat → Value) × Obj)) (F : List Nat) (b t : Nat) : Nat → Array Bool → Act → (World → Prop) → Prop
 | 0, _, _, _ => False
 | fuel + 1, listed, a, M =>
   ((∀ i ∈ Region.ready md ops listed, t ≤ i ∨ (i ∈ F ∧ i < t ∧ ∃ o v, ops[i]? = some o ∧ Yields P ops o v a ∧ wpMix P md ops Q nw F b t fuel (listed.setIfInBounds i true) (a.put o.dst v) M)) ∧ ∀ w, M w → wpAny P md ops Q (fuel + 1) listed a w) ∨
   (Region.ready md ops listed ≠ [] ∧ ∀ i ∈ Region.ready md ops listed, i < t ∧ ∃ o, ops[i]? = some o ∧
    ((nw i = none ∧ ∃ v, EndsIf P ops M o v a ∧ wpMix P md ops Q nw F b t fuel (listed.setIfInBounds i true) (a.put o.dst v) M) ∨
     (∃ f obj, nw i = some (f, obj) ∧ NewOp P ops o f obj a ∧ ∀ p, wpMix P md ops Q nw F b t fuel (listed.setIfInBounds i true) (a.put o.dst (f p)) (fun w => M w ∧ b ≤ p ∧ w.heap[p]? = some obj))))
variable {nw : Nat → Option ((Nat → Value) × Obj)} {F : List Nat} {b t : Nat}
theorem ends_of_yields {M : World → Prop} {o : Oper} {v : Value} {a : Act} (h : Yields P ops o v a) : EndsIf P ops M o v a := by
 rcases h with ⟨hw, h⟩ | h
 · exact .inl ⟨hw, fun w hM => by rw [h w]; exact ⟨rfl, hM⟩⟩
 · exact .inr h
def calm (nw : Nat → Option ((Nat → Value) × Obj)) (F : List Nat) : Bool := F.all fun i => (nw i).isNone
theorem calm_spec (h : calm nw F = true) {i : Nat} (hi : i ∈ F) : nw i = none := by
 have := List.all_eq_true.1 h i hi
 cases e : nw i with
 | none => rfl
 | some x => rw [e] at this; cases this
theorem wpAny_of_mix : ∀ (fuel : Nat) (listed : Array Bool) (a : Act) (M : World → Prop), wpMix P md ops Q nw F b t fuel listed a M → Lasts M → (∀ w, M w → b ≤ w.heap.size) → ∀ w, M w → wpAny P md ops Q fuel listed a w
 | 0, _, _, _, h, _, _, _, _ => h.elim
 | fuel + 1, listed, a, M, h, hl, hb, w, hM => by
   rcases h with ⟨_, h2⟩ | ⟨h1, h2⟩
   · exact h2 w hM
   · refine ⟨fun h0 => absurd h0 h1, fun i hi => ?_⟩
     obtain ⟨_, o, ho, ⟨_, v, hy, h'⟩ | ⟨f, obj, _, hy, h'⟩⟩ := h2 i hi
     · exact hy.wpOp ho hM (fun w' hS' => wpAny_of_mix fuel _ _ M h' hl hb w' hS')
     · exact hy.wpOp ho (wpAny_of_mix fuel _ _ _ (h' w.heap.size) (hl.row b _ _) (fun w' k => hb w' k.1) _ ⟨hl _ _ hM (Fr.alloc w obj []), hb w hM, heap_alloc_new w obj⟩)
theorem not_listed {listed : Array Bool} {i : Nat} (hr : i ∈ Region.ready md ops listed) (h : listed.getD i false = true) : False := by
 have h0 := (mem_ready.1 hr).1
 rcases Nat.lt_or_ge i listed.size with h' | h'
 · simp [h'] at h0 h; rw [h0] at h; cases h
 · simp [Array.getElem?_eq_none h'] at h
theorem wpMix_first {i : Nat} {oi : Oper} {v : Value} (hit : i < t) (hiF : i ∉ F) (hcalm : calm nw F = true) (ht : tailOF md ops t F = true) (hi : ops[i]? = some oi) (hnw : nw i = none) (hsel : ∀ (j : Nat) (o : Oper) cs b, ops[j]? = some o → o.op ≠ .select cs b) :
 ∀ (fuel : Nat) (listed : Array Bool) (a : Act) (M : World → Prop), allIn md ops listed → Lasts M →
   (∀ j oj, ops[j]? = some oj → j ≠ i → listed.getD j true = false → (∀ e ∈ oj.after, Region.binds md e = true → e.on ≠ i) → oi.apart ops oj = true) →
   i ∈ Region.ready md ops listed → (∀ M', Lasts M' → (∀ w, M' w → M w) → EndsIf P ops M' oi v a) →
   wpMix P md ops Q nw F b t fuel (listed.setIfInBounds i true) (a.put oi.dst v) M → wpMix P md ops Q nw F b t (fuel + 1) listed a M := by
 intro fuel
 induction fuel with
 | zero => intro listed a M _ _ _ _ _ H; exact H.elim
 | succ fuel ih =>
   intro listed a M hc hl hfree hr hy H
   have hkt : ∀ k ∈ Region.ready md ops listed, k < t := fun k hk => Nat.lt_of_not_le fun htk => not_listed hr (tail_waitsF ht hc hk htk i hit hiF)
   refine Or.inr ⟨fun h => (by rw [h] at hr; cases hr), fun k hk => ⟨hkt k hk, ?_⟩⟩
   by_cases hki : k = i
   · subst hki; exact ⟨oi, hi, .inl ⟨hnw, v, hy M hl (fun _ h => h), H⟩⟩
   · have Hk : ∃ oj, ops[k]? = some oj ∧
      ((nw k = none ∧ ∃ u, EndsIf P ops M oj u (a.put oi.dst v) ∧ wpMix P md ops Q nw F b t fuel ((listed.setIfInBounds i true).setIfInBounds k true) ((a.put oi.dst v).put oj.dst u) M) ∨
       (∃ f obj, nw k = some (f, obj) ∧ NewOp P ops oj f obj (a.put oi.dst v) ∧ ∀ p, wpMix P md ops Q nw F b t fuel ((listed.setIfInBounds i true).setIfInBounds k true) ((a.put oi.dst v).put oj.dst (f p)) (fun w => M w ∧ b ≤ p ∧ w.heap[p]? = some obj))) := by
      rcases H with ⟨h1, _⟩ | ⟨_, H⟩
      · rcases h1 k (ready_mono hk hki) with h1 | ⟨hF, _, oj, u, hoj, hyj, H'⟩
        · exact absurd (hkt k hk) (Nat.not_lt_of_le h1)
        · exact ⟨oj, hoj, .inl ⟨calm_spec hcalm hF, u, ends_of_yields hyj, H'⟩⟩
      · exact (H k (ready_mono hk hki)).2
     · obtain ⟨oj, hoj, Hj⟩ := Hk
       obtain ⟨hjun, oj', hoj', hall⟩ := mem_ready.1 hk
       obtain rfl := Option.some.inj (hoj.symm.trans hoj')
       have hnot : ∀ e ∈ oj.after, Region.binds md e = true → e.on ≠ i := fun e he hb heq => by
        have h1 := hall e he hb
        rw [heq] at h1
        exact not_listed hr h1
       obtain ⟨h1, h2, h3⟩ := Oper.apart_spec (hfree k oj hoj hki hjun hnot)
       have hfree' : ∀ m ok, ops[m]? = some ok → m ≠ i → (listed.setIfInBounds k true).getD m true = false →
        (∀ e ∈ ok.after, Region.binds md e = true → e.on ≠ i) → oi.apart ops ok = true := fun m ok hm hmi hun hno => by
        refine hfree m ok hm hmi ?_ hno
        by_cases hkm : k = m
        · subst hkm; exact hjun
        · rw [getD_set_ne true hkm] at hun; exact hun
       refine ⟨oj, hoj, ?_⟩
       rcases Hj with ⟨hn, u, hyj, H'⟩ | ⟨f, obj, hn, hyj, H'⟩
       · refine .inl ⟨hn, u, hyj.of_same (execOp_put oj (fun cs b => hsel k oj cs b hoj) a oi.dst v h1).symm (wanted_put oj a oi.dst v h1).symm, ?_⟩
         refine ih (listed.setIfInBounds k true) (a.put oj.dst u) M (allIn_set hc hk) hl hfree' (ready_mono hr (Ne.symm hki)) (fun M' hl' hm => (hy M' hl' hm).of_same (execOp_put oi (fun cs b => hsel i oi cs b hi) a oj.dst u h3) (wanted_put oi a oj.dst u h3)) ?_
         rw [Array.setIfInBounds_comm _ _ hki, ← Act.put_comm a v u h2]
         exact H'
       · refine .inr ⟨f, obj, hn, hyj.of_same (execOp_put oj (fun cs b => hsel k oj cs b hoj) a oi.dst v h1).symm (wanted_put oj a oi.dst v h1).symm, fun p => ?_⟩
         refine ih (listed.setIfInBounds k true) (a.put oj.dst (f p)) _ (allIn_set hc hk) (hl.row b p obj) hfree' (ready_mono hr (Ne.symm hki)) (fun M' hl' hm => (hy M' hl' (fun w h => (hm w h).1)).of_same (execOp_put oi (fun cs b => hsel i oi cs b hi) a oj.dst (f p) h3) (wanted_put oi a oj.dst (f p) h3)) ?_
         rw [Array.setIfInBounds_comm _ _ hki, ← Act.put_comm a v (f p) h2]
         exact H' p
def inert (md : Region.Mode) (ops : Array Oper) (t : Nat) (L : List Nat) : Bool :=
 (List.range ops.size).all fun k => decide (t ≤ k) || match ops[k]? with
  | some o => o.after.toList.all fun e => !(Region.binds md e) || !(L.contains e.on)
  | none => true
theorem inert_spec {L : List Nat} (h : inert md ops t L = true) {k : Nat} {o : Oper} (hk : k < t) (ho : ops[k]? = some o) {e} (he : e ∈ o.after) (hb : Region.binds md e = true) : e.on ∉ L := by
 have h1 := List.all_eq_true.1 h k (List.mem_range.2 (Array.getElem?_eq_some_iff.1 ho).1)
 rw [decide_eq_false (by omega), Bool.false_or, ho] at h1
 have h2 := List.all_eq_true.1 h1 e (by simpa using he)
 rw [hb] at h2
 intro hm
 rw [show L.contains e.on = true from by simpa using hm] at h2
 simp at h2
theorem wpMix_new {i : Nat} {oi : Oper} {f : Nat → Value} {obj : Obj} {L : List Nat} (hit : i < t) (hiF : i ∉ F) (hcalm : calm nw F = true) (ht : tailOF md ops t F = true) (hi : ops[i]? = some oi) (hnw : nw i = some (f, obj)) (hsel : ∀ (j : Nat) (o : Oper) cs b, ops[j]? = some o → o.op ≠ .select cs b)
 (hL : ∀ k ∈ L, nw k ≠ none) (hin : inert md ops t L = true) :
 ∀ (fuel : Nat) (listed : Array Bool) (a : Act) (M : World → Prop), allIn md ops listed →
   (∀ j oj, ops[j]? = some oj → j ≠ i → listed.getD j true = false → (∀ e ∈ oj.after, Region.binds md e = true → e.on ≠ i) → oi.apart ops oj = true) →
   i ∈ Region.ready md ops listed → (∀ k ∈ Region.ready md ops listed, k = i ∨ k ∈ L) → NewOp P ops oi f obj a →
   (∀ p, wpMix P md ops Q nw F b t fuel (listed.setIfInBounds i true) (a.put oi.dst (f p)) (fun w => M w ∧ b ≤ p ∧ w.heap[p]? = some obj)) → wpMix P md ops Q nw F b t (fuel + 1) listed a M := by
 intro fuel
 induction fuel with
 | zero => intro listed a M _ _ _ _ _ H; exact (H 0).elim
 | succ fuel ih =>
   intro listed a M hc hfree hr hall hy H
   have hkt : ∀ k ∈ Region.ready md ops listed, k < t := fun k hk => Nat.lt_of_not_le fun htk => not_listed hr (tail_waitsF ht hc hk htk i hit hiF)
   refine Or.inr ⟨fun h => (by rw [h] at hr; cases hr), fun k hk => ⟨hkt k hk, ?_⟩⟩
   by_cases hki : k = i
   · subst hki; exact ⟨oi, hi, .inr ⟨f, obj, hnw, hy, H⟩⟩
   · have hkL := (hall k hk).resolve_left hki
     have get : ∀ p, ∃ oj, ops[k]? = some oj ∧ ∃ f' obj', nw k = some (f', obj') ∧ NewOp P ops oj f' obj' (a.put oi.dst (f p)) ∧ ∀ p', wpMix P md ops Q nw F b t fuel ((listed.setIfInBounds i true).setIfInBounds k true) ((a.put oi.dst (f p)).put oj.dst (f' p')) (fun w => (M w ∧ b ≤ p ∧ w.heap[p]? = some obj) ∧ b ≤ p' ∧ w.heap[p']? = some obj') := fun p => by
      rcases H p with ⟨h1, _⟩ | ⟨_, H⟩
      · rcases h1 k (ready_mono hk hki) with h1 | ⟨hF, _⟩
        · exact absurd (hkt k hk) (Nat.not_lt_of_le h1)
        · exact absurd (calm_spec hcalm hF) (hL k hkL)
      · obtain ⟨_, oj, hoj, ⟨hn, _⟩ | ⟨f', obj', hn, hyj, H'⟩⟩ := H k (ready_mono hk hki)
        · exact absurd hn (hL k hkL)
        · exact ⟨oj, hoj, f', obj', hn, hyj, H'⟩
     obtain ⟨oj, hoj, f', obj', hn, hyj, _⟩ := get 0
     obtain ⟨hjun, oj', hoj', hdep⟩ := mem_ready.1 hk
     obtain rfl := Option.some.inj (hoj.symm.trans hoj')
     have hnot : ∀ e ∈ oj.after, Region.binds md e = true → e.on ≠ i := fun e he hb heq => by
      have h1 := hdep e he hb
      rw [heq] at h1
      exact not_listed hr h1
     obtain ⟨h1, h2, h3⟩ := Oper.apart_spec (hfree k oj hoj hki hjun hnot)
     have hfree' : ∀ m ok, ops[m]? = some ok → m ≠ i → (listed.setIfInBounds k true).getD m true = false →
      (∀ e ∈ ok.after, Region.binds md e = true → e.on ≠ i) → oi.apart ops ok = true := fun m ok hm hmi hun hno => by
      refine hfree m ok hm hmi ?_ hno
      by_cases hkm : k = m
      · subst hkm; exact hjun
      · rw [getD_set_ne true hkm] at hun; exact hun
     have hr' := ready_mono hr (Ne.symm hki)
     have hall' : ∀ m ∈ Region.ready md ops (listed.setIfInBounds k true), m = i ∨ m ∈ L := fun m hm => by
      have hmt : m < t := Nat.lt_of_not_le fun htm => not_listed hr' (tail_waitsF ht (allIn_set hc hk) hm htm i hit hiF)
      obtain ⟨hmun, om, hom, hmd⟩ := mem_ready.1 hm
      refine hall m (mem_ready.2 ⟨?_, om, hom, fun e he hb => ?_⟩)
      · by_cases hkm : k = m
        · subst hkm; exact hjun
        · rw [getD_set_ne true hkm] at hmun; exact hmun
      · have := hmd e he hb
        have hne : k ≠ e.on := fun q => inert_spec hin hmt hom he hb (q ▸ hkL)
        rw [getD_set_ne false hne] at this
        exact this
     refine ⟨oj, hoj, .inr ⟨f', obj', hn, hyj.of_same (execOp_put oj (fun cs b => hsel k oj cs b hoj) a oi.dst (f 0) h1).symm (wanted_put oj a oi.dst (f 0) h1).symm, fun p' => ?_⟩⟩
     refine ih (listed.setIfInBounds k true) (a.put oj.dst (f' p')) _ (allIn_set hc hk) hfree' hr' hall' (hy.of_same (execOp_put oi (fun cs b => hsel i oi cs b hi) a oj.dst (f' p') h3) (wanted_put oi a oj.dst (f' p') h3)) (fun p => ?_)
     obtain ⟨oj2, hoj2, f2, obj2, hn2, _, H'⟩ := get p
     obtain rfl := Option.some.inj (hoj.symm.trans hoj2)
     obtain ⟨rfl, rfl⟩ : f' = f2 ∧ obj' = obj2 := by
      have := Option.some.inj (hn.symm.trans hn2)
      exact ⟨congrArg Prod.fst this, congrArg Prod.snd this⟩
     rw [Array.setIfInBounds_comm _ _ hki, ← Act.put_comm a (f p) (f' p') h2]
     have e : (fun w : World => (M w ∧ b ≤ p' ∧ w.heap[p']? = some obj') ∧ b ≤ p ∧ w.heap[p]? = some obj) = (fun w : World => (M w ∧ b ≤ p ∧ w.heap[p]? = some obj) ∧ b ≤ p' ∧ w.heap[p']? = some obj') :=
      funext fun w => propext ⟨fun h => ⟨⟨h.1.1, h.2⟩, h.1.2⟩, fun h => ⟨⟨h.1.1, h.2⟩, h.1.2⟩⟩
     rw [e]
     exact H' p'
theorem wpMix_pure {i : Nat} {oi : Oper} {v : Value} (hit : i < t) (hiF : i ∈ F) (hcalm : calm nw F = true) (hi : ops[i]? = some oi) (hsel : ∀ (j : Nat) (o : Oper) cs b, ops[j]? = some o → o.op ≠ .select cs b)
 (hQ : ∀ c a a' w, Q (.panic c) a' w → Q (.panic c) a w) :
 ∀ (fuel : Nat) (listed : Array Bool) (a : Act) (M : World → Prop),
   (∀ j oj, ops[j]? = some oj → j ≠ i → listed.getD j true = false → (∀ e ∈ oj.after, Region.binds md e = true → e.on ≠ i) → oi.apart ops oj = true) →
   i ∈ Region.ready md ops listed → Yields P ops oi v a →
   wpMix P md ops Q nw F b t fuel (listed.setIfInBounds i true) (a.put oi.dst v) M → wpMix P md ops Q nw F b t (fuel + 1) listed a M := by
 intro fuel
 induction fuel with
 | zero => intro listed a M _ _ _ H; exact H.elim
 | succ fuel ih =>
   intro listed a M hfree hr hy H
   have swap : ∀ k, k ∈ Region.ready md ops listed → k ≠ i → ∀ oj, ops[k]? = some oj →
    (execOp (a.put oi.dst v).eval oj = execOp a.eval oj ∧ Region.wanted oj (yielded ops (a.put oi.dst v).tmps) = Region.wanted oj (yielded ops a.tmps)) ∧
    ∀ u M', wpMix P md ops Q nw F b t fuel ((listed.setIfInBounds i true).setIfInBounds k true) ((a.put oi.dst v).put oj.dst u) M' → wpMix P md ops Q nw F b t (fuel + 1) (listed.setIfInBounds k true) (a.put oj.dst u) M' := fun k hk hki oj hoj => by
    obtain ⟨hjun, oj', hoj', hall⟩ := mem_ready.1 hk
    obtain rfl := Option.some.inj (hoj.symm.trans hoj')
    have hnot : ∀ e ∈ oj.after, Region.binds md e = true → e.on ≠ i := fun e he hb heq => by
     have h1 := hall e he hb
     rw [heq] at h1
     exact not_listed hr h1
    obtain ⟨h1, h2, h3⟩ := Oper.apart_spec (hfree k oj hoj hki hjun hnot)
    have hfree' : ∀ m ok, ops[m]? = some ok → m ≠ i → (listed.setIfInBounds k true).getD m true = false →
     (∀ e ∈ ok.after, Region.binds md e = true → e.on ≠ i) → oi.apart ops ok = true := fun m ok hm hmi hun hno => by
     refine hfree m ok hm hmi ?_ hno
     by_cases hkm : k = m
     · subst hkm; exact hjun
     · rw [getD_set_ne true hkm] at hun; exact hun
    refine ⟨⟨execOp_put oj (fun cs b => hsel k oj cs b hoj) a oi.dst v h1, wanted_put oj a oi.dst v h1⟩, fun u M' H' => ?_⟩
    refine ih (listed.setIfInBounds k true) (a.put oj.dst u) M' hfree' (ready_mono hr (Ne.symm hki)) (hy.of_same (execOp_put oi (fun cs b => hsel i oi cs b hi) a oj.dst u h3) (wanted_put oi a oj.dst u h3)) ?_
    rw [Array.setIfInBounds_comm _ _ hki, ← Act.put_comm a v u h2]
    exact H'
   rcases id H with ⟨h1, h2⟩ | ⟨_, h2⟩
   · refine Or.inl ⟨fun k hk => ?_, fun w hM => wpAny_first hi hsel (fun c a w => hQ c a _ w) (fuel + 1) listed a w hfree hr hy (h2 w hM)⟩
     by_cases hki : k = i
     · subst hki; exact .inr ⟨hiF, hit, oi, v, hi, hy, H⟩
     · rcases h1 k (ready_mono hk hki) with h1 | ⟨hF, hkt, oj, u, hoj, hyj, H'⟩
       · exact .inl h1
       · obtain ⟨q, s⟩ := swap k hk hki oj hoj
         exact .inr ⟨hF, hkt, oj, u, hoj, hyj.of_same q.1.symm q.2.symm, s u M H'⟩
   · refine Or.inr ⟨fun h => (by rw [h] at hr; cases hr), fun k hk => ?_⟩
     by_cases hki : k = i
     · subst hki; exact ⟨hit, oi, hi, .inl ⟨calm_spec hcalm hiF, v, ends_of_yields hy, H⟩⟩
     · obtain ⟨hkt, oj, hoj, Hj⟩ := h2 k (ready_mono hk hki)
       obtain ⟨q, s⟩ := swap k hk hki oj hoj
       rcases Hj with ⟨hn, u, hyj, H'⟩ | ⟨f, obj, hn, hyj, H'⟩
       · exact ⟨hkt, oj, hoj, .inl ⟨hn, u, hyj.of_same q.1.symm q.2.symm, s u M H'⟩⟩
       · exact ⟨hkt, oj, hoj, .inr ⟨f, obj, hn, hyj.of_same q.1.symm q.2.symm, fun p => s (f p) _ (H' p)⟩⟩
def wpMixU (P : Program) (md : Region.Mode) (ops : Array Oper) (Q : Exit → Act → World → Prop) (nw : Nat → Option ((Nat → Value) × Obj)) (F : List Nat) (b t fuel : Nat) (listed : Array Bool) (a : Act) (M : World → Prop) : Prop :=
 calm nw F = true → tailOF md ops t F = true → allIn md ops listed → Lasts M → wpMix P md ops Q nw F b t fuel listed a M
theorem wpMixU_take {i : Nat} {oi : Oper} {v : Value} {fuel : Nat} {listed : Array Bool} {a : Act} {M : World → Prop} (hit : i < t) (hF : decide (i ∈ F) = false) (hi : ops[i]? = some oi) (hnw : nw i = none)
 (hs : Region.noSelect ops = true) (hf : Region.free md ops listed i = true) (hr : (Region.ready md ops listed).contains i = true)
 (hw : Region.wanted oi (yielded ops a.tmps) = true)
 (hy : ∀ M', Lasts M' → (∀ w, M' w → M w) → ∀ w, M' w → Came P M' v ((execOp a.eval oi).run P w))
 (h : wpMixU P md ops Q nw F b t fuel (listed.setIfInBounds i true) (a.put oi.dst v) M) : wpMixU P md ops Q nw F b t (fuel + 1) listed a M := fun hca ht hc hl =>
 wpMix_first hit (of_decide_eq_false hF) hca ht hi hnw (Region.noSelect_spec hs) fuel listed a M hc hl (Region.free_spec hi hf) (by simpa using hr) (fun M' hl' hm => .inl ⟨hw, hy M' hl' hm⟩) (h hca ht (allIn_set hc (by simpa using hr)) hl)
theorem wpMixU_new {i : Nat} {oi : Oper} {f : Nat → Value} {obj : Obj} (L : List Nat) {fuel : Nat} {listed : Array Bool} {a : Act} {M : World → Prop} (hit : i < t) (hF : decide (i ∈ F) = false) (hi : ops[i]? = some oi) (hnw : nw i = some (f, obj))
 (hs : Region.noSelect ops = true) (hf : Region.free md ops listed i = true) (hr : (Region.ready md ops listed).contains i = true)
 (hL : (L.all fun k => (nw k).isSome) = true) (hin : inert md ops t L = true) (ha : ((Region.ready md ops listed).all fun k => k == i || L.contains k) = true)
 (hw : Region.wanted oi (yielded ops a.tmps) = true) (hy : ∀ w, (execOp a.eval oi).run P w = .ok (.value (f w.heap.size)) (w.alloc obj))
 (h : ∀ p, wpMixU P md ops Q nw F b t fuel (listed.setIfInBounds i true) (a.put oi.dst (f p)) (fun w => M w ∧ b ≤ p ∧ w.heap[p]? = some obj)) : wpMixU P md ops Q nw F b t (fuel + 1) listed a M := fun hca ht hc hl =>
 wpMix_new hit (of_decide_eq_false hF) hca ht hi hnw (Region.noSelect_spec hs) (fun k hk e => by have := List.all_eq_true.1 hL k hk; rw [e] at this; cases this) hin fuel listed a M hc (Region.free_spec hi hf) (by simpa using hr)
  (fun k hk => by have := List.all_eq_true.1 ha k hk; simpa using this) ⟨hw, hy⟩ (fun p => h p hca ht (allIn_set hc (by simpa using hr)) (hl.row b p obj))
theorem wpMixU_pure {i : Nat} {oi : Oper} {v : Value} {fuel : Nat} {listed : Array Bool} {a : Act} {M : World → Prop} (hit : i < t) (hF : decide (i ∈ F) = true) (hi : ops[i]? = some oi)
 (hQ : ∀ c a a' w, Q (.panic c) a' w → Q (.panic c) a w)
 (hs : Region.noSelect ops = true) (hf : Region.free md ops listed i = true) (hr : (Region.ready md ops listed).contains i = true)
 (hw : Region.wanted oi (yielded ops a.tmps) = true) (hy : ∀ w, (execOp a.eval oi).run P w = .ok (.value v) w)
 (h : wpMixU P md ops Q nw F b t fuel (listed.setIfInBounds i true) (a.put oi.dst v) M) : wpMixU P md ops Q nw F b t (fuel + 1) listed a M := fun hca ht hc hl =>
 wpMix_pure hit (of_decide_eq_true hF) hca hi (Region.noSelect_spec hs) hQ fuel listed a M (Region.free_spec hi hf) (by simpa using hr) (.inl ⟨hw, hy⟩) (h hca ht (allIn_set hc (by simpa using hr)) hl)
theorem wpMixU_tail {fuel : Nat} {listed : Array Bool} {a : Act} {M : World → Prop} (S : World → Prop) (hr : ((Region.ready md ops listed).all fun i => decide (t ≤ i)) = true) (_ : ∀ w, M w → S w)
 (h : ∀ w, M w → wpAnyH P md ops Q S (fuel + 1) listed a w) : wpMixU P md ops Q nw F b t (fuel + 1) listed a M := fun _ _ _ _ =>
 Or.inl ⟨fun i hi => Or.inl <| of_decide_eq_true (List.all_eq_true.1 hr i hi), fun w hM => wpAny_of_held _ _ _ _ (h w hM)⟩
theorem wp_region_mix {id : Nat} {a : Act} {w : World} {M : World → Prop} (nw : Nat → Option ((Nat → Value) × Obj)) (F : List Nat) (b t : Nat) (hm : P.follows .mixedOrders = true) (hca : calm nw F = true) (ht : tailOF .any ops t F = true) (hl : Lasts M) (hb : ∀ w, M w → b ≤ w.heap.size) (hM : M w.drew)
 (h : wpMixU P .any ops Q nw F b t ops.size (Array.replicate ops.size false) a M) : (Code.region id ops true).wp P Q a w :=
 wp_region_any hm (wpAny_of_mix _ _ _ M (h hca ht allIn_start hl) hl hb _ hM)
end
end Go.Proofs.YtiflmkicnkbeaaaGreatDoor
namespace Go.Proofs.YtiflmkicnkbeaaaGreatDoor
open Go.RowKit
structure La where
 f : Int
 d : Int
 g : Int
deriving DecidableEq
def zLa : La := ⟨0, 0, 0⟩
def La.cl (x : La) : List Value := [.int .i64 x.f, .int .i64 x.d, .int .i64 x.g]
def laC (l : List La) : List Value := l.flatMap La.cl
theorem laC_cons (x : La) (l : List La) : laC (x :: l) = .int .i64 x.f :: .int .i64 x.d :: .int .i64 x.g :: laC l := by simp [laC, La.cl]
theorem laC_get (T : List La) (i : Nat) (h : i < T.length) : (laC T)[i * 3]? = some (.int .i64 (T.getD i zLa).f) ∧ (laC T)[i * 3 + 1]? = some (.int .i64 (T.getD i zLa).d) ∧ (laC T)[i * 3 + 2]? = some (.int .i64 (T.getD i zLa).g) := by
 induction T generalizing i with
 | nil => simp at h
 | cons b l ih =>
   rw [laC_cons]
   cases i with
   | zero => simp
   | succ i =>
     have h' : i < l.length := by simpa using h
     have := ih i h'
     rw [show (i + 1) * 3 = i * 3 + 1 + 1 + 1 by omega]
     simpa using this
theorem infoL : (Tryz.prog.info? 46).map (fun i => (i.zero, i.size, i.bytes)) = some (some (.agg #[.int .i64 0, .int .i64 0, .int .i64 0]), 3, 24) := by kernel_rfl
def OwnL (w : World) (B : Nat) (v : Value) (T : List La) : Prop := w.ownsRow B 46 3 v T.length (laC T)
theorem OwnL.nil (w : World) (B : Nat) : OwnL w B (.slice none 0 0) [] := ⟨rfl, .inl ⟨rfl, rfl⟩⟩
theorem OwnL.fr {w w' : World} {B : Nat} {v : Value} {l : List La} {S : List Nat} (h : OwnL w B v l) (hg : Fr w w' S) (hne : ∀ r ∈ S, v.ownBlock ≠ some r) : OwnL w' B v l := row_fr h hg hne
theorem OwnL.keep {w w' : World} {B : Nat} {v : Value} {l : List La} (h : OwnL w B v l) (hg : Fr w w' []) : OwnL w' B v l := h.fr hg (by simp)
theorem OwnL.block {w : World} {B : Nat} {v : Value} {l : List La} (h : OwnL w B v l) : ∀ r, v.ownBlock = some r → B ≤ r ∧ r < w.heap.size := World.ownsRow.lt h
theorem OwnL.shape {w : World} {B : Nat} {v : Value} {l : List La} (h : OwnL w B v l) : ∃ a c, v = .slice a l.length c := row_shape h
def HLs (w : World) (v : Value) (l : List La) : Prop :=
 ∃ a cap, v = .slice a l.length cap ∧ l.length ≤ cap ∧ cap ≤ maxLen ∧ (0 < l.length → ∃ b off, a = some ⟨b, off, none⟩ ∧ ∀ i, i < l.length →
   w.cell? ⟨b, off + i * 3, none⟩ = some (.int .i64 (l.getD i zLa).f) ∧ w.cell? ⟨b, off + i * 3 + 1, none⟩ = some (.int .i64 (l.getD i zLa).d) ∧ w.cell? ⟨b, off + i * 3 + 2, none⟩ = some (.int .i64 (l.getD i zLa).g))
theorem OwnL.holds {w : World} {B : Nat} {v : Value} {l : List La} (h : OwnL w B v l) : HLs w v l := by
 by_cases h0 : 0 < l.length
 · obtain ⟨g, c, rfl, hc, hm, _⟩ := row_head h h0
   have h2 := World.ownsRow.cellAt h
   refine ⟨_, c, rfl, hc, hm, fun _ => ⟨g, 0, rfl, fun i hi => ?_⟩⟩
   obtain ⟨g0, g1, g2⟩ := laC_get l i hi
   rw [Nat.zero_add]
   exact ⟨(h2 _ (by omega)).trans g0, (h2 _ (by omega)).trans g1, (h2 _ (by omega)).trans g2⟩
 · obtain rfl := List.eq_nil_of_length_eq_zero (by omega : l.length = 0)
   rcases h.2 with ⟨rfl, _⟩ | ⟨g, cap, cur, rfl, hb, hg, hn, hm, _⟩
   · exact ⟨none, 0, rfl, by simp, by decide, fun h => absurd h (by simp)⟩
   · exact ⟨_, cap, rfl, hn, hm, fun h => absurd h (by simp)⟩
theorem HLs.keep {w w' : World} {v : Value} {l : List La} (h : HLs w v l) (hf : Fr w w' []) : HLs w' v l := by
 obtain ⟨a, cap, rfl, h1, h2, h3⟩ := h
 refine ⟨a, cap, rfl, h1, h2, fun h0 => ?_⟩
 obtain ⟨b, off, rfl, hc⟩ := h3 h0
 exact ⟨b, off, rfl, fun i hi => ⟨hf.cell (hc i hi).1 (by simp), hf.cell (hc i hi).2.1 (by simp), hf.cell (hc i hi).2.2 (by simp)⟩⟩
theorem row3 {w : World} {g : Nat} {a b c : Value} {T : TypeId} (h : w.heap[g]? = some (.cells #[a, b, c] T (0, 0))) :
 w.cell? ⟨g, 0, none⟩ = some a ∧ w.cell? ⟨g, 1, none⟩ = some b ∧ w.cell? ⟨g, 2, none⟩ = some c :=
 ⟨by rw [cell_of_row w g 0 _ _ _ h]; rfl, by rw [cell_of_row w g 1 _ _ _ h]; rfl, by rw [cell_of_row w g 2 _ _ _ h]; rfl⟩
theorem set3_fr (w : World) (g : Nat) (a b c : Value) : Fr w (((w.setCell ⟨g, 0, none⟩ a).setCell ⟨g, 1, none⟩ b).setCell ⟨g, 2, none⟩ c) [g] :=
 ((Fr.setCell w g 0 a (by simp)).trans (Fr.setCell _ g 1 b (by simp))).trans (Fr.setCell _ g 2 c (by simp))
theorem set3_row {w : World} {g : Nat} {x y z : Value} {T : TypeId} (h : w.heap[g]? = some (.cells #[x, y, z] T (0, 0))) (a b c : Value) :
 (((w.setCell ⟨g, 0, none⟩ a).setCell ⟨g, 1, none⟩ b).setCell ⟨g, 2, none⟩ c).heap[g]? = some (.cells #[a, b, c] T (0, 0)) :=
 heap_setCell_same _ _ _ _ _ _ (heap_setCell_same _ _ _ _ _ _ (heap_setCell_same _ _ _ _ _ _ h))
end Go.Proofs.YtiflmkicnkbeaaaGreatDoor
namespace Go.Proofs.YtiflmkicnkbeaaaGreatDoor
open Go.RowKit
section
variable {P : Program} {ops : Array Oper} {Q : Exit → Act → World → Prop} {md : Region.Mode} {S : World → Prop}
def waitsAll (md : Region.Mode) (ops : Array Oper) (j : Nat) : Bool :=
 match ops[j]? with
 | some o => (List.range ops.size).all fun k => k == j || o.after.any (fun e => Region.binds md e && e.on == k)
 | none => false
def wpDetL (P : Program) (md : Region.Mode) (ops : Array Oper) (Q : Exit → Act → World → Prop) (S : World → Prop) (j : Nat) : Nat → Array Bool → Act → Prop
 | 0, _, _ => False
 | fuel + 1, listed, a =>
   (Region.ready md ops listed = [j] ∧ Region.ready md ops (listed.setIfInBounds j true) = [] ∧ ∀ w, S w → wpOp P ops Q j (fun a' w' => Q .normal a' w') a w) ∨
   (Region.ready md ops listed ≠ [] ∧ ∀ i ∈ Region.ready md ops listed, i ≠ j ∧ ∃ o v, ops[i]? = some o ∧ EndsIf P ops S o v a ∧ wpDetL P md ops Q S j fuel (listed.setIfInBounds i true) (a.put o.dst v))
theorem wpAny_of_detL {j : Nat} : ∀ (fuel : Nat) (listed : Array Bool) (a : Act), wpDetL P md ops Q S j fuel listed a → ∀ w, S w → wpAny P md ops Q fuel listed a w
 | 0, _, _, h, _, _ => h.elim
 | fuel + 1, listed, a, h, w, hS => by
   rcases h with ⟨h1, h2, h3⟩ | ⟨h1, h2⟩
   · refine ⟨fun h0 => (by rw [h1] at h0; cases h0), fun i hi => ?_⟩
     rw [h1] at hi
     obtain rfl := List.mem_singleton.1 hi
     refine wpOp_mono (fun a' w' hq => ?_) (h3 w hS)
     cases fuel with
     | zero => exact ⟨h2, hq⟩
     | succ n => exact ⟨fun _ => hq, by rw [h2]; simp⟩
   · refine ⟨fun h0 => absurd h0 h1, fun i hi => ?_⟩
     obtain ⟨_, o, v, ho, hy, h'⟩ := h2 i hi
     exact hy.wpOp ho hS (fun w' hS' => wpAny_of_detL fuel _ _ h' w' hS')
theorem waits_not {j : Nat} (hl : waitsAll md ops j = true) {i : Nat} (hij : i ≠ j) {listed : Array Bool} (hi : i ∈ Region.ready md ops listed) : j ∉ Region.ready md ops listed := by
 intro hj
 obtain ⟨hun, oi, hoi, _⟩ := mem_ready.1 hi
 obtain ⟨_, oj, hoj, hall⟩ := mem_ready.1 hj
 unfold waitsAll at hl
 rw [hoj] at hl
 have hlt : i < ops.size := (Array.getElem?_eq_some_iff.1 hoi).1
 have := List.all_eq_true.1 hl i (List.mem_range.2 hlt)
 simp only [Bool.or_eq_true, beq_iff_eq, hij, false_or] at this
 obtain ⟨e, he, h2⟩ := Array.any_eq_true'.1 this
 simp only [Bool.and_eq_true, beq_iff_eq] at h2
 have h1 := hall e he h2.1
 rw [h2.2] at h1
 rcases Nat.lt_or_ge i listed.size with h' | h'
 · simp [h'] at h1 hun; rw [hun] at h1; cases h1
 · simp [Array.getElem?_eq_none h'] at h1
theorem wpDetL_first {i j : Nat} {oi : Oper} {v : Value} (hij : i ≠ j) (hl : waitsAll md ops j = true) (hi : ops[i]? = some oi) (hsel : ∀ (j : Nat) (o : Oper) cs b, ops[j]? = some o → o.op ≠ .select cs b) :
 ∀ (fuel : Nat) (listed : Array Bool) (a : Act),
   (∀ j oj, ops[j]? = some oj → j ≠ i → listed.getD j true = false → (∀ e ∈ oj.after, Region.binds md e = true → e.on ≠ i) → oi.apart ops oj = true) →
   i ∈ Region.ready md ops listed → EndsIf P ops S oi v a →
   wpDetL P md ops Q S j fuel (listed.setIfInBounds i true) (a.put oi.dst v) → wpDetL P md ops Q S j (fuel + 1) listed a := by
 intro fuel
 induction fuel with
 | zero => intro listed a _ _ _ H; exact H.elim
 | succ fuel ih =>
   intro listed a hfree hr hy H
   have hjn := waits_not hl hij hr
   refine Or.inr ⟨fun h => (by rw [h] at hr; cases hr), fun k hk => ⟨fun e => hjn (e ▸ hk), ?_⟩⟩
   by_cases hki : k = i
   · subst hki; exact ⟨oi, v, hi, hy, H⟩
   · rcases H with ⟨h1, _, _⟩ | ⟨_, H⟩
     · have := ready_mono hk hki
       rw [h1] at this
       obtain rfl := List.mem_singleton.1 this
       exact absurd hk hjn
     · obtain ⟨_, oj, u, hoj, hyj, H'⟩ := H k (ready_mono hk hki)
       obtain ⟨hjun, oj', hoj', hall⟩ := mem_ready.1 hk
       obtain rfl := Option.some.inj (hoj.symm.trans hoj')
       have hnot : ∀ e ∈ oj.after, Region.binds md e = true → e.on ≠ i := fun e he hb heq => by
        have h1 := hall e he hb
        have h0 := (mem_ready.1 hr).1
        rw [heq] at h1
        rcases Nat.lt_or_ge i listed.size with h' | h'
        · simp [h'] at h0 h1; rw [h0] at h1; cases h1
        · simp [Array.getElem?_eq_none h'] at h1
       obtain ⟨h1, h2, h3⟩ := Oper.apart_spec (hfree k oj hoj hki hjun hnot)
       have hfree' : ∀ m ok, ops[m]? = some ok → m ≠ i → (listed.setIfInBounds k true).getD m true = false →
        (∀ e ∈ ok.after, Region.binds md e = true → e.on ≠ i) → oi.apart ops ok = true := fun m ok hm hmi hun hno => by
        refine hfree m ok hm hmi ?_ hno
        by_cases hkm : k = m
        · subst hkm; exact hjun
        · rw [getD_set_ne true hkm] at hun; exact hun
       refine ⟨oj, u, hoj, hyj.of_same (execOp_put oj (fun cs b => hsel k oj cs b hoj) a oi.dst v h1).symm (wanted_put oj a oi.dst v h1).symm, ?_⟩
       refine ih (listed.setIfInBounds k true) (a.put oj.dst u) hfree' (ready_mono hr (Ne.symm hki)) (hy.of_same (execOp_put oi (fun cs b => hsel i oi cs b hi) a oj.dst u h3) (wanted_put oi a oj.dst u h3)) ?_
       rw [Array.setIfInBounds_comm _ _ hki, ← Act.put_comm a v u h2]
       exact H'
theorem wpDetL_take {i j : Nat} {oi : Oper} {v : Value} {fuel : Nat} {listed : Array Bool} {a : Act} (hij : i ≠ j) (hl : waitsAll md ops j = true) (hi : ops[i]? = some oi)
 (hs : Region.noSelect ops = true) (hf : Region.free md ops listed i = true) (hr : (Region.ready md ops listed).contains i = true)
 (hy : EndsIf P ops S oi v a)
 (h : wpDetL P md ops Q S j fuel (listed.setIfInBounds i true) (a.put oi.dst v)) : wpDetL P md ops Q S j (fuel + 1) listed a :=
 wpDetL_first hij hl hi (Region.noSelect_spec hs) fuel listed a (Region.free_spec hi hf) (by simpa using hr) hy h
theorem wpDetL_last {j : Nat} {oj : Oper} {fuel : Nat} {listed : Array Bool} {a : Act} (hr : Region.ready md ops listed = [j]) (hr2 : Region.ready md ops (listed.setIfInBounds j true) = []) (hj : ops[j]? = some oj)
 (h : ∀ w, S w → ∀ K' : Act → World → Prop, Hid (∀ a w, Q .normal a w → K' a w) → if Region.wanted oj (yielded ops a.tmps) = true then Oper.wp P oj a w K' Q else K' (a.put oj.dst undef) w) :
 wpDetL P md ops Q S j (fuel + 1) listed a := Or.inl ⟨hr, hr2, fun w hS => wpOp_step hj (fun K' hK => h w hS K' (Lib.hid hK))⟩
theorem wp_region_detL {id : Nat} {a : Act} {w : World} (j : Nat) (hm : P.follows .mixedOrders = true) (hS : S w.drew)
 (h : wpDetL P .any ops Q S j ops.size (Array.replicate ops.size false) a) : (Code.region id ops true).wp P Q a w :=
 wp_region_any hm (wpAny_of_detL _ _ _ h _ hS)
end
end Go.Proofs.YtiflmkicnkbeaaaGreatDoor
namespace Go.Proofs.YtiflmkicnkbeaaaGreatDoor
open Go.RowKit
theorem emod_walk (n b : Int) (hb : 0 < b) : n % b = if n.tmod b < 0 then n.tmod b + b else n.tmod b := by
 have h1 := Int.emod_nonneg n (show b ≠ 0 by omega)
 have h2 := Int.emod_lt_of_pos n hb
 have h3 := Int.tmod_lt_of_pos n hb
 have h4 := Int.mul_ediv_add_emod n b
 have h5 := Int.mul_tdiv_add_tmod n b
 by_cases h : 0 ≤ n
 · rw [Int.tmod_eq_emod_of_nonneg h, if_neg (by omega)]
 · have h6 : n.tmod b ≤ 0 := by
    have := Int.tmod_nonneg b (show 0 ≤ -n by omega)
    rw [Int.neg_tmod] at this; omega
   have h7 : -b < n.tmod b := by
    have := Int.tmod_lt_of_pos (-n) hb
    rw [Int.neg_tmod] at this; omega
   have key : n.tmod b = n % b ∨ n.tmod b = n % b - b := by
    have e : b * (n / b - n.tdiv b) = n.tmod b - n % b := by rw [Int.mul_sub]; omega
    have hq : n / b - n.tdiv b = 0 ∨ n / b - n.tdiv b = -1 := by
     have hlo : -b * 2 < b * (n / b - n.tdiv b) := by omega
     have hhi : b * (n / b - n.tdiv b) < b := by omega
     have a1 : -2 < n / b - n.tdiv b := by
      apply Int.lt_of_mul_lt_mul_left (a := b) _ (by omega)
      have : b * -2 = -b * 2 := by omega
      omega
     have a2 : n / b - n.tdiv b < 1 := by
      apply Int.lt_of_mul_lt_mul_left (a := b) _ (by omega)
      omega
     omega
    rcases hq with hq | hq
    · rw [hq] at e; left; omega
    · rw [hq] at e; right; omega
   rcases key with h | h
   · rw [h]; split <;> omega
   · rw [h]; split <;> omega
theorem numberTo_any (n b : Int) (w : World) (hb : 0 < b) (hb1 : b ≤ 1000000) (_h0 : -9223372036854775808 ≤ n) (_h1 : n ≤ 9223372036854775807) :
 Calls Tryz.prog 12 #[.int .i64 n, .int .i64 b] w fun e w' => e = .returned (.int .i64 (n % b)) ∧ w = w' := by
 have hne : ¬ b = 0 := by omega
 have hlt := Int.tmod_lt_of_pos n hb
 have hgt : -b < n.tmod b := by
  have := Int.tmod_lt_of_pos (-n) hb
  rw [Int.neg_tmod] at this; omega
 have HEM := Lib.hid (emod_walk n b hb)
 by_cases hneg : n.tmod b < 0
 · have HV : Hid (n % b = n.tmod b + b) := by show _ = _; rw [HEM.out, if_pos hneg]
   go_enter Tryz.func12, Tryz.ntmps12
   go_wp2
   go_ret
   exact ⟨by rw [HV.out]; rfl, rfl⟩
 · have HV : Hid (n % b = n.tmod b) := by show _ = _; rw [HEM.out, if_neg hneg]
   go_enter Tryz.func12, Tryz.ntmps12
   go_wp2
   go_ret
   exact ⟨by rw [HV.out]; rfl, rfl⟩
theorem numberTo_nat (n : Int) (b : Nat) (hb : 0 < b) (hb1 : b ≤ 1000000) (h : (Lit.int .i64 n).wf = true) : ∃ k : Nat, k < b ∧ n % (b : Int) = (k : Int) ∧ ∀ w : World, Calls Tryz.prog 12 #[.int .i64 n, .int .i64 (b : Int)] w fun e w' => e = .returned (.int .i64 (k : Int)) ∧ w = w' := by
 obtain ⟨h0, h1⟩ := bounds_i64 h
 obtain ⟨k, hk⟩ := Int.eq_ofNat_of_zero_le (Int.emod_nonneg n (show (b : Int) ≠ 0 by omega))
 refine ⟨k, ?_, hk, fun w => ?_⟩
 · have := Int.emod_lt_of_pos n (show (0 : Int) < (b : Int) by omega); omega
 · have := numberTo_any n b w (by omega) (by omega) h0 h1
   rw [hk] at this; exact this
end Go.Proofs.YtiflmkicnkbeaaaGreatDoor
namespace Go.Proofs.YtiflmkicnkbeaaaGreatDoor
open Go.RowKit
theorem HInts.args {w : World} {x : Addr} {n cap : Nat} {l : List Int} (h : HInts w (.slice (some x) n cap) l) : ∀ j u, (i64s l)[j]? = some u → w.cell? (x.add j) = some u := by
 intro j u hj
 have hjl : j < l.length := by have := (List.getElem?_eq_some_iff.1 hj).1; simpa using this
 have e : (i64s l)[j]? = some (.int .i64 (l.getD j 0)) := by simp [i64s, hjl]
 rw [e] at hj
 obtain rfl := Option.some.inj hj
 obtain ⟨a, cap', he, _, _, hc⟩ := h
 simp only [Value.slice.injEq] at he
 obtain ⟨rfl, rfl, rfl⟩ := he
 obtain ⟨b, off, he2, hc2⟩ := hc (by omega)
 simp only [Option.some.injEq] at he2
 subst he2
 rw [Addr.add_lit]
 exact hc2 j hjl
theorem i64s_one (l : List Int) : ∀ u ∈ i64s l, u.oneCell' = true := ints_oneCell _ _
theorem nil_ints (w : World) : HInts w (.slice none 0 0) [] := ⟨none, 0, rfl, by simp, by decide, fun h => absurd h (by simp)⟩
theorem OwnI.form {w : World} {B : Nat} {v : Value} {l : List Int} (h : OwnI w B v l) : v = .slice none 0 0 ∨ ∃ x c, v = .slice (some x) l.length c := by
 rcases h.2 with ⟨rfl, _⟩ | ⟨g, cap, cur, rfl, _⟩
 · exact .inl rfl
 · exact .inr ⟨_, _, rfl⟩
end Go.Proofs.YtiflmkicnkbeaaaGreatDoor
namespace Go.Proofs.YtiflmkicnkbeaaaGreatDoor
open Go.RowKit
section
variable {P : Program} {ops : Array Oper} {Q : Exit → Act → World → Prop} {md : Region.Mode} {S : World → Prop}
def wpHL (P : Program) (md : Region.Mode) (ops : Array Oper) (Q : Exit → Act → World → Prop) (S : World → Prop) (j : Nat) : Nat → Array Bool → Act → World → Prop
 | 0, _, _, _ => False
 | fuel + 1, listed, a, w =>
   (Region.ready md ops listed = [j] ∧ Region.ready md ops (listed.setIfInBounds j true) = [] ∧ wpOp P ops Q j (fun a' w' => Q .normal a' w') a w) ∨
   (Region.ready md ops listed ≠ [] ∧ ∀ i ∈ Region.ready md ops listed, i ≠ j ∧ wpOp P ops Q i (fun a' w' => S w' ∧ wpHL P md ops Q S j fuel (listed.setIfInBounds i true) a' w') a w)
theorem wpAny_of_HL {j : Nat} : ∀ (fuel : Nat) (listed : Array Bool) (a : Act) (w : World), wpHL P md ops Q S j fuel listed a w → wpAny P md ops Q fuel listed a w
 | 0, _, _, _, h => h.elim
 | fuel + 1, listed, a, w, h => by
   rcases h with ⟨h1, h2, h3⟩ | ⟨h1, h2⟩
   · refine ⟨fun h0 => (by rw [h1] at h0; cases h0), fun i hi => ?_⟩
     rw [h1] at hi
     obtain rfl := List.mem_singleton.1 hi
     refine wpOp_mono (fun a' w' hq => ?_) h3
     cases fuel with
     | zero => exact ⟨h2, hq⟩
     | succ n => exact ⟨fun _ => hq, by rw [h2]; simp⟩
   · refine ⟨fun h0 => absurd h0 h1, fun i hi => ?_⟩
     exact wpOp_mono (fun a' w' h' => wpAny_of_HL fuel _ a' w' h'.2) (h2 i hi).2
theorem wpHL_first {i j : Nat} {oi : Oper} {v : Value} (hij : i ≠ j) (hl : waitsAll md ops j = true) (hi : ops[i]? = some oi) (hsel : ∀ (j : Nat) (o : Oper) cs b, ops[j]? = some o → o.op ≠ .select cs b)
 (hQ : ∀ c a w, Q (.panic c) (a.put oi.dst v) w → Q (.panic c) a w) :
 ∀ (fuel : Nat) (listed : Array Bool) (a : Act) (w : World),
   (∀ j oj, ops[j]? = some oj → j ≠ i → listed.getD j true = false → (∀ e ∈ oj.after, Region.binds md e = true → e.on ≠ i) → oi.apart ops oj = true) →
   i ∈ Region.ready md ops listed → YieldsIf P ops S oi v a → S w →
   wpHL P md ops Q S j fuel (listed.setIfInBounds i true) (a.put oi.dst v) w → wpHL P md ops Q S j (fuel + 1) listed a w := by
 intro fuel
 induction fuel with
 | zero => intro listed a w _ _ _ _ H; exact H.elim
 | succ fuel ih =>
   intro listed a w hfree hr hy hS H
   have hjn := waits_not hl hij hr
   refine Or.inr ⟨fun h => (by rw [h] at hr; cases hr), fun k hk => ⟨fun e => hjn (e ▸ hk), ?_⟩⟩
   by_cases hki : k = i
   · subst hki; exact hy.wpOp hi hS ⟨hS, H⟩
   · rcases H with ⟨h1, _, _⟩ | ⟨_, H⟩
     · have := ready_mono hk hki
       rw [h1] at this
       obtain rfl := List.mem_singleton.1 this
       exact absurd hk hjn
     · have h1 := (H k (ready_mono hk hki)).2
       obtain ⟨hjun, oj, hoj, hall⟩ := mem_ready.1 hk
       have hnot : ∀ e ∈ oj.after, Region.binds md e = true → e.on ≠ i := fun e he hb heq => by
        have h1 := hall e he hb
        have h0 := (mem_ready.1 hr).1
        rw [heq] at h1
        rcases Nat.lt_or_ge i listed.size with h' | h'
        · simp [h'] at h0 h1; rw [h0] at h1; cases h1
        · simp [Array.getElem?_eq_none h'] at h1
       have h2 := wpOp_putIf hoj (hfree k oj hoj hki hjun hnot) (fun cs b => hsel i oi cs b hi) (fun cs b => hsel k oj cs b hoj) hQ hy h1
       have hfree' : ∀ m ok, ops[m]? = some ok → m ≠ i → (listed.setIfInBounds k true).getD m true = false →
        (∀ e ∈ ok.after, Region.binds md e = true → e.on ≠ i) → oi.apart ops ok = true := fun m ok hm hmi hun hno => by
        refine hfree m ok hm hmi ?_ hno
        by_cases hkm : k = m
        · subst hkm; exact hjun
        · rw [getD_set_ne true hkm] at hun; exact hun
       refine wpOp_mono (fun a' w' h3 => ⟨h3.2.1, ih (listed.setIfInBounds k true) a' w' hfree' (ready_mono hr (Ne.symm hki)) h3.1 h3.2.1 ?_⟩) h2
       rw [Array.setIfInBounds_comm _ _ hki]
       exact h3.2.2
theorem wpHL_take {i j : Nat} {oi : Oper} {v : Value} {fuel : Nat} {listed : Array Bool} {a : Act} {w : World} (hij : i ≠ j) (hl : waitsAll md ops j = true) (hi : ops[i]? = some oi)
 (hs : Region.noSelect ops = true) (hf : Region.free md ops listed i = true) (hr : (Region.ready md ops listed).contains i = true)
 (hQ : ∀ c a w, Q (.panic c) (a.put oi.dst v) w → Q (.panic c) a w) (hy : YieldsIf P ops S oi v a) (hS : S w)
 (h : wpHL P md ops Q S j fuel (listed.setIfInBounds i true) (a.put oi.dst v) w) : wpHL P md ops Q S j (fuel + 1) listed a w :=
 wpHL_first hij hl hi (Region.noSelect_spec hs) hQ fuel listed a w (Region.free_spec hi hf) (by simpa using hr) hy hS h
def AllReadyHL (P : Program) (md : Region.Mode) (ops : Array Oper) (Q : Exit → Act → World → Prop) (S : World → Prop) (j fuel : Nat) (listed : Array Bool) (a : Act) (w : World) (rs : List Nat) : Prop :=
 ∀ i ∈ rs, i ≠ j ∧ wpOp P ops Q i (fun a' w' => S w' ∧ wpHL P md ops Q S j fuel (listed.setIfInBounds i true) a' w') a w
theorem AllReadyHL.nil {j fuel : Nat} {listed : Array Bool} {a : Act} {w : World} : AllReadyHL P md ops Q S j fuel listed a w [] := fun _ h => by cases h
theorem AllReadyHL.cons {j fuel : Nat} {listed : Array Bool} {a : Act} {w : World} {i : Nat} {o : Oper} {rs : List Nat} (hij : i ≠ j) (ho : ops[i]? = some o)
 (h : ∀ K' : Act → World → Prop, Shut (∀ a w, S w → (S w → wpHL P md ops Q S j fuel (listed.setIfInBounds i true) a w) → K' a w) → if Region.wanted o (yielded ops a.tmps) = true then Oper.wp P o a w K' Q else K' (a.put o.dst undef) w)
 (hs : AllReadyHL P md ops Q S j fuel listed a w rs) : AllReadyHL P md ops Q S j fuel listed a w (i :: rs) := fun m hm => by
 rcases List.mem_cons.1 hm with rfl | hm
 · exact ⟨hij, wpOp_step ho (fun K' hK => h K' (fun a w hS hW => hK a w ⟨hS, hW hS⟩))⟩
 · exact hs m hm
theorem wpHL_ready {rs : List Nat} {j fuel : Nat} {listed : Array Bool} {a : Act} {w : World} (hr : Region.ready md ops listed = rs) (hne : rs ≠ [])
 (h : AllReadyHL P md ops Q S j fuel listed a w rs) : wpHL P md ops Q S j (fuel + 1) listed a w :=
 Or.inr ⟨hr ▸ hne, hr ▸ h⟩
theorem wpHL_last {j : Nat} {oj : Oper} {fuel : Nat} {listed : Array Bool} {a : Act} {w : World} (hr : Region.ready md ops listed = [j]) (hr2 : Region.ready md ops (listed.setIfInBounds j true) = []) (hj : ops[j]? = some oj)
 (h : ∀ K' : Act → World → Prop, Hid (∀ a w, Q .normal a w → K' a w) → if Region.wanted oj (yielded ops a.tmps) = true then Oper.wp P oj a w K' Q else K' (a.put oj.dst undef) w) :
 wpHL P md ops Q S j (fuel + 1) listed a w := Or.inl ⟨hr, hr2, wpOp_step hj (fun K' hK => h K' (Lib.hid hK))⟩
theorem wp_region_heldL {id : Nat} {a : Act} {w : World} (j : Nat) (hm : P.follows .mixedOrders = true) (hS : S w.drew)
 (h : S w.drew → wpHL P .any ops Q S j ops.size (Array.replicate ops.size false) a w.drew) : (Code.region id ops true).wp P Q a w :=
 wp_region_any hm (wpAny_of_HL _ _ _ _ (h hS))
end
end Go.Proofs.YtiflmkicnkbeaaaGreatDoor
