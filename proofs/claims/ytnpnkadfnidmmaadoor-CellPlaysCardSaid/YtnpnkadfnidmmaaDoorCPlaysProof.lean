/- Proved: the law of plays (a memory that is told anything is what the chapter says: each answer, each byte, how many writes, whether it is down; a copy goes its own way): its row, for every int and every slice of things told, api's thirteen errors laid as the program's text lays them; and its tied card. -/
import Derived.Test.YtnpnkadfnidmmaaDoorLawPlays
import Derived.Test.YtnpnkadfnidmmaaDoorFrame
import Derived.ShutString
import Derived.ChangeOld
import Derived.Carry
import Derived.Test.YtnpnkadfnidmmaaDoorOpen
namespace Go.Proofs.YtnpnkadfnidmmaaDoor.lawCPlays
open Go.ChangeShapes Go.WideShapes Go.ChangeAt Go.RowKit
open Go.ChangeMaps (open_string shut_string)
set_option linter.unusedVariables false

theorem laidEq : Rows.cellPlaysRow.laid = errRows.map fun x => (x.1, sent x.2) := rfl

theorem rows_do {w : World} {v : Value} {n : Nat} {F : Nat → Nat → Int} (h : HoldsR [.i64, .i64, .u8] w v n F) : HoldsDo w v n (F · 0) (F · 1) (F · 2) ∧ ∀ i, i < n → F i 1 ≤ 9223372036854775807 := by
  obtain ⟨a, cap, rfl, h1, h2, h3⟩ := h
  refine ⟨⟨a, cap, rfl, h1, h2, fun h0 => ?_⟩, fun i hi => ?_⟩
  · obtain ⟨b, off, rfl, hc⟩ := h3 h0
    exact ⟨b, off, rfl, fun i hi => ⟨(hc i hi 0 (by decide)).1, (hc i hi 1 (by decide)).1, (hc i hi 2 (by decide)).1⟩⟩
  · obtain ⟨b, off, rfl, hc⟩ := h3 (by omega)
    exact (bounds_i64 (hc i hi 1 (by decide)).2).2


set_option maxRecDepth 100000 in
theorem lifted (os : Os) (started : os.Started) (H : Type) (enc : TypeId × Value → H) :
    ReturnsInHanded {} Tryd.checked os 3 .any (fun w args => (Rows.cellPlaysSpec.pre enc Tryd.prog Tryd.f3 [] false w args ∧ laidMetH Tryd.prog Rows.cellPlaysRow.laid w) ∧ sizedMet enc Tryd.prog Tryd.f3 (OpenSpec.ofChange Rows.cellPlaysSpec) false w args)
      (Rows.cellPlaysSpec.post enc Tryd.prog Tryd.f3 false true false false) := by
  refine returnsInHanded_of_change_and (C := Tryd.checked) (X := fun w _ => laidMetH Tryd.prog Rows.cellPlaysRow.laid w) (fun _ _ _ hh h => h.of_heap hh) own started (by kernel_rfl) Tryd.func3
    (ChangeSpec.witness_shaped (enc := enc) (C := Tryd.checked) (os := os) (X := fun w _ => laidMetH Tryd.prog Rows.cellPlaysRow.laid w) false (World.doorLaid Tryd.prog 256 os) #[.int .i64 0, .slice none 0 0] 8 rfl (World.shaped_of_RefB (by kernel_rfl) (by kernel_rfl)) (by kernel_rfl) (by kernel_rfl) (by kernel_rfl) (door13 os _)) ?_
  intro W base args ds gs before hval0 hW _ _ hL _
  have hval : ∀ (j : Nat) t v, Tryd.f3.params[j]? = some t → args[j]? = some v → Value.okWide Tryd.prog W .any base t v := hval0
  have hW' := hW
  obtain ⟨p, q, hA0, hV, rfl, hfz, hnd⟩ := hW
  have hA : DataW.TrodAll enc Tryd.prog W 0 (fun _ => true) true Tryd.f3.params.toList args.toList ds p := hA0
  rw [Tryd.params3] at hA hval
  obtain ⟨v0, vs0, d0, ds0, p0, q0, hargs, rfl, rfl, h0, r0⟩ := trodAll_cons hA
  obtain ⟨v1, vs1, d1, ds1, p1, q1, rfl, rfl, rfl, h1, r1⟩ := trodAll_cons r0
  obtain ⟨rfl, rfl, rfl⟩ := trodAll_nil r1
  obtain rfl : args = #[v0, v1] := by cases args; simp_all
  obtain ⟨rfl, rfl⟩ := trodVars_none hV
  obtain ⟨a0, rfl, rfl, rfl, w0⟩ := open_int Tryd.underlying3 (hval 0 3 v0 rfl rfl) h0
  obtain ⟨a1, len1, cap1, rfl⟩ := okWide_slice Tryd.underlying22 (hval 1 22 v1 rfl rfl)
  have k1 := h1
  have lt1 : ∀ x ∈ p1, x.block < W.heap.size := by obtain ⟨m, hm⟩ := k1; exact DataW.trod_lt m _ _ _ hm
  obtain ⟨F1, hh1⟩ := open_rows [.i64, .i64, .u8] Tryd.underlying22 Tryd.underlying37 (by kernel_rfl) (by kernel_rfl) rfl (by decide) (fun n f hf => by
    match n, hf with
    | 0, hf => cases hf; exact Tryd.underlying3
    | 1, hf => cases hf; exact Tryd.underlying3
    | 2, hf => cases hf; exact Tryd.underlying5
    | n + 3, hf => simp at hf) h1
  obtain ⟨A, hE⟩ := e13_of_laid laidEq hL
  clear hA0 hval0
  refine (plays_walk a0 _ len1 (F1 · 0) (F1 · 1) (F1 · 2) w0 (rows_do hh1).2 W A hE (rows_do hh1).1).mono fun e W' ⟨he, hg⟩ => ?_
  subst he
  exact ⟨_, rfl, _, _, _, [], _, [], hW', (trodAll_cons_mk (shut_bool Tryd.underlying4 _) trodAll_mk0), (trodAll_cons_mk (shut_int Tryd.underlying3 w0) (trodAll_cons_mk (Below.trod laidOut (by kernel_rfl) (of_decide_eq_true (by kernel_rfl)) k1 (below_grown hg) lt1) trodAll_mk0)), rfl, (below_grown hg).frame _, fun h => by cases h⟩

theorem row_holds : Rows.CellPlaysSaid :=
  OpenClaim.holds_of_wide 3 Tryd.f3 rfl rfl rfl rfl rfl rfl rfl ⟨rfl, rfl, rfl, rfl, rfl⟩ rfl rfl rfl rfl rfl (by kernel_rfl) Tryd.func3 (by kernel_rfl)
    (of_decide_eq_true (by kernel_rfl)) (by unfold Func.isWrapper; first | (rw [if_pos (by decide +kernel)]; kernel_rfl) | (rw [if_neg (by decide +kernel)]; exact ⟨rfl, rfl⟩))
    (fun os started H enc _ => lifted os started H enc)

theorem card_holds : Rows.CellPlaysCardSaid :=
  Claim7.holds_tied_plain_at .later [] _ true _ true
    row_holds (fun _ h => by cases h) (by kernel_rfl) (fun _ h => by cases h) cellPlays_row_tie rfl ⟨rfl, rfl⟩ (by kernel_rfl) rfl
    (fun f fn hf hfn => by
      obtain rfl : f = 3 := Option.some.inj ((show Tryd.prog.funcNamed "paternoster/paternosterlaw2.CellPlays" = some 3 by kernel_rfl).symm.trans hf) |>.symm
      obtain rfl : fn = Tryd.f3 := (Option.some.inj (Tryd.func3.symm.trans hfn)).symm
      exact ⟨by kernel_rfl, fun j t ht => by
        rw [Tryd.params3] at ht
        rcases j with _ | _ | j
        · obtain rfl : t = 3 := by simpa using ht.symm
          exact (show Tryd.prog.wantsStandIn 3 = false by kernel_rfl)
        · obtain rfl : t = 22 := by simpa using ht.symm
          exact (show Tryd.prog.wantsStandIn 22 = false by kernel_rfl)
        · simp at ht⟩)
    (by kernel_rfl)
#print axioms card_holds
end Go.Proofs.YtnpnkadfnidmmaaDoor.lawCPlays
