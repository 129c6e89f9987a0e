/- Proved: the stage theorem of the estimate (how long any car, with any stops, would take to any call, is what the chapter says; reckoned once, when it is first asked): its row, for every house, car, stops and call, the library's one table that it reaches laid as the program's text lays it; and its tied card. -/
import Derived.Test.YtdmomnhacijmpaaGreatDoorRows
import Derived.Test.YtdmomnhacijmpaaGreatDoorLawESays17
import Derived.Test.YtdmomnhacijmpaaGreatDoorGOpen
import Derived.Test.YtdmomnhacijmpaaGreatDoorAFrame
import Derived.ShutString
import Derived.ChangeOld
import Derived.Carry
import Derived.WalkKit
import Derived.ProofKit
import Derived.OpenShut
namespace Go.Proofs.YtdmomnhacijmpaaGreatDoor.lawESays17
open Go.ChangeShapes Go.WideShapes Go.ChangeAt Go.RowKit
set_option linter.unusedVariables false

theorem laidEq : Rows.etaSaysRow.laid = tabs := rfl

set_option maxRecDepth 100000 in
theorem lifted (os : Os) (started : os.Started) (H : Type) (enc : TypeId × Value → H) :
    ReturnsInHanded {} Tryz.checked os 3 .any (fun w args => (Rows.etaSaysSpec.pre enc Tryz.prog Tryz.f3 [] false w args ∧ laidMetH Tryz.prog Rows.etaSaysRow.laid w) ∧ sizedMet enc Tryz.prog Tryz.f3 (OpenSpec.ofChange Rows.etaSaysSpec) false w args)
      (Rows.etaSaysSpec.post enc Tryz.prog Tryz.f3 false true false false) := by
  refine returnsInHanded_of_change_and (C := Tryz.checked) (X := fun w _ => laidMetH Tryz.prog Rows.etaSaysRow.laid w) (fun _ _ _ hh h => h.of_heap hh) own started (by kernel_rfl) Tryz.func3
    (ChangeSpec.witness_shaped (enc := enc) (C := Tryz.checked) (os := os) (X := fun w _ => laidMetH Tryz.prog Rows.etaSaysRow.laid w) false (World.doorLaid Tryz.prog 256 os) #[.agg #[.int .i64 0, .int .i64 0, .int .i64 0, .int .i64 0], .agg #[.int .i64 0, .int .i64 0, .int .i64 0, .bool false, .int .i64 0], .agg #[.int .u64 0, .int .u64 0, .int .u64 0], .agg #[.int .i64 0, .int .i64 0]] 8 rfl (World.shaped_of_RefB (by kernel_rfl) (by kernel_rfl)) (by kernel_rfl) (by kernel_rfl) (by kernel_rfl) (doorTabs os _)) ?_
  intro W base args ds gs before hval0 hW _ _ hL _
  have hval : ∀ (j : Nat) t v, Tryz.f3.params[j]? = some t → args[j]? = some v → Value.okWide Tryz.prog W .any base t v := hval0
  have hW' := hW
  obtain ⟨p, q, hA0, hV, rfl, hfz, hnd⟩ := hW
  have hA : DataW.TrodAll enc Tryz.prog W 0 (fun _ => true) true Tryz.f3.params.toList args.toList ds p := hA0
  rw [Tryz.params3] at hA hval
  obtain ⟨v0, vs0, d0, ds0, p0, q0, hargs, rfl, rfl, h0, r0⟩ := trodAll_cons hA
  obtain ⟨v1, vs1, d1, ds1, p1, q1, rfl, rfl, rfl, h1, r1⟩ := trodAll_cons r0
  obtain ⟨v2, vs2, d2, ds2, p2, q2, rfl, rfl, rfl, h2, r2⟩ := trodAll_cons r1
  obtain ⟨v3, vs3, d3, ds3, p3, q3, rfl, rfl, rfl, h3, r3⟩ := trodAll_cons r2
  obtain ⟨rfl, rfl, rfl⟩ := trodAll_nil r3
  obtain rfl : args = #[v0, v1, v2, v3] := by cases args; simp_all
  obtain ⟨rfl, rfl⟩ := trodVars_none hV
  obtain ⟨cs0, rfl, _⟩ := okWide_struct Tryz.underlying23 (hval 0 23 v0 rfl rfl)
  obtain ⟨y0, hy0⟩ : ∃ y : Ho, cs0.toList = [.int .i64 y.c, .int .i64 y.f, .int .i64 y.s, .int .i64 y.d] := by
    obtain ⟨fuel, hf⟩ := h0
    have := open_house hf
    simpa [Value.cells] using this
  obtain rfl : cs0 = #[.int .i64 y0.c, .int .i64 y0.f, .int .i64 y0.s, .int .i64 y0.d] := by rw [← Array.toArray_toList (xs := cs0), hy0]
  have k0 := h0
  have lt0 : ∀ x ∈ p0, x.block < W.heap.size := by obtain ⟨m, hm⟩ := k0; exact DataW.trod_lt m _ _ _ hm
  obtain ⟨cs1, rfl, _⟩ := okWide_struct Tryz.underlying27 (hval 1 27 v1 rfl rfl)
  obtain ⟨c1, hk1, hy1⟩ : ∃ y : Ca, y.k ≤ 9223372036854775807 ∧ cs1.toList = [.int .i64 y.x.p, .int .i64 y.x.e, .int .i64 y.x.o, .bool y.x.r, .int .i64 y.k] := by
    obtain ⟨fuel, hf⟩ := h1
    have := open_car hf
    simpa [Value.cells] using this
  obtain rfl : cs1 = #[.int .i64 c1.x.p, .int .i64 c1.x.e, .int .i64 c1.x.o, .bool c1.x.r, .int .i64 c1.k] := by rw [← Array.toArray_toList (xs := cs1), hy1]
  have k1 := h1
  have lt1 : ∀ x ∈ p1, x.block < W.heap.size := by obtain ⟨m, hm⟩ := k1; exact DataW.trod_lt m _ _ _ hm
  obtain ⟨cs2, rfl, _⟩ := okWide_struct Tryz.underlying30 (hval 2 30 v2 rfl rfl)
  obtain ⟨s2, ok2, hy2⟩ : ∃ y : Sp, y.ok ∧ cs2.toList = [.int .u64 y.c, .int .u64 y.u, .int .u64 y.d] := by
    obtain ⟨fuel, hf⟩ := h2
    have := open_stops hf
    simpa [Value.cells] using this
  obtain rfl : cs2 = #[.int .u64 s2.c, .int .u64 s2.u, .int .u64 s2.d] := by rw [← Array.toArray_toList (xs := cs2), hy2]
  have k2 := h2
  have lt2 : ∀ x ∈ p2, x.block < W.heap.size := by obtain ⟨m, hm⟩ := k2; exact DataW.trod_lt m _ _ _ hm
  obtain ⟨cs3, rfl, _⟩ := okWide_struct Tryz.underlying32 (hval 3 32 v3 rfl rfl)
  obtain ⟨y3f, y3d, hy3⟩ : ∃ f d : Int, cs3.toList = [.int .i64 f, .int .i64 d] := by
    obtain ⟨fuel, hf⟩ := h3
    have := open_call hf
    simpa [Value.cells] using this
  obtain rfl : cs3 = #[.int .i64 y3f, .int .i64 y3d] := by rw [← Array.toArray_toList (xs := cs3), hy3]
  have k3 := h3
  have lt3 : ∀ x ∈ p3, x.block < W.heap.size := by obtain ⟨m, hm⟩ := k3; exact DataW.trod_lt m _ _ _ hm
  have hT := tab_of_laid hL
  clear hA0 hval0
  refine (esays_walk y0 c1 s2 y3f y3d hk1 ok2 W hT).mono fun e W' ⟨he, hg⟩ => ?_
  subst he
  exact ⟨_, rfl, _, _, _, [], _, [], hW', (trodAll_cons_mk (shut_bool Tryz.underlying4 _) trodAll_mk0), (trodAll_cons_mk (Below.trod laidOut (by kernel_rfl) (of_decide_eq_true (by kernel_rfl)) k0 (below_grown hg) lt0) (trodAll_cons_mk (Below.trod laidOut (by kernel_rfl) (of_decide_eq_true (by kernel_rfl)) k1 (below_grown hg) lt1) (trodAll_cons_mk (Below.trod laidOut (by kernel_rfl) (of_decide_eq_true (by kernel_rfl)) k2 (below_grown hg) lt2) (trodAll_cons_mk (Below.trod laidOut (by kernel_rfl) (of_decide_eq_true (by kernel_rfl)) k3 (below_grown hg) lt3) trodAll_mk0)))), rfl, (below_grown hg).frame _, fun h => by cases h⟩

theorem row_holds : Rows.EtaSaysSaid :=
  OpenClaim.holds_of_wide 3 Tryz.f3 rfl rfl rfl rfl rfl rfl rfl ⟨rfl, rfl, rfl, rfl, rfl⟩ rfl rfl rfl rfl rfl (by kernel_rfl) Tryz.func3 (by kernel_rfl)
    (of_decide_eq_true (by kernel_rfl)) (by unfold Func.isWrapper; first | (rw [if_pos (by decide +kernel)]; kernel_rfl) | (rw [if_neg (by decide +kernel)]; exact ⟨rfl, rfl⟩))
    (fun os started H enc _ => lifted os started H enc)

theorem card_holds : Rows.EtaSaysCardSaid :=
  Claim7.holds_tied_plain_at .later [] _ true _ false
    row_holds (fun _ h => by cases h) (by kernel_rfl) (fun _ h => by cases h) etaSays_row_tie rfl ⟨rfl, rfl⟩ (by kernel_rfl) rfl
    (fun f fn hf hfn => by
      obtain rfl : f = 3 := Option.some.inj ((show Tryz.prog.funcNamed "paternoster/paternosterlaw17.EtaSays" = some 3 by kernel_rfl).symm.trans hf) |>.symm
      obtain rfl : fn = Tryz.f3 := (Option.some.inj (Tryz.func3.symm.trans hfn)).symm
      exact ⟨by kernel_rfl, fun j t ht => by
        rw [Tryz.params3] at ht
        rcases j with _ | _ | _ | _ | j
        · obtain rfl : t = 23 := by simpa using ht.symm
          exact (show Tryz.prog.wantsStandIn 23 = false by kernel_rfl)
        · obtain rfl : t = 27 := by simpa using ht.symm
          exact (show Tryz.prog.wantsStandIn 27 = false by kernel_rfl)
        · obtain rfl : t = 30 := by simpa using ht.symm
          exact (show Tryz.prog.wantsStandIn 30 = false by kernel_rfl)
        · obtain rfl : t = 32 := by simpa using ht.symm
          exact (show Tryz.prog.wantsStandIn 32 = false by kernel_rfl)
        · simp at ht⟩)
    (by kernel_rfl)
#print axioms card_holds
end Go.Proofs.YtdmomnhacijmpaaGreatDoor.lawESays17
