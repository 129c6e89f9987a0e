/- Proved: the epoch's law of order (of two epochs one is ahead, or they are the same; ahead of what is ahead is ahead; the next one is behind all of that count): its row, for every three epochs and every int, the library's tables laid as its text lays them; and its tied card. -/
import Derived.Test.YtnlicmcijmglfaaDoorLawEOrder
import Derived.Test.YtnlicmcijmglfaaDoorFrameT
import Derived.ShutString
import Derived.ChangeOld
import Derived.Carry

namespace Go.Proofs.YtnlicmcijmglfaaDoor.lawEOrder
open Go.ChangeShapes Go.WideShapes Go.ChangeAt Go.RowKit
open Go.ChangeMaps (open_string shut_string)
set_option linter.unusedVariables false

theorem laidEq : Rows.epochOrderRow.laid = tabs := rfl

set_option maxRecDepth 100000 in
theorem lifted (os : Os) (started : os.Started) (H : Type) (enc : TypeId × Value → H) :
    ReturnsInHanded {} Tryd.checked os 4 .any (fun w args => (Rows.epochOrderSpec.pre enc Tryd.prog Tryd.f4 [] false w args ∧ laidMetH Tryd.prog Rows.epochOrderRow.laid w) ∧ sizedMet enc Tryd.prog Tryd.f4 (OpenSpec.ofChange Rows.epochOrderSpec) false w args)
      (Rows.epochOrderSpec.post enc Tryd.prog Tryd.f4 false true false false) := by
  refine returnsInHanded_of_change_and (C := Tryd.checked) (X := fun w _ => laidMetH Tryd.prog Rows.epochOrderRow.laid w) (fun _ _ _ hh h => h.of_heap hh) own started (by kernel_rfl) Tryd.func4
    (ChangeSpec.witness_shaped (enc := enc) (C := Tryd.checked) (os := os) (X := fun w _ => laidMetH Tryd.prog Rows.epochOrderRow.laid w) false (World.doorLaid Tryd.prog 256 os) #[.agg #[.int .i64 0, .int .i64 0], .agg #[.int .i64 0, .int .i64 0], .agg #[.int .i64 0, .int .i64 0], .int .i64 0] 8 rfl (World.shaped_of_RefB (by kernel_rfl) (by kernel_rfl)) (by kernel_rfl) (by kernel_rfl) (by kernel_rfl) (doorTabs os _)) ?_
  intro W base args ds gs before hval0 hW _ _ hL _
  have hval : ∀ (j : Nat) t v, Tryd.f4.params[j]? = some t → args[j]? = some v → Value.okWide Tryd.prog W .any base t v := hval0
  have hW' := hW
  obtain ⟨p, q, hA0, hV, rfl, hfz, hnd⟩ := hW
  have hA : DataW.TrodAll enc Tryd.prog W 0 (fun _ => true) true Tryd.f4.params.toList args.toList ds p := hA0
  rw [Tryd.params4] at hA hval
  obtain ⟨v0, vs0, d0, ds0, p0, q0, hargs, rfl, rfl, h0, r0⟩ := trodAll_cons hA
  obtain ⟨v1, vs1, d1, ds1, p1, q1, rfl, rfl, rfl, h1, r1⟩ := trodAll_cons r0
  obtain ⟨v2, vs2, d2, ds2, p2, q2, rfl, rfl, rfl, h2, r2⟩ := trodAll_cons r1
  obtain ⟨v3, vs3, d3, ds3, p3, q3, rfl, rfl, rfl, h3, r3⟩ := trodAll_cons r2
  obtain ⟨rfl, rfl, rfl⟩ := trodAll_nil r3
  obtain rfl : args = #[v0, v1, v2, v3] := by cases args; simp_all
  obtain ⟨rfl, rfl⟩ := trodVars_none hV
  obtain ⟨e0, g0, ye0, yg0, n0, rfl, rfl, rfl, te0, tg0⟩ := Joins.open_agg2 Tryd.underlying23 (by kernel_rfl) (by kernel_rfl) (hval 0 23 v0 rfl rfl) h0
  obtain ⟨a0, he0, rfl, w0⟩ := DataW.trod_int Tryd.underlying2 te0
  obtain ⟨b0, hg0, rfl, x0⟩ := DataW.trod_int Tryd.underlying3 tg0
  obtain rfl : e0 = .int .i64 a0 := by simpa using he0
  obtain rfl : g0 = .int .i64 b0 := by simpa using hg0
  obtain ⟨e1, g1, ye1, yg1, n1, rfl, rfl, rfl, te1, tg1⟩ := Joins.open_agg2 Tryd.underlying23 (by kernel_rfl) (by kernel_rfl) (hval 1 23 v1 rfl rfl) h1
  obtain ⟨a1, he1, rfl, w1⟩ := DataW.trod_int Tryd.underlying2 te1
  obtain ⟨b1, hg1, rfl, x1⟩ := DataW.trod_int Tryd.underlying3 tg1
  obtain rfl : e1 = .int .i64 a1 := by simpa using he1
  obtain rfl : g1 = .int .i64 b1 := by simpa using hg1
  obtain ⟨e2, g2, ye2, yg2, n2, rfl, rfl, rfl, te2, tg2⟩ := Joins.open_agg2 Tryd.underlying23 (by kernel_rfl) (by kernel_rfl) (hval 2 23 v2 rfl rfl) h2
  obtain ⟨a2, he2, rfl, w2⟩ := DataW.trod_int Tryd.underlying2 te2
  obtain ⟨b2, hg2, rfl, x2⟩ := DataW.trod_int Tryd.underlying3 tg2
  obtain rfl : e2 = .int .i64 a2 := by simpa using he2
  obtain rfl : g2 = .int .i64 b2 := by simpa using hg2
  obtain ⟨a3, rfl, rfl, rfl, w3⟩ := open_int Tryd.underlying3 (hval 3 3 v3 rfl rfl) h3
  have hT := tab_of_laid hL
  clear hA0 hval0
  simp only [List.append_nil] at hW'
  refine (eorder_walk a0 b0 a1 b1 a2 b2 a3 w0 W hT).mono fun e W' ⟨he, hg⟩ => ?_
  subst he
  exact ⟨_, rfl, _, _, _, [], [], [], hW', (trodAll_cons_mk (shut_bool Tryd.underlying4 _) trodAll_mk0), (trodAll_cons_mk (Joins.shut_agg2 Tryd.underlying23 (by kernel_rfl) (by kernel_rfl) (Joins.field_of_Trod (shut_int Tryd.underlying2 w0) rfl) (Joins.field_of_Trod (shut_int Tryd.underlying3 x0) rfl)) (trodAll_cons_mk (Joins.shut_agg2 Tryd.underlying23 (by kernel_rfl) (by kernel_rfl) (Joins.field_of_Trod (shut_int Tryd.underlying2 w1) rfl) (Joins.field_of_Trod (shut_int Tryd.underlying3 x1) rfl)) (trodAll_cons_mk (Joins.shut_agg2 Tryd.underlying23 (by kernel_rfl) (by kernel_rfl) (Joins.field_of_Trod (shut_int Tryd.underlying2 w2) rfl) (Joins.field_of_Trod (shut_int Tryd.underlying3 x2) rfl)) (trodAll_cons_mk (shut_int Tryd.underlying3 w3) trodAll_mk0)))), rfl, (below_grown hg).frame _, fun h => by cases h⟩

theorem row_holds : Rows.EpochOrderSaid :=
  OpenClaim.holds_of_wide 4 Tryd.f4 rfl rfl rfl rfl rfl rfl rfl ⟨rfl, rfl, rfl, rfl, rfl⟩ rfl rfl rfl rfl rfl (by kernel_rfl) Tryd.func4 (by kernel_rfl)
    (of_decide_eq_true (by kernel_rfl)) (by unfold Func.isWrapper; first | (rw [if_pos (by decide +kernel)]; kernel_rfl) | (rw [if_neg (by decide +kernel)]; exact ⟨rfl, rfl⟩))
    (fun os started H enc _ => lifted os started H enc)

theorem card_holds : Rows.EpochOrderCardSaid :=
  Claim7.holds_tied_plain_at .later [] _ true _ false
    row_holds (fun _ h => by cases h) (by kernel_rfl) (fun _ h => by cases h) epochOrder_row_tie rfl ⟨rfl, rfl⟩ (by kernel_rfl) rfl
    (fun f fn hf hfn => by
      obtain rfl : f = 4 := Option.some.inj ((show Tryd.prog.funcNamed "paternoster/paternosterlaw4.EpochOrder" = some 4 by kernel_rfl).symm.trans hf) |>.symm
      obtain rfl : fn = Tryd.f4 := (Option.some.inj (Tryd.func4.symm.trans hfn)).symm
      exact ⟨by kernel_rfl, fun j t ht => by
        rw [Tryd.params4] at ht
        rcases j with _ | _ | _ | _ | j
        · obtain rfl : t = 23 := by simpa using ht.symm
          exact (show Tryd.prog.wantsStandIn 23 = false by kernel_rfl)
        · obtain rfl : t = 23 := by simpa using ht.symm
          exact (show Tryd.prog.wantsStandIn 23 = false by kernel_rfl)
        · obtain rfl : t = 23 := by simpa using ht.symm
          exact (show Tryd.prog.wantsStandIn 23 = false by kernel_rfl)
        · obtain rfl : t = 3 := by simpa using ht.symm
          exact (show Tryd.prog.wantsStandIn 3 = false by kernel_rfl)
        · simp at ht⟩)
    (by kernel_rfl)
#print axioms card_holds
end Go.Proofs.YtnlicmcijmglfaaDoor.lawEOrder
