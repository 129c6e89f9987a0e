/- Proved: the stage law of founding (in any case: how long is waited, who the members would be, whether a ring is founded, are what the chapter says): its row, for every case, with no condition. -/
import Derived.Test.YtjjlajcpngphpaaRows
import Derived.Test.YtjjlajcpngphpaaLawFoSays
import Derived.Test.YtjjlajcpngphpaaFdOpen
import Derived.WalkKit
import Derived.ProofKit
import Derived.OpenShut
namespace Go.Proofs.Ytjjlajcpngphpaa.lawFoSays
open Go.ChangeShapes Go.WideShapes Go.ChangeAt Go.RowKit
set_option linter.unusedVariables false

theorem own : ownKnob Try.prog.godebug = none := by kernel_rfl
theorem laidOut : laidOutB Try.prog = true := by kernel_rfl

set_option maxRecDepth 100000 in
theorem lifted (os : Os) (started : os.Started) (H : Type) (enc : TypeId × Value → H) :
    ReturnsInHanded {} Try.checked os 3 .any (Rows.foundSaysSpec.pre6 enc Try.prog Try.f3 Rows.foundSaysRow.domain false) (Rows.foundSaysSpec.post enc Try.prog Try.f3 false true false false) := by
  refine returnsInHanded_of_change (C := Try.checked) own started (by kernel_rfl) Try.func3
    (ChangeSpec.witness6 (enc := enc) (C := Try.checked) false ⟨#[], #[.agg #[.int .i64 0, .int .i64 0, .bool false, .bool false, .slice none 0 0, .slice none 0 0, .int .i64 0, .int .i64 0]], []⟩ 8 (by kernel_rfl) (by kernel_rfl) (by kernel_rfl) (by kernel_rfl)) ?_
  intro W base args ds gs before hval0 hW hcnd _
  have hval : ∀ (j : Nat) t v, Try.f3.params[j]? = some t → args[j]? = some v → Value.okWide Try.prog W .any base t v := hval0
  have hW' := hW
  obtain ⟨p, q, hA0, hV, rfl, hfz, hnd⟩ := hW
  have hA : DataW.TrodAll enc Try.prog W 0 (fun _ => true) true Try.f3.params.toList args.toList ds p := hA0
  rw [Try.params3] at hA hval
  obtain ⟨v0, vs0, d0, ds0, p0, q0, hargs, rfl, rfl, h0, r0⟩ := trodAll_cons hA
  obtain ⟨rfl, rfl, rfl⟩ := trodAll_nil r0
  obtain rfl : args = #[v0] := by cases args; simp_all
  obtain ⟨rfl, rfl⟩ := trodVars_none hV
  obtain ⟨cs0, rfl, _⟩ := okWide_struct Try.underlying24 (hval 0 24 v0 rfl rfl)
  obtain ⟨ca0, cc0, ou0, an0, va0, vr0, si0, fo0, A0, R0, hy0, cA0, cR0, cb0, cf0⟩ : ∃ (ca cc : Int) (ou an : Bool) (va vr : Value) (si fo : Int) (A R : List Int), cs0.toList = [.int .i64 ca, .int .i64 cc, .bool ou, .bool an, va, vr, .int .i64 si, .int .i64 fo] ∧ HIf W va A ∧ HInts W vr R ∧ (-9223372036854775808 ≤ si ∧ si ≤ 9223372036854775807) ∧ (-9223372036854775808 ≤ fo ∧ fo ≤ 9223372036854775807) := by
    obtain ⟨fuel, hf⟩ := h0
    exact open_case (by simpa [Value.cells] using hf)
  obtain rfl : cs0 = #[.int .i64 ca0, .int .i64 cc0, .bool ou0, .bool an0, va0, vr0, .int .i64 si0, .int .i64 fo0] := by rw [← Array.toArray_toList (xs := cs0), hy0]
  have k0 := h0
  have lt0 : ∀ x ∈ p0, x.block < W.heap.size := by obtain ⟨m, hm⟩ := k0; exact DataW.trod_lt m _ _ _ hm
  clear hA0 hval0
  refine (fosays_walk ca0 cc0 ou0 an0 va0 vr0 si0 fo0 A0 R0 W cA0 cR0 cb0 cf0).mono fun e W' ⟨he, hg⟩ => ?_
  subst he
  exact ⟨_, rfl, _, _, _, [], _, [], hW', (trodAll_cons_mk (shut_bool Try.underlying4 _) trodAll_mk0), (trodAll_cons_mk (Below.trod laidOut (by kernel_rfl) (of_decide_eq_true (by kernel_rfl)) k0 (below_grown hg) lt0) trodAll_mk0), rfl, (below_grown hg).frame _, fun h => by cases h⟩

theorem law_holds : Rows.FoundSaysSaid :=
  OpenClaim.holds_of_wide 3 Try.f3 rfl rfl rfl rfl rfl rfl rfl ⟨rfl, rfl, rfl, rfl, rfl⟩ rfl rfl rfl rfl rfl (by kernel_rfl) Try.func3 (by kernel_rfl)
    (of_decide_eq_true (by kernel_rfl)) (by unfold Func.isWrapper; first | (rw [if_pos (by decide +kernel)]; kernel_rfl) | (rw [if_neg (by decide +kernel)]; exact ⟨rfl, rfl⟩))
    (fun os started H enc _ => lifted os started H enc)
#print axioms law_holds
end Go.Proofs.Ytjjlajcpngphpaa.lawFoSays
