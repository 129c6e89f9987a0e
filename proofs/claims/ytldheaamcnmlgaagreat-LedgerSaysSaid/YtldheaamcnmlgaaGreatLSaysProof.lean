/- Proved: the ledger's stage law (what is purged, added, wanted, bid, awarded, whose it is, passed on, are what the chapter says; what was handed in stays): its row, for every two rings, latches, car, bid, call and members, with no condition. -/
import Derived.Test.YtldheaamcnmlgaaGreatRows
import Derived.Test.YtldheaamcnmlgaaGreatLawLSays
import Derived.Test.YtldheaamcnmlgaaGreatInts
import Derived.Test.YtldheaamcnmlgaaGreatLgOpen
import Derived.Test.YtldheaamcnmlgaaGreatKOpen
import Derived.WalkKit
import Derived.ProofKit
import Derived.OpenShut
namespace Go.Proofs.YtldheaamcnmlgaaGreat.lawLSays
open Go.ChangeShapes Go.WideShapes Go.ChangeAt Go.RowKit
set_option linter.unusedVariables false

theorem own : ownKnob Tryz.prog.godebug = none := by kernel_rfl
theorem laidOut : laidOutB Tryz.prog = true := by kernel_rfl

set_option maxRecDepth 100000 in
theorem lifted (os : Os) (started : os.Started) (H : Type) (enc : TypeId × Value → H) :
    ReturnsInHanded {} Tryz.checked os 3 .any (Rows.ledgerSaysSpec.pre6 enc Tryz.prog Tryz.f3 Rows.ledgerSaysRow.domain false) (Rows.ledgerSaysSpec.post enc Tryz.prog Tryz.f3 false true false false) := by
  refine returnsInHanded_of_change (C := Tryz.checked) own started (by kernel_rfl) Tryz.func3
    (ChangeSpec.witness6 (enc := enc) (C := Tryz.checked) false ⟨#[], #[.agg #[.int .i64 0, .int .i64 0, .int .i64 0, .slice none 0 0, .slice none 0 0], .agg #[.int .i64 0, .int .i64 0, .int .i64 0, .slice none 0 0, .slice none 0 0], .slice none 0 0, .int .i64 0, .agg #[.int .i64 0, .int .i64 0], .agg #[.int .i64 0, .int .i64 0], .slice none 0 0], []⟩ 8 (by kernel_rfl) (by kernel_rfl) (by kernel_rfl) (by kernel_rfl)) ?_
  intro W base args ds gs before hval0 hW hcnd _
  have hval : ∀ (j : Nat) t v, Tryz.f3.params[j]? = some t → args[j]? = some v → Value.okWide Tryz.prog W .any base t v := hval0
  have hW' := hW
  obtain ⟨p, q, hA0, hV, rfl, hfz, hnd⟩ := hW
  have hA : DataW.TrodAll enc Tryz.prog W 0 (fun _ => true) true Tryz.f3.params.toList args.toList ds p := hA0
  rw [Tryz.params3] at hA hval
  obtain ⟨v0, vs0, d0, ds0, p0, q0, hargs, rfl, rfl, h0, r0⟩ := trodAll_cons hA
  obtain ⟨v1, vs1, d1, ds1, p1, q1, rfl, rfl, rfl, h1, r1⟩ := trodAll_cons r0
  obtain ⟨v2, vs2, d2, ds2, p2, q2, rfl, rfl, rfl, h2, r2⟩ := trodAll_cons r1
  obtain ⟨v3, vs3, d3, ds3, p3, q3, rfl, rfl, rfl, h3, r3⟩ := trodAll_cons r2
  obtain ⟨v4, vs4, d4, ds4, p4, q4, rfl, rfl, rfl, h4, r4⟩ := trodAll_cons r3
  obtain ⟨v5, vs5, d5, ds5, p5, q5, rfl, rfl, rfl, h5, r5⟩ := trodAll_cons r4
  obtain ⟨v6, vs6, d6, ds6, p6, q6, rfl, rfl, rfl, h6, r6⟩ := trodAll_cons r5
  obtain ⟨rfl, rfl, rfl⟩ := trodAll_nil r6
  obtain rfl : args = #[v0, v1, v2, v3, v4, v5, v6] := by cases args; simp_all
  obtain ⟨rfl, rfl⟩ := trodVars_none hV
  obtain ⟨cs0, rfl, _⟩ := okWide_struct Tryz.underlying27 (hval 0 27 v0 rfl rfl)
  obtain ⟨y0, vm0, ve0, hy0, hm0, he0, hb0⟩ : ∃ (r : Fm.Rg) (vm ve : Value), cs0.toList = [.int .i64 r.co, .int .i64 r.fo, .int .i64 r.ho, vm, ve] ∧ HInts W vm r.ms ∧ HE W ve r.es ∧ (-9223372036854775808 ≤ r.ho ∧ r.ho ≤ 9223372036854775807) := by
    obtain ⟨fuel, hf⟩ := h0
    exact open_ring (by simpa [Value.cells] using hf)
  obtain rfl : cs0 = #[.int .i64 y0.co, .int .i64 y0.fo, .int .i64 y0.ho, vm0, ve0] := by rw [← Array.toArray_toList (xs := cs0), hy0]
  have k0 := h0
  have lt0 : ∀ x ∈ p0, x.block < W.heap.size := by obtain ⟨m, hm⟩ := k0; exact DataW.trod_lt m _ _ _ hm
  obtain ⟨cs1, rfl, _⟩ := okWide_struct Tryz.underlying27 (hval 1 27 v1 rfl rfl)
  obtain ⟨y1, vm1, ve1, hy1, hm1, he1, hb1⟩ : ∃ (r : Fm.Rg) (vm ve : Value), cs1.toList = [.int .i64 r.co, .int .i64 r.fo, .int .i64 r.ho, vm, ve] ∧ HInts W vm r.ms ∧ HE W ve r.es ∧ (-9223372036854775808 ≤ r.ho ∧ r.ho ≤ 9223372036854775807) := by
    obtain ⟨fuel, hf⟩ := h1
    exact open_ring (by simpa [Value.cells] using hf)
  obtain rfl : cs1 = #[.int .i64 y1.co, .int .i64 y1.fo, .int .i64 y1.ho, vm1, ve1] := by rw [← Array.toArray_toList (xs := cs1), hy1]
  have k1 := h1
  have lt1 : ∀ x ∈ p1, x.block < W.heap.size := by obtain ⟨m, hm⟩ := k1; exact DataW.trod_lt m _ _ _ hm
  obtain ⟨a2, len2, cap2, rfl⟩ := okWide_slice Tryz.underlying28 (hval 2 28 v2 rfl rfl)
  have k2 := h2
  have lt2 : ∀ x ∈ p2, x.block < W.heap.size := by obtain ⟨m, hm⟩ := k2; exact DataW.trod_lt m _ _ _ hm
  obtain ⟨l2, hd2⟩ : ∃ l, HLs W (.slice a2 len2 cap2) l := by
    obtain ⟨fuel, hf⟩ := h2
    exact open_latchs (by simpa [Value.cells] using hf)
  obtain ⟨a3, rfl, rfl, rfl, w3⟩ := open_int Tryz.underlying3 (hval 3 3 v3 rfl rfl) h3
  obtain ⟨cs4, rfl, _⟩ := okWide_struct Tryz.underlying30 (hval 4 30 v4 rfl rfl)
  obtain ⟨y4f, y4d, hy4⟩ : ∃ f d : Int, cs4.toList = [.int .i64 f, .int .i64 d] := by
    obtain ⟨fuel, hf⟩ := h4
    have := open_bid hf
    simpa [Value.cells] using this
  obtain rfl : cs4 = #[.int .i64 y4f, .int .i64 y4d] := by rw [← Array.toArray_toList (xs := cs4), hy4]
  have k4 := h4
  have lt4 : ∀ x ∈ p4, x.block < W.heap.size := by obtain ⟨m, hm⟩ := k4; exact DataW.trod_lt m _ _ _ hm
  obtain ⟨cs5, rfl, _⟩ := okWide_struct Tryz.underlying32 (hval 5 32 v5 rfl rfl)
  obtain ⟨y5f, y5d, hy5⟩ : ∃ f d : Int, cs5.toList = [.int .i64 f, .int .i64 d] := by
    obtain ⟨fuel, hf⟩ := h5
    have := open_call hf
    simpa [Value.cells] using this
  obtain rfl : cs5 = #[.int .i64 y5f, .int .i64 y5d] := by rw [← Array.toArray_toList (xs := cs5), hy5]
  have k5 := h5
  have lt5 : ∀ x ∈ p5, x.block < W.heap.size := by obtain ⟨m, hm⟩ := k5; exact DataW.trod_lt m _ _ _ hm
  obtain ⟨a6, len6, cap6, rfl⟩ := okWide_slice Tryz.underlying24 (hval 6 24 v6 rfl rfl)
  have k6 := h6
  have lt6 : ∀ x ∈ p6, x.block < W.heap.size := by obtain ⟨m, hm⟩ := k6; exact DataW.trod_lt m _ _ _ hm
  obtain ⟨z6, w6⟩ : ∃ zs, (a6 = none ∧ len6 = 0 ∧ cap6 = 0 ∧ zs = []) ∨ ∃ x, a6 = some x ∧ len6 ≤ cap6 ∧ cap6 ≤ maxLen ∧ zs.length = cap6 ∧ (∀ i, i < zs.length → W.cell? (x.add i) = some (.int .i64 (zs.getD i 0))) ∧ ∀ n ∈ zs, (Lit.int .i64 n).wf = true := by
    obtain ⟨fuel, hf⟩ := h6
    rcases open_ints Tryz.underlying24 Tryz.underlying3 (by kernel_rfl) hf with ⟨hcs, _⟩ | ⟨x, l, c, zs, hcs, _, hl, hm, hz, _, hcell, hwz⟩
    · simp [Value.cells] at hcs
      obtain ⟨rfl, rfl, rfl⟩ := hcs
      exact ⟨[], .inl ⟨rfl, rfl, rfl, rfl⟩⟩
    · simp [Value.cells] at hcs
      obtain ⟨rfl, rfl, rfl⟩ := hcs
      exact ⟨zs, .inr ⟨_, rfl, hl, hm, by simpa using hz, hcell, hwz⟩⟩
  obtain ⟨hh6, hs6, hw6⟩ := holds_of_ints w6
  clear hA0 hval0
  refine (lsays_walk y0 vm0 ve0 y1 vm1 ve1 _ l2 a3 (y4f, y4d) (y5f, y5d) _ _ W hm0 he0 hb0 hm1 he1 hb1 hd2 hh6).mono fun e W' ⟨he, hg⟩ => ?_
  subst he
  exact ⟨_, rfl, _, _, _, [], _, [], hW', (trodAll_cons_mk (shut_bool Tryz.underlying4 _) trodAll_mk0), (trodAll_cons_mk (Below.trod laidOut (by kernel_rfl) (of_decide_eq_true (by kernel_rfl)) k0 (below_grown hg) lt0) (trodAll_cons_mk (Below.trod laidOut (by kernel_rfl) (of_decide_eq_true (by kernel_rfl)) k1 (below_grown hg) lt1) (trodAll_cons_mk (Below.trod laidOut (by kernel_rfl) (of_decide_eq_true (by kernel_rfl)) k2 (below_grown hg) lt2) (trodAll_cons_mk (shut_int Tryz.underlying3 w3) (trodAll_cons_mk (Below.trod laidOut (by kernel_rfl) (of_decide_eq_true (by kernel_rfl)) k4 (below_grown hg) lt4) (trodAll_cons_mk (Below.trod laidOut (by kernel_rfl) (of_decide_eq_true (by kernel_rfl)) k5 (below_grown hg) lt5) (trodAll_cons_mk (Below.trod laidOut (by kernel_rfl) (of_decide_eq_true (by kernel_rfl)) k6 (below_grown hg) lt6) trodAll_mk0))))))), rfl, (below_grown hg).frame _, fun h => by cases h⟩

theorem law_holds : Rows.LedgerSaysSaid :=
  OpenClaim.holds_of_wide 3 Tryz.f3 rfl rfl rfl rfl rfl rfl rfl ⟨rfl, rfl, rfl, rfl, rfl⟩ rfl rfl rfl rfl rfl (by kernel_rfl) Tryz.func3 (by kernel_rfl)
    (of_decide_eq_true (by kernel_rfl)) (by unfold Func.isWrapper; first | (rw [if_pos (by decide +kernel)]; kernel_rfl) | (rw [if_neg (by decide +kernel)]; exact ⟨rfl, rfl⟩))
    (fun os started H enc _ => lifted os started H enc)
#print axioms law_holds
end Go.Proofs.YtldheaamcnmlgaaGreat.lawLSays
