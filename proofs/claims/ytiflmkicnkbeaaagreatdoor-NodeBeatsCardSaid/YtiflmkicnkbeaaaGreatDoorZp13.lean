import Derived.Test.YtiflmkicnkbeaaaGreatDoorZp02
import Derived.IntWalk
namespace Go.Proofs.YtiflmkicnkbeaaaGreatDoor
open Go.RowKit
def validB (c f : Int) : Bool := decide (1 ≤ c ∧ c ≤ 4294967295 ∧ 0 ≤ f ∧ f < 16)
set_option maxRecDepth 100000 in
theorem epvalid_any (c f : Int) (w : World) : Calls Tryz.prog 184 #[.agg #[.int .i64 c, .int .i64 f]] w fun e w' => e = .returned (.bool (validB c f)) ∧ Fr w w' [] := by
 obtain ⟨v, hv⟩ : ∃ v, validB c f = v := ⟨_, rfl⟩
 have hcase : (1 ≤ c ∧ c ≤ 4294967295 ∧ 0 ≤ f ∧ f < 16 ∧ v = true) ∨ (1 ≤ c ∧ c ≤ 4294967295 ∧ 0 ≤ f ∧ ¬ f < 16 ∧ v = false) ∨ (1 ≤ c ∧ c ≤ 4294967295 ∧ ¬ 0 ≤ f ∧ v = false) ∨ (1 ≤ c ∧ ¬ c ≤ 4294967295 ∧ v = false) ∨ (¬ 1 ≤ c ∧ v = false) := by
  subst hv
  simp only [validB, decide_eq_true_eq, decide_eq_false_iff_not]
  omega
 rw [hv]
 clear hv
 rcases hcase with ⟨h1, h2, h3, h4, rfl⟩ | ⟨h1, h2, h3, h4, rfl⟩ | ⟨h1, h2, h3, rfl⟩ | ⟨h1, h2, rfl⟩ | ⟨h1, rfl⟩
 all_goals
  go_enter Tryz.func184, Tryz.ntmps184
  go_wp2
  go_ret
  exact ⟨rfl, Fr.alloc _ _ _⟩
theorem none_any (c f : Int) (w : World) : Calls Tryz.prog 211 #[.agg #[.int .i64 c, .int .i64 f]] w fun e w' => e = .returned (.bool (decide (c = 0))) ∧ Fr w w' [] := by
 by_cases h : c = 0
 all_goals
  first | rw [decide_eq_true h] | rw [decide_eq_false h]
  go_enter Tryz.func211, Tryz.ntmps211
  go_wp2
  go_ret
  refine ⟨?_, Fr.alloc _ _ _⟩
  simp [h]
def EpNext (s f x y : Int) (ok : Bool) : Prop :=
 (0 ≤ s ∧ s < 4294967295 ∧ 0 ≤ f ∧ f < 16 ∧ x = s + 1 ∧ y = f ∧ ok = true) ∨ (¬ (0 ≤ s ∧ s < 4294967295 ∧ 0 ≤ f ∧ f < 16) ∧ x = 0 ∧ y = 0 ∧ ok = false)
theorem next_is (s f : Int) : ∃ x y ok, EpNext s f x y ok := by
 by_cases h : 0 ≤ s ∧ s < 4294967295 ∧ 0 ≤ f ∧ f < 16
 · exact ⟨_, _, _, .inl ⟨h.1, h.2.1, h.2.2.1, h.2.2.2, rfl, rfl, rfl⟩⟩
 · exact ⟨_, _, _, .inr ⟨h, rfl, rfl, rfl⟩⟩
theorem wrap_next (s : Int) (h0 : -9223372036854775808 ≤ s) (h1 : s ≤ 9223372036854775807) : IntKind.i64.wrap (s + 1) = s + 1 ∨ (s = 9223372036854775807 ∧ IntKind.i64.wrap (s + 1) = -9223372036854775808) := by
 by_cases h : s = 9223372036854775807
 · subst h; exact .inr ⟨rfl, by decide⟩
 · exact .inl (IntWalk.i64_in _ (by omega))
theorem pair_kept {w w' : World} {g : Nat} {a b : Int} {T : TypeId} (hg : w.heap[g]? = some (.cells #[.int .i64 a, .int .i64 b] T (0, 0))) (hf : Fr w w' []) :
 (w'.cell? ⟨g, 0, none⟩ = some (.int .i64 a) ∧ w'.cell? ⟨g, 1, none⟩ = some (.int .i64 b)) ∧ (w'.frozen? ⟨g, 0, none⟩ = false ∧ w'.frozen? ⟨g, 1, none⟩ = false) ∧ g < w'.heap.size := by
 have h := hf.heap hg (by simp)
 exact ⟨⟨by rw [cell_of_row w' g 0 _ _ _ h]; rfl, by rw [cell_of_row w' g 1 _ _ _ h]; rfl⟩, ⟨frozen_of_row w' g 0 _ _ h, frozen_of_row w' g 1 _ _ h⟩, (Array.getElem?_eq_some_iff.1 h).1⟩
set_option maxRecDepth 100000 in
theorem epnext_any (s f x y : Int) (ok : Bool) (w : World) (h : EpNext s f x y ok) (h0 : -9223372036854775808 ≤ s) (h1 : s ≤ 9223372036854775807) :
 Calls Tryz.prog 132 #[.int .i64 s, .int .i64 f] w fun e w' => e = .returned (.tuple #[.agg #[.int .i64 x, .int .i64 y], .bool ok]) ∧ Fr w w' [] := by
 obtain ⟨c, hc⟩ : ∃ c, IntKind.i64.wrap (s + 1) = c := ⟨_, rfl⟩
 have hcc : c = s + 1 ∨ (s = 9223372036854775807 ∧ c = -9223372036854775808) := by rw [← hc]; exact wrap_next s h0 h1
 obtain ⟨v, hv⟩ : ∃ v, validB c f = v := ⟨_, rfl⟩
 have hvv : (v = true ∧ x = c ∧ y = f ∧ ok = true) ∨ (v = false ∧ x = 0 ∧ y = 0 ∧ ok = false) := by
  unfold EpNext at h
  subst hv
  simp only [validB, decide_eq_true_eq, decide_eq_false_iff_not]
  rcases h with ⟨a, b, c1, d, rfl, rfl, rfl⟩ | ⟨a, rfl, rfl, rfl⟩
  · left; simp; omega
  · right; simp; omega
 have HV := Lib.hid (fun W => (hv ▸ epvalid_any c f W))
 clear h hv hcc
 go_enter Tryz.func132, Tryz.ntmps132
 go_wp2_with fail
 have hg0 : ((w.alloc (.cells #[.int .i64 0, .int .i64 0] 35)).alloc (.cells #[.int .i64 c, .int .i64 f] 35)).heap[w.heap.size]? = some (.cells #[.int .i64 0, .int .i64 0] 35 (0, 0)) := by
  rw [Below.heap_alloc _ _ _ (by simp)]; exact heap_alloc_new w _
 have hg1 : ((w.alloc (.cells #[.int .i64 0, .int .i64 0] 35)).alloc (.cells #[.int .i64 c, .int .i64 f] 35)).heap[w.heap.size + 1]? = some (.cells #[.int .i64 c, .int .i64 f] 35 (0, 0)) := by
  have := heap_alloc_new (w.alloc (.cells #[.int .i64 0, .int .i64 0] 35)) (.cells #[.int .i64 c, .int .i64 f] 35)
  simpa using this
 refine (HV.out _).mono ?_
 rintro e w1 ⟨rfl, hf⟩
 have hF : Fr w w1 [] := (Fr.alloc _ _ _).trans ((Fr.alloc _ _ _).trans hf)
 obtain ⟨⟨r0, r1⟩, ⟨y0, y1⟩, _⟩ := pair_kept hg0 hf
 obtain ⟨⟨s0, s1⟩, _, _⟩ := pair_kept hg1 hf
 have HF := Lib.hid hF
 clear hg0 hg1 hf hF hc
 rcases hvv with ⟨rfl, rfl, rfl, rfl⟩ | ⟨rfl, rfl, rfl, rfl⟩
 all_goals
  go_wp2
  refine bodyPost_ret (v := .tuple #[.agg #[.int .i64 _, .int .i64 _], .bool _]) (by simp [results, Tryz.results132, go_sem, r0, r1]) rfl ⟨rfl, ?_⟩
  exact HF.out.comb ((Fr.setCell (S := [w.heap.size]) _ _ _ _ (by simp)).trans (Fr.setCell _ _ _ _ (by simp))) (by simp) (by simp)
end Go.Proofs.YtiflmkicnkbeaaaGreatDoor
