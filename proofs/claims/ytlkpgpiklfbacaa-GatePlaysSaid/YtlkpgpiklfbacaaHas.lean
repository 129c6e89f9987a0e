/- Who is among them: the package's Has, the document's Among. -/
import Derived.Test.YtlkpgpiklfbacaaSlices
import Derived.Test.YtlkpgpiklfbacaaOwnI
namespace Go.Proofs.Ytlkpgpiklfbacaa
open Go.RowKit

theorem HInts.args {w : World} {x : Addr} {n cap : Nat} {l : List Int} (h : HInts w (.slice (some x) n cap) l) : ∀ j u, (i64s l)[j]? = some u → w.cell? (x.add j) = some u := by
  intro j u hj
  have hjl : j < l.length := by have := (List.getElem?_eq_some_iff.1 hj).1; simpa using this
  have e : (i64s l)[j]? = some (.int .i64 (l.getD j 0)) := by simp [i64s, hjl]
  rw [e] at hj
  obtain rfl := Option.some.inj hj
  obtain ⟨a, cap', he, _, _, hc⟩ := h
  simp only [Value.slice.injEq] at he
  obtain ⟨rfl, rfl, rfl⟩ := he
  obtain ⟨b, off, he2, hc2⟩ := hc (by omega)
  simp only [Option.some.injEq] at he2
  subst he2
  rw [Addr.add_lit]
  exact hc2 j hjl
theorem i64s_one (l : List Int) : ∀ u ∈ i64s l, u.oneCell' = true := ints_oneCell _ _
theorem nil_ints (w : World) : HInts w (.slice none 0 0) [] := ⟨none, 0, rfl, by simp, by decide, fun h => absurd h (by simp)⟩

theorem has_any (v : Value) (l : List Int) (c : Int) (w : World) (h : HInts w v l) (b : Bool) (hb : b = decide (c ∈ l)) :
    Calls Try.prog 28 #[v, .int .i64 c] w fun e w' => e = .returned (.bool b) ∧ w' = w := by
  obtain ⟨a, cap, rfl, h1, h2, h3⟩ := h
  unfold maxLen at h2
  have hc : Calls Try.prog 31 #[.slice a l.length cap, .int .i64 c] w fun e w' => e = .returned (.bool b) ∧ w' = w := by
    by_cases h0 : 0 < l.length
    · obtain ⟨bk, off, rfl, hc⟩ := h3 h0
      refine (Try.slices_Contains_int bk off l.length cap l c w (Nat.le_refl _) (by omega) hc).mono ?_
      rintro e w' ⟨rfl, rfl⟩
      refine ⟨?_, rfl⟩
      rw [List.take_length, hb]
      congr 2
      simp
    · obtain rfl : l = [] := List.eq_nil_of_length_eq_zero (by omega)
      refine (Try.slices_Contains_int_empty a cap c w).mono ?_
      rintro e w' ⟨rfl, rfl⟩
      exact ⟨by simp [hb], rfl⟩
  have HC := Lib.hid hc
  clear hc h3 hb
  go_enter Try.func28, Try.ntmps28
  go_wp2_with fail
  refine HC.out.mono ?_
  rintro e w' ⟨rfl, rfl⟩
  go_wp2
  go_ret
  exact ⟨rfl, rfl⟩
set_option maxRecDepth 100000 in
theorem among_any (v : Value) (l : List Int) (c : Int) (w : World) (h : HInts w v l) (b : Bool) (hb : b = decide (c ∈ l)) :
    Calls Try.prog 24 #[v, .int .i64 c] w fun e w' => e = .returned (.bool b) ∧ w' = w := by
  obtain ⟨a, cap, rfl, h1, h2, h3⟩ := h
  unfold maxLen at h2
  have HB := Lib.hid hb
  clear hb
  go_enter Try.func24, Try.ntmps24
  go_wp2
  go_loopw [5] (fun i wr => ∃ k : Nat, k ≤ l.length ∧ i = .int .i64 k ∧ c ∉ l.take k ∧ wr = w) (fun i _ => l.length - (intOf i).toNat)
  case atStart => exact ⟨0, Nat.zero_le _, rfl, by simp, rfl⟩
  case round =>
    obtain ⟨k, hk, rfl, hpre, rfl⟩ := hrel
    have HP := Lib.hid hpre
    clear hpre
    by_cases hlt : k < l.length
    · obtain ⟨b1, o1, rfl, k1⟩ := h3 (by omega)
      have g1 := k1 k hlt
      have hs := take_snoc l k hlt
      have hm : l.getD k 0 ∈ l := by simp [hlt]
      obtain ⟨z, hz⟩ : ∃ z, z = l.getD k 0 := ⟨_, rfl⟩
      rw [← hz] at g1 hs hm
      have HS := Lib.hid hs
      have HM := Lib.hid hm
      clear hz hs hm k1 h3
      by_cases hn : z = c
      · have e1 : (z == c) = true := by simp [hn]
        have HE : Hid (b = true) := by show _ = _; rw [HB.out, decide_eq_true_iff, ← hn]; exact HM.out
        clear hn
        go_wp2
        go_ret
        exact ⟨by rw [HE.out]; rfl, rfl⟩
      · have e1 : (z == c) = false := by simp [hn]
        have HE : Hid (c ∉ l.take (k + 1)) := by
          show _
          rw [HS.out, List.mem_append, List.mem_singleton]
          rintro (h | h)
          · exact HP.out h
          · exact hn h.symm
        clear hn
        go_wp2
        go_roundw
        case rel => exact ⟨k + 1, by omega, by go_num, HE.out, trivial⟩
        case measure => simp [intOf]; omega
    · obtain rfl : k = l.length := by omega
      have HE : Hid (b = false) := by
        show _ = _
        rw [HB.out, decide_eq_false_iff_not]
        have := HP.out
        rwa [List.take_length] at this
      clear h3
      go_wp2
      go_ret
      exact ⟨by rw [HE.out]; rfl, rfl⟩
end Go.Proofs.Ytlkpgpiklfbacaa
