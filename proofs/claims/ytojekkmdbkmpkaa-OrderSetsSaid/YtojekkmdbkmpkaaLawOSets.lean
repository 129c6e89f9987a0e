/- The law of sets: a set has all that were there, each once, rising; a set of a set is it; one more is in it: its walk. -/
import Derived.Test.YtojekkmdbkmpkaaRSet
import Derived.Test.YtojekkmdbkmpkaaOFirst
namespace Go.Proofs.Ytojekkmdbkmpkaa
open Go.RowKit

theorem among_at (v : Value) (l : List Int) (c : Int) (w : World) (n : Nat) (h : HInts w v l) (b : Bool) (hb : b = decide (c ∈ l)) :
    Calls Try.prog 10 #[v, .int .i64 c] (w.drewN n) fun e w' => e = .returned (.bool b) ∧ ∃ m, w' = w.drewN m := by
  refine (among_any v l c (w.drewN n) (h.keep (Fr.drewN w n [])) b hb).mono ?_
  rintro e w' ⟨he, rfl⟩
  exact ⟨he, n, rfl⟩
theorem putS_len {l : List Int} {x : Int} (h : x ∉ l) : (putS l x).length = l.length + 1 := by
  induction l with
  | nil => rfl
  | cons y l ih =>
    rw [List.mem_cons, not_or] at h
    unfold putS
    by_cases h1 : y < x
    · rw [if_pos h1, List.length_cons, ih h.2, List.length_cons]
    · rw [if_neg h1, if_neg (fun e => h.1 e.symm)]; simp
theorem more_in {l : List Int} {n : Int} (h : n ∈ l) : setOf (l ++ [n]) = setOf l := setOf_eq (fun x => by
  rw [List.mem_append, List.mem_singleton]
  constructor
  · rintro (h' | rfl)
    · exact h'
    · exact h
  · exact .inl)
theorem more_out (l : List Int) (n : Int) : setOf (l ++ [n]) = putS (setOf l) n := rises_unique (setOf_rises _) (putS_rises (setOf_rises l)) (fun x => by
  rw [mem_setOf, mem_putS, mem_setOf, List.mem_append, List.mem_singleton, or_comm])

set_option maxHeartbeats 4000000 in
set_option maxRecDepth 100000 in
theorem osets_walk (v : Value) (l : List Int) (n : Int) (w : World) (h : HInts w v l) (hv : v = .slice none 0 0 ∨ ∃ x cp, v = .slice (some x) l.length cp) :
    Calls Try.prog 6 #[v, .int .i64 n] w fun e w' => e = .returned (.bool true) ∧ w.grownBy w' none := by
  obtain ⟨i0, hi, hz0, hz1, hz2⟩ := info_parts infoI
  have HH := Lib.hid h
  have HV := Lib.hid hv
  obtain ⟨a, cap, rfl, _, _, hcl⟩ := h
  have HCL := Lib.hid hcl
  clear hv hcl
  by_cases hl : l.length ≤ 20
  · go_enter Try.func6, Try.ntmps6
    go_wp2_with fail
    refine (first_any _).mono ?_
    rintro e w1 ⟨rfl, hf⟩
    have H1 := Lib.hid (HH.out.keep hf)
    have F1 := Lib.hid hf
    clear hf
    go_wp2_with fail
    refine (set_any _ l w1 H1.out HV.out (by omega)).mono ?_
    rintro e w2 ⟨sv, rfl, ho, hf⟩
    obtain ⟨s, hs⟩ : ∃ s, s = setOf l := ⟨_, rfl⟩
    have HR : Hid (Rises s) := by rw [hs]; exact setOf_rises l
    have HSE := Lib.hid hs
    have HM : Hid (∀ x, x ∈ s ↔ x ∈ l) := by rw [hs]; exact fun x => mem_setOf
    have hle : s.length ≤ l.length := by rw [hs]; exact setOf_length l
    rw [← hs] at ho
    have OO := Lib.hid ho
    have O2 := Lib.hid ho.holds
    have L2 := Lib.hid (H1.out.keep hf)
    have F2 := Lib.hid (F1.out.trans hf)
    obtain ⟨sa, sc, rfl⟩ := row_shape ho
    obtain ⟨a', c', he', _, _, hc⟩ := O2.out
    simp only [Value.slice.injEq, true_and] at he'
    obtain ⟨rfl, rfl⟩ := he'
    have HCS := Lib.hid hc
    clear ho hf hs H1 F1 hc
    go_wp2
    go_loopw [7] (fun i wr => ∃ k : Nat, k ≤ s.length ∧ i = .int .i64 k ∧ Fr w2 wr []) (fun i _ => s.length - (intOf i).toNat)
    case atStart => exact ⟨0, by omega, rfl, Fr.refl _ _⟩
    case round =>
      obtain ⟨k, hk, rfl, hf⟩ := hrel
      have F3 := Lib.hid hf
      have L3 := Lib.hid (L2.out.keep hf)
      have S3 := Lib.hid (O2.out.keep hf)
      clear hf
      by_cases hlt : k < s.length
      · obtain ⟨b, off, rfl, hc⟩ := HCS.out (by omega)
        obtain ⟨z, hz⟩ : ∃ z, z = s.getD k 0 := ⟨_, rfl⟩
        have g1 := F3.out.cell (hc k hlt) (by simp)
        have hin : z ∈ l := by rw [← HM.out, hz]; simp [hlt]
        rw [← hz] at g1
        have HI := Lib.hid hin
        by_cases h0 : k = 0
        · subst h0
          rw [Nat.add_zero] at g1
          have hlt0 : (0 : Int) < (s.length : Int) := by omega
          have hd0 : decide ((0 : Int) > 0) = false := by decide
          clear hz hin hc
          go_wp2
          go_quiet ((go_at_call 10; exact among_at _ l z wr _ L3.out true (by simp [HI.out])))
          go_wp2
          go_roundw
          case rel => exact ⟨1, by omega, by go_num, F3.out.trans (Fr.drewN _ _ [])⟩
          case measure => simp [intOf]; omega
        · obtain ⟨j, rfl⟩ : ∃ j, k = j + 1 := ⟨k - 1, by omega⟩
          obtain ⟨y, hy⟩ : ∃ y, y = s.getD j 0 := ⟨_, rfl⟩
          have g0 := F3.out.cell (hc j (by omega)) (by simp)
          rw [← hy] at g0
          have hlt2 : y < z := by
            have := List.pairwise_iff_getElem.1 HR.out j (j + 1) (by omega) hlt (by omega)
            rw [hy, hz]
            simpa [hlt, show j < s.length by omega] using this
          have hd1 : decide (((j + 1 : Nat) : Int) > 0) = true := decide_eq_true (by omega)
          have hd2 : decide (y ≥ z) = false := decide_eq_false (by omega)
          have hw1 : IntKind.i64.wrap (((j + 1 : Nat) : Int) - 1) = (j : Int) := by rw [IntKind.wrap_i64]; omega
          clear hz hin hc hy
          go_wp2
          go_quiet ((go_at_call 10; exact among_at _ l z wr _ L3.out true (by simp [HI.out])))
          go_wp2
          go_roundw
          case rel => exact ⟨j + 1 + 1, by omega, by go_num, F3.out.trans (Fr.drewN _ _ [])⟩
          case measure => simp [intOf]; omega
      · obtain rfl : k = s.length := by omega
        go_wp2
        go_loopw [8] (fun i wr => ∃ k : Nat, k ≤ l.length ∧ i = .int .i64 k ∧ Fr w2 wr []) (fun i _ => l.length - (intOf i).toNat)
        case atStart => exact ⟨0, by omega, rfl, F3.out⟩
        case round =>
          obtain ⟨k, hk, rfl, hf⟩ := hrel
          clear F3 L3 S3
          have F3 := Lib.hid hf
          have L3 := Lib.hid (L2.out.keep hf)
          have S3 := Lib.hid (O2.out.keep hf)
          clear hf
          by_cases hlt2 : k < l.length
          · obtain ⟨b, off, rfl, hc⟩ := HCL.out (by omega)
            obtain ⟨z, hz⟩ : ∃ z, z = l.getD k 0 := ⟨_, rfl⟩
            have g1 := (F2.out.trans F3.out).cell (hc k hlt2) (by simp)
            have hin : z ∈ s := by rw [HM.out, hz]; simp [hlt2]
            rw [← hz] at g1
            have HI := Lib.hid hin
            clear hz hin hc
            go_wp2_with fail
            refine (has_any _ s z _ S3.out true (by simp [HI.out])).mono ?_
            rintro e w4 ⟨rfl, rfl⟩
            go_wp2
            go_roundw
            case rel => exact ⟨k + 1, by omega, by go_num, F3.out⟩
            case measure => simp [intOf]; omega
          · obtain rfl : k = l.length := by omega
            clear hlt
            go_wp2_with fail
            refine (ints_any _ l _ L3.out (by omega)).mono ?_
            rintro e w4 ⟨cv, rfl, ho, hg⟩
            have O4 := Lib.hid ho
            have F4 := Lib.hid (F3.out.trans (Fr.of_grown hg []))
            have HGS := Lib.hid hg.size
            clear ho hg
            go_wp2_with (at_builtin; refine wpList_append_own _ rfl _ _ 22 rfl wr.heap.size 3 i0 (.int .i64 0) 1 8 Try.underlying22 hi hz0 hz1 hz2 rfl (by decide) _ _ _ rfl (World.ownsRow.alloc O4.out _) ⟨w4.heap.size, 0, none⟩ 1 1 [.int .i64 n] rfl rfl (cell_one_new _ _ _) (one_cell _ _) (by unfold maxLen; omega) (by omega) (by have := HGS.out; simp; omega) ?_; intro v' w5 hown5 hg5 _)
            have O5 := Lib.hid (OwnI.snoc hown5)
            have F5 := Lib.hid ((F4.out.trans (Fr.alloc _ (.cells #[.int .i64 n] 3) [])).grown_own hg5 (fun r hr => .inr (by have := (O4.out.block r hr).1; have := F3.out.size; omega)))
            clear hown5 hg5
            go_wp2_with fail
            refine (set_any _ (l ++ [n]) _ O5.out.holds O5.out.form (by simp; omega)).mono ?_
            rintro e w6 ⟨mv, rfl, ho, hf⟩
            obtain ⟨m, hm⟩ : ∃ m, m = setOf (l ++ [n]) := ⟨_, rfl⟩
            rw [← hm] at ho
            have hmn : n ∈ m := by rw [hm, mem_setOf]; simp
            have HMN := Lib.hid hmn
            have HML : Hid (m.length = if n ∈ s then s.length else s.length + 1) := by
              show _ = _
              split
              · rename_i hx
                rw [hm, more_in ((HM.out n).1 hx), ← HSE.out]
              · rename_i hx
                rw [hm, more_out, ← HSE.out, putS_len hx]
            have F6 := Lib.hid (F5.out.trans hf)
            have M6 := Lib.hid ho.holds
            have S6 := Lib.hid (O2.out.keep F6.out)
            have L6 := Lib.hid (L2.out.keep F6.out)
            obtain ⟨ma, mc, rfl⟩ := row_shape ho
            clear ho hf hm hmn O5 F5 O4 F4 F3 L3 S3
            by_cases hl0 : l = []
            · have hs0 : s = [] := List.eq_nil_of_length_eq_zero (by rw [hl0] at hle; simpa using hle)
              have hns : n ∉ s := by rw [hs0]; simp
              have HX := Lib.hid hns
              have HLE : Hid (LeastIs l 0 false) := .inl ⟨hl0, rfl, rfl⟩
              have HS0 := Lib.hid hs0
              have hmlI : ((m.length : Int) == (s.length : Int) + 1) = true := by rw [HML.out, if_neg hns]; simp
              clear hl0 hs0 hns
              go_wp2_with fail
              refine (has_any _ s n _ S6.out false (by simp [HX.out])).mono ?_
              rintro e w7 ⟨rfl, rfl⟩
              go_wp2_with fail
              refine (least_any _ l _ L6.out 0 false HLE.out).mono ?_
              rintro e w7 ⟨rfl, rfl⟩
              go_wp2_with fail
              refine (set_any _ s _ S6.out (OO.out.form) (by omega)).mono ?_
              rintro e w8 ⟨u, rfl, ho, hf⟩
              rw [setOf_self HR.out] at ho
              have O8 := Lib.hid ho.holds
              have S8 := Lib.hid (S6.out.keep hf)
              have M8 := Lib.hid (M6.out.keep hf)
              have F8 := Lib.hid (F6.out.trans hf)
              clear ho hf
              go_wp2_with fail
              refine (same_any _ s _ s w8 O8.out S8.out true (by simp)).mono ?_
              rintro e w9 ⟨rfl, q, rfl⟩
              have M9 := Lib.hid (M8.out.keep (Fr.drewN w8 q []))
              have F9 := Lib.hid (F8.out.trans (Fr.drewN w8 q []))
              go_wp2_with fail
              refine (has_any _ m n _ M9.out true (by simp [HMN.out])).mono ?_
              rintro e w10 ⟨rfl, rfl⟩

              go_wp2_with fail
              refine (one_of _).mono ?_
              rintro e w10 ⟨rfl, rfl⟩
              go_wp2
              all_goals first
                | (rename_i hne; exact absurd HS0.out hne)
                | (go_ret; exact ⟨rfl, (F2.out.trans F9.out).grown (by simp)⟩)
            · have hsp : 0 < s.length := by
                cases l with
                | nil => exact absurd rfl hl0
                | cons x l => exact List.length_pos_of_mem ((HM.out x).2 (List.mem_cons_self (a := x)))
              have hspI : (s.length : Int) > 0 := by omega
              obtain ⟨b, off, rfl, hc⟩ := HCS.out hsp
              obtain ⟨z, hz⟩ : ∃ z, z = s.getD 0 0 := ⟨_, rfl⟩
              have HLE : Hid (LeastIs l z true) := by
                rcases rises_least HR.out hsp with ⟨_, _, h⟩ | ⟨_, h1, h2⟩
                · simp at h
                · rw [← hz] at h1 h2
                  exact .inr ⟨rfl, (HM.out z).1 h1, fun y hy => h2 y ((HM.out y).2 hy)⟩
              have hc0 := hc 0 hsp
              rw [← hz, Nat.add_zero] at hc0
              have HC0 := Lib.hid hc0
              clear hc hz hc0 hl0
              by_cases hns : n ∈ s
              · have HX := Lib.hid hns
                have hmlI : ((m.length : Int) == (s.length : Int)) = true := by rw [HML.out, if_pos hns]; simp
                clear hns
                go_wp2_with fail
                refine (has_any _ s n _ S6.out true (by simp [HX.out])).mono ?_
                rintro e w7 ⟨rfl, rfl⟩
                go_wp2_with fail
                refine (least_any _ l _ L6.out z true HLE.out).mono ?_
                rintro e w7 ⟨rfl, rfl⟩
                go_wp2_with fail
                refine (set_any _ s _ S6.out (OO.out.form) (by omega)).mono ?_
                rintro e w8 ⟨u, rfl, ho, hf⟩
                rw [setOf_self HR.out] at ho
                have O8 := Lib.hid ho.holds
                have S8 := Lib.hid (S6.out.keep hf)
                have M8 := Lib.hid (M6.out.keep hf)
                have F8 := Lib.hid (F6.out.trans hf)
                clear ho hf
                go_wp2_with fail
                refine (same_any _ s _ s w8 O8.out S8.out true (by simp)).mono ?_
                rintro e w9 ⟨rfl, q, rfl⟩
                have M9 := Lib.hid (M8.out.keep (Fr.drewN w8 q []))
                have F9 := Lib.hid (F8.out.trans (Fr.drewN w8 q []))
                go_wp2_with fail
                refine (has_any _ m n _ M9.out true (by simp [HMN.out])).mono ?_
                rintro e w10 ⟨rfl, rfl⟩

                have g9 := F9.out.cell (HC0.out) (by simp)

                go_wp2_with fail
                refine (one_of _).mono ?_
                rintro e w10 ⟨rfl, rfl⟩
                go_wp2
                go_ret
                exact ⟨rfl, (F2.out.trans F9.out).grown (by simp)⟩
              · have HX := Lib.hid hns
                have hmlI : ((m.length : Int) == (s.length : Int) + 1) = true := by rw [HML.out, if_neg hns]; simp
                clear hns
                go_wp2_with fail
                refine (has_any _ s n _ S6.out false (by simp [HX.out])).mono ?_
                rintro e w7 ⟨rfl, rfl⟩
                go_wp2_with fail
                refine (least_any _ l _ L6.out z true HLE.out).mono ?_
                rintro e w7 ⟨rfl, rfl⟩
                go_wp2_with fail
                refine (set_any _ s _ S6.out (OO.out.form) (by omega)).mono ?_
                rintro e w8 ⟨u, rfl, ho, hf⟩
                rw [setOf_self HR.out] at ho
                have O8 := Lib.hid ho.holds
                have S8 := Lib.hid (S6.out.keep hf)
                have M8 := Lib.hid (M6.out.keep hf)
                have F8 := Lib.hid (F6.out.trans hf)
                clear ho hf
                go_wp2_with fail
                refine (same_any _ s _ s w8 O8.out S8.out true (by simp)).mono ?_
                rintro e w9 ⟨rfl, q, rfl⟩
                have M9 := Lib.hid (M8.out.keep (Fr.drewN w8 q []))
                have F9 := Lib.hid (F8.out.trans (Fr.drewN w8 q []))
                go_wp2_with fail
                refine (has_any _ m n _ M9.out true (by simp [HMN.out])).mono ?_
                rintro e w10 ⟨rfl, rfl⟩

                have g9 := F9.out.cell (HC0.out) (by simp)

                go_wp2_with fail
                refine (one_of _).mono ?_
                rintro e w10 ⟨rfl, rfl⟩
                go_wp2
                go_ret
                exact ⟨rfl, (F2.out.trans F9.out).grown (by simp)⟩
  · have hl' : ((l.length : Int) > 20) := by omega
    go_enter Try.func6, Try.ntmps6
    go_wp2_with fail
    refine (first_any _).mono ?_
    rintro e w1 ⟨rfl, hf⟩
    go_wp2
    go_ret
    exact ⟨rfl, hf.grown (by simp)⟩
end Go.Proofs.Ytojekkmdbkmpkaa
