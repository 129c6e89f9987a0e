/- The law of what was seen: the greatest count that was ever seen stays, whoever is silent since; each car is held for itself: its walk. -/
import Derived.Test.YtgpdpembddajhaaTFirst
import Derived.Test.YtgpdpembddajhaaArr
import Derived.Test.YtgpdpembddajhaaNum
import Derived.Lib.MinMax
namespace Go.Proofs.Ytgpdpembddajhaa
open Go.RowKit

theorem upP_same (f : Nat → Pe) (k : Nat) (x : Pe) : upP f k x k = x := by simp [upP]
theorem upP_other (f : Nat → Pe) (k : Nat) (x : Pe) (j : Nat) (h : j ≠ k) : upP f k x j = f j := by simp [upP, h]
/-- How a car is at the head of round i, last heard in round g. -/
def Was (i : Nat) (x : Pe) (g : Int) : Prop := (g = -100 ∧ x = zP) ∨ (0 ≤ g ∧ g < (i : Int) ∧ x.kn = true ∧ x.ou = false ∧ x.li = 1 ∧ x.ag = (if (i : Int) - g < 4 then (i : Int) - g else 4))
theorem Was.li {i : Nat} {x : Pe} {g : Int} (h : Was i x g) : x.li ≤ 1 := by
  rcases h with ⟨_, rfl⟩ | ⟨_, _, _, _, e, _⟩
  · decide
  · omega
theorem Was.ag {i : Nat} {x : Pe} {g : Int} (h : Was i x g) : 0 ≤ x.ag ∧ x.ag ≤ 4 := by
  rcases h with ⟨_, rfl⟩ | ⟨_, _, _, _, _, e⟩
  · exact ⟨by decide, by decide⟩
  · rw [e]; split <;> omega
theorem Was.lo {i : Nat} {x : Pe} {g : Int} (h : Was i x g) : -100 ≤ g ∧ g ≤ (i : Int) := by
  rcases h with ⟨_, _⟩ | ⟨_, _, _⟩ <;> omega
theorem Was.tick {i : Nat} {x : Pe} {g : Int} (h : Was i x g) : Was (i + 1) (tk x) g := by
  rcases h with ⟨h1, rfl⟩ | ⟨h1, h2, h3, h4, h5, h6⟩
  · exact .inl ⟨h1, rfl⟩
  · refine .inr ⟨h1, by omega, ?_, ?_, ?_, ?_⟩
    all_goals
      unfold tk hd
      rw [h3]
      by_cases e : x.ag ≤ 3
      · simp only [e, decide_true, Bool.and_self, if_true] <;> first | assumption | (rw [h6] at e ⊢; split at e <;> (try split) <;> omega)
      · simp only [e, decide_false, Bool.and_false, Bool.false_eq_true, if_false] <;> first | assumption | (rw [h6] at e ⊢; split at e <;> (try split) <;> omega)
theorem Was.new (i : Nat) : Was (i + 1) (tk ⟨true, false, 1, 0⟩) (i : Int) :=
  .inr ⟨by omega, by omega, rfl, rfl, rfl, by rw [if_pos (by omega)]; show (0 : Int) + 1 = _; omega⟩
theorem Was.on {i : Nat} {x : Pe} {g : Int} (h : Was (i + 1) x g) : on x = decide ((i : Int) - g < 3) := by
  rcases h with ⟨h1, rfl⟩ | ⟨h1, h2, h3, h4, h5, h6⟩
  · rw [decide_eq_false (by omega)]; rfl
  · unfold Go.Proofs.Ytgpdpembddajhaa.on hd
    rw [h3, h4, h6]
    by_cases e : (i : Int) - g < 3
    · rw [decide_eq_true e, if_pos (by omega), decide_eq_true (by omega)]; rfl
    · rw [decide_eq_false e, decide_eq_false (by split <;> omega)]; rfl
/-- All cars at the head of round i. -/
def AllWas (i : Nat) (f : Nat → Pe) (g : Nat → Int) : Prop := ∀ j, j < 16 → Was i (f j) (g j)
theorem AllWas.ag {i : Nat} {f : Nat → Pe} {g : Nat → Int} (h : AllWas i f g) : AgOk f := fun j hj => (h j hj).ag
theorem AllWas.next {i : Nat} {f : Nat → Pe} {g : Nat → Int} (h : AllWas i f g) (k : Nat) : AllWas (i + 1) (tkP (upP f k ⟨true, false, 1, 0⟩)) (updI g k (i : Int)) := by
  intro j hj
  unfold tkP upP updI
  by_cases e : j = k
  · rw [if_pos e, if_pos e]; exact Was.new i
  · rw [if_neg e, if_neg e]; exact (h j hj).tick
theorem AllWas.alive {i : Nat} {f : Nat → Pe} {g : Nat → Int} (h : AllWas (i + 1) f g) : alV f 16 = flt (fun j => decide ((i : Int) - g j < 3)) 16 := by
  rw [alV_flt]
  exact flt_congr _ _ _ (fun j hj => (h j hj).on)
theorem wf_quo (x : Int) (h : (Lit.int .i64 x).wf = true) : (Lit.int .i64 (x.tdiv 16)).wf = true := by
  obtain ⟨h0, h1⟩ := bounds_i64 h
  have e := Int.mul_tdiv_add_tmod x 16
  have h2 := Int.tmod_lt_of_pos x (show (0 : Int) < 16 by decide)
  have h3 : -16 < x.tmod 16 := by
    have := Int.tmod_lt_of_pos (-x) (show (0 : Int) < 16 by decide)
    rw [Int.neg_tmod] at this; omega
  simp [Lit.wf, IntKind.min, IntKind.max, IntKind.signed, IntKind.bits]
  omega

set_option maxHeartbeats 2000000 in
set_option maxRecDepth 100000 in
theorem tseen_walk (v : Value) (l : List Int) (hw : ∀ n ∈ l, (Lit.int .i64 n).wf = true) (w : World) (h : HInts w v l) :
    Calls Try.prog 6 #[v] w fun e w' => e = .returned (.bool true) ∧ w.grownBy w' none := by
  obtain ⟨a, cap, rfl, h1, h2, h3⟩ := h
  unfold maxLen at h2
  have HC := Lib.hid h3
  have HW := Lib.hid hw
  have hz := zeroTb
  clear h3 hw
  by_cases hl : l.length ≤ 40
  · go_enter Try.func6, Try.ntmps6
    go_wp2_with fail
    refine (first_any _).mono ?_
    rintro e w1 ⟨rfl, hf⟩
    have T1 := Lib.hid ((new_tb w1).fr (Fr.alloc _ (.cells #[.int .i64 0, .int .i64 0, .int .i64 0, .int .i64 0, .int .i64 0, .int .i64 0, .int .i64 0, .int .i64 0, .int .i64 0, .int .i64 0, .int .i64 0, .int .i64 0, .int .i64 0, .int .i64 0, .int .i64 0, .int .i64 0] 43) []) (by simp))
    have R1 := Lib.hid (new_ar (w1.alloc (.cells zTb 28)))
    have F1 := Lib.hid ((hf.trans (Fr.alloc w1 (.cells zTb 28) [])).trans (Fr.alloc _ (.cells #[.int .i64 0, .int .i64 0, .int .i64 0, .int .i64 0, .int .i64 0, .int .i64 0, .int .i64 0, .int .i64 0, .int .i64 0, .int .i64 0, .int .i64 0, .int .i64 0, .int .i64 0, .int .i64 0, .int .i64 0, .int .i64 0] 43) []))
    have HP := Lib.hid hf.size
    clear hf
    go_wp2
    go_loopw [7] (fun i wr => ∃ k : Nat, k ≤ 16 ∧ i = .int .i64 k ∧ Ar wr (w1.heap.size + 1) (fun j => if j < k then -100 else 0) ∧ Tb wr w1.heap.size (fun _ => zP) 0 ∧ Fr w wr []) (fun i _ => 16 - (intOf i).toNat)
    case atStart => exact ⟨0, by omega, rfl, by have := R1.out; simpa using this, T1.out, F1.out⟩
    case round =>
      obtain ⟨k, hk, rfl, hr, ht, hf⟩ := hrel
      have T0 := Lib.hid ht
      have F0 := Lib.hid hf
      by_cases hlt : k < 16
      · have c0 := hr.at k hlt
        have z0 := hr.fz k
        have R0 := Lib.hid hr
        clear hr ht hf T1 R1 F1
        go_wp2
        go_roundw
        case rel =>
          refine ⟨k + 1, by omega, by go_num, (R0.out.set k hlt (-100)).congr (fun i hi => ?_), T0.out.ar R0.out (Fr.setCell _ _ _ _ (by simp)), F0.out.new (Fr.setCell _ _ _ _ (S := [w1.heap.size + 1]) (by simp)) (by have := HP.out; simp; omega)⟩
          unfold updI
          show (if i = k then (-100 : Int) else if i < k then -100 else 0) = _
          by_cases e : i = k
          · subst e; simp
          · by_cases e2 : i < k
            · rw [if_neg e, if_pos e2, if_pos (by omega)]
            · rw [if_neg e, if_neg e2, if_neg (by omega)]
        case measure => simp [intOf]; omega
      · obtain rfl : k = 16 := by omega
        have R0 := Lib.hid (show Ar wr (w1.heap.size + 1) (fun _ => -100) from hr.congr (fun i hi => if_pos hi))
        clear hr ht hf T1 R1 F1
        rw [show ((16 : Nat) : Int) = 16 from rfl]
        go_wp2
        go_loopw [5, 8] (fun m i wr => ∃ (k : Nat) (f : Nat → Pe) (g : Nat → Int) (M : Int), k ≤ l.length ∧ i = .int .i64 k ∧ m = .int .i64 M ∧ AllWas k f g ∧ Tb wr w1.heap.size f M ∧ Ar wr (w1.heap.size + 1) g ∧ Fr w wr []) (fun _ i _ => l.length - (intOf i).toNat)
        case atStart => exact ⟨0, _, _, _, by omega, rfl, rfl, fun _ _ => .inl ⟨rfl, rfl⟩, T0.out, R0.out, F0.out⟩
        case round =>
          obtain ⟨k, f, g, M, hk, rfl, rfl, hs, ht, hr, hf⟩ := hrel
          clear T0 R0 F0
          have S0 := Lib.hid hs
          have T0 := Lib.hid ht
          have R0 := Lib.hid hr
          have F0 := Lib.hid hf
          clear hs ht hr hf
          by_cases hlt : k < l.length
          · obtain ⟨b, off, rfl, hc⟩ := HC.out (by omega)
            obtain ⟨x, hx⟩ : ∃ x, x = l.getD k 0 := ⟨_, rfl⟩
            have hck := F0.out.cell (hc k hlt) (by simp)
            rw [← hx] at hck
            have hwx := HW.out x (by rw [hx, List.getD_eq_getElem?_getD, List.getElem?_eq_getElem hlt]; exact List.getElem_mem hlt)
            obtain ⟨c, hcr, _, hnum⟩ := numberTo_nat x 16 (by omega) (by omega) hwx
            obtain ⟨n, hn, _, hnum2⟩ := numberTo_nat (x.tdiv 16) 50 (by omega) (by omega) (wf_quo x hwx)
            obtain ⟨hb0, hb1⟩ := bounds_i64 hwx
            have HN := Lib.hid hnum
            have HN2 := Lib.hid hnum2
            clear hc hx hnum hnum2 hwx
            go_wp2_with fail
            refine (HN.out _).mono ?_
            rintro e w2 ⟨rfl, rfl⟩
            go_wp2_with fail
            refine (HN2.out _).mono ?_
            rintro e w2 ⟨rfl, rfl⟩
            have HLI := Lib.hid (S0.out c hcr).li
            have HN16 := Lib.hid (show ¬ ((0 : Int) ≤ 16 ∧ (16 : Int) < 16 ∧ (0 : Int) ≤ 1 ∧ (0 : Int) ≤ 99 ∧ (upP f c ⟨true, false, 1, 0⟩ (16 : Int).toNat).li ≤ 1) from fun h => absurd h.2.1 (by decide))
            have HN1 := Lib.hid (show ¬ ((0 : Int) ≤ -1 ∧ (-1 : Int) < 16 ∧ (0 : Int) ≤ 1 ∧ (0 : Int) ≤ 99 ∧ (upP f c ⟨true, false, 1, 0⟩ (-1 : Int).toNat).li ≤ 1) from fun h => absurd h.1 (by decide))
            have HNC := Lib.hid (show ¬ ((0 : Int) ≤ (c : Int) ∧ (c : Int) < 16 ∧ (0 : Int) ≤ -1 ∧ (0 : Int) ≤ 99 ∧ (upP f c ⟨true, false, 1, 0⟩ (c : Int).toNat).li ≤ -1) from fun h => absurd h.2.2.1 (by decide))
            go_wp2_with fail
            refine (hear_yes w1.heap.size f M c 1 n false _ T0.out hcr (by omega) (by omega) HLI.out).mono ?_
            rintro e w2 ⟨rfl, ht, hf⟩
            have T2 := Lib.hid ht
            have R2 := Lib.hid (R0.out.tb T0.out hf)
            have F2 := Lib.hid (F0.out.new hf (by have := HP.out; simp; omega))
            clear ht hf
            go_wp2_with fail
            refine (hear_no w1.heap.size _ _ 16 1 99 false _ T2.out HN16.out).mono ?_
            rintro e w3 ⟨rfl, rfl⟩
            go_wp2_with fail
            refine (hear_no w1.heap.size _ _ (-1) 1 99 false _ T2.out HN1.out).mono ?_
            rintro e w3 ⟨rfl, rfl⟩
            go_wp2_with fail
            refine (hear_no w1.heap.size _ _ c (-1) 99 false _ T2.out HNC.out).mono ?_
            rintro e w3 ⟨rfl, rfl⟩
            have hmx : max M (n : Int) = mx M n := by unfold mx; omega
            have z0 := R2.out.fz c
            have c0 := R2.out.at c hcr
            have R3 := Lib.hid (R2.out.set c hcr (k : Int))
            have T3 := Lib.hid (T2.out.ar R2.out (Fr.setCell w2 (w1.heap.size + 1) c (.int .i64 (k : Int)) (by simp)))
            have F3 := Lib.hid (F2.out.new (Fr.setCell w2 (w1.heap.size + 1) c (.int .i64 (k : Int)) (S := [w1.heap.size + 1]) (by simp)) (by have := HP.out; simp; omega))
            have A3 := Lib.hid (S0.out.ag.up c ⟨true, false, 1, 0⟩ (by simp) (by simp))
            go_wp2_with fail
            refine (tick_any w1.heap.size _ _ _ T3.out A3.out).mono ?_
            rintro e w4 ⟨rfl, ht, hf⟩
            have T4 := Lib.hid ht
            have R4 := Lib.hid (R3.out.tb T3.out hf)
            have F4 := Lib.hid (F3.out.new hf (by have := HP.out; simp; omega))
            have S4 := Lib.hid (S0.out.next c)
            clear ht hf
            go_wp2
            clear hmx c0 z0
            go_loopw [11, 12] (fun a i wr => ∃ j : Nat, j ≤ 16 ∧ i = .int .i64 j ∧ OwnI wr w4.heap.size a (flt (fun t => decide ((k : Int) - updI g c (k : Int) t < 3)) j) ∧ Fr w4 wr []) (fun _ i _ => 16 - (intOf i).toNat)
            case atStart => exact ⟨0, by omega, rfl, OwnI.nil _ _, Fr.refl _ _⟩
            case round =>
              obtain ⟨j, hj, rfl, ho, hf⟩ := hrel
              have O5 := Lib.hid ho
              have F5 := Lib.hid hf
              clear ho hf
              by_cases hj16 : j < 16
              · obtain ⟨y, hy⟩ : ∃ y, y = updI g c (k : Int) j := ⟨_, rfl⟩
                have hcy := (R4.out.fr F5.out (by simp)).at j hj16
                have hy0 := (S4.out j hj16).lo
                rw [← hy] at hcy hy0
                obtain ⟨hy1, hy2⟩ := hy0
                have hy2' : y ≤ (k : Int) + 1 := by omega
                have HL := Lib.hid (flt_len (fun t => decide ((k : Int) - updI g c (k : Int) t < 3)) j)
                by_cases hd3 : (k : Int) - y < 3
                · have HH := Lib.hid (show (fun t => decide ((k : Int) - updI g c (k : Int) t < 3)) j = true by show decide _ = true; rw [← hy]; simpa using hd3)
                  obtain ⟨i0, hi, hz0, hz1, hz2⟩ := info_parts infoI
                  clear hy hy2
                  go_wp2_with (at_builtin; refine wpList_append_own _ rfl _ _ 22 rfl w4.heap.size 3 i0 (.int .i64 0) 1 8 Try.underlying22 hi hz0 hz1 hz2 rfl (by decide) _ _ _ rfl (World.ownsRow.alloc O5.out _) ⟨wr.heap.size, 0, none⟩ 1 1 [.int .i64 j] rfl rfl (cell_one_new _ _ _) (one_cell _ _) (by have := HL.out; unfold maxLen; omega) (by have := HL.out; omega) (by have := F5.out.size; simp; omega) ?_; intro v' w6 hown6 hg6 _)
                  have F6 := Lib.hid ((F5.out.trans (Fr.alloc wr (.cells #[.int .i64 (j : Int)] 3) [])).grown_own hg6 (fun r hr => .inr (O5.out.block r hr).1))
                  have O6 := Lib.hid (show OwnI w6 w4.heap.size v' (flt (fun t => decide ((k : Int) - updI g c (k : Int) t < 3)) (j + 1)) by rw [flt_yes _ j HH.out]; exact OwnI.snoc hown6)
                  clear hown6 hg6
                  go_wp2
                  go_roundw
                  case rel => exact ⟨j + 1, by omega, by go_num, O6.out, F6.out⟩
                  case measure => simp [intOf]; omega
                · have HH := Lib.hid (show (fun t => decide ((k : Int) - updI g c (k : Int) t < 3)) j = false by show decide _ = false; rw [← hy]; simpa using hd3)
                  clear hy hy2
                  go_wp2
                  go_roundw
                  case rel => exact ⟨j + 1, by omega, by go_num, by rw [flt_no _ j HH.out]; exact O5.out, F5.out⟩
                  case measure => simp [intOf]; omega
              · obtain rfl : j = 16 := by omega
                have T5 := Lib.hid (T4.out.fr F5.out (by simp))
                have R5 := Lib.hid (R4.out.fr F5.out (by simp))
                have FF := Lib.hid (F4.out.trans F5.out)
                obtain ⟨za, zc, rfl⟩ := row_shape O5.out
                go_wp2_with fail
                refine (seen_any w1.heap.size _ _ _ T5.out).mono ?_
                rintro e w7 ⟨rfl, rfl⟩
                go_wp2_with fail
                refine (alive_any w1.heap.size _ _ _ T5.out).mono ?_
                rintro e w7 ⟨u, rfl, ho, hf⟩
                have T7 := Lib.hid (T5.out.fr hf (by simp))
                have R7 := Lib.hid (R5.out.fr hf (by simp))
                have F7 := Lib.hid (FF.out.trans hf)
                have Q7 := Lib.hid ho.holds
                have O7 := Lib.hid (O5.out.keep hf).holds
                clear ho hf
                go_wp2_with fail
                refine (sameI_quiet _ _ _ _ _ Q7.out O7.out (by have := alV_len (tkP (upP f c ⟨true, false, 1, 0⟩)) 16; omega) true (by rw [S4.out.alive]; simp)).mono ?_
                rintro e w8 ⟨rfl, m, rfl⟩
                go_wp2
                go_roundw
                case rel => exact ⟨k + 1, _, _, _, by omega, by go_num, rfl, S4.out, T7.out.fr (Fr.drewN _ _ []) (by simp), R7.out.fr (Fr.drewN _ _ []) (by simp), F7.out.trans (Fr.drewN _ _ [])⟩
                case measure => simp [intOf]; omega
          · obtain rfl : k = l.length := by omega
            go_wp2
            go_ret
            exact ⟨rfl, F0.out.grown (by simp)⟩
  · have hl' : ((l.length : Int) > 40) := by omega
    go_enter Try.func6, Try.ntmps6
    go_wp2_with fail
    refine (first_any _).mono ?_
    rintro e w1 ⟨rfl, hf⟩
    go_wp2
    go_ret
    exact ⟨rfl, hf.grown (by simp)⟩
end Go.Proofs.Ytgpdpembddajhaa
