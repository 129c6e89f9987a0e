/- A table: Tick. -/
import Derived.Test.YtgpdpembddajhaaTbl
import Derived.BigRegion
namespace Go.Proofs.Ytgpdpembddajhaa
open Go.RowKit

def tkTo (f : Nat → Pe) (k : Nat) : Nat → Pe := fun j => if j < k then tk (f j) else f j
def tkP (f : Nat → Pe) : Nat → Pe := fun j => tk (f j)
/-- Ages that may be. -/
def AgOk (f : Nat → Pe) : Prop := ∀ i, i < 16 → 0 ≤ (f i).ag ∧ (f i).ag ≤ 4
theorem AgOk.tk {f : Nat → Pe} (h : AgOk f) : AgOk (tkP f) := by
  intro i hi
  have := h i hi
  unfold tkP Go.Proofs.Ytgpdpembddajhaa.tk hd
  by_cases e : ((f i).kn && decide ((f i).ag ≤ 3)) = true
  · rw [if_pos e]
    simp at e
    simp only
    omega
  · rw [if_neg e]; exact this
theorem AgOk.up {f : Nat → Pe} (h : AgOk f) (k : Nat) (x : Pe) (h0 : 0 ≤ x.ag) (h1 : x.ag ≤ 4) : AgOk (upP f k x) := by
  intro i hi
  unfold upP
  by_cases e : i = k
  · rw [if_pos e]; exact ⟨h0, h1⟩
  · rw [if_neg e]; exact h i hi
theorem tkTo_at (f : Nat → Pe) (k : Nat) : tkTo f k k = f k := by simp [tkTo]
theorem tkTo_succ_no (f : Nat → Pe) (k : Nat) (h : hd (f k) = false) : ∀ i, i < 16 → tkTo f k i = tkTo f (k + 1) i := by
  intro i _
  unfold tkTo
  by_cases e : i = k
  · subst e; simp [tk, h]
  · by_cases e2 : i < k
    · rw [if_pos e2, if_pos (by omega)]
    · rw [if_neg e2, if_neg (by omega)]
theorem tkTo_succ_yes (f : Nat → Pe) (k : Nat) (h : hd (f k) = true) : ∀ i, i < 16 → upP (tkTo f k) k ⟨(tkTo f k k).kn, (tkTo f k k).ou, (tkTo f k k).li, (f k).ag + 1⟩ i = tkTo f (k + 1) i := by
  intro i _
  rw [tkTo_at]
  unfold upP tkTo
  by_cases e : i = k
  · subst e; simp [tk, h]
  · rw [if_neg e]
    by_cases e2 : i < k
    · rw [if_pos e2, if_pos (by omega)]
    · rw [if_neg e2, if_neg (by omega)]
theorem tkTo_end (f : Nat → Pe) : ∀ i, i < 16 → tkTo f 16 i = tkP f i := by
  intro i hi; simp [tkTo, tkP, hi]

set_option maxRecDepth 100000 in
theorem tick_any (p : Nat) (f : Nat → Pe) (s : Int) (w : World) (h : Tb w p f s) (hA : AgOk f) :
    Calls Try.prog 13 #[.pointer (some ⟨p, 0, none⟩)] w fun e w' => e = .returned (.tuple #[]) ∧ Tb w' p (tkP f) s ∧ Fr w w' [p] := by
  obtain ⟨cs, hcs, hr, hpe⟩ := h.range
  have HT := Lib.hid h
  have HP := Lib.hid hpe
  have HA := Lib.hid hA
  have hi64 : (Try.prog.info? 26).map (·.size) = some cs.toList.length := by rw [Array.length_toList, hcs]; exact infoPs
  have HI := Lib.hid hi64
  have HR := Lib.hid hr
  clear h hpe hA hi64 hr hcs
  go_enter Try.func13, Try.ntmps13
  go_wp2_with (with_reducible refine wpList_load_mid rfl _ _ rfl p 0 rfl cs.toList _ HR.out Try.underlying26 rfl HI.out ?_)
  go_loopw [8] (fun i wr => ∃ k : Nat, k ≤ 16 ∧ i = .int .i64 k ∧ Tb wr p (tkTo f k) s ∧ Fr w wr [p]) (fun i _ => 16 - (intOf i).toNat)
  case atStart => exact ⟨0, by omega, rfl, HT.out.congr (fun i _ => by simp [tkTo]), Fr.refl _ _⟩
  case round =>
    obtain ⟨k, hk, rfl, ht, hf⟩ := hrel
    by_cases hlt : k < 16
    · have hidx := run_peer (cs := cs) k hlt (HP.out k hlt)
      obtain ⟨x, hx⟩ : ∃ x, x = f k := ⟨_, rfl⟩
      rw [← hx] at hidx
      have HX := Lib.hid hx
      have T0 := Lib.hid ht
      have F0 := Lib.hid hf
      clear hx ht hf
      go_wp2_with fail
      refine (heard_any x _).mono ?_
      rintro e w2 ⟨rfl, hf2⟩
      have T2 := Lib.hid ((T0.out.fr (Fr.alloc wr (.cells #[.bool x.kn, .bool x.ou, .int .i64 x.li, .int .i64 x.ag] 25) []) (by simp)).fr hf2 (by simp))
      have F2 := Lib.hid (F0.out.trans (((Fr.alloc wr (.cells #[.bool x.kn, .bool x.ou, .int .i64 x.li, .int .i64 x.ag] 25) []).trans hf2).mono (by simp)))
      clear hf2 hidx
      cases hh : hd x with
      | false =>
        have HH := Lib.hid (show hd (f k) = false by rw [← HX.out]; exact hh)
        clear hh
        go_wp2
        go_roundw
        case rel => exact ⟨k + 1, by omega, by go_num, T2.out.congr (tkTo_succ_no f k HH.out), F2.out⟩
        case measure => simp [intOf]; omega
      | true =>
        have HH := Lib.hid (show hd (f k) = true by rw [← HX.out]; exact hh)
        obtain ⟨_, _, _, c3⟩ := T2.out.at k hlt
        rw [tkTo_at, ← HX.out] at c3
        have z3 := T2.out.fz (k * 4 + 3)
        have hag := HA.out k hlt
        rw [← HX.out] at hag
        obtain ⟨ha0, ha1⟩ := hag
        clear hh
        go_wp2
        go_region
        all_goals
          go_wp2
          go_roundw
          case rel => exact ⟨k + 1, by omega, by go_num, (show _ by have := T2.out.setAg k hlt (x.ag + 1); rw [HX.out] at this ⊢; exact (this.congr (tkTo_succ_yes f k HH.out)).fr (Fr.drew _ []) (by simp)), (F2.out.trans (Fr.setCell w2 p (k * 4 + 3) (.int .i64 (x.ag + 1)) (by simp))).trans (Fr.drew _ [p])⟩
          case measure => simp [intOf]; omega
    · obtain rfl : k = 16 := by omega
      have T0 := Lib.hid (ht.congr (tkTo_end f))
      have F0 := Lib.hid hf
      clear ht hf
      go_wp2
      go_end0
      exact ⟨rfl, T0.out, F0.out⟩
end Go.Proofs.Ytgpdpembddajhaa
