/- The statements' helpers of store: same, opened, the chapter's example. -/
import Derived.Test.YthiimkjhlndcoaaDoorStore5
import Derived.Test.YthiimkjhlndcoaaDoorSee3
import Derived.Test.YthiimkjhlndcoaaDoorNum
namespace Go.Proofs.YthiimkjhlndcoaaDoor
open Go.RowKit

theorem same3_any (c n c' n' : Int) (b : Bool) (w : World) (hb : b = decide (c = c' ∧ n = n')) :
    Calls Tryd.prog 15 #[.agg #[.int .i64 c, .int .i64 n], .agg #[.int .i64 c', .int .i64 n']] w fun e w' => e = .returned (.bool b) ∧ Fr w w' [] := by
  cases b with
  | true =>
    obtain ⟨rfl, rfl⟩ := of_decide_eq_true hb.symm
    clear hb
    go_enter Tryd.func15, Tryd.ntmps15
    go_wp2
    go_ret
    exact ⟨rfl, (Fr.alloc _ _ _).trans (Fr.alloc _ _ _)⟩
  | false =>
    have h := of_decide_eq_false hb.symm
    have hcase : ¬ c = c' ∨ (c = c' ∧ ¬ n = n') := by omega
    clear hb h
    rcases hcase with h | ⟨rfl, h⟩
    · have h' : (c == c') = false := by simpa using h
      clear h
      go_enter Tryd.func15, Tryd.ntmps15
      go_wp2
      go_ret
      exact ⟨rfl, (Fr.alloc _ _ _).trans (Fr.alloc _ _ _)⟩
    · have h' : (n == n') = false := by simpa using h
      clear h
      go_enter Tryd.func15, Tryd.ntmps15
      go_wp2
      go_ret
      exact ⟨rfl, (Fr.alloc _ _ _).trans (Fr.alloc _ _ _)⟩

/-- A store and its cell. -/
structure St (w : World) (sp p g : Nat) (R : SR) (s : CS) : Prop where
  sr : Sr w sp p R
  cl : Cl w p g s
  r : R.in
  b : By8 s.l
theorem St.fr {w w' : World} {sp p g : Nat} {R : SR} {s : CS} {S : List Nat} (h : St w sp p g R s) (hf : Fr w w' S) (hS : sp ∉ S ∧ p ∉ S ∧ g ∉ S) : St w' sp p g R s :=
  ⟨h.sr.fr hf hS.1, h.cl.fr hf hS.2.1 hS.2.2, h.r, h.b⟩
theorem st_save {is : List Nat} (sp p g : Nat) (R : SR) (s : CS) (c n : Int) (w : World) (A : Nat → Addr) (B : Nat) (h : St w sp p g R s) (hsn : s.n < 9223372036854770000) (hE : EV is w A B) (hBp : B ≤ p) (hBg : B ≤ g) (hs : ∀ i ∈ [2, 4, 5, 7], i ∈ is := by decide) :
    Calls Tryd.prog 17 #[.pointer (some ⟨sp, 0, none⟩), .agg #[.int .i64 c, .int .i64 n]] w fun e w' => e = .returned (ev A (R.save s c n).2.2) ∧ St w' sp p g (R.save s c n).2.1 (R.save s c n).1 ∧ Fr w w' [sp, p, g] :=
  (save_any sp p g R s c n w A B h.sr h.cl h.r hsn hE hBp hBg hs).mono fun _ _ ⟨h1, h2, h3, h4⟩ => ⟨h1, ⟨h3, h2, SR.save_in h.r s c n, SR.save_by R h.b c n⟩, h4⟩

/-- A store on a new cell. -/
def NewSt (w : World) (u : Value) (w' : World) : Prop := ∃ sp p g, u = .tuple #[.pointer (some ⟨sp, 0, none⟩), .pointer (some ⟨p, 0, none⟩)] ∧ St w' sp p g SR.none (CS.new 26) ∧ w.heap.size ≤ sp ∧ w.heap.size ≤ p ∧ w.heap.size ≤ g ∧ Fr w w' []
theorem open_new (n : Nat) : openOf (CS.new n).l = SR.none := by
  unfold openOf
  rw [beat_no _ _ 0 (by rw [CS.new_get]; omega), beat_no _ _ 1 (by rw [CS.new_get]; omega)]
theorem new_by (n : Nat) : By8 (CS.new n).l := By8.zero n

set_option maxRecDepth 100000 in
theorem opened_any {is : List Nat} (w : World) (A : Nat → Addr) (B : Nat) (hE : EV is w A B) (hB : B ≤ w.heap.size) (hs : ∀ i ∈ [4, 5], i ∈ is := by decide) : Calls Tryd.prog 24 #[] w (Gives (NewSt w)) := by
  have HE := Lib.hid hE
  clear hE
  go_enter Tryd.func24, Tryd.ntmps24
  go_wp2_with fail
  refine (cellNew_ok 26 _ (by omega) (by omega)).mono ?_
  rintro e w1 ⟨u, rfl, p, g, rfl, h1, hp, hg, hf1⟩
  have hop := open_any p g (CS.new 26) w1 A B h1 rfl (by simp [CS.new]) (new_by 26) (HE.out.fr hf1 (by simp)) (Nat.le_trans hB hf1.size) hs
  rw [open_new] at hop
  have hlt := h1.lt
  have HO := Lib.hid hop
  have H1 := Lib.hid h1
  have HF1 := Lib.hid hf1
  clear h1 hf1 hop
  go_wp2_with fail
  refine HO.out.mono ?_
  rintro e w2 ⟨u, rfl, sp, rfl, hs, hsp, hf2⟩
  have HS := Lib.hid hs
  have HF2 := Lib.hid hf2
  clear hs hf2
  go_wp2
  go_ret2
  exact gives ⟨sp, p, g, rfl, ⟨HS.out, H1.out.fr HF2.out (by simp) (by simp), SR.none_in, new_by 26⟩, Nat.le_trans HF1.out.size hsp, hp, hg, HF1.out.trans HF2.out⟩

theorem run_ok14 (s : CS) (k : Nat) (c n : Int) (hk : k < 2) (hd : s.d = false) (hl : 26 ≤ s.l.length) (ha : s.a = 0) : s.run (plan k c n) = ({ s with l := setAll s.l (plan k c n), n := s.n + 14 }, 0) := by
  rw [CS.run_fine (plan k c n) s hd (fun o ho => by have := plan_in k c n hk o ho; omega) (.inl ha), plan_len, if_pos ha]
  obtain ⟨l, a, d, m⟩ := s
  simp only at ha
  subst ha
  rfl
theorem SR.save_ok (R : SR) (s : CS) (c n : Int) (hd : s.d = false) (hl : 26 ≤ s.l.length) (ha : s.a = 0) (hc : R.code c n = 0) :
    R.save s c n = ({ s with l := setAll s.l (plan R.spare c n), n := s.n + 14 }, ⟨c, n, (R.spare : Int)⟩, 0) :=
  R.save_yes s _ c n hc (run_ok14 s R.spare c n (by unfold SR.spare; split <;> omega) hd hl ha)

theorem fld0 (c n : Int) (W : World) : (Instr.field 35 (.agg #[.int .i64 c, .int .i64 n]) 0).run Tryd.prog W = .ok (.int .i64 c) W := by kernel_rfl
theorem fld1 (c n : Int) (W : World) : (Instr.field 35 (.agg #[.int .i64 c, .int .i64 n]) 1).run Tryd.prog W = .ok (.int .i64 n) W := by kernel_rfl
set_option maxRecDepth 100000 in
theorem first3_any {is : List Nat} (w : World) (A : Nat → Addr) (hE : EV is w A w.heap.size) (hs : ∀ i ∈ [2, 4, 5, 7], i ∈ is := by decide) : Calls Tryd.prog 9 #[] w fun e w' => e = .returned (.bool true) ∧ w.grownBy w' none := by
  have HE := Lib.hid hE
  have HOP := Lib.hid (opened_any w A w.heap.size hE (Nat.le_refl _) (fun i hi => hs i (sub45 i hi)))
  clear hE
  have hx0 := fun W => fld0 0 0 W
  have hx1 := fun W => fld0 1 0 W
  go_enter Tryd.func9, Tryd.ntmps9
  go_wp2_with fail
  refine HOP.out.mono ?_
  rintro e w1 ⟨u, rfl, sp, p, g, rfl, hs, hsp, hp, hg, hf1⟩
  have HS := Lib.hid hs
  have HF1 := Lib.hid hf1
  clear hs hf1
  go_wp2_with fail
  refine (record_any sp p _ _ HS.out.sr).mono ?_
  rintro e w2 ⟨rfl, hf2⟩
  have HF2 := Lib.hid (HF1.out.trans hf2)
  have hsv := st_save sp p g _ _ 1 0 w2 A w.heap.size (HS.out.fr hf2 (by simp)) (by decide) (HE.out.fr HF2.out (by simp)) hp hg hs
  rw [SR.save_ok SR.none (CS.new 26) 1 0 rfl (by decide) rfl rfl, show ev A 0 = .nilIface from rfl] at hsv
  have HSV := Lib.hid hsv
  clear hf2 hsv
  rw [show SR.none.c = 0 from rfl, show SR.none.n = 0 from rfl]
  go_wp2_with fail
  refine HSV.out.mono ?_
  rintro e w3 ⟨rfl, hs3, hf3⟩
  have HS3 := Lib.hid hs3
  have HF3 := Lib.hid (HF2.out.new hf3 (by simp; omega))
  clear hs3 hf3
  go_wp2_with fail
  refine (record_any sp p _ _ HS3.out.sr).mono ?_
  rintro e w4 ⟨rfl, hf4⟩
  have HF4 := Lib.hid (HF3.out.trans hf4)
  clear hf4
  go_wp2
  go_ret
  exact ⟨rfl, HF4.out.grown (by simp)⟩
theorem code_up (R : SR) (c n : Int) (hc : 0 ≤ c ∧ c ≤ 281474976710655) (hn : 0 ≤ n ∧ n ≤ 281474976710655) (h : R.c ≤ c ∧ R.n ≤ n ∧ ¬ (c = R.c ∧ n = R.n)) : R.code c n = 0 := by
  unfold SR.code; rw [if_neg (by omega), if_neg (by omega)]
theorem code_down (R : SR) (c n : Int) (hc : 0 ≤ c ∧ c ≤ 281474976710655) (hn : 0 ≤ n ∧ n ≤ 281474976710655) (h : ¬ (R.c ≤ c ∧ R.n ≤ n ∧ ¬ (c = R.c ∧ n = R.n))) : R.code c n = 8 := by
  unfold SR.code; rw [if_neg (by omega), if_pos (by omega)]
end Go.Proofs.YthiimkjhlndcoaaDoor
