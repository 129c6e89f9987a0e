/- The walk of the epoch's law of order: of two epochs one is ahead, or they are the same; ahead of what is ahead is ahead; the next one is behind all of that count. -/
import Derived.Test.YtnlicmcijmglfaaDoorEpoch2
namespace Go.Proofs.YtnlicmcijmglfaaDoor
open Go.RowKit

/-- What stands along the walk: the three epochs' cells. -/
def EOrdS (W1 : World) (A B C : Nat) (a1 a2 b1 b2 c1 c2 : Int) (a : World) : Prop := Fr W1 a [] ∧
  (a.cell? ⟨A, 0, none⟩ = some (.int .i64 a1) ∧ a.cell? ⟨A, 1, none⟩ = some (.int .i64 a2)) ∧
  (a.cell? ⟨B, 0, none⟩ = some (.int .i64 b1) ∧ a.cell? ⟨B, 1, none⟩ = some (.int .i64 b2)) ∧
  (a.cell? ⟨C, 0, none⟩ = some (.int .i64 c1) ∧ a.cell? ⟨C, 1, none⟩ = some (.int .i64 c2))
theorem EOrdS.fr {W1 : World} {A B C : Nat} {a1 a2 b1 b2 x y : Int} {a b : World} (h : EOrdS W1 A B C a1 a2 b1 b2 x y a) (k : Fr a b []) : EOrdS W1 A B C a1 a2 b1 b2 x y b := by
  obtain ⟨h0, ⟨h1, h2⟩, ⟨h3, h4⟩, h5, h6⟩ := h
  exact ⟨h0.trans k, ⟨k.cell h1 (by simp), k.cell h2 (by simp)⟩, ⟨k.cell h3 (by simp), k.cell h4 (by simp)⟩, k.cell h5 (by simp), k.cell h6 (by simp)⟩

theorem order_cases (a1 a2 b1 b2 c1 c2 : Int) (ab ba bc ac sm : Bool) (h1 : lessB a1 a2 b1 b2 = ab) (h2 : lessB b1 b2 a1 a2 = ba) (h3 : lessB b1 b2 c1 c2 = bc) (h4 : lessB a1 a2 c1 c2 = ac) (h5 : decide (a1 = b1 ∧ a2 = b2) = sm) :
    (sm = true ∧ ab = false ∧ ba = false) ∨ (sm = false ∧ ab = false ∧ ba = true) ∨ (sm = false ∧ ab = true ∧ ba = false ∧ bc = false) ∨ (sm = false ∧ ab = true ∧ ba = false ∧ bc = true ∧ ac = true) := by
  subst h1 h2 h3 h4 h5
  simp only [lessB, decide_eq_true_eq, decide_eq_false_iff_not]
  omega
/-- Why there is none next. -/
theorem next_no (s f : Int) (h : ¬ (0 ≤ s ∧ s < 4294967295 ∧ 0 ≤ f ∧ f < 16)) : s < 0 ∨ (¬ s < 0 ∧ 4294967295 ≤ s) ∨ (¬ s < 0 ∧ ¬ 4294967295 ≤ s ∧ f < 0) ∨ (¬ s < 0 ∧ ¬ 4294967295 ≤ s ∧ ¬ f < 0 ∧ 16 ≤ f) := by omega

set_option maxHeartbeats 4000000 in
set_option maxRecDepth 100000 in
theorem eorder_walk (a1 a2 b1 b2 d1 d2 f : Int) (ha1 : (Lit.int .i64 a1).wf = true) (w : World) (hT : Tab w) :
    Calls Tryd.prog 4 #[.agg #[.int .i64 a1, .int .i64 a2], .agg #[.int .i64 b1, .int .i64 b2], .agg #[.int .i64 d1, .int .i64 d2], .int .i64 f] w fun e w' => e = .returned (.bool true) ∧ w.grownBy w' none := by
  obtain ⟨x, y, ok, hn⟩ := next_is a1 f
  have hb1 := bounds_i64 ha1
  have HT := Lib.hid hT
  have HNX := Lib.hid (fun W => next_any a1 f x y ok W hn hb1.1 hb1.2)
  obtain ⟨ab, hab⟩ : ∃ v, lessB a1 a2 b1 b2 = v := ⟨_, rfl⟩
  obtain ⟨ba, hba⟩ : ∃ v, lessB b1 b2 a1 a2 = v := ⟨_, rfl⟩
  obtain ⟨bc, hbc⟩ : ∃ v, lessB b1 b2 d1 d2 = v := ⟨_, rfl⟩
  obtain ⟨ac, hac⟩ : ∃ v, lessB a1 a2 d1 d2 = v := ⟨_, rfl⟩
  obtain ⟨sm, hsm⟩ : ∃ v, decide (a1 = b1 ∧ a2 = b2) = v := ⟨_, rfl⟩
  have HAB := Lib.hid (hab ▸ less_any a1 a2 b1 b2)
  have HBA := Lib.hid (hba ▸ less_any b1 b2 a1 a2)
  have HBC := Lib.hid (hbc ▸ less_any b1 b2 d1 d2)
  have HAC := Lib.hid (hac ▸ less_any a1 a2 d1 d2)
  have HSM := Lib.hid (hsm ▸ same_any a1 a2 b1 b2)
  have hcase := order_cases _ _ _ _ _ _ _ _ _ _ _ hab hba hbc hac hsm
  have HN := Lib.hid hn
  clear hn hb1 hT ha1 hab hba hbc hac hsm
  go_enter Tryd.func4, Tryd.ntmps4
  go_wp2_with fail
  generalize hW1 : World.alloc (World.alloc (World.alloc w _) _) _ = W1
  have hf1 : Fr w W1 [] := by rw [← hW1]; exact ((Fr.alloc _ _ _).trans (Fr.alloc _ _ _)).trans (Fr.alloc _ _ _)
  have hga : W1.heap[w.heap.size]? = some (.cells #[.int .i64 a1, .int .i64 a2] 23 (0, 0)) := by rw [← hW1, Below.heap_alloc _ _ _ (by simp; omega), Below.heap_alloc _ _ _ (by simp)]; exact heap_alloc_new w _
  have hgb : W1.heap[w.heap.size + 1]? = some (.cells #[.int .i64 b1, .int .i64 b2] 23 (0, 0)) := by
    rw [← hW1, Below.heap_alloc _ _ _ (by simp)]; have := heap_alloc_new (w.alloc (.cells #[.int .i64 a1, .int .i64 a2] 23)) (.cells #[.int .i64 b1, .int .i64 b2] 23); simpa using this
  have hgd : W1.heap[w.heap.size + 2]? = some (.cells #[.int .i64 d1, .int .i64 d2] 23 (0, 0)) := by
    rw [← hW1]; have := heap_alloc_new ((w.alloc (.cells #[.int .i64 a1, .int .i64 a2] 23)).alloc (.cells #[.int .i64 b1, .int .i64 b2] 23)) (.cells #[.int .i64 d1, .int .i64 d2] 23); simpa using this
  have HF1 := Lib.hid hf1
  have HS : Hid (EOrdS W1 w.heap.size (w.heap.size + 1) (w.heap.size + 2) a1 a2 b1 b2 d1 d2 W1) := ⟨Fr.refl _ _, (pair_kept hga (Fr.refl _ _)).1, (pair_kept hgb (Fr.refl _ _)).1, (pair_kept hgd (Fr.refl _ _)).1⟩
  clear hW1 hf1 hga hgb hgd
  refine (first4_any _ (HT.out.fr HF1.out)).mono ?_
  rintro e w2 ⟨rfl, hf2⟩
  replace HS := Lib.hid (HS.out.fr hf2)
  obtain ⟨_, ⟨c1, c2⟩, ⟨c3, c4⟩, c5, c6⟩ := HS.out
  clear hf2
  go_wp2_with fail
  refine (HSM.out _).mono ?_
  rintro e wk ⟨rfl, hf⟩
  clear c1 c2 c3 c4 c5 c6
  replace HS := Lib.hid (HS.out.fr hf)
  obtain ⟨_, ⟨c1, c2⟩, ⟨c3, c4⟩, c5, c6⟩ := HS.out
  clear hf
  rcases hcase with ⟨rfl, rfl, rfl⟩ | ⟨rfl, rfl, rfl⟩ | ⟨rfl, rfl, rfl, rfl⟩ | ⟨rfl, rfl, rfl, rfl, rfl⟩
  · go_wp2_with fail
    refine (HAB.out _).mono ?_
    rintro e wk ⟨rfl, hf⟩
    clear c1 c2 c3 c4 c5 c6
    replace HS := Lib.hid (HS.out.fr hf)
    obtain ⟨_, ⟨c1, c2⟩, ⟨c3, c4⟩, c5, c6⟩ := HS.out
    clear hf
    go_wp2_with fail
    refine (HAB.out _).mono ?_
    rintro e wk ⟨rfl, hf⟩
    clear c1 c2 c3 c4 c5 c6
    replace HS := Lib.hid (HS.out.fr hf)
    obtain ⟨_, ⟨c1, c2⟩, ⟨c3, c4⟩, c5, c6⟩ := HS.out
    clear hf
    go_wp2_with fail
    refine (HBA.out _).mono ?_
    rintro e wk ⟨rfl, hf⟩
    clear c1 c2 c3 c4 c5 c6
    replace HS := Lib.hid (HS.out.fr hf)
    obtain ⟨_, ⟨c1, c2⟩, ⟨c3, c4⟩, c5, c6⟩ := HS.out
    clear hf
    go_wp2_with fail
    refine (HAB.out _).mono ?_
    rintro e wk ⟨rfl, hf⟩
    clear c1 c2 c3 c4 c5 c6
    replace HS := Lib.hid (HS.out.fr hf)
    obtain ⟨_, ⟨c1, c2⟩, ⟨c3, c4⟩, c5, c6⟩ := HS.out
    clear hf
    go_wp2_with fail
    refine (HNX.out _).mono ?_
    rintro e wn ⟨rfl, hf⟩
    have HSN := Lib.hid (HS.out.fr hf)
    clear c1 c2 c3 c4 c5 c6 hf HS HAB HBA HBC HAC HSM
    rcases HN.out with ⟨u1, u2, u3, u4, rfl, rfl, rfl⟩ | ⟨u, rfl, rfl, rfl⟩
    · have hvb : validB (a1 + 1) y = true := by simp only [validB, decide_eq_true_eq]; omega
      have hlb : lessB a1 a2 (a1 + 1) y = true := by simp only [lessB, decide_eq_true_eq]; omega
      have HV := Lib.hid (hvb ▸ valid_any (a1 + 1) y)
      have HL := Lib.hid (hlb ▸ less_any a1 a2 (a1 + 1) y)
      clear hvb hlb
      have hw : IntKind.i64.wrap (a1 + 1) = a1 + 1 := IntWalk.i64_in _ (by omega)
      have hgn := heap_alloc_new wn (.cells #[.int .i64 (a1 + 1), .int .i64 y] 23)
      have HGN := Lib.hid hgn
      have HSN2 := Lib.hid (HSN.out.fr (Fr.alloc wn (.cells #[.int .i64 (a1 + 1), .int .i64 y] 23) []))
      obtain ⟨⟨n1, n2⟩, -⟩ := pair_kept hgn (Fr.refl _ _)
      clear hgn u1 u2 u3 u4 HNX HN
      go_wp2_with fail
      refine (HV.out _).mono ?_
      rintro e wv ⟨rfl, hf⟩
      have HSV := Lib.hid (HSN2.out.fr hf)
      have HGV := Lib.hid (hf.heap HGN.out (by simp))
      obtain ⟨_, ⟨c1, c2⟩, -⟩ := HSV.out
      clear n1 n2 hf
      obtain ⟨⟨n1, n2⟩, -⟩ := pair_kept HGV.out (Fr.refl _ _)
      go_wp2_with fail
      refine (HL.out _).mono ?_
      rintro e wl ⟨rfl, hf⟩
      have HSL := Lib.hid (HSV.out.fr hf)
      have HGL := Lib.hid (hf.heap HGV.out (by simp))
      clear n1 n2 c1 c2 hf
      obtain ⟨_, ⟨c1, c2⟩, -⟩ := HSL.out
      obtain ⟨⟨n1, n2⟩, -⟩ := pair_kept HGL.out (Fr.refl _ _)
      go_wp2
      go_ret
      exact ⟨rfl, (HF1.out.trans HSL.out.1).grown (by simp)⟩
    · have HSN2 := Lib.hid (HSN.out.fr (Fr.alloc wn (.cells #[.int .i64 0, .int .i64 0] 23) []))
      obtain ⟨_, ⟨c1, c2⟩, -⟩ := HSN2.out
      rcases next_no _ _ u with v1 | ⟨v1, v2⟩ | ⟨v1, v2, v3⟩ | ⟨v1, v2, v3, v4⟩
      all_goals
        clear u
        go_wp2
        go_ret
        exact ⟨rfl, (HF1.out.trans HSN2.out.1).grown (by simp)⟩
  · go_wp2_with fail
    refine (HAB.out _).mono ?_
    rintro e wk ⟨rfl, hf⟩
    clear c1 c2 c3 c4 c5 c6
    replace HS := Lib.hid (HS.out.fr hf)
    obtain ⟨_, ⟨c1, c2⟩, ⟨c3, c4⟩, c5, c6⟩ := HS.out
    clear hf
    go_wp2_with fail
    refine (HAB.out _).mono ?_
    rintro e wk ⟨rfl, hf⟩
    clear c1 c2 c3 c4 c5 c6
    replace HS := Lib.hid (HS.out.fr hf)
    obtain ⟨_, ⟨c1, c2⟩, ⟨c3, c4⟩, c5, c6⟩ := HS.out
    clear hf
    go_wp2_with fail
    refine (HBA.out _).mono ?_
    rintro e wk ⟨rfl, hf⟩
    clear c1 c2 c3 c4 c5 c6
    replace HS := Lib.hid (HS.out.fr hf)
    obtain ⟨_, ⟨c1, c2⟩, ⟨c3, c4⟩, c5, c6⟩ := HS.out
    clear hf
    go_wp2_with fail
    refine (HAB.out _).mono ?_
    rintro e wk ⟨rfl, hf⟩
    clear c1 c2 c3 c4 c5 c6
    replace HS := Lib.hid (HS.out.fr hf)
    obtain ⟨_, ⟨c1, c2⟩, ⟨c3, c4⟩, c5, c6⟩ := HS.out
    clear hf
    go_wp2_with fail
    refine (HNX.out _).mono ?_
    rintro e wn ⟨rfl, hf⟩
    have HSN := Lib.hid (HS.out.fr hf)
    clear c1 c2 c3 c4 c5 c6 hf HS HAB HBA HBC HAC HSM
    rcases HN.out with ⟨u1, u2, u3, u4, rfl, rfl, rfl⟩ | ⟨u, rfl, rfl, rfl⟩
    · have hvb : validB (a1 + 1) y = true := by simp only [validB, decide_eq_true_eq]; omega
      have hlb : lessB a1 a2 (a1 + 1) y = true := by simp only [lessB, decide_eq_true_eq]; omega
      have HV := Lib.hid (hvb ▸ valid_any (a1 + 1) y)
      have HL := Lib.hid (hlb ▸ less_any a1 a2 (a1 + 1) y)
      clear hvb hlb
      have hw : IntKind.i64.wrap (a1 + 1) = a1 + 1 := IntWalk.i64_in _ (by omega)
      have hgn := heap_alloc_new wn (.cells #[.int .i64 (a1 + 1), .int .i64 y] 23)
      have HGN := Lib.hid hgn
      have HSN2 := Lib.hid (HSN.out.fr (Fr.alloc wn (.cells #[.int .i64 (a1 + 1), .int .i64 y] 23) []))
      obtain ⟨⟨n1, n2⟩, -⟩ := pair_kept hgn (Fr.refl _ _)
      clear hgn u1 u2 u3 u4 HNX HN
      go_wp2_with fail
      refine (HV.out _).mono ?_
      rintro e wv ⟨rfl, hf⟩
      have HSV := Lib.hid (HSN2.out.fr hf)
      have HGV := Lib.hid (hf.heap HGN.out (by simp))
      obtain ⟨_, ⟨c1, c2⟩, -⟩ := HSV.out
      clear n1 n2 hf
      obtain ⟨⟨n1, n2⟩, -⟩ := pair_kept HGV.out (Fr.refl _ _)
      go_wp2_with fail
      refine (HL.out _).mono ?_
      rintro e wl ⟨rfl, hf⟩
      have HSL := Lib.hid (HSV.out.fr hf)
      have HGL := Lib.hid (hf.heap HGV.out (by simp))
      clear n1 n2 c1 c2 hf
      obtain ⟨_, ⟨c1, c2⟩, -⟩ := HSL.out
      obtain ⟨⟨n1, n2⟩, -⟩ := pair_kept HGL.out (Fr.refl _ _)
      go_wp2
      go_ret
      exact ⟨rfl, (HF1.out.trans HSL.out.1).grown (by simp)⟩
    · have HSN2 := Lib.hid (HSN.out.fr (Fr.alloc wn (.cells #[.int .i64 0, .int .i64 0] 23) []))
      obtain ⟨_, ⟨c1, c2⟩, -⟩ := HSN2.out
      rcases next_no _ _ u with v1 | ⟨v1, v2⟩ | ⟨v1, v2, v3⟩ | ⟨v1, v2, v3, v4⟩
      all_goals
        clear u
        go_wp2
        go_ret
        exact ⟨rfl, (HF1.out.trans HSN2.out.1).grown (by simp)⟩
  · go_wp2_with fail
    refine (HAB.out _).mono ?_
    rintro e wk ⟨rfl, hf⟩
    clear c1 c2 c3 c4 c5 c6
    replace HS := Lib.hid (HS.out.fr hf)
    obtain ⟨_, ⟨c1, c2⟩, ⟨c3, c4⟩, c5, c6⟩ := HS.out
    clear hf
    go_wp2_with fail
    refine (HBA.out _).mono ?_
    rintro e wk ⟨rfl, hf⟩
    clear c1 c2 c3 c4 c5 c6
    replace HS := Lib.hid (HS.out.fr hf)
    obtain ⟨_, ⟨c1, c2⟩, ⟨c3, c4⟩, c5, c6⟩ := HS.out
    clear hf
    go_wp2_with fail
    refine (HAB.out _).mono ?_
    rintro e wk ⟨rfl, hf⟩
    clear c1 c2 c3 c4 c5 c6
    replace HS := Lib.hid (HS.out.fr hf)
    obtain ⟨_, ⟨c1, c2⟩, ⟨c3, c4⟩, c5, c6⟩ := HS.out
    clear hf
    go_wp2_with fail
    refine (HAB.out _).mono ?_
    rintro e wk ⟨rfl, hf⟩
    clear c1 c2 c3 c4 c5 c6
    replace HS := Lib.hid (HS.out.fr hf)
    obtain ⟨_, ⟨c1, c2⟩, ⟨c3, c4⟩, c5, c6⟩ := HS.out
    clear hf
    go_wp2_with fail
    refine (HBC.out _).mono ?_
    rintro e wk ⟨rfl, hf⟩
    clear c1 c2 c3 c4 c5 c6
    replace HS := Lib.hid (HS.out.fr hf)
    obtain ⟨_, ⟨c1, c2⟩, ⟨c3, c4⟩, c5, c6⟩ := HS.out
    clear hf
    go_wp2_with fail
    refine (HNX.out _).mono ?_
    rintro e wn ⟨rfl, hf⟩
    have HSN := Lib.hid (HS.out.fr hf)
    clear c1 c2 c3 c4 c5 c6 hf HS HAB HBA HBC HAC HSM
    rcases HN.out with ⟨u1, u2, u3, u4, rfl, rfl, rfl⟩ | ⟨u, rfl, rfl, rfl⟩
    · have hvb : validB (a1 + 1) y = true := by simp only [validB, decide_eq_true_eq]; omega
      have hlb : lessB a1 a2 (a1 + 1) y = true := by simp only [lessB, decide_eq_true_eq]; omega
      have HV := Lib.hid (hvb ▸ valid_any (a1 + 1) y)
      have HL := Lib.hid (hlb ▸ less_any a1 a2 (a1 + 1) y)
      clear hvb hlb
      have hw : IntKind.i64.wrap (a1 + 1) = a1 + 1 := IntWalk.i64_in _ (by omega)
      have hgn := heap_alloc_new wn (.cells #[.int .i64 (a1 + 1), .int .i64 y] 23)
      have HGN := Lib.hid hgn
      have HSN2 := Lib.hid (HSN.out.fr (Fr.alloc wn (.cells #[.int .i64 (a1 + 1), .int .i64 y] 23) []))
      obtain ⟨⟨n1, n2⟩, -⟩ := pair_kept hgn (Fr.refl _ _)
      clear hgn u1 u2 u3 u4 HNX HN
      go_wp2_with fail
      refine (HV.out _).mono ?_
      rintro e wv ⟨rfl, hf⟩
      have HSV := Lib.hid (HSN2.out.fr hf)
      have HGV := Lib.hid (hf.heap HGN.out (by simp))
      obtain ⟨_, ⟨c1, c2⟩, -⟩ := HSV.out
      clear n1 n2 hf
      obtain ⟨⟨n1, n2⟩, -⟩ := pair_kept HGV.out (Fr.refl _ _)
      go_wp2_with fail
      refine (HL.out _).mono ?_
      rintro e wl ⟨rfl, hf⟩
      have HSL := Lib.hid (HSV.out.fr hf)
      have HGL := Lib.hid (hf.heap HGV.out (by simp))
      clear n1 n2 c1 c2 hf
      obtain ⟨_, ⟨c1, c2⟩, -⟩ := HSL.out
      obtain ⟨⟨n1, n2⟩, -⟩ := pair_kept HGL.out (Fr.refl _ _)
      go_wp2
      go_ret
      exact ⟨rfl, (HF1.out.trans HSL.out.1).grown (by simp)⟩
    · have HSN2 := Lib.hid (HSN.out.fr (Fr.alloc wn (.cells #[.int .i64 0, .int .i64 0] 23) []))
      obtain ⟨_, ⟨c1, c2⟩, -⟩ := HSN2.out
      rcases next_no _ _ u with v1 | ⟨v1, v2⟩ | ⟨v1, v2, v3⟩ | ⟨v1, v2, v3, v4⟩
      all_goals
        clear u
        go_wp2
        go_ret
        exact ⟨rfl, (HF1.out.trans HSN2.out.1).grown (by simp)⟩
  · go_wp2_with fail
    refine (HAB.out _).mono ?_
    rintro e wk ⟨rfl, hf⟩
    clear c1 c2 c3 c4 c5 c6
    replace HS := Lib.hid (HS.out.fr hf)
    obtain ⟨_, ⟨c1, c2⟩, ⟨c3, c4⟩, c5, c6⟩ := HS.out
    clear hf
    go_wp2_with fail
    refine (HBA.out _).mono ?_
    rintro e wk ⟨rfl, hf⟩
    clear c1 c2 c3 c4 c5 c6
    replace HS := Lib.hid (HS.out.fr hf)
    obtain ⟨_, ⟨c1, c2⟩, ⟨c3, c4⟩, c5, c6⟩ := HS.out
    clear hf
    go_wp2_with fail
    refine (HAB.out _).mono ?_
    rintro e wk ⟨rfl, hf⟩
    clear c1 c2 c3 c4 c5 c6
    replace HS := Lib.hid (HS.out.fr hf)
    obtain ⟨_, ⟨c1, c2⟩, ⟨c3, c4⟩, c5, c6⟩ := HS.out
    clear hf
    go_wp2_with fail
    refine (HAB.out _).mono ?_
    rintro e wk ⟨rfl, hf⟩
    clear c1 c2 c3 c4 c5 c6
    replace HS := Lib.hid (HS.out.fr hf)
    obtain ⟨_, ⟨c1, c2⟩, ⟨c3, c4⟩, c5, c6⟩ := HS.out
    clear hf
    go_wp2_with fail
    refine (HBC.out _).mono ?_
    rintro e wk ⟨rfl, hf⟩
    clear c1 c2 c3 c4 c5 c6
    replace HS := Lib.hid (HS.out.fr hf)
    obtain ⟨_, ⟨c1, c2⟩, ⟨c3, c4⟩, c5, c6⟩ := HS.out
    clear hf
    go_wp2_with fail
    refine (HAC.out _).mono ?_
    rintro e wk ⟨rfl, hf⟩
    clear c1 c2 c3 c4 c5 c6
    replace HS := Lib.hid (HS.out.fr hf)
    obtain ⟨_, ⟨c1, c2⟩, ⟨c3, c4⟩, c5, c6⟩ := HS.out
    clear hf
    go_wp2_with fail
    refine (HNX.out _).mono ?_
    rintro e wn ⟨rfl, hf⟩
    have HSN := Lib.hid (HS.out.fr hf)
    clear c1 c2 c3 c4 c5 c6 hf HS HAB HBA HBC HAC HSM
    rcases HN.out with ⟨u1, u2, u3, u4, rfl, rfl, rfl⟩ | ⟨u, rfl, rfl, rfl⟩
    · have hvb : validB (a1 + 1) y = true := by simp only [validB, decide_eq_true_eq]; omega
      have hlb : lessB a1 a2 (a1 + 1) y = true := by simp only [lessB, decide_eq_true_eq]; omega
      have HV := Lib.hid (hvb ▸ valid_any (a1 + 1) y)
      have HL := Lib.hid (hlb ▸ less_any a1 a2 (a1 + 1) y)
      clear hvb hlb
      have hw : IntKind.i64.wrap (a1 + 1) = a1 + 1 := IntWalk.i64_in _ (by omega)
      have hgn := heap_alloc_new wn (.cells #[.int .i64 (a1 + 1), .int .i64 y] 23)
      have HGN := Lib.hid hgn
      have HSN2 := Lib.hid (HSN.out.fr (Fr.alloc wn (.cells #[.int .i64 (a1 + 1), .int .i64 y] 23) []))
      obtain ⟨⟨n1, n2⟩, -⟩ := pair_kept hgn (Fr.refl _ _)
      clear hgn u1 u2 u3 u4 HNX HN
      go_wp2_with fail
      refine (HV.out _).mono ?_
      rintro e wv ⟨rfl, hf⟩
      have HSV := Lib.hid (HSN2.out.fr hf)
      have HGV := Lib.hid (hf.heap HGN.out (by simp))
      obtain ⟨_, ⟨c1, c2⟩, -⟩ := HSV.out
      clear n1 n2 hf
      obtain ⟨⟨n1, n2⟩, -⟩ := pair_kept HGV.out (Fr.refl _ _)
      go_wp2_with fail
      refine (HL.out _).mono ?_
      rintro e wl ⟨rfl, hf⟩
      have HSL := Lib.hid (HSV.out.fr hf)
      have HGL := Lib.hid (hf.heap HGV.out (by simp))
      clear n1 n2 c1 c2 hf
      obtain ⟨_, ⟨c1, c2⟩, -⟩ := HSL.out
      obtain ⟨⟨n1, n2⟩, -⟩ := pair_kept HGL.out (Fr.refl _ _)
      go_wp2
      go_ret
      exact ⟨rfl, (HF1.out.trans HSL.out.1).grown (by simp)⟩
    · have HSN2 := Lib.hid (HSN.out.fr (Fr.alloc wn (.cells #[.int .i64 0, .int .i64 0] 23) []))
      obtain ⟨_, ⟨c1, c2⟩, -⟩ := HSN2.out
      rcases next_no _ _ u with v1 | ⟨v1, v2⟩ | ⟨v1, v2, v3⟩ | ⟨v1, v2, v3, v4⟩
      all_goals
        clear u
        go_wp2
        go_ret
        exact ⟨rfl, (HF1.out.trans HSN2.out.1).grown (by simp)⟩
end Go.Proofs.YtnlicmcijmglfaaDoor
