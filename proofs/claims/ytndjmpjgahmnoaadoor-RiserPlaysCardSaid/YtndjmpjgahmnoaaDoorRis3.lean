/- Hall buttons: New, Is, Gen, Press, Clear, Clone. -/
import Derived.Test.YtndjmpjgahmnoaaDoorRis2
import Derived.Laws.Tables
namespace Go.Proofs.YtndjmpjgahmnoaaDoor
open Go.RowKit

/-- A zero riser's cells. -/
def zA : Array Value := (zRs 0).toArray
set_option maxRecDepth 100000 in
theorem zeroRs (W : World) : (zeroValue 65).run Tryd.prog W = .ok (.agg zA) W :=
  (zero_of_info (n := 257) (show (Tryd.prog.info? 65).map (fun i => (i.zero, i.size)) = some (some (.agg zA), 257) by kernel_rfl)).1 W
set_option maxRecDepth 100000 in
theorem zA_ne : zA ≠ #[] := by
  intro h
  have : zA.size = 257 := rfl
  rw [h] at this
  simp at this
set_option maxRecDepth 100000 in
theorem zA_size : zA.size = 257 := rfl
theorem zA_set (n : Nat) : RsC (zA.setIfInBounds 0 (.int .i64 (n : Int))) (zS n) := by
  have h : zA.setIfInBounds 0 (.int .i64 (n : Int)) = (zRs (n : Int)).toArray := by
    unfold zA zRs
    rw [List.setIfInBounds_toArray, List.set_cons_zero]
  rw [h]
  exact zRs_ok n
set_option maxRecDepth 100000 in
theorem new_yes (n : Nat) (h0 : 2 ≤ n) (h1 : n ≤ 64) (w : World) : Calls Tryd.prog 8 #[.int .i64 (n : Int)] w fun e w' => e = .returned (.tuple #[.pointer (some ⟨w.heap.size, 0, none⟩), .nilIface]) ∧ Rs w' w.heap.size (zS n) ∧ Fr w w' [] := by
  have hz := zeroRs
  have hne := zA_ne
  have HA := Lib.hid (zA_set n)
  go_enter Tryd.func8, Tryd.ntmps8
  go_wp2
  go_ret2
  exact ⟨rfl, ⟨_, heap_alloc_new _ _, HA.out⟩, Fr.alloc _ _ _⟩
set_option maxRecDepth 100000 in
theorem new_no (n : Int) (h : n < 2 ∨ 64 < n) (w : World) (A : Nat → Addr) (B : Nat) (hE : EV [2] w A B) : Calls Tryd.prog 8 #[.int .i64 n] w fun e w' => e = .returned (.tuple #[.pointer none, ev A 3]) ∧ Fr w w' [] := by
  have he : w.cell? ⟨0, 0, none⟩ = some (ev A 3) := (hE.cell 2 (by decide)).1
  rcases (by omega : n < 2 ∨ (¬ n < 2 ∧ n > 64)) with h | ⟨h, h'⟩
  all_goals
    go_enter Tryd.func8, Tryd.ntmps8
    go_wp2
    go_quiet (fail)
    go_wp2
    go_ret2
    exact ⟨rfl, Fr.drewN _ _ _⟩

/-- Its three cells. -/
theorem row3 {w : World} {g : Nat} {a b c : Value} {T : TypeId} (h : w.heap[g]? = some (.cells #[a, b, c] T (0, 0))) :
    w.cell? ⟨g, 0, none⟩ = some a ∧ w.cell? ⟨g, 1, none⟩ = some b ∧ w.cell? ⟨g, 2, none⟩ = some c :=
  ⟨by rw [cell_of_row w g 0 _ _ _ h]; rfl, by rw [cell_of_row w g 1 _ _ _ h]; rfl, by rw [cell_of_row w g 2 _ _ _ h]; rfl⟩

set_option maxRecDepth 100000 in
theorem is_any (p : Nat) (s : RS) (f d g : Int) (w : World) (hs : Rs w p s) (hn : s.n ≤ 64) (b : Bool) (hb : s.isB f d g = b) :
    Calls Tryd.prog 12 #[.pointer (some ⟨p, 0, none⟩), .agg #[.int .i64 f, .int .i64 d, .int .i64 g]] w fun e w' => e = .returned (.bool b) ∧ Fr w w' [] := by
  have HF := Lib.hid (Fr.alloc w (.cells #[.int .i64 f, .int .i64 d, .int .i64 g] 32) [])
  have HB := Lib.hid (heap_alloc_new w (.cells #[.int .i64 f, .int .i64 d, .int .i64 g] 32))
  have HS := Lib.hid (hs.keep HF.out)
  clear hs
  rcases may_or s.n f d with hm | ⟨k, hk⟩
  · have hb' : b = false := by rw [← hb]; simp [RS.isB, hm]
    subst hb'
    clear hb
    go_enter Tryd.func12, Tryd.ntmps12
    go_wp2_with fail
    refine (button_no p s f d _ HS.out hn hm).mono ?_
    rintro e w1 ⟨rfl, hf⟩
    have HF1 := Lib.hid (HF.out.trans hf)
    clear hf
    go_wp2
    go_quiet (fail)
    go_wp2
    go_ret
    exact ⟨rfl, HF1.out.trans (Fr.drewN _ _ [])⟩
  · have hb' : (s.L k && decide (s.G k = g)) = b := by rw [← hb]; simp [RS.isB, hk.may, hk.is]
    clear hb
    have hk128 : k < 128 := by have := hk.hi; omega
    obtain ⟨o, ho⟩ : ∃ o, o = 1 + 2 * k := ⟨_, rfl⟩
    have HO := Lib.hid ho
    go_enter Tryd.func12, Tryd.ntmps12
    go_wp2_with fail
    refine (button_yes p s f d k _ HS.out hn hk).mono ?_
    rintro e w1 ⟨rfl, hf⟩
    have HF1 := Lib.hid (HF.out.trans hf)
    obtain ⟨c0, c1⟩ := (HS.out.keep hf).at' k o hk128 HO.out
    obtain ⟨_, _, c2⟩ := row3 (hf.heap HB.out (by simp))
    rw [← HO.out]
    clear hf ho hk
    obtain ⟨gk, hgk⟩ : ∃ x, x = s.G k := ⟨_, rfl⟩
    rw [← hgk] at c1 hb'
    clear hgk
    cases hl : s.L k with
    | false =>
      rw [hl] at c0 hb'
      obtain rfl : b = false := by rw [← hb']; rfl
      clear hl hb'
      go_wp2
      go_quiet (fail)
      go_wp2
      go_ret
      exact ⟨rfl, HF1.out.trans (Fr.drewN _ _ [])⟩
    | true =>
      rw [hl] at c0 hb'
      obtain rfl : b = (gk == g) := by rw [← hb']; exact Bool.eq_iff_iff.2 (by simp)
      clear hl hb'
      go_wp2
      go_quiet (fail)
      go_wp2
      go_ret
      exact ⟨rfl, HF1.out.trans (Fr.drewN _ _ [])⟩

set_option maxRecDepth 100000 in
theorem gen_any (p : Nat) (s : RS) (f d : Int) (w : World) (hs : Rs w p s) (hn : s.n ≤ 64) :
    Calls Tryd.prog 15 #[.pointer (some ⟨p, 0, none⟩), .agg #[.int .i64 f, .int .i64 d]] w fun e w' => e = .returned (.int .i64 (s.genB f d)) ∧ Fr w w' [] := by
  have HF := Lib.hid (Fr.alloc w (.cells #[.int .i64 f, .int .i64 d] 24) [])
  have HS := Lib.hid (hs.keep HF.out)
  clear hs
  rcases may_or s.n f d with hm | ⟨k, hk⟩
  · have HB : Hid (s.genB f d = 0) := by show _ = _; simp [RS.genB, hm]
    go_enter Tryd.func15, Tryd.ntmps15
    go_wp2_with fail
    refine (button_no p s f d _ HS.out hn hm).mono ?_
    rintro e w1 ⟨rfl, hf⟩
    have HF1 := Lib.hid (HF.out.trans hf)
    clear hf
    go_wp2
    go_ret
    exact ⟨by rw [HB.out]; rfl, HF1.out⟩
  · have HB : Hid (s.genB f d = s.G k) := by show _ = _; simp [RS.genB, hk.may, hk.is]
    have hk128 : k < 128 := by have := hk.hi; omega
    obtain ⟨o, ho⟩ : ∃ o, o = 1 + 2 * k := ⟨_, rfl⟩
    have HO := Lib.hid ho
    go_enter Tryd.func15, Tryd.ntmps15
    go_wp2_with fail
    refine (button_yes p s f d k _ HS.out hn hk).mono ?_
    rintro e w1 ⟨rfl, hf⟩
    have HF1 := Lib.hid (HF.out.trans hf)
    obtain ⟨c0, c1⟩ := (HS.out.keep hf).at' k o hk128 HO.out
    rw [← HO.out]
    clear hf ho hk
    go_wp2
    go_ret
    exact ⟨by rw [HB.out]; rfl, HF1.out⟩

theorem set3_fr (w : World) (g : Nat) (a b c : Value) : Fr w (((w.setCell ⟨g, 0, none⟩ a).setCell ⟨g, 1, none⟩ b).setCell ⟨g, 2, none⟩ c) [g] :=
  ((Fr.setCell w g 0 a (by simp)).trans (Fr.setCell _ g 1 b (by simp))).trans (Fr.setCell _ g 2 c (by simp))
theorem set3_row {w : World} {g : Nat} {x y z : Value} {T : TypeId} (h : w.heap[g]? = some (.cells #[x, y, z] T (0, 0))) (a b c : Value) :
    (((w.setCell ⟨g, 0, none⟩ a).setCell ⟨g, 1, none⟩ b).setCell ⟨g, 2, none⟩ c).heap[g]? = some (.cells #[a, b, c] T (0, 0)) :=
  heap_setCell_same _ _ _ _ _ _ (heap_setCell_same _ _ _ _ _ _ (heap_setCell_same _ _ _ _ _ _ h))
set_option maxRecDepth 100000 in
theorem press_no (p : Nat) (s : RS) (f d : Int) (w : World) (hs : Rs w p s) (hn : s.n ≤ 64) (hm : (mayB s.n f d && !s.L (keyN f d)) = false) :
    Calls Tryd.prog 9 #[.pointer (some ⟨p, 0, none⟩), .agg #[.int .i64 f, .int .i64 d]] w fun e w' => e = .returned (.tuple #[.agg #[.int .i64 0, .int .i64 0, .int .i64 0], .bool false]) ∧ Fr w w' [] := by
  have HF := Lib.hid ((Fr.alloc w (.cells #[.int .i64 f, .int .i64 d] 24) []).trans (Fr.alloc _ (.cells #[.int .i64 0, .int .i64 0, .int .i64 0] 32) []))
  have HS := Lib.hid (hs.keep HF.out)
  have HR := Lib.hid (heap_alloc_new (w.alloc (.cells #[.int .i64 f, .int .i64 d] 24)) (.cells #[.int .i64 0, .int .i64 0, .int .i64 0] 32))
  rw [show (w.alloc (.cells #[.int .i64 f, .int .i64 d] 24)).heap.size = w.heap.size + 1 by simp] at HR
  clear hs
  rcases may_or s.n f d with hm | ⟨k, hk⟩
  · go_enter Tryd.func9, Tryd.ntmps9
    go_wp2_with fail
    refine (button_no p s f d _ HS.out hn hm).mono ?_
    rintro e w1 ⟨rfl, hf⟩
    have HF1 := Lib.hid (HF.out.trans hf)
    obtain ⟨r0, r1, r2⟩ := row3 (hf.heap HR.out (by simp))
    have z := fun i => frozen_of_row w1 _ i _ _ (hf.heap HR.out (by simp))
    have z0 := z 0
    have z1 := z 1
    have z2 := z 2
    have HX := Lib.hid (hf.heap HR.out (by simp))
    clear hf z
    go_wp2
    have X := set3_row HX.out (.int .i64 0) (.int .i64 0) (.int .i64 0)
    have Y := set3_fr w1 (w.heap.size + 1) (.int .i64 0) (.int .i64 0) (.int .i64 0)
    generalize World.setCell (World.setCell (World.setCell w1 _ _) _ _) _ _ = W at *
    obtain ⟨x0, x1, x2⟩ := row3 X
    refine bodyPost_ret (v := .tuple #[.agg #[.int .i64 0, .int .i64 0, .int .i64 0], .bool false]) (by simp [results, Tryd.results9, go_sem, x0, x1, x2]) rfl ⟨rfl, HF1.out.new Y (by simp)⟩
  · rw [hk.may, hk.is] at hm
    have hl : s.L k = true := by simpa using hm
    have hk128 : k < 128 := by have := hk.hi; omega
    obtain ⟨o, ho⟩ : ∃ o, o = 1 + 2 * k := ⟨_, rfl⟩
    have HO := Lib.hid ho
    go_enter Tryd.func9, Tryd.ntmps9
    go_wp2_with fail
    refine (button_yes p s f d k _ HS.out hn hk).mono ?_
    rintro e w1 ⟨rfl, hf⟩
    have HF1 := Lib.hid (HF.out.trans hf)
    obtain ⟨c0, c1⟩ := (HS.out.keep hf).at' k o hk128 HO.out
    rw [hl] at c0
    rw [← HO.out]
    obtain ⟨r0, r1, r2⟩ := row3 (hf.heap HR.out (by simp))
    have z := fun i => frozen_of_row w1 _ i _ _ (hf.heap HR.out (by simp))
    have z0 := z 0
    have z1 := z 1
    have z2 := z 2
    have HX := Lib.hid (hf.heap HR.out (by simp))
    clear hf ho hk hm hl z
    go_wp2
    have X := set3_row HX.out (.int .i64 0) (.int .i64 0) (.int .i64 0)
    have Y := set3_fr w1 (w.heap.size + 1) (.int .i64 0) (.int .i64 0) (.int .i64 0)
    generalize World.setCell (World.setCell (World.setCell w1 _ _) _ _) _ _ = W at *
    obtain ⟨x0, x1, x2⟩ := row3 X
    refine bodyPost_ret (v := .tuple #[.agg #[.int .i64 0, .int .i64 0, .int .i64 0], .bool false]) (by simp [results, Tryd.results9, go_sem, x0, x1, x2]) rfl ⟨rfl, HF1.out.new Y (by simp)⟩

set_option maxRecDepth 100000 in
theorem press_yes (p : Nat) (s : RS) (f d : Int) (k : Nat) (w : World) (hs : Rs w p s) (hn : s.n ≤ 64) (hk : Key s.n f d k) (hl : s.L k = false) (hg0 : 0 ≤ s.G k) (hg1 : s.G k ≤ 1000) :
    Calls Tryd.prog 9 #[.pointer (some ⟨p, 0, none⟩), .agg #[.int .i64 f, .int .i64 d]] w fun e w' => e = .returned (.tuple #[.agg #[.int .i64 f, .int .i64 d, .int .i64 (s.G k + 1)], .bool true]) ∧ Rs w' p (s.press k) ∧ Fr w w' [p] := by
  obtain ⟨g, hg⟩ : ∃ g, s.G k = g := ⟨_, rfl⟩
  rw [hg] at hg0 hg1 ⊢
  have HG := Lib.hid hg
  clear hg
  have HF := Lib.hid ((Fr.alloc w (.cells #[.int .i64 f, .int .i64 d] 24) []).trans (Fr.alloc _ (.cells #[.int .i64 0, .int .i64 0, .int .i64 0] 32) []))
  have HS := Lib.hid (hs.keep HF.out)
  have HC := Lib.hid ((Fr.alloc _ (.cells #[.int .i64 0, .int .i64 0, .int .i64 0] 32) []).heap (heap_alloc_new w (.cells #[.int .i64 f, .int .i64 d] 24)) (by simp))
  have HR := Lib.hid (heap_alloc_new (w.alloc (.cells #[.int .i64 f, .int .i64 d] 24)) (.cells #[.int .i64 0, .int .i64 0, .int .i64 0] 32))
  rw [show (w.alloc (.cells #[.int .i64 f, .int .i64 d] 24)).heap.size = w.heap.size + 1 by simp] at HR
  have hpw : p < w.heap.size := hs.lt
  have p1 : ¬ p = w.heap.size + 1 := by omega
  have p2 : ¬ w.heap.size = p := by omega
  have p3 : ¬ w.heap.size + 1 = p := by omega
  clear hs
  have hk128 : k < 128 := by have := hk.hi; omega
  obtain ⟨o, ho⟩ : ∃ o, o = 1 + 2 * k := ⟨_, rfl⟩
  have HO := Lib.hid ho
  go_enter Tryd.func9, Tryd.ntmps9
  go_wp2_with fail
  refine (button_yes p s f d k _ HS.out hn hk).mono ?_
  rintro e w1 ⟨rfl, hf⟩
  have HF1 := Lib.hid (HF.out.trans hf)
  obtain ⟨c0, c1⟩ := (HS.out.keep hf).at' k o hk128 HO.out
  have z3 := (HS.out.keep hf).fz o
  have z4 := (HS.out.keep hf).fz (o + 1)
  have HP := Lib.hid ((HS.out.keep hf).press k o hk128 HO.out g HG.out)
  rw [hl] at c0
  rw [← HO.out]
  obtain ⟨k0, k1⟩ := row2 (hf.heap HC.out (by simp))
  obtain ⟨r0, r1, r2⟩ := row3 (hf.heap HR.out (by simp))
  have z := fun i => frozen_of_row w1 _ i _ _ (hf.heap HR.out (by simp))
  have z0 := z 0
  have z1 := z 1
  have z2 := z 2
  rw [HG.out] at c1
  have HX := Lib.hid (hf.heap HR.out (by simp))
  clear hf ho hk hl z
  go_wp2
  go_region
  all_goals
    go_wp2
    have FP := (Fr.setCell w1 p o (.bool true) (S := [p]) (by simp)).trans (Fr.setCell _ p (o + 1) (.int .i64 (g + 1)) (by simp))
    have XP := FP.heap HX.out (by simp; omega)
    have HP' := HP.out
    generalize World.setCell (World.setCell w1 ⟨p, o, none⟩ _) ⟨p, o + 1, none⟩ _ = Wp at *
    have X := (Fr.drew _ []).heap (set3_row XP (.int .i64 f) (.int .i64 d) (.int .i64 (g + 1))) (by simp)
    have Y := (set3_fr Wp (w.heap.size + 1) (.int .i64 f) (.int .i64 d) (.int .i64 (g + 1))).trans (Fr.drew _ _)
    generalize World.drew (World.setCell (World.setCell (World.setCell Wp _ _) _ _) _ _) = W at *
    obtain ⟨x0, x1, x2⟩ := row3 X
    exact bodyPost_ret (v := .tuple #[.agg #[.int .i64 f, .int .i64 d, .int .i64 (g + 1)], .bool true]) (by simp [results, Tryd.results9, go_sem, x0, x1, x2]) rfl ⟨rfl, HP'.fr Y (by simp; omega), ((HF1.out.mono (by simp)).trans FP).new Y (by simp)⟩
end Go.Proofs.YtndjmpjgahmnoaaDoor
