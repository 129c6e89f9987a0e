/- The walk of the law of falls: a record that falls in one of its numbers, though the other one rises, is told, and so is the same one. -/
import Derived.Test.YthiimkjhlndcoaaDoorSFirst
namespace Go.Proofs.YthiimkjhlndcoaaDoor
open Go.RowKit

theorem code_up (R : SR) (c n : Int) (hc : 0 ≤ c ∧ c ≤ 281474976710655) (hn : 0 ≤ n ∧ n ≤ 281474976710655) (h : R.c ≤ c ∧ R.n ≤ n ∧ ¬ (c = R.c ∧ n = R.n)) : R.code c n = 0 := by
  unfold SR.code; rw [if_neg (by omega), if_neg (by omega)]
theorem code_down (R : SR) (c n : Int) (hc : 0 ≤ c ∧ c ≤ 281474976710655) (hn : 0 ≤ n ∧ n ≤ 281474976710655) (h : ¬ (R.c ≤ c ∧ R.n ≤ n ∧ ¬ (c = R.c ∧ n = R.n))) : R.code c n = 8 := by
  unfold SR.code; rw [if_neg (by omega), if_pos (by omega)]

set_option maxHeartbeats 4000000 in
set_option maxRecDepth 100000 in
theorem falls_walk (a b c d : Int) (ha : (Lit.int .i64 a).wf = true) (hb : (Lit.int .i64 b).wf = true) (hc : (Lit.int .i64 c).wf = true) (hd : (Lit.int .i64 d).wf = true) (w : World) (A : Nat → Addr) (hE : EV [2, 4, 5, 7] w A w.heap.size) :
    Calls Tryd.prog 8 #[.int .i64 a, .int .i64 b, .int .i64 c, .int .i64 d] w fun e w' => e = .returned (.bool true) ∧ w.grownBy w' none := by
  obtain ⟨k1, hk1, _, hc1⟩ := numberTo_nat a 100 (by omega) (by omega) ha
  obtain ⟨k2, hk2, _, hc2⟩ := numberTo_nat b 100 (by omega) (by omega) hb
  obtain ⟨k3, hk3, _, hc3⟩ := numberTo_nat c 100 (by omega) (by omega) hc
  obtain ⟨k4, hk4, _, hc4⟩ := numberTo_nat d 100 (by omega) (by omega) hd
  have HC1 := Lib.hid hc1
  have HC2 := Lib.hid hc2
  have HC3 := Lib.hid hc3
  have HC4 := Lib.hid hc4
  have HE := Lib.hid hE
  clear hc1 hc2 hc3 hc4 hE ha hb hc hd
  -- what the second save answers
  obtain ⟨v, R2, up, hcase⟩ : ∃ (v : Value) (R2 : SR) (up : Bool), (((k1 : Int) + 1 ≤ k3 ∧ (k2 : Int) ≤ k4 ∧ ¬ ((k3 : Int) = k1 + 1 ∧ k4 = k2)) ∧ v = .nilIface ∧ R2 = ⟨k3, k4, 1⟩ ∧ up = true) ∨ ((¬ ((k1 : Int) + 1 ≤ k3 ∧ (k2 : Int) ≤ k4 ∧ ¬ ((k3 : Int) = k1 + 1 ∧ k4 = k2))) ∧ v = ev A 8 ∧ R2 = ⟨k1 + 1, k2, 0⟩ ∧ up = false) := by
    by_cases h : (k1 : Int) + 1 ≤ k3 ∧ (k2 : Int) ≤ k4 ∧ ¬ ((k3 : Int) = k1 + 1 ∧ k4 = k2)
    · exact ⟨_, _, _, .inl ⟨h, rfl, rfl, rfl⟩⟩
    · exact ⟨_, _, _, .inr ⟨h, rfl, rfl, rfl⟩⟩
  have hsecond : ∀ s W sp p g, St W sp p g ⟨(k1 : Int) + 1, k2, 0⟩ s → s.d = false → 26 ≤ s.l.length → s.a = 0 → s.n = 14 → Fr w W [] → w.heap.size ≤ p → w.heap.size ≤ g →
      Calls Tryd.prog 17 #[.pointer (some ⟨sp, 0, none⟩), .agg #[.int .i64 (k3 : Int), .int .i64 (k4 : Int)]] W fun e w' => e = .returned v ∧ (∃ s', St w' sp p g R2 s') ∧ Fr W w' [sp, p, g] := by
    intro s W sp p g hs hd hl ha hn hf hp hg
    have h := st_save sp p g _ s k3 k4 W A w.heap.size hs (by omega) (HE.out.fr hf (by simp)) hp hg
    rcases hcase with ⟨hu, rfl, rfl, rfl⟩ | ⟨hu, rfl, rfl, rfl⟩
    · rw [SR.save_ok _ s k3 k4 hd hl ha (code_up _ _ _ (by omega) (by omega) (by simp only; omega))] at h
      exact h.mono fun _ _ ⟨h1, h2, h3⟩ => ⟨h1, ⟨_, h2⟩, h3⟩
    · rw [SR.save_no _ s k3 k4 7 (code_down _ _ _ (by omega) (by omega) (by simp only; omega))] at h
      exact h.mono fun _ _ ⟨h1, h2, h3⟩ => ⟨h1, ⟨_, h2⟩, h3⟩
  have H2 := Lib.hid hsecond
  have HR2 : Hid ((R2 = ⟨k3, k4, 1⟩ ∧ up = true) ∨ (R2 = ⟨k1 + 1, k2, 0⟩ ∧ up = false)) := by
    rcases hcase with ⟨_, _, h1, h2⟩ | ⟨_, _, h1, h2⟩
    · exact .inl ⟨h1, h2⟩
    · exact .inr ⟨h1, h2⟩
  clear hsecond
  have hways : (v = .nilIface ∧ R2 = ⟨k3, k4, 1⟩ ∧ (k1 : Int) + 1 ≤ k3 ∧ k2 ≤ k4 ∧ ¬ ((k1 : Int) + 1 = k3 ∧ (k2 : Int) = k4)) ∨
      (v = ev A 8 ∧ R2 = ⟨k1 + 1, k2, 0⟩ ∧ ((¬ (k1 : Int) + 1 ≤ k3) ∨ ((k1 : Int) + 1 ≤ k3 ∧ ¬ k2 ≤ k4) ∨ ((k1 : Int) + 1 ≤ k3 ∧ k2 ≤ k4 ∧ ((k1 : Int) + 1 = k3 ∧ (k2 : Int) = k4)))) := by
    rcases hcase with ⟨h, h1, h2, _⟩ | ⟨h, h1, h2, _⟩
    · exact .inl ⟨h1, h2, by omega, by omega, by omega⟩
    · exact .inr ⟨h1, h2, by omega⟩
  clear hcase
  go_enter Tryd.func8, Tryd.ntmps8
  go_wp2_with fail
  refine (first3_any _ A HE.out).mono ?_
  rintro e w1 ⟨rfl, hg1⟩
  have HF1 := Lib.hid (Fr.of_grown hg1 [])
  have hop := opened_any w1 A w.heap.size (HE.out.fr HF1.out (by simp)) HF1.out.size
  have HO := Lib.hid hop
  clear hg1 hop
  go_wp2_with fail
  refine HO.out.mono ?_
  rintro e w2 ⟨u, rfl, sp, p, g, rfl, hs, hsp, hp, hg, hf2⟩
  have hl1 := hs.sr.lt
  have hl2 := hs.cl.lt
  have HS := Lib.hid hs
  have HF2 := Lib.hid (HF1.out.trans hf2)
  have HPG := Lib.hid (show w.heap.size ≤ sp ∧ w.heap.size ≤ p ∧ w.heap.size ≤ g from ⟨Nat.le_trans HF1.out.size hsp, Nat.le_trans HF1.out.size hp, Nat.le_trans HF1.out.size hg⟩)
  have HLT := Lib.hid (show sp < w2.heap.size ∧ p < w2.heap.size ∧ g < w2.heap.size from ⟨hl1, hl2.1, hl2.2⟩)
  clear hs hf2 hl1 hl2 hsp hp hg
  go_wp2_with fail
  refine (HC1.out _).mono ?_
  rintro e w3 ⟨rfl, rfl⟩
  go_wp2_with fail
  refine (HC2.out _).mono ?_
  rintro e w3 ⟨rfl, rfl⟩
  go_wp2_with fail
  refine (HC3.out _).mono ?_
  rintro e w3 ⟨rfl, rfl⟩
  go_wp2_with fail
  refine (HC4.out _).mono ?_
  rintro e w3 ⟨rfl, rfl⟩
  go_wp2_with fail
  generalize hW3 : World.alloc (World.alloc w2 _) _ = W3
  have hx := (show W3.heap[w2.heap.size]? = some (.cells #[.int .i64 ((k1 : Int) + 1), .int .i64 (k2 : Int)] 35 (0, 0)) by rw [← hW3, Below.heap_alloc _ _ _ (by simp)]; exact heap_alloc_new w2 _)
  have hy := (show W3.heap[w2.heap.size + 1]? = some (.cells #[.int .i64 (k3 : Int), .int .i64 (k4 : Int)] 35 (0, 0)) by rw [← hW3]; have := heap_alloc_new (w2.alloc (.cells #[.int .i64 ((k1 : Int) + 1), .int .i64 (k2 : Int)] 35)) (.cells #[.int .i64 (k3 : Int), .int .i64 (k4 : Int)] 35); simpa using this)
  have hf3 : Fr w2 W3 [] := by rw [← hW3]; exact (Fr.alloc _ _ _).trans (Fr.alloc _ _ _)
  have hsv := st_save sp p g SR.none (CS.new 26) ((k1 : Int) + 1) k2 W3 A w.heap.size (HS.out.fr hf3 (by simp)) (by decide) (HE.out.fr (HF2.out.trans hf3) (by simp)) HPG.out.2.1 HPG.out.2.2
  rw [SR.save_ok SR.none (CS.new 26) _ _ rfl (by decide) rfl (code_up _ _ _ (by omega) (by omega) (by show (0 : Int) ≤ _ ∧ (0 : Int) ≤ _ ∧ ¬ (_ = (0 : Int) ∧ _ = (0 : Int)); omega)), show ev A 0 = .nilIface from rfl] at hsv
  obtain ⟨s1, hs1⟩ : ∃ s1, s1 = ({ CS.new 26 with l := setAll (CS.new 26).l (plan SR.none.spare ((k1 : Int) + 1) k2), n := (CS.new 26).n + 14 } : CS) := ⟨_, rfl⟩
  rw [← hs1] at hsv
  have HS1 := Lib.hid (show s1.d = false ∧ 26 ≤ s1.l.length ∧ s1.a = 0 ∧ s1.n = 14 by rw [hs1]; exact ⟨rfl, by simp only [setAll_len]; decide, rfl, rfl⟩)
  have HX := Lib.hid hx
  have HY := Lib.hid hy
  have HSV := Lib.hid hsv
  have HF3 := Lib.hid (HF2.out.trans hf3)
  clear hx hy hsv hs1 hW3 hf3
  refine HSV.out.mono ?_
  rintro e w4 ⟨rfl, hs4, hf4⟩
  have hxy : w2.heap.size ∉ [sp, p, g] ∧ w2.heap.size + 1 ∉ [sp, p, g] := by have := HLT.out; simp; omega
  have HXY := Lib.hid hxy
  have HX4 := Lib.hid (hf4.heap HX.out hxy.1)
  have HY4 := Lib.hid (hf4.heap HY.out hxy.2)
  have HF4 := Lib.hid (HF3.out.new hf4 (by have := HPG.out; simp; omega))
  have h2 := H2.out s1 w4 sp p g hs4 HS1.out.1 HS1.out.2.1 HS1.out.2.2.1 HS1.out.2.2.2 HF4.out HPG.out.2.1 HPG.out.2.2
  have hcc := HY4.out
  have y0 := cell_of_row _ _ 0 _ _ _ hcc
  have y1 := cell_of_row _ _ 1 _ _ _ hcc
  simp at y0 y1
  have HSV2 := Lib.hid h2
  clear hs4 hf4 hxy h2 hcc
  go_wp2_with fail
  refine HSV2.out.mono ?_
  rintro e w5 ⟨rfl, ⟨s5, hs5⟩, hf5⟩
  clear y0 y1
  have hx5 := hf5.heap HX4.out HXY.out.1
  have hy5 := hf5.heap HY4.out HXY.out.2
  have HS5 := Lib.hid hs5
  have HF5 := Lib.hid (HF4.out.new hf5 (by have := HPG.out; simp; omega))
  have HX5 := Lib.hid hx5
  have HY5 := Lib.hid hy5
  have y0 := cell_of_row _ _ 0 _ _ _ hy5
  have y1 := cell_of_row _ _ 1 _ _ _ hy5
  have x0 := cell_of_row _ _ 0 _ _ _ hx5
  have x1 := cell_of_row _ _ 1 _ _ _ hx5
  simp at x0 x1 y0 y1
  clear hx5 hy5 hs5 hf5
  rcases hways with ⟨rfl, rfl, u1, u2, u3⟩ | ⟨rfl, rfl, hd⟩
  · have HSM := Lib.hid (fun W => same3_any ((k1 : Int) + 1) k2 k3 k4 false W (by rw [eq_comm]; exact decide_eq_false u3))
    have HSM2 := Lib.hid (fun W => same3_any (k3 : Int) k4 k3 k4 true W (by simp))
    clear u3
    go_wp2_with fail
    refine (HSM.out _).mono ?_
    rintro e w6 ⟨rfl, hf6⟩
    have HF6 := Lib.hid hf6
    have y0a := hf6.cell y0 (by simp)
    have y1a := hf6.cell y1 (by simp)
    clear x0 x1 y0 y1 hf6
    go_wp2_with fail
    have hun : undef = Value.tuple #[] := rfl
    first | (go_region_held3 (fun w' => w'.cell? ⟨w2.heap.size + 1, 0, none⟩ = some (.int .i64 (k3 : Int)) ∧ w'.cell? ⟨w2.heap.size + 1, 1, none⟩ = some (.int .i64 (k4 : Int)))
      (first | exact ⟨y0a, y1a⟩ | exact ⟨y0c, y1c⟩ | exact ⟨y0b, y1b⟩)
      (first
        | (go_at_call 14; ((refine (record_any sp p _ _ (HS5.out.sr.fr (HF6.out.trans (Fr.drew _ [])) (by simp))).mono ?_); rintro e wa ⟨rfl, hfa⟩; have hfa0 := (Fr.drew _ []).trans hfa; have y0b := hfa0.cell y0a (by simp); have y1b := hfa0.cell y1a (by simp)))
        | (go_at_call 15; ((with_reducible refine (HSM2.out _).mono ?_); rintro e wb ⟨rfl, hfb⟩; have y0c := hfb.cell y0b (by simp); have y1c := hfb.cell y1b (by simp))))) | fail
    all_goals
      have HFE := Lib.hid (HF5.out.trans (HF6.out.trans (hfa0.trans hfb)))
      clear hfa hfb hfa0 y0a y0b y0c y1a y1b y1c hun
      go_wp2
      go_ret
      exact ⟨rfl, HFE.out.grown (by simp)⟩
  · rw [show ev A 8 = .iface 95 (.pointer (some (A 8))) from rfl]
    have HSM2 := Lib.hid (fun W => same3_any ((k1 : Int) + 1) k2 ((k1 : Int) + 1) k2 true W (by simp))
    rcases hd with u1 | ⟨u1, u2⟩ | ⟨u1, u2, u3, u4⟩
    · have HF6 := Lib.hid (Fr.refl w5 [])
      have x0a := x0
      have x1a := x1
      go_wp2_with fail
      clear x0 x1 y0 y1
      have hun : undef = Value.tuple #[] := rfl
      first | (go_region_held3 (fun w' => w'.cell? ⟨w2.heap.size, 0, none⟩ = some (.int .i64 ((k1 : Int) + 1)) ∧ w'.cell? ⟨w2.heap.size, 1, none⟩ = some (.int .i64 (k2 : Int)))
        (first | exact ⟨x0a, x1a⟩ | exact ⟨x0c, x1c⟩ | exact ⟨x0b, x1b⟩)
        (first
          | (go_at_call 14; ((refine (record_any sp p _ _ (HS5.out.sr.fr (HF6.out.trans (Fr.drew _ [])) (by simp))).mono ?_); rintro e wa ⟨rfl, hfa⟩; have hfa0 := (Fr.drew _ []).trans hfa; have x0b := hfa0.cell x0a (by simp); have x1b := hfa0.cell x1a (by simp)))
          | (go_at_call 15; ((with_reducible refine (HSM2.out _).mono ?_); rintro e wb ⟨rfl, hfb⟩; have x0c := hfb.cell x0b (by simp); have x1c := hfb.cell x1b (by simp))))) | fail
      all_goals
        have HFE := Lib.hid (HF5.out.trans (HF6.out.trans (hfa0.trans hfb)))
        clear hfa hfb hfa0 x0a x0b x0c x1a x1b x1c hun
        go_wp2
        go_ret
        exact ⟨rfl, HFE.out.grown (by simp)⟩
    · have HF6 := Lib.hid (Fr.refl w5 [])
      have x0a := x0
      have x1a := x1
      go_wp2_with fail
      clear x0 x1 y0 y1
      have hun : undef = Value.tuple #[] := rfl
      first | (go_region_held3 (fun w' => w'.cell? ⟨w2.heap.size, 0, none⟩ = some (.int .i64 ((k1 : Int) + 1)) ∧ w'.cell? ⟨w2.heap.size, 1, none⟩ = some (.int .i64 (k2 : Int)))
        (first | exact ⟨x0a, x1a⟩ | exact ⟨x0c, x1c⟩ | exact ⟨x0b, x1b⟩)
        (first
          | (go_at_call 14; ((refine (record_any sp p _ _ (HS5.out.sr.fr (HF6.out.trans (Fr.drew _ [])) (by simp))).mono ?_); rintro e wa ⟨rfl, hfa⟩; have hfa0 := (Fr.drew _ []).trans hfa; have x0b := hfa0.cell x0a (by simp); have x1b := hfa0.cell x1a (by simp)))
          | (go_at_call 15; ((with_reducible refine (HSM2.out _).mono ?_); rintro e wb ⟨rfl, hfb⟩; have x0c := hfb.cell x0b (by simp); have x1c := hfb.cell x1b (by simp))))) | fail
      all_goals
        have HFE := Lib.hid (HF5.out.trans (HF6.out.trans (hfa0.trans hfb)))
        clear hfa hfb hfa0 x0a x0b x0c x1a x1b x1c hun
        go_wp2
        go_ret
        exact ⟨rfl, HFE.out.grown (by simp)⟩
    · have HSM := Lib.hid (fun W => same3_any ((k1 : Int) + 1) k2 k3 k4 true W (by rw [eq_comm]; exact decide_eq_true ⟨u3, u4⟩))
      clear u3 u4
      go_wp2_with fail
      refine (HSM.out _).mono ?_
      rintro e w6 ⟨rfl, hf6⟩
      have HF6 := Lib.hid hf6
      have x0a := hf6.cell x0 (by simp)
      have x1a := hf6.cell x1 (by simp)
      clear x0 x1 y0 y1 hf6
      go_wp2_with fail
      have hun : undef = Value.tuple #[] := rfl
      first | (go_region_held3 (fun w' => w'.cell? ⟨w2.heap.size, 0, none⟩ = some (.int .i64 ((k1 : Int) + 1)) ∧ w'.cell? ⟨w2.heap.size, 1, none⟩ = some (.int .i64 (k2 : Int)))
        (first | exact ⟨x0a, x1a⟩ | exact ⟨x0c, x1c⟩ | exact ⟨x0b, x1b⟩)
        (first
          | (go_at_call 14; ((refine (record_any sp p _ _ (HS5.out.sr.fr (HF6.out.trans (Fr.drew _ [])) (by simp))).mono ?_); rintro e wa ⟨rfl, hfa⟩; have hfa0 := (Fr.drew _ []).trans hfa; have x0b := hfa0.cell x0a (by simp); have x1b := hfa0.cell x1a (by simp)))
          | (go_at_call 15; ((with_reducible refine (HSM2.out _).mono ?_); rintro e wb ⟨rfl, hfb⟩; have x0c := hfb.cell x0b (by simp); have x1c := hfb.cell x1b (by simp))))) | fail
      all_goals
        have HFE := Lib.hid (HF5.out.trans (HF6.out.trans (hfa0.trans hfb)))
        clear hfa hfb hfa0 x0a x0b x0c x1a x1b x1c hun
        go_wp2
        go_ret
        exact ⟨rfl, HFE.out.grown (by simp)⟩
end Go.Proofs.YthiimkjhlndcoaaDoor
