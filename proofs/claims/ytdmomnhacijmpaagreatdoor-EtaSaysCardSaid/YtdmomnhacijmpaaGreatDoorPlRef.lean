/- What is done at a floor: the document's. -/
import Derived.Test.YtdmomnhacijmpaaGreatDoorGPlan
import Derived.Test.YtdmomnhacijmpaaGreatDoorARef2
namespace Go.Proofs.YtdmomnhacijmpaaGreatDoor
open Go.RowKit

/-- The stops' cells, a result's box that is nothing, a deed's box; in a world that came of W. -/
def RD (W : World) (p u d : Nat) (x : De) (a : World) : Prop := SS W W.heap.size p u d a ∧
  a.heap[W.heap.size + 1]? = some (.cells #[.bool false, .int .i64 0, .int .i64 0] 86 (0, 0)) ∧
  a.heap[W.heap.size + 2]? = some (.cells #[.bool x.stop, .int .i64 x.dir, .int .i64 x.move] 86 (0, 0))
theorem RD.fr {W : World} {p u d : Nat} {x : De} {a a' : World} (h : RD W p u d x a) (k : Fr a a' []) : RD W p u d x a' := ⟨h.1.fr k, k.heap h.2.1 (by simp), k.heap h.2.2 (by simp)⟩
theorem RD.cells {W : World} {p u d : Nat} {x : De} {a : World} (h : RD W p u d x a) :
    (Fr W a [] ∧ a.cell? ⟨W.heap.size, 0, none⟩ = some (.int .u64 p) ∧ a.cell? ⟨W.heap.size, 1, none⟩ = some (.int .u64 u) ∧ a.cell? ⟨W.heap.size, 2, none⟩ = some (.int .u64 d)) ∧
    (a.cell? ⟨W.heap.size + 1, 0, none⟩ = some (.bool false) ∧ a.cell? ⟨W.heap.size + 1, 1, none⟩ = some (.int .i64 0) ∧ a.cell? ⟨W.heap.size + 1, 2, none⟩ = some (.int .i64 0)) ∧
    a.cell? ⟨W.heap.size + 2, 0, none⟩ = some (.bool x.stop) ∧ a.cell? ⟨W.heap.size + 2, 1, none⟩ = some (.int .i64 x.dir) ∧ a.cell? ⟨W.heap.size + 2, 2, none⟩ = some (.int .i64 x.move) :=
  ⟨h.1, arow h.2.1, arow h.2.2⟩
theorem RD.fz {W : World} {p u d : Nat} {x : De} {a : World} (h : RD W p u d x a) (i : Nat) : a.frozen? ⟨W.heap.size + 2, i, none⟩ = false := frozen_of_row _ _ i _ _ h.2.2
theorem RD.turn {W : World} {p u d : Nat} {x x' : De} {a a' : World} (h : RD W p u d x a) (k : Fr a a' [W.heap.size + 2]) (r : a'.heap[W.heap.size + 2]? = some (.cells #[.bool x'.stop, .int .i64 x'.dir, .int .i64 x'.move] 86 (0, 0))) : RD W p u d x' a' := by
  obtain ⟨⟨h0, h1, h2, h3⟩, hb, _⟩ := h
  have hn : W.heap.size ∉ [W.heap.size + 2] := by simp
  exact ⟨⟨h0.new k (by simp), k.cell h1 hn, k.cell h2 hn, k.cell h3 hn⟩, k.heap hb (by simp), r⟩
theorem RD.put0 {W : World} {p u d : Nat} {x : De} {a : World} (h : RD W p u d x a) (y : Bool) : RD W p u d ⟨y, x.dir, x.move⟩ (a.setCell ⟨W.heap.size + 2, 0, none⟩ (.bool y)) := h.turn (Fr.setCell a _ 0 _ (by simp)) (aput0 h.2.2 _)
theorem RD.put1 {W : World} {p u d : Nat} {x : De} {a : World} (h : RD W p u d x a) (y : Int) : RD W p u d ⟨x.stop, y, x.move⟩ (a.setCell ⟨W.heap.size + 2, 1, none⟩ (.int .i64 y)) := h.turn (Fr.setCell a _ 1 _ (by simp)) (aput1 h.2.2 _)
theorem RD.put2 {W : World} {p u d : Nat} {x : De} {a : World} (h : RD W p u d x a) (y : Int) : RD W p u d ⟨x.stop, x.dir, y⟩ (a.setCell ⟨W.heap.size + 2, 2, none⟩ (.int .i64 y)) := h.turn (Fr.setCell a _ 2 _ (by simp)) (aput2 h.2.2 _)
theorem RD.new (w : World) (T1 : TypeId) (p u d : Nat) : RD w p u d zDe (((w.alloc (.cells #[.int .u64 p, .int .u64 u, .int .u64 d] T1)).alloc (.cells #[.bool false, .int .i64 0, .int .i64 0] 86)).alloc (.cells #[.bool false, .int .i64 0, .int .i64 0] 86)) := by
  obtain ⟨h1, h2⟩ := DB.new w T1 86 p u d
  have a2 := heap_alloc_new ((w.alloc (.cells #[.int .u64 p, .int .u64 u, .int .u64 d] T1)).alloc (.cells #[.bool false, .int .i64 0, .int .i64 0] 86)) (.cells #[.bool false, .int .i64 0, .int .i64 0] 86)
  rw [show ((w.alloc (.cells #[.int .u64 p, .int .u64 u, .int .u64 d] T1)).alloc (.cells #[.bool false, .int .i64 0, .int .i64 0] 86)).heap.size = w.heap.size + 2 by simp] at a2
  exact ⟨h1.fr (Fr.alloc _ _ []), (Fr.alloc _ _ []).heap h2 (by simp), a2⟩

theorem rtow_any (s : Sp) (z e : Int) (w : World) (h : s.ok) (b : Bool) (hb : b = towB s.all z e) :
    Calls Tryz.prog 51 #[s.v, .int .i64 z, .int .i64 e] w fun x w' => x = .returned (.bool b) ∧ Fr w w' [] := by
  refine rtoward_any s z e w h b (fun k => ?_) (fun k => ?_) (fun k1 k2 => ?_)
  · rw [hb, towB, if_pos k]; exact upB_iff h.all z
  · rw [hb, towB, if_neg (by omega), if_pos k]; exact dnB_iff h.all z
  · rw [hb, towB, if_neg k1, if_neg k2]

set_option maxHeartbeats 8000000 in
set_option maxRecDepth 100000 in
theorem rdeed_any (s : Sp) (f e : Int) (w : World) (h : s.ok) (r : De) (hr : r = s.deed f e) :
    Calls Tryz.prog 33 #[s.v, .int .i64 f, .int .i64 e] w fun x w' => x = .returned r.v ∧ Fr w w' [] := by
  by_cases hin : 0 ≤ f ∧ f < 64 ∧ -1 ≤ e ∧ e ≤ 1
  · rw [deed_in hin] at hr
    obtain ⟨x, hx⟩ : ∃ x, x = s.head f e := ⟨_, rfl⟩
    obtain ⟨b3, h3⟩ : ∃ b, b = hasB s.c f := ⟨_, rfl⟩
    obtain ⟨b2, h2⟩ : ∃ b, b = s.hall f x := ⟨_, rfl⟩
    have hst : s.stop f e = (b3 || b2) := by rw [Sp.stop, ← hx, h3, h2]
    rw [hst, ← hx] at hr
    unfold Sp.head at hx
    have AT := Lib.hid (fun W => rat_any s f W h b3 h3)
    have HA := Lib.hid (fun W => rhall_any s f x W h b2 h2)
    obtain ⟨hu, g1⟩ : ∃ b, b = s.hall f 1 := ⟨_, rfl⟩
    obtain ⟨hd, g2⟩ : ∃ b, b = s.hall f (-1) := ⟨_, rfl⟩
    obtain ⟨n, g3⟩ : ∃ b, b = nearN s.all f := ⟨_, rfl⟩
    obtain ⟨t1, g4⟩ : ∃ b, b = towB s.all f e := ⟨_, rfl⟩
    obtain ⟨t2, g5⟩ : ∃ b, b = s.hall f e := ⟨_, rfl⟩
    obtain ⟨ne, g0⟩ : ∃ ne, ne = -e := ⟨_, rfl⟩
    rw [← g0] at hx
    obtain ⟨t3, g6⟩ : ∃ b, b = towB s.all f ne := ⟨_, rfl⟩
    obtain ⟨t4, g7⟩ : ∃ b, b = s.hall f ne := ⟨_, rfl⟩
    rw [← g1, ← g2, ← g3, ← g4, ← g5, ← g6, ← g7] at hx
    have HU := Lib.hid (fun W => rhall_any s f 1 W h hu g1)
    have HD := Lib.hid (fun W => rhall_any s f (-1) W h hd g2)
    have NE := Lib.hid (fun W => rnear_any s f W h n (by rw [g3]; exact nearN_is h.all f))
    have T1 := Lib.hid (fun W => rtow_any s f e W h t1 g4)
    have H1 := Lib.hid (fun W => rhall_any s f e W h t2 g5)
    have T2 := Lib.hid (fun W => rtow_any s f ne W h t3 g6)
    have H2 := Lib.hid (fun W => rhall_any s f ne W h t4 g7)
    have HR := Lib.hid hr
    have HX := Lib.hid hx
    have hwn : IntKind.i64.wrap (-e) = ne := by rw [g0]; exact IntWalk.i64_in _ (by omega)
    obtain ⟨f0, f1, e0, e1⟩ := hin
    obtain ⟨p, u, d⟩ := s
    have HD0 := Lib.hid (RD.new w 37 p u d)
    clear hx h2 h3 hst hr h g0 g1 g2 g3 g4 g5 g6 g7
    dsimp only [Sp.v, zDe] at *
    by_cases ez : e = 0
    · subst ez
      clear T1 H1 T2 H2 hwn e0 e1
      go_enter Tryz.func33, Tryz.ntmps33
      obtain ⟨⟨_, c0, c1, c2⟩, ⟨y0, y1, y2⟩, x0, x1, x2⟩ := HD0.out.cells
      go_wp2_with fail
      with_reducible refine (HU.out _).mono ?_
      rintro y w1 ⟨rfl, hf⟩
      have HD1 := Lib.hid (HD0.out.fr hf)
      clear hf
      clear c0 c1 c2 x0 x1 x2 y0 y1 y2
      cases hu with
      | true =>
        obtain rfl : x = 1 := by rw [HX.out]; rfl
        clear HX HU HD NE
        obtain ⟨⟨_, c0, c1, c2⟩, ⟨y0, y1, y2⟩, x0, x1, x2⟩ := HD1.out.cells
        have z1 := HD1.out.fz 1
        have HG := Lib.hid (HD1.out.put1 (1))
        dsimp only at HG
        go_upto_region 14 with fail
        clear z1
        clear c0 c1 c2 x0 x1 x2 y0 y1 y2
        generalize World.setCell _ _ _ = wp at *
        obtain ⟨⟨_, c0, c1, c2⟩, ⟨y0, y1, y2⟩, x0, x1, x2⟩ := HG.out.cells
        go_wp2_with fail
        with_reducible refine (AT.out _).mono ?_
        rintro y wt ⟨rfl, hf⟩
        have HA1 := Lib.hid (HG.out.fr hf)
        clear hf
        clear c0 c1 c2 x0 x1 x2 y0 y1 y2
        cases b3 with
        | true =>
          obtain ⟨⟨_, c0, c1, c2⟩, ⟨y0, y1, y2⟩, x0, x1, x2⟩ := HA1.out.cells
          have z0 := HA1.out.fz 0
          have HP := Lib.hid (HA1.out.put0 true)
          dsimp only at HP
          go_upto_region 15 with fail
          clear z0
          clear c0 c1 c2 x0 x1 x2 y0 y1 y2
          generalize World.setCell _ _ _ = wq at *
          have HV : Hid (r = ⟨true, 1, 0⟩) := by show _ = _; rw [HR.out]; rfl
          obtain ⟨_, ⟨y0, y1, y2⟩, _⟩ := HP.out.cells
          obtain ⟨x0, x1, x2⟩ := HP.out.cells.2.2
          have z := fun i => frozen_of_row _ _ i _ _ HP.out.2.1
          have z0 := z 0
          have z1 := z 1
          have z2 := z 2
          have AF := Lib.hid (HP.out.1.1.new (aset_fr _ (w.heap.size + 1) (.bool true) (.int .i64 1) (.int .i64 0)) (by simp))
          obtain ⟨v0, v1, v2⟩ := arow (aset HP.out.2.1 (.bool true) (.int .i64 1) (.int .i64 0))
          clear z
          go_wp2
          exact bodyPost_ret (v := .agg #[.bool true, .int .i64 1, .int .i64 0]) (by simp [results, Tryz.results33, go_sem, v0, v1, v2]) rfl ⟨by rw [HV.out], AF.out⟩
        | false =>
          obtain ⟨⟨_, c0, c1, c2⟩, ⟨y0, y1, y2⟩, x0, x1, x2⟩ := HA1.out.cells
          go_wp2_with fail
          with_reducible refine (HA.out _).mono ?_
          rintro y wu ⟨rfl, hf⟩
          have HA2 := Lib.hid (HA1.out.fr hf)
          clear hf
          clear c0 c1 c2 x0 x1 x2 y0 y1 y2
          cases b2 with
          | true =>
            obtain ⟨⟨_, c0, c1, c2⟩, ⟨y0, y1, y2⟩, x0, x1, x2⟩ := HA2.out.cells
            have z0 := HA2.out.fz 0
            have HP := Lib.hid (HA2.out.put0 true)
            dsimp only at HP
            go_upto_region 15 with fail
            clear z0
            clear c0 c1 c2 x0 x1 x2 y0 y1 y2
            generalize World.setCell _ _ _ = wq at *
            have HV : Hid (r = ⟨true, 1, 0⟩) := by show _ = _; rw [HR.out]; rfl
            obtain ⟨_, ⟨y0, y1, y2⟩, _⟩ := HP.out.cells
            obtain ⟨x0, x1, x2⟩ := HP.out.cells.2.2
            have z := fun i => frozen_of_row _ _ i _ _ HP.out.2.1
            have z0 := z 0
            have z1 := z 1
            have z2 := z 2
            have AF := Lib.hid (HP.out.1.1.new (aset_fr _ (w.heap.size + 1) (.bool true) (.int .i64 1) (.int .i64 0)) (by simp))
            obtain ⟨v0, v1, v2⟩ := arow (aset HP.out.2.1 (.bool true) (.int .i64 1) (.int .i64 0))
            clear z
            go_wp2
            exact bodyPost_ret (v := .agg #[.bool true, .int .i64 1, .int .i64 0]) (by simp [results, Tryz.results33, go_sem, v0, v1, v2]) rfl ⟨by rw [HV.out], AF.out⟩
          | false =>
            obtain ⟨⟨_, c0, c1, c2⟩, ⟨y0, y1, y2⟩, x0, x1, x2⟩ := HA2.out.cells
            have z0 := HA2.out.fz 0
            have HP := Lib.hid (HA2.out.put0 false)
            dsimp only at HP
            go_upto_region 15 with fail
            clear z0
            clear c0 c1 c2 x0 x1 x2 y0 y1 y2
            generalize World.setCell _ _ _ = wq at *
            obtain ⟨⟨_, c0, c1, c2⟩, ⟨y0, y1, y2⟩, x0, x1, x2⟩ := HP.out.cells
            have z2 := HP.out.fz 2
            have HP2 := Lib.hid (HP.out.put2 (1))
            dsimp only at HP2
            go_upto_region 17 with fail
            clear z2
            clear c0 c1 c2 x0 x1 x2 y0 y1 y2
            generalize World.setCell _ _ _ = wr at *
            have HV : Hid (r = ⟨false, 1, 1⟩) := by show _ = _; rw [HR.out]; rfl
            obtain ⟨_, ⟨y0, y1, y2⟩, _⟩ := HP2.out.cells
            obtain ⟨x0, x1, x2⟩ := HP2.out.cells.2.2
            have z := fun i => frozen_of_row _ _ i _ _ HP2.out.2.1
            have z0 := z 0
            have z1 := z 1
            have z2 := z 2
            have AF := Lib.hid (HP2.out.1.1.new (aset_fr _ (w.heap.size + 1) (.bool false) (.int .i64 1) (.int .i64 1)) (by simp))
            obtain ⟨v0, v1, v2⟩ := arow (aset HP2.out.2.1 (.bool false) (.int .i64 1) (.int .i64 1))
            clear z
            go_wp2
            exact bodyPost_ret (v := .agg #[.bool false, .int .i64 1, .int .i64 1]) (by simp [results, Tryz.results33, go_sem, v0, v1, v2]) rfl ⟨by rw [HV.out], AF.out⟩
      | false =>
        obtain ⟨⟨_, c0, c1, c2⟩, ⟨y0, y1, y2⟩, x0, x1, x2⟩ := HD1.out.cells
        go_wp2_with fail
        with_reducible refine (HD.out _).mono ?_
        rintro y w2 ⟨rfl, hf⟩
        have HD2 := Lib.hid (HD1.out.fr hf)
        clear hf
        clear c0 c1 c2 x0 x1 x2 y0 y1 y2
        cases hd with
        | true =>
          obtain rfl : x = -1 := by rw [HX.out]; rfl
          clear HX HU HD NE
          obtain ⟨⟨_, c0, c1, c2⟩, ⟨y0, y1, y2⟩, x0, x1, x2⟩ := HD2.out.cells
          have z1 := HD2.out.fz 1
          have HG := Lib.hid (HD2.out.put1 ((-1)))
          dsimp only at HG
          go_upto_region 14 with fail
          clear z1
          clear c0 c1 c2 x0 x1 x2 y0 y1 y2
          generalize World.setCell _ _ _ = wp at *
          obtain ⟨⟨_, c0, c1, c2⟩, ⟨y0, y1, y2⟩, x0, x1, x2⟩ := HG.out.cells
          go_wp2_with fail
          with_reducible refine (AT.out _).mono ?_
          rintro y wt ⟨rfl, hf⟩
          have HA1 := Lib.hid (HG.out.fr hf)
          clear hf
          clear c0 c1 c2 x0 x1 x2 y0 y1 y2
          cases b3 with
          | true =>
            obtain ⟨⟨_, c0, c1, c2⟩, ⟨y0, y1, y2⟩, x0, x1, x2⟩ := HA1.out.cells
            have z0 := HA1.out.fz 0
            have HP := Lib.hid (HA1.out.put0 true)
            dsimp only at HP
            go_upto_region 15 with fail
            clear z0
            clear c0 c1 c2 x0 x1 x2 y0 y1 y2
            generalize World.setCell _ _ _ = wq at *
            have HV : Hid (r = ⟨true, (-1), 0⟩) := by show _ = _; rw [HR.out]; rfl
            obtain ⟨_, ⟨y0, y1, y2⟩, _⟩ := HP.out.cells
            obtain ⟨x0, x1, x2⟩ := HP.out.cells.2.2
            have z := fun i => frozen_of_row _ _ i _ _ HP.out.2.1
            have z0 := z 0
            have z1 := z 1
            have z2 := z 2
            have AF := Lib.hid (HP.out.1.1.new (aset_fr _ (w.heap.size + 1) (.bool true) (.int .i64 (-1)) (.int .i64 0)) (by simp))
            obtain ⟨v0, v1, v2⟩ := arow (aset HP.out.2.1 (.bool true) (.int .i64 (-1)) (.int .i64 0))
            clear z
            go_wp2
            exact bodyPost_ret (v := .agg #[.bool true, .int .i64 (-1), .int .i64 0]) (by simp [results, Tryz.results33, go_sem, v0, v1, v2]) rfl ⟨by rw [HV.out], AF.out⟩
          | false =>
            obtain ⟨⟨_, c0, c1, c2⟩, ⟨y0, y1, y2⟩, x0, x1, x2⟩ := HA1.out.cells
            go_wp2_with fail
            with_reducible refine (HA.out _).mono ?_
            rintro y wu ⟨rfl, hf⟩
            have HA2 := Lib.hid (HA1.out.fr hf)
            clear hf
            clear c0 c1 c2 x0 x1 x2 y0 y1 y2
            cases b2 with
            | true =>
              obtain ⟨⟨_, c0, c1, c2⟩, ⟨y0, y1, y2⟩, x0, x1, x2⟩ := HA2.out.cells
              have z0 := HA2.out.fz 0
              have HP := Lib.hid (HA2.out.put0 true)
              dsimp only at HP
              go_upto_region 15 with fail
              clear z0
              clear c0 c1 c2 x0 x1 x2 y0 y1 y2
              generalize World.setCell _ _ _ = wq at *
              have HV : Hid (r = ⟨true, (-1), 0⟩) := by show _ = _; rw [HR.out]; rfl
              obtain ⟨_, ⟨y0, y1, y2⟩, _⟩ := HP.out.cells
              obtain ⟨x0, x1, x2⟩ := HP.out.cells.2.2
              have z := fun i => frozen_of_row _ _ i _ _ HP.out.2.1
              have z0 := z 0
              have z1 := z 1
              have z2 := z 2
              have AF := Lib.hid (HP.out.1.1.new (aset_fr _ (w.heap.size + 1) (.bool true) (.int .i64 (-1)) (.int .i64 0)) (by simp))
              obtain ⟨v0, v1, v2⟩ := arow (aset HP.out.2.1 (.bool true) (.int .i64 (-1)) (.int .i64 0))
              clear z
              go_wp2
              exact bodyPost_ret (v := .agg #[.bool true, .int .i64 (-1), .int .i64 0]) (by simp [results, Tryz.results33, go_sem, v0, v1, v2]) rfl ⟨by rw [HV.out], AF.out⟩
            | false =>
              obtain ⟨⟨_, c0, c1, c2⟩, ⟨y0, y1, y2⟩, x0, x1, x2⟩ := HA2.out.cells
              have z0 := HA2.out.fz 0
              have HP := Lib.hid (HA2.out.put0 false)
              dsimp only at HP
              go_upto_region 15 with fail
              clear z0
              clear c0 c1 c2 x0 x1 x2 y0 y1 y2
              generalize World.setCell _ _ _ = wq at *
              obtain ⟨⟨_, c0, c1, c2⟩, ⟨y0, y1, y2⟩, x0, x1, x2⟩ := HP.out.cells
              have z2 := HP.out.fz 2
              have HP2 := Lib.hid (HP.out.put2 ((-1)))
              dsimp only at HP2
              go_upto_region 17 with fail
              clear z2
              clear c0 c1 c2 x0 x1 x2 y0 y1 y2
              generalize World.setCell _ _ _ = wr at *
              have HV : Hid (r = ⟨false, (-1), (-1)⟩) := by show _ = _; rw [HR.out]; rfl
              obtain ⟨_, ⟨y0, y1, y2⟩, _⟩ := HP2.out.cells
              obtain ⟨x0, x1, x2⟩ := HP2.out.cells.2.2
              have z := fun i => frozen_of_row _ _ i _ _ HP2.out.2.1
              have z0 := z 0
              have z1 := z 1
              have z2 := z 2
              have AF := Lib.hid (HP2.out.1.1.new (aset_fr _ (w.heap.size + 1) (.bool false) (.int .i64 (-1)) (.int .i64 (-1))) (by simp))
              obtain ⟨v0, v1, v2⟩ := arow (aset HP2.out.2.1 (.bool false) (.int .i64 (-1)) (.int .i64 (-1)))
              clear z
              go_wp2
              exact bodyPost_ret (v := .agg #[.bool false, .int .i64 (-1), .int .i64 (-1)]) (by simp [results, Tryz.results33, go_sem, v0, v1, v2]) rfl ⟨by rw [HV.out], AF.out⟩
        | false =>
          obtain rfl : x = n := by rw [HX.out]; rfl
          clear HX HU HD
          obtain ⟨⟨_, c0, c1, c2⟩, ⟨y0, y1, y2⟩, x0, x1, x2⟩ := HD2.out.cells
          go_wp2_with fail
          with_reducible refine (NE.out _).mono ?_
          rintro y w3 ⟨rfl, hf⟩
          have HD3 := Lib.hid (HD2.out.fr hf)
          clear hf NE
          clear c0 c1 c2 x0 x1 x2 y0 y1 y2
          obtain ⟨⟨_, c0, c1, c2⟩, ⟨y0, y1, y2⟩, x0, x1, x2⟩ := HD3.out.cells
          have z1 := HD3.out.fz 1
          have HG := Lib.hid (HD3.out.put1 (x))
          dsimp only at HG
          go_upto_region 14 with fail
          clear z1
          clear c0 c1 c2 x0 x1 x2 y0 y1 y2
          generalize World.setCell _ _ _ = wp at *
          obtain ⟨⟨_, c0, c1, c2⟩, ⟨y0, y1, y2⟩, x0, x1, x2⟩ := HG.out.cells
          go_wp2_with fail
          with_reducible refine (AT.out _).mono ?_
          rintro y wt ⟨rfl, hf⟩
          have HA1 := Lib.hid (HG.out.fr hf)
          clear hf
          clear c0 c1 c2 x0 x1 x2 y0 y1 y2
          cases b3 with
          | true =>
            obtain ⟨⟨_, c0, c1, c2⟩, ⟨y0, y1, y2⟩, x0, x1, x2⟩ := HA1.out.cells
            have z0 := HA1.out.fz 0
            have HP := Lib.hid (HA1.out.put0 true)
            dsimp only at HP
            go_upto_region 15 with fail
            clear z0
            clear c0 c1 c2 x0 x1 x2 y0 y1 y2
            generalize World.setCell _ _ _ = wq at *
            have HV : Hid (r = ⟨true, x, 0⟩) := by show _ = _; rw [HR.out]; rfl
            obtain ⟨_, ⟨y0, y1, y2⟩, _⟩ := HP.out.cells
            obtain ⟨x0, x1, x2⟩ := HP.out.cells.2.2
            have z := fun i => frozen_of_row _ _ i _ _ HP.out.2.1
            have z0 := z 0
            have z1 := z 1
            have z2 := z 2
            have AF := Lib.hid (HP.out.1.1.new (aset_fr _ (w.heap.size + 1) (.bool true) (.int .i64 x) (.int .i64 0)) (by simp))
            obtain ⟨v0, v1, v2⟩ := arow (aset HP.out.2.1 (.bool true) (.int .i64 x) (.int .i64 0))
            clear z
            go_wp2
            exact bodyPost_ret (v := .agg #[.bool true, .int .i64 x, .int .i64 0]) (by simp [results, Tryz.results33, go_sem, v0, v1, v2]) rfl ⟨by rw [HV.out], AF.out⟩
          | false =>
            obtain ⟨⟨_, c0, c1, c2⟩, ⟨y0, y1, y2⟩, x0, x1, x2⟩ := HA1.out.cells
            go_wp2_with fail
            with_reducible refine (HA.out _).mono ?_
            rintro y wu ⟨rfl, hf⟩
            have HA2 := Lib.hid (HA1.out.fr hf)
            clear hf
            clear c0 c1 c2 x0 x1 x2 y0 y1 y2
            cases b2 with
            | true =>
              obtain ⟨⟨_, c0, c1, c2⟩, ⟨y0, y1, y2⟩, x0, x1, x2⟩ := HA2.out.cells
              have z0 := HA2.out.fz 0
              have HP := Lib.hid (HA2.out.put0 true)
              dsimp only at HP
              go_upto_region 15 with fail
              clear z0
              clear c0 c1 c2 x0 x1 x2 y0 y1 y2
              generalize World.setCell _ _ _ = wq at *
              have HV : Hid (r = ⟨true, x, 0⟩) := by show _ = _; rw [HR.out]; rfl
              obtain ⟨_, ⟨y0, y1, y2⟩, _⟩ := HP.out.cells
              obtain ⟨x0, x1, x2⟩ := HP.out.cells.2.2
              have z := fun i => frozen_of_row _ _ i _ _ HP.out.2.1
              have z0 := z 0
              have z1 := z 1
              have z2 := z 2
              have AF := Lib.hid (HP.out.1.1.new (aset_fr _ (w.heap.size + 1) (.bool true) (.int .i64 x) (.int .i64 0)) (by simp))
              obtain ⟨v0, v1, v2⟩ := arow (aset HP.out.2.1 (.bool true) (.int .i64 x) (.int .i64 0))
              clear z
              go_wp2
              exact bodyPost_ret (v := .agg #[.bool true, .int .i64 x, .int .i64 0]) (by simp [results, Tryz.results33, go_sem, v0, v1, v2]) rfl ⟨by rw [HV.out], AF.out⟩
            | false =>
              obtain ⟨⟨_, c0, c1, c2⟩, ⟨y0, y1, y2⟩, x0, x1, x2⟩ := HA2.out.cells
              have z0 := HA2.out.fz 0
              have HP := Lib.hid (HA2.out.put0 false)
              dsimp only at HP
              go_upto_region 15 with fail
              clear z0
              clear c0 c1 c2 x0 x1 x2 y0 y1 y2
              generalize World.setCell _ _ _ = wq at *
              obtain ⟨⟨_, c0, c1, c2⟩, ⟨y0, y1, y2⟩, x0, x1, x2⟩ := HP.out.cells
              have z2 := HP.out.fz 2
              have HP2 := Lib.hid (HP.out.put2 (x))
              dsimp only at HP2
              go_upto_region 17 with fail
              clear z2
              clear c0 c1 c2 x0 x1 x2 y0 y1 y2
              generalize World.setCell _ _ _ = wr at *
              have HV : Hid (r = ⟨false, x, x⟩) := by show _ = _; rw [HR.out]; rfl
              obtain ⟨_, ⟨y0, y1, y2⟩, _⟩ := HP2.out.cells
              obtain ⟨x0, x1, x2⟩ := HP2.out.cells.2.2
              have z := fun i => frozen_of_row _ _ i _ _ HP2.out.2.1
              have z0 := z 0
              have z1 := z 1
              have z2 := z 2
              have AF := Lib.hid (HP2.out.1.1.new (aset_fr _ (w.heap.size + 1) (.bool false) (.int .i64 x) (.int .i64 x)) (by simp))
              obtain ⟨v0, v1, v2⟩ := arow (aset HP2.out.2.1 (.bool false) (.int .i64 x) (.int .i64 x))
              clear z
              go_wp2
              exact bodyPost_ret (v := .agg #[.bool false, .int .i64 x, .int .i64 x]) (by simp [results, Tryz.results33, go_sem, v0, v1, v2]) rfl ⟨by rw [HV.out], AF.out⟩
    · have k0 : (e == 0) = false := by simp [ez]
      have HX := Lib.hid (HX.out.trans (if_neg ez))
      clear ez HU HD NE
      go_enter Tryz.func33, Tryz.ntmps33
      obtain ⟨⟨_, c0, c1, c2⟩, ⟨y0, y1, y2⟩, x0, x1, x2⟩ := HD0.out.cells
      go_wp2_with fail
      with_reducible refine (T1.out _).mono ?_
      rintro y w1 ⟨rfl, hf⟩
      have HD1 := Lib.hid (HD0.out.fr hf)
      clear hf
      clear c0 c1 c2 x0 x1 x2 y0 y1 y2
      cases t1 with
      | true =>
        obtain rfl : x = e := by rw [HX.out]; rfl
        clear HX
        obtain ⟨⟨_, c0, c1, c2⟩, ⟨y0, y1, y2⟩, x0, x1, x2⟩ := HD1.out.cells
        have z1 := HD1.out.fz 1
        have HG := Lib.hid (HD1.out.put1 (x))
        dsimp only at HG
        go_upto_region 14 with fail
        clear z1
        clear c0 c1 c2 x0 x1 x2 y0 y1 y2
        generalize World.setCell _ _ _ = wp at *
        obtain ⟨⟨_, c0, c1, c2⟩, ⟨y0, y1, y2⟩, x0, x1, x2⟩ := HG.out.cells
        go_wp2_with fail
        with_reducible refine (AT.out _).mono ?_
        rintro y wt ⟨rfl, hf⟩
        have HA1 := Lib.hid (HG.out.fr hf)
        clear hf
        clear c0 c1 c2 x0 x1 x2 y0 y1 y2
        cases b3 with
        | true =>
          obtain ⟨⟨_, c0, c1, c2⟩, ⟨y0, y1, y2⟩, x0, x1, x2⟩ := HA1.out.cells
          have z0 := HA1.out.fz 0
          have HP := Lib.hid (HA1.out.put0 true)
          dsimp only at HP
          go_upto_region 15 with fail
          clear z0
          clear c0 c1 c2 x0 x1 x2 y0 y1 y2
          generalize World.setCell _ _ _ = wq at *
          have HV : Hid (r = ⟨true, x, 0⟩) := by show _ = _; rw [HR.out]; rfl
          obtain ⟨_, ⟨y0, y1, y2⟩, _⟩ := HP.out.cells
          obtain ⟨x0, x1, x2⟩ := HP.out.cells.2.2
          have z := fun i => frozen_of_row _ _ i _ _ HP.out.2.1
          have z0 := z 0
          have z1 := z 1
          have z2 := z 2
          have AF := Lib.hid (HP.out.1.1.new (aset_fr _ (w.heap.size + 1) (.bool true) (.int .i64 x) (.int .i64 0)) (by simp))
          obtain ⟨v0, v1, v2⟩ := arow (aset HP.out.2.1 (.bool true) (.int .i64 x) (.int .i64 0))
          clear z
          go_wp2
          exact bodyPost_ret (v := .agg #[.bool true, .int .i64 x, .int .i64 0]) (by simp [results, Tryz.results33, go_sem, v0, v1, v2]) rfl ⟨by rw [HV.out], AF.out⟩
        | false =>
          obtain ⟨⟨_, c0, c1, c2⟩, ⟨y0, y1, y2⟩, x0, x1, x2⟩ := HA1.out.cells
          go_wp2_with fail
          with_reducible refine (HA.out _).mono ?_
          rintro y wu ⟨rfl, hf⟩
          have HA2 := Lib.hid (HA1.out.fr hf)
          clear hf
          clear c0 c1 c2 x0 x1 x2 y0 y1 y2
          cases b2 with
          | true =>
            obtain ⟨⟨_, c0, c1, c2⟩, ⟨y0, y1, y2⟩, x0, x1, x2⟩ := HA2.out.cells
            have z0 := HA2.out.fz 0
            have HP := Lib.hid (HA2.out.put0 true)
            dsimp only at HP
            go_upto_region 15 with fail
            clear z0
            clear c0 c1 c2 x0 x1 x2 y0 y1 y2
            generalize World.setCell _ _ _ = wq at *
            have HV : Hid (r = ⟨true, x, 0⟩) := by show _ = _; rw [HR.out]; rfl
            obtain ⟨_, ⟨y0, y1, y2⟩, _⟩ := HP.out.cells
            obtain ⟨x0, x1, x2⟩ := HP.out.cells.2.2
            have z := fun i => frozen_of_row _ _ i _ _ HP.out.2.1
            have z0 := z 0
            have z1 := z 1
            have z2 := z 2
            have AF := Lib.hid (HP.out.1.1.new (aset_fr _ (w.heap.size + 1) (.bool true) (.int .i64 x) (.int .i64 0)) (by simp))
            obtain ⟨v0, v1, v2⟩ := arow (aset HP.out.2.1 (.bool true) (.int .i64 x) (.int .i64 0))
            clear z
            go_wp2
            exact bodyPost_ret (v := .agg #[.bool true, .int .i64 x, .int .i64 0]) (by simp [results, Tryz.results33, go_sem, v0, v1, v2]) rfl ⟨by rw [HV.out], AF.out⟩
          | false =>
            obtain ⟨⟨_, c0, c1, c2⟩, ⟨y0, y1, y2⟩, x0, x1, x2⟩ := HA2.out.cells
            have z0 := HA2.out.fz 0
            have HP := Lib.hid (HA2.out.put0 false)
            dsimp only at HP
            go_upto_region 15 with fail
            clear z0
            clear c0 c1 c2 x0 x1 x2 y0 y1 y2
            generalize World.setCell _ _ _ = wq at *
            obtain ⟨⟨_, c0, c1, c2⟩, ⟨y0, y1, y2⟩, x0, x1, x2⟩ := HP.out.cells
            have z2 := HP.out.fz 2
            have HP2 := Lib.hid (HP.out.put2 (x))
            dsimp only at HP2
            go_upto_region 17 with fail
            clear z2
            clear c0 c1 c2 x0 x1 x2 y0 y1 y2
            generalize World.setCell _ _ _ = wr at *
            have HV : Hid (r = ⟨false, x, x⟩) := by show _ = _; rw [HR.out]; rfl
            obtain ⟨_, ⟨y0, y1, y2⟩, _⟩ := HP2.out.cells
            obtain ⟨x0, x1, x2⟩ := HP2.out.cells.2.2
            have z := fun i => frozen_of_row _ _ i _ _ HP2.out.2.1
            have z0 := z 0
            have z1 := z 1
            have z2 := z 2
            have AF := Lib.hid (HP2.out.1.1.new (aset_fr _ (w.heap.size + 1) (.bool false) (.int .i64 x) (.int .i64 x)) (by simp))
            obtain ⟨v0, v1, v2⟩ := arow (aset HP2.out.2.1 (.bool false) (.int .i64 x) (.int .i64 x))
            clear z
            go_wp2
            exact bodyPost_ret (v := .agg #[.bool false, .int .i64 x, .int .i64 x]) (by simp [results, Tryz.results33, go_sem, v0, v1, v2]) rfl ⟨by rw [HV.out], AF.out⟩
      | false =>
        obtain ⟨⟨_, c0, c1, c2⟩, ⟨y0, y1, y2⟩, x0, x1, x2⟩ := HD1.out.cells
        go_wp2_with fail
        with_reducible refine (H1.out _).mono ?_
        rintro y w2 ⟨rfl, hf⟩
        have HD2 := Lib.hid (HD1.out.fr hf)
        clear hf
        clear c0 c1 c2 x0 x1 x2 y0 y1 y2
        cases t2 with
        | true =>
          obtain rfl : x = e := by rw [HX.out]; rfl
          clear HX
          obtain ⟨⟨_, c0, c1, c2⟩, ⟨y0, y1, y2⟩, x0, x1, x2⟩ := HD2.out.cells
          have z1 := HD2.out.fz 1
          have HG := Lib.hid (HD2.out.put1 (x))
          dsimp only at HG
          go_upto_region 14 with fail
          clear z1
          clear c0 c1 c2 x0 x1 x2 y0 y1 y2
          generalize World.setCell _ _ _ = wp at *
          obtain ⟨⟨_, c0, c1, c2⟩, ⟨y0, y1, y2⟩, x0, x1, x2⟩ := HG.out.cells
          go_wp2_with fail
          with_reducible refine (AT.out _).mono ?_
          rintro y wt ⟨rfl, hf⟩
          have HA1 := Lib.hid (HG.out.fr hf)
          clear hf
          clear c0 c1 c2 x0 x1 x2 y0 y1 y2
          cases b3 with
          | true =>
            obtain ⟨⟨_, c0, c1, c2⟩, ⟨y0, y1, y2⟩, x0, x1, x2⟩ := HA1.out.cells
            have z0 := HA1.out.fz 0
            have HP := Lib.hid (HA1.out.put0 true)
            dsimp only at HP
            go_upto_region 15 with fail
            clear z0
            clear c0 c1 c2 x0 x1 x2 y0 y1 y2
            generalize World.setCell _ _ _ = wq at *
            have HV : Hid (r = ⟨true, x, 0⟩) := by show _ = _; rw [HR.out]; rfl
            obtain ⟨_, ⟨y0, y1, y2⟩, _⟩ := HP.out.cells
            obtain ⟨x0, x1, x2⟩ := HP.out.cells.2.2
            have z := fun i => frozen_of_row _ _ i _ _ HP.out.2.1
            have z0 := z 0
            have z1 := z 1
            have z2 := z 2
            have AF := Lib.hid (HP.out.1.1.new (aset_fr _ (w.heap.size + 1) (.bool true) (.int .i64 x) (.int .i64 0)) (by simp))
            obtain ⟨v0, v1, v2⟩ := arow (aset HP.out.2.1 (.bool true) (.int .i64 x) (.int .i64 0))
            clear z
            go_wp2
            exact bodyPost_ret (v := .agg #[.bool true, .int .i64 x, .int .i64 0]) (by simp [results, Tryz.results33, go_sem, v0, v1, v2]) rfl ⟨by rw [HV.out], AF.out⟩
          | false =>
            obtain ⟨⟨_, c0, c1, c2⟩, ⟨y0, y1, y2⟩, x0, x1, x2⟩ := HA1.out.cells
            go_wp2_with fail
            with_reducible refine (HA.out _).mono ?_
            rintro y wu ⟨rfl, hf⟩
            have HA2 := Lib.hid (HA1.out.fr hf)
            clear hf
            clear c0 c1 c2 x0 x1 x2 y0 y1 y2
            cases b2 with
            | true =>
              obtain ⟨⟨_, c0, c1, c2⟩, ⟨y0, y1, y2⟩, x0, x1, x2⟩ := HA2.out.cells
              have z0 := HA2.out.fz 0
              have HP := Lib.hid (HA2.out.put0 true)
              dsimp only at HP
              go_upto_region 15 with fail
              clear z0
              clear c0 c1 c2 x0 x1 x2 y0 y1 y2
              generalize World.setCell _ _ _ = wq at *
              have HV : Hid (r = ⟨true, x, 0⟩) := by show _ = _; rw [HR.out]; rfl
              obtain ⟨_, ⟨y0, y1, y2⟩, _⟩ := HP.out.cells
              obtain ⟨x0, x1, x2⟩ := HP.out.cells.2.2
              have z := fun i => frozen_of_row _ _ i _ _ HP.out.2.1
              have z0 := z 0
              have z1 := z 1
              have z2 := z 2
              have AF := Lib.hid (HP.out.1.1.new (aset_fr _ (w.heap.size + 1) (.bool true) (.int .i64 x) (.int .i64 0)) (by simp))
              obtain ⟨v0, v1, v2⟩ := arow (aset HP.out.2.1 (.bool true) (.int .i64 x) (.int .i64 0))
              clear z
              go_wp2
              exact bodyPost_ret (v := .agg #[.bool true, .int .i64 x, .int .i64 0]) (by simp [results, Tryz.results33, go_sem, v0, v1, v2]) rfl ⟨by rw [HV.out], AF.out⟩
            | false =>
              obtain ⟨⟨_, c0, c1, c2⟩, ⟨y0, y1, y2⟩, x0, x1, x2⟩ := HA2.out.cells
              have z0 := HA2.out.fz 0
              have HP := Lib.hid (HA2.out.put0 false)
              dsimp only at HP
              go_upto_region 15 with fail
              clear z0
              clear c0 c1 c2 x0 x1 x2 y0 y1 y2
              generalize World.setCell _ _ _ = wq at *
              obtain ⟨⟨_, c0, c1, c2⟩, ⟨y0, y1, y2⟩, x0, x1, x2⟩ := HP.out.cells
              have z2 := HP.out.fz 2
              have HP2 := Lib.hid (HP.out.put2 (x))
              dsimp only at HP2
              go_upto_region 17 with fail
              clear z2
              clear c0 c1 c2 x0 x1 x2 y0 y1 y2
              generalize World.setCell _ _ _ = wr at *
              have HV : Hid (r = ⟨false, x, x⟩) := by show _ = _; rw [HR.out]; rfl
              obtain ⟨_, ⟨y0, y1, y2⟩, _⟩ := HP2.out.cells
              obtain ⟨x0, x1, x2⟩ := HP2.out.cells.2.2
              have z := fun i => frozen_of_row _ _ i _ _ HP2.out.2.1
              have z0 := z 0
              have z1 := z 1
              have z2 := z 2
              have AF := Lib.hid (HP2.out.1.1.new (aset_fr _ (w.heap.size + 1) (.bool false) (.int .i64 x) (.int .i64 x)) (by simp))
              obtain ⟨v0, v1, v2⟩ := arow (aset HP2.out.2.1 (.bool false) (.int .i64 x) (.int .i64 x))
              clear z
              go_wp2
              exact bodyPost_ret (v := .agg #[.bool false, .int .i64 x, .int .i64 x]) (by simp [results, Tryz.results33, go_sem, v0, v1, v2]) rfl ⟨by rw [HV.out], AF.out⟩
        | false =>
          obtain ⟨⟨_, c0, c1, c2⟩, ⟨y0, y1, y2⟩, x0, x1, x2⟩ := HD2.out.cells
          go_wp2_with fail
          with_reducible refine (T2.out _).mono ?_
          rintro y w3 ⟨rfl, hf⟩
          have HD3 := Lib.hid (HD2.out.fr hf)
          clear hf
          clear c0 c1 c2 x0 x1 x2 y0 y1 y2
          cases t3 with
          | true =>
            obtain rfl : x = ne := by rw [HX.out]; rfl
            clear HX
            obtain ⟨⟨_, c0, c1, c2⟩, ⟨y0, y1, y2⟩, x0, x1, x2⟩ := HD3.out.cells
            have z1 := HD3.out.fz 1
            have HG := Lib.hid (HD3.out.put1 (x))
            dsimp only at HG
            go_upto_region 14 with fail
            clear z1
            clear c0 c1 c2 x0 x1 x2 y0 y1 y2
            generalize World.setCell _ _ _ = wp at *
            obtain ⟨⟨_, c0, c1, c2⟩, ⟨y0, y1, y2⟩, x0, x1, x2⟩ := HG.out.cells
            go_wp2_with fail
            with_reducible refine (AT.out _).mono ?_
            rintro y wt ⟨rfl, hf⟩
            have HA1 := Lib.hid (HG.out.fr hf)
            clear hf
            clear c0 c1 c2 x0 x1 x2 y0 y1 y2
            cases b3 with
            | true =>
              obtain ⟨⟨_, c0, c1, c2⟩, ⟨y0, y1, y2⟩, x0, x1, x2⟩ := HA1.out.cells
              have z0 := HA1.out.fz 0
              have HP := Lib.hid (HA1.out.put0 true)
              dsimp only at HP
              go_upto_region 15 with fail
              clear z0
              clear c0 c1 c2 x0 x1 x2 y0 y1 y2
              generalize World.setCell _ _ _ = wq at *
              have HV : Hid (r = ⟨true, x, 0⟩) := by show _ = _; rw [HR.out]; rfl
              obtain ⟨_, ⟨y0, y1, y2⟩, _⟩ := HP.out.cells
              obtain ⟨x0, x1, x2⟩ := HP.out.cells.2.2
              have z := fun i => frozen_of_row _ _ i _ _ HP.out.2.1
              have z0 := z 0
              have z1 := z 1
              have z2 := z 2
              have AF := Lib.hid (HP.out.1.1.new (aset_fr _ (w.heap.size + 1) (.bool true) (.int .i64 x) (.int .i64 0)) (by simp))
              obtain ⟨v0, v1, v2⟩ := arow (aset HP.out.2.1 (.bool true) (.int .i64 x) (.int .i64 0))
              clear z
              go_wp2
              exact bodyPost_ret (v := .agg #[.bool true, .int .i64 x, .int .i64 0]) (by simp [results, Tryz.results33, go_sem, v0, v1, v2]) rfl ⟨by rw [HV.out], AF.out⟩
            | false =>
              obtain ⟨⟨_, c0, c1, c2⟩, ⟨y0, y1, y2⟩, x0, x1, x2⟩ := HA1.out.cells
              go_wp2_with fail
              with_reducible refine (HA.out _).mono ?_
              rintro y wu ⟨rfl, hf⟩
              have HA2 := Lib.hid (HA1.out.fr hf)
              clear hf
              clear c0 c1 c2 x0 x1 x2 y0 y1 y2
              cases b2 with
              | true =>
                obtain ⟨⟨_, c0, c1, c2⟩, ⟨y0, y1, y2⟩, x0, x1, x2⟩ := HA2.out.cells
                have z0 := HA2.out.fz 0
                have HP := Lib.hid (HA2.out.put0 true)
                dsimp only at HP
                go_upto_region 15 with fail
                clear z0
                clear c0 c1 c2 x0 x1 x2 y0 y1 y2
                generalize World.setCell _ _ _ = wq at *
                have HV : Hid (r = ⟨true, x, 0⟩) := by show _ = _; rw [HR.out]; rfl
                obtain ⟨_, ⟨y0, y1, y2⟩, _⟩ := HP.out.cells
                obtain ⟨x0, x1, x2⟩ := HP.out.cells.2.2
                have z := fun i => frozen_of_row _ _ i _ _ HP.out.2.1
                have z0 := z 0
                have z1 := z 1
                have z2 := z 2
                have AF := Lib.hid (HP.out.1.1.new (aset_fr _ (w.heap.size + 1) (.bool true) (.int .i64 x) (.int .i64 0)) (by simp))
                obtain ⟨v0, v1, v2⟩ := arow (aset HP.out.2.1 (.bool true) (.int .i64 x) (.int .i64 0))
                clear z
                go_wp2
                exact bodyPost_ret (v := .agg #[.bool true, .int .i64 x, .int .i64 0]) (by simp [results, Tryz.results33, go_sem, v0, v1, v2]) rfl ⟨by rw [HV.out], AF.out⟩
              | false =>
                obtain ⟨⟨_, c0, c1, c2⟩, ⟨y0, y1, y2⟩, x0, x1, x2⟩ := HA2.out.cells
                have z0 := HA2.out.fz 0
                have HP := Lib.hid (HA2.out.put0 false)
                dsimp only at HP
                go_upto_region 15 with fail
                clear z0
                clear c0 c1 c2 x0 x1 x2 y0 y1 y2
                generalize World.setCell _ _ _ = wq at *
                obtain ⟨⟨_, c0, c1, c2⟩, ⟨y0, y1, y2⟩, x0, x1, x2⟩ := HP.out.cells
                have z2 := HP.out.fz 2
                have HP2 := Lib.hid (HP.out.put2 (x))
                dsimp only at HP2
                go_upto_region 17 with fail
                clear z2
                clear c0 c1 c2 x0 x1 x2 y0 y1 y2
                generalize World.setCell _ _ _ = wr at *
                have HV : Hid (r = ⟨false, x, x⟩) := by show _ = _; rw [HR.out]; rfl
                obtain ⟨_, ⟨y0, y1, y2⟩, _⟩ := HP2.out.cells
                obtain ⟨x0, x1, x2⟩ := HP2.out.cells.2.2
                have z := fun i => frozen_of_row _ _ i _ _ HP2.out.2.1
                have z0 := z 0
                have z1 := z 1
                have z2 := z 2
                have AF := Lib.hid (HP2.out.1.1.new (aset_fr _ (w.heap.size + 1) (.bool false) (.int .i64 x) (.int .i64 x)) (by simp))
                obtain ⟨v0, v1, v2⟩ := arow (aset HP2.out.2.1 (.bool false) (.int .i64 x) (.int .i64 x))
                clear z
                go_wp2
                exact bodyPost_ret (v := .agg #[.bool false, .int .i64 x, .int .i64 x]) (by simp [results, Tryz.results33, go_sem, v0, v1, v2]) rfl ⟨by rw [HV.out], AF.out⟩
          | false =>
            obtain ⟨⟨_, c0, c1, c2⟩, ⟨y0, y1, y2⟩, x0, x1, x2⟩ := HD3.out.cells
            go_wp2_with fail
            with_reducible refine (H2.out _).mono ?_
            rintro y w4 ⟨rfl, hf⟩
            have HD4 := Lib.hid (HD3.out.fr hf)
            clear hf
            clear c0 c1 c2 x0 x1 x2 y0 y1 y2
            cases t4 with
            | true =>
              obtain rfl : x = ne := by rw [HX.out]; rfl
              clear HX
              obtain ⟨⟨_, c0, c1, c2⟩, ⟨y0, y1, y2⟩, x0, x1, x2⟩ := HD4.out.cells
              have z1 := HD4.out.fz 1
              have HG := Lib.hid (HD4.out.put1 (x))
              dsimp only at HG
              go_upto_region 14 with fail
              clear z1
              clear c0 c1 c2 x0 x1 x2 y0 y1 y2
              generalize World.setCell _ _ _ = wp at *
              obtain ⟨⟨_, c0, c1, c2⟩, ⟨y0, y1, y2⟩, x0, x1, x2⟩ := HG.out.cells
              go_wp2_with fail
              with_reducible refine (AT.out _).mono ?_
              rintro y wt ⟨rfl, hf⟩
              have HA1 := Lib.hid (HG.out.fr hf)
              clear hf
              clear c0 c1 c2 x0 x1 x2 y0 y1 y2
              cases b3 with
              | true =>
                obtain ⟨⟨_, c0, c1, c2⟩, ⟨y0, y1, y2⟩, x0, x1, x2⟩ := HA1.out.cells
                have z0 := HA1.out.fz 0
                have HP := Lib.hid (HA1.out.put0 true)
                dsimp only at HP
                go_upto_region 15 with fail
                clear z0
                clear c0 c1 c2 x0 x1 x2 y0 y1 y2
                generalize World.setCell _ _ _ = wq at *
                have HV : Hid (r = ⟨true, x, 0⟩) := by show _ = _; rw [HR.out]; rfl
                obtain ⟨_, ⟨y0, y1, y2⟩, _⟩ := HP.out.cells
                obtain ⟨x0, x1, x2⟩ := HP.out.cells.2.2
                have z := fun i => frozen_of_row _ _ i _ _ HP.out.2.1
                have z0 := z 0
                have z1 := z 1
                have z2 := z 2
                have AF := Lib.hid (HP.out.1.1.new (aset_fr _ (w.heap.size + 1) (.bool true) (.int .i64 x) (.int .i64 0)) (by simp))
                obtain ⟨v0, v1, v2⟩ := arow (aset HP.out.2.1 (.bool true) (.int .i64 x) (.int .i64 0))
                clear z
                go_wp2
                exact bodyPost_ret (v := .agg #[.bool true, .int .i64 x, .int .i64 0]) (by simp [results, Tryz.results33, go_sem, v0, v1, v2]) rfl ⟨by rw [HV.out], AF.out⟩
              | false =>
                obtain ⟨⟨_, c0, c1, c2⟩, ⟨y0, y1, y2⟩, x0, x1, x2⟩ := HA1.out.cells
                go_wp2_with fail
                with_reducible refine (HA.out _).mono ?_
                rintro y wu ⟨rfl, hf⟩
                have HA2 := Lib.hid (HA1.out.fr hf)
                clear hf
                clear c0 c1 c2 x0 x1 x2 y0 y1 y2
                cases b2 with
                | true =>
                  obtain ⟨⟨_, c0, c1, c2⟩, ⟨y0, y1, y2⟩, x0, x1, x2⟩ := HA2.out.cells
                  have z0 := HA2.out.fz 0
                  have HP := Lib.hid (HA2.out.put0 true)
                  dsimp only at HP
                  go_upto_region 15 with fail
                  clear z0
                  clear c0 c1 c2 x0 x1 x2 y0 y1 y2
                  generalize World.setCell _ _ _ = wq at *
                  have HV : Hid (r = ⟨true, x, 0⟩) := by show _ = _; rw [HR.out]; rfl
                  obtain ⟨_, ⟨y0, y1, y2⟩, _⟩ := HP.out.cells
                  obtain ⟨x0, x1, x2⟩ := HP.out.cells.2.2
                  have z := fun i => frozen_of_row _ _ i _ _ HP.out.2.1
                  have z0 := z 0
                  have z1 := z 1
                  have z2 := z 2
                  have AF := Lib.hid (HP.out.1.1.new (aset_fr _ (w.heap.size + 1) (.bool true) (.int .i64 x) (.int .i64 0)) (by simp))
                  obtain ⟨v0, v1, v2⟩ := arow (aset HP.out.2.1 (.bool true) (.int .i64 x) (.int .i64 0))
                  clear z
                  go_wp2
                  exact bodyPost_ret (v := .agg #[.bool true, .int .i64 x, .int .i64 0]) (by simp [results, Tryz.results33, go_sem, v0, v1, v2]) rfl ⟨by rw [HV.out], AF.out⟩
                | false =>
                  obtain ⟨⟨_, c0, c1, c2⟩, ⟨y0, y1, y2⟩, x0, x1, x2⟩ := HA2.out.cells
                  have z0 := HA2.out.fz 0
                  have HP := Lib.hid (HA2.out.put0 false)
                  dsimp only at HP
                  go_upto_region 15 with fail
                  clear z0
                  clear c0 c1 c2 x0 x1 x2 y0 y1 y2
                  generalize World.setCell _ _ _ = wq at *
                  obtain ⟨⟨_, c0, c1, c2⟩, ⟨y0, y1, y2⟩, x0, x1, x2⟩ := HP.out.cells
                  have z2 := HP.out.fz 2
                  have HP2 := Lib.hid (HP.out.put2 (x))
                  dsimp only at HP2
                  go_upto_region 17 with fail
                  clear z2
                  clear c0 c1 c2 x0 x1 x2 y0 y1 y2
                  generalize World.setCell _ _ _ = wr at *
                  have HV : Hid (r = ⟨false, x, x⟩) := by show _ = _; rw [HR.out]; rfl
                  obtain ⟨_, ⟨y0, y1, y2⟩, _⟩ := HP2.out.cells
                  obtain ⟨x0, x1, x2⟩ := HP2.out.cells.2.2
                  have z := fun i => frozen_of_row _ _ i _ _ HP2.out.2.1
                  have z0 := z 0
                  have z1 := z 1
                  have z2 := z 2
                  have AF := Lib.hid (HP2.out.1.1.new (aset_fr _ (w.heap.size + 1) (.bool false) (.int .i64 x) (.int .i64 x)) (by simp))
                  obtain ⟨v0, v1, v2⟩ := arow (aset HP2.out.2.1 (.bool false) (.int .i64 x) (.int .i64 x))
                  clear z
                  go_wp2
                  exact bodyPost_ret (v := .agg #[.bool false, .int .i64 x, .int .i64 x]) (by simp [results, Tryz.results33, go_sem, v0, v1, v2]) rfl ⟨by rw [HV.out], AF.out⟩
            | false =>
              obtain rfl : x = 0 := by rw [HX.out]; rfl
              clear HX
              obtain ⟨⟨_, c0, c1, c2⟩, ⟨y0, y1, y2⟩, x0, x1, x2⟩ := HD4.out.cells
              go_wp2_with fail
              with_reducible refine (AT.out _).mono ?_
              rintro y wt ⟨rfl, hf⟩
              have HA1 := Lib.hid (HD4.out.fr hf)
              clear hf
              clear c0 c1 c2 x0 x1 x2 y0 y1 y2
              cases b3 with
              | true =>
                obtain ⟨⟨_, c0, c1, c2⟩, ⟨y0, y1, y2⟩, x0, x1, x2⟩ := HA1.out.cells
                have z0 := HA1.out.fz 0
                have HP := Lib.hid (HA1.out.put0 true)
                dsimp only at HP
                go_upto_region 15 with fail
                clear z0
                clear c0 c1 c2 x0 x1 x2 y0 y1 y2
                generalize World.setCell _ _ _ = wq at *
                have HV : Hid (r = ⟨true, 0, 0⟩) := by show _ = _; rw [HR.out]; rfl
                obtain ⟨_, ⟨y0, y1, y2⟩, _⟩ := HP.out.cells
                obtain ⟨x0, x1, x2⟩ := HP.out.cells.2.2
                have z := fun i => frozen_of_row _ _ i _ _ HP.out.2.1
                have z0 := z 0
                have z1 := z 1
                have z2 := z 2
                have AF := Lib.hid (HP.out.1.1.new (aset_fr _ (w.heap.size + 1) (.bool true) (.int .i64 0) (.int .i64 0)) (by simp))
                obtain ⟨v0, v1, v2⟩ := arow (aset HP.out.2.1 (.bool true) (.int .i64 0) (.int .i64 0))
                clear z
                go_wp2
                exact bodyPost_ret (v := .agg #[.bool true, .int .i64 0, .int .i64 0]) (by simp [results, Tryz.results33, go_sem, v0, v1, v2]) rfl ⟨by rw [HV.out], AF.out⟩
              | false =>
                obtain ⟨⟨_, c0, c1, c2⟩, ⟨y0, y1, y2⟩, x0, x1, x2⟩ := HA1.out.cells
                go_wp2_with fail
                with_reducible refine (HA.out _).mono ?_
                rintro y wu ⟨rfl, hf⟩
                have HA2 := Lib.hid (HA1.out.fr hf)
                clear hf
                clear c0 c1 c2 x0 x1 x2 y0 y1 y2
                cases b2 with
                | true =>
                  obtain ⟨⟨_, c0, c1, c2⟩, ⟨y0, y1, y2⟩, x0, x1, x2⟩ := HA2.out.cells
                  have z0 := HA2.out.fz 0
                  have HP := Lib.hid (HA2.out.put0 true)
                  dsimp only at HP
                  go_upto_region 15 with fail
                  clear z0
                  clear c0 c1 c2 x0 x1 x2 y0 y1 y2
                  generalize World.setCell _ _ _ = wq at *
                  have HV : Hid (r = ⟨true, 0, 0⟩) := by show _ = _; rw [HR.out]; rfl
                  obtain ⟨_, ⟨y0, y1, y2⟩, _⟩ := HP.out.cells
                  obtain ⟨x0, x1, x2⟩ := HP.out.cells.2.2
                  have z := fun i => frozen_of_row _ _ i _ _ HP.out.2.1
                  have z0 := z 0
                  have z1 := z 1
                  have z2 := z 2
                  have AF := Lib.hid (HP.out.1.1.new (aset_fr _ (w.heap.size + 1) (.bool true) (.int .i64 0) (.int .i64 0)) (by simp))
                  obtain ⟨v0, v1, v2⟩ := arow (aset HP.out.2.1 (.bool true) (.int .i64 0) (.int .i64 0))
                  clear z
                  go_wp2
                  exact bodyPost_ret (v := .agg #[.bool true, .int .i64 0, .int .i64 0]) (by simp [results, Tryz.results33, go_sem, v0, v1, v2]) rfl ⟨by rw [HV.out], AF.out⟩
                | false =>
                  obtain ⟨⟨_, c0, c1, c2⟩, ⟨y0, y1, y2⟩, x0, x1, x2⟩ := HA2.out.cells
                  have z0 := HA2.out.fz 0
                  have HP := Lib.hid (HA2.out.put0 false)
                  dsimp only at HP
                  go_upto_region 15 with fail
                  clear z0
                  clear c0 c1 c2 x0 x1 x2 y0 y1 y2
                  generalize World.setCell _ _ _ = wq at *
                  obtain ⟨⟨_, c0, c1, c2⟩, ⟨y0, y1, y2⟩, x0, x1, x2⟩ := HP.out.cells
                  have z2 := HP.out.fz 2
                  have HP2 := Lib.hid (HP.out.put2 (0))
                  dsimp only at HP2
                  go_upto_region 17 with fail
                  clear z2
                  clear c0 c1 c2 x0 x1 x2 y0 y1 y2
                  generalize World.setCell _ _ _ = wr at *
                  have HV : Hid (r = ⟨false, 0, 0⟩) := by show _ = _; rw [HR.out]; rfl
                  obtain ⟨_, ⟨y0, y1, y2⟩, _⟩ := HP2.out.cells
                  obtain ⟨x0, x1, x2⟩ := HP2.out.cells.2.2
                  have z := fun i => frozen_of_row _ _ i _ _ HP2.out.2.1
                  have z0 := z 0
                  have z1 := z 1
                  have z2 := z 2
                  have AF := Lib.hid (HP2.out.1.1.new (aset_fr _ (w.heap.size + 1) (.bool false) (.int .i64 0) (.int .i64 0)) (by simp))
                  obtain ⟨v0, v1, v2⟩ := arow (aset HP2.out.2.1 (.bool false) (.int .i64 0) (.int .i64 0))
                  clear z
                  go_wp2
                  exact bodyPost_ret (v := .agg #[.bool false, .int .i64 0, .int .i64 0]) (by simp [results, Tryz.results33, go_sem, v0, v1, v2]) rfl ⟨by rw [HV.out], AF.out⟩
  · rw [deed_out hin] at hr
    obtain ⟨p, u, d⟩ := s
    have HF := Lib.hid (DB.new w 37 86 p u d).1.1
    subst hr
    clear h
    dsimp only [Sp.v, De.v, zDe] at *
    by_cases g1 : f < 0
    · clear hin
      go_enter Tryz.func33, Tryz.ntmps33
      go_wp2
      exact bodyPost_ret (v := .agg #[.bool false, .int .i64 0, .int .i64 0]) (by simp [results, Tryz.results33, go_sem]) rfl ⟨rfl, HF.out⟩
    · have g1' : 0 ≤ f := by omega
      clear g1
      by_cases g2 : 64 ≤ f
      · clear hin
        go_enter Tryz.func33, Tryz.ntmps33
        go_wp2
        exact bodyPost_ret (v := .agg #[.bool false, .int .i64 0, .int .i64 0]) (by simp [results, Tryz.results33, go_sem]) rfl ⟨rfl, HF.out⟩
      · have g2' : f < 64 := by omega
        clear g2
        by_cases g3 : e < -1
        · clear hin
          go_enter Tryz.func33, Tryz.ntmps33
          go_wp2
          exact bodyPost_ret (v := .agg #[.bool false, .int .i64 0, .int .i64 0]) (by simp [results, Tryz.results33, go_sem]) rfl ⟨rfl, HF.out⟩
        · have g3' : -1 ≤ e := by omega
          have g4 : 1 < e := by omega
          clear g3 hin
          go_enter Tryz.func33, Tryz.ntmps33
          go_wp2
          exact bodyPost_ret (v := .agg #[.bool false, .int .i64 0, .int .i64 0]) (by simp [results, Tryz.results33, go_sem]) rfl ⟨rfl, HF.out⟩
end Go.Proofs.YtdmomnhacijmpaaGreatDoor
