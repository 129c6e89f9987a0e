/- The document's store (a helper of the statements): six, Open. -/
import Derived.Test.YthiimkjhlndcoaaDoorRCell
import Derived.Test.YthiimkjhlndcoaaDoorStore4
import Derived.Deep.DeepCutAuto
import Derived.Deep.CutBlock
import Derived.Deep.RegionWith
namespace Go.Proofs.YthiimkjhlndcoaaDoor
open Go.RowKit

/-- The document's store at block sp, its cell at block p. -/
def RSr (w : World) (sp p : Nat) (R : SR) : Prop :=
  w.heap[sp]? = some (.cells #[.pointer (some ⟨p, 0, none⟩), .int .i64 R.c, .int .i64 R.n, .int .i64 R.k] 53 (0, 0))
theorem RSr.fr {w w' : World} {sp p : Nat} {R : SR} {S : List Nat} (h : RSr w sp p R) (hf : Fr w w' S) (hp : sp ∉ S) : RSr w' sp p R := hf.heap h hp
theorem RSr.lt {w : World} {sp p : Nat} {R : SR} (h : RSr w sp p R) : sp < w.heap.size := (Array.getElem?_eq_some_iff.1 h).1
theorem RSr.cells {w : World} {sp p : Nat} {R : SR} (h : RSr w sp p R) : w.cell? ⟨sp, 0, none⟩ = some (.pointer (some ⟨p, 0, none⟩)) ∧ w.cell? ⟨sp, 1, none⟩ = some (.int .i64 R.c) ∧ w.cell? ⟨sp, 2, none⟩ = some (.int .i64 R.n) ∧ w.cell? ⟨sp, 3, none⟩ = some (.int .i64 R.k) := by
  refine ⟨?_, ?_, ?_, ?_⟩ <;> (rw [cell_of_row w sp _ _ _ _ h]; rfl)
theorem RSr.frozen {w : World} {sp p : Nat} {R : SR} (h : RSr w sp p R) (j : Nat) : w.frozen? ⟨sp, j, none⟩ = false := frozen_of_row w sp j _ _ h
theorem RSr.rec {w : World} {sp p : Nat} {R : SR} (h : RSr w sp p R) (c n k : Int) : RSr (((w.setCell ⟨sp, 3, none⟩ (.int .i64 k)).setCell ⟨sp, 1, none⟩ (.int .i64 c)).setCell ⟨sp, 2, none⟩ (.int .i64 n)) sp p ⟨c, n, k⟩ := by
  have h1 := heap_setCell_same w sp 3 _ _ (Value.int .i64 k) h
  have h2 := heap_setCell_same _ sp 1 _ _ (Value.int .i64 c) h1
  have h3 := heap_setCell_same _ sp 2 _ _ (Value.int .i64 n) h2
  unfold RSr; rw [h3]; simp

set_option maxRecDepth 100000 in
theorem six_any (l : List Int) (v : Value) (w : World) (h : Bytes w v l) (hb : By8 l) (h6 : l.length = 6) :
    Calls Tryd.prog 35 #[v] w fun e w' => e = .returned (.int .i64 (numL l)) ∧ w = w' := by
  obtain ⟨a, cap, rfl, hcap, hcm, hcell⟩ := h
  unfold maxLen at hcm
  rw [h6] at hcap ⊢
  have HCELL := Lib.hid hcell
  have HB := Lib.hid hb
  have H6 := Lib.hid h6
  clear hcell hb h6
  go_enter Tryd.func35, Tryd.ntmps35
  go_wp2
  go_loop [3, 4] (fun n i => ∃ k : Nat, k ≤ 6 ∧ i = .int .i64 k ∧ n = .int .i64 (numL (l.take k))) (fun _ i => 6 - (intOf i).toNat)
  case atStart => exact ⟨0, Nat.zero_le _, rfl, rfl⟩
  case round =>
    obtain ⟨k, hk, rfl, rfl⟩ := hrel
    by_cases hlt : k < 6
    · obtain ⟨bb, off, rfl, hcl⟩ := HCELL.out (by rw [H6.out]; omega)
      have hc := hcl k (by rw [H6.out]; exact hlt)
      have hr := numL_range (l.take k) (HB.out.take k) 5 (by simp; omega)
      obtain ⟨hr0, hr1⟩ := hr
      have hr2 : numL (l.take k) < 4294967296 * 256 := by omega
      have hx := HB.out.get k
      have hor := or_byte _ _ hr0 hr2 hx
      have HS : Hid (numL (l.take (k + 1)) = numL (l.take k) * 256 + l.getD k 0) := by show _ = _; rw [take_snoc l k (by rw [H6.out]; exact hlt), numL_snoc]
      obtain ⟨x, hxx⟩ : ∃ x, x = l.getD k 0 := ⟨_, rfl⟩
      obtain ⟨m, hm⟩ : ∃ m, m = numL (l.take k) := ⟨_, rfl⟩
      rw [← hxx] at hc hx hor HS
      rw [← hm] at hr0 hr2 hor HS ⊢
      obtain ⟨hx0, hx1⟩ := hx
      clear hxx hm hr1 hcl
      go_wp2
      go_round
      case rel => exact ⟨k + 1, by omega, by go_num, by rw [HS.out]⟩
      case measure => simp [intOf]; omega
    · obtain rfl : k = 6 := by omega
      have HT : Hid (numL (l.take 6) = numL l) := by show _ = _; rw [List.take_of_length_le (by rw [H6.out]; omega)]
      go_wp2
      go_ret
      first | exact ⟨by rw [HT.out]; rfl, rfl⟩ | exact ⟨rfl, rfl⟩

/-- A store of the document's that is new. -/
def NewRSr (w : World) (p : Nat) (R : SR) (u : Value) (w' : World) : Prop := ∃ sp, u = .tuple #[.pointer (some ⟨sp, 0, none⟩), .int .i64 0] ∧ RSr w' sp p R ∧ w.heap.size ≤ sp ∧ Fr w w' []

set_option maxHeartbeats 4000000 in
set_option maxRecDepth 100000 in
theorem refOpen_any (p g : Nat) (s : CS) (w : World) (h : RCl w p g s) (hd : s.d = false) (hlen : 26 ≤ s.l.length) (hb : By8 s.l) :
    Calls Tryd.prog 20 #[.pointer (some ⟨p, 0, none⟩)] w (Gives (NewRSr w p (openOf s.l))) := by
  obtain ⟨c0, _, _, c3⟩ := h.cells
  have hlt := h.lt
  have ho := h.2.2
  rw [hd] at c3
  obtain ⟨L, hL⟩ : ∃ L, L = s.l.length := ⟨_, rfl⟩
  rw [← hL] at c0
  have hL1 : 26 ≤ L := by omega
  have hL2 : L ≤ 4096 := by have := ho.2.1; omega
  have H := Lib.hid h
  have HD := Lib.hid hd
  have HB := Lib.hid hb
  have HLL := Lib.hid hL
  have HLT := Lib.hid hlt
  clear h hd hlen hb hlt ho hL
  go_enter Tryd.func20, Tryd.ntmps20
  go_wp2
  generalize hW1 : World.alloc w _ = W1
  have hs1 : RSr W1 w.heap.size p (foundAt s.l 0) := by rw [← hW1]; exact heap_alloc_new w _
  have hf1 : Fr w W1 [] := by rw [← hW1]; exact Fr.alloc _ _ _
  have HS1 := Lib.hid hs1
  have HF1 := Lib.hid hf1
  clear hs1 hf1 hW1 c3
  have HC0 := Lib.hid c0
  clear c0
  go_loopw [5] (fun x wr => ∃ (k : Nat), k ≤ 2 ∧ x = .int .i64 k ∧ RSr wr w.heap.size p (foundAt s.l k) ∧ Fr w wr []) (fun x _ => 2 - (intOf x).toNat)
  case atStart => exact ⟨0, Nat.zero_le _, rfl, HS1.out, HF1.out⟩
  case round =>
    obtain ⟨k, hk, rfl, hs, hf⟩ := hrel
    have HS := Lib.hid hs
    have HF := Lib.hid hf
    clear hs hf
    by_cases hlt : k < 2
    · have c0 := HF.out.cell HC0.out (by simp)
      have hin := foundAt_in HB.out k hk
      have hr1 := numAt_range HB.out (13 * k + 1)
      have hr2 := numAt_range HB.out (13 * k + 7)
      have hstep : foundAt s.l (k + 1) = (foundAt s.l k).step s.l k := rfl
      unfold SR.step SR.beat at hstep
      -- the bytes
      have hbyte : ∀ W, Fr w W [] → ∀ i, i < 26 → W.cell? ⟨g, i, none⟩ = some (.int .u8 (s.l.getD i 0)) := fun W hW i hi => hW.cell (H.out.byte i (by have := HLL.out; omega)).1 (by simp)
      have hsix : ∀ (i : Nat) (cap : Nat), i + 6 ≤ 26 → 6 ≤ cap → cap ≤ 4096 → ∀ W, Fr w W [] → Calls Tryd.prog 35 #[.slice (some ⟨g, i, none⟩) 6 cap] W fun e w' => e = .returned (.int .i64 (numAt s.l i)) ∧ W = w' := by
        intro i cap hi hc6 hc W hW
        have := six_any [s.l.getD i 0, s.l.getD (i + 1) 0, s.l.getD (i + 2) 0, s.l.getD (i + 3) 0, s.l.getD (i + 4) 0, s.l.getD (i + 5) 0] (.slice (some ⟨g, i, none⟩) 6 cap) W ?_ ?_ rfl
        · have e : ∀ a b c d e f : Int, numL [a, b, c, d, e, f] = ((((a * 256 + b) * 256 + c) * 256 + d) * 256 + e) * 256 + f := by intros; simp [numL]
          rw [e] at this
          exact this
        · refine ⟨_, cap, rfl, hc6, by unfold maxLen; omega, fun _ => ⟨_, _, rfl, fun j hj => ?_⟩⟩
          have hj' : j < 6 := hj
          rw [hbyte W hW (i + j) (by omega)]
          have hs : j = 0 ∨ j = 1 ∨ j = 2 ∨ j = 3 ∨ j = 4 ∨ j = 5 := by omega
          rcases hs with rfl | rfl | rfl | rfl | rfl | rfl <;> rfl
        · intro x hx
          simp only [List.mem_cons, List.not_mem_nil, or_false] at hx
          rcases hx with rfl | rfl | rfl | rfl | rfl | rfl <;> exact HB.out.get _
      obtain ⟨R, hR⟩ : ∃ R, R = foundAt s.l k := ⟨_, rfl⟩
      have hsr := HS.out
      rw [← hR] at hin hstep hsr
      have HIN := Lib.hid hin
      have HSR := Lib.hid hsr
      have HST := Lib.hid hstep
      have HSIX := Lib.hid hsix
      have HBY := Lib.hid hbyte
      have HR1 := Lib.hid hr1
      have HR2 := Lib.hid hr2
      clear hin hstep hsr hsix hbyte hr1 hr2 hR
      have hks : k = 0 ∨ k = 1 := by omega
      rcases hks with rfl | rfl
      · obtain ⟨c, hc⟩ : ∃ c, c = numAt s.l (13 * 0 + 1) := ⟨_, rfl⟩
        obtain ⟨n, hn⟩ : ∃ n, n = numAt s.l (13 * 0 + 7) := ⟨_, rfl⟩
        have hA : ∀ cap, 6 ≤ cap → cap ≤ 4096 → ∀ W, Fr w W [] → Calls Tryd.prog 35 #[.slice (some ⟨g, 1, none⟩) 6 cap] W fun e w' => e = .returned (.int .i64 c) ∧ W = w' := by
          rw [hc]; exact fun cap h1 h2 W hW => HSIX.out 1 cap (by omega) h1 h2 W hW
        have hB : ∀ cap, 6 ≤ cap → cap ≤ 4096 → ∀ W, Fr w W [] → Calls Tryd.prog 35 #[.slice (some ⟨g, 7, none⟩) 6 cap] W fun e w' => e = .returned (.int .i64 n) ∧ W = w' := by
          rw [hn]; exact fun cap h1 h2 W hW => HSIX.out 7 cap (by omega) h1 h2 W hW
        have hst := HST.out
        have hrc := HR1.out
        have hrn := HR2.out
        rw [← hc] at hst hrc
        rw [← hn] at hst hrn
        obtain ⟨y, hy⟩ : ∃ y, y = s.l.getD 0 0 := ⟨_, rfl⟩
        have hym : ∀ W, Fr w W [] → W.cell? ⟨g, 0, none⟩ = some (.int .u8 y) := fun W hW => by rw [hy]; exact HBY.out W hW 0 (by omega)
        have hst2 : foundAt s.l (0 + 1) = if decide (y = 1 ∧ (R.k = -1 ∨ R.c + R.n < c + n)) = true then ⟨c, n, ((0 : Nat) : Int)⟩ else R := by rw [hy]; exact hst
        have HA := Lib.hid hA
        have HB2 := Lib.hid hB
        have HST2 := Lib.hid hst2
        have HYM := Lib.hid hym
        have HCC := Lib.hid hrc
        have HNN := Lib.hid hrn
        clear hc hn hA hB hst hrc hrn hy hym hst2
        go_upto_region 10 with fail
        go_cut [7] (fun s7 wx => s7 = .pointer (some ⟨wr.heap.size, 0, none⟩) ∧ wx.heap[wr.heap.size]? = some (.cells #[.int .i64 c, .int .i64 n] 51 (0, 0)) ∧ Fr wr wx [])
        case first =>
          have f1 : (7 : Int) ≤ (L : Int) := by omega
          have f2 : (13 : Int) ≤ (L : Int) := by omega
          have f3 : ¬ L = 1 := by omega
          have f4 : ¬ L = 7 := by omega
          go_region_held3 (fun w' => Fr wr w' []) (first | exact Fr.drew _ _ | exact Fr.alloc _ _ _ | exact (Fr.alloc _ _ _).trans (Fr.drew _ _) | exact (Fr.drew _ _).trans (Fr.alloc _ _ _))
            (first
              | (go_at_call 35; ((with_reducible refine (HA.out (L - 1) (by omega) (by omega) _ (HF.out.trans (by first | exact Fr.drew _ _ | exact (Fr.alloc _ _ _).trans (Fr.drew _ _)))).mono ?_); rintro e w' ⟨rfl, rfl⟩))
              | (go_at_call 35; ((with_reducible refine (HB2.out (L - 7) (by omega) (by omega) _ (HF.out.trans (by first | exact Fr.drew _ _ | exact (Fr.alloc _ _ _).trans (Fr.drew _ _)))).mono ?_); rintro e w' ⟨rfl, rfl⟩)))
          all_goals (go_wp2_with fail; go_meet; exact ⟨rfl, heap_alloc_new wr _, (Fr.alloc _ _ _).trans (Fr.drew _ _)⟩)
        case rest =>
          obtain ⟨rfl, hrx, hfx⟩ := hcut
          have hsx := HSR.out.fr hfx (by simp)
          obtain ⟨s0, s1, s2, s3⟩ := hsx.cells
          have z1 := hsx.frozen 1
          have z2 := hsx.frozen 2
          have z3 := hsx.frozen 3
          have x0 := cell_of_row _ _ 0 _ _ _ hrx
          have x1 := cell_of_row _ _ 1 _ _ _ hrx
          simp at x0 x1
          have my := HYM.out _ (HF.out.trans hfx)
          have HSX := Lib.hid hsx
          have HFX := Lib.hid (HF.out.trans hfx)
          have HRX := Lib.hid hrx
          clear hsx hfx hrx
          by_cases hy1 : y = 1
          · by_cases hk1 : R.k = -1
            · have HE0 : Hid (foundAt s.l (0 + 1) = ⟨c, n, ((0 : Nat) : Int)⟩) := by show _ = _; rw [HST2.out, if_pos]; simp only [decide_eq_true_eq]; exact ⟨hy1, .inl hk1⟩
              subst hy1
              rw [hk1] at s3
              clear hk1
              go_wp2
              go_quiet (fail)
              go_wp2
              have HEND := Lib.hid (show RSr _ w.heap.size p (foundAt s.l (0 + 1)) by rw [HE0.out]; exact (HSX.out.fr (Fr.drewN _ nq []) (by simp)).rec c n _)
              have HFE := Lib.hid (Fr.new (HFX.out.trans (Fr.drewN _ nq [])) (T := [w.heap.size]) (Fr.trans (Fr.trans (Fr.setCell _ _ 3 (.int .i64 ((0 : Nat) : Int)) (List.mem_singleton.2 rfl)) (Fr.setCell _ _ 1 (.int .i64 c) (List.mem_singleton.2 rfl))) (Fr.setCell _ _ 2 (.int .i64 n) (List.mem_singleton.2 rfl))) (by simp))
              go_roundw
              case rel => exact ⟨0 + 1, by omega, rfl, HEND.out, HFE.out⟩
              case measure => simp [intOf]
            · have hkb : decide (R.k < 0) = false := by have := HIN.out.2.2.2.2; simp; omega
              obtain ⟨i1, i2, i3, i4, _⟩ := HIN.out
              obtain ⟨j1, j2⟩ := HCC.out
              obtain ⟨j3, j4⟩ := HNN.out
              have hw1 : IntKind.i64.wrap (c + n) = c + n := IntWalk.i64_in _ (by omega)
              have hw2 : IntKind.i64.wrap (R.c + R.n) = R.c + R.n := IntWalk.i64_in _ (by omega)
              by_cases hgt : R.c + R.n < c + n
              · have HE0 : Hid (foundAt s.l (0 + 1) = ⟨c, n, ((0 : Nat) : Int)⟩) := by show _ = _; rw [HST2.out, if_pos]; simp only [decide_eq_true_eq]; exact ⟨hy1, .inr hgt⟩
                have hg2 : decide (R.c + R.n < c + n) = true := by simpa using hgt
                subst hy1
                clear hk1 hgt i1 i2 i3 i4 j1 j2 j3 j4
                go_wp2
                go_quiet (fail)
                clear hw1 hw2
                go_wp2
                have HEND := Lib.hid (show RSr _ w.heap.size p (foundAt s.l (0 + 1)) by rw [HE0.out]; exact (HSX.out.fr (Fr.drewN _ nq []) (by simp)).rec c n _)
                have HFE := Lib.hid (Fr.new (HFX.out.trans (Fr.drewN _ nq [])) (T := [w.heap.size]) (Fr.trans (Fr.trans (Fr.setCell _ _ 3 (.int .i64 ((0 : Nat) : Int)) (List.mem_singleton.2 rfl)) (Fr.setCell _ _ 1 (.int .i64 c) (List.mem_singleton.2 rfl))) (Fr.setCell _ _ 2 (.int .i64 n) (List.mem_singleton.2 rfl))) (by simp))
                go_roundw
                case rel => exact ⟨0 + 1, by omega, rfl, HEND.out, HFE.out⟩
                case measure => simp [intOf]
              · have HE0 : Hid (foundAt s.l (0 + 1) = R) := by show _ = _; rw [HST2.out, if_neg]; simp only [decide_eq_true_eq]; exact fun h => h.2.elim hk1 hgt
                have hg2 : decide (R.c + R.n < c + n) = false := by simpa using hgt
                subst hy1
                clear hk1 hgt i1 i2 i3 i4 j1 j2 j3 j4
                go_wp2
                go_quiet (fail)
                clear hw1 hw2
                go_wp2
                have HEND := Lib.hid (show RSr _ w.heap.size p (foundAt s.l (0 + 1)) by rw [HE0.out]; exact HSX.out.fr (Fr.drewN _ nq []) (by simp))
                have HFE := Lib.hid (HFX.out.trans (Fr.drewN _ nq []))
                go_roundw
                case rel => exact ⟨0 + 1, by omega, rfl, HEND.out, HFE.out⟩
                case measure => simp [intOf]
          · have HE0 : Hid (foundAt s.l (0 + 1) = R) := by show _ = _; rw [HST2.out, if_neg]; simp only [decide_eq_true_eq]; exact fun h => hy1 h.1
            have hyb : (y == 1) = false := by simpa using hy1
            clear hy1
            go_wp2
            go_quiet (fail)
            go_wp2
            have HEND := Lib.hid (show RSr _ w.heap.size p (foundAt s.l (0 + 1)) by rw [HE0.out]; exact HSX.out.fr (Fr.drewN _ nq []) (by simp))
            have HFE := Lib.hid (HFX.out.trans (Fr.drewN _ nq []))
            go_roundw
            case rel => exact ⟨0 + 1, by omega, rfl, HEND.out, HFE.out⟩
            case measure => simp [intOf]
      · obtain ⟨c, hc⟩ : ∃ c, c = numAt s.l (13 * 1 + 1) := ⟨_, rfl⟩
        obtain ⟨n, hn⟩ : ∃ n, n = numAt s.l (13 * 1 + 7) := ⟨_, rfl⟩
        have hA : ∀ cap, 6 ≤ cap → cap ≤ 4096 → ∀ W, Fr w W [] → Calls Tryd.prog 35 #[.slice (some ⟨g, 14, none⟩) 6 cap] W fun e w' => e = .returned (.int .i64 c) ∧ W = w' := by
          rw [hc]; exact fun cap h1 h2 W hW => HSIX.out 14 cap (by omega) h1 h2 W hW
        have hB : ∀ cap, 6 ≤ cap → cap ≤ 4096 → ∀ W, Fr w W [] → Calls Tryd.prog 35 #[.slice (some ⟨g, 20, none⟩) 6 cap] W fun e w' => e = .returned (.int .i64 n) ∧ W = w' := by
          rw [hn]; exact fun cap h1 h2 W hW => HSIX.out 20 cap (by omega) h1 h2 W hW
        have hst := HST.out
        have hrc := HR1.out
        have hrn := HR2.out
        rw [← hc] at hst hrc
        rw [← hn] at hst hrn
        obtain ⟨y, hy⟩ : ∃ y, y = s.l.getD 13 0 := ⟨_, rfl⟩
        have hym : ∀ W, Fr w W [] → W.cell? ⟨g, 13, none⟩ = some (.int .u8 y) := fun W hW => by rw [hy]; exact HBY.out W hW 13 (by omega)
        have hst2 : foundAt s.l (1 + 1) = if decide (y = 1 ∧ (R.k = -1 ∨ R.c + R.n < c + n)) = true then ⟨c, n, ((1 : Nat) : Int)⟩ else R := by rw [hy]; exact hst
        have HA := Lib.hid hA
        have HB2 := Lib.hid hB
        have HST2 := Lib.hid hst2
        have HYM := Lib.hid hym
        have HCC := Lib.hid hrc
        have HNN := Lib.hid hrn
        clear hc hn hA hB hst hrc hrn hy hym hst2
        go_upto_region 10 with fail
        go_cut [7] (fun s7 wx => s7 = .pointer (some ⟨wr.heap.size, 0, none⟩) ∧ wx.heap[wr.heap.size]? = some (.cells #[.int .i64 c, .int .i64 n] 51 (0, 0)) ∧ Fr wr wx [])
        case first =>
          have f1 : (7 : Int) ≤ ((L - 13 : Nat) : Int) := by omega
          have f2 : (13 : Int) ≤ ((L - 13 : Nat) : Int) := by omega
          have f3 : ¬ L - 13 = 1 := by omega
          have f4 : ¬ L - 13 = 7 := by omega
          go_region_held3 (fun w' => Fr wr w' []) (first | exact Fr.drew _ _ | exact Fr.alloc _ _ _ | exact (Fr.alloc _ _ _).trans (Fr.drew _ _) | exact (Fr.drew _ _).trans (Fr.alloc _ _ _))
            (first
              | (go_at_call 35; ((with_reducible refine (HA.out (L - 13 - 1) (by omega) (by omega) _ (HF.out.trans (by first | exact Fr.drew _ _ | exact (Fr.alloc _ _ _).trans (Fr.drew _ _)))).mono ?_); rintro e w' ⟨rfl, rfl⟩))
              | (go_at_call 35; ((with_reducible refine (HB2.out (L - 13 - 7) (by omega) (by omega) _ (HF.out.trans (by first | exact Fr.drew _ _ | exact (Fr.alloc _ _ _).trans (Fr.drew _ _)))).mono ?_); rintro e w' ⟨rfl, rfl⟩)))
          all_goals (go_wp2_with fail; go_meet; exact ⟨rfl, heap_alloc_new wr _, (Fr.alloc _ _ _).trans (Fr.drew _ _)⟩)
        case rest =>
          obtain ⟨rfl, hrx, hfx⟩ := hcut
          have hsx := HSR.out.fr hfx (by simp)
          obtain ⟨s0, s1, s2, s3⟩ := hsx.cells
          have z1 := hsx.frozen 1
          have z2 := hsx.frozen 2
          have z3 := hsx.frozen 3
          have x0 := cell_of_row _ _ 0 _ _ _ hrx
          have x1 := cell_of_row _ _ 1 _ _ _ hrx
          simp at x0 x1
          have my := HYM.out _ (HF.out.trans hfx)
          have HSX := Lib.hid hsx
          have HFX := Lib.hid (HF.out.trans hfx)
          have HRX := Lib.hid hrx
          clear hsx hfx hrx
          by_cases hy1 : y = 1
          · by_cases hk1 : R.k = -1
            · have HE0 : Hid (foundAt s.l (1 + 1) = ⟨c, n, ((1 : Nat) : Int)⟩) := by show _ = _; rw [HST2.out, if_pos]; simp only [decide_eq_true_eq]; exact ⟨hy1, .inl hk1⟩
              subst hy1
              rw [hk1] at s3
              clear hk1
              go_wp2
              go_quiet (fail)
              go_wp2
              have HEND := Lib.hid (show RSr _ w.heap.size p (foundAt s.l (1 + 1)) by rw [HE0.out]; exact (HSX.out.fr (Fr.drewN _ nq []) (by simp)).rec c n _)
              have HFE := Lib.hid (Fr.new (HFX.out.trans (Fr.drewN _ nq [])) (T := [w.heap.size]) (Fr.trans (Fr.trans (Fr.setCell _ _ 3 (.int .i64 ((1 : Nat) : Int)) (List.mem_singleton.2 rfl)) (Fr.setCell _ _ 1 (.int .i64 c) (List.mem_singleton.2 rfl))) (Fr.setCell _ _ 2 (.int .i64 n) (List.mem_singleton.2 rfl))) (by simp))
              go_roundw
              case rel => exact ⟨1 + 1, by omega, rfl, HEND.out, HFE.out⟩
              case measure => simp [intOf]
            · have hkb : decide (R.k < 0) = false := by have := HIN.out.2.2.2.2; simp; omega
              obtain ⟨i1, i2, i3, i4, _⟩ := HIN.out
              obtain ⟨j1, j2⟩ := HCC.out
              obtain ⟨j3, j4⟩ := HNN.out
              have hw1 : IntKind.i64.wrap (c + n) = c + n := IntWalk.i64_in _ (by omega)
              have hw2 : IntKind.i64.wrap (R.c + R.n) = R.c + R.n := IntWalk.i64_in _ (by omega)
              by_cases hgt : R.c + R.n < c + n
              · have HE0 : Hid (foundAt s.l (1 + 1) = ⟨c, n, ((1 : Nat) : Int)⟩) := by show _ = _; rw [HST2.out, if_pos]; simp only [decide_eq_true_eq]; exact ⟨hy1, .inr hgt⟩
                have hg2 : decide (R.c + R.n < c + n) = true := by simpa using hgt
                subst hy1
                clear hk1 hgt i1 i2 i3 i4 j1 j2 j3 j4
                go_wp2
                go_quiet (fail)
                clear hw1 hw2
                go_wp2
                have HEND := Lib.hid (show RSr _ w.heap.size p (foundAt s.l (1 + 1)) by rw [HE0.out]; exact (HSX.out.fr (Fr.drewN _ nq []) (by simp)).rec c n _)
                have HFE := Lib.hid (Fr.new (HFX.out.trans (Fr.drewN _ nq [])) (T := [w.heap.size]) (Fr.trans (Fr.trans (Fr.setCell _ _ 3 (.int .i64 ((1 : Nat) : Int)) (List.mem_singleton.2 rfl)) (Fr.setCell _ _ 1 (.int .i64 c) (List.mem_singleton.2 rfl))) (Fr.setCell _ _ 2 (.int .i64 n) (List.mem_singleton.2 rfl))) (by simp))
                go_roundw
                case rel => exact ⟨1 + 1, by omega, rfl, HEND.out, HFE.out⟩
                case measure => simp [intOf]
              · have HE0 : Hid (foundAt s.l (1 + 1) = R) := by show _ = _; rw [HST2.out, if_neg]; simp only [decide_eq_true_eq]; exact fun h => h.2.elim hk1 hgt
                have hg2 : decide (R.c + R.n < c + n) = false := by simpa using hgt
                subst hy1
                clear hk1 hgt i1 i2 i3 i4 j1 j2 j3 j4
                go_wp2
                go_quiet (fail)
                clear hw1 hw2
                go_wp2
                have HEND := Lib.hid (show RSr _ w.heap.size p (foundAt s.l (1 + 1)) by rw [HE0.out]; exact HSX.out.fr (Fr.drewN _ nq []) (by simp))
                have HFE := Lib.hid (HFX.out.trans (Fr.drewN _ nq []))
                go_roundw
                case rel => exact ⟨1 + 1, by omega, rfl, HEND.out, HFE.out⟩
                case measure => simp [intOf]
          · have HE0 : Hid (foundAt s.l (1 + 1) = R) := by show _ = _; rw [HST2.out, if_neg]; simp only [decide_eq_true_eq]; exact fun h => hy1 h.1
            have hyb : (y == 1) = false := by simpa using hy1
            clear hy1
            go_wp2
            go_quiet (fail)
            go_wp2
            have HEND := Lib.hid (show RSr _ w.heap.size p (foundAt s.l (1 + 1)) by rw [HE0.out]; exact HSX.out.fr (Fr.drewN _ nq []) (by simp))
            have HFE := Lib.hid (HFX.out.trans (Fr.drewN _ nq []))
            go_roundw
            case rel => exact ⟨1 + 1, by omega, rfl, HEND.out, HFE.out⟩
            case measure => simp [intOf]
    · obtain rfl : k = 2 := by omega
      go_wp2
      go_ret2
      exact gives ⟨w.heap.size, rfl, HS.out, Nat.le_refl _, HF.out⟩
end Go.Proofs.YthiimkjhlndcoaaDoor
