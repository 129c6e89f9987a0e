/- A door that is opened stays so as long as the house says. -/
import Derived.Test.YtecbjfmdlaajdaaDFirst
import Derived.Test.YtecbjfmdlaajdaaNum
namespace Go.Proofs.Ytecbjfmdlaajdaa
open Go.RowKit

/-- A door in a box of the call's own. -/
def Bx (W : World) (b : Nat) (l h : Int) (a : World) : Prop := Fr W a [] ∧ W.heap.size ≤ b ∧ a.heap[b]? = some (dbox 25 l h)
theorem Bx.fr {W : World} {b : Nat} {l h : Int} {a a' : World} (q : Bx W b l h a) (k : Fr a a' []) : Bx W b l h a' := ⟨q.1.trans k, q.2.1, k.heap q.2.2 (by simp)⟩
theorem Bx.cells {W : World} {b : Nat} {l h : Int} {a : World} (q : Bx W b l h a) : a.cell? ⟨b, 0, none⟩ = some (.int .i64 l) ∧ a.cell? ⟨b, 1, none⟩ = some (.int .i64 h) := drow q.2.2
theorem Bx.fz {W : World} {b : Nat} {l h : Int} {a : World} (q : Bx W b l h a) : a.frozen? ⟨b, 0, none⟩ = false ∧ a.frozen? ⟨b, 1, none⟩ = false := ⟨frozen_of_row _ _ 0 _ _ q.2.2, frozen_of_row _ _ 1 _ _ q.2.2⟩
theorem Bx.set {W : World} {b : Nat} {l h : Int} {a : World} (q : Bx W b l h a) (x y : Int) : Bx W b x y ((a.setCell ⟨b, 0, none⟩ (.int .i64 x)).setCell ⟨b, 1, none⟩ (.int .i64 y)) :=
  ⟨q.1.new (dset_fr a b _ _) (by intro r hr; obtain rfl := List.mem_singleton.1 hr; exact q.2.1), q.2.1, dset q.2.2 _ _⟩
theorem Bx.new {W a : World} (k : Fr W a []) (l h : Int) : Bx W a.heap.size l h (a.alloc (dbox 25 l h)) := ⟨k.trans (Fr.alloc _ _ []), k.size, heap_alloc_new _ _⟩

set_option maxHeartbeats 2000000 in
set_option maxRecDepth 100000 in
theorem opens_true (n k : Int) (w : World) (hk0 : -9223372036854775808 ≤ k) (hk1 : k ≤ 9223372036854775807) :
    Calls Try.prog 6 #[.int .i64 n, .int .i64 k] w fun e w' => e = .returned (.bool true) ∧ Fr w w' [] := by
  obtain ⟨m0, hm0⟩ : ∃ m, max n 1 = m := ⟨_, rfl⟩
  obtain ⟨m, hm⟩ : ∃ m, min m0 8 = m := ⟨_, rfl⟩
  have hmm : 1 ≤ m ∧ m ≤ 8 := by omega
  have NU := Lib.hid (fun W => numberTo_any k 12 W (by omega) (by omega) hk0 hk1)
  have P0 := Int.emod_nonneg k (show (12 : Int) ≠ 0 by omega)
  have P1 := Int.emod_lt_of_pos k (show (0 : Int) < 12 by omega)
  obtain ⟨N, hN⟩ : ∃ N : Nat, k % 12 = (N : Int) := ⟨(k % 12).toNat, by omega⟩
  rw [hN] at NU P0 P1
  have hN12 : N < 12 := by omega
  have O := Lib.hid (fun W => open_any n W m (by rw [hm0, hm]))
  have IZ := Lib.hid (fun (l : Int) (b : Bool) (hb : b = decide (0 < l)) W => is_any l 0 W b hb)
  have SK := Lib.hid (fun W => stuck_any m 0 8 W false (by simp) (by decide) (by decide))
  have TI := Lib.hid (fun (l x : Int) (b : Bool) (hx : x = tickL l false) (hb : b = tickB l false) (hl : l ≤ 8) W => tick_any l 0 false W x 0 b hx (by unfold tickH; split <;> (try split) <;> simp) hb (by decide) (by decide) (by omega))
  have TN := Lib.hid (fun W => tick_any 0 5 true W 0 0 false rfl rfl rfl (by decide) (by decide) (by decide))
  have kmm : (m != m) = false := by simp
  have HM := Lib.hid hmm
  have IM := Lib.hid (fun W => IZ.out m true (decide_eq_true (by omega)).symm W)
  have I0 := Lib.hid (fun W => IZ.out 0 false (by decide) W)
  clear hN hk0 hk1 P0 P1 hmm
  dsimp only [dv] at *
  go_enter Try.func6, Try.ntmps6
  go_wp2_with fail
  with_reducible refine (first_any _).mono ?_
  rintro e w1 ⟨rfl, hf⟩
  have F1 := Lib.hid hf
  clear hf
  go_wp2_with fail
  with_reducible refine (O.out _).mono ?_
  rintro e w2 ⟨rfl, hf⟩
  have B2 := Lib.hid (Bx.new (F1.out.trans hf) m 0)
  dsimp only [dbox] at B2
  clear hf
  obtain ⟨c0, c1⟩ := B2.out.cells
  go_wp2_with fail
  with_reducible refine (IM.out _).mono ?_
  rintro e w3 ⟨rfl, hf⟩
  have B3 := Lib.hid (B2.out.fr hf)
  clear hf c0 c1
  obtain ⟨c0, c1⟩ := B3.out.cells
  go_wp2_with fail
  with_reducible refine (SK.out _).mono ?_
  rintro e w4 ⟨rfl, hf⟩
  have B4 := Lib.hid (B3.out.fr hf)
  clear hf c0 c1
  go_wp2_with fail
  with_reducible refine (NU.out _).mono ?_
  rintro e w5 ⟨rfl, rfl⟩
  go_wp2
  go_loopw [7, 8] (fun s7 s8 wx => ∃ i : Nat, i ≤ N ∧ s8 = .int .i64 i ∧ ∃ l c : Int, s7 = .int .i64 c ∧ Hid ((l = m - i ∧ 1 ≤ l ∧ c = 0) ∨ (l = 0 ∧ m ≤ i ∧ c = 1)) ∧ Hid (Bx w w2.heap.size l 0 wx)) (fun _ i _ => N - (intOf i).toNat)
  case atStart => exact ⟨0, Nat.zero_le _, rfl, m, 0, rfl, Lib.hid (Or.inl ⟨by simp, HM.out.1, rfl⟩), B4⟩
  case round =>
    clear IM SK
    obtain ⟨i, hi, rfl, l, c, rfl, HL, HB⟩ := hrel
    obtain ⟨c0, c1⟩ := HB.out.cells
    by_cases hlt : i < N
    · obtain ⟨x, hx⟩ : ∃ x, x = tickL l false := ⟨_, rfl⟩
      obtain ⟨b, hb⟩ : ∃ b, b = tickB l false := ⟨_, rfl⟩
      have T := Lib.hid (fun W => TI.out l x b hx hb (by have := HL.out; have := HM.out; omega) W)
      have HX := Lib.hid hx
      have HY := Lib.hid hb
      clear hx
      cases b with
      | true =>
        clear hb
        have HLX : Hid (l = 1 ∧ x = 0 ∧ c = 0 ∧ m = i + 1) := by
          refine Lib.hid ?_
          have h := HL.out
          have hx := HX.out
          have hb := HY.out
          unfold tickL at hx
          unfold tickB at hb
          by_cases a0 : l ≤ 0
          · simp [a0] at hb
          · by_cases a1 : 1 < l
            · simp [a0, a1] at hb
            · simp [a0, a1] at hx
              omega
        obtain rfl : c = 0 := HLX.out.2.2.1
        go_wp2_with fail
        with_reducible refine (T.out _).mono ?_
        rintro e w6 ⟨rfl, hf⟩
        have fa := hf.trans (Fr.alloc w6 (dbox 25 x 0) [])
        have B6 := Lib.hid (HB.out.fr fa)
        have N6 := heap_alloc_new w6 (dbox 25 x 0)
        dsimp only [dbox] at B6 N6
        obtain ⟨d0, d1⟩ := drow N6
        obtain ⟨z0, z1⟩ := B6.out.fz
        obtain ⟨y0, y1⟩ := B6.out.cells
        clear hf fa c0 c1 N6
        go_wp2
        have B7 := Lib.hid (B6.out.set x 0)
        go_roundw
        case rel => exact ⟨i + 1, by omega, by go_num, x, 1, rfl, Lib.hid (by have := HLX.out; omega), B7⟩
        case measure => simp [intOf]; omega
      | false =>
        clear hb
        have HLX : Hid ((x = m - (i + 1 : Nat) ∧ 1 ≤ x ∧ c = 0) ∨ (x = 0 ∧ m ≤ (i + 1 : Nat) ∧ c = 1)) := by
          refine Lib.hid ?_
          have h := HL.out
          have hx := HX.out
          have hb := HY.out
          unfold tickL at hx
          unfold tickB at hb
          by_cases a0 : l ≤ 0
          · simp [a0] at hx
            omega
          · by_cases a1 : 1 < l
            · simp [a0, a1] at hx
              omega
            · simp [a0, a1] at hb
        go_wp2_with fail
        with_reducible refine (T.out _).mono ?_
        rintro e w6 ⟨rfl, hf⟩
        have fa := hf.trans (Fr.alloc w6 (dbox 25 x 0) [])
        have B6 := Lib.hid (HB.out.fr fa)
        have N6 := heap_alloc_new w6 (dbox 25 x 0)
        dsimp only [dbox] at B6 N6
        obtain ⟨d0, d1⟩ := drow N6
        obtain ⟨z0, z1⟩ := B6.out.fz
        obtain ⟨y0, y1⟩ := B6.out.cells
        clear hf fa c0 c1 N6
        go_wp2
        have B7 := Lib.hid (B6.out.set x 0)
        go_roundw
        case rel => exact ⟨i + 1, by omega, by go_num, x, c, rfl, HLX, B7⟩
        case measure => simp [intOf]; omega
    · obtain rfl : N = i := by omega
      have HE : Hid (decide (0 < l) = decide ((N : Int) < m)) := by
        show _ = _
        have h := HL.out
        by_cases a : (N : Int) < m
        · rw [decide_eq_true a, decide_eq_true]; omega
        · rw [decide_eq_false a, decide_eq_false]; omega
      have hc1 : c ≤ 1 := by have := HL.out; omega
      obtain ⟨bl, hbl⟩ : ∃ bl, bl = decide ((N : Int) < m) := ⟨_, rfl⟩
      have IL := Lib.hid (fun W => IZ.out l bl (by rw [hbl]; exact HE.out.symm) W)
      have kbl : (bl == decide ((N : Int) < m)) = true := by rw [hbl]; simp
      clear hbl
      go_wp2_with fail
      with_reducible refine (TN.out _).mono ?_
      rintro e w6 ⟨rfl, hf⟩
      have fa := hf.trans (Fr.alloc w6 (dbox 25 0 0) [])
      have B6 := Lib.hid (HB.out.fr fa)
      have N6 := Lib.hid (heap_alloc_new w6 (dbox 25 0 0))
      dsimp only [dbox] at B6 N6
      clear hf fa c0 c1
      obtain ⟨c0, c1⟩ := B6.out.cells
      go_wp2_with fail
      with_reducible refine (IL.out _).mono ?_
      rintro e w7 ⟨rfl, hf⟩
      have N7 := Lib.hid (hf.heap N6.out (by simp))
      have F7 := Lib.hid (B6.out.1.trans hf)
      clear hf c0 c1
      obtain ⟨d0, d1⟩ := drow N7.out
      go_wp2_with fail
      with_reducible refine (I0.out _).mono ?_
      rintro e w8 ⟨rfl, hf⟩
      have F8 := Lib.hid (F7.out.trans hf)
      obtain ⟨e0, e1⟩ := drow (hf.heap N7.out (by simp))
      clear hf d0 d1
      go_wp2
      go_ret
      exact ⟨rfl, F8.out⟩
theorem dopens_walk (n k : Int) (w : World) (_ : -9223372036854775808 ≤ n) (_ : n ≤ 9223372036854775807) (hk0 : -9223372036854775808 ≤ k) (hk1 : k ≤ 9223372036854775807) : Calls Try.prog 6 #[.int .i64 n, .int .i64 k] w fun e w' => e = .returned (.bool true) ∧ w.grownBy w' none :=
  (opens_true n k w hk0 hk1).mono fun _ _ ⟨he, hf⟩ => ⟨he, hf.grown (by simp)⟩
end Go.Proofs.Ytecbjfmdlaajdaa
