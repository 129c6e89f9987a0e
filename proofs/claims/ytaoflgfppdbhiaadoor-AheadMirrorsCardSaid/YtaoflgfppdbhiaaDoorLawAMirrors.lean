/- A house upside down has above what lay below; the nearer way turns. -/
import Derived.Test.YtaoflgfppdbhiaaDoorATz
import Derived.Test.YtaoflgfppdbhiaaDoorAFirst
import Derived.Test.YtaoflgfppdbhiaaDoorNum
namespace Go.Proofs.YtaoflgfppdbhiaaDoor
open Go.RowKit

/-- The first k bits, upside down. -/
def mirTo (n : Nat) : Nat → Nat
  | 0 => 0
  | k + 1 => if hasB n k then mirTo n k ||| oneN (63 - (k : Int)) else mirTo n k
theorem mirTo_lt (n : Nat) : ∀ k, mirTo n k < 18446744073709551616
  | 0 => (by decide : 0 < 18446744073709551616)
  | k + 1 => by
    unfold mirTo
    split
    · exact or_lt (mirTo_lt n k) (oneN_lt _)
    · exact mirTo_lt n k
theorem hasB_mirTo (n : Nat) : ∀ (k : Nat), k ≤ 64 → ∀ z : Int, hasB (mirTo n k) z = (decide (63 - z < k) && hasB n (63 - z))
  | 0, _, z => by
    rw [mirTo, hasB_zero]
    by_cases h : 63 - z < 0
    · rw [hasB_neg h]; simp
    · rw [decide_eq_false (by omega)]; rfl
  | k + 1, hk, z => by
    have ih := hasB_mirTo n k (by omega) z
    unfold mirTo
    by_cases hb : hasB n k = true
    · rw [if_pos hb, hasB_or, ih, hasB_one]
      by_cases hz : z = 63 - (k : Int)
      · subst hz
        rw [show (63 : Int) - (63 - (k : Int)) = k by omega, hb]
        have : decide ((63 : Int) - k = 63 - k ∧ 0 ≤ (63 : Int) - k ∧ (63 : Int) - k < 64) = true := decide_eq_true (by omega)
        rw [this, Bool.or_true]
        exact (decide_eq_true (by omega)).symm.trans (Bool.and_true _).symm
      · rw [show decide (z = 63 - (k : Int) ∧ 0 ≤ 63 - (k : Int) ∧ 63 - (k : Int) < 64) = false from decide_eq_false (fun e => hz e.1), Bool.or_false]
        congr 1
        exact decide_eq_decide.2 (by omega)
    · rw [if_neg hb, ih]
      by_cases hz : z = 63 - (k : Int)
      · subst hz
        rw [show (63 : Int) - (63 - (k : Int)) = k by omega]
        rw [show hasB n k = false by simpa using hb]
        simp
      · congr 1
        exact decide_eq_decide.2 (by omega)
theorem hasB_mir {n : Nat} (hn : n < 18446744073709551616) (z : Int) : hasB (mirTo n 64) z = hasB n (63 - z) := by
  rw [hasB_mirTo n 64 (by omega)]
  by_cases h : 63 - z < 64
  · rw [decide_eq_true (by omega), Bool.true_and]
  · rw [hasB_big hn (by omega)]; simp
theorem mir_yes {n k : Nat} (h : hasB n k = true) : mirTo n (k + 1) = mirTo n k ||| oneN (63 - (k : Int)) := by rw [mirTo, if_pos h]
theorem mir_no {n k : Nat} (h : hasB n k = false) : mirTo n (k + 1) = mirTo n k := by rw [mirTo, if_neg (by simp [h])]
theorem mir_step (n k : Nat) (x : Bool) (h : x = hasB n k) (m : Nat) (hm : m = mirTo n k) (o : Nat) (ho : o = oneN (63 - (k : Int))) : mirTo n (k + 1) = if x then m ||| o else m := by
  rw [mirTo, ← h, hm, ho]
/-- The stops upside down. -/
def Sp.mir (s : Sp) (k : Nat) : Sp := ⟨mirTo s.c k, mirTo s.d k, mirTo s.u k⟩
theorem Sp.mir_ok (s : Sp) (k : Nat) : (s.mir k).ok := ⟨mirTo_lt _ _, mirTo_lt _ _, mirTo_lt _ _⟩
theorem Sp.mir_all {s : Sp} (h : s.ok) (z : Int) : hasB (s.mir 64).all z = hasB s.all (63 - z) := by
  unfold Sp.all Sp.mir
  rw [hasB_or, hasB_or, hasB_or, hasB_or, hasB_mir h.c, hasB_mir h.d, hasB_mir h.u, Bool.or_assoc, Bool.or_comm (hasB s.d _), ← Bool.or_assoc]
theorem near_mir {n m : Nat} (hm : ∀ z : Int, hasB m z = hasB n (63 - z)) {f a b : Int} (h : NearIs n f a) (k : NearIs m (63 - f) b) : a = -b ∨ (a = 1 ∧ b = 1) := by
  have U : ∀ i : Int, hasB m (63 - f + i) = hasB n (f - i) := fun i => by rw [hm, show 63 - (63 - f + i) = f - i by omega]
  have D : ∀ i : Int, hasB m (63 - f - i) = hasB n (f + i) := fun i => by rw [hm, show 63 - (63 - f - i) = f + i by omega]
  simp only [NearIs, U, D] at k
  rcases h with ⟨rfl, h⟩ | ⟨rfl, i, hi, hb, hj⟩ | ⟨rfl, i, hi, hb, hj⟩ <;> rcases k with ⟨rfl, k⟩ | ⟨rfl, i', hi', hb', hj'⟩ | ⟨rfl, i', hi', hb', hj'⟩
  · exact .inl rfl
  · rw [(h i' hi').2] at hb'; cases hb'
  · rw [(h i' hi').1] at hb'; cases hb'
  · rw [(k i hi).2] at hb; cases hb
  · exact .inr ⟨rfl, rfl⟩
  · exact .inl rfl
  · rw [(k i hi).1] at hb; cases hb
  · exact .inl rfl
  · by_cases hc : i' ≤ i
    · rw [hj i' hi' hc] at hb'; cases hb'
    · rw [hj' i hi (by omega)] at hb; cases hb
theorem range_mir : List.range 64 = (List.range 64).reverse.map (63 - ·) := by decide
theorem bits_mir {n m : Nat} (hm : ∀ z : Int, hasB m z = hasB n (63 - z)) : bitsN m = (bitsN n).reverse.map (63 - ·) := by
  unfold bitsN
  conv => lhs; rw [range_mir]
  rw [List.filter_map, ← List.filter_reverse]
  congr 1
  apply List.filter_congr
  intro i hi
  have hi : i < 64 := by simpa using hi
  show m.testBit (63 - i) = n.testBit i
  rw [← hasB_nat, ← hasB_nat, hm, show 63 - ((63 - i : Nat) : Int) = (i : Int) by omega]
theorem bits_lt {n i : Nat} (h : i ∈ bitsN n) : i < 64 := by
  simp only [bitsN, List.mem_filter, List.mem_range] at h
  exact h.1
theorem bitsOf_mir {n m : Nat} (hm : ∀ z : Int, hasB m z = hasB n (63 - z)) : (bitsOf m).length = (bitsOf n).length ∧ ∀ i, i < (bitsOf n).length → (bitsOf m).getD ((bitsOf n).length - 1 - i) 0 = 63 - (bitsOf n).getD i 0 := by
  have e := bits_mir hm
  have hl : (bitsN m).length = (bitsN n).length := by rw [e]; simp
  refine ⟨by rw [bitsOf_len, bitsOf_len, hl], fun i hi => ?_⟩
  rw [bitsOf_len] at hi ⊢
  have g1 : (bitsN n).length - 1 - i < (bitsN m).length := by omega
  have hx : (bitsN m)[(bitsN n).length - 1 - i] = 63 - (bitsN n)[i] := by
    have : (bitsN m)[(bitsN n).length - 1 - i]? = some (63 - (bitsN n)[i]) := by
      rw [e, List.getElem?_map, List.getElem?_reverse (by omega), show (bitsN n).length - 1 - ((bitsN n).length - 1 - i) = i by omega, List.getElem?_eq_getElem hi]; rfl
    rw [List.getElem?_eq_getElem g1] at this
    exact Option.some.inj this
  have hb := bits_lt (List.getElem_mem hi)
  simp only [bitsOf, List.getD, List.getElem?_map, List.getElem?_eq_getElem g1, List.getElem?_eq_getElem hi, Option.map_some, Option.getD_some, hx]
  omega

/-- The stops' cells, and a box of stops of the call's own; in a world that came of W. -/
def MS (W : World) (p u d b : Nat) (t : Sp) (a : World) : Prop := SS W W.heap.size p u d a ∧ W.heap.size < b ∧ a.heap[b]? = some (t.box 26)
theorem MS.fr {W : World} {p u d b : Nat} {t : Sp} {a a' : World} (h : MS W p u d b t a) (k : Fr a a' []) : MS W p u d b t a' := ⟨h.1.fr k, h.2.1, k.heap h.2.2 (by simp)⟩
theorem MS.cells {W : World} {p u d b : Nat} {t : Sp} {a : World} (h : MS W p u d b t a) : (Fr W a [] ∧ a.cell? ⟨W.heap.size, 0, none⟩ = some (.int .u64 p) ∧ a.cell? ⟨W.heap.size, 1, none⟩ = some (.int .u64 u) ∧ a.cell? ⟨W.heap.size, 2, none⟩ = some (.int .u64 d)) ∧
    a.cell? ⟨b, 0, none⟩ = some (.int .u64 t.c) ∧ a.cell? ⟨b, 1, none⟩ = some (.int .u64 t.u) ∧ a.cell? ⟨b, 2, none⟩ = some (.int .u64 t.d) := ⟨h.1, arow h.2.2⟩
theorem MS.fz {W : World} {p u d b : Nat} {t : Sp} {a : World} (h : MS W p u d b t a) (i : Nat) : a.frozen? ⟨b, i, none⟩ = false := frozen_of_row _ _ i _ _ h.2.2
theorem MS.turn {W : World} {p u d b : Nat} {t t' : Sp} {a a' : World} (h : MS W p u d b t a) (k : Fr a a' [b]) (r : a'.heap[b]? = some (t'.box 26)) : MS W p u d b t' a' := by
  obtain ⟨⟨h0, h1, h2, h3⟩, hb, _⟩ := h
  have hn : W.heap.size ∉ [b] := by simp; omega
  exact ⟨⟨h0.new k (by simp; omega), k.cell h1 hn, k.cell h2 hn, k.cell h3 hn⟩, hb, r⟩
theorem MS.put0 {W : World} {p u d b : Nat} {t : Sp} {a : World} (h : MS W p u d b t a) (x : Nat) : MS W p u d b ⟨x, t.u, t.d⟩ (a.setCell ⟨b, 0, none⟩ (.int .u64 x)) := h.turn (Fr.setCell a b 0 _ (by simp)) (aput0 h.2.2 _)
theorem MS.put1 {W : World} {p u d b : Nat} {t : Sp} {a : World} (h : MS W p u d b t a) (x : Nat) : MS W p u d b ⟨t.c, x, t.d⟩ (a.setCell ⟨b, 1, none⟩ (.int .u64 x)) := h.turn (Fr.setCell a b 1 _ (by simp)) (aput1 h.2.2 _)
theorem MS.put2 {W : World} {p u d b : Nat} {t : Sp} {a : World} (h : MS W p u d b t a) (x : Nat) : MS W p u d b ⟨t.c, t.u, x⟩ (a.setCell ⟨b, 2, none⟩ (.int .u64 x)) := h.turn (Fr.setCell a b 2 _ (by simp)) (aput2 h.2.2 _)
/-- Both boxes' cells, for a region that only reads. -/
def MR (W : World) (p u d b p' u' d' : Nat) (a : World) : Prop := Fr W a [] ∧
  (a.cell? ⟨W.heap.size, 0, none⟩ = some (.int .u64 p) ∧ a.cell? ⟨W.heap.size, 1, none⟩ = some (.int .u64 u) ∧ a.cell? ⟨W.heap.size, 2, none⟩ = some (.int .u64 d)) ∧
  a.cell? ⟨b, 0, none⟩ = some (.int .u64 p') ∧ a.cell? ⟨b, 1, none⟩ = some (.int .u64 u') ∧ a.cell? ⟨b, 2, none⟩ = some (.int .u64 d')
theorem MR.fr {W : World} {p u d b p' u' d' : Nat} {a a' : World} (h : MR W p u d b p' u' d' a) (k : Fr a a' []) : MR W p u d b p' u' d' a' := by
  obtain ⟨h0, ⟨h1, h2, h3⟩, h4, h5, h6⟩ := h
  exact ⟨h0.trans k, ⟨k.cell h1 (by simp), k.cell h2 (by simp), k.cell h3 (by simp)⟩, k.cell h4 (by simp), k.cell h5 (by simp), k.cell h6 (by simp)⟩
theorem MS.read {W : World} {p u d b : Nat} {t : Sp} {a : World} (h : MS W p u d b t a) : MR W p u d b t.c t.u t.d a := ⟨h.1.1, h.1.2, arow h.2.2⟩

set_option maxHeartbeats 4000000 in
set_option maxRecDepth 100000 in
theorem mirrors_true (s : Sp) (y : Int) (h : s.ok) (hk0 : -9223372036854775808 ≤ y) (hk1 : y ≤ 9223372036854775807) (w : World) (hT : Tz w) :
    Calls Tryd.prog 5 #[s.v, .int .i64 y] w fun x w' => x = .returned (.bool true) ∧ Fr w w' [] := by
  have NU := Lib.hid (fun W => numberTo_any y 64 W (by omega) (by omega) hk0 hk1)
  have P0 := Int.emod_nonneg y (show (64 : Int) ≠ 0 by omega)
  have P1 := Int.emod_lt_of_pos y (show (0 : Int) < 64 by omega)
  obtain ⟨f, hf⟩ : ∃ f, y % 64 = f := ⟨_, rfl⟩
  rw [hf] at NU P0 P1
  clear hf hk0 hk1
  have SMC := Lib.hid (fun k : Nat => mirTo_lt s.c k)
  have SMU := Lib.hid (fun k : Nat => mirTo_lt s.u k)
  have SMD := Lib.hid (fun k : Nat => mirTo_lt s.d k)
  have CA0 := Lib.hid (fun (k : Nat) (x : Bool) (hx : x = hasB s.c k) W => at_any s k W h x hx)
  have CU0 := Lib.hid (fun (k : Nat) (x : Bool) (hx : x = hasB s.u k) W => hall_any s k 1 W h x (by rw [hx]; rfl))
  have CD0 := Lib.hid (fun (k : Nat) (x : Bool) (hx : x = hasB s.d k) W => hall_any s k (-1) W h x (by rw [hx]; rfl))
  obtain ⟨t, ht⟩ : ∃ t, t = s.mir 64 := ⟨_, rfl⟩
  have hto : t.ok := by rw [ht]; exact Sp.mir_ok s 64
  have hma : ∀ z : Int, hasB t.all z = hasB s.all (63 - z) := fun z => by rw [ht]; exact Sp.mir_all h z
  have hw63 : IntKind.i64.wrap (63 - f) = 63 - f := IntWalk.i64_in _ (by omega)
  obtain ⟨a, ha⟩ : ∃ a, a = nearC (upN s.all f) (dnN s.all f) := ⟨_, rfl⟩
  obtain ⟨b, hb⟩ : ∃ b, b = nearC (upN t.all (63 - f)) (dnN t.all (63 - f)) := ⟨_, rfl⟩
  have na : NearIs s.all f a := by rw [ha]; exact near_code h.all (by omega) (by omega)
  have nb : NearIs t.all (63 - f) b := by rw [hb]; exact near_code hto.all (by omega) (by omega)
  have hab := near_mir hma na nb
  have hbs := nb.small
  have NS := Lib.hid (fun W hT => near_any s f W h hT a (by rw [show min (max f (-1)) 64 = f by omega]; exact na))
  have NT := Lib.hid (fun W hT => near_any t (63 - f) W hto hT b (by rw [show min (max (63 - f) (-1)) 64 = 63 - f by omega]; exact nb))
  obtain ⟨L, hL⟩ : ∃ L, L = bitsOf s.all := ⟨_, rfl⟩
  obtain ⟨M, hM⟩ : ∃ M, M = bitsOf t.all := ⟨_, rfl⟩
  have FS := Lib.hid (fun W hT => floors_any s W h hT L hL)
  have FT := Lib.hid (fun W hT => floors_any t W hto hT M hM)
  have hml := bitsOf_mir hma
  rw [← hL, ← hM] at hml
  have HML := Lib.hid hml
  have HL64 := Lib.hid (show L.length ≤ 64 by rw [hL, bitsOf_len]; exact bits_len _)
  have HLR := Lib.hid (show ∀ z ∈ L, 0 ≤ z ∧ z < 64 from fun z hz => by rw [hL] at hz; exact hasB_range h.all ((mem_bits h.all z).1 hz))
  obtain ⟨g1, hg1⟩ : ∃ g, g = decide (upN s.all f ≠ 0) := ⟨_, rfl⟩
  obtain ⟨g2, hg2⟩ : ∃ g, g = decide (dnN s.all f ≠ 0) := ⟨_, rfl⟩
  have hi1 : g1 = true ↔ ∃ y, f < y ∧ hasB s.all y = true := by rw [hg1, decide_eq_true_iff]; exact upN_some (by omega)
  have hi2 : g2 = true ↔ ∃ y, y < f ∧ hasB s.all y = true := by rw [hg2, decide_eq_true_iff]; exact dnN_some (by omega)
  have AS := Lib.hid (fun W => aboveB_any s f W h g1 hi1)
  have BSS := Lib.hid (fun W => belowB_any s f W h g2 hi2)
  have BT := Lib.hid (fun W => belowB_any t (63 - f) W hto g1 (hi1.trans ⟨fun ⟨y, q, r⟩ => ⟨63 - y, by omega, by rw [hma, show 63 - (63 - y) = y by omega]; exact r⟩, fun ⟨y, q, r⟩ => ⟨63 - y, by omega, by rw [← hma]; exact r⟩⟩))
  have ATT := Lib.hid (fun W => aboveB_any t (63 - f) W hto g2 (hi2.trans ⟨fun ⟨y, q, r⟩ => ⟨63 - y, by omega, by rw [hma, show 63 - (63 - y) = y by omega]; exact r⟩, fun ⟨y, q, r⟩ => ⟨63 - y, by omega, by rw [← hma]; exact r⟩⟩))
  have HT := Lib.hid hT
  obtain ⟨p, u, d⟩ := s
  have HTT := Lib.hid ht
  have HS0 := Lib.hid (SS.new w 26 p u d)
  clear ha hb na nb hL hM hml hg1 hg2 hi1 hi2 hT h hto hma ht
  dsimp only [Sp.v, Sp.mir] at *
  go_enter Tryd.func5, Tryd.ntmps5
  go_wp2_with fail
  with_reducible refine (first_any _).mono ?_
  rintro e w1 ⟨rfl, hf⟩
  have H1 := Lib.hid (HS0.out.fr hf)
  have HZ1 := Lib.hid (show w.heap.size < w1.heap.size by have := hf.size; simp at this; omega)
  clear hf HS0
  go_wp2_with fail
  with_reducible refine (NU.out _).mono ?_
  rintro e w2 ⟨rfl, rfl⟩
  have HM0 := Lib.hid (show MS w p u d w1.heap.size ⟨0, 0, 0⟩ (w1.alloc (.cells #[.int .u64 0, .int .u64 0, .int .u64 0] 26)) from ⟨H1.out.fr (Fr.alloc _ _ []), HZ1.out, heap_alloc_new _ _⟩)
  obtain ⟨b1, hb1⟩ : ∃ b1, b1 = w1.heap.size := ⟨_, rfl⟩
  go_wp2
  go_loopw [7] (fun s7 wr => ∃ k : Nat, k ≤ 64 ∧ s7 = .int .i64 k ∧ Hid (MS w p u d w1.heap.size ⟨mirTo p k, mirTo d k, mirTo u k⟩ wr)) (fun i _ => 64 - (intOf i).toNat)
  case atStart => exact ⟨0, Nat.zero_le _, rfl, HM0⟩
  case round =>
    clear HM0 H1
    obtain ⟨k, hk, rfl, HM⟩ := hrel
    by_cases hlt : k < 64
    · obtain ⟨x1, hx1⟩ : ∃ x, x = hasB p k := ⟨_, rfl⟩
      obtain ⟨x2, hx2⟩ : ∃ x, x = hasB u k := ⟨_, rfl⟩
      obtain ⟨x3, hx3⟩ : ∃ x, x = hasB d k := ⟨_, rfl⟩
      have CA := Lib.hid (fun W => CA0.out k x1 hx1 W)
      have CU := Lib.hid (fun W => CU0.out k x2 hx2 W)
      have CD := Lib.hid (fun W => CD0.out k x3 hx3 W)
      have BC := SMC.out k
      have BU := SMD.out k
      have BD := SMU.out k
      try dsimp only at BC BU BD
      obtain ⟨mc, hmc⟩ : ∃ m, m = mirTo p k := ⟨_, rfl⟩
      obtain ⟨mu, hmu⟩ : ∃ m, m = mirTo d k := ⟨_, rfl⟩
      obtain ⟨md, hmd⟩ : ∃ m, m = mirTo u k := ⟨_, rfl⟩
      obtain ⟨j, hj⟩ : ∃ j : Nat, 63 - (k : Int) = (j : Int) := ⟨(63 - (k : Int)).toNat, by omega⟩
      obtain ⟨o, ho⟩ : ∃ o, o = oneN (63 - (k : Int)) := ⟨_, rfl⟩
      have N1 := Lib.hid (mir_step p k x1 hx1 mc hmc o ho)
      have N2 := Lib.hid (mir_step d k x3 hx3 mu hmu o ho)
      have N3 := Lib.hid (mir_step u k x2 hx2 md hmd o ho)
      have BO : o < 18446744073709551616 := by rw [ho]; exact oneN_lt _
      have hsh : IntKind.u64.wrap ((2 : Int) ^ j) = (o : Int) := by
        have := one_shl (63 - (k : Int)) (by omega) (by omega)
        rw [← ho, hj, Int.toNat_natCast] at this
        exact this
      have hw1 : IntKind.i64.wrap (63 - (k : Int)) = (j : Int) := by rw [hj]; exact IntWalk.i64_in _ (by omega)
      have hj64 : j < 64 := by omega
      rw [← hmc, ← hmu, ← hmd] at HM
      rw [← hmc] at BC
      rw [← hmu] at BU
      rw [← hmd] at BD
      have HM0 := HM
      clear HM hx1 hx2 hx3 hmc hmu hmd ho hj
      go_upto_region 9 with fail
      obtain ⟨⟨_, c0, c1, c2⟩, t0, t1, t2⟩ := HM0.out.cells
      go_wp2_with fail
      with_reducible refine (CA.out _).mono ?_
      rintro e wa0 ⟨rfl, hf⟩
      have HN0 := Lib.hid (HM0.out.fr hf)
      clear hf c0 c1 c2 t0 t1 t2
      cases x1 with
      | true =>
        have E0 := bits_or_u64_nat mc o BC BO
        obtain ⟨⟨_, c0, c1, c2⟩, t0, t1, t2⟩ := HN0.out.cells
        have z0 := HN0.out.fz 0
        have z1 := HN0.out.fz 1
        have z2 := HN0.out.fz 2
        have HM1 := Lib.hid (HN0.out.put0 (mc ||| o))
        clear HN0
        go_upto_region 11 with fail
        clear c0 c1 c2 t0 t1 t2 z0 z1 z2
        generalize World.setCell wa0 _ _ = wb0 at *
        obtain ⟨⟨_, c0, c1, c2⟩, t0, t1, t2⟩ := HM1.out.cells
        go_wp2_with fail
        with_reducible refine (CU.out _).mono ?_
        rintro e wa1 ⟨rfl, hf⟩
        have HN1 := Lib.hid (HM1.out.fr hf)
        clear hf c0 c1 c2 t0 t1 t2
        cases x2 with
        | true =>
          have E1 := bits_or_u64_nat md o BD BO
          obtain ⟨⟨_, c0, c1, c2⟩, t0, t1, t2⟩ := HN1.out.cells
          have z0 := HN1.out.fz 0
          have z1 := HN1.out.fz 1
          have z2 := HN1.out.fz 2
          have HM2 := Lib.hid (HN1.out.put2 (md ||| o))
          clear HN1
          go_upto_region 13 with fail
          clear c0 c1 c2 t0 t1 t2 z0 z1 z2
          generalize World.setCell wa1 _ _ = wb1 at *
          obtain ⟨⟨_, c0, c1, c2⟩, t0, t1, t2⟩ := HM2.out.cells
          go_wp2_with fail
          with_reducible refine (CD.out _).mono ?_
          rintro e wa2 ⟨rfl, hf⟩
          have HN2 := Lib.hid (HM2.out.fr hf)
          clear hf c0 c1 c2 t0 t1 t2
          cases x3 with
          | true =>
            have E2 := bits_or_u64_nat mu o BU BO
            obtain ⟨⟨_, c0, c1, c2⟩, t0, t1, t2⟩ := HN2.out.cells
            have z0 := HN2.out.fz 0
            have z1 := HN2.out.fz 1
            have z2 := HN2.out.fz 2
            have HM3 := Lib.hid (HN2.out.put1 (mu ||| o))
            clear HN2
            go_wp2
            go_roundw
            case rel => exact ⟨k + 1, by omega, by go_num, by rw [N1.out, N2.out, N3.out]; exact HM3⟩
            case measure => simp [intOf]; omega
          | false =>
            have HM3 := HN2
            clear HN2
            go_wp2
            go_roundw
            case rel => exact ⟨k + 1, by omega, by go_num, by rw [N1.out, N2.out, N3.out]; exact HM3⟩
            case measure => simp [intOf]; omega
        | false =>
          have HM2 := HN1
          clear HN1
          go_upto_region 13 with fail
          obtain ⟨⟨_, c0, c1, c2⟩, t0, t1, t2⟩ := HM2.out.cells
          go_wp2_with fail
          with_reducible refine (CD.out _).mono ?_
          rintro e wa2 ⟨rfl, hf⟩
          have HN2 := Lib.hid (HM2.out.fr hf)
          clear hf c0 c1 c2 t0 t1 t2
          cases x3 with
          | true =>
            have E2 := bits_or_u64_nat mu o BU BO
            obtain ⟨⟨_, c0, c1, c2⟩, t0, t1, t2⟩ := HN2.out.cells
            have z0 := HN2.out.fz 0
            have z1 := HN2.out.fz 1
            have z2 := HN2.out.fz 2
            have HM3 := Lib.hid (HN2.out.put1 (mu ||| o))
            clear HN2
            go_wp2
            go_roundw
            case rel => exact ⟨k + 1, by omega, by go_num, by rw [N1.out, N2.out, N3.out]; exact HM3⟩
            case measure => simp [intOf]; omega
          | false =>
            have HM3 := HN2
            clear HN2
            go_wp2
            go_roundw
            case rel => exact ⟨k + 1, by omega, by go_num, by rw [N1.out, N2.out, N3.out]; exact HM3⟩
            case measure => simp [intOf]; omega
      | false =>
        have HM1 := HN0
        clear HN0
        go_upto_region 11 with fail
        obtain ⟨⟨_, c0, c1, c2⟩, t0, t1, t2⟩ := HM1.out.cells
        go_wp2_with fail
        with_reducible refine (CU.out _).mono ?_
        rintro e wa1 ⟨rfl, hf⟩
        have HN1 := Lib.hid (HM1.out.fr hf)
        clear hf c0 c1 c2 t0 t1 t2
        cases x2 with
        | true =>
          have E1 := bits_or_u64_nat md o BD BO
          obtain ⟨⟨_, c0, c1, c2⟩, t0, t1, t2⟩ := HN1.out.cells
          have z0 := HN1.out.fz 0
          have z1 := HN1.out.fz 1
          have z2 := HN1.out.fz 2
          have HM2 := Lib.hid (HN1.out.put2 (md ||| o))
          clear HN1
          go_upto_region 13 with fail
          clear c0 c1 c2 t0 t1 t2 z0 z1 z2
          generalize World.setCell wa1 _ _ = wb1 at *
          obtain ⟨⟨_, c0, c1, c2⟩, t0, t1, t2⟩ := HM2.out.cells
          go_wp2_with fail
          with_reducible refine (CD.out _).mono ?_
          rintro e wa2 ⟨rfl, hf⟩
          have HN2 := Lib.hid (HM2.out.fr hf)
          clear hf c0 c1 c2 t0 t1 t2
          cases x3 with
          | true =>
            have E2 := bits_or_u64_nat mu o BU BO
            obtain ⟨⟨_, c0, c1, c2⟩, t0, t1, t2⟩ := HN2.out.cells
            have z0 := HN2.out.fz 0
            have z1 := HN2.out.fz 1
            have z2 := HN2.out.fz 2
            have HM3 := Lib.hid (HN2.out.put1 (mu ||| o))
            clear HN2
            go_wp2
            go_roundw
            case rel => exact ⟨k + 1, by omega, by go_num, by rw [N1.out, N2.out, N3.out]; exact HM3⟩
            case measure => simp [intOf]; omega
          | false =>
            have HM3 := HN2
            clear HN2
            go_wp2
            go_roundw
            case rel => exact ⟨k + 1, by omega, by go_num, by rw [N1.out, N2.out, N3.out]; exact HM3⟩
            case measure => simp [intOf]; omega
        | false =>
          have HM2 := HN1
          clear HN1
          go_upto_region 13 with fail
          obtain ⟨⟨_, c0, c1, c2⟩, t0, t1, t2⟩ := HM2.out.cells
          go_wp2_with fail
          with_reducible refine (CD.out _).mono ?_
          rintro e wa2 ⟨rfl, hf⟩
          have HN2 := Lib.hid (HM2.out.fr hf)
          clear hf c0 c1 c2 t0 t1 t2
          cases x3 with
          | true =>
            have E2 := bits_or_u64_nat mu o BU BO
            obtain ⟨⟨_, c0, c1, c2⟩, t0, t1, t2⟩ := HN2.out.cells
            have z0 := HN2.out.fz 0
            have z1 := HN2.out.fz 1
            have z2 := HN2.out.fz 2
            have HM3 := Lib.hid (HN2.out.put1 (mu ||| o))
            clear HN2
            go_wp2
            go_roundw
            case rel => exact ⟨k + 1, by omega, by go_num, by rw [N1.out, N2.out, N3.out]; exact HM3⟩
            case measure => simp [intOf]; omega
          | false =>
            have HM3 := HN2
            clear HN2
            go_wp2
            go_roundw
            case rel => exact ⟨k + 1, by omega, by go_num, by rw [N1.out, N2.out, N3.out]; exact HM3⟩
            case measure => simp [intOf]; omega
    · obtain rfl : 64 = k := by omega
      have HM4 := Lib.hid (show MS w p u d w1.heap.size t wr by rw [HTT.out]; exact HM.out)
      clear HM CA0 CU0 CD0 SMC SMU SMD HTT
      obtain ⟨p', u', d'⟩ := t
      obtain ⟨⟨_, c0, c1, c2⟩, t0, t1, t2⟩ := HM4.out.cells
      dsimp only at t0 t1 t2
      have K1 := Lib.hid (NS.out wr (HT.out.fr HM4.out.1.1))
      go_wp2_with fail
      with_reducible refine K1.out.mono ?_
      rintro e w3 ⟨rfl, hf⟩
      have HM5 := Lib.hid (HM4.out.fr hf)
      clear hf c0 c1 c2 t0 t1 t2 K1 HM4
      obtain ⟨⟨_, c0, c1, c2⟩, t0, t1, t2⟩ := HM5.out.cells
      dsimp only at t0 t1 t2
      have K1 := Lib.hid (NT.out w3 (HT.out.fr HM5.out.1.1))
      go_wp2_with fail
      with_reducible refine K1.out.mono ?_
      rintro e w4 ⟨rfl, hf⟩
      have HM6 := Lib.hid (HM5.out.fr hf)
      clear hf c0 c1 c2 t0 t1 t2 K1 HM5
      obtain ⟨⟨_, c0, c1, c2⟩, t0, t1, t2⟩ := HM6.out.cells
      dsimp only at t0 t1 t2
      have K1 := Lib.hid (FS.out w4 (HT.out.fr HM6.out.1.1))
      go_wp2_with fail
      with_reducible refine K1.out.mono ?_
      rintro e w5 ⟨v1, rfl, ho1, hf⟩
      have HM7 := Lib.hid (HM6.out.fr hf)
      have HV1 := Lib.hid ho1.holds
      clear hf c0 c1 c2 t0 t1 t2 K1 HM6 ho1
      obtain ⟨⟨_, c0, c1, c2⟩, t0, t1, t2⟩ := HM7.out.cells
      dsimp only at t0 t1 t2
      have K1 := Lib.hid (FT.out w5 (HT.out.fr HM7.out.1.1))
      go_wp2_with fail
      with_reducible refine K1.out.mono ?_
      rintro e w6 ⟨v2, rfl, ho2, hf⟩
      have HM8 := Lib.hid (HM7.out.fr hf)
      have hv1 := HV1.out.fr hf (by simp)
      have hv2 := ho2.holds
      clear hf c0 c1 c2 t0 t1 t2 K1 HM7 ho2 HV1
      obtain ⟨a1, cap1, rfl, q1, m1, r1⟩ := hv1
      obtain ⟨a2, cap2, rfl, q2, m2, r2⟩ := hv2
      unfold maxLen at m1 m2
      have kl : ((L.length : Int) != (M.length : Int)) = false := by rw [HML.out.1]; simp
      go_wp2
      go_loopw [12] (fun i wr => ∃ k : Nat, k ≤ L.length ∧ i = .int .i64 k ∧ ∃ n, wr = w6.drewN n) (fun i _ => L.length - (intOf i).toNat)
      case atStart => exact ⟨0, Nat.zero_le _, rfl, 0, rfl⟩
      case round =>
        obtain ⟨k, hk, rfl, n, hn⟩ := hrel
        have KEY : Hid (∀ m, ∃ n, wr.drewN m = w6.drewN n) := fun m => ⟨n + m, by rw [hn]; simp [World.drewN, Nat.add_assoc]⟩
        have CEL : Hid (∀ a, wr.cell? a = w6.cell? a) := fun a => by rw [hn]; rfl
        have HM9 := Lib.hid (show MS w p u d w1.heap.size ⟨p', u', d'⟩ wr by rw [hn]; exact HM8.out.fr (Fr.drewN _ _ _))
        clear hn
        by_cases hlt2 : k < L.length
        · have hml := HML.out.1
          have hlt3 : L.length - 1 - k < M.length := by omega
          obtain ⟨b1', o1', rfl, k1⟩ := r1 (by omega)
          obtain ⟨b2', o2', rfl, k2⟩ := r2 (by omega)
          have HX := HML.out.2 k hlt2
          have hzr := HLR.out (L.getD k 0) (by simp [List.getD, hlt2])
          obtain ⟨x, hx⟩ : ∃ x, x = L.getD k 0 := ⟨_, rfl⟩
          obtain ⟨e1, he1⟩ : ∃ e1, e1 = L.length - 1 - k := ⟨_, rfl⟩
          have G1 : wr.cell? ⟨b1', o1' + k, none⟩ = some (.int .i64 x) := by rw [hx, CEL.out]; exact k1 k hlt2
          have G2 : wr.cell? ⟨b2', o2' + e1, none⟩ = some (.int .i64 (63 - x)) := by rw [hx, ← HX, he1, CEL.out]; exact k2 _ hlt3
          rw [← hx] at hzr
          have hs1 : IntKind.i64.wrap ((M.length : Int) - 1) = (M.length : Int) - 1 := IntWalk.i64_in _ (by omega)
          have hs2 : IntKind.i64.wrap ((M.length : Int) - 1 - (k : Int)) = (e1 : Int) := by rw [show (M.length : Int) - 1 - (k : Int) = (e1 : Int) by omega]; exact IntWalk.i64_in _ (by omega)
          have hs3 : IntKind.i64.wrap (63 - x) = 63 - x := IntWalk.i64_in _ (by omega)
          have he2 : e1 < M.length := by omega
          have kx : ((63 - x : Int) != 63 - x) = false := by simp
          clear hx he1 k1 k2 r1 r2 HX hzr hml hlt3
          go_wp2
          go_quiet (fail)
          go_wp2
          go_roundw
          case rel => exact ⟨k + 1, by omega, by go_num, KEY.out _⟩
          case measure => simp [intOf]; omega
        · have HR := Lib.hid (HM9.out.read.fr (Fr.drew _ []))
          dsimp only at HR
          clear r1 r2 HM8 HM9
          obtain ⟨nb, hnb⟩ : ∃ nb, nb = -b := ⟨_, rfl⟩
          have hwn : IntKind.i64.wrap (-b) = nb := by rw [hnb]; exact IntWalk.i64_in _ (by omega)
          have kg1 : (g1 == g1) = true := by simp
          have kg2 : (g2 == g2) = true := by simp
          by_cases hq : a = nb
          · have kq : (a == nb) = true := by simp [hq]
            clear hq hnb hab hbs
            go_wp2
            refine wp_region_det (S := MR w p u d w1.heap.size p' u' d') (by kernel_rfl) HR.out ?_
            refine wpDet_take (i := 0) (oi := _) (v := ?dv1) (by simp only [List.getElem?_toArray, List.getElem?_cons_zero]; rfl) (by kernel_rfl) (by kernel_rfl) (by kernel_rfl) (Or.inl ⟨by rfl, ?dy1⟩) ?dr1
            case dy1 => (intro w hSw; have hS0 := hSw; (try dsimp only [MR] at hSw); go_simp; refine Came.value ?_ hS0; with_reducible rfl)
            try simp only [Act.put, List.setIfInBounds_toArray, List.set_cons_zero, List.set_cons_succ]
            refine wpDet_take (i := 1) (oi := _) (v := ?dv2) (by simp only [List.getElem?_toArray, List.getElem?_cons_zero, List.getElem?_cons_succ]; rfl) (by kernel_rfl) (by kernel_rfl) (by kernel_rfl) (Or.inl ⟨by rfl, ?dy2⟩) ?dr2
            case dy2 => (intro w hSw; have hS0 := hSw; (try dsimp only [MR] at hSw); go_simp; refine Came.value ?_ hS0; with_reducible rfl)
            try simp only [Act.put, List.setIfInBounds_toArray, List.set_cons_zero, List.set_cons_succ]
            refine wpDet_take (i := 2) (oi := _) (v := ?dv3) (by simp only [List.getElem?_toArray, List.getElem?_cons_zero, List.getElem?_cons_succ]; rfl) (by kernel_rfl) (by kernel_rfl) (by kernel_rfl) (Or.inl ⟨by rfl, ?dy3⟩) ?dr3
            case dy3 => (intro w hSw; have hS0 := hSw; (try dsimp only [MR] at hSw); go_simp; refine Came.value ?_ hS0; with_reducible rfl)
            try simp only [Act.put, List.setIfInBounds_toArray, List.set_cons_zero, List.set_cons_succ]
            refine wpDet_take (i := 3) (oi := _) (v := ?dv4) (by simp only [List.getElem?_toArray, List.getElem?_cons_zero, List.getElem?_cons_succ]; rfl) (by kernel_rfl) (by kernel_rfl) (by kernel_rfl) (Or.inl ⟨by rfl, ?dy4⟩) ?dr4
            case dy4 => (intro w hSw; have hS0 := hSw; (try dsimp only [MR] at hSw); go_simp; refine Came.value ?_ hS0; with_reducible rfl)
            try simp only [Act.put, List.setIfInBounds_toArray, List.set_cons_zero, List.set_cons_succ]
            refine wpDet_take (i := 4) (oi := _) (v := ?dv5) (by simp only [List.getElem?_toArray, List.getElem?_cons_zero, List.getElem?_cons_succ]; rfl) (by kernel_rfl) (by kernel_rfl) (by kernel_rfl) (Or.inl ⟨by rfl, ?dy5⟩) ?dr5
            case dy5 => (intro w hSw; go_simp; exact Came.call ((AS.out w).mono fun e w' ⟨he, hf⟩ => ⟨he, hSw.fr hf⟩) (by with_reducible rfl))
            try simp only [Act.put, List.setIfInBounds_toArray, List.set_cons_zero, List.set_cons_succ]
            refine wpDet_take (i := 5) (oi := _) (v := ?dv6) (by simp only [List.getElem?_toArray, List.getElem?_cons_zero, List.getElem?_cons_succ]; rfl) (by kernel_rfl) (by kernel_rfl) (by kernel_rfl) (Or.inl ⟨by rfl, ?dy6⟩) ?dr6
            case dy6 => (intro w hSw; have hS0 := hSw; (try dsimp only [MR] at hSw); go_simp; refine Came.value ?_ hS0; with_reducible rfl)
            try simp only [Act.put, List.setIfInBounds_toArray, List.set_cons_zero, List.set_cons_succ]
            refine wpDet_take (i := 6) (oi := _) (v := ?dv7) (by simp only [List.getElem?_toArray, List.getElem?_cons_zero, List.getElem?_cons_succ]; rfl) (by kernel_rfl) (by kernel_rfl) (by kernel_rfl) (Or.inl ⟨by rfl, ?dy7⟩) ?dr7
            case dy7 => (intro w hSw; have hS0 := hSw; (try dsimp only [MR] at hSw); go_simp; refine Came.value ?_ hS0; with_reducible rfl)
            try simp only [Act.put, List.setIfInBounds_toArray, List.set_cons_zero, List.set_cons_succ]
            refine wpDet_take (i := 7) (oi := _) (v := ?dv8) (by simp only [List.getElem?_toArray, List.getElem?_cons_zero, List.getElem?_cons_succ]; rfl) (by kernel_rfl) (by kernel_rfl) (by kernel_rfl) (Or.inl ⟨by rfl, ?dy8⟩) ?dr8
            case dy8 => (intro w hSw; have hS0 := hSw; (try dsimp only [MR] at hSw); go_simp; refine Came.value ?_ hS0; with_reducible rfl)
            try simp only [Act.put, List.setIfInBounds_toArray, List.set_cons_zero, List.set_cons_succ]
            refine wpDet_take (i := 8) (oi := _) (v := ?dv9) (by simp only [List.getElem?_toArray, List.getElem?_cons_zero, List.getElem?_cons_succ]; rfl) (by kernel_rfl) (by kernel_rfl) (by kernel_rfl) (Or.inl ⟨by rfl, ?dy9⟩) ?dr9
            case dy9 => (intro w hSw; go_simp; exact Came.call ((BT.out w).mono fun e w' ⟨he, hf⟩ => ⟨he, hSw.fr hf⟩) (by with_reducible rfl))
            try simp only [Act.put, List.setIfInBounds_toArray, List.set_cons_zero, List.set_cons_succ]
            refine wpDet_take (i := 9) (oi := _) (v := ?dv10) (by simp only [List.getElem?_toArray, List.getElem?_cons_zero, List.getElem?_cons_succ]; rfl) (by kernel_rfl) (by kernel_rfl) (by kernel_rfl) (Or.inl ⟨by rfl, ?dy10⟩) ?dr10
            case dy10 => (intro w hSw; have hS0 := hSw; (try dsimp only [MR] at hSw); go_simp; refine Came.value ?_ hS0; with_reducible rfl)
            try simp only [Act.put, List.setIfInBounds_toArray, List.set_cons_zero, List.set_cons_succ]
            refine wpDet_take (i := 10) (oi := _) (v := ?dv11) (by simp only [List.getElem?_toArray, List.getElem?_cons_zero, List.getElem?_cons_succ]; rfl) (by kernel_rfl) (by kernel_rfl) (by kernel_rfl) (Or.inl ⟨by rfl, ?dy11⟩) ?dr11
            case dy11 => (intro w hSw; have hS0 := hSw; (try dsimp only [MR] at hSw); go_simp; refine Came.value ?_ hS0; with_reducible rfl)
            try simp only [Act.put, List.setIfInBounds_toArray, List.set_cons_zero, List.set_cons_succ]
            refine wpDet_take (i := 11) (oi := _) (v := ?dv12) (by simp only [List.getElem?_toArray, List.getElem?_cons_zero, List.getElem?_cons_succ]; rfl) (by kernel_rfl) (by kernel_rfl) (by kernel_rfl) (Or.inl ⟨by rfl, ?dy12⟩) ?dr12
            case dy12 => (intro w hSw; have hS0 := hSw; (try dsimp only [MR] at hSw); go_simp; refine Came.value ?_ hS0; with_reducible rfl)
            try simp only [Act.put, List.setIfInBounds_toArray, List.set_cons_zero, List.set_cons_succ]
            refine wpDet_take (i := 12) (oi := _) (v := ?dv13) (by simp only [List.getElem?_toArray, List.getElem?_cons_zero, List.getElem?_cons_succ]; rfl) (by kernel_rfl) (by kernel_rfl) (by kernel_rfl) (Or.inl ⟨by rfl, ?dy13⟩) ?dr13
            case dy13 => (intro w hSw; have hS0 := hSw; (try dsimp only [MR] at hSw); go_simp; refine Came.value ?_ hS0; with_reducible rfl)
            try simp only [Act.put, List.setIfInBounds_toArray, List.set_cons_zero, List.set_cons_succ]
            refine wpDet_take (i := 13) (oi := _) (v := ?dv14) (by simp only [List.getElem?_toArray, List.getElem?_cons_zero, List.getElem?_cons_succ]; rfl) (by kernel_rfl) (by kernel_rfl) (by kernel_rfl) (Or.inl ⟨by rfl, ?dy14⟩) ?dr14
            case dy14 => (intro w hSw; have hS0 := hSw; (try dsimp only [MR] at hSw); go_simp; refine Came.value ?_ hS0; with_reducible rfl)
            try simp only [Act.put, List.setIfInBounds_toArray, List.set_cons_zero, List.set_cons_succ]
            refine wpDet_take (i := 14) (oi := _) (v := ?dv15) (by simp only [List.getElem?_toArray, List.getElem?_cons_zero, List.getElem?_cons_succ]; rfl) (by kernel_rfl) (by kernel_rfl) (by kernel_rfl) (Or.inl ⟨by rfl, ?dy15⟩) ?dr15
            case dy15 => (intro w hSw; go_simp; exact Came.call ((BSS.out w).mono fun e w' ⟨he, hf⟩ => ⟨he, hSw.fr hf⟩) (by with_reducible rfl))
            try simp only [Act.put, List.setIfInBounds_toArray, List.set_cons_zero, List.set_cons_succ]
            refine wpDet_take (i := 15) (oi := _) (v := ?dv16) (by simp only [List.getElem?_toArray, List.getElem?_cons_zero, List.getElem?_cons_succ]; rfl) (by kernel_rfl) (by kernel_rfl) (by kernel_rfl) (Or.inl ⟨by rfl, ?dy16⟩) ?dr16
            case dy16 => (intro w hSw; have hS0 := hSw; (try dsimp only [MR] at hSw); go_simp; refine Came.value ?_ hS0; with_reducible rfl)
            try simp only [Act.put, List.setIfInBounds_toArray, List.set_cons_zero, List.set_cons_succ]
            refine wpDet_take (i := 16) (oi := _) (v := ?dv17) (by simp only [List.getElem?_toArray, List.getElem?_cons_zero, List.getElem?_cons_succ]; rfl) (by kernel_rfl) (by kernel_rfl) (by kernel_rfl) (Or.inl ⟨by rfl, ?dy17⟩) ?dr17
            case dy17 => (intro w hSw; have hS0 := hSw; (try dsimp only [MR] at hSw); go_simp; refine Came.value ?_ hS0; with_reducible rfl)
            try simp only [Act.put, List.setIfInBounds_toArray, List.set_cons_zero, List.set_cons_succ]
            refine wpDet_take (i := 17) (oi := _) (v := ?dv18) (by simp only [List.getElem?_toArray, List.getElem?_cons_zero, List.getElem?_cons_succ]; rfl) (by kernel_rfl) (by kernel_rfl) (by kernel_rfl) (Or.inl ⟨by rfl, ?dy18⟩) ?dr18
            case dy18 => (intro w hSw; have hS0 := hSw; (try dsimp only [MR] at hSw); go_simp; refine Came.value ?_ hS0; with_reducible rfl)
            try simp only [Act.put, List.setIfInBounds_toArray, List.set_cons_zero, List.set_cons_succ]
            refine wpDet_take (i := 18) (oi := _) (v := ?dv19) (by simp only [List.getElem?_toArray, List.getElem?_cons_zero, List.getElem?_cons_succ]; rfl) (by kernel_rfl) (by kernel_rfl) (by kernel_rfl) (Or.inl ⟨by rfl, ?dy19⟩) ?dr19
            case dy19 => (intro w hSw; go_simp; exact Came.call ((ATT.out w).mono fun e w' ⟨he, hf⟩ => ⟨he, hSw.fr hf⟩) (by with_reducible rfl))
            try simp only [Act.put, List.setIfInBounds_toArray, List.set_cons_zero, List.set_cons_succ]
            refine wpDet_take (i := 19) (oi := _) (v := ?dv20) (by simp only [List.getElem?_toArray, List.getElem?_cons_zero, List.getElem?_cons_succ]; rfl) (by kernel_rfl) (by kernel_rfl) (by kernel_rfl) (Or.inl ⟨by rfl, ?dy20⟩) ?dr20
            case dy20 => (intro w hSw; have hS0 := hSw; (try dsimp only [MR] at hSw); go_simp; refine Came.value ?_ hS0; with_reducible rfl)
            try simp only [Act.put, List.setIfInBounds_toArray, List.set_cons_zero, List.set_cons_succ]
            refine wpDet_take (i := 20) (oi := _) (v := ?dv21) (by simp only [List.getElem?_toArray, List.getElem?_cons_zero, List.getElem?_cons_succ]; rfl) (by kernel_rfl) (by kernel_rfl) (by kernel_rfl) (Or.inl ⟨by rfl, ?dy21⟩) ?dr21
            case dy21 => (intro w hSw; have hS0 := hSw; (try dsimp only [MR] at hSw); go_simp; refine Came.value ?_ hS0; with_reducible rfl)
            try simp only [Act.put, List.setIfInBounds_toArray, List.set_cons_zero, List.set_cons_succ]
            refine wpDet_take (i := 21) (oi := _) (v := ?dv22) (by simp only [List.getElem?_toArray, List.getElem?_cons_zero, List.getElem?_cons_succ]; rfl) (by kernel_rfl) (by kernel_rfl) (by kernel_rfl) (Or.inl ⟨by rfl, ?dy22⟩) ?dr22
            case dy22 => (intro w hSw; have hS0 := hSw; (try dsimp only [MR] at hSw); go_simp; refine Came.value ?_ hS0; with_reducible rfl)
            try simp only [Act.put, List.setIfInBounds_toArray, List.set_cons_zero, List.set_cons_succ]
            refine wpDet_take (i := 22) (oi := _) (v := ?dv23) (by simp only [List.getElem?_toArray, List.getElem?_cons_zero, List.getElem?_cons_succ]; rfl) (by kernel_rfl) (by kernel_rfl) (by kernel_rfl) (Or.inl ⟨by rfl, ?dy23⟩) ?dr23
            case dy23 => (intro w hSw; have hS0 := hSw; (try dsimp only [MR] at hSw); go_simp; refine Came.value ?_ hS0; with_reducible rfl)
            try simp only [Act.put, List.setIfInBounds_toArray, List.set_cons_zero, List.set_cons_succ]
            refine wpDet_take (i := 23) (oi := _) (v := ?dv24) (by simp only [List.getElem?_toArray, List.getElem?_cons_zero, List.getElem?_cons_succ]; rfl) (by kernel_rfl) (by kernel_rfl) (by kernel_rfl) (Or.inl ⟨by rfl, ?dy24⟩) ?dr24
            case dy24 => (intro w hSw; have hS0 := hSw; (try dsimp only [MR] at hSw); go_simp; refine Came.value ?_ hS0; with_reducible rfl)
            try simp only [Act.put, List.setIfInBounds_toArray, List.set_cons_zero, List.set_cons_succ]
            refine wpDet_take (i := 24) (oi := _) (v := ?dv25) (by simp only [List.getElem?_toArray, List.getElem?_cons_zero, List.getElem?_cons_succ]; rfl) (by kernel_rfl) (by kernel_rfl) (by kernel_rfl) (Or.inl ⟨by rfl, ?dy25⟩) ?dr25
            case dy25 => (intro w hSw; have hS0 := hSw; (try dsimp only [MR] at hSw); go_simp; refine Came.value ?_ hS0; with_reducible rfl)
            try simp only [Act.put, List.setIfInBounds_toArray, List.set_cons_zero, List.set_cons_succ]
            refine wpDet_take (i := 25) (oi := _) (v := ?dv26) (by simp only [List.getElem?_toArray, List.getElem?_cons_zero, List.getElem?_cons_succ]; rfl) (by kernel_rfl) (by kernel_rfl) (by kernel_rfl) (Or.inl ⟨by rfl, ?dy26⟩) ?dr26
            case dy26 => (intro w hSw; have hS0 := hSw; (try dsimp only [MR] at hSw); go_simp; refine Came.value ?_ hS0; with_reducible rfl)
            try simp only [Act.put, List.setIfInBounds_toArray, List.set_cons_zero, List.set_cons_succ]
            refine wpDet_take (i := 26) (oi := _) (v := ?dv27) (by simp only [List.getElem?_toArray, List.getElem?_cons_zero, List.getElem?_cons_succ]; rfl) (by kernel_rfl) (by kernel_rfl) (by kernel_rfl) (Or.inl ⟨by rfl, ?dy27⟩) ?dr27
            case dy27 => (intro w hSw; have hS0 := hSw; (try dsimp only [MR] at hSw); go_simp; refine Came.value ?_ hS0; with_reducible rfl)
            try simp only [Act.put, List.setIfInBounds_toArray, List.set_cons_zero, List.set_cons_succ]
            refine wpDet_take (i := 27) (oi := _) (v := undef) (by simp only [List.getElem?_toArray, List.getElem?_cons_zero, List.getElem?_cons_succ]; rfl) (by kernel_rfl) (by kernel_rfl) (by kernel_rfl) (Or.inr ⟨by rfl, rfl⟩) ?_
            try simp only [Act.put, List.setIfInBounds_toArray, List.set_cons_zero, List.set_cons_succ]
            refine wpDet_take (i := 28) (oi := _) (v := undef) (by simp only [List.getElem?_toArray, List.getElem?_cons_zero, List.getElem?_cons_succ]; rfl) (by kernel_rfl) (by kernel_rfl) (by kernel_rfl) (Or.inr ⟨by rfl, rfl⟩) ?_
            try simp only [Act.put, List.setIfInBounds_toArray, List.set_cons_zero, List.set_cons_succ]
            refine wpDet_take (i := 29) (oi := _) (v := undef) (by simp only [List.getElem?_toArray, List.getElem?_cons_zero, List.getElem?_cons_succ]; rfl) (by kernel_rfl) (by kernel_rfl) (by kernel_rfl) (Or.inr ⟨by rfl, rfl⟩) ?_
            try simp only [Act.put, List.setIfInBounds_toArray, List.set_cons_zero, List.set_cons_succ]
            refine wpDet_take (i := 30) (oi := _) (v := undef) (by simp only [List.getElem?_toArray, List.getElem?_cons_zero, List.getElem?_cons_succ]; rfl) (by kernel_rfl) (by kernel_rfl) (by kernel_rfl) (Or.inr ⟨by rfl, rfl⟩) ?_
            try simp only [Act.put, List.setIfInBounds_toArray, List.set_cons_zero, List.set_cons_succ]
            refine wpDet_take (i := 31) (oi := _) (v := undef) (by simp only [List.getElem?_toArray, List.getElem?_cons_zero, List.getElem?_cons_succ]; rfl) (by kernel_rfl) (by kernel_rfl) (by kernel_rfl) (Or.inr ⟨by rfl, rfl⟩) ?_
            try simp only [Act.put, List.setIfInBounds_toArray, List.set_cons_zero, List.set_cons_succ]
            refine wpDet_take (i := 32) (oi := _) (v := undef) (by simp only [List.getElem?_toArray, List.getElem?_cons_zero, List.getElem?_cons_succ]; rfl) (by kernel_rfl) (by kernel_rfl) (by kernel_rfl) (Or.inr ⟨by rfl, rfl⟩) ?_
            try simp only [Act.put, List.setIfInBounds_toArray, List.set_cons_zero, List.set_cons_succ]
            refine wpDet_take (i := 33) (oi := _) (v := ?dv34) (by simp only [List.getElem?_toArray, List.getElem?_cons_zero, List.getElem?_cons_succ]; rfl) (by kernel_rfl) (by kernel_rfl) (by kernel_rfl) (Or.inl ⟨by rfl, ?dy34⟩) ?dr34
            case dy34 => (intro w hSw; have hS0 := hSw; (try dsimp only [MR] at hSw); go_simp; refine Came.value ?_ hS0; with_reducible rfl)
            try simp only [Act.put, List.setIfInBounds_toArray, List.set_cons_zero, List.set_cons_succ]
            refine wpDet_take (i := 34) (oi := _) (v := ?dv35) (by simp only [List.getElem?_toArray, List.getElem?_cons_zero, List.getElem?_cons_succ]; rfl) (by kernel_rfl) (by kernel_rfl) (by kernel_rfl) (Or.inl ⟨by rfl, ?dy35⟩) ?dr35
            case dy35 => (intro w hSw; have hS0 := hSw; (try dsimp only [MR] at hSw); go_simp; refine Came.value ?_ hS0; with_reducible rfl)
            try simp only [Act.put, List.setIfInBounds_toArray, List.set_cons_zero, List.set_cons_succ]
            refine wpDet_take (i := 35) (oi := _) (v := ?dv36) (by simp only [List.getElem?_toArray, List.getElem?_cons_zero, List.getElem?_cons_succ]; rfl) (by kernel_rfl) (by kernel_rfl) (by kernel_rfl) (Or.inl ⟨by rfl, ?dy36⟩) ?dr36
            case dy36 => (intro w hSw; have hS0 := hSw; (try dsimp only [MR] at hSw); go_simp; refine Came.value ?_ hS0; with_reducible rfl)
            try simp only [Act.put, List.setIfInBounds_toArray, List.set_cons_zero, List.set_cons_succ]
            refine wpDet_done (by kernel_rfl) ?_ _
            rintro w9 ⟨hF, _⟩
            go_wp2
            go_ret
            exact ⟨rfl, hF⟩
          · obtain ⟨rfl, rfl⟩ : a = 1 ∧ b = 1 := hab.resolve_left (fun e => hq (by rw [e, hnb]))
            have kq : ((1 : Int) == nb) = false := by simp [hq]
            clear hq hnb hab hbs
            go_wp2
            refine wp_region_det (S := MR w p u d w1.heap.size p' u' d') (by kernel_rfl) HR.out ?_
            refine wpDet_take (i := 0) (oi := _) (v := ?dv37) (by simp only [List.getElem?_toArray, List.getElem?_cons_zero]; rfl) (by kernel_rfl) (by kernel_rfl) (by kernel_rfl) (Or.inl ⟨by rfl, ?dy37⟩) ?dr37
            case dy37 => (intro w hSw; have hS0 := hSw; (try dsimp only [MR] at hSw); go_simp; refine Came.value ?_ hS0; with_reducible rfl)
            try simp only [Act.put, List.setIfInBounds_toArray, List.set_cons_zero, List.set_cons_succ]
            refine wpDet_take (i := 1) (oi := _) (v := ?dv38) (by simp only [List.getElem?_toArray, List.getElem?_cons_zero, List.getElem?_cons_succ]; rfl) (by kernel_rfl) (by kernel_rfl) (by kernel_rfl) (Or.inl ⟨by rfl, ?dy38⟩) ?dr38
            case dy38 => (intro w hSw; have hS0 := hSw; (try dsimp only [MR] at hSw); go_simp; refine Came.value ?_ hS0; with_reducible rfl)
            try simp only [Act.put, List.setIfInBounds_toArray, List.set_cons_zero, List.set_cons_succ]
            refine wpDet_take (i := 2) (oi := _) (v := ?dv39) (by simp only [List.getElem?_toArray, List.getElem?_cons_zero, List.getElem?_cons_succ]; rfl) (by kernel_rfl) (by kernel_rfl) (by kernel_rfl) (Or.inl ⟨by rfl, ?dy39⟩) ?dr39
            case dy39 => (intro w hSw; have hS0 := hSw; (try dsimp only [MR] at hSw); go_simp; refine Came.value ?_ hS0; with_reducible rfl)
            try simp only [Act.put, List.setIfInBounds_toArray, List.set_cons_zero, List.set_cons_succ]
            refine wpDet_take (i := 3) (oi := _) (v := ?dv40) (by simp only [List.getElem?_toArray, List.getElem?_cons_zero, List.getElem?_cons_succ]; rfl) (by kernel_rfl) (by kernel_rfl) (by kernel_rfl) (Or.inl ⟨by rfl, ?dy40⟩) ?dr40
            case dy40 => (intro w hSw; have hS0 := hSw; (try dsimp only [MR] at hSw); go_simp; refine Came.value ?_ hS0; with_reducible rfl)
            try simp only [Act.put, List.setIfInBounds_toArray, List.set_cons_zero, List.set_cons_succ]
            refine wpDet_take (i := 4) (oi := _) (v := ?dv41) (by simp only [List.getElem?_toArray, List.getElem?_cons_zero, List.getElem?_cons_succ]; rfl) (by kernel_rfl) (by kernel_rfl) (by kernel_rfl) (Or.inl ⟨by rfl, ?dy41⟩) ?dr41
            case dy41 => (intro w hSw; go_simp; exact Came.call ((AS.out w).mono fun e w' ⟨he, hf⟩ => ⟨he, hSw.fr hf⟩) (by with_reducible rfl))
            try simp only [Act.put, List.setIfInBounds_toArray, List.set_cons_zero, List.set_cons_succ]
            refine wpDet_take (i := 5) (oi := _) (v := ?dv42) (by simp only [List.getElem?_toArray, List.getElem?_cons_zero, List.getElem?_cons_succ]; rfl) (by kernel_rfl) (by kernel_rfl) (by kernel_rfl) (Or.inl ⟨by rfl, ?dy42⟩) ?dr42
            case dy42 => (intro w hSw; have hS0 := hSw; (try dsimp only [MR] at hSw); go_simp; refine Came.value ?_ hS0; with_reducible rfl)
            try simp only [Act.put, List.setIfInBounds_toArray, List.set_cons_zero, List.set_cons_succ]
            refine wpDet_take (i := 6) (oi := _) (v := ?dv43) (by simp only [List.getElem?_toArray, List.getElem?_cons_zero, List.getElem?_cons_succ]; rfl) (by kernel_rfl) (by kernel_rfl) (by kernel_rfl) (Or.inl ⟨by rfl, ?dy43⟩) ?dr43
            case dy43 => (intro w hSw; have hS0 := hSw; (try dsimp only [MR] at hSw); go_simp; refine Came.value ?_ hS0; with_reducible rfl)
            try simp only [Act.put, List.setIfInBounds_toArray, List.set_cons_zero, List.set_cons_succ]
            refine wpDet_take (i := 7) (oi := _) (v := ?dv44) (by simp only [List.getElem?_toArray, List.getElem?_cons_zero, List.getElem?_cons_succ]; rfl) (by kernel_rfl) (by kernel_rfl) (by kernel_rfl) (Or.inl ⟨by rfl, ?dy44⟩) ?dr44
            case dy44 => (intro w hSw; have hS0 := hSw; (try dsimp only [MR] at hSw); go_simp; refine Came.value ?_ hS0; with_reducible rfl)
            try simp only [Act.put, List.setIfInBounds_toArray, List.set_cons_zero, List.set_cons_succ]
            refine wpDet_take (i := 8) (oi := _) (v := ?dv45) (by simp only [List.getElem?_toArray, List.getElem?_cons_zero, List.getElem?_cons_succ]; rfl) (by kernel_rfl) (by kernel_rfl) (by kernel_rfl) (Or.inl ⟨by rfl, ?dy45⟩) ?dr45
            case dy45 => (intro w hSw; go_simp; exact Came.call ((BT.out w).mono fun e w' ⟨he, hf⟩ => ⟨he, hSw.fr hf⟩) (by with_reducible rfl))
            try simp only [Act.put, List.setIfInBounds_toArray, List.set_cons_zero, List.set_cons_succ]
            refine wpDet_take (i := 9) (oi := _) (v := ?dv46) (by simp only [List.getElem?_toArray, List.getElem?_cons_zero, List.getElem?_cons_succ]; rfl) (by kernel_rfl) (by kernel_rfl) (by kernel_rfl) (Or.inl ⟨by rfl, ?dy46⟩) ?dr46
            case dy46 => (intro w hSw; have hS0 := hSw; (try dsimp only [MR] at hSw); go_simp; refine Came.value ?_ hS0; with_reducible rfl)
            try simp only [Act.put, List.setIfInBounds_toArray, List.set_cons_zero, List.set_cons_succ]
            refine wpDet_take (i := 10) (oi := _) (v := ?dv47) (by simp only [List.getElem?_toArray, List.getElem?_cons_zero, List.getElem?_cons_succ]; rfl) (by kernel_rfl) (by kernel_rfl) (by kernel_rfl) (Or.inl ⟨by rfl, ?dy47⟩) ?dr47
            case dy47 => (intro w hSw; have hS0 := hSw; (try dsimp only [MR] at hSw); go_simp; refine Came.value ?_ hS0; with_reducible rfl)
            try simp only [Act.put, List.setIfInBounds_toArray, List.set_cons_zero, List.set_cons_succ]
            refine wpDet_take (i := 11) (oi := _) (v := ?dv48) (by simp only [List.getElem?_toArray, List.getElem?_cons_zero, List.getElem?_cons_succ]; rfl) (by kernel_rfl) (by kernel_rfl) (by kernel_rfl) (Or.inl ⟨by rfl, ?dy48⟩) ?dr48
            case dy48 => (intro w hSw; have hS0 := hSw; (try dsimp only [MR] at hSw); go_simp; refine Came.value ?_ hS0; with_reducible rfl)
            try simp only [Act.put, List.setIfInBounds_toArray, List.set_cons_zero, List.set_cons_succ]
            refine wpDet_take (i := 12) (oi := _) (v := ?dv49) (by simp only [List.getElem?_toArray, List.getElem?_cons_zero, List.getElem?_cons_succ]; rfl) (by kernel_rfl) (by kernel_rfl) (by kernel_rfl) (Or.inl ⟨by rfl, ?dy49⟩) ?dr49
            case dy49 => (intro w hSw; have hS0 := hSw; (try dsimp only [MR] at hSw); go_simp; refine Came.value ?_ hS0; with_reducible rfl)
            try simp only [Act.put, List.setIfInBounds_toArray, List.set_cons_zero, List.set_cons_succ]
            refine wpDet_take (i := 13) (oi := _) (v := ?dv50) (by simp only [List.getElem?_toArray, List.getElem?_cons_zero, List.getElem?_cons_succ]; rfl) (by kernel_rfl) (by kernel_rfl) (by kernel_rfl) (Or.inl ⟨by rfl, ?dy50⟩) ?dr50
            case dy50 => (intro w hSw; have hS0 := hSw; (try dsimp only [MR] at hSw); go_simp; refine Came.value ?_ hS0; with_reducible rfl)
            try simp only [Act.put, List.setIfInBounds_toArray, List.set_cons_zero, List.set_cons_succ]
            refine wpDet_take (i := 14) (oi := _) (v := ?dv51) (by simp only [List.getElem?_toArray, List.getElem?_cons_zero, List.getElem?_cons_succ]; rfl) (by kernel_rfl) (by kernel_rfl) (by kernel_rfl) (Or.inl ⟨by rfl, ?dy51⟩) ?dr51
            case dy51 => (intro w hSw; go_simp; exact Came.call ((BSS.out w).mono fun e w' ⟨he, hf⟩ => ⟨he, hSw.fr hf⟩) (by with_reducible rfl))
            try simp only [Act.put, List.setIfInBounds_toArray, List.set_cons_zero, List.set_cons_succ]
            refine wpDet_take (i := 15) (oi := _) (v := ?dv52) (by simp only [List.getElem?_toArray, List.getElem?_cons_zero, List.getElem?_cons_succ]; rfl) (by kernel_rfl) (by kernel_rfl) (by kernel_rfl) (Or.inl ⟨by rfl, ?dy52⟩) ?dr52
            case dy52 => (intro w hSw; have hS0 := hSw; (try dsimp only [MR] at hSw); go_simp; refine Came.value ?_ hS0; with_reducible rfl)
            try simp only [Act.put, List.setIfInBounds_toArray, List.set_cons_zero, List.set_cons_succ]
            refine wpDet_take (i := 16) (oi := _) (v := ?dv53) (by simp only [List.getElem?_toArray, List.getElem?_cons_zero, List.getElem?_cons_succ]; rfl) (by kernel_rfl) (by kernel_rfl) (by kernel_rfl) (Or.inl ⟨by rfl, ?dy53⟩) ?dr53
            case dy53 => (intro w hSw; have hS0 := hSw; (try dsimp only [MR] at hSw); go_simp; refine Came.value ?_ hS0; with_reducible rfl)
            try simp only [Act.put, List.setIfInBounds_toArray, List.set_cons_zero, List.set_cons_succ]
            refine wpDet_take (i := 17) (oi := _) (v := ?dv54) (by simp only [List.getElem?_toArray, List.getElem?_cons_zero, List.getElem?_cons_succ]; rfl) (by kernel_rfl) (by kernel_rfl) (by kernel_rfl) (Or.inl ⟨by rfl, ?dy54⟩) ?dr54
            case dy54 => (intro w hSw; have hS0 := hSw; (try dsimp only [MR] at hSw); go_simp; refine Came.value ?_ hS0; with_reducible rfl)
            try simp only [Act.put, List.setIfInBounds_toArray, List.set_cons_zero, List.set_cons_succ]
            refine wpDet_take (i := 18) (oi := _) (v := ?dv55) (by simp only [List.getElem?_toArray, List.getElem?_cons_zero, List.getElem?_cons_succ]; rfl) (by kernel_rfl) (by kernel_rfl) (by kernel_rfl) (Or.inl ⟨by rfl, ?dy55⟩) ?dr55
            case dy55 => (intro w hSw; go_simp; exact Came.call ((ATT.out w).mono fun e w' ⟨he, hf⟩ => ⟨he, hSw.fr hf⟩) (by with_reducible rfl))
            try simp only [Act.put, List.setIfInBounds_toArray, List.set_cons_zero, List.set_cons_succ]
            refine wpDet_take (i := 19) (oi := _) (v := ?dv56) (by simp only [List.getElem?_toArray, List.getElem?_cons_zero, List.getElem?_cons_succ]; rfl) (by kernel_rfl) (by kernel_rfl) (by kernel_rfl) (Or.inl ⟨by rfl, ?dy56⟩) ?dr56
            case dy56 => (intro w hSw; have hS0 := hSw; (try dsimp only [MR] at hSw); go_simp; refine Came.value ?_ hS0; with_reducible rfl)
            try simp only [Act.put, List.setIfInBounds_toArray, List.set_cons_zero, List.set_cons_succ]
            refine wpDet_take (i := 20) (oi := _) (v := ?dv57) (by simp only [List.getElem?_toArray, List.getElem?_cons_zero, List.getElem?_cons_succ]; rfl) (by kernel_rfl) (by kernel_rfl) (by kernel_rfl) (Or.inl ⟨by rfl, ?dy57⟩) ?dr57
            case dy57 => (intro w hSw; have hS0 := hSw; (try dsimp only [MR] at hSw); go_simp; refine Came.value ?_ hS0; with_reducible rfl)
            try simp only [Act.put, List.setIfInBounds_toArray, List.set_cons_zero, List.set_cons_succ]
            refine wpDet_take (i := 21) (oi := _) (v := ?dv58) (by simp only [List.getElem?_toArray, List.getElem?_cons_zero, List.getElem?_cons_succ]; rfl) (by kernel_rfl) (by kernel_rfl) (by kernel_rfl) (Or.inl ⟨by rfl, ?dy58⟩) ?dr58
            case dy58 => (intro w hSw; have hS0 := hSw; (try dsimp only [MR] at hSw); go_simp; refine Came.value ?_ hS0; with_reducible rfl)
            try simp only [Act.put, List.setIfInBounds_toArray, List.set_cons_zero, List.set_cons_succ]
            refine wpDet_take (i := 22) (oi := _) (v := ?dv59) (by simp only [List.getElem?_toArray, List.getElem?_cons_zero, List.getElem?_cons_succ]; rfl) (by kernel_rfl) (by kernel_rfl) (by kernel_rfl) (Or.inl ⟨by rfl, ?dy59⟩) ?dr59
            case dy59 => (intro w hSw; have hS0 := hSw; (try dsimp only [MR] at hSw); go_simp; refine Came.value ?_ hS0; with_reducible rfl)
            try simp only [Act.put, List.setIfInBounds_toArray, List.set_cons_zero, List.set_cons_succ]
            refine wpDet_take (i := 23) (oi := _) (v := ?dv60) (by simp only [List.getElem?_toArray, List.getElem?_cons_zero, List.getElem?_cons_succ]; rfl) (by kernel_rfl) (by kernel_rfl) (by kernel_rfl) (Or.inl ⟨by rfl, ?dy60⟩) ?dr60
            case dy60 => (intro w hSw; have hS0 := hSw; (try dsimp only [MR] at hSw); go_simp; refine Came.value ?_ hS0; with_reducible rfl)
            try simp only [Act.put, List.setIfInBounds_toArray, List.set_cons_zero, List.set_cons_succ]
            refine wpDet_take (i := 24) (oi := _) (v := ?dv61) (by simp only [List.getElem?_toArray, List.getElem?_cons_zero, List.getElem?_cons_succ]; rfl) (by kernel_rfl) (by kernel_rfl) (by kernel_rfl) (Or.inl ⟨by rfl, ?dy61⟩) ?dr61
            case dy61 => (intro w hSw; have hS0 := hSw; (try dsimp only [MR] at hSw); go_simp; refine Came.value ?_ hS0; with_reducible rfl)
            try simp only [Act.put, List.setIfInBounds_toArray, List.set_cons_zero, List.set_cons_succ]
            refine wpDet_take (i := 25) (oi := _) (v := ?dv62) (by simp only [List.getElem?_toArray, List.getElem?_cons_zero, List.getElem?_cons_succ]; rfl) (by kernel_rfl) (by kernel_rfl) (by kernel_rfl) (Or.inl ⟨by rfl, ?dy62⟩) ?dr62
            case dy62 => (intro w hSw; have hS0 := hSw; (try dsimp only [MR] at hSw); go_simp; refine Came.value ?_ hS0; with_reducible rfl)
            try simp only [Act.put, List.setIfInBounds_toArray, List.set_cons_zero, List.set_cons_succ]
            refine wpDet_take (i := 26) (oi := _) (v := ?dv63) (by simp only [List.getElem?_toArray, List.getElem?_cons_zero, List.getElem?_cons_succ]; rfl) (by kernel_rfl) (by kernel_rfl) (by kernel_rfl) (Or.inl ⟨by rfl, ?dy63⟩) ?dr63
            case dy63 => (intro w hSw; have hS0 := hSw; (try dsimp only [MR] at hSw); go_simp; refine Came.value ?_ hS0; with_reducible rfl)
            try simp only [Act.put, List.setIfInBounds_toArray, List.set_cons_zero, List.set_cons_succ]
            refine wpDet_take (i := 27) (oi := _) (v := ?dv64) (by simp only [List.getElem?_toArray, List.getElem?_cons_zero, List.getElem?_cons_succ]; rfl) (by kernel_rfl) (by kernel_rfl) (by kernel_rfl) (Or.inl ⟨by rfl, ?dy64⟩) ?dr64
            case dy64 => (intro w hSw; have hS0 := hSw; (try dsimp only [MR] at hSw); go_simp; refine Came.value ?_ hS0; with_reducible rfl)
            try simp only [Act.put, List.setIfInBounds_toArray, List.set_cons_zero, List.set_cons_succ]
            refine wpDet_take (i := 28) (oi := _) (v := ?dv65) (by simp only [List.getElem?_toArray, List.getElem?_cons_zero, List.getElem?_cons_succ]; rfl) (by kernel_rfl) (by kernel_rfl) (by kernel_rfl) (Or.inl ⟨by rfl, ?dy65⟩) ?dr65
            case dy65 => (intro w hSw; have hS0 := hSw; (try dsimp only [MR] at hSw); go_simp; refine Came.value ?_ hS0; with_reducible rfl)
            try simp only [Act.put, List.setIfInBounds_toArray, List.set_cons_zero, List.set_cons_succ]
            refine wpDet_take (i := 29) (oi := _) (v := ?dv66) (by simp only [List.getElem?_toArray, List.getElem?_cons_zero, List.getElem?_cons_succ]; rfl) (by kernel_rfl) (by kernel_rfl) (by kernel_rfl) (Or.inl ⟨by rfl, ?dy66⟩) ?dr66
            case dy66 => (intro w hSw; have hS0 := hSw; (try dsimp only [MR] at hSw); go_simp; refine Came.value ?_ hS0; with_reducible rfl)
            try simp only [Act.put, List.setIfInBounds_toArray, List.set_cons_zero, List.set_cons_succ]
            refine wpDet_take (i := 30) (oi := _) (v := ?dv67) (by simp only [List.getElem?_toArray, List.getElem?_cons_zero, List.getElem?_cons_succ]; rfl) (by kernel_rfl) (by kernel_rfl) (by kernel_rfl) (Or.inl ⟨by rfl, ?dy67⟩) ?dr67
            case dy67 => (intro w hSw; have hS0 := hSw; (try dsimp only [MR] at hSw); go_simp; refine Came.value ?_ hS0; with_reducible rfl)
            try simp only [Act.put, List.setIfInBounds_toArray, List.set_cons_zero, List.set_cons_succ]
            refine wpDet_take (i := 31) (oi := _) (v := ?dv68) (by simp only [List.getElem?_toArray, List.getElem?_cons_zero, List.getElem?_cons_succ]; rfl) (by kernel_rfl) (by kernel_rfl) (by kernel_rfl) (Or.inl ⟨by rfl, ?dy68⟩) ?dr68
            case dy68 => (intro w hSw; have hS0 := hSw; (try dsimp only [MR] at hSw); go_simp; refine Came.value ?_ hS0; with_reducible rfl)
            try simp only [Act.put, List.setIfInBounds_toArray, List.set_cons_zero, List.set_cons_succ]
            refine wpDet_take (i := 32) (oi := _) (v := ?dv69) (by simp only [List.getElem?_toArray, List.getElem?_cons_zero, List.getElem?_cons_succ]; rfl) (by kernel_rfl) (by kernel_rfl) (by kernel_rfl) (Or.inl ⟨by rfl, ?dy69⟩) ?dr69
            case dy69 => (intro w hSw; have hS0 := hSw; (try dsimp only [MR] at hSw); go_simp; refine Came.value ?_ hS0; with_reducible rfl)
            try simp only [Act.put, List.setIfInBounds_toArray, List.set_cons_zero, List.set_cons_succ]
            refine wpDet_take (i := 33) (oi := _) (v := ?dv70) (by simp only [List.getElem?_toArray, List.getElem?_cons_zero, List.getElem?_cons_succ]; rfl) (by kernel_rfl) (by kernel_rfl) (by kernel_rfl) (Or.inl ⟨by rfl, ?dy70⟩) ?dr70
            case dy70 => (intro w hSw; have hS0 := hSw; (try dsimp only [MR] at hSw); go_simp; refine Came.value ?_ hS0; with_reducible rfl)
            try simp only [Act.put, List.setIfInBounds_toArray, List.set_cons_zero, List.set_cons_succ]
            refine wpDet_take (i := 34) (oi := _) (v := ?dv71) (by simp only [List.getElem?_toArray, List.getElem?_cons_zero, List.getElem?_cons_succ]; rfl) (by kernel_rfl) (by kernel_rfl) (by kernel_rfl) (Or.inl ⟨by rfl, ?dy71⟩) ?dr71
            case dy71 => (intro w hSw; have hS0 := hSw; (try dsimp only [MR] at hSw); go_simp; refine Came.value ?_ hS0; with_reducible rfl)
            try simp only [Act.put, List.setIfInBounds_toArray, List.set_cons_zero, List.set_cons_succ]
            refine wpDet_take (i := 35) (oi := _) (v := ?dv72) (by simp only [List.getElem?_toArray, List.getElem?_cons_zero, List.getElem?_cons_succ]; rfl) (by kernel_rfl) (by kernel_rfl) (by kernel_rfl) (Or.inl ⟨by rfl, ?dy72⟩) ?dr72
            case dy72 => (intro w hSw; have hS0 := hSw; (try dsimp only [MR] at hSw); go_simp; refine Came.value ?_ hS0; with_reducible rfl)
            try simp only [Act.put, List.setIfInBounds_toArray, List.set_cons_zero, List.set_cons_succ]
            refine wpDet_done (by kernel_rfl) ?_ _
            rintro w9 ⟨hF, _⟩
            go_wp2
            go_ret
            exact ⟨rfl, hF⟩
theorem amirrors_walk (s : Sp) (h : s.ok) (k : Int) (hk0 : -9223372036854775808 ≤ k) (hk1 : k ≤ 9223372036854775807) (w : World) (hT : Tz w) : Calls Tryd.prog 5 #[s.v, .int .i64 k] w fun x w' => x = .returned (.bool true) ∧ w.grownBy w' none :=
  (mirrors_true s k h hk0 hk1 w hT).mono fun _ _ ⟨he, hf⟩ => ⟨he, hf.grown (by simp)⟩
end Go.Proofs.YtaoflgfppdbhiaaDoor
