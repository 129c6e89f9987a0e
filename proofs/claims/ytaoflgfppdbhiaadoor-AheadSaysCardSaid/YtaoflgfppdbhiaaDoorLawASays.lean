/- Of any floors and latches, any stops: the package says what the document's stops say. -/
import Derived.Test.YtaoflgfppdbhiaaDoorARof
import Derived.Test.YtaoflgfppdbhiaaDoorATz
import Derived.Test.YtaoflgfppdbhiaaDoorAFirst
namespace Go.Proofs.YtaoflgfppdbhiaaDoor
open Go.RowKit

/-- The cells of the stops, the call, and the document's stops; in a world that came of X. -/
def AS (X : World) (b b' : Nat) (p u d : Nat) (f e : Int) (a : World) : Prop := Fr X a [] ∧
  (a.cell? ⟨b, 0, none⟩ = some (.int .u64 p) ∧ a.cell? ⟨b, 1, none⟩ = some (.int .u64 u) ∧ a.cell? ⟨b, 2, none⟩ = some (.int .u64 d)) ∧
  (a.cell? ⟨b + 1, 0, none⟩ = some (.int .i64 f) ∧ a.cell? ⟨b + 1, 1, none⟩ = some (.int .i64 e)) ∧
  (a.cell? ⟨b', 0, none⟩ = some (.int .u64 p) ∧ a.cell? ⟨b', 1, none⟩ = some (.int .u64 u) ∧ a.cell? ⟨b', 2, none⟩ = some (.int .u64 d))
theorem AS.fr {X : World} {b b' p u d : Nat} {f e : Int} {a a' : World} (h : AS X b b' p u d f e a) (k : Fr a a' []) : AS X b b' p u d f e a' := by
  obtain ⟨h0, ⟨h1, h2, h3⟩, ⟨h4, h5⟩, h6, h7, h8⟩ := h
  exact ⟨h0.trans k, ⟨k.cell h1 (by simp), k.cell h2 (by simp), k.cell h3 (by simp)⟩, ⟨k.cell h4 (by simp), k.cell h5 (by simp)⟩, k.cell h6 (by simp), k.cell h7 (by simp), k.cell h8 (by simp)⟩
theorem AS.self {X : World} {b b' p u d : Nat} {f e : Int} {a : World} (h : AS X b b' p u d f e a) : AS a b b' p u d f e a := ⟨Fr.refl _ _, h.2⟩
/-- The first two boxes. -/
def AY (W : World) (p u d : Nat) (f e : Int) (a : World) : Prop := Fr W a [] ∧
  (a.cell? ⟨W.heap.size, 0, none⟩ = some (.int .u64 p) ∧ a.cell? ⟨W.heap.size, 1, none⟩ = some (.int .u64 u) ∧ a.cell? ⟨W.heap.size, 2, none⟩ = some (.int .u64 d)) ∧
  (a.cell? ⟨W.heap.size + 1, 0, none⟩ = some (.int .i64 f) ∧ a.cell? ⟨W.heap.size + 1, 1, none⟩ = some (.int .i64 e))
theorem AY.fr {W : World} {p u d : Nat} {f e : Int} {a a' : World} (h : AY W p u d f e a) (k : Fr a a' []) : AY W p u d f e a' := by
  obtain ⟨h0, ⟨h1, h2, h3⟩, h4, h5⟩ := h
  exact ⟨h0.trans k, ⟨k.cell h1 (by simp), k.cell h2 (by simp), k.cell h3 (by simp)⟩, k.cell h4 (by simp), k.cell h5 (by simp)⟩
theorem AY.new (w : World) (p u d : Nat) (f e : Int) : AY w p u d f e ((w.alloc (.cells #[.int .u64 p, .int .u64 u, .int .u64 d] 26)).alloc (.cells #[.int .i64 f, .int .i64 e] 28)) := by
  have a2 := heap_alloc_new (w.alloc (.cells #[.int .u64 p, .int .u64 u, .int .u64 d] 26)) (.cells #[.int .i64 f, .int .i64 e] 28)
  rw [show (w.alloc (.cells #[.int .u64 p, .int .u64 u, .int .u64 d] 26)).heap.size = w.heap.size + 1 by simp] at a2
  exact ⟨(Fr.alloc w _ []).trans (Fr.alloc _ _ []), arow ((Fr.alloc _ _ []).heap (heap_alloc_new w _) (by simp)), by rw [cell_of_row _ _ 0 _ _ _ a2]; rfl, by rw [cell_of_row _ _ 1 _ _ _ a2]; rfl⟩
theorem AY.more {W : World} {p u d : Nat} {f e : Int} {a : World} (h : AY W p u d f e a) : AS W W.heap.size a.heap.size p u d f e (a.alloc (.cells #[.int .u64 p, .int .u64 u, .int .u64 d] 30)) := by
  have k := h.fr (Fr.alloc a (.cells #[.int .u64 p, .int .u64 u, .int .u64 d] 30) [])
  exact ⟨k.1, k.2.1, k.2.2, arow (heap_alloc_new a _)⟩

set_option maxHeartbeats 8000000 in
set_option maxRecDepth 100000 in
theorem says_true (v1 : Value) (l : List Int) (v2 : Value) (m : List La) (s : Sp) (f e z dr : Int) (h : s.ok) (w : World) (h1 : HInts w v1 l) (h2 : HLs w v2 m) (hT : Tz w) :
    Calls Tryd.prog 3 #[v1, v2, s.v, .agg #[.int .i64 f, .int .i64 e], .int .i64 z, .int .i64 dr] w fun x w' => x = .returned (.bool true) ∧ Fr w w' [] := by
  obtain ⟨i0, hi, hz0, hz1, hz2⟩ := info_parts infoI
  have H1 := Lib.hid h1
  have H2 := Lib.hid h2
  have HT := Lib.hid hT
  obtain ⟨n, hn⟩ : ∃ n, n = s.all := ⟨_, rfl⟩
  have hlt : n < 18446744073709551616 := by rw [hn]; exact h.all
  obtain ⟨r, hr⟩ : ∃ r, r = ofS l m := ⟨_, rfl⟩
  obtain ⟨t, ht⟩ : ∃ t, t = s.put f e := ⟨_, rfl⟩
  have OF := Lib.hid (fun W (k1 : HInts W v1 l) (k2 : HLs W v2 m) => of_any v1 l v2 m W k1 k2 r hr)
  have RO := Lib.hid (fun W (k1 : HInts W v1 l) (k2 : HLs W v2 m) => rof_any v1 l v2 m W k1 k2 r hr)
  have SM1 := Lib.hid (fun W => same_any r W)
  have SM2 := Lib.hid (fun W => same_any t W)
  have PU := Lib.hid (fun W => put_any s f e W h t ht)
  have RPU := Lib.hid (fun W => rput_any s f e W h t ht)
  obtain ⟨bA, hbA⟩ : ∃ b, b = hasB s.c z := ⟨_, rfl⟩
  have AT := Lib.hid (fun W => at_any s z W h bA hbA)
  have RAT := Lib.hid (fun W => rat_any s z W h bA hbA)
  obtain ⟨bH, hbH⟩ : ∃ b, b = s.hall z dr := ⟨_, rfl⟩
  have HA := Lib.hid (fun W => hall_any s z dr W h bH hbH)
  have RHA := Lib.hid (fun W => rhall_any s z dr W h bH hbH)
  obtain ⟨c, hc⟩ : ∃ c, c = min (max z (-1)) 64 := ⟨_, rfl⟩
  have hcr : -1 ≤ c ∧ c ≤ 64 := by omega
  obtain ⟨bU, hbU⟩ : ∃ b, b = decide (upN s.all c ≠ 0) := ⟨_, rfl⟩
  obtain ⟨bD, hbD⟩ : ∃ b, b = decide (dnN s.all c ≠ 0) := ⟨_, rfl⟩
  have iU : bU = true ↔ ∃ y, z < y ∧ hasB s.all y = true := by
    rw [hbU, decide_eq_true_iff]
    exact (upN_some hcr.1).trans ⟨fun ⟨y, a, q⟩ => ⟨y, ((near_cut h.all hc y q).1).2 a, q⟩, fun ⟨y, a, q⟩ => ⟨y, ((near_cut h.all hc y q).1).1 a, q⟩⟩
  have iD : bD = true ↔ ∃ y, y < z ∧ hasB s.all y = true := by
    rw [hbD, decide_eq_true_iff]
    exact (dnN_some hcr.2).trans ⟨fun ⟨y, a, q⟩ => ⟨y, ((near_cut h.all hc y q).2).2 a, q⟩, fun ⟨y, a, q⟩ => ⟨y, ((near_cut h.all hc y q).2).1 a, q⟩⟩
  have AB := Lib.hid (fun W => aboveB_any s z W h bU iU)
  have RAB := Lib.hid (fun W => rabove_any s z W h bU iU)
  have BE := Lib.hid (fun W => belowB_any s z W h bD iD)
  have RBE := Lib.hid (fun W => rbelow_any s z W h bD iD)
  obtain ⟨bT, hbT⟩ : ∃ b, b = if dr = 1 then bU else if dr = -1 then bD else false := ⟨_, rfl⟩
  have t1 : dr = 1 → (bT = true ↔ ∃ y, z < y ∧ hasB s.all y = true) := fun q => by rw [hbT, if_pos q]; exact iU
  have t2 : dr = -1 → (bT = true ↔ ∃ y, y < z ∧ hasB s.all y = true) := fun q => by rw [hbT, if_neg (by omega), if_pos q]; exact iD
  have t3 : dr ≠ 1 → dr ≠ -1 → bT = false := fun q1 q2 => by rw [hbT, if_neg q1, if_neg q2]
  have TO := Lib.hid (fun W => toward_any s z dr W h bT t1 t2 t3)
  have RTO := Lib.hid (fun W => rtoward_any s z dr W h bT t1 t2 t3)
  obtain ⟨x, hx⟩ : ∃ x, x = nearC (upN s.all c) (dnN s.all c) := ⟨_, rfl⟩
  have hxn : NearIs s.all (min (max z (-1)) 64) x := by rw [← hc, hx]; exact near_code h.all hcr.1 hcr.2
  have NE := Lib.hid (fun W hT => near_any s z W h hT x hxn)
  have RNE := Lib.hid (fun W => rnear_any s z W h x hxn)
  have FL := Lib.hid (fun W hT => floors_any s W h hT (bitsOf n) (by rw [hn]))
  have AN := Lib.hid (fun (i : Int) (y : Bool) (hy : y = hasB n i) W => rany_any s i W h y (by rw [← hn]; exact hy))
  have OT := Lib.hid (fun W => other_any s W)
  have HLN := Lib.hid (show (bitsOf n).length ≤ 64 by rw [bitsOf_len]; exact bits_len _)
  have kA : (bA == bA) = true := by simp
  have kH : (bH == bH) = true := by simp
  have kU : (bU == bU) = true := by simp
  have kD : (bD == bD) = true := by simp
  have kT : (bT == bT) = true := by simp
  have kX : (x == x) = true := by simp
  obtain ⟨a1, cap1, rfl, q1, m1, r1⟩ := h1
  obtain ⟨a2, cap2, rfl, q2, m2, r2⟩ := h2
  unfold maxLen at m1 m2
  clear r1 r2 hT hlt hr ht hbA hbH hbU hbD hbT iU iD t1 t2 t3 hx hxn hc hcr hn h
  obtain ⟨p, u, d⟩ := s
  obtain ⟨rp, ru, rd⟩ := r
  obtain ⟨tp, tu, td⟩ := t
  have HY0 := Lib.hid (AY.new w p u d f e)
  dsimp only [Sp.v] at *
  go_enter Tryd.func3, Tryd.ntmps3
  go_wp2_with fail
  with_reducible refine (first_any _).mono ?_
  rintro y w1 ⟨rfl, hf⟩
  have HY1 := Lib.hid (HY0.out.fr hf)
  clear hf HY0
  by_cases hl : l.length ≤ 40
  · by_cases hm : m.length ≤ 40
    · obtain ⟨_, ⟨c0, c1, c2⟩, _⟩ := HY1.out
      go_wp2_with fail
      with_reducible refine (OT.out _).mono ?_
      rintro y w2 ⟨rfl, hf⟩
      have HS2 := Lib.hid ((HY1.out.fr hf).more)
      obtain ⟨b', hb'⟩ : ∃ b', b' = w2.heap.size := ⟨_, rfl⟩
      clear hf c0 c1 c2 HY1 OT hb'
      go_wp2
      go_loopw [15, 16] (fun v i wr => ∃ k : Nat, k ≤ 64 ∧ i = .int .i64 k ∧ Hid (OwnI wr (w2.heap.size + 1) v (bitsTo n k)) ∧ Hid (Fr (w2.alloc (.cells #[.int .u64 p, .int .u64 u, .int .u64 d] 30)) wr [])) (fun _ i _ => 64 - (intOf i).toNat)
      case atStart => exact ⟨0, Nat.zero_le _, rfl, Lib.hid (OwnI.nil _ _), Lib.hid (Fr.refl _ _)⟩
      case round =>
        obtain ⟨k, hk, rfl, HO, HF⟩ := hrel
        have HSR := Lib.hid (HS2.out.fr HF.out)
        by_cases hlk : k < 64
        · obtain ⟨y, hy⟩ : ∃ y, y = hasB n k := ⟨_, rfl⟩
          have AX := Lib.hid (fun W => AN.out k y hy W)
          have HKL := Lib.hid (bitsTo_len n k)
          obtain ⟨_, _, _, c0, c1, c2⟩ := HSR.out
          go_wp2_with fail
          with_reducible refine (AX.out _).mono ?_
          rintro e3 w3 ⟨rfl, hf⟩
          have HO3 := Lib.hid (HO.out.keep hf)
          have HF3 := Lib.hid (HF.out.trans hf)
          clear hf c0 c1 c2 HO HF HSR
          cases y with
          | false =>
            have HE : Hid (bitsTo n (k + 1) = bitsTo n k) := bitsTo_no hy.symm
            clear hy
            go_wp2
            go_roundw
            case rel => exact ⟨k + 1, by omega, by go_num, by rw [HE.out]; exact HO3, HF3⟩
            case measure => simp [intOf]; omega
          | true =>
            have HE : Hid (bitsTo n (k + 1) = bitsTo n k ++ [(k : Int)]) := bitsTo_yes hy.symm
            have HZ3 : Hid (w2.heap.size + 1 ≤ w3.heap.size + 1) := by
              refine Lib.hid ?_
              have := HF3.out.size
              simp at this
              omega
            clear hy
            go_wp2_with (at_builtin; refine wpList_append_own _ rfl _ _ 22 rfl (w2.heap.size + 1) 3 i0 (.int .i64 0) 1 8 Tryd.underlying22 hi hz0 hz1 hz2 rfl (by decide) _ _ _ rfl (World.ownsRow.alloc HO3.out _) ⟨w3.heap.size, 0, none⟩ 1 1 [.int .i64 k] rfl rfl (cell_one_new _ _ _) (one_cell _ _) (by have := HKL.out; unfold maxLen; omega) (by have := HKL.out; omega) (by have := HZ3.out; simp; omega) ?_; intro v' w4 hown4 hg4 _)
            have HG := Lib.hid (Fr.of_grown (grown_new (HF3.out.grown (by simp)) (grown_trans (World.grownBy_alloc w3 _ _) hg4) (fun r hr => by have := (HO3.out.block r hr).1; simp; omega)) [])
            have HN : Hid (OwnI w4 (w2.heap.size + 1) v' (bitsTo n (k + 1))) := by show OwnI _ _ _ _; rw [HE.out]; exact OwnI.snoc hown4
            clear hown4 hg4
            go_wp2
            go_roundw
            case rel => exact ⟨k + 1, by omega, by go_num, HN, HG⟩
            case measure => simp [intOf]; omega
        · obtain rfl : 64 = k := by omega
          rw [bitsTo_all] at HO
          have HVA := Lib.hid HO.out.holds
          have h5 := Lib.hid (HS2.out.fr HF.out)
          clear HO HF HS2 AN
          go_wp2_with fail
          simp only [List.append_eq, List.cons_append, List.nil_append]
          refine wp_region_noPanic ?_
          refine wp_region_held_drew (S := (AS wr w.heap.size w2.heap.size p u d f e)) (by kernel_rfl) (h5.out.self.fr (Fr.drew _ [])) (fun hHeld => ?_)
          refine wpAnyH_take (i := 0) (oi := _) (v := ?fv0h1n2) (by simp only [List.getElem?_toArray, List.getElem?_cons_zero]; rfl) (by kernel_rfl) (by kernel_rfl) (by kernel_rfl) (fun _ _ _ h => h) (Or.inl ⟨by rfl, ?fy0h1n2⟩) (by assumption) ?fr0h1n2
          case fy0h1n2 => (intro w hSw; (try dsimp only [AS] at hSw); go_simp; try with_reducible rfl)
          try simp only [Act.put, List.setIfInBounds_toArray, List.set_cons_zero, List.set_cons_succ]
          refine wpAnyH_take (i := 1) (oi := _) (v := ?fv1h1n2) (by simp only [List.getElem?_toArray, List.getElem?_cons_zero, List.getElem?_cons_succ]; rfl) (by kernel_rfl) (by kernel_rfl) (by kernel_rfl) (fun _ _ _ h => h) (Or.inl ⟨by rfl, ?fy1h1n2⟩) (by assumption) ?fr1h1n2
          case fy1h1n2 => (intro w hSw; (try dsimp only [AS] at hSw); go_simp; try with_reducible rfl)
          try simp only [Act.put, List.setIfInBounds_toArray, List.set_cons_zero, List.set_cons_succ]
          refine wpAnyH_take (i := 2) (oi := _) (v := ?fv2h1n2) (by simp only [List.getElem?_toArray, List.getElem?_cons_zero, List.getElem?_cons_succ]; rfl) (by kernel_rfl) (by kernel_rfl) (by kernel_rfl) (fun _ _ _ h => h) (Or.inl ⟨by rfl, ?fy2h1n2⟩) (by assumption) ?fr2h1n2
          case fy2h1n2 => (intro w hSw; (try dsimp only [AS] at hSw); go_simp; try with_reducible rfl)
          try simp only [Act.put, List.setIfInBounds_toArray, List.set_cons_zero, List.set_cons_succ]
          refine wpAnyH_take (i := 3) (oi := _) (v := ?fv3h1n2) (by simp only [List.getElem?_toArray, List.getElem?_cons_zero, List.getElem?_cons_succ]; rfl) (by kernel_rfl) (by kernel_rfl) (by kernel_rfl) (fun _ _ _ h => h) (Or.inl ⟨by rfl, ?fy3h1n2⟩) (by assumption) ?fr3h1n2
          case fy3h1n2 => (intro w hSw; (try dsimp only [AS] at hSw); go_simp; try with_reducible rfl)
          try simp only [Act.put, List.setIfInBounds_toArray, List.set_cons_zero, List.set_cons_succ]
          refine wpAnyH_take (i := 5) (oi := _) (v := ?fv5h1n2) (by simp only [List.getElem?_toArray, List.getElem?_cons_zero, List.getElem?_cons_succ]; rfl) (by kernel_rfl) (by kernel_rfl) (by kernel_rfl) (fun _ _ _ h => h) (Or.inl ⟨by rfl, ?fy5h1n2⟩) (by assumption) ?fr5h1n2
          case fy5h1n2 => (intro w hSw; (try dsimp only [AS] at hSw); go_simp; try with_reducible rfl)
          try simp only [Act.put, List.setIfInBounds_toArray, List.set_cons_zero, List.set_cons_succ]
          refine wpAnyH_take (i := 6) (oi := _) (v := ?fv6h1n2) (by simp only [List.getElem?_toArray, List.getElem?_cons_zero, List.getElem?_cons_succ]; rfl) (by kernel_rfl) (by kernel_rfl) (by kernel_rfl) (fun _ _ _ h => h) (Or.inl ⟨by rfl, ?fy6h1n2⟩) (by assumption) ?fr6h1n2
          case fy6h1n2 => (intro w hSw; (try dsimp only [AS] at hSw); go_simp; try with_reducible rfl)
          try simp only [Act.put, List.setIfInBounds_toArray, List.set_cons_zero, List.set_cons_succ]
          refine wpAnyH_ready (rs := [4]) (by kernel_rfl) (by simp) ?_
          refine AllReadyH.cons (o := _) rfl (fun K hK => ?_) AllReadyH.nil
          go_simp
          have K4 := Lib.hid (OF.out _ (H1.out.fr (h5.out.1.trans hHeld.1) (by simp)) (H2.out.keep (h5.out.1.trans hHeld.1)))
          ((with_reducible refine K4.out.mono ?_); rintro e x4 ⟨rfl, hf⟩; clear K4)
          go_wp2_with fail
          refine hK.out _ _ (hHeld.fr hf) (fun hHeld => ?_)
          clear hK K
          try simp only [Act.put, List.setIfInBounds_toArray, List.set_cons_zero, List.set_cons_succ]
          refine wpAnyH_ready (rs := [7]) (by kernel_rfl) (by simp) ?_
          refine AllReadyH.cons (o := _) rfl (fun K hK => ?_) AllReadyH.nil
          go_simp
          have K7 := Lib.hid (RO.out _ (H1.out.fr (h5.out.1.trans hHeld.1) (by simp)) (H2.out.keep (h5.out.1.trans hHeld.1)))
          ((with_reducible refine K7.out.mono ?_); rintro e x7 ⟨rfl, hf⟩; clear K7)
          go_wp2_with fail
          refine hK.out _ _ (hHeld.fr hf) (fun hHeld => ?_)
          clear hK K
          try simp only [Act.put, List.setIfInBounds_toArray, List.set_cons_zero, List.set_cons_succ]
          refine wpAnyH_ready (rs := [8]) (by kernel_rfl) (by simp) ?_
          refine AllReadyH.cons (o := _) rfl (fun K hK => ?_) AllReadyH.nil
          go_simp
          ((with_reducible refine (SM1.out _).mono ?_); rintro e x8 ⟨rfl, hf⟩)
          go_wp2_with fail
          refine hK.out _ _ (hHeld.fr hf) (fun hHeld => ?_)
          clear hK K
          try simp only [Act.put, List.setIfInBounds_toArray, List.set_cons_zero, List.set_cons_succ]
          refine wpAnyH_take (i := 9) (oi := _) (v := ?fv9h1n3) (by simp only [List.getElem?_toArray, List.getElem?_cons_zero, List.getElem?_cons_succ]; rfl) (by kernel_rfl) (by kernel_rfl) (by kernel_rfl) (fun _ _ _ h => h) (Or.inl ⟨by rfl, ?fy9h1n3⟩) (by assumption) ?fr9h1n3
          case fy9h1n3 => (intro w hSw; (try dsimp only [AS] at hSw); go_simp; try with_reducible rfl)
          try simp only [Act.put, List.setIfInBounds_toArray, List.set_cons_zero, List.set_cons_succ]
          refine wpAnyH_take (i := 10) (oi := _) (v := ?fv10h1n3) (by simp only [List.getElem?_toArray, List.getElem?_cons_zero, List.getElem?_cons_succ]; rfl) (by kernel_rfl) (by kernel_rfl) (by kernel_rfl) (fun _ _ _ h => h) (Or.inl ⟨by rfl, ?fy10h1n3⟩) (by assumption) ?fr10h1n3
          case fy10h1n3 => (intro w hSw; (try dsimp only [AS] at hSw); go_simp; try with_reducible rfl)
          try simp only [Act.put, List.setIfInBounds_toArray, List.set_cons_zero, List.set_cons_succ]
          refine wpAnyH_take (i := 11) (oi := _) (v := ?fv11h1n3) (by simp only [List.getElem?_toArray, List.getElem?_cons_zero, List.getElem?_cons_succ]; rfl) (by kernel_rfl) (by kernel_rfl) (by kernel_rfl) (fun _ _ _ h => h) (Or.inl ⟨by rfl, ?fy11h1n3⟩) (by assumption) ?fr11h1n3
          case fy11h1n3 => (intro w hSw; (try dsimp only [AS] at hSw); go_simp; try with_reducible rfl)
          try simp only [Act.put, List.setIfInBounds_toArray, List.set_cons_zero, List.set_cons_succ]
          refine wpAnyH_take (i := 12) (oi := _) (v := ?fv12h1n3) (by simp only [List.getElem?_toArray, List.getElem?_cons_zero, List.getElem?_cons_succ]; rfl) (by kernel_rfl) (by kernel_rfl) (by kernel_rfl) (fun _ _ _ h => h) (Or.inl ⟨by rfl, ?fy12h1n3⟩) (by assumption) ?fr12h1n3
          case fy12h1n3 => (intro w hSw; (try dsimp only [AS] at hSw); go_simp; try with_reducible rfl)
          try simp only [Act.put, List.setIfInBounds_toArray, List.set_cons_zero, List.set_cons_succ]
          refine wpAnyH_take (i := 14) (oi := _) (v := ?fv14h1n3) (by simp only [List.getElem?_toArray, List.getElem?_cons_zero, List.getElem?_cons_succ]; rfl) (by kernel_rfl) (by kernel_rfl) (by kernel_rfl) (fun _ _ _ h => h) (Or.inl ⟨by rfl, ?fy14h1n3⟩) (by assumption) ?fr14h1n3
          case fy14h1n3 => (intro w hSw; (try dsimp only [AS] at hSw); go_simp; try with_reducible rfl)
          try simp only [Act.put, List.setIfInBounds_toArray, List.set_cons_zero, List.set_cons_succ]
          refine wpAnyH_take (i := 15) (oi := _) (v := ?fv15h1n3) (by simp only [List.getElem?_toArray, List.getElem?_cons_zero, List.getElem?_cons_succ]; rfl) (by kernel_rfl) (by kernel_rfl) (by kernel_rfl) (fun _ _ _ h => h) (Or.inl ⟨by rfl, ?fy15h1n3⟩) (by assumption) ?fr15h1n3
          case fy15h1n3 => (intro w hSw; (try dsimp only [AS] at hSw); go_simp; try with_reducible rfl)
          try simp only [Act.put, List.setIfInBounds_toArray, List.set_cons_zero, List.set_cons_succ]
          refine wpAnyH_ready (rs := [13]) (by kernel_rfl) (by simp) ?_
          refine AllReadyH.cons (o := _) rfl (fun K hK => ?_) AllReadyH.nil
          go_simp
          ((with_reducible refine (PU.out _).mono ?_); rintro e x13 ⟨rfl, hf⟩)
          go_wp2_with fail
          refine hK.out _ _ (hHeld.fr hf) (fun hHeld => ?_)
          clear hK K
          try simp only [Act.put, List.setIfInBounds_toArray, List.set_cons_zero, List.set_cons_succ]
          refine wpAnyH_ready (rs := [16]) (by kernel_rfl) (by simp) ?_
          refine AllReadyH.cons (o := _) rfl (fun K hK => ?_) AllReadyH.nil
          go_simp
          ((with_reducible refine (RPU.out _).mono ?_); rintro e x16 ⟨rfl, hf⟩)
          go_wp2_with fail
          refine hK.out _ _ (hHeld.fr hf) (fun hHeld => ?_)
          clear hK K
          try simp only [Act.put, List.setIfInBounds_toArray, List.set_cons_zero, List.set_cons_succ]
          refine wpAnyH_ready (rs := [17]) (by kernel_rfl) (by simp) ?_
          refine AllReadyH.cons (o := _) rfl (fun K hK => ?_) AllReadyH.nil
          go_simp
          ((with_reducible refine (SM2.out _).mono ?_); rintro e x17 ⟨rfl, hf⟩)
          go_wp2_with fail
          refine hK.out _ _ (hHeld.fr hf) (fun hHeld => ?_)
          clear hK K
          try simp only [Act.put, List.setIfInBounds_toArray, List.set_cons_zero, List.set_cons_succ]
          refine wpAnyH_take (i := 18) (oi := _) (v := ?fv18h1n4) (by simp only [List.getElem?_toArray, List.getElem?_cons_zero, List.getElem?_cons_succ]; rfl) (by kernel_rfl) (by kernel_rfl) (by kernel_rfl) (fun _ _ _ h => h) (Or.inl ⟨by rfl, ?fy18h1n4⟩) (by assumption) ?fr18h1n4
          case fy18h1n4 => (intro w hSw; (try dsimp only [AS] at hSw); go_simp; try with_reducible rfl)
          try simp only [Act.put, List.setIfInBounds_toArray, List.set_cons_zero, List.set_cons_succ]
          refine wpAnyH_take (i := 19) (oi := _) (v := ?fv19h1n4) (by simp only [List.getElem?_toArray, List.getElem?_cons_zero, List.getElem?_cons_succ]; rfl) (by kernel_rfl) (by kernel_rfl) (by kernel_rfl) (fun _ _ _ h => h) (Or.inl ⟨by rfl, ?fy19h1n4⟩) (by assumption) ?fr19h1n4
          case fy19h1n4 => (intro w hSw; (try dsimp only [AS] at hSw); go_simp; try with_reducible rfl)
          try simp only [Act.put, List.setIfInBounds_toArray, List.set_cons_zero, List.set_cons_succ]
          refine wpAnyH_take (i := 20) (oi := _) (v := ?fv20h1n4) (by simp only [List.getElem?_toArray, List.getElem?_cons_zero, List.getElem?_cons_succ]; rfl) (by kernel_rfl) (by kernel_rfl) (by kernel_rfl) (fun _ _ _ h => h) (Or.inl ⟨by rfl, ?fy20h1n4⟩) (by assumption) ?fr20h1n4
          case fy20h1n4 => (intro w hSw; (try dsimp only [AS] at hSw); go_simp; try with_reducible rfl)
          try simp only [Act.put, List.setIfInBounds_toArray, List.set_cons_zero, List.set_cons_succ]
          refine wpAnyH_take (i := 21) (oi := _) (v := ?fv21h1n4) (by simp only [List.getElem?_toArray, List.getElem?_cons_zero, List.getElem?_cons_succ]; rfl) (by kernel_rfl) (by kernel_rfl) (by kernel_rfl) (fun _ _ _ h => h) (Or.inl ⟨by rfl, ?fy21h1n4⟩) (by assumption) ?fr21h1n4
          case fy21h1n4 => (intro w hSw; (try dsimp only [AS] at hSw); go_simp; try with_reducible rfl)
          try simp only [Act.put, List.setIfInBounds_toArray, List.set_cons_zero, List.set_cons_succ]
          refine wpAnyH_take (i := 23) (oi := _) (v := ?fv23h1n4) (by simp only [List.getElem?_toArray, List.getElem?_cons_zero, List.getElem?_cons_succ]; rfl) (by kernel_rfl) (by kernel_rfl) (by kernel_rfl) (fun _ _ _ h => h) (Or.inl ⟨by rfl, ?fy23h1n4⟩) (by assumption) ?fr23h1n4
          case fy23h1n4 => (intro w hSw; (try dsimp only [AS] at hSw); go_simp; try with_reducible rfl)
          try simp only [Act.put, List.setIfInBounds_toArray, List.set_cons_zero, List.set_cons_succ]
          refine wpAnyH_take (i := 24) (oi := _) (v := ?fv24h1n4) (by simp only [List.getElem?_toArray, List.getElem?_cons_zero, List.getElem?_cons_succ]; rfl) (by kernel_rfl) (by kernel_rfl) (by kernel_rfl) (fun _ _ _ h => h) (Or.inl ⟨by rfl, ?fy24h1n4⟩) (by assumption) ?fr24h1n4
          case fy24h1n4 => (intro w hSw; (try dsimp only [AS] at hSw); go_simp; try with_reducible rfl)
          try simp only [Act.put, List.setIfInBounds_toArray, List.set_cons_zero, List.set_cons_succ]
          refine wpAnyH_ready (rs := [22]) (by kernel_rfl) (by simp) ?_
          refine AllReadyH.cons (o := _) rfl (fun K hK => ?_) AllReadyH.nil
          go_simp
          ((with_reducible refine (AT.out _).mono ?_); rintro e x22 ⟨rfl, hf⟩)
          go_wp2_with fail
          refine hK.out _ _ (hHeld.fr hf) (fun hHeld => ?_)
          clear hK K
          try simp only [Act.put, List.setIfInBounds_toArray, List.set_cons_zero, List.set_cons_succ]
          refine wpAnyH_ready (rs := [25]) (by kernel_rfl) (by simp) ?_
          refine AllReadyH.cons (o := _) rfl (fun K hK => ?_) AllReadyH.nil
          go_simp
          ((with_reducible refine (RAT.out _).mono ?_); rintro e x25 ⟨rfl, hf⟩)
          go_wp2_with fail
          refine hK.out _ _ (hHeld.fr hf) (fun hHeld => ?_)
          clear hK K
          try simp only [Act.put, List.setIfInBounds_toArray, List.set_cons_zero, List.set_cons_succ]
          refine wpAnyH_take (i := 26) (oi := _) (v := ?fv26h1n5) (by simp only [List.getElem?_toArray, List.getElem?_cons_zero, List.getElem?_cons_succ]; rfl) (by kernel_rfl) (by kernel_rfl) (by kernel_rfl) (fun _ _ _ h => h) (Or.inl ⟨by rfl, ?fy26h1n5⟩) (by assumption) ?fr26h1n5
          case fy26h1n5 => (intro w hSw; (try dsimp only [AS] at hSw); go_simp; try with_reducible rfl)
          try simp only [Act.put, List.setIfInBounds_toArray, List.set_cons_zero, List.set_cons_succ]
          refine wpAnyH_take (i := 27) (oi := _) (v := ?fv27h1n5) (by simp only [List.getElem?_toArray, List.getElem?_cons_zero, List.getElem?_cons_succ]; rfl) (by kernel_rfl) (by kernel_rfl) (by kernel_rfl) (fun _ _ _ h => h) (Or.inl ⟨by rfl, ?fy27h1n5⟩) (by assumption) ?fr27h1n5
          case fy27h1n5 => (intro w hSw; (try dsimp only [AS] at hSw); go_simp; try with_reducible rfl)
          try simp only [Act.put, List.setIfInBounds_toArray, List.set_cons_zero, List.set_cons_succ]
          refine wpAnyH_take (i := 28) (oi := _) (v := ?fv28h1n5) (by simp only [List.getElem?_toArray, List.getElem?_cons_zero, List.getElem?_cons_succ]; rfl) (by kernel_rfl) (by kernel_rfl) (by kernel_rfl) (fun _ _ _ h => h) (Or.inl ⟨by rfl, ?fy28h1n5⟩) (by assumption) ?fr28h1n5
          case fy28h1n5 => (intro w hSw; (try dsimp only [AS] at hSw); go_simp; try with_reducible rfl)
          try simp only [Act.put, List.setIfInBounds_toArray, List.set_cons_zero, List.set_cons_succ]
          refine wpAnyH_take (i := 29) (oi := _) (v := ?fv29h1n5) (by simp only [List.getElem?_toArray, List.getElem?_cons_zero, List.getElem?_cons_succ]; rfl) (by kernel_rfl) (by kernel_rfl) (by kernel_rfl) (fun _ _ _ h => h) (Or.inl ⟨by rfl, ?fy29h1n5⟩) (by assumption) ?fr29h1n5
          case fy29h1n5 => (intro w hSw; (try dsimp only [AS] at hSw); go_simp; try with_reducible rfl)
          try simp only [Act.put, List.setIfInBounds_toArray, List.set_cons_zero, List.set_cons_succ]
          refine wpAnyH_take (i := 30) (oi := _) (v := ?fv30h1n5) (by simp only [List.getElem?_toArray, List.getElem?_cons_zero, List.getElem?_cons_succ]; rfl) (by kernel_rfl) (by kernel_rfl) (by kernel_rfl) (fun _ _ _ h => h) (Or.inl ⟨by rfl, ?fy30h1n5⟩) (by assumption) ?fr30h1n5
          case fy30h1n5 => (intro w hSw; (try dsimp only [AS] at hSw); go_simp; try with_reducible rfl)
          try simp only [Act.put, List.setIfInBounds_toArray, List.set_cons_zero, List.set_cons_succ]
          refine wpAnyH_take (i := 31) (oi := _) (v := ?fv31h1n5) (by simp only [List.getElem?_toArray, List.getElem?_cons_zero, List.getElem?_cons_succ]; rfl) (by kernel_rfl) (by kernel_rfl) (by kernel_rfl) (fun _ _ _ h => h) (Or.inl ⟨by rfl, ?fy31h1n5⟩) (by assumption) ?fr31h1n5
          case fy31h1n5 => (intro w hSw; (try dsimp only [AS] at hSw); go_simp; try with_reducible rfl)
          try simp only [Act.put, List.setIfInBounds_toArray, List.set_cons_zero, List.set_cons_succ]
          refine wpAnyH_take (i := 33) (oi := _) (v := ?fv33h1n5) (by simp only [List.getElem?_toArray, List.getElem?_cons_zero, List.getElem?_cons_succ]; rfl) (by kernel_rfl) (by kernel_rfl) (by kernel_rfl) (fun _ _ _ h => h) (Or.inl ⟨by rfl, ?fy33h1n5⟩) (by assumption) ?fr33h1n5
          case fy33h1n5 => (intro w hSw; (try dsimp only [AS] at hSw); go_simp; try with_reducible rfl)
          try simp only [Act.put, List.setIfInBounds_toArray, List.set_cons_zero, List.set_cons_succ]
          refine wpAnyH_take (i := 34) (oi := _) (v := ?fv34h1n5) (by simp only [List.getElem?_toArray, List.getElem?_cons_zero, List.getElem?_cons_succ]; rfl) (by kernel_rfl) (by kernel_rfl) (by kernel_rfl) (fun _ _ _ h => h) (Or.inl ⟨by rfl, ?fy34h1n5⟩) (by assumption) ?fr34h1n5
          case fy34h1n5 => (intro w hSw; (try dsimp only [AS] at hSw); go_simp; try with_reducible rfl)
          try simp only [Act.put, List.setIfInBounds_toArray, List.set_cons_zero, List.set_cons_succ]
          refine wpAnyH_take (i := 35) (oi := _) (v := ?fv35h1n5) (by simp only [List.getElem?_toArray, List.getElem?_cons_zero, List.getElem?_cons_succ]; rfl) (by kernel_rfl) (by kernel_rfl) (by kernel_rfl) (fun _ _ _ h => h) (Or.inl ⟨by rfl, ?fy35h1n5⟩) (by assumption) ?fr35h1n5
          case fy35h1n5 => (intro w hSw; (try dsimp only [AS] at hSw); go_simp; try with_reducible rfl)
          try simp only [Act.put, List.setIfInBounds_toArray, List.set_cons_zero, List.set_cons_succ]
          refine wpAnyH_ready (rs := [32]) (by kernel_rfl) (by simp) ?_
          refine AllReadyH.cons (o := _) rfl (fun K hK => ?_) AllReadyH.nil
          go_simp
          ((with_reducible refine (HA.out _).mono ?_); rintro e x32 ⟨rfl, hf⟩)
          go_wp2_with fail
          refine hK.out _ _ (hHeld.fr hf) (fun hHeld => ?_)
          clear hK K
          try simp only [Act.put, List.setIfInBounds_toArray, List.set_cons_zero, List.set_cons_succ]
          refine wpAnyH_ready (rs := [36]) (by kernel_rfl) (by simp) ?_
          refine AllReadyH.cons (o := _) rfl (fun K hK => ?_) AllReadyH.nil
          go_simp
          ((with_reducible refine (RHA.out _).mono ?_); rintro e x36 ⟨rfl, hf⟩)
          go_wp2_with fail
          refine hK.out _ _ (hHeld.fr hf) (fun hHeld => ?_)
          clear hK K
          try simp only [Act.put, List.setIfInBounds_toArray, List.set_cons_zero, List.set_cons_succ]
          refine wpAnyH_take (i := 37) (oi := _) (v := ?fv37h1n6) (by simp only [List.getElem?_toArray, List.getElem?_cons_zero, List.getElem?_cons_succ]; rfl) (by kernel_rfl) (by kernel_rfl) (by kernel_rfl) (fun _ _ _ h => h) (Or.inl ⟨by rfl, ?fy37h1n6⟩) (by assumption) ?fr37h1n6
          case fy37h1n6 => (intro w hSw; (try dsimp only [AS] at hSw); go_simp; try with_reducible rfl)
          try simp only [Act.put, List.setIfInBounds_toArray, List.set_cons_zero, List.set_cons_succ]
          refine wpAnyH_take (i := 38) (oi := _) (v := ?fv38h1n6) (by simp only [List.getElem?_toArray, List.getElem?_cons_zero, List.getElem?_cons_succ]; rfl) (by kernel_rfl) (by kernel_rfl) (by kernel_rfl) (fun _ _ _ h => h) (Or.inl ⟨by rfl, ?fy38h1n6⟩) (by assumption) ?fr38h1n6
          case fy38h1n6 => (intro w hSw; (try dsimp only [AS] at hSw); go_simp; try with_reducible rfl)
          try simp only [Act.put, List.setIfInBounds_toArray, List.set_cons_zero, List.set_cons_succ]
          refine wpAnyH_take (i := 39) (oi := _) (v := ?fv39h1n6) (by simp only [List.getElem?_toArray, List.getElem?_cons_zero, List.getElem?_cons_succ]; rfl) (by kernel_rfl) (by kernel_rfl) (by kernel_rfl) (fun _ _ _ h => h) (Or.inl ⟨by rfl, ?fy39h1n6⟩) (by assumption) ?fr39h1n6
          case fy39h1n6 => (intro w hSw; (try dsimp only [AS] at hSw); go_simp; try with_reducible rfl)
          try simp only [Act.put, List.setIfInBounds_toArray, List.set_cons_zero, List.set_cons_succ]
          refine wpAnyH_take (i := 40) (oi := _) (v := ?fv40h1n6) (by simp only [List.getElem?_toArray, List.getElem?_cons_zero, List.getElem?_cons_succ]; rfl) (by kernel_rfl) (by kernel_rfl) (by kernel_rfl) (fun _ _ _ h => h) (Or.inl ⟨by rfl, ?fy40h1n6⟩) (by assumption) ?fr40h1n6
          case fy40h1n6 => (intro w hSw; (try dsimp only [AS] at hSw); go_simp; try with_reducible rfl)
          try simp only [Act.put, List.setIfInBounds_toArray, List.set_cons_zero, List.set_cons_succ]
          refine wpAnyH_take (i := 41) (oi := _) (v := ?fv41h1n6) (by simp only [List.getElem?_toArray, List.getElem?_cons_zero, List.getElem?_cons_succ]; rfl) (by kernel_rfl) (by kernel_rfl) (by kernel_rfl) (fun _ _ _ h => h) (Or.inl ⟨by rfl, ?fy41h1n6⟩) (by assumption) ?fr41h1n6
          case fy41h1n6 => (intro w hSw; (try dsimp only [AS] at hSw); go_simp; try with_reducible rfl)
          try simp only [Act.put, List.setIfInBounds_toArray, List.set_cons_zero, List.set_cons_succ]
          refine wpAnyH_take (i := 43) (oi := _) (v := ?fv43h1n6) (by simp only [List.getElem?_toArray, List.getElem?_cons_zero, List.getElem?_cons_succ]; rfl) (by kernel_rfl) (by kernel_rfl) (by kernel_rfl) (fun _ _ _ h => h) (Or.inl ⟨by rfl, ?fy43h1n6⟩) (by assumption) ?fr43h1n6
          case fy43h1n6 => (intro w hSw; (try dsimp only [AS] at hSw); go_simp; try with_reducible rfl)
          try simp only [Act.put, List.setIfInBounds_toArray, List.set_cons_zero, List.set_cons_succ]
          refine wpAnyH_take (i := 44) (oi := _) (v := ?fv44h1n6) (by simp only [List.getElem?_toArray, List.getElem?_cons_zero, List.getElem?_cons_succ]; rfl) (by kernel_rfl) (by kernel_rfl) (by kernel_rfl) (fun _ _ _ h => h) (Or.inl ⟨by rfl, ?fy44h1n6⟩) (by assumption) ?fr44h1n6
          case fy44h1n6 => (intro w hSw; (try dsimp only [AS] at hSw); go_simp; try with_reducible rfl)
          try simp only [Act.put, List.setIfInBounds_toArray, List.set_cons_zero, List.set_cons_succ]
          refine wpAnyH_ready (rs := [42]) (by kernel_rfl) (by simp) ?_
          refine AllReadyH.cons (o := _) rfl (fun K hK => ?_) AllReadyH.nil
          go_simp
          ((with_reducible refine (AB.out _).mono ?_); rintro e x42 ⟨rfl, hf⟩)
          go_wp2_with fail
          refine hK.out _ _ (hHeld.fr hf) (fun hHeld => ?_)
          clear hK K
          try simp only [Act.put, List.setIfInBounds_toArray, List.set_cons_zero, List.set_cons_succ]
          refine wpAnyH_ready (rs := [45]) (by kernel_rfl) (by simp) ?_
          refine AllReadyH.cons (o := _) rfl (fun K hK => ?_) AllReadyH.nil
          go_simp
          ((with_reducible refine (RAB.out _).mono ?_); rintro e x45 ⟨rfl, hf⟩)
          go_wp2_with fail
          refine hK.out _ _ (hHeld.fr hf) (fun hHeld => ?_)
          clear hK K
          try simp only [Act.put, List.setIfInBounds_toArray, List.set_cons_zero, List.set_cons_succ]
          refine wpAnyH_take (i := 46) (oi := _) (v := ?fv46h1n7) (by simp only [List.getElem?_toArray, List.getElem?_cons_zero, List.getElem?_cons_succ]; rfl) (by kernel_rfl) (by kernel_rfl) (by kernel_rfl) (fun _ _ _ h => h) (Or.inl ⟨by rfl, ?fy46h1n7⟩) (by assumption) ?fr46h1n7
          case fy46h1n7 => (intro w hSw; (try dsimp only [AS] at hSw); go_simp; try with_reducible rfl)
          try simp only [Act.put, List.setIfInBounds_toArray, List.set_cons_zero, List.set_cons_succ]
          refine wpAnyH_take (i := 47) (oi := _) (v := ?fv47h1n7) (by simp only [List.getElem?_toArray, List.getElem?_cons_zero, List.getElem?_cons_succ]; rfl) (by kernel_rfl) (by kernel_rfl) (by kernel_rfl) (fun _ _ _ h => h) (Or.inl ⟨by rfl, ?fy47h1n7⟩) (by assumption) ?fr47h1n7
          case fy47h1n7 => (intro w hSw; (try dsimp only [AS] at hSw); go_simp; try with_reducible rfl)
          try simp only [Act.put, List.setIfInBounds_toArray, List.set_cons_zero, List.set_cons_succ]
          refine wpAnyH_take (i := 48) (oi := _) (v := ?fv48h1n7) (by simp only [List.getElem?_toArray, List.getElem?_cons_zero, List.getElem?_cons_succ]; rfl) (by kernel_rfl) (by kernel_rfl) (by kernel_rfl) (fun _ _ _ h => h) (Or.inl ⟨by rfl, ?fy48h1n7⟩) (by assumption) ?fr48h1n7
          case fy48h1n7 => (intro w hSw; (try dsimp only [AS] at hSw); go_simp; try with_reducible rfl)
          try simp only [Act.put, List.setIfInBounds_toArray, List.set_cons_zero, List.set_cons_succ]
          refine wpAnyH_take (i := 49) (oi := _) (v := ?fv49h1n7) (by simp only [List.getElem?_toArray, List.getElem?_cons_zero, List.getElem?_cons_succ]; rfl) (by kernel_rfl) (by kernel_rfl) (by kernel_rfl) (fun _ _ _ h => h) (Or.inl ⟨by rfl, ?fy49h1n7⟩) (by assumption) ?fr49h1n7
          case fy49h1n7 => (intro w hSw; (try dsimp only [AS] at hSw); go_simp; try with_reducible rfl)
          try simp only [Act.put, List.setIfInBounds_toArray, List.set_cons_zero, List.set_cons_succ]
          refine wpAnyH_take (i := 50) (oi := _) (v := ?fv50h1n7) (by simp only [List.getElem?_toArray, List.getElem?_cons_zero, List.getElem?_cons_succ]; rfl) (by kernel_rfl) (by kernel_rfl) (by kernel_rfl) (fun _ _ _ h => h) (Or.inl ⟨by rfl, ?fy50h1n7⟩) (by assumption) ?fr50h1n7
          case fy50h1n7 => (intro w hSw; (try dsimp only [AS] at hSw); go_simp; try with_reducible rfl)
          try simp only [Act.put, List.setIfInBounds_toArray, List.set_cons_zero, List.set_cons_succ]
          refine wpAnyH_take (i := 52) (oi := _) (v := ?fv52h1n7) (by simp only [List.getElem?_toArray, List.getElem?_cons_zero, List.getElem?_cons_succ]; rfl) (by kernel_rfl) (by kernel_rfl) (by kernel_rfl) (fun _ _ _ h => h) (Or.inl ⟨by rfl, ?fy52h1n7⟩) (by assumption) ?fr52h1n7
          case fy52h1n7 => (intro w hSw; (try dsimp only [AS] at hSw); go_simp; try with_reducible rfl)
          try simp only [Act.put, List.setIfInBounds_toArray, List.set_cons_zero, List.set_cons_succ]
          refine wpAnyH_take (i := 53) (oi := _) (v := ?fv53h1n7) (by simp only [List.getElem?_toArray, List.getElem?_cons_zero, List.getElem?_cons_succ]; rfl) (by kernel_rfl) (by kernel_rfl) (by kernel_rfl) (fun _ _ _ h => h) (Or.inl ⟨by rfl, ?fy53h1n7⟩) (by assumption) ?fr53h1n7
          case fy53h1n7 => (intro w hSw; (try dsimp only [AS] at hSw); go_simp; try with_reducible rfl)
          try simp only [Act.put, List.setIfInBounds_toArray, List.set_cons_zero, List.set_cons_succ]
          refine wpAnyH_ready (rs := [51]) (by kernel_rfl) (by simp) ?_
          refine AllReadyH.cons (o := _) rfl (fun K hK => ?_) AllReadyH.nil
          go_simp
          ((with_reducible refine (BE.out _).mono ?_); rintro e x51 ⟨rfl, hf⟩)
          go_wp2_with fail
          refine hK.out _ _ (hHeld.fr hf) (fun hHeld => ?_)
          clear hK K
          try simp only [Act.put, List.setIfInBounds_toArray, List.set_cons_zero, List.set_cons_succ]
          refine wpAnyH_ready (rs := [54]) (by kernel_rfl) (by simp) ?_
          refine AllReadyH.cons (o := _) rfl (fun K hK => ?_) AllReadyH.nil
          go_simp
          ((with_reducible refine (RBE.out _).mono ?_); rintro e x54 ⟨rfl, hf⟩)
          go_wp2_with fail
          refine hK.out _ _ (hHeld.fr hf) (fun hHeld => ?_)
          clear hK K
          try simp only [Act.put, List.setIfInBounds_toArray, List.set_cons_zero, List.set_cons_succ]
          refine wpAnyH_take (i := 55) (oi := _) (v := ?fv55h1n8) (by simp only [List.getElem?_toArray, List.getElem?_cons_zero, List.getElem?_cons_succ]; rfl) (by kernel_rfl) (by kernel_rfl) (by kernel_rfl) (fun _ _ _ h => h) (Or.inl ⟨by rfl, ?fy55h1n8⟩) (by assumption) ?fr55h1n8
          case fy55h1n8 => (intro w hSw; (try dsimp only [AS] at hSw); go_simp; try with_reducible rfl)
          try simp only [Act.put, List.setIfInBounds_toArray, List.set_cons_zero, List.set_cons_succ]
          refine wpAnyH_take (i := 56) (oi := _) (v := ?fv56h1n8) (by simp only [List.getElem?_toArray, List.getElem?_cons_zero, List.getElem?_cons_succ]; rfl) (by kernel_rfl) (by kernel_rfl) (by kernel_rfl) (fun _ _ _ h => h) (Or.inl ⟨by rfl, ?fy56h1n8⟩) (by assumption) ?fr56h1n8
          case fy56h1n8 => (intro w hSw; (try dsimp only [AS] at hSw); go_simp; try with_reducible rfl)
          try simp only [Act.put, List.setIfInBounds_toArray, List.set_cons_zero, List.set_cons_succ]
          refine wpAnyH_take (i := 57) (oi := _) (v := ?fv57h1n8) (by simp only [List.getElem?_toArray, List.getElem?_cons_zero, List.getElem?_cons_succ]; rfl) (by kernel_rfl) (by kernel_rfl) (by kernel_rfl) (fun _ _ _ h => h) (Or.inl ⟨by rfl, ?fy57h1n8⟩) (by assumption) ?fr57h1n8
          case fy57h1n8 => (intro w hSw; (try dsimp only [AS] at hSw); go_simp; try with_reducible rfl)
          try simp only [Act.put, List.setIfInBounds_toArray, List.set_cons_zero, List.set_cons_succ]
          refine wpAnyH_take (i := 58) (oi := _) (v := ?fv58h1n8) (by simp only [List.getElem?_toArray, List.getElem?_cons_zero, List.getElem?_cons_succ]; rfl) (by kernel_rfl) (by kernel_rfl) (by kernel_rfl) (fun _ _ _ h => h) (Or.inl ⟨by rfl, ?fy58h1n8⟩) (by assumption) ?fr58h1n8
          case fy58h1n8 => (intro w hSw; (try dsimp only [AS] at hSw); go_simp; try with_reducible rfl)
          try simp only [Act.put, List.setIfInBounds_toArray, List.set_cons_zero, List.set_cons_succ]
          refine wpAnyH_take (i := 59) (oi := _) (v := ?fv59h1n8) (by simp only [List.getElem?_toArray, List.getElem?_cons_zero, List.getElem?_cons_succ]; rfl) (by kernel_rfl) (by kernel_rfl) (by kernel_rfl) (fun _ _ _ h => h) (Or.inl ⟨by rfl, ?fy59h1n8⟩) (by assumption) ?fr59h1n8
          case fy59h1n8 => (intro w hSw; (try dsimp only [AS] at hSw); go_simp; try with_reducible rfl)
          try simp only [Act.put, List.setIfInBounds_toArray, List.set_cons_zero, List.set_cons_succ]
          refine wpAnyH_take (i := 60) (oi := _) (v := ?fv60h1n8) (by simp only [List.getElem?_toArray, List.getElem?_cons_zero, List.getElem?_cons_succ]; rfl) (by kernel_rfl) (by kernel_rfl) (by kernel_rfl) (fun _ _ _ h => h) (Or.inl ⟨by rfl, ?fy60h1n8⟩) (by assumption) ?fr60h1n8
          case fy60h1n8 => (intro w hSw; (try dsimp only [AS] at hSw); go_simp; try with_reducible rfl)
          try simp only [Act.put, List.setIfInBounds_toArray, List.set_cons_zero, List.set_cons_succ]
          refine wpAnyH_take (i := 62) (oi := _) (v := ?fv62h1n8) (by simp only [List.getElem?_toArray, List.getElem?_cons_zero, List.getElem?_cons_succ]; rfl) (by kernel_rfl) (by kernel_rfl) (by kernel_rfl) (fun _ _ _ h => h) (Or.inl ⟨by rfl, ?fy62h1n8⟩) (by assumption) ?fr62h1n8
          case fy62h1n8 => (intro w hSw; (try dsimp only [AS] at hSw); go_simp; try with_reducible rfl)
          try simp only [Act.put, List.setIfInBounds_toArray, List.set_cons_zero, List.set_cons_succ]
          refine wpAnyH_take (i := 63) (oi := _) (v := ?fv63h1n8) (by simp only [List.getElem?_toArray, List.getElem?_cons_zero, List.getElem?_cons_succ]; rfl) (by kernel_rfl) (by kernel_rfl) (by kernel_rfl) (fun _ _ _ h => h) (Or.inl ⟨by rfl, ?fy63h1n8⟩) (by assumption) ?fr63h1n8
          case fy63h1n8 => (intro w hSw; (try dsimp only [AS] at hSw); go_simp; try with_reducible rfl)
          try simp only [Act.put, List.setIfInBounds_toArray, List.set_cons_zero, List.set_cons_succ]
          refine wpAnyH_take (i := 64) (oi := _) (v := ?fv64h1n8) (by simp only [List.getElem?_toArray, List.getElem?_cons_zero, List.getElem?_cons_succ]; rfl) (by kernel_rfl) (by kernel_rfl) (by kernel_rfl) (fun _ _ _ h => h) (Or.inl ⟨by rfl, ?fy64h1n8⟩) (by assumption) ?fr64h1n8
          case fy64h1n8 => (intro w hSw; (try dsimp only [AS] at hSw); go_simp; try with_reducible rfl)
          try simp only [Act.put, List.setIfInBounds_toArray, List.set_cons_zero, List.set_cons_succ]
          refine wpAnyH_ready (rs := [61]) (by kernel_rfl) (by simp) ?_
          refine AllReadyH.cons (o := _) rfl (fun K hK => ?_) AllReadyH.nil
          go_simp
          ((with_reducible refine (TO.out _).mono ?_); rintro e x61 ⟨rfl, hf⟩)
          go_wp2_with fail
          refine hK.out _ _ (hHeld.fr hf) (fun hHeld => ?_)
          clear hK K
          try simp only [Act.put, List.setIfInBounds_toArray, List.set_cons_zero, List.set_cons_succ]
          refine wpAnyH_ready (rs := [65]) (by kernel_rfl) (by simp) ?_
          refine AllReadyH.cons (o := _) rfl (fun K hK => ?_) AllReadyH.nil
          go_simp
          ((with_reducible refine (RTO.out _).mono ?_); rintro e x65 ⟨rfl, hf⟩)
          go_wp2_with fail
          refine hK.out _ _ (hHeld.fr hf) (fun hHeld => ?_)
          clear hK K
          try simp only [Act.put, List.setIfInBounds_toArray, List.set_cons_zero, List.set_cons_succ]
          refine wpAnyH_take (i := 66) (oi := _) (v := ?fv66h1n9) (by simp only [List.getElem?_toArray, List.getElem?_cons_zero, List.getElem?_cons_succ]; rfl) (by kernel_rfl) (by kernel_rfl) (by kernel_rfl) (fun _ _ _ h => h) (Or.inl ⟨by rfl, ?fy66h1n9⟩) (by assumption) ?fr66h1n9
          case fy66h1n9 => (intro w hSw; (try dsimp only [AS] at hSw); go_simp; try with_reducible rfl)
          try simp only [Act.put, List.setIfInBounds_toArray, List.set_cons_zero, List.set_cons_succ]
          refine wpAnyH_take (i := 67) (oi := _) (v := ?fv67h1n9) (by simp only [List.getElem?_toArray, List.getElem?_cons_zero, List.getElem?_cons_succ]; rfl) (by kernel_rfl) (by kernel_rfl) (by kernel_rfl) (fun _ _ _ h => h) (Or.inl ⟨by rfl, ?fy67h1n9⟩) (by assumption) ?fr67h1n9
          case fy67h1n9 => (intro w hSw; (try dsimp only [AS] at hSw); go_simp; try with_reducible rfl)
          try simp only [Act.put, List.setIfInBounds_toArray, List.set_cons_zero, List.set_cons_succ]
          refine wpAnyH_take (i := 68) (oi := _) (v := ?fv68h1n9) (by simp only [List.getElem?_toArray, List.getElem?_cons_zero, List.getElem?_cons_succ]; rfl) (by kernel_rfl) (by kernel_rfl) (by kernel_rfl) (fun _ _ _ h => h) (Or.inl ⟨by rfl, ?fy68h1n9⟩) (by assumption) ?fr68h1n9
          case fy68h1n9 => (intro w hSw; (try dsimp only [AS] at hSw); go_simp; try with_reducible rfl)
          try simp only [Act.put, List.setIfInBounds_toArray, List.set_cons_zero, List.set_cons_succ]
          refine wpAnyH_take (i := 69) (oi := _) (v := ?fv69h1n9) (by simp only [List.getElem?_toArray, List.getElem?_cons_zero, List.getElem?_cons_succ]; rfl) (by kernel_rfl) (by kernel_rfl) (by kernel_rfl) (fun _ _ _ h => h) (Or.inl ⟨by rfl, ?fy69h1n9⟩) (by assumption) ?fr69h1n9
          case fy69h1n9 => (intro w hSw; (try dsimp only [AS] at hSw); go_simp; try with_reducible rfl)
          try simp only [Act.put, List.setIfInBounds_toArray, List.set_cons_zero, List.set_cons_succ]
          refine wpAnyH_take (i := 70) (oi := _) (v := ?fv70h1n9) (by simp only [List.getElem?_toArray, List.getElem?_cons_zero, List.getElem?_cons_succ]; rfl) (by kernel_rfl) (by kernel_rfl) (by kernel_rfl) (fun _ _ _ h => h) (Or.inl ⟨by rfl, ?fy70h1n9⟩) (by assumption) ?fr70h1n9
          case fy70h1n9 => (intro w hSw; (try dsimp only [AS] at hSw); go_simp; try with_reducible rfl)
          try simp only [Act.put, List.setIfInBounds_toArray, List.set_cons_zero, List.set_cons_succ]
          refine wpAnyH_take (i := 72) (oi := _) (v := ?fv72h1n9) (by simp only [List.getElem?_toArray, List.getElem?_cons_zero, List.getElem?_cons_succ]; rfl) (by kernel_rfl) (by kernel_rfl) (by kernel_rfl) (fun _ _ _ h => h) (Or.inl ⟨by rfl, ?fy72h1n9⟩) (by assumption) ?fr72h1n9
          case fy72h1n9 => (intro w hSw; (try dsimp only [AS] at hSw); go_simp; try with_reducible rfl)
          try simp only [Act.put, List.setIfInBounds_toArray, List.set_cons_zero, List.set_cons_succ]
          refine wpAnyH_take (i := 73) (oi := _) (v := ?fv73h1n9) (by simp only [List.getElem?_toArray, List.getElem?_cons_zero, List.getElem?_cons_succ]; rfl) (by kernel_rfl) (by kernel_rfl) (by kernel_rfl) (fun _ _ _ h => h) (Or.inl ⟨by rfl, ?fy73h1n9⟩) (by assumption) ?fr73h1n9
          case fy73h1n9 => (intro w hSw; (try dsimp only [AS] at hSw); go_simp; try with_reducible rfl)
          try simp only [Act.put, List.setIfInBounds_toArray, List.set_cons_zero, List.set_cons_succ]
          refine wpAnyH_ready (rs := [71]) (by kernel_rfl) (by simp) ?_
          refine AllReadyH.cons (o := _) rfl (fun K hK => ?_) AllReadyH.nil
          go_simp
          have K71 := Lib.hid (NE.out _ (HT.out.fr (h5.out.1.trans hHeld.1)))
          ((with_reducible refine K71.out.mono ?_); rintro e x71 ⟨rfl, hf⟩; clear K71)
          go_wp2_with fail
          refine hK.out _ _ (hHeld.fr hf) (fun hHeld => ?_)
          clear hK K
          try simp only [Act.put, List.setIfInBounds_toArray, List.set_cons_zero, List.set_cons_succ]
          refine wpAnyH_ready (rs := [74]) (by kernel_rfl) (by simp) ?_
          refine AllReadyH.cons (o := _) rfl (fun K hK => ?_) AllReadyH.nil
          go_simp
          ((with_reducible refine (RNE.out _).mono ?_); rintro e x74 ⟨rfl, hf⟩)
          go_wp2_with fail
          refine hK.out _ _ (hHeld.fr hf) (fun hHeld => ?_)
          clear hK K
          try simp only [Act.put, List.setIfInBounds_toArray, List.set_cons_zero, List.set_cons_succ]
          refine wpAnyH_take (i := 75) (oi := _) (v := ?fv75h1n10) (by simp only [List.getElem?_toArray, List.getElem?_cons_zero, List.getElem?_cons_succ]; rfl) (by kernel_rfl) (by kernel_rfl) (by kernel_rfl) (fun _ _ _ h => h) (Or.inl ⟨by rfl, ?fy75h1n10⟩) (by assumption) ?fr75h1n10
          case fy75h1n10 => (intro w hSw; (try dsimp only [AS] at hSw); go_simp; try with_reducible rfl)
          try simp only [Act.put, List.setIfInBounds_toArray, List.set_cons_zero, List.set_cons_succ]
          refine wpAnyH_take (i := 76) (oi := _) (v := ?fv76h1n10) (by simp only [List.getElem?_toArray, List.getElem?_cons_zero, List.getElem?_cons_succ]; rfl) (by kernel_rfl) (by kernel_rfl) (by kernel_rfl) (fun _ _ _ h => h) (Or.inl ⟨by rfl, ?fy76h1n10⟩) (by assumption) ?fr76h1n10
          case fy76h1n10 => (intro w hSw; (try dsimp only [AS] at hSw); go_simp; try with_reducible rfl)
          try simp only [Act.put, List.setIfInBounds_toArray, List.set_cons_zero, List.set_cons_succ]
          refine wpAnyH_take (i := 77) (oi := _) (v := ?fv77h1n10) (by simp only [List.getElem?_toArray, List.getElem?_cons_zero, List.getElem?_cons_succ]; rfl) (by kernel_rfl) (by kernel_rfl) (by kernel_rfl) (fun _ _ _ h => h) (Or.inl ⟨by rfl, ?fy77h1n10⟩) (by assumption) ?fr77h1n10
          case fy77h1n10 => (intro w hSw; (try dsimp only [AS] at hSw); go_simp; try with_reducible rfl)
          try simp only [Act.put, List.setIfInBounds_toArray, List.set_cons_zero, List.set_cons_succ]
          refine wpAnyH_take (i := 78) (oi := _) (v := ?fv78h1n10) (by simp only [List.getElem?_toArray, List.getElem?_cons_zero, List.getElem?_cons_succ]; rfl) (by kernel_rfl) (by kernel_rfl) (by kernel_rfl) (fun _ _ _ h => h) (Or.inl ⟨by rfl, ?fy78h1n10⟩) (by assumption) ?fr78h1n10
          case fy78h1n10 => (intro w hSw; (try dsimp only [AS] at hSw); go_simp; try with_reducible rfl)
          try simp only [Act.put, List.setIfInBounds_toArray, List.set_cons_zero, List.set_cons_succ]
          refine wpAnyH_take (i := 80) (oi := _) (v := ?fv80h1n10) (by simp only [List.getElem?_toArray, List.getElem?_cons_zero, List.getElem?_cons_succ]; rfl) (by kernel_rfl) (by kernel_rfl) (by kernel_rfl) (fun _ _ _ h => h) (Or.inl ⟨by rfl, ?fy80h1n10⟩) (by assumption) ?fr80h1n10
          case fy80h1n10 => (intro w hSw; (try dsimp only [AS] at hSw); go_simp; try with_reducible rfl)
          try simp only [Act.put, List.setIfInBounds_toArray, List.set_cons_zero, List.set_cons_succ]
          refine wpAnyH_ready (rs := [79]) (by kernel_rfl) (by simp) ?_
          refine AllReadyH.cons (o := _) rfl (fun K hK => ?_) AllReadyH.nil
          go_simp
          have K79 := Lib.hid (FL.out _ (HT.out.fr (h5.out.1.trans hHeld.1)))
          ((with_reducible refine K79.out.mono ?_); rintro e x79 ⟨vf, rfl, hof, hf⟩; have HVF := Lib.hid hof.holds; clear hof K79)
          go_wp2_with fail
          refine hK.out _ _ (hHeld.fr hf) (fun hHeld => ?_)
          clear hK K
          try simp only [Act.put, List.setIfInBounds_toArray, List.set_cons_zero, List.set_cons_succ]
          refine wpAnyH_ready (rs := [81]) (by kernel_rfl) (by simp) ?_
          refine AllReadyH.cons (o := _) rfl (fun K hK => ?_) AllReadyH.nil
          go_simp
          have K81 := Lib.hid (sameI_any vf (bitsOf n) _ (bitsOf n) _ HVF.out (HVA.out.fr (hHeld.1) (by simp)) (by have := HLN.out; omega) true (by simp))
          ((with_reducible refine K81.out.mono ?_); rintro e x81 ⟨rfl, hg⟩; have hf := Fr.of_grown hg []; clear hg K81)
          go_wp2_with fail
          refine hK.out _ _ (hHeld.fr hf) (fun hHeld => ?_)
          clear hK K
          try simp only [Act.put, List.setIfInBounds_toArray, List.set_cons_zero, List.set_cons_succ]
          refine wpAnyH_take (i := 82) (oi := _) (v := ?fv82h1n11) (by simp only [List.getElem?_toArray, List.getElem?_cons_zero, List.getElem?_cons_succ]; rfl) (by kernel_rfl) (by kernel_rfl) (by kernel_rfl) (fun _ _ _ h => h) (Or.inl ⟨by rfl, ?fy82h1n11⟩) (by assumption) ?fr82h1n11
          case fy82h1n11 => (intro w hSw; (try dsimp only [AS] at hSw); go_simp; try with_reducible rfl)
          try simp only [Act.put, List.setIfInBounds_toArray, List.set_cons_zero, List.set_cons_succ]
          refine wpAnyH_take (i := 83) (oi := _) (v := ?fv83h1n11) (by simp only [List.getElem?_toArray, List.getElem?_cons_zero, List.getElem?_cons_succ]; rfl) (by kernel_rfl) (by kernel_rfl) (by kernel_rfl) (fun _ _ _ h => h) (Or.inl ⟨by rfl, ?fy83h1n11⟩) (by assumption) ?fr83h1n11
          case fy83h1n11 => (intro w hSw; (try dsimp only [AS] at hSw); go_simp; try with_reducible rfl)
          try simp only [Act.put, List.setIfInBounds_toArray, List.set_cons_zero, List.set_cons_succ]
          refine wpAnyH_done (by kernel_rfl) ?_ _
          refine NoPanic.normal ?_
          have hEND := h5.out.1.trans hHeld.1
          clear hHeld
          go_wp2
          go_ret
          exact ⟨rfl, hEND⟩
    · go_wp2
      go_ret
      exact ⟨rfl, HY1.out.1⟩
  · go_wp2
    go_ret
    exact ⟨rfl, HY1.out.1⟩
theorem asays_walk (v1 : Value) (l : List Int) (v2 : Value) (m : List La) (s : Sp) (h : s.ok) (f e z dr : Int) (w : World) (h1 : HInts w v1 l) (h2 : HLs w v2 m) (hT : Tz w) : Calls Tryd.prog 3 #[v1, v2, s.v, .agg #[.int .i64 f, .int .i64 e], .int .i64 z, .int .i64 dr] w fun x w' => x = .returned (.bool true) ∧ w.grownBy w' none :=
  (says_true v1 l v2 m s f e z dr h w h1 h2 hT).mono fun _ _ ⟨he, hf⟩ => ⟨he, hf.grown (by simp)⟩
end Go.Proofs.YtaoflgfppdbhiaaDoor
