/- Of any floors and latches, any stops: the package says what the document's stops say. -/
import Derived.Test.YtaoflgfppdbhiaaDoorARof
import Derived.Test.YtaoflgfppdbhiaaDoorDetT
import Derived.Test.YtaoflgfppdbhiaaDoorATz
import Derived.Test.YtaoflgfppdbhiaaDoorAFirst
namespace Go.Proofs.YtaoflgfppdbhiaaDoor
open Go.RowKit

/-- The cells of the stops, the call, and the document's stops; in a world that came of X. -/
def AS (X : World) (b b' : Nat) (p u d : Nat) (f e : Int) (a : World) : Prop := Fr X a [] ∧
  (a.cell? ⟨b, 0, none⟩ = some (.int .u64 p) ∧ a.cell? ⟨b, 1, none⟩ = some (.int .u64 u) ∧ a.cell? ⟨b, 2, none⟩ = some (.int .u64 d)) ∧
  (a.cell? ⟨b + 1, 0, none⟩ = some (.int .i64 f) ∧ a.cell? ⟨b + 1, 1, none⟩ = some (.int .i64 e)) ∧
  (a.cell? ⟨b', 0, none⟩ = some (.int .u64 p) ∧ a.cell? ⟨b', 1, none⟩ = some (.int .u64 u) ∧ a.cell? ⟨b', 2, none⟩ = some (.int .u64 d))
theorem AS.fr {X : World} {b b' p u d : Nat} {f e : Int} {a a' : World} (h : AS X b b' p u d f e a) (k : Fr a a' []) : AS X b b' p u d f e a' := by
  obtain ⟨h0, ⟨h1, h2, h3⟩, ⟨h4, h5⟩, h6, h7, h8⟩ := h
  exact ⟨h0.trans k, ⟨k.cell h1 (by simp), k.cell h2 (by simp), k.cell h3 (by simp)⟩, ⟨k.cell h4 (by simp), k.cell h5 (by simp)⟩, k.cell h6 (by simp), k.cell h7 (by simp), k.cell h8 (by simp)⟩
theorem AS.self {X : World} {b b' p u d : Nat} {f e : Int} {a : World} (h : AS X b b' p u d f e a) : AS a b b' p u d f e a := ⟨Fr.refl _ _, h.2⟩
/-- The first two boxes. -/
def AY (W : World) (p u d : Nat) (f e : Int) (a : World) : Prop := Fr W a [] ∧
  (a.cell? ⟨W.heap.size, 0, none⟩ = some (.int .u64 p) ∧ a.cell? ⟨W.heap.size, 1, none⟩ = some (.int .u64 u) ∧ a.cell? ⟨W.heap.size, 2, none⟩ = some (.int .u64 d)) ∧
  (a.cell? ⟨W.heap.size + 1, 0, none⟩ = some (.int .i64 f) ∧ a.cell? ⟨W.heap.size + 1, 1, none⟩ = some (.int .i64 e))
theorem AY.fr {W : World} {p u d : Nat} {f e : Int} {a a' : World} (h : AY W p u d f e a) (k : Fr a a' []) : AY W p u d f e a' := by
  obtain ⟨h0, ⟨h1, h2, h3⟩, h4, h5⟩ := h
  exact ⟨h0.trans k, ⟨k.cell h1 (by simp), k.cell h2 (by simp), k.cell h3 (by simp)⟩, k.cell h4 (by simp), k.cell h5 (by simp)⟩
theorem AY.new (w : World) (p u d : Nat) (f e : Int) : AY w p u d f e ((w.alloc (.cells #[.int .u64 p, .int .u64 u, .int .u64 d] 26)).alloc (.cells #[.int .i64 f, .int .i64 e] 28)) := by
  have a2 := heap_alloc_new (w.alloc (.cells #[.int .u64 p, .int .u64 u, .int .u64 d] 26)) (.cells #[.int .i64 f, .int .i64 e] 28)
  rw [show (w.alloc (.cells #[.int .u64 p, .int .u64 u, .int .u64 d] 26)).heap.size = w.heap.size + 1 by simp] at a2
  exact ⟨(Fr.alloc w _ []).trans (Fr.alloc _ _ []), arow ((Fr.alloc _ _ []).heap (heap_alloc_new w _) (by simp)), by rw [cell_of_row _ _ 0 _ _ _ a2]; rfl, by rw [cell_of_row _ _ 1 _ _ _ a2]; rfl⟩
theorem AY.more {W : World} {p u d : Nat} {f e : Int} {a : World} (h : AY W p u d f e a) : AS W W.heap.size a.heap.size p u d f e (a.alloc (.cells #[.int .u64 p, .int .u64 u, .int .u64 d] 30)) := by
  have k := h.fr (Fr.alloc a (.cells #[.int .u64 p, .int .u64 u, .int .u64 d] 30) [])
  exact ⟨k.1, k.2.1, k.2.2, arow (heap_alloc_new a _)⟩

set_option maxHeartbeats 8000000 in
set_option maxRecDepth 100000 in
theorem says_true (v1 : Value) (l : List Int) (v2 : Value) (m : List La) (s : Sp) (f e z dr : Int) (h : s.ok) (w : World) (h1 : HInts w v1 l) (h2 : HLs w v2 m) (hT : Tz w) :
    Calls Tryd.prog 3 #[v1, v2, s.v, .agg #[.int .i64 f, .int .i64 e], .int .i64 z, .int .i64 dr] w fun x w' => x = .returned (.bool true) ∧ Fr w w' [] := by
  obtain ⟨i0, hi, hz0, hz1, hz2⟩ := info_parts infoI
  have H1 := Lib.hid h1
  have H2 := Lib.hid h2
  have HT := Lib.hid hT
  obtain ⟨n, hn⟩ : ∃ n, n = s.all := ⟨_, rfl⟩
  have hlt : n < 18446744073709551616 := by rw [hn]; exact h.all
  obtain ⟨r, hr⟩ : ∃ r, r = ofS l m := ⟨_, rfl⟩
  obtain ⟨t, ht⟩ : ∃ t, t = s.put f e := ⟨_, rfl⟩
  have OF := Lib.hid (fun W (k1 : HInts W v1 l) (k2 : HLs W v2 m) => of_any v1 l v2 m W k1 k2 r hr)
  have RO := Lib.hid (fun W (k1 : HInts W v1 l) (k2 : HLs W v2 m) => rof_any v1 l v2 m W k1 k2 r hr)
  have SM1 := Lib.hid (fun W => same_any r W)
  have SM2 := Lib.hid (fun W => same_any t W)
  have PU := Lib.hid (fun W => put_any s f e W h t ht)
  have RPU := Lib.hid (fun W => rput_any s f e W h t ht)
  obtain ⟨bA, hbA⟩ : ∃ b, b = hasB s.c z := ⟨_, rfl⟩
  have AT := Lib.hid (fun W => at_any s z W h bA hbA)
  have RAT := Lib.hid (fun W => rat_any s z W h bA hbA)
  obtain ⟨bH, hbH⟩ : ∃ b, b = s.hall z dr := ⟨_, rfl⟩
  have HA := Lib.hid (fun W => hall_any s z dr W h bH hbH)
  have RHA := Lib.hid (fun W => rhall_any s z dr W h bH hbH)
  obtain ⟨c, hc⟩ : ∃ c, c = min (max z (-1)) 64 := ⟨_, rfl⟩
  have hcr : -1 ≤ c ∧ c ≤ 64 := by omega
  obtain ⟨bU, hbU⟩ : ∃ b, b = decide (upN s.all c ≠ 0) := ⟨_, rfl⟩
  obtain ⟨bD, hbD⟩ : ∃ b, b = decide (dnN s.all c ≠ 0) := ⟨_, rfl⟩
  have iU : bU = true ↔ ∃ y, z < y ∧ hasB s.all y = true := by
    rw [hbU, decide_eq_true_iff]
    exact (upN_some hcr.1).trans ⟨fun ⟨y, a, q⟩ => ⟨y, ((near_cut h.all hc y q).1).2 a, q⟩, fun ⟨y, a, q⟩ => ⟨y, ((near_cut h.all hc y q).1).1 a, q⟩⟩
  have iD : bD = true ↔ ∃ y, y < z ∧ hasB s.all y = true := by
    rw [hbD, decide_eq_true_iff]
    exact (dnN_some hcr.2).trans ⟨fun ⟨y, a, q⟩ => ⟨y, ((near_cut h.all hc y q).2).2 a, q⟩, fun ⟨y, a, q⟩ => ⟨y, ((near_cut h.all hc y q).2).1 a, q⟩⟩
  have AB := Lib.hid (fun W => aboveB_any s z W h bU iU)
  have RAB := Lib.hid (fun W => rabove_any s z W h bU iU)
  have BE := Lib.hid (fun W => belowB_any s z W h bD iD)
  have RBE := Lib.hid (fun W => rbelow_any s z W h bD iD)
  obtain ⟨bT, hbT⟩ : ∃ b, b = if dr = 1 then bU else if dr = -1 then bD else false := ⟨_, rfl⟩
  have t1 : dr = 1 → (bT = true ↔ ∃ y, z < y ∧ hasB s.all y = true) := fun q => by rw [hbT, if_pos q]; exact iU
  have t2 : dr = -1 → (bT = true ↔ ∃ y, y < z ∧ hasB s.all y = true) := fun q => by rw [hbT, if_neg (by omega), if_pos q]; exact iD
  have t3 : dr ≠ 1 → dr ≠ -1 → bT = false := fun q1 q2 => by rw [hbT, if_neg q1, if_neg q2]
  have TO := Lib.hid (fun W => toward_any s z dr W h bT t1 t2 t3)
  have RTO := Lib.hid (fun W => rtoward_any s z dr W h bT t1 t2 t3)
  obtain ⟨x, hx⟩ : ∃ x, x = nearC (upN s.all c) (dnN s.all c) := ⟨_, rfl⟩
  have hxn : NearIs s.all (min (max z (-1)) 64) x := by rw [← hc, hx]; exact near_code h.all hcr.1 hcr.2
  have NE := Lib.hid (fun W hT => near_any s z W h hT x hxn)
  have RNE := Lib.hid (fun W => rnear_any s z W h x hxn)
  have FL := Lib.hid (fun W hT => floors_any s W h hT (bitsOf n) (by rw [hn]))
  have AN := Lib.hid (fun (i : Int) (y : Bool) (hy : y = hasB n i) W => rany_any s i W h y (by rw [← hn]; exact hy))
  have OT := Lib.hid (fun W => other_any s W)
  have HLN := Lib.hid (show (bitsOf n).length ≤ 64 by rw [bitsOf_len]; exact bits_len _)
  have kA : (bA == bA) = true := by simp
  have kH : (bH == bH) = true := by simp
  have kU : (bU == bU) = true := by simp
  have kD : (bD == bD) = true := by simp
  have kT : (bT == bT) = true := by simp
  have kX : (x == x) = true := by simp
  obtain ⟨a1, cap1, rfl, q1, m1, r1⟩ := h1
  obtain ⟨a2, cap2, rfl, q2, m2, r2⟩ := h2
  unfold maxLen at m1 m2
  clear r1 r2 hT hlt hr ht hbA hbH hbU hbD hbT iU iD t1 t2 t3 hx hxn hc hcr hn h
  obtain ⟨p, u, d⟩ := s
  obtain ⟨rp, ru, rd⟩ := r
  obtain ⟨tp, tu, td⟩ := t
  have HY0 := Lib.hid (AY.new w p u d f e)
  dsimp only [Sp.v] at *
  go_enter Tryd.func3, Tryd.ntmps3
  go_wp2_with fail
  with_reducible refine (first_any _).mono ?_
  rintro y w1 ⟨rfl, hf⟩
  have HY1 := Lib.hid (HY0.out.fr hf)
  clear hf HY0
  by_cases hl : l.length ≤ 40
  · by_cases hm : m.length ≤ 40
    · obtain ⟨_, ⟨c0, c1, c2⟩, _⟩ := HY1.out
      go_wp2_with fail
      with_reducible refine (OT.out _).mono ?_
      rintro y w2 ⟨rfl, hf⟩
      have HS2 := Lib.hid ((HY1.out.fr hf).more)
      obtain ⟨b', hb'⟩ : ∃ b', b' = w2.heap.size := ⟨_, rfl⟩
      clear hf c0 c1 c2 HY1 OT hb'
      go_wp2
      go_loopw [15, 16] (fun v i wr => ∃ k : Nat, k ≤ 64 ∧ i = .int .i64 k ∧ Hid (OwnI wr (w2.heap.size + 1) v (bitsTo n k)) ∧ Hid (Fr (w2.alloc (.cells #[.int .u64 p, .int .u64 u, .int .u64 d] 30)) wr [])) (fun _ i _ => 64 - (intOf i).toNat)
      case atStart => exact ⟨0, Nat.zero_le _, rfl, Lib.hid (OwnI.nil _ _), Lib.hid (Fr.refl _ _)⟩
      case round =>
        obtain ⟨k, hk, rfl, HO, HF⟩ := hrel
        have HSR := Lib.hid (HS2.out.fr HF.out)
        by_cases hlk : k < 64
        · obtain ⟨y, hy⟩ : ∃ y, y = hasB n k := ⟨_, rfl⟩
          have AX := Lib.hid (fun W => AN.out k y hy W)
          have HKL := Lib.hid (bitsTo_len n k)
          obtain ⟨_, _, _, c0, c1, c2⟩ := HSR.out
          go_wp2_with fail
          with_reducible refine (AX.out _).mono ?_
          rintro e3 w3 ⟨rfl, hf⟩
          have HO3 := Lib.hid (HO.out.keep hf)
          have HF3 := Lib.hid (HF.out.trans hf)
          clear hf c0 c1 c2 HO HF HSR
          cases y with
          | false =>
            have HE : Hid (bitsTo n (k + 1) = bitsTo n k) := bitsTo_no hy.symm
            clear hy
            go_wp2
            go_roundw
            case rel => exact ⟨k + 1, by omega, by go_num, by rw [HE.out]; exact HO3, HF3⟩
            case measure => simp [intOf]; omega
          | true =>
            have HE : Hid (bitsTo n (k + 1) = bitsTo n k ++ [(k : Int)]) := bitsTo_yes hy.symm
            have HZ3 : Hid (w2.heap.size + 1 ≤ w3.heap.size + 1) := by
              refine Lib.hid ?_
              have := HF3.out.size
              simp at this
              omega
            clear hy
            go_wp2_with (at_builtin; refine wpList_append_own _ rfl _ _ 22 rfl (w2.heap.size + 1) 3 i0 (.int .i64 0) 1 8 Tryd.underlying22 hi hz0 hz1 hz2 rfl (by decide) _ _ _ rfl (World.ownsRow.alloc HO3.out _) ⟨w3.heap.size, 0, none⟩ 1 1 [.int .i64 k] rfl rfl (cell_one_new _ _ _) (one_cell _ _) (by have := HKL.out; unfold maxLen; omega) (by have := HKL.out; omega) (by have := HZ3.out; simp; omega) ?_; intro v' w4 hown4 hg4 _)
            have HG := Lib.hid (Fr.of_grown (grown_new (HF3.out.grown (by simp)) (grown_trans (World.grownBy_alloc w3 _ _) hg4) (fun r hr => by have := (HO3.out.block r hr).1; simp; omega)) [])
            have HN : Hid (OwnI w4 (w2.heap.size + 1) v' (bitsTo n (k + 1))) := by show OwnI _ _ _ _; rw [HE.out]; exact OwnI.snoc hown4
            clear hown4 hg4
            go_wp2
            go_roundw
            case rel => exact ⟨k + 1, by omega, by go_num, HN, HG⟩
            case measure => simp [intOf]; omega
        · obtain rfl : 64 = k := by omega
          rw [bitsTo_all] at HO
          have HVA := Lib.hid HO.out.holds
          have h5 := Lib.hid (HS2.out.fr HF.out)
          clear HO HF HS2 AN
          go_wp2_with fail
          simp only [List.append_eq, List.cons_append, List.nil_append]
          refine wp_region_noPanic ?_
          refine wp_region_detU (S := AS wr w.heap.size w2.heap.size p u d f e) 78 (by kernel_rfl) (by kernel_rfl) (h5.out.self.fr (Fr.drew _ [])) ?_
          refine wpDetU_take (t := 78) (by decide) (i := 0) (oi := _) (v := ?dv1) (by simp only [List.getElem?_toArray, List.getElem?_cons_zero]; rfl) (by kernel_rfl) (by kernel_rfl) (by kernel_rfl) (Or.inl ⟨by rfl, ?dy1⟩) ?dr1
          case dy1 => (intro w hSw; have hS0 := hSw; (try dsimp only [AS] at hSw); go_simp; refine Came.value ?_ hS0; with_reducible rfl)
          try simp only [Act.put, List.setIfInBounds_toArray, List.set_cons_zero, List.set_cons_succ]
          refine wpDetU_take (t := 78) (by decide) (i := 1) (oi := _) (v := ?dv2) (by simp only [List.getElem?_toArray, List.getElem?_cons_zero, List.getElem?_cons_succ]; rfl) (by kernel_rfl) (by kernel_rfl) (by kernel_rfl) (Or.inl ⟨by rfl, ?dy2⟩) ?dr2
          case dy2 => (intro w hSw; have hS0 := hSw; (try dsimp only [AS] at hSw); go_simp; refine Came.value ?_ hS0; with_reducible rfl)
          try simp only [Act.put, List.setIfInBounds_toArray, List.set_cons_zero, List.set_cons_succ]
          refine wpDetU_take (t := 78) (by decide) (i := 2) (oi := _) (v := ?dv3) (by simp only [List.getElem?_toArray, List.getElem?_cons_zero, List.getElem?_cons_succ]; rfl) (by kernel_rfl) (by kernel_rfl) (by kernel_rfl) (Or.inl ⟨by rfl, ?dy3⟩) ?dr3
          case dy3 => (intro w hSw; have hS0 := hSw; (try dsimp only [AS] at hSw); go_simp; refine Came.value ?_ hS0; with_reducible rfl)
          try simp only [Act.put, List.setIfInBounds_toArray, List.set_cons_zero, List.set_cons_succ]
          refine wpDetU_take (t := 78) (by decide) (i := 3) (oi := _) (v := ?dv4) (by simp only [List.getElem?_toArray, List.getElem?_cons_zero, List.getElem?_cons_succ]; rfl) (by kernel_rfl) (by kernel_rfl) (by kernel_rfl) (Or.inl ⟨by rfl, ?dy4⟩) ?dr4
          case dy4 => (intro w hSw; have hS0 := hSw; (try dsimp only [AS] at hSw); go_simp; refine Came.value ?_ hS0; with_reducible rfl)
          try simp only [Act.put, List.setIfInBounds_toArray, List.set_cons_zero, List.set_cons_succ]
          refine wpDetU_take (t := 78) (by decide) (i := 5) (oi := _) (v := ?dv5) (by simp only [List.getElem?_toArray, List.getElem?_cons_zero, List.getElem?_cons_succ]; rfl) (by kernel_rfl) (by kernel_rfl) (by kernel_rfl) (Or.inl ⟨by rfl, ?dy5⟩) ?dr5
          case dy5 => (intro w hSw; have hS0 := hSw; (try dsimp only [AS] at hSw); go_simp; refine Came.value ?_ hS0; with_reducible rfl)
          try simp only [Act.put, List.setIfInBounds_toArray, List.set_cons_zero, List.set_cons_succ]
          refine wpDetU_take (t := 78) (by decide) (i := 6) (oi := _) (v := ?dv6) (by simp only [List.getElem?_toArray, List.getElem?_cons_zero, List.getElem?_cons_succ]; rfl) (by kernel_rfl) (by kernel_rfl) (by kernel_rfl) (Or.inl ⟨by rfl, ?dy6⟩) ?dr6
          case dy6 => (intro w hSw; have hS0 := hSw; (try dsimp only [AS] at hSw); go_simp; refine Came.value ?_ hS0; with_reducible rfl)
          try simp only [Act.put, List.setIfInBounds_toArray, List.set_cons_zero, List.set_cons_succ]
          refine wpDetU_take (t := 78) (by decide) (i := 4) (oi := _) (v := ?dv7) (by simp only [List.getElem?_toArray, List.getElem?_cons_zero, List.getElem?_cons_succ]; rfl) (by kernel_rfl) (by kernel_rfl) (by kernel_rfl) (Or.inl ⟨by rfl, ?dy7⟩) ?dr7
          case dy7 => (intro w hSw; go_simp; exact Came.call ((OF.out w (H1.out.fr (h5.out.1.trans hSw.1) (by simp)) (H2.out.keep (h5.out.1.trans hSw.1))).mono fun e w' ⟨he, hf⟩ => ⟨he, hSw.fr hf⟩) (by with_reducible rfl))
          try simp only [Act.put, List.setIfInBounds_toArray, List.set_cons_zero, List.set_cons_succ]
          refine wpDetU_take (t := 78) (by decide) (i := 7) (oi := _) (v := ?dv8) (by simp only [List.getElem?_toArray, List.getElem?_cons_zero, List.getElem?_cons_succ]; rfl) (by kernel_rfl) (by kernel_rfl) (by kernel_rfl) (Or.inl ⟨by rfl, ?dy8⟩) ?dr8
          case dy8 => (intro w hSw; go_simp; exact Came.call ((RO.out w (H1.out.fr (h5.out.1.trans hSw.1) (by simp)) (H2.out.keep (h5.out.1.trans hSw.1))).mono fun e w' ⟨he, hf⟩ => ⟨he, hSw.fr hf⟩) (by with_reducible rfl))
          try simp only [Act.put, List.setIfInBounds_toArray, List.set_cons_zero, List.set_cons_succ]
          refine wpDetU_take (t := 78) (by decide) (i := 8) (oi := _) (v := ?dv9) (by simp only [List.getElem?_toArray, List.getElem?_cons_zero, List.getElem?_cons_succ]; rfl) (by kernel_rfl) (by kernel_rfl) (by kernel_rfl) (Or.inl ⟨by rfl, ?dy9⟩) ?dr9
          case dy9 => (intro w hSw; go_simp; exact Came.call ((SM1.out w).mono fun e w' ⟨he, hf⟩ => ⟨he, hSw.fr hf⟩) (by with_reducible rfl))
          try simp only [Act.put, List.setIfInBounds_toArray, List.set_cons_zero, List.set_cons_succ]
          refine wpDetU_take (t := 78) (by decide) (i := 9) (oi := _) (v := ?dv10) (by simp only [List.getElem?_toArray, List.getElem?_cons_zero, List.getElem?_cons_succ]; rfl) (by kernel_rfl) (by kernel_rfl) (by kernel_rfl) (Or.inl ⟨by rfl, ?dy10⟩) ?dr10
          case dy10 => (intro w hSw; have hS0 := hSw; (try dsimp only [AS] at hSw); go_simp; refine Came.value ?_ hS0; with_reducible rfl)
          try simp only [Act.put, List.setIfInBounds_toArray, List.set_cons_zero, List.set_cons_succ]
          refine wpDetU_take (t := 78) (by decide) (i := 10) (oi := _) (v := ?dv11) (by simp only [List.getElem?_toArray, List.getElem?_cons_zero, List.getElem?_cons_succ]; rfl) (by kernel_rfl) (by kernel_rfl) (by kernel_rfl) (Or.inl ⟨by rfl, ?dy11⟩) ?dr11
          case dy11 => (intro w hSw; have hS0 := hSw; (try dsimp only [AS] at hSw); go_simp; refine Came.value ?_ hS0; with_reducible rfl)
          try simp only [Act.put, List.setIfInBounds_toArray, List.set_cons_zero, List.set_cons_succ]
          refine wpDetU_take (t := 78) (by decide) (i := 11) (oi := _) (v := ?dv12) (by simp only [List.getElem?_toArray, List.getElem?_cons_zero, List.getElem?_cons_succ]; rfl) (by kernel_rfl) (by kernel_rfl) (by kernel_rfl) (Or.inl ⟨by rfl, ?dy12⟩) ?dr12
          case dy12 => (intro w hSw; have hS0 := hSw; (try dsimp only [AS] at hSw); go_simp; refine Came.value ?_ hS0; with_reducible rfl)
          try simp only [Act.put, List.setIfInBounds_toArray, List.set_cons_zero, List.set_cons_succ]
          refine wpDetU_take (t := 78) (by decide) (i := 12) (oi := _) (v := ?dv13) (by simp only [List.getElem?_toArray, List.getElem?_cons_zero, List.getElem?_cons_succ]; rfl) (by kernel_rfl) (by kernel_rfl) (by kernel_rfl) (Or.inl ⟨by rfl, ?dy13⟩) ?dr13
          case dy13 => (intro w hSw; have hS0 := hSw; (try dsimp only [AS] at hSw); go_simp; refine Came.value ?_ hS0; with_reducible rfl)
          try simp only [Act.put, List.setIfInBounds_toArray, List.set_cons_zero, List.set_cons_succ]
          refine wpDetU_take (t := 78) (by decide) (i := 14) (oi := _) (v := ?dv14) (by simp only [List.getElem?_toArray, List.getElem?_cons_zero, List.getElem?_cons_succ]; rfl) (by kernel_rfl) (by kernel_rfl) (by kernel_rfl) (Or.inl ⟨by rfl, ?dy14⟩) ?dr14
          case dy14 => (intro w hSw; have hS0 := hSw; (try dsimp only [AS] at hSw); go_simp; refine Came.value ?_ hS0; with_reducible rfl)
          try simp only [Act.put, List.setIfInBounds_toArray, List.set_cons_zero, List.set_cons_succ]
          refine wpDetU_take (t := 78) (by decide) (i := 15) (oi := _) (v := ?dv15) (by simp only [List.getElem?_toArray, List.getElem?_cons_zero, List.getElem?_cons_succ]; rfl) (by kernel_rfl) (by kernel_rfl) (by kernel_rfl) (Or.inl ⟨by rfl, ?dy15⟩) ?dr15
          case dy15 => (intro w hSw; have hS0 := hSw; (try dsimp only [AS] at hSw); go_simp; refine Came.value ?_ hS0; with_reducible rfl)
          try simp only [Act.put, List.setIfInBounds_toArray, List.set_cons_zero, List.set_cons_succ]
          refine wpDetU_take (t := 78) (by decide) (i := 13) (oi := _) (v := ?dv16) (by simp only [List.getElem?_toArray, List.getElem?_cons_zero, List.getElem?_cons_succ]; rfl) (by kernel_rfl) (by kernel_rfl) (by kernel_rfl) (Or.inl ⟨by rfl, ?dy16⟩) ?dr16
          case dy16 => (intro w hSw; go_simp; exact Came.call ((PU.out w).mono fun e w' ⟨he, hf⟩ => ⟨he, hSw.fr hf⟩) (by with_reducible rfl))
          try simp only [Act.put, List.setIfInBounds_toArray, List.set_cons_zero, List.set_cons_succ]
          refine wpDetU_take (t := 78) (by decide) (i := 16) (oi := _) (v := ?dv17) (by simp only [List.getElem?_toArray, List.getElem?_cons_zero, List.getElem?_cons_succ]; rfl) (by kernel_rfl) (by kernel_rfl) (by kernel_rfl) (Or.inl ⟨by rfl, ?dy17⟩) ?dr17
          case dy17 => (intro w hSw; go_simp; exact Came.call ((RPU.out w).mono fun e w' ⟨he, hf⟩ => ⟨he, hSw.fr hf⟩) (by with_reducible rfl))
          try simp only [Act.put, List.setIfInBounds_toArray, List.set_cons_zero, List.set_cons_succ]
          refine wpDetU_take (t := 78) (by decide) (i := 17) (oi := _) (v := ?dv18) (by simp only [List.getElem?_toArray, List.getElem?_cons_zero, List.getElem?_cons_succ]; rfl) (by kernel_rfl) (by kernel_rfl) (by kernel_rfl) (Or.inl ⟨by rfl, ?dy18⟩) ?dr18
          case dy18 => (intro w hSw; go_simp; exact Came.call ((SM2.out w).mono fun e w' ⟨he, hf⟩ => ⟨he, hSw.fr hf⟩) (by with_reducible rfl))
          try simp only [Act.put, List.setIfInBounds_toArray, List.set_cons_zero, List.set_cons_succ]
          refine wpDetU_take (t := 78) (by decide) (i := 18) (oi := _) (v := ?dv19) (by simp only [List.getElem?_toArray, List.getElem?_cons_zero, List.getElem?_cons_succ]; rfl) (by kernel_rfl) (by kernel_rfl) (by kernel_rfl) (Or.inl ⟨by rfl, ?dy19⟩) ?dr19
          case dy19 => (intro w hSw; have hS0 := hSw; (try dsimp only [AS] at hSw); go_simp; refine Came.value ?_ hS0; with_reducible rfl)
          try simp only [Act.put, List.setIfInBounds_toArray, List.set_cons_zero, List.set_cons_succ]
          refine wpDetU_take (t := 78) (by decide) (i := 19) (oi := _) (v := ?dv20) (by simp only [List.getElem?_toArray, List.getElem?_cons_zero, List.getElem?_cons_succ]; rfl) (by kernel_rfl) (by kernel_rfl) (by kernel_rfl) (Or.inl ⟨by rfl, ?dy20⟩) ?dr20
          case dy20 => (intro w hSw; have hS0 := hSw; (try dsimp only [AS] at hSw); go_simp; refine Came.value ?_ hS0; with_reducible rfl)
          try simp only [Act.put, List.setIfInBounds_toArray, List.set_cons_zero, List.set_cons_succ]
          refine wpDetU_take (t := 78) (by decide) (i := 20) (oi := _) (v := ?dv21) (by simp only [List.getElem?_toArray, List.getElem?_cons_zero, List.getElem?_cons_succ]; rfl) (by kernel_rfl) (by kernel_rfl) (by kernel_rfl) (Or.inl ⟨by rfl, ?dy21⟩) ?dr21
          case dy21 => (intro w hSw; have hS0 := hSw; (try dsimp only [AS] at hSw); go_simp; refine Came.value ?_ hS0; with_reducible rfl)
          try simp only [Act.put, List.setIfInBounds_toArray, List.set_cons_zero, List.set_cons_succ]
          refine wpDetU_take (t := 78) (by decide) (i := 21) (oi := _) (v := ?dv22) (by simp only [List.getElem?_toArray, List.getElem?_cons_zero, List.getElem?_cons_succ]; rfl) (by kernel_rfl) (by kernel_rfl) (by kernel_rfl) (Or.inl ⟨by rfl, ?dy22⟩) ?dr22
          case dy22 => (intro w hSw; have hS0 := hSw; (try dsimp only [AS] at hSw); go_simp; refine Came.value ?_ hS0; with_reducible rfl)
          try simp only [Act.put, List.setIfInBounds_toArray, List.set_cons_zero, List.set_cons_succ]
          refine wpDetU_take (t := 78) (by decide) (i := 23) (oi := _) (v := ?dv23) (by simp only [List.getElem?_toArray, List.getElem?_cons_zero, List.getElem?_cons_succ]; rfl) (by kernel_rfl) (by kernel_rfl) (by kernel_rfl) (Or.inl ⟨by rfl, ?dy23⟩) ?dr23
          case dy23 => (intro w hSw; have hS0 := hSw; (try dsimp only [AS] at hSw); go_simp; refine Came.value ?_ hS0; with_reducible rfl)
          try simp only [Act.put, List.setIfInBounds_toArray, List.set_cons_zero, List.set_cons_succ]
          refine wpDetU_take (t := 78) (by decide) (i := 24) (oi := _) (v := ?dv24) (by simp only [List.getElem?_toArray, List.getElem?_cons_zero, List.getElem?_cons_succ]; rfl) (by kernel_rfl) (by kernel_rfl) (by kernel_rfl) (Or.inl ⟨by rfl, ?dy24⟩) ?dr24
          case dy24 => (intro w hSw; have hS0 := hSw; (try dsimp only [AS] at hSw); go_simp; refine Came.value ?_ hS0; with_reducible rfl)
          try simp only [Act.put, List.setIfInBounds_toArray, List.set_cons_zero, List.set_cons_succ]
          refine wpDetU_take (t := 78) (by decide) (i := 22) (oi := _) (v := ?dv25) (by simp only [List.getElem?_toArray, List.getElem?_cons_zero, List.getElem?_cons_succ]; rfl) (by kernel_rfl) (by kernel_rfl) (by kernel_rfl) (Or.inl ⟨by rfl, ?dy25⟩) ?dr25
          case dy25 => (intro w hSw; go_simp; exact Came.call ((AT.out w).mono fun e w' ⟨he, hf⟩ => ⟨he, hSw.fr hf⟩) (by with_reducible rfl))
          try simp only [Act.put, List.setIfInBounds_toArray, List.set_cons_zero, List.set_cons_succ]
          refine wpDetU_take (t := 78) (by decide) (i := 25) (oi := _) (v := ?dv26) (by simp only [List.getElem?_toArray, List.getElem?_cons_zero, List.getElem?_cons_succ]; rfl) (by kernel_rfl) (by kernel_rfl) (by kernel_rfl) (Or.inl ⟨by rfl, ?dy26⟩) ?dr26
          case dy26 => (intro w hSw; go_simp; exact Came.call ((RAT.out w).mono fun e w' ⟨he, hf⟩ => ⟨he, hSw.fr hf⟩) (by with_reducible rfl))
          try simp only [Act.put, List.setIfInBounds_toArray, List.set_cons_zero, List.set_cons_succ]
          refine wpDetU_take (t := 78) (by decide) (i := 26) (oi := _) (v := ?dv27) (by simp only [List.getElem?_toArray, List.getElem?_cons_zero, List.getElem?_cons_succ]; rfl) (by kernel_rfl) (by kernel_rfl) (by kernel_rfl) (Or.inl ⟨by rfl, ?dy27⟩) ?dr27
          case dy27 => (intro w hSw; have hS0 := hSw; (try dsimp only [AS] at hSw); go_simp; refine Came.value ?_ hS0; with_reducible rfl)
          try simp only [Act.put, List.setIfInBounds_toArray, List.set_cons_zero, List.set_cons_succ]
          refine wpDetU_take (t := 78) (by decide) (i := 27) (oi := _) (v := ?dv28) (by simp only [List.getElem?_toArray, List.getElem?_cons_zero, List.getElem?_cons_succ]; rfl) (by kernel_rfl) (by kernel_rfl) (by kernel_rfl) (Or.inl ⟨by rfl, ?dy28⟩) ?dr28
          case dy28 => (intro w hSw; have hS0 := hSw; (try dsimp only [AS] at hSw); go_simp; refine Came.value ?_ hS0; with_reducible rfl)
          try simp only [Act.put, List.setIfInBounds_toArray, List.set_cons_zero, List.set_cons_succ]
          refine wpDetU_take (t := 78) (by decide) (i := 28) (oi := _) (v := ?dv29) (by simp only [List.getElem?_toArray, List.getElem?_cons_zero, List.getElem?_cons_succ]; rfl) (by kernel_rfl) (by kernel_rfl) (by kernel_rfl) (Or.inl ⟨by rfl, ?dy29⟩) ?dr29
          case dy29 => (intro w hSw; have hS0 := hSw; (try dsimp only [AS] at hSw); go_simp; refine Came.value ?_ hS0; with_reducible rfl)
          try simp only [Act.put, List.setIfInBounds_toArray, List.set_cons_zero, List.set_cons_succ]
          refine wpDetU_take (t := 78) (by decide) (i := 29) (oi := _) (v := ?dv30) (by simp only [List.getElem?_toArray, List.getElem?_cons_zero, List.getElem?_cons_succ]; rfl) (by kernel_rfl) (by kernel_rfl) (by kernel_rfl) (Or.inl ⟨by rfl, ?dy30⟩) ?dr30
          case dy30 => (intro w hSw; have hS0 := hSw; (try dsimp only [AS] at hSw); go_simp; refine Came.value ?_ hS0; with_reducible rfl)
          try simp only [Act.put, List.setIfInBounds_toArray, List.set_cons_zero, List.set_cons_succ]
          refine wpDetU_take (t := 78) (by decide) (i := 30) (oi := _) (v := ?dv31) (by simp only [List.getElem?_toArray, List.getElem?_cons_zero, List.getElem?_cons_succ]; rfl) (by kernel_rfl) (by kernel_rfl) (by kernel_rfl) (Or.inl ⟨by rfl, ?dy31⟩) ?dr31
          case dy31 => (intro w hSw; have hS0 := hSw; (try dsimp only [AS] at hSw); go_simp; refine Came.value ?_ hS0; with_reducible rfl)
          try simp only [Act.put, List.setIfInBounds_toArray, List.set_cons_zero, List.set_cons_succ]
          refine wpDetU_take (t := 78) (by decide) (i := 31) (oi := _) (v := ?dv32) (by simp only [List.getElem?_toArray, List.getElem?_cons_zero, List.getElem?_cons_succ]; rfl) (by kernel_rfl) (by kernel_rfl) (by kernel_rfl) (Or.inl ⟨by rfl, ?dy32⟩) ?dr32
          case dy32 => (intro w hSw; have hS0 := hSw; (try dsimp only [AS] at hSw); go_simp; refine Came.value ?_ hS0; with_reducible rfl)
          try simp only [Act.put, List.setIfInBounds_toArray, List.set_cons_zero, List.set_cons_succ]
          refine wpDetU_take (t := 78) (by decide) (i := 33) (oi := _) (v := ?dv33) (by simp only [List.getElem?_toArray, List.getElem?_cons_zero, List.getElem?_cons_succ]; rfl) (by kernel_rfl) (by kernel_rfl) (by kernel_rfl) (Or.inl ⟨by rfl, ?dy33⟩) ?dr33
          case dy33 => (intro w hSw; have hS0 := hSw; (try dsimp only [AS] at hSw); go_simp; refine Came.value ?_ hS0; with_reducible rfl)
          try simp only [Act.put, List.setIfInBounds_toArray, List.set_cons_zero, List.set_cons_succ]
          refine wpDetU_take (t := 78) (by decide) (i := 34) (oi := _) (v := ?dv34) (by simp only [List.getElem?_toArray, List.getElem?_cons_zero, List.getElem?_cons_succ]; rfl) (by kernel_rfl) (by kernel_rfl) (by kernel_rfl) (Or.inl ⟨by rfl, ?dy34⟩) ?dr34
          case dy34 => (intro w hSw; have hS0 := hSw; (try dsimp only [AS] at hSw); go_simp; refine Came.value ?_ hS0; with_reducible rfl)
          try simp only [Act.put, List.setIfInBounds_toArray, List.set_cons_zero, List.set_cons_succ]
          refine wpDetU_take (t := 78) (by decide) (i := 35) (oi := _) (v := ?dv35) (by simp only [List.getElem?_toArray, List.getElem?_cons_zero, List.getElem?_cons_succ]; rfl) (by kernel_rfl) (by kernel_rfl) (by kernel_rfl) (Or.inl ⟨by rfl, ?dy35⟩) ?dr35
          case dy35 => (intro w hSw; have hS0 := hSw; (try dsimp only [AS] at hSw); go_simp; refine Came.value ?_ hS0; with_reducible rfl)
          try simp only [Act.put, List.setIfInBounds_toArray, List.set_cons_zero, List.set_cons_succ]
          refine wpDetU_take (t := 78) (by decide) (i := 32) (oi := _) (v := ?dv36) (by simp only [List.getElem?_toArray, List.getElem?_cons_zero, List.getElem?_cons_succ]; rfl) (by kernel_rfl) (by kernel_rfl) (by kernel_rfl) (Or.inl ⟨by rfl, ?dy36⟩) ?dr36
          case dy36 => (intro w hSw; go_simp; exact Came.call ((HA.out w).mono fun e w' ⟨he, hf⟩ => ⟨he, hSw.fr hf⟩) (by with_reducible rfl))
          try simp only [Act.put, List.setIfInBounds_toArray, List.set_cons_zero, List.set_cons_succ]
          refine wpDetU_take (t := 78) (by decide) (i := 36) (oi := _) (v := ?dv37) (by simp only [List.getElem?_toArray, List.getElem?_cons_zero, List.getElem?_cons_succ]; rfl) (by kernel_rfl) (by kernel_rfl) (by kernel_rfl) (Or.inl ⟨by rfl, ?dy37⟩) ?dr37
          case dy37 => (intro w hSw; go_simp; exact Came.call ((RHA.out w).mono fun e w' ⟨he, hf⟩ => ⟨he, hSw.fr hf⟩) (by with_reducible rfl))
          try simp only [Act.put, List.setIfInBounds_toArray, List.set_cons_zero, List.set_cons_succ]
          refine wpDetU_take (t := 78) (by decide) (i := 37) (oi := _) (v := ?dv38) (by simp only [List.getElem?_toArray, List.getElem?_cons_zero, List.getElem?_cons_succ]; rfl) (by kernel_rfl) (by kernel_rfl) (by kernel_rfl) (Or.inl ⟨by rfl, ?dy38⟩) ?dr38
          case dy38 => (intro w hSw; have hS0 := hSw; (try dsimp only [AS] at hSw); go_simp; refine Came.value ?_ hS0; with_reducible rfl)
          try simp only [Act.put, List.setIfInBounds_toArray, List.set_cons_zero, List.set_cons_succ]
          refine wpDetU_take (t := 78) (by decide) (i := 38) (oi := _) (v := ?dv39) (by simp only [List.getElem?_toArray, List.getElem?_cons_zero, List.getElem?_cons_succ]; rfl) (by kernel_rfl) (by kernel_rfl) (by kernel_rfl) (Or.inl ⟨by rfl, ?dy39⟩) ?dr39
          case dy39 => (intro w hSw; have hS0 := hSw; (try dsimp only [AS] at hSw); go_simp; refine Came.value ?_ hS0; with_reducible rfl)
          try simp only [Act.put, List.setIfInBounds_toArray, List.set_cons_zero, List.set_cons_succ]
          refine wpDetU_take (t := 78) (by decide) (i := 39) (oi := _) (v := ?dv40) (by simp only [List.getElem?_toArray, List.getElem?_cons_zero, List.getElem?_cons_succ]; rfl) (by kernel_rfl) (by kernel_rfl) (by kernel_rfl) (Or.inl ⟨by rfl, ?dy40⟩) ?dr40
          case dy40 => (intro w hSw; have hS0 := hSw; (try dsimp only [AS] at hSw); go_simp; refine Came.value ?_ hS0; with_reducible rfl)
          try simp only [Act.put, List.setIfInBounds_toArray, List.set_cons_zero, List.set_cons_succ]
          refine wpDetU_take (t := 78) (by decide) (i := 40) (oi := _) (v := ?dv41) (by simp only [List.getElem?_toArray, List.getElem?_cons_zero, List.getElem?_cons_succ]; rfl) (by kernel_rfl) (by kernel_rfl) (by kernel_rfl) (Or.inl ⟨by rfl, ?dy41⟩) ?dr41
          case dy41 => (intro w hSw; have hS0 := hSw; (try dsimp only [AS] at hSw); go_simp; refine Came.value ?_ hS0; with_reducible rfl)
          try simp only [Act.put, List.setIfInBounds_toArray, List.set_cons_zero, List.set_cons_succ]
          refine wpDetU_take (t := 78) (by decide) (i := 41) (oi := _) (v := ?dv42) (by simp only [List.getElem?_toArray, List.getElem?_cons_zero, List.getElem?_cons_succ]; rfl) (by kernel_rfl) (by kernel_rfl) (by kernel_rfl) (Or.inl ⟨by rfl, ?dy42⟩) ?dr42
          case dy42 => (intro w hSw; have hS0 := hSw; (try dsimp only [AS] at hSw); go_simp; refine Came.value ?_ hS0; with_reducible rfl)
          try simp only [Act.put, List.setIfInBounds_toArray, List.set_cons_zero, List.set_cons_succ]
          refine wpDetU_take (t := 78) (by decide) (i := 43) (oi := _) (v := ?dv43) (by simp only [List.getElem?_toArray, List.getElem?_cons_zero, List.getElem?_cons_succ]; rfl) (by kernel_rfl) (by kernel_rfl) (by kernel_rfl) (Or.inl ⟨by rfl, ?dy43⟩) ?dr43
          case dy43 => (intro w hSw; have hS0 := hSw; (try dsimp only [AS] at hSw); go_simp; refine Came.value ?_ hS0; with_reducible rfl)
          try simp only [Act.put, List.setIfInBounds_toArray, List.set_cons_zero, List.set_cons_succ]
          refine wpDetU_take (t := 78) (by decide) (i := 44) (oi := _) (v := ?dv44) (by simp only [List.getElem?_toArray, List.getElem?_cons_zero, List.getElem?_cons_succ]; rfl) (by kernel_rfl) (by kernel_rfl) (by kernel_rfl) (Or.inl ⟨by rfl, ?dy44⟩) ?dr44
          case dy44 => (intro w hSw; have hS0 := hSw; (try dsimp only [AS] at hSw); go_simp; refine Came.value ?_ hS0; with_reducible rfl)
          try simp only [Act.put, List.setIfInBounds_toArray, List.set_cons_zero, List.set_cons_succ]
          refine wpDetU_take (t := 78) (by decide) (i := 42) (oi := _) (v := ?dv45) (by simp only [List.getElem?_toArray, List.getElem?_cons_zero, List.getElem?_cons_succ]; rfl) (by kernel_rfl) (by kernel_rfl) (by kernel_rfl) (Or.inl ⟨by rfl, ?dy45⟩) ?dr45
          case dy45 => (intro w hSw; go_simp; exact Came.call ((AB.out w).mono fun e w' ⟨he, hf⟩ => ⟨he, hSw.fr hf⟩) (by with_reducible rfl))
          try simp only [Act.put, List.setIfInBounds_toArray, List.set_cons_zero, List.set_cons_succ]
          refine wpDetU_take (t := 78) (by decide) (i := 45) (oi := _) (v := ?dv46) (by simp only [List.getElem?_toArray, List.getElem?_cons_zero, List.getElem?_cons_succ]; rfl) (by kernel_rfl) (by kernel_rfl) (by kernel_rfl) (Or.inl ⟨by rfl, ?dy46⟩) ?dr46
          case dy46 => (intro w hSw; go_simp; exact Came.call ((RAB.out w).mono fun e w' ⟨he, hf⟩ => ⟨he, hSw.fr hf⟩) (by with_reducible rfl))
          try simp only [Act.put, List.setIfInBounds_toArray, List.set_cons_zero, List.set_cons_succ]
          refine wpDetU_take (t := 78) (by decide) (i := 46) (oi := _) (v := ?dv47) (by simp only [List.getElem?_toArray, List.getElem?_cons_zero, List.getElem?_cons_succ]; rfl) (by kernel_rfl) (by kernel_rfl) (by kernel_rfl) (Or.inl ⟨by rfl, ?dy47⟩) ?dr47
          case dy47 => (intro w hSw; have hS0 := hSw; (try dsimp only [AS] at hSw); go_simp; refine Came.value ?_ hS0; with_reducible rfl)
          try simp only [Act.put, List.setIfInBounds_toArray, List.set_cons_zero, List.set_cons_succ]
          refine wpDetU_take (t := 78) (by decide) (i := 47) (oi := _) (v := ?dv48) (by simp only [List.getElem?_toArray, List.getElem?_cons_zero, List.getElem?_cons_succ]; rfl) (by kernel_rfl) (by kernel_rfl) (by kernel_rfl) (Or.inl ⟨by rfl, ?dy48⟩) ?dr48
          case dy48 => (intro w hSw; have hS0 := hSw; (try dsimp only [AS] at hSw); go_simp; refine Came.value ?_ hS0; with_reducible rfl)
          try simp only [Act.put, List.setIfInBounds_toArray, List.set_cons_zero, List.set_cons_succ]
          refine wpDetU_take (t := 78) (by decide) (i := 48) (oi := _) (v := ?dv49) (by simp only [List.getElem?_toArray, List.getElem?_cons_zero, List.getElem?_cons_succ]; rfl) (by kernel_rfl) (by kernel_rfl) (by kernel_rfl) (Or.inl ⟨by rfl, ?dy49⟩) ?dr49
          case dy49 => (intro w hSw; have hS0 := hSw; (try dsimp only [AS] at hSw); go_simp; refine Came.value ?_ hS0; with_reducible rfl)
          try simp only [Act.put, List.setIfInBounds_toArray, List.set_cons_zero, List.set_cons_succ]
          refine wpDetU_take (t := 78) (by decide) (i := 49) (oi := _) (v := ?dv50) (by simp only [List.getElem?_toArray, List.getElem?_cons_zero, List.getElem?_cons_succ]; rfl) (by kernel_rfl) (by kernel_rfl) (by kernel_rfl) (Or.inl ⟨by rfl, ?dy50⟩) ?dr50
          case dy50 => (intro w hSw; have hS0 := hSw; (try dsimp only [AS] at hSw); go_simp; refine Came.value ?_ hS0; with_reducible rfl)
          try simp only [Act.put, List.setIfInBounds_toArray, List.set_cons_zero, List.set_cons_succ]
          refine wpDetU_take (t := 78) (by decide) (i := 50) (oi := _) (v := ?dv51) (by simp only [List.getElem?_toArray, List.getElem?_cons_zero, List.getElem?_cons_succ]; rfl) (by kernel_rfl) (by kernel_rfl) (by kernel_rfl) (Or.inl ⟨by rfl, ?dy51⟩) ?dr51
          case dy51 => (intro w hSw; have hS0 := hSw; (try dsimp only [AS] at hSw); go_simp; refine Came.value ?_ hS0; with_reducible rfl)
          try simp only [Act.put, List.setIfInBounds_toArray, List.set_cons_zero, List.set_cons_succ]
          refine wpDetU_take (t := 78) (by decide) (i := 52) (oi := _) (v := ?dv52) (by simp only [List.getElem?_toArray, List.getElem?_cons_zero, List.getElem?_cons_succ]; rfl) (by kernel_rfl) (by kernel_rfl) (by kernel_rfl) (Or.inl ⟨by rfl, ?dy52⟩) ?dr52
          case dy52 => (intro w hSw; have hS0 := hSw; (try dsimp only [AS] at hSw); go_simp; refine Came.value ?_ hS0; with_reducible rfl)
          try simp only [Act.put, List.setIfInBounds_toArray, List.set_cons_zero, List.set_cons_succ]
          refine wpDetU_take (t := 78) (by decide) (i := 53) (oi := _) (v := ?dv53) (by simp only [List.getElem?_toArray, List.getElem?_cons_zero, List.getElem?_cons_succ]; rfl) (by kernel_rfl) (by kernel_rfl) (by kernel_rfl) (Or.inl ⟨by rfl, ?dy53⟩) ?dr53
          case dy53 => (intro w hSw; have hS0 := hSw; (try dsimp only [AS] at hSw); go_simp; refine Came.value ?_ hS0; with_reducible rfl)
          try simp only [Act.put, List.setIfInBounds_toArray, List.set_cons_zero, List.set_cons_succ]
          refine wpDetU_take (t := 78) (by decide) (i := 51) (oi := _) (v := ?dv54) (by simp only [List.getElem?_toArray, List.getElem?_cons_zero, List.getElem?_cons_succ]; rfl) (by kernel_rfl) (by kernel_rfl) (by kernel_rfl) (Or.inl ⟨by rfl, ?dy54⟩) ?dr54
          case dy54 => (intro w hSw; go_simp; exact Came.call ((BE.out w).mono fun e w' ⟨he, hf⟩ => ⟨he, hSw.fr hf⟩) (by with_reducible rfl))
          try simp only [Act.put, List.setIfInBounds_toArray, List.set_cons_zero, List.set_cons_succ]
          refine wpDetU_take (t := 78) (by decide) (i := 54) (oi := _) (v := ?dv55) (by simp only [List.getElem?_toArray, List.getElem?_cons_zero, List.getElem?_cons_succ]; rfl) (by kernel_rfl) (by kernel_rfl) (by kernel_rfl) (Or.inl ⟨by rfl, ?dy55⟩) ?dr55
          case dy55 => (intro w hSw; go_simp; exact Came.call ((RBE.out w).mono fun e w' ⟨he, hf⟩ => ⟨he, hSw.fr hf⟩) (by with_reducible rfl))
          try simp only [Act.put, List.setIfInBounds_toArray, List.set_cons_zero, List.set_cons_succ]
          refine wpDetU_take (t := 78) (by decide) (i := 55) (oi := _) (v := ?dv56) (by simp only [List.getElem?_toArray, List.getElem?_cons_zero, List.getElem?_cons_succ]; rfl) (by kernel_rfl) (by kernel_rfl) (by kernel_rfl) (Or.inl ⟨by rfl, ?dy56⟩) ?dr56
          case dy56 => (intro w hSw; have hS0 := hSw; (try dsimp only [AS] at hSw); go_simp; refine Came.value ?_ hS0; with_reducible rfl)
          try simp only [Act.put, List.setIfInBounds_toArray, List.set_cons_zero, List.set_cons_succ]
          refine wpDetU_take (t := 78) (by decide) (i := 56) (oi := _) (v := ?dv57) (by simp only [List.getElem?_toArray, List.getElem?_cons_zero, List.getElem?_cons_succ]; rfl) (by kernel_rfl) (by kernel_rfl) (by kernel_rfl) (Or.inl ⟨by rfl, ?dy57⟩) ?dr57
          case dy57 => (intro w hSw; have hS0 := hSw; (try dsimp only [AS] at hSw); go_simp; refine Came.value ?_ hS0; with_reducible rfl)
          try simp only [Act.put, List.setIfInBounds_toArray, List.set_cons_zero, List.set_cons_succ]
          refine wpDetU_take (t := 78) (by decide) (i := 57) (oi := _) (v := ?dv58) (by simp only [List.getElem?_toArray, List.getElem?_cons_zero, List.getElem?_cons_succ]; rfl) (by kernel_rfl) (by kernel_rfl) (by kernel_rfl) (Or.inl ⟨by rfl, ?dy58⟩) ?dr58
          case dy58 => (intro w hSw; have hS0 := hSw; (try dsimp only [AS] at hSw); go_simp; refine Came.value ?_ hS0; with_reducible rfl)
          try simp only [Act.put, List.setIfInBounds_toArray, List.set_cons_zero, List.set_cons_succ]
          refine wpDetU_take (t := 78) (by decide) (i := 58) (oi := _) (v := ?dv59) (by simp only [List.getElem?_toArray, List.getElem?_cons_zero, List.getElem?_cons_succ]; rfl) (by kernel_rfl) (by kernel_rfl) (by kernel_rfl) (Or.inl ⟨by rfl, ?dy59⟩) ?dr59
          case dy59 => (intro w hSw; have hS0 := hSw; (try dsimp only [AS] at hSw); go_simp; refine Came.value ?_ hS0; with_reducible rfl)
          try simp only [Act.put, List.setIfInBounds_toArray, List.set_cons_zero, List.set_cons_succ]
          refine wpDetU_take (t := 78) (by decide) (i := 59) (oi := _) (v := ?dv60) (by simp only [List.getElem?_toArray, List.getElem?_cons_zero, List.getElem?_cons_succ]; rfl) (by kernel_rfl) (by kernel_rfl) (by kernel_rfl) (Or.inl ⟨by rfl, ?dy60⟩) ?dr60
          case dy60 => (intro w hSw; have hS0 := hSw; (try dsimp only [AS] at hSw); go_simp; refine Came.value ?_ hS0; with_reducible rfl)
          try simp only [Act.put, List.setIfInBounds_toArray, List.set_cons_zero, List.set_cons_succ]
          refine wpDetU_take (t := 78) (by decide) (i := 60) (oi := _) (v := ?dv61) (by simp only [List.getElem?_toArray, List.getElem?_cons_zero, List.getElem?_cons_succ]; rfl) (by kernel_rfl) (by kernel_rfl) (by kernel_rfl) (Or.inl ⟨by rfl, ?dy61⟩) ?dr61
          case dy61 => (intro w hSw; have hS0 := hSw; (try dsimp only [AS] at hSw); go_simp; refine Came.value ?_ hS0; with_reducible rfl)
          try simp only [Act.put, List.setIfInBounds_toArray, List.set_cons_zero, List.set_cons_succ]
          refine wpDetU_take (t := 78) (by decide) (i := 62) (oi := _) (v := ?dv62) (by simp only [List.getElem?_toArray, List.getElem?_cons_zero, List.getElem?_cons_succ]; rfl) (by kernel_rfl) (by kernel_rfl) (by kernel_rfl) (Or.inl ⟨by rfl, ?dy62⟩) ?dr62
          case dy62 => (intro w hSw; have hS0 := hSw; (try dsimp only [AS] at hSw); go_simp; refine Came.value ?_ hS0; with_reducible rfl)
          try simp only [Act.put, List.setIfInBounds_toArray, List.set_cons_zero, List.set_cons_succ]
          refine wpDetU_take (t := 78) (by decide) (i := 63) (oi := _) (v := ?dv63) (by simp only [List.getElem?_toArray, List.getElem?_cons_zero, List.getElem?_cons_succ]; rfl) (by kernel_rfl) (by kernel_rfl) (by kernel_rfl) (Or.inl ⟨by rfl, ?dy63⟩) ?dr63
          case dy63 => (intro w hSw; have hS0 := hSw; (try dsimp only [AS] at hSw); go_simp; refine Came.value ?_ hS0; with_reducible rfl)
          try simp only [Act.put, List.setIfInBounds_toArray, List.set_cons_zero, List.set_cons_succ]
          refine wpDetU_take (t := 78) (by decide) (i := 64) (oi := _) (v := ?dv64) (by simp only [List.getElem?_toArray, List.getElem?_cons_zero, List.getElem?_cons_succ]; rfl) (by kernel_rfl) (by kernel_rfl) (by kernel_rfl) (Or.inl ⟨by rfl, ?dy64⟩) ?dr64
          case dy64 => (intro w hSw; have hS0 := hSw; (try dsimp only [AS] at hSw); go_simp; refine Came.value ?_ hS0; with_reducible rfl)
          try simp only [Act.put, List.setIfInBounds_toArray, List.set_cons_zero, List.set_cons_succ]
          refine wpDetU_take (t := 78) (by decide) (i := 61) (oi := _) (v := ?dv65) (by simp only [List.getElem?_toArray, List.getElem?_cons_zero, List.getElem?_cons_succ]; rfl) (by kernel_rfl) (by kernel_rfl) (by kernel_rfl) (Or.inl ⟨by rfl, ?dy65⟩) ?dr65
          case dy65 => (intro w hSw; go_simp; exact Came.call ((TO.out w).mono fun e w' ⟨he, hf⟩ => ⟨he, hSw.fr hf⟩) (by with_reducible rfl))
          try simp only [Act.put, List.setIfInBounds_toArray, List.set_cons_zero, List.set_cons_succ]
          refine wpDetU_take (t := 78) (by decide) (i := 65) (oi := _) (v := ?dv66) (by simp only [List.getElem?_toArray, List.getElem?_cons_zero, List.getElem?_cons_succ]; rfl) (by kernel_rfl) (by kernel_rfl) (by kernel_rfl) (Or.inl ⟨by rfl, ?dy66⟩) ?dr66
          case dy66 => (intro w hSw; go_simp; exact Came.call ((RTO.out w).mono fun e w' ⟨he, hf⟩ => ⟨he, hSw.fr hf⟩) (by with_reducible rfl))
          try simp only [Act.put, List.setIfInBounds_toArray, List.set_cons_zero, List.set_cons_succ]
          refine wpDetU_take (t := 78) (by decide) (i := 66) (oi := _) (v := ?dv67) (by simp only [List.getElem?_toArray, List.getElem?_cons_zero, List.getElem?_cons_succ]; rfl) (by kernel_rfl) (by kernel_rfl) (by kernel_rfl) (Or.inl ⟨by rfl, ?dy67⟩) ?dr67
          case dy67 => (intro w hSw; have hS0 := hSw; (try dsimp only [AS] at hSw); go_simp; refine Came.value ?_ hS0; with_reducible rfl)
          try simp only [Act.put, List.setIfInBounds_toArray, List.set_cons_zero, List.set_cons_succ]
          refine wpDetU_take (t := 78) (by decide) (i := 67) (oi := _) (v := ?dv68) (by simp only [List.getElem?_toArray, List.getElem?_cons_zero, List.getElem?_cons_succ]; rfl) (by kernel_rfl) (by kernel_rfl) (by kernel_rfl) (Or.inl ⟨by rfl, ?dy68⟩) ?dr68
          case dy68 => (intro w hSw; have hS0 := hSw; (try dsimp only [AS] at hSw); go_simp; refine Came.value ?_ hS0; with_reducible rfl)
          try simp only [Act.put, List.setIfInBounds_toArray, List.set_cons_zero, List.set_cons_succ]
          refine wpDetU_take (t := 78) (by decide) (i := 68) (oi := _) (v := ?dv69) (by simp only [List.getElem?_toArray, List.getElem?_cons_zero, List.getElem?_cons_succ]; rfl) (by kernel_rfl) (by kernel_rfl) (by kernel_rfl) (Or.inl ⟨by rfl, ?dy69⟩) ?dr69
          case dy69 => (intro w hSw; have hS0 := hSw; (try dsimp only [AS] at hSw); go_simp; refine Came.value ?_ hS0; with_reducible rfl)
          try simp only [Act.put, List.setIfInBounds_toArray, List.set_cons_zero, List.set_cons_succ]
          refine wpDetU_take (t := 78) (by decide) (i := 69) (oi := _) (v := ?dv70) (by simp only [List.getElem?_toArray, List.getElem?_cons_zero, List.getElem?_cons_succ]; rfl) (by kernel_rfl) (by kernel_rfl) (by kernel_rfl) (Or.inl ⟨by rfl, ?dy70⟩) ?dr70
          case dy70 => (intro w hSw; have hS0 := hSw; (try dsimp only [AS] at hSw); go_simp; refine Came.value ?_ hS0; with_reducible rfl)
          try simp only [Act.put, List.setIfInBounds_toArray, List.set_cons_zero, List.set_cons_succ]
          refine wpDetU_take (t := 78) (by decide) (i := 70) (oi := _) (v := ?dv71) (by simp only [List.getElem?_toArray, List.getElem?_cons_zero, List.getElem?_cons_succ]; rfl) (by kernel_rfl) (by kernel_rfl) (by kernel_rfl) (Or.inl ⟨by rfl, ?dy71⟩) ?dr71
          case dy71 => (intro w hSw; have hS0 := hSw; (try dsimp only [AS] at hSw); go_simp; refine Came.value ?_ hS0; with_reducible rfl)
          try simp only [Act.put, List.setIfInBounds_toArray, List.set_cons_zero, List.set_cons_succ]
          refine wpDetU_take (t := 78) (by decide) (i := 72) (oi := _) (v := ?dv72) (by simp only [List.getElem?_toArray, List.getElem?_cons_zero, List.getElem?_cons_succ]; rfl) (by kernel_rfl) (by kernel_rfl) (by kernel_rfl) (Or.inl ⟨by rfl, ?dy72⟩) ?dr72
          case dy72 => (intro w hSw; have hS0 := hSw; (try dsimp only [AS] at hSw); go_simp; refine Came.value ?_ hS0; with_reducible rfl)
          try simp only [Act.put, List.setIfInBounds_toArray, List.set_cons_zero, List.set_cons_succ]
          refine wpDetU_take (t := 78) (by decide) (i := 73) (oi := _) (v := ?dv73) (by simp only [List.getElem?_toArray, List.getElem?_cons_zero, List.getElem?_cons_succ]; rfl) (by kernel_rfl) (by kernel_rfl) (by kernel_rfl) (Or.inl ⟨by rfl, ?dy73⟩) ?dr73
          case dy73 => (intro w hSw; have hS0 := hSw; (try dsimp only [AS] at hSw); go_simp; refine Came.value ?_ hS0; with_reducible rfl)
          try simp only [Act.put, List.setIfInBounds_toArray, List.set_cons_zero, List.set_cons_succ]
          refine wpDetU_take (t := 78) (by decide) (i := 71) (oi := _) (v := ?dv74) (by simp only [List.getElem?_toArray, List.getElem?_cons_zero, List.getElem?_cons_succ]; rfl) (by kernel_rfl) (by kernel_rfl) (by kernel_rfl) (Or.inl ⟨by rfl, ?dy74⟩) ?dr74
          case dy74 => (intro w hSw; go_simp; exact Came.call ((NE.out w (HT.out.fr (h5.out.1.trans hSw.1))).mono fun e w' ⟨he, hf⟩ => ⟨he, hSw.fr hf⟩) (by with_reducible rfl))
          try simp only [Act.put, List.setIfInBounds_toArray, List.set_cons_zero, List.set_cons_succ]
          refine wpDetU_take (t := 78) (by decide) (i := 74) (oi := _) (v := ?dv75) (by simp only [List.getElem?_toArray, List.getElem?_cons_zero, List.getElem?_cons_succ]; rfl) (by kernel_rfl) (by kernel_rfl) (by kernel_rfl) (Or.inl ⟨by rfl, ?dy75⟩) ?dr75
          case dy75 => (intro w hSw; go_simp; exact Came.call ((RNE.out w).mono fun e w' ⟨he, hf⟩ => ⟨he, hSw.fr hf⟩) (by with_reducible rfl))
          try simp only [Act.put, List.setIfInBounds_toArray, List.set_cons_zero, List.set_cons_succ]
          refine wpDetU_take (t := 78) (by decide) (i := 75) (oi := _) (v := ?dv76) (by simp only [List.getElem?_toArray, List.getElem?_cons_zero, List.getElem?_cons_succ]; rfl) (by kernel_rfl) (by kernel_rfl) (by kernel_rfl) (Or.inl ⟨by rfl, ?dy76⟩) ?dr76
          case dy76 => (intro w hSw; have hS0 := hSw; (try dsimp only [AS] at hSw); go_simp; refine Came.value ?_ hS0; with_reducible rfl)
          try simp only [Act.put, List.setIfInBounds_toArray, List.set_cons_zero, List.set_cons_succ]
          refine wpDetU_take (t := 78) (by decide) (i := 76) (oi := _) (v := ?dv77) (by simp only [List.getElem?_toArray, List.getElem?_cons_zero, List.getElem?_cons_succ]; rfl) (by kernel_rfl) (by kernel_rfl) (by kernel_rfl) (Or.inl ⟨by rfl, ?dy77⟩) ?dr77
          case dy77 => (intro w hSw; have hS0 := hSw; (try dsimp only [AS] at hSw); go_simp; refine Came.value ?_ hS0; with_reducible rfl)
          try simp only [Act.put, List.setIfInBounds_toArray, List.set_cons_zero, List.set_cons_succ]
          refine wpDetU_take (t := 78) (by decide) (i := 77) (oi := _) (v := ?dv78) (by simp only [List.getElem?_toArray, List.getElem?_cons_zero, List.getElem?_cons_succ]; rfl) (by kernel_rfl) (by kernel_rfl) (by kernel_rfl) (Or.inl ⟨by rfl, ?dy78⟩) ?dr78
          case dy78 => (intro w hSw; have hS0 := hSw; (try dsimp only [AS] at hSw); go_simp; refine Came.value ?_ hS0; with_reducible rfl)
          try simp only [Act.put, List.setIfInBounds_toArray, List.set_cons_zero, List.set_cons_succ]
          refine wpDetU_tail (S := AS wr w.heap.size w2.heap.size p u d f e) (by kernel_rfl) ?_
          intro wt hHeld
          refine wpAnyH_take (i := 78) (oi := _) (v := ?fv78h79n80) (by simp only [List.getElem?_toArray, List.getElem?_cons_zero, List.getElem?_cons_succ]; rfl) (by kernel_rfl) (by kernel_rfl) (by kernel_rfl) (fun _ _ _ h => h) (Or.inl ⟨by rfl, ?fy78h79n80⟩) (by assumption) ?fr78h79n80
          case fy78h79n80 => (intro w hSw; (try dsimp only [AS] at hSw); go_simp; try with_reducible rfl)
          try simp only [Act.put, List.setIfInBounds_toArray, List.set_cons_zero, List.set_cons_succ]
          refine wpAnyH_take (i := 80) (oi := _) (v := ?fv80h79n80) (by simp only [List.getElem?_toArray, List.getElem?_cons_zero, List.getElem?_cons_succ]; rfl) (by kernel_rfl) (by kernel_rfl) (by kernel_rfl) (fun _ _ _ h => h) (Or.inl ⟨by rfl, ?fy80h79n80⟩) (by assumption) ?fr80h79n80
          case fy80h79n80 => (intro w hSw; (try dsimp only [AS] at hSw); go_simp; try with_reducible rfl)
          try simp only [Act.put, List.setIfInBounds_toArray, List.set_cons_zero, List.set_cons_succ]
          refine wpAnyH_ready (rs := [79]) (by kernel_rfl) (by simp) ?_
          refine AllReadyH.cons (o := _) rfl (fun K hK => ?_) AllReadyH.nil
          go_simp
          have K79 := Lib.hid (FL.out _ (HT.out.fr (h5.out.1.trans hHeld.1)))
          ((with_reducible refine K79.out.mono ?_); rintro e x79 ⟨vf, rfl, hof, hf⟩; have HVF := Lib.hid hof.holds; clear hof K79)
          go_wp2_with fail
          refine hK.out _ _ (hHeld.fr hf) (fun hHeld => ?_)
          clear hK K
          try simp only [Act.put, List.setIfInBounds_toArray, List.set_cons_zero, List.set_cons_succ]
          refine wpAnyH_ready (rs := [81]) (by kernel_rfl) (by simp) ?_
          refine AllReadyH.cons (o := _) rfl (fun K hK => ?_) AllReadyH.nil
          go_simp
          have K81 := Lib.hid (sameI_any vf (bitsOf n) _ (bitsOf n) _ HVF.out (HVA.out.fr (hHeld.1) (by simp)) (by have := HLN.out; omega) true (by simp))
          ((with_reducible refine K81.out.mono ?_); rintro e x81 ⟨rfl, hg⟩; have hf := Fr.of_grown hg []; clear hg K81)
          go_wp2_with fail
          refine hK.out _ _ (hHeld.fr hf) (fun hHeld => ?_)
          clear hK K
          try simp only [Act.put, List.setIfInBounds_toArray, List.set_cons_zero, List.set_cons_succ]
          refine wpAnyH_take (i := 82) (oi := _) (v := ?fv82h79n81) (by simp only [List.getElem?_toArray, List.getElem?_cons_zero, List.getElem?_cons_succ]; rfl) (by kernel_rfl) (by kernel_rfl) (by kernel_rfl) (fun _ _ _ h => h) (Or.inl ⟨by rfl, ?fy82h79n81⟩) (by assumption) ?fr82h79n81
          case fy82h79n81 => (intro w hSw; (try dsimp only [AS] at hSw); go_simp; try with_reducible rfl)
          try simp only [Act.put, List.setIfInBounds_toArray, List.set_cons_zero, List.set_cons_succ]
          refine wpAnyH_take (i := 83) (oi := _) (v := ?fv83h79n81) (by simp only [List.getElem?_toArray, List.getElem?_cons_zero, List.getElem?_cons_succ]; rfl) (by kernel_rfl) (by kernel_rfl) (by kernel_rfl) (fun _ _ _ h => h) (Or.inl ⟨by rfl, ?fy83h79n81⟩) (by assumption) ?fr83h79n81
          case fy83h79n81 => (intro w hSw; (try dsimp only [AS] at hSw); go_simp; try with_reducible rfl)
          try simp only [Act.put, List.setIfInBounds_toArray, List.set_cons_zero, List.set_cons_succ]
          refine wpAnyH_done (by kernel_rfl) ?_ _
          refine NoPanic.normal ?_
          have hEND := h5.out.1.trans hHeld.1
          clear hHeld
          go_wp2
          go_ret
          exact ⟨rfl, hEND⟩
    · go_wp2
      go_ret
      exact ⟨rfl, HY1.out.1⟩
  · go_wp2
    go_ret
    exact ⟨rfl, HY1.out.1⟩
theorem asays_walk (v1 : Value) (l : List Int) (v2 : Value) (m : List La) (s : Sp) (h : s.ok) (f e z dr : Int) (w : World) (h1 : HInts w v1 l) (h2 : HLs w v2 m) (hT : Tz w) : Calls Tryd.prog 3 #[v1, v2, s.v, .agg #[.int .i64 f, .int .i64 e], .int .i64 z, .int .i64 dr] w fun x w' => x = .returned (.bool true) ∧ w.grownBy w' none :=
  (says_true v1 l v2 m s f e z dr h w h1 h2 hT).mono fun _ _ ⟨he, hf⟩ => ⟨he, hf.grown (by simp)⟩
end Go.Proofs.YtaoflgfppdbhiaaDoor
