/- The walk of the law of the numbers' forms: it answers true, and writes nothing that was there. -/
import Derived.Test.YtmacbafkbhigcaaDoorSee2
import Derived.OpenShut
namespace Go.Proofs.YtmacbafkbhigcaaDoor
open Go.RowKit

theorem Rd.mono {w : World} {B B' p : Nat} {l : List Int} {k : Nat} {e : Value} (h : Rd w B p l k e) (hB : B' ≤ B) : Rd w B' p l k e := by
  obtain ⟨h1, v, h2, h3⟩ := h
  exact ⟨by omega, v, h2, h3.mono hB⟩
theorem Own.cellAt {w : World} {B g n cap : Nat} {l : List Int} (h : Own w B (.slice (some ⟨g, 0, none⟩) n cap) l) (j : Nat) (hj : j < l.length) : w.cell? ⟨g, j, none⟩ = some (.int .u8 (l.getD j 0)) ∧ w.frozen? ⟨g, j, none⟩ = false := by
  obtain ⟨a, c, he⟩ := h.shape
  obtain rfl : n = l.length := by simp at he; omega
  refine ⟨?_, h.frozenAt j⟩
  rw [World.ownsRow.cellAt h j (by omega)]
  simp [u8s, hj]
theorem Own.set {w : World} {B g n cap : Nat} {l : List Int} (h : Own w B (.slice (some ⟨g, 0, none⟩) n cap) l) (j : Nat) (x : Int) :
    Own (w.setCell ⟨g, j, none⟩ (.int .u8 x)) B (.slice (some ⟨g, 0, none⟩) n cap) (l.set j x) ∧ w.grownBy (w.setCell ⟨g, j, none⟩ (.int .u8 x)) (some g) := by
  obtain ⟨a, c, he⟩ := h.shape
  obtain rfl : n = l.length := by simp at he; omega
  obtain ⟨h1, h2⟩ := World.ownsRow.stored h j (.int .u8 x)
  refine ⟨?_, h2⟩
  unfold Own
  rw [List.length_set]
  have : u8s (l.set j x) = (u8s l).set j (.int .u8 x) := by simp [u8s]
  rw [this]
  exact h1
theorem Own.at_head {w : World} {B : Nat} {v : Value} {l : List Int} (h : Own w B v l) (h0 : 0 < l.length) : ∃ g cap, v = .slice (some ⟨g, 0, none⟩) l.length cap ∧ l.length ≤ cap := by
  rcases h.2 with ⟨_, h1⟩ | ⟨g, cap, cur, rfl, _, _, hn, _⟩
  · omega
  · exact ⟨g, cap, rfl, hn⟩

theorem longer_set : ∀ (X : List Int), X ≠ [] → Wm.Byte X → X.set (X.length - 1) (bits .or .u8 (X.getD (X.length - 1) 0) 128) = Wm.longer X
  | [], h, _ => absurd rfl h
  | [x], _, hb => by
    have hx := hb x (by simp)
    obtain ⟨n, rfl⟩ := Int.eq_ofNat_of_zero_le hx.1
    have := Wm.or128 n (by omega)
    show [bits .or .u8 (n : Int) 128] = [if (n : Int) < 128 then (n : Int) + 128 else (n : Int)]
    rw [this]
    have e : ((n % 128 + 128 : Nat) : Int) = if (n : Int) < 128 then (n : Int) + 128 else (n : Int) := by split <;> omega
    rw [e]
  | x :: y :: l, _, hb => by
    have ih := longer_set (y :: l) (by simp) (fun z hz => hb z (by simp [hz]))
    have e : (x :: y :: l).length - 1 = ((y :: l).length - 1) + 1 := by simp
    rw [e]
    show x :: (y :: l).set ((y :: l).length - 1) (bits .or .u8 ((y :: l).getD ((y :: l).length - 1) 0) 128) = x :: Wm.longer (y :: l)
    rw [ih]
theorem longer_byte : ∀ (X : List Int), Wm.Byte X → Wm.Byte (Wm.longer X)
  | [], _ => by intro x hx; simp [Wm.longer] at hx
  | [x], hb => by
    have hx := hb x (by simp)
    intro z hz; simp [Wm.longer] at hz; subst hz; split <;> omega
  | x :: y :: l, hb => by
    have ih := longer_byte (y :: l) (fun z hz => hb z (by simp [hz]))
    intro z hz
    have hz' : z ∈ x :: Wm.longer (y :: l) := hz
    rcases List.mem_cons.1 hz' with rfl | hz'
    · exact hb _ (by simp)
    · exact ih z hz'

set_option maxHeartbeats 4000000 in
set_option maxRecDepth 100000 in
theorem forms_walk (a b : Int) (ha : (Lit.int .i64 a).wf = true) (hb : (Lit.int .i64 b).wf = true) (w : World) (A : Nat → Addr) (hE : E13 w A w.heap.size) :
    Calls Tryd.prog 4 #[.int .i64 a, .int .i64 b] w fun e w' => e = .returned (.bool true) ∧ w.grownBy w' none := by
  obtain ⟨ha0, ha1⟩ := bounds_i64 ha
  obtain ⟨hb0, hb1⟩ := bounds_i64 hb
  obtain ⟨i0, hi, hz0, hz1, hz2⟩ := info_parts infoU8
  go_enter Tryd.func4, Tryd.ntmps4
  go_wp2_with fail
  refine (first_any _).mono ?_
  rintro e w1 ⟨rfl, hg1⟩
  go_wp2_with fail
  refine (put_any _ [] a _ nil_bytes (by simp) (by omega) (by omega)).mono ?_
  rintro e w2 ⟨x, rfl, hox, hg2⟩
  rw [List.nil_append] at hox
  go_wp2_with fail
  refine (put_any _ [] b _ nil_bytes (by simp) (by omega) (by omega)).mono ?_
  rintro e w3 ⟨y, rfl, hoy, hg3⟩
  rw [List.nil_append] at hoy
  have lx := Wm.enc_len a
  have ly := Wm.enc_len b
  obtain ⟨gx, cx, rfl, kx⟩ := hox.at_head (by omega)
  obtain ⟨gy, cy, rfl, ky⟩ := hoy.at_head (by omega)
  have hbx := hox.bytes.grown hg3
  have hby := hoy.bytes
  have hcut := fun (h : (Wm.enc a).length ≤ (Wm.enc b).length) => Holds.cut hby (Wm.enc a).length h
  have h3 := grown_trans hg1 (grown_trans hg2 hg3)
  have HBX := Lib.hid hbx
  have HCUT := Lib.hid hcut
  have H3 := Lib.hid h3
  have HE := Lib.hid hE
  clear hbx hby hcut h3 hE hox hoy hg1 hg2 hg3
  have hap := fun h => Wm.enc_apart a b ha0 ha1 hb0 hb1 h
  have hlong := Wm.num_longer a ha0 ha1
  have hbyte := Wm.enc_byte a ha0 ha1
  obtain ⟨X, hX⟩ : ∃ X, X = Wm.enc a := ⟨_, rfl⟩
  obtain ⟨Y, hY⟩ : ∃ Y, Y = Wm.enc b := ⟨_, rfl⟩
  rw [← hX] at lx kx HBX HCUT hap hlong hbyte
  rw [← hY] at ly ky HCUT hap
  rw [← hX, ← hY]
  clear hX hY
  have e1 : ((X.length : Int) == 0) = false := by simp; intro e; simp [e] at lx
  have e2 : decide (10 < (X.length : Int)) = false := by simp; omega
  have e3 : ((Y.length : Int) == 0) = false := by simp; intro e; simp [e] at ly
  have HAP := Lib.hid hap
  have HLO := Lib.hid hlong
  have HBY := Lib.hid hbyte
  have HLX := Lib.hid lx
  have HLY := Lib.hid ly
  have HKX := Lib.hid kx
  have HKY := Lib.hid ky
  clear hap hlong hbyte lx ly kx ky
  by_cases hab : a = b
  · have hne : (a != b) = false := by simp [hab]
    clear hab
    go_wp2_with fail
    obtain ⟨w4, hw4⟩ : ∃ w4, w4 = w3 := ⟨_, rfl⟩
    rw [← hw4]
    have hg4 : w3.grownBy w4 none := by rw [hw4]; exact grown_refl _ _
    clear hw4
    refine (bytes_any _ X _ (HBX.out.grown hg4) (by have := HLX.out; omega)).mono ?_
    rintro e w5 ⟨z, rfl, hoz, hg5⟩
    obtain ⟨gz, cz, rfl, kz⟩ := hoz.at_head (by have := HLX.out; omega)
    have hx1 : 1 ≤ X.length := HLX.out.1
    have hx10 : X.length ≤ 10 := HLX.out.2
    obtain ⟨x0, hx0⟩ : ∃ x0, x0 = X.getD (X.length - 1) 0 := ⟨_, rfl⟩
    obtain ⟨k1, k2⟩ := hoz.cellAt (X.length - 1) (by omega)
    rw [← hx0] at k1
    have HX0 := Lib.hid hx0
    obtain ⟨s1, s2⟩ := hoz.set (X.length - 1) (bits .or .u8 x0 128)
    have hls := longer_set X (by intro e; rw [e] at hx1; simp at hx1) HBY.out
    rw [← hx0] at hls
    rw [hls] at s1
    have hll : (Wm.longer X).length = X.length := by rw [← hls]; simp
    have s3 : (w5.setCell ⟨gz, X.length - 1, none⟩ (.int .u8 (bits .or .u8 x0 128))).ownsRow w4.heap.size 5 1 (.slice (some ⟨gz, 0, none⟩) X.length cz) X.length (u8s (Wm.longer X)) := by
      have := s1
      unfold Own at this
      rwa [hll] at this
    have hn5 : (w5.setCell ⟨gz, X.length - 1, none⟩ (.int .u8 (bits .or .u8 x0 128))).heap.size = w5.heap.size := by simp [World.setCell]
    have news := cell_one_new (w5.setCell ⟨gz, X.length - 1, none⟩ (.int .u8 (bits .or .u8 x0 128))) (.int .u8 0) 5
    rw [hn5] at news
    have HS3 := Lib.hid s3
    have HS2 := Lib.hid s2
    have HNEWS := Lib.hid news
    have HLL := Lib.hid hll
    have hsz := (World.grownBy.size hg5)
    have hgz := (hoz.block gz rfl).1
    have HKZ := Lib.hid kz
    have HOZ := Lib.hid hoz
    clear hx0 s1 s2 s3 hls hll kz hoz hn5 news
    go_wp2_with (at_builtin; refine wpList_append_own _ rfl _ _ 22 rfl w4.heap.size 5 i0 (.int .u8 0) 1 1 Tryd.underlying22 hi hz0 hz1 hz2 rfl (by decide) (.slice (some ⟨gz, 0, none⟩) X.length cz) X.length (u8s (Wm.longer X)) rfl (World.ownsRow.alloc HS3.out _) ⟨w5.heap.size, 0, none⟩ 1 1 [.int .u8 0] rfl rfl HNEWS.out (one_cell _ _) (by unfold maxLen; omega) (by omega) (by simp; omega) ?_; intro v' w6 hown6 hg6 _)
    have h46 : w4.grownBy w6 none := grown_new hg5 (grown_trans (grown_of_none (some gz) (grown_trans (grown_refl w5 none) (grown_refl _ none))) (grown_trans HS2.out (grown_trans (World.grownBy_alloc _ _ (some gz)) hg6))) (fun r hr => by cases hr; exact hgz)
    have ho6 : Own w6 w4.heap.size v' (Wm.longer X ++ [0]) := by
      rw [← HLL.out] at hown6
      exact own_one hown6
    have hL : (Wm.longer X ++ [0]).length ≤ 11 := by rw [List.length_append, HLL.out]; simp; omega
    have hLB : Wm.Byte (Wm.longer X ++ [0]) := by
      intro x hx
      rcases List.mem_append.1 hx with h | h
      · exact longer_byte X HBY.out x h
      · simp at h; omega
    have hs : (0, 0, 2) = Wm.numS (Wm.longer X ++ [0]) 0 (-9223372036854775808) 9223372036854775807 := by
      unfold Wm.numS
      rw [List.drop_zero, HLO.out, if_pos (by decide)]
    have h06 : w.grownBy w6 none := grown_trans H3.out (grown_trans hg4 h46)
    obtain ⟨L, hLL⟩ : ∃ L, L = Wm.longer X ++ [0] := ⟨_, rfl⟩
    rw [← hLL] at ho6 hL hLB hs
    have HO6 := Lib.hid ho6
    have HL := Lib.hid hL
    have HLB := Lib.hid hLB
    have HSS := Lib.hid hs
    have H06 := Lib.hid h06
    clear hLL ho6 hL hLB hs h06 h46 hown6 hg6 HS3 HS2 HNEWS HLL HX0 HOZ HKZ k1 k2 hgz
    go_wp2_with fail
    refine (new_any _ L _ HO6.out.bytes (by have := HL.out; omega)).mono ?_
    rintro e w7 ⟨u7, rfl, p, rfl, hrd, hg7⟩
    have hrd' := hrd.mono (B' := w.heap.size) H06.out.size
    have hE7 := HE.out.kept (grown_trans H06.out hg7) (fun r e => by cases e)
    have HRD := Lib.hid hrd'
    have HE7 := Lib.hid hE7
    clear hrd hrd' hE7
    go_wp2_with fail
    refine (num_ok p L 0 _ _ _ A w.heap.size HRD.out (Nat.zero_le _) HLB.out HE7.out.three _ HSS.out).mono ?_
    rintro e w8 ⟨rfl, hrd8, hg8⟩
    have HRD8 := Lib.hid hrd8
    have hE8 := HE7.out.kept hg8 (fun r e => by cases e; exact HRD.out.1)
    have HE8 := Lib.hid hE8
    clear hrd8 hE8
    go_wp2_with fail
    refine (err_bad p L 0 _ A w.heap.size 2 HRD8.out (by decide)).mono ?_
    rintro e w9 ⟨u9, rfl, hat9, hg9⟩
    have HAT := Lib.hid hat9
    clear hat9
    go_wp2_with fail
    refine (placed_any _ _ _ (by decide)).mono ?_
    rintro e w10 ⟨rfl, hg10⟩
    go_wp2_with fail
    refine (same_code A w.heap.size 0 1 u9 _ ((HE8.out.kept hg9 (fun r e => by cases e)).kept hg10 (fun r e => by cases e)) (by decide) (HAT.out.grown hg10) _ _ (by decide) (by decide)).mono ?_
    rintro e w11 ⟨rfl, hg11⟩
    go_wp2_with fail
    refine (at_any p L 0 _ w.heap.size _ (((HRD8.out.grown hg9).grown hg10).grown hg11)).mono ?_
    rintro e w12 ⟨rfl, rfl⟩
    go_wp2
    go_ret
    exact ⟨rfl, grown_trans (grown_new (grown_trans H06.out hg7) hg8 (fun r e => by cases e; exact HRD.out.1)) (grown_trans hg9 (grown_trans hg10 hg11))⟩
  · have hne : (a != b) = true := by simp [hab]
    have HAB := Lib.hid hab
    clear hab
    by_cases hle : X.length ≤ Y.length
    · have hcut := HCUT.out hle
      have HCUT2 := Lib.hid hcut
      clear hcut
      have hky := HKY.out
      have hxy : X.length ≤ cy := by omega
      go_wp2_with fail
      refine (same_any _ X _ _ _ HBX.out HCUT2.out (by have := HLX.out; omega) false (by rw [eq_comm, decide_eq_false_iff_not]; intro e; exact HAB.out (HAP.out e.symm))).mono ?_
      rintro e w4 ⟨rfl, hg4⟩
      go_wp2_with fail
      refine (bytes_any _ X _ (HBX.out.grown hg4) (by have := HLX.out; omega)).mono ?_
      rintro e w5 ⟨z, rfl, hoz, hg5⟩
      obtain ⟨gz, cz, rfl, kz⟩ := hoz.at_head (by have := HLX.out; omega)
      have hx1 : 1 ≤ X.length := HLX.out.1
      have hx10 : X.length ≤ 10 := HLX.out.2
      obtain ⟨x0, hx0⟩ : ∃ x0, x0 = X.getD (X.length - 1) 0 := ⟨_, rfl⟩
      obtain ⟨k1, k2⟩ := hoz.cellAt (X.length - 1) (by omega)
      rw [← hx0] at k1
      have HX0 := Lib.hid hx0
      obtain ⟨s1, s2⟩ := hoz.set (X.length - 1) (bits .or .u8 x0 128)
      have hls := longer_set X (by intro e; rw [e] at hx1; simp at hx1) HBY.out
      rw [← hx0] at hls
      rw [hls] at s1
      have hll : (Wm.longer X).length = X.length := by rw [← hls]; simp
      have s3 : (w5.setCell ⟨gz, X.length - 1, none⟩ (.int .u8 (bits .or .u8 x0 128))).ownsRow w4.heap.size 5 1 (.slice (some ⟨gz, 0, none⟩) X.length cz) X.length (u8s (Wm.longer X)) := by
        have := s1
        unfold Own at this
        rwa [hll] at this
      have hn5 : (w5.setCell ⟨gz, X.length - 1, none⟩ (.int .u8 (bits .or .u8 x0 128))).heap.size = w5.heap.size := by simp [World.setCell]
      have news := cell_one_new (w5.setCell ⟨gz, X.length - 1, none⟩ (.int .u8 (bits .or .u8 x0 128))) (.int .u8 0) 5
      rw [hn5] at news
      have HS3 := Lib.hid s3
      have HS2 := Lib.hid s2
      have HNEWS := Lib.hid news
      have HLL := Lib.hid hll
      have hsz := (World.grownBy.size hg5)
      have hgz := (hoz.block gz rfl).1
      have HKZ := Lib.hid kz
      have HOZ := Lib.hid hoz
      clear hx0 s1 s2 s3 hls hll kz hoz hn5 news
      go_wp2_with (at_builtin; refine wpList_append_own _ rfl _ _ 22 rfl w4.heap.size 5 i0 (.int .u8 0) 1 1 Tryd.underlying22 hi hz0 hz1 hz2 rfl (by decide) (.slice (some ⟨gz, 0, none⟩) X.length cz) X.length (u8s (Wm.longer X)) rfl (World.ownsRow.alloc HS3.out _) ⟨w5.heap.size, 0, none⟩ 1 1 [.int .u8 0] rfl rfl HNEWS.out (one_cell _ _) (by unfold maxLen; omega) (by omega) (by simp; omega) ?_; intro v' w6 hown6 hg6 _)
      have h46 : w4.grownBy w6 none := grown_new hg5 (grown_trans (grown_of_none (some gz) (grown_trans (grown_refl w5 none) (grown_refl _ none))) (grown_trans HS2.out (grown_trans (World.grownBy_alloc _ _ (some gz)) hg6))) (fun r hr => by cases hr; exact hgz)
      have ho6 : Own w6 w4.heap.size v' (Wm.longer X ++ [0]) := by
        rw [← HLL.out] at hown6
        exact own_one hown6
      have hL : (Wm.longer X ++ [0]).length ≤ 11 := by rw [List.length_append, HLL.out]; simp; omega
      have hLB : Wm.Byte (Wm.longer X ++ [0]) := by
        intro x hx
        rcases List.mem_append.1 hx with h | h
        · exact longer_byte X HBY.out x h
        · simp at h; omega
      have hs : (0, 0, 2) = Wm.numS (Wm.longer X ++ [0]) 0 (-9223372036854775808) 9223372036854775807 := by
        unfold Wm.numS
        rw [List.drop_zero, HLO.out, if_pos (by decide)]
      have h06 : w.grownBy w6 none := grown_trans H3.out (grown_trans hg4 h46)
      obtain ⟨L, hLL⟩ : ∃ L, L = Wm.longer X ++ [0] := ⟨_, rfl⟩
      rw [← hLL] at ho6 hL hLB hs
      have HO6 := Lib.hid ho6
      have HL := Lib.hid hL
      have HLB := Lib.hid hLB
      have HSS := Lib.hid hs
      have H06 := Lib.hid h06
      clear hLL ho6 hL hLB hs h06 h46 hown6 hg6 HS3 HS2 HNEWS HLL HX0 HOZ HKZ k1 k2 hgz
      go_wp2_with fail
      refine (new_any _ L _ HO6.out.bytes (by have := HL.out; omega)).mono ?_
      rintro e w7 ⟨u7, rfl, p, rfl, hrd, hg7⟩
      have hrd' := hrd.mono (B' := w.heap.size) H06.out.size
      have hE7 := HE.out.kept (grown_trans H06.out hg7) (fun r e => by cases e)
      have HRD := Lib.hid hrd'
      have HE7 := Lib.hid hE7
      clear hrd hrd' hE7
      go_wp2_with fail
      refine (num_ok p L 0 _ _ _ A w.heap.size HRD.out (Nat.zero_le _) HLB.out HE7.out.three _ HSS.out).mono ?_
      rintro e w8 ⟨rfl, hrd8, hg8⟩
      have HRD8 := Lib.hid hrd8
      have hE8 := HE7.out.kept hg8 (fun r e => by cases e; exact HRD.out.1)
      have HE8 := Lib.hid hE8
      clear hrd8 hE8
      go_wp2_with fail
      refine (err_bad p L 0 _ A w.heap.size 2 HRD8.out (by decide)).mono ?_
      rintro e w9 ⟨u9, rfl, hat9, hg9⟩
      have HAT := Lib.hid hat9
      clear hat9
      go_wp2_with fail
      refine (placed_any _ _ _ (by decide)).mono ?_
      rintro e w10 ⟨rfl, hg10⟩
      go_wp2_with fail
      refine (same_code A w.heap.size 0 1 u9 _ ((HE8.out.kept hg9 (fun r e => by cases e)).kept hg10 (fun r e => by cases e)) (by decide) (HAT.out.grown hg10) _ _ (by decide) (by decide)).mono ?_
      rintro e w11 ⟨rfl, hg11⟩
      go_wp2_with fail
      refine (at_any p L 0 _ w.heap.size _ (((HRD8.out.grown hg9).grown hg10).grown hg11)).mono ?_
      rintro e w12 ⟨rfl, rfl⟩
      go_wp2
      go_ret
      exact ⟨rfl, grown_trans (grown_new (grown_trans H06.out hg7) hg8 (fun r e => by cases e; exact HRD.out.1)) (grown_trans hg9 (grown_trans hg10 hg11))⟩
    · have hle2 : ¬ ((X.length : Int) ≤ (Y.length : Int)) := by omega
      go_wp2_with fail
      obtain ⟨w4, hw4⟩ : ∃ w4, w4 = w3 := ⟨_, rfl⟩
      rw [← hw4]
      have hg4 : w3.grownBy w4 none := by rw [hw4]; exact grown_refl _ _
      clear hw4
      refine (bytes_any _ X _ (HBX.out.grown hg4) (by have := HLX.out; omega)).mono ?_
      rintro e w5 ⟨z, rfl, hoz, hg5⟩
      obtain ⟨gz, cz, rfl, kz⟩ := hoz.at_head (by have := HLX.out; omega)
      have hx1 : 1 ≤ X.length := HLX.out.1
      have hx10 : X.length ≤ 10 := HLX.out.2
      obtain ⟨x0, hx0⟩ : ∃ x0, x0 = X.getD (X.length - 1) 0 := ⟨_, rfl⟩
      obtain ⟨k1, k2⟩ := hoz.cellAt (X.length - 1) (by omega)
      rw [← hx0] at k1
      have HX0 := Lib.hid hx0
      obtain ⟨s1, s2⟩ := hoz.set (X.length - 1) (bits .or .u8 x0 128)
      have hls := longer_set X (by intro e; rw [e] at hx1; simp at hx1) HBY.out
      rw [← hx0] at hls
      rw [hls] at s1
      have hll : (Wm.longer X).length = X.length := by rw [← hls]; simp
      have s3 : (w5.setCell ⟨gz, X.length - 1, none⟩ (.int .u8 (bits .or .u8 x0 128))).ownsRow w4.heap.size 5 1 (.slice (some ⟨gz, 0, none⟩) X.length cz) X.length (u8s (Wm.longer X)) := by
        have := s1
        unfold Own at this
        rwa [hll] at this
      have hn5 : (w5.setCell ⟨gz, X.length - 1, none⟩ (.int .u8 (bits .or .u8 x0 128))).heap.size = w5.heap.size := by simp [World.setCell]
      have news := cell_one_new (w5.setCell ⟨gz, X.length - 1, none⟩ (.int .u8 (bits .or .u8 x0 128))) (.int .u8 0) 5
      rw [hn5] at news
      have HS3 := Lib.hid s3
      have HS2 := Lib.hid s2
      have HNEWS := Lib.hid news
      have HLL := Lib.hid hll
      have hsz := (World.grownBy.size hg5)
      have hgz := (hoz.block gz rfl).1
      have HKZ := Lib.hid kz
      have HOZ := Lib.hid hoz
      clear hx0 s1 s2 s3 hls hll kz hoz hn5 news
      go_wp2_with (at_builtin; refine wpList_append_own _ rfl _ _ 22 rfl w4.heap.size 5 i0 (.int .u8 0) 1 1 Tryd.underlying22 hi hz0 hz1 hz2 rfl (by decide) (.slice (some ⟨gz, 0, none⟩) X.length cz) X.length (u8s (Wm.longer X)) rfl (World.ownsRow.alloc HS3.out _) ⟨w5.heap.size, 0, none⟩ 1 1 [.int .u8 0] rfl rfl HNEWS.out (one_cell _ _) (by unfold maxLen; omega) (by omega) (by simp; omega) ?_; intro v' w6 hown6 hg6 _)
      have h46 : w4.grownBy w6 none := grown_new hg5 (grown_trans (grown_of_none (some gz) (grown_trans (grown_refl w5 none) (grown_refl _ none))) (grown_trans HS2.out (grown_trans (World.grownBy_alloc _ _ (some gz)) hg6))) (fun r hr => by cases hr; exact hgz)
      have ho6 : Own w6 w4.heap.size v' (Wm.longer X ++ [0]) := by
        rw [← HLL.out] at hown6
        exact own_one hown6
      have hL : (Wm.longer X ++ [0]).length ≤ 11 := by rw [List.length_append, HLL.out]; simp; omega
      have hLB : Wm.Byte (Wm.longer X ++ [0]) := by
        intro x hx
        rcases List.mem_append.1 hx with h | h
        · exact longer_byte X HBY.out x h
        · simp at h; omega
      have hs : (0, 0, 2) = Wm.numS (Wm.longer X ++ [0]) 0 (-9223372036854775808) 9223372036854775807 := by
        unfold Wm.numS
        rw [List.drop_zero, HLO.out, if_pos (by decide)]
      have h06 : w.grownBy w6 none := grown_trans H3.out (grown_trans hg4 h46)
      obtain ⟨L, hLL⟩ : ∃ L, L = Wm.longer X ++ [0] := ⟨_, rfl⟩
      rw [← hLL] at ho6 hL hLB hs
      have HO6 := Lib.hid ho6
      have HL := Lib.hid hL
      have HLB := Lib.hid hLB
      have HSS := Lib.hid hs
      have H06 := Lib.hid h06
      clear hLL ho6 hL hLB hs h06 h46 hown6 hg6 HS3 HS2 HNEWS HLL HX0 HOZ HKZ k1 k2 hgz
      go_wp2_with fail
      refine (new_any _ L _ HO6.out.bytes (by have := HL.out; omega)).mono ?_
      rintro e w7 ⟨u7, rfl, p, rfl, hrd, hg7⟩
      have hrd' := hrd.mono (B' := w.heap.size) H06.out.size
      have hE7 := HE.out.kept (grown_trans H06.out hg7) (fun r e => by cases e)
      have HRD := Lib.hid hrd'
      have HE7 := Lib.hid hE7
      clear hrd hrd' hE7
      go_wp2_with fail
      refine (num_ok p L 0 _ _ _ A w.heap.size HRD.out (Nat.zero_le _) HLB.out HE7.out.three _ HSS.out).mono ?_
      rintro e w8 ⟨rfl, hrd8, hg8⟩
      have HRD8 := Lib.hid hrd8
      have hE8 := HE7.out.kept hg8 (fun r e => by cases e; exact HRD.out.1)
      have HE8 := Lib.hid hE8
      clear hrd8 hE8
      go_wp2_with fail
      refine (err_bad p L 0 _ A w.heap.size 2 HRD8.out (by decide)).mono ?_
      rintro e w9 ⟨u9, rfl, hat9, hg9⟩
      have HAT := Lib.hid hat9
      clear hat9
      go_wp2_with fail
      refine (placed_any _ _ _ (by decide)).mono ?_
      rintro e w10 ⟨rfl, hg10⟩
      go_wp2_with fail
      refine (same_code A w.heap.size 0 1 u9 _ ((HE8.out.kept hg9 (fun r e => by cases e)).kept hg10 (fun r e => by cases e)) (by decide) (HAT.out.grown hg10) _ _ (by decide) (by decide)).mono ?_
      rintro e w11 ⟨rfl, hg11⟩
      go_wp2_with fail
      refine (at_any p L 0 _ w.heap.size _ (((HRD8.out.grown hg9).grown hg10).grown hg11)).mono ?_
      rintro e w12 ⟨rfl, rfl⟩
      go_wp2
      go_ret
      exact ⟨rfl, grown_trans (grown_new (grown_trans H06.out hg7) hg8 (fun r e => by cases e; exact HRD.out.1)) (grown_trans hg9 (grown_trans hg10 hg11))⟩
end Go.Proofs.YtmacbafkbhigcaaDoor
