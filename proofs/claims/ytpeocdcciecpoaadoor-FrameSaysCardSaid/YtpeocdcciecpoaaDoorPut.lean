/- Numbers and texts as bytes: the program's and the document's: each puts the same behind a copy. -/
import Derived.Test.YtpeocdcciecpoaaDoorBase
import Derived.Test.YtpeocdcciecpoaaDoorMath
import Derived.Lib.AppendStr
namespace Go.Proofs.YtpeocdcciecpoaaDoor
open Go.RowKit

theorem own_one {w : World} {B : Nat} {v : Value} {l : List Int} {x : Int} (h : w.ownsRow B 5 1 v (l.length + 1) (u8s l ++ [.int .u8 x])) : Own w B v (l ++ [x]) := by
  have e : u8s (l ++ [x]) = u8s l ++ [.int .u8 x] := by simp [u8s]
  unfold Own
  rw [e]
  simpa using h

theorem bytes_any (v : Value) (l : List Int) (w : World) (h : Bytes w v l) (hr : l.length ≤ 140737488355328) :
    Calls Tryd.prog 23 #[v] w (Gives fun u w' => Own w' w.heap.size u l ∧ w.grownBy w' none) := by
  obtain ⟨a, cap, rfl, h1, h2, h3⟩ := h
  unfold maxLen at h2
  obtain ⟨i0, hi, hz0, hz1, hz2⟩ := info_parts infoU8
  go_enter Tryd.func23, Tryd.ntmps23
  go_wp2_with (at_make; refine wpList_make_own _ rfl _ _ 30 rfl w.heap.size 5 i0 (.int .u8 0) 1 Tryd.underlying30 hi hz0 hz1 _ _ _ l.length rfl rfl rfl (by rw [hz2]; omega) (by unfold maxLen; omega) (Nat.le_refl _) ?_; intro w1 hown1 hg1)
  go_loopw [3, 4] (fun out i wr => ∃ k : Nat, k ≤ l.length ∧ i = .int .i64 k ∧ Own wr w.heap.size out (l.take k) ∧ w.grownBy wr none) (fun _ i _ => l.length - (intOf i).toNat)
  case atStart => exact ⟨0, Nat.zero_le _, rfl, by simpa [Own, u8s] using hown1, hg1⟩
  case round =>
    obtain ⟨k, hk, rfl, hown, hg⟩ := hrel
    by_cases hlt : k < l.length
    · obtain ⟨b, off, rfl, hc⟩ := h3 (by omega)
      have hcell := hg.cell (hc k hlt) (by simp)
      have hsz := hg.size
      have hlen : (l.take k).length = k := by simp; omega
      obtain ⟨x, hx⟩ : ∃ x, x = l.getD k 0 := ⟨_, rfl⟩
      rw [← hx] at hcell
      have hsn := take_snoc l k hlt
      rw [← hx] at hsn
      have HS := Lib.hid hsn
      have HO := Lib.hid hown
      have HL := Lib.hid hlen
      clear hx hsn hc h3 hown hlen
      go_wp2_with (at_builtin; refine wpList_append_own _ rfl _ _ 30 rfl w.heap.size 5 i0 (.int .u8 0) 1 1 Tryd.underlying30 hi hz0 hz1 hz2 rfl (by decide) _ _ _ rfl (World.ownsRow.alloc HO.out _) ⟨wr.heap.size, 0, none⟩ 1 1 [.int .u8 x] rfl rfl (cell_one_new _ _ _) (one_cell _ _) (by rw [HL.out]; unfold maxLen; omega) (by rw [HL.out]; omega) (by simp; omega) ?_; intro v' w2 hown2 hg2 _)
      have hgr : w.grownBy w2 none := grown_new hg (grown_trans (World.grownBy_alloc wr _ _) hg2) (fun r hr => (HO.out.block r hr).1)
      have ho2 : Own w2 w.heap.size v' (l.take (k + 1)) := by rw [HS.out]; exact own_one hown2
      have HG := Lib.hid hgr
      have HN := Lib.hid ho2
      clear hgr ho2 hown2 hg2 hg
      go_wp2
      go_roundw
      case rel => exact ⟨k + 1, by omega, by go_num, HN.out, HG.out⟩
      case measure => simp [intOf]; omega
    · obtain rfl : k = l.length := by omega
      rw [List.take_length] at hown
      have HO := Lib.hid hown
      have HG := Lib.hid hg
      clear hown hg h3
      go_wp2
      go_ret
      exact gives ⟨HO.out, HG.out⟩

theorem zigzag_any (n : Int) (w : World) (h0 : -9223372036854775808 ≤ n) (h1 : n ≤ 9223372036854775807) :
    Calls Tryd.prog 79 #[.int .i64 n] w fun e w' => e = .returned (.int .u64 (Wm.zz n : Int)) ∧ w = w' := by
  have hz := Lib.hid (Wm.zz_walk n h0 h1)
  go_enter Tryd.func79, Tryd.ntmps79
  go_wp2
  go_ret
  refine ⟨?_, rfl⟩
  show Ending.returned (.int .u64 _) = _
  rw [hz.out]

set_option maxRecDepth 100000 in
theorem put_any (v : Value) (l : List Int) (n : Int) (w : World) (h : Bytes w v l) (hr : l.length ≤ 70368744177664) (h0 : -9223372036854775808 ≤ n) (hn1 : n ≤ 9223372036854775807) :
    Calls Tryd.prog 58 #[v, .int .i64 n] w (Gives fun u w' => Own w' w.heap.size u (l ++ Wm.enc n) ∧ w.grownBy w' none) := by
  obtain ⟨a, cap, rfl, h1, h2, h3⟩ := h
  unfold maxLen at h2
  obtain ⟨i0, hi, hz0, hz1, hz2⟩ := info_parts infoU8
  obtain ⟨Z, hZ, hmk⟩ := make_more w l.length (l.length + 10) (by omega) (by omega) ((l.length : Int) + 10) (by omega)
  have HZ := Lib.hid hZ
  clear hZ
  go_enter Tryd.func58, Tryd.ntmps58
  go_wp2_with (first | (with_reducible refine wpList_copy_splice rfl (.tmp 13) (.tmp 14) 30 30 rfl 5 Tryd.underlying30 sizeU8 _ _ _ _ _ _ rfl rfl w.heap.size 0 Z 5 ?c1 (u8s l) ?c2 ?c3 ?c4 (u8s_one l) w.heap.size w ?c5 (Nat.le_refl _) ?_))
  case c1 => exact heap_alloc_new w _
  case c2 => simp
  case c3 =>
    intro h0
    obtain ⟨b, off, rfl, hc⟩ := h3 (by simpa using h0)
    have key : ∀ j u, (u8s l)[j]? = some u → (w.alloc (.cells Z.toArray 5)).cell? ((⟨b, off, none⟩ : Addr).add j) = some u := ?_
    · first | exact ⟨rfl, _, rfl, key⟩ | exact ⟨_, rfl, key⟩
    intro j u hj
    have hjl : j < l.length := by have := (List.getElem?_eq_some_iff.1 hj).1; simpa using this
    have e : (u8s l)[j]? = some (.int .u8 (l.getD j 0)) := by simp [u8s, hjl]
    rw [e] at hj
    obtain rfl := Option.some.inj hj
    have hlt := World.block_lt_of_cell? w _ (hc j hjl)
    rw [Addr.add_lit, World.cell?_alloc_lt _ _ _ hlt]
    exact hc j hjl
  case c4 => have := HZ.out; simp; omega
  case c5 => exact (Below.refl _ _).alloc (Nat.le_refl _) _
  · intro w2 hg2 hb2
    have hown0 : Own w2 w.heap.size (.slice (some ⟨w.heap.size, 0, none⟩) l.length (l.length + 10)) l :=
      own_of_heap hg2.out (Nat.le_refl _) rfl (by rw [length_splice _ _ _ (by have := HZ.out; simp; omega)]; exact HZ.out) (by omega) (by unfold maxLen; omega) (by simp [splice])
    have hgr0 : w.grownBy w2 none := grown_below hb2
    have HO0 := Lib.hid hown0
    clear hg2 hown0
    go_wp2_with (go_at_call 79; refine (zigzag_any _ _ h0 hn1).mono ?_; rintro e w' ⟨rfl, rfl⟩)
    obtain ⟨U, hU⟩ : ∃ U, U = Wm.zz n := ⟨_, rfl⟩
    have hU1 : U < 18446744073709551616 := by rw [hU]; exact Wm.zz_lt h0 hn1
    rw [← hU]
    have HU := Lib.hid hU
    clear hU
    go_loopw [5, 6] (fun out u wr => ∃ (j x : Nat) (pre : List Int), j ≤ 9 ∧ x * 2 ^ (7 * j) < 18446744073709551616 ∧ pre.length = j ∧ pre ++ Wm.encF (9 - j) x = Wm.encF 9 U ∧ u = .int .u64 x ∧ Own wr w.heap.size out (l ++ pre) ∧ w.grownBy wr none) (fun _ u _ => (intOf u).toNat)
    case atStart => exact ⟨0, U, [], by omega, by simpa using hU1, rfl, rfl, rfl, by simpa using HO0.out, hgr0⟩
    case round =>
      obtain ⟨j, x, pre, hj, hx, hp, he, rfl, hown, hg⟩ := hrel
      have hsz := hg.size
      have hlen : (l ++ pre).length = l.length + j := by rw [List.length_append, hp]
      have hx64 : x < 18446744073709551616 := Nat.lt_of_le_of_lt (Nat.le_mul_of_pos_right x (Nat.pow_pos (by decide))) hx
      have HO := Lib.hid hown
      have HL := Lib.hid hlen
      have HP := Lib.hid hp
      have HE := Lib.hid he
      have HX := Lib.hid hx
      clear hown hlen hp he hx
      by_cases hge : 128 ≤ x
      · go_wp2_with (at_builtin; refine wpList_append_own _ rfl _ _ 30 rfl w.heap.size 5 i0 (.int .u8 0) 1 1 Tryd.underlying30 hi hz0 hz1 hz2 rfl (by decide) _ _ _ rfl (World.ownsRow.alloc HO.out _) ⟨wr.heap.size, 0, none⟩ 1 1 [_] rfl rfl (cell_one_new _ _ _) (one_cell _ _) (by rw [HL.out]; unfold maxLen; omega) (by rw [HL.out]; omega) (by simp; omega) ?_; intro v' w3 hown2 hg3 _)
        obtain ⟨s1, s2, s3⟩ := Wm.enc_step hj HX.out hge HE.out
        have hg3' : (wr.alloc (.cells #[.int .u8 (bits BinOp.or IntKind.u8 ((x : Int) % 256) 128)] 5)).grownBy w3 u5.ownBlock := hg3
        rw [Wm.or128x] at hown2
        have ho : Own w3 w.heap.size v' (l ++ (pre ++ [((x % 128 + 128 : Nat) : Int)])) := by rw [← List.append_assoc]; exact own_one hown2
        have hgr : w.grownBy w3 none := grown_new hg (grown_trans (World.grownBy_alloc wr _ _) hg3') (fun r hr => (HO.out.block r hr).1)
        go_roundw
        case rel => exact ⟨j + 1, x / 128, pre ++ [((x % 128 + 128 : Nat) : Int)], s1, s2, by rw [List.length_append, HP.out]; rfl, s3, by go_num, ho, hgr⟩
        case measure => simp [intOf]; omega
      · have HF := Lib.hid (Wm.enc_stop (by omega) HE.out)
        go_wp2_with (at_builtin; refine wpList_append_own _ rfl _ _ 30 rfl w.heap.size 5 i0 (.int .u8 0) 1 1 Tryd.underlying30 hi hz0 hz1 hz2 rfl (by decide) _ _ _ rfl (World.ownsRow.alloc HO.out _) ⟨wr.heap.size, 0, none⟩ 1 1 [_] rfl rfl (cell_one_new _ _ _) (one_cell _ _) (by rw [HL.out]; unfold maxLen; omega) (by rw [HL.out]; omega) (by simp; omega) ?_; intro v' w3 hown2 hg3 _)
        have hg3' : (wr.alloc (.cells #[.int .u8 (x : Int)] 5)).grownBy w3 u5.ownBlock := hg3
        have ho : Own w3 w.heap.size v' (l ++ (pre ++ [(x : Int)])) := by rw [← List.append_assoc]; exact own_one hown2
        rw [HF.out, HU.out] at ho
        have hgr : w.grownBy w3 none := grown_new hg (grown_trans (World.grownBy_alloc wr _ _) hg3') (fun r hr => (HO.out.block r hr).1)
        go_ret
        exact gives ⟨ho, hgr⟩

theorem same_any (v1 : Value) (l : List Int) (v2 : Value) (m : List Int) (w : World) (h1 : Bytes w v1 l) (h2 : Bytes w v2 m) (hr : l.length ≤ 140737488355328) (b : Bool) (hb : b = decide (l = m)) :
    Calls Tryd.prog 17 #[v1, v2] w fun e w' => e = .returned (.bool b) ∧ w.grownBy w' none := by
  obtain ⟨a1, c1, rfl, p1, q1, r1⟩ := h1
  obtain ⟨a2, c2, rfl, p2, q2, r2⟩ := h2
  unfold maxLen at q1 q2
  by_cases hl : l.length = m.length
  · have hne : ((l.length : Int) != (m.length : Int)) = false := by simp [hl]
    have HL := Lib.hid hl
    have HB := Lib.hid hb
    clear hl hb
    go_enter Tryd.func17, Tryd.ntmps17
    go_wp2
    go_loopw [5] (fun i wr => ∃ k : Nat, k ≤ l.length ∧ i = .int .i64 k ∧ l.take k = m.take k ∧ w.grownBy wr none) (fun i _ => l.length - (intOf i).toNat)
    case atStart => exact ⟨0, Nat.zero_le _, rfl, by simp, grown_refl _ _⟩
    case round =>
      obtain ⟨k, hk, rfl, hpre, hg⟩ := hrel
      have HP := Lib.hid hpre
      clear hpre
      by_cases hlt : k < l.length
      · have hlt2 : k < m.length := by have := HL.out; omega
        obtain ⟨b1, o1, rfl, k1⟩ := r1 (by omega)
        obtain ⟨b2, o2, rfl, k2⟩ := r2 (by omega)
        obtain ⟨x, hx⟩ : ∃ x, x = l.getD k 0 := ⟨_, rfl⟩
        obtain ⟨y, hy⟩ : ∃ y, y = m.getD k 0 := ⟨_, rfl⟩
        have g1 : wr.cell? ⟨b1, o1 + k, none⟩ = some (.int .u8 x) := by rw [hx]; exact hg.cell (k1 k hlt) (by simp)
        have g2 : wr.cell? ⟨b2, o2 + k, none⟩ = some (.int .u8 y) := by rw [hy]; exact hg.cell (k2 k hlt2) (by simp)
        have s1 := take_snoc l k hlt
        have s2 := take_snoc m k hlt2
        rw [← hx] at s1
        rw [← hy] at s2
        by_cases hxy : x = y
        · have e1 : (x == y) = true := by simp [hxy]
          have HN : Hid (l.take (k + 1) = m.take (k + 1)) := by show _ = _; rw [s1, s2, hxy, HP.out]
          clear hxy hx hy k1 k2 r1 r2 s1 s2
          go_wp2
          go_quiet (fail)
          go_wp2
          go_roundw
          case rel => exact ⟨k + 1, by omega, by go_num, HN.out, grown_drewN hg _⟩
          case measure => simp [intOf]; omega
        · have e1 : (x == y) = false := by simp [hxy]
          have HN : Hid (b = false) := by
            show _ = _
            rw [HB.out, decide_eq_false_iff_not]
            intro e
            rw [hx, hy, e] at hxy
            exact hxy rfl
          clear hxy hx hy k1 k2 r1 r2 s1 s2
          go_wp2
          go_quiet (fail)
          go_wp2
          go_ret
          exact ⟨by rw [HN.out]; rfl, grown_drewN hg _⟩
      · obtain rfl : k = l.length := by omega
        have HN : Hid (b = true) := by
          show _ = _
          rw [HB.out, decide_eq_true_iff]
          have := HP.out
          rwa [List.take_length, HL.out, List.take_length] at this
        clear r1 r2
        go_wp2
        go_ret
        exact ⟨by rw [HN.out]; rfl, hg⟩
  · have hne : ((l.length : Int) != (m.length : Int)) = true := by simp; omega
    have HN : Hid (b = false) := by
      show _ = _
      rw [hb, decide_eq_false_iff_not]
      rintro rfl
      exact hl rfl
    clear hl hb r1 r2
    go_enter Tryd.func17, Tryd.ntmps17
    go_wp2
    go_ret
    exact ⟨by rw [HN.out]; rfl, grown_refl _ _⟩

/-- The bytes of a string. -/
def bs (s : ByteArray) : List Int := s.data.toList.map (fun b => (b.toNat : Int))
theorem bs_len (s : ByteArray) : (bs s).length = s.size := by simp [bs]
theorem u8s_bs (s : ByteArray) : u8s (bs s) = Lib.strCells s := by simp [u8s, bs, Lib.strCells]

theorem zz_ref (n : Int) (h : ¬ n < 0) : n * 2 = (Wm.zz n : Int) := by
  unfold Wm.zz; rw [if_pos (by omega)]; omega
theorem zz_refneg (n : Int) (h0 : -9223372036854775808 ≤ n) (h : n < 0) : bits .xor .u64 IntKind.u64.max (IntKind.u64.wrap (IntKind.u64.wrap n * 2)) = (Wm.zz n : Int) := by
  rw [Lib.zigzag_neg h0 h]; unfold Wm.zz Lib.zigzag; rw [if_neg (by omega)]

set_option maxRecDepth 100000 in
theorem refPut_any (v : Value) (l : List Int) (n : Int) (w : World) (h : Bytes w v l) (hr : l.length ≤ 70368744177664) (h0 : -9223372036854775808 ≤ n) (hn1 : n ≤ 9223372036854775807) :
    Calls Tryd.prog 39 #[v, .int .i64 n] w (Gives fun u w' => Own w' w.heap.size u (l ++ Wm.enc n) ∧ w.grownBy w' none) := by
  obtain ⟨i0, hi, hz0, hz1, hz2⟩ := info_parts infoU8
  have hs : IntKind.u64.signed = false := rfl
  by_cases hneg : n < 0
  · go_enter Tryd.func39, Tryd.ntmps39
    go_wp2_with fail
    refine (bytes_any _ l _ h (by omega)).mono ?_
    rintro e w1 ⟨u, rfl, hown, hg⟩
    have HO := Lib.hid hown
    have HG := Lib.hid hg
    clear hown hg
    go_wp2
    rw [zz_refneg n h0 hneg]
    obtain ⟨U, hU⟩ : ∃ U, U = Wm.zz n := ⟨_, rfl⟩
    have hU1 : U < 18446744073709551616 := by rw [hU]; exact Wm.zz_lt h0 hn1
    rw [← hU]
    have HU := Lib.hid hU
    clear hU
    go_loopw [5, 6] (fun out u wr => ∃ (j x : Nat) (pre : List Int), j ≤ 9 ∧ x * 2 ^ (7 * j) < 18446744073709551616 ∧ pre.length = j ∧ pre ++ Wm.encF (9 - j) x = Wm.encF 9 U ∧ u = .int .u64 x ∧ Own wr w.heap.size out (l ++ pre) ∧ w.grownBy wr none) (fun _ u _ => (intOf u).toNat)
    case atStart => exact ⟨0, U, [], by omega, by simpa using hU1, rfl, rfl, rfl, by simpa using HO.out, HG.out⟩
    case round =>
      obtain ⟨j, x, pre, hj, hx, hp, he, rfl, hown, hg⟩ := hrel
      have hsz := hg.size
      have hlen : (l ++ pre).length = l.length + j := by rw [List.length_append, hp]
      have hx64 : x < 18446744073709551616 := Nat.lt_of_le_of_lt (Nat.le_mul_of_pos_right x (Nat.pow_pos (by decide))) hx
      have HO := Lib.hid hown
      have HL := Lib.hid hlen
      have HP := Lib.hid hp
      have HE := Lib.hid he
      have HX := Lib.hid hx
      clear hown hlen hp he hx
      by_cases hge : 128 ≤ x
      · go_wp2_with (at_builtin; refine wpList_append_own _ rfl _ _ 30 rfl w.heap.size 5 i0 (.int .u8 0) 1 1 Tryd.underlying30 hi hz0 hz1 hz2 rfl (by decide) _ _ _ rfl (World.ownsRow.alloc HO.out _) ⟨wr.heap.size, 0, none⟩ 1 1 [_] rfl rfl (cell_one_new _ _ _) (one_cell _ _) (by rw [HL.out]; unfold maxLen; omega) (by rw [HL.out]; omega) (by simp; omega) ?_; intro v' w3 hown2 hg3 _)
        obtain ⟨s1, s2, s3⟩ := Wm.enc_step hj HX.out hge HE.out
        have hg3' : (wr.alloc (.cells #[.int .u8 (bits BinOp.or IntKind.u64 (bits BinOp.and IntKind.u64 (x : Int) 127) 128 % 256)] 5)).grownBy w3 u5.ownBlock := hg3
        rw [Wm.or128ref x hx64] at hown2
        have ho : Own w3 w.heap.size v' (l ++ (pre ++ [((x % 128 + 128 : Nat) : Int)])) := by rw [← List.append_assoc]; exact own_one hown2
        have hgr : w.grownBy w3 none := grown_new hg (grown_trans (World.grownBy_alloc wr _ _) hg3') (fun r hr => (HO.out.block r hr).1)
        go_roundw
        case rel => exact ⟨j + 1, x / 128, pre ++ [((x % 128 + 128 : Nat) : Int)], s1, s2, by rw [List.length_append, HP.out]; rfl, s3, by go_num, ho, hgr⟩
        case measure => simp [intOf]; omega
      · have HF := Lib.hid (Wm.enc_stop (by omega) HE.out)
        go_wp2_with (at_builtin; refine wpList_append_own _ rfl _ _ 30 rfl w.heap.size 5 i0 (.int .u8 0) 1 1 Tryd.underlying30 hi hz0 hz1 hz2 rfl (by decide) _ _ _ rfl (World.ownsRow.alloc HO.out _) ⟨wr.heap.size, 0, none⟩ 1 1 [_] rfl rfl (cell_one_new _ _ _) (one_cell _ _) (by rw [HL.out]; unfold maxLen; omega) (by rw [HL.out]; omega) (by simp; omega) ?_; intro v' w3 hown2 hg3 _)
        have hg3' : (wr.alloc (.cells #[.int .u8 (x : Int)] 5)).grownBy w3 u5.ownBlock := hg3
        have ho : Own w3 w.heap.size v' (l ++ (pre ++ [(x : Int)])) := by rw [← List.append_assoc]; exact own_one hown2
        rw [HF.out, HU.out] at ho
        have hgr : w.grownBy w3 none := grown_new hg (grown_trans (World.grownBy_alloc wr _ _) hg3') (fun r hr => (HO.out.block r hr).1)
        go_ret
        exact gives ⟨ho, hgr⟩
  · go_enter Tryd.func39, Tryd.ntmps39
    go_wp2_with fail
    refine (bytes_any _ l _ h (by omega)).mono ?_
    rintro e w1 ⟨u, rfl, hown, hg⟩
    have HO := Lib.hid hown
    have HG := Lib.hid hg
    clear hown hg
    go_wp2
    rw [zz_ref n (by omega)]
    obtain ⟨U, hU⟩ : ∃ U, U = Wm.zz n := ⟨_, rfl⟩
    have hU1 : U < 18446744073709551616 := by rw [hU]; exact Wm.zz_lt h0 hn1
    rw [← hU]
    have HU := Lib.hid hU
    clear hU
    go_loopw [5, 6] (fun out u wr => ∃ (j x : Nat) (pre : List Int), j ≤ 9 ∧ x * 2 ^ (7 * j) < 18446744073709551616 ∧ pre.length = j ∧ pre ++ Wm.encF (9 - j) x = Wm.encF 9 U ∧ u = .int .u64 x ∧ Own wr w.heap.size out (l ++ pre) ∧ w.grownBy wr none) (fun _ u _ => (intOf u).toNat)
    case atStart => exact ⟨0, U, [], by omega, by simpa using hU1, rfl, rfl, rfl, by simpa using HO.out, HG.out⟩
    case round =>
      obtain ⟨j, x, pre, hj, hx, hp, he, rfl, hown, hg⟩ := hrel
      have hsz := hg.size
      have hlen : (l ++ pre).length = l.length + j := by rw [List.length_append, hp]
      have hx64 : x < 18446744073709551616 := Nat.lt_of_le_of_lt (Nat.le_mul_of_pos_right x (Nat.pow_pos (by decide))) hx
      have HO := Lib.hid hown
      have HL := Lib.hid hlen
      have HP := Lib.hid hp
      have HE := Lib.hid he
      have HX := Lib.hid hx
      clear hown hlen hp he hx
      by_cases hge : 128 ≤ x
      · go_wp2_with (at_builtin; refine wpList_append_own _ rfl _ _ 30 rfl w.heap.size 5 i0 (.int .u8 0) 1 1 Tryd.underlying30 hi hz0 hz1 hz2 rfl (by decide) _ _ _ rfl (World.ownsRow.alloc HO.out _) ⟨wr.heap.size, 0, none⟩ 1 1 [_] rfl rfl (cell_one_new _ _ _) (one_cell _ _) (by rw [HL.out]; unfold maxLen; omega) (by rw [HL.out]; omega) (by simp; omega) ?_; intro v' w3 hown2 hg3 _)
        obtain ⟨s1, s2, s3⟩ := Wm.enc_step hj HX.out hge HE.out
        have hg3' : (wr.alloc (.cells #[.int .u8 (bits BinOp.or IntKind.u64 (bits BinOp.and IntKind.u64 (x : Int) 127) 128 % 256)] 5)).grownBy w3 u5.ownBlock := hg3
        rw [Wm.or128ref x hx64] at hown2
        have ho : Own w3 w.heap.size v' (l ++ (pre ++ [((x % 128 + 128 : Nat) : Int)])) := by rw [← List.append_assoc]; exact own_one hown2
        have hgr : w.grownBy w3 none := grown_new hg (grown_trans (World.grownBy_alloc wr _ _) hg3') (fun r hr => (HO.out.block r hr).1)
        go_roundw
        case rel => exact ⟨j + 1, x / 128, pre ++ [((x % 128 + 128 : Nat) : Int)], s1, s2, by rw [List.length_append, HP.out]; rfl, s3, by go_num, ho, hgr⟩
        case measure => simp [intOf]; omega
      · have HF := Lib.hid (Wm.enc_stop (by omega) HE.out)
        go_wp2_with (at_builtin; refine wpList_append_own _ rfl _ _ 30 rfl w.heap.size 5 i0 (.int .u8 0) 1 1 Tryd.underlying30 hi hz0 hz1 hz2 rfl (by decide) _ _ _ rfl (World.ownsRow.alloc HO.out _) ⟨wr.heap.size, 0, none⟩ 1 1 [_] rfl rfl (cell_one_new _ _ _) (one_cell _ _) (by rw [HL.out]; unfold maxLen; omega) (by rw [HL.out]; omega) (by simp; omega) ?_; intro v' w3 hown2 hg3 _)
        have hg3' : (wr.alloc (.cells #[.int .u8 (x : Int)] 5)).grownBy w3 u5.ownBlock := hg3
        have ho : Own w3 w.heap.size v' (l ++ (pre ++ [(x : Int)])) := by rw [← List.append_assoc]; exact own_one hown2
        rw [HF.out, HU.out] at ho
        have hgr : w.grownBy w3 none := grown_new hg (grown_trans (World.grownBy_alloc wr _ _) hg3') (fun r hr => (HO.out.block r hr).1)
        go_ret
        exact gives ⟨ho, hgr⟩

/-- A literal of bytes. -/
theorem lit_bytes (w : World) (l : List Int) (h : l.length ≤ maxLen := by decide) : Bytes (w.alloc (.cells (u8s l).toArray 5)) (.slice (some ⟨w.heap.size, 0, none⟩) l.length l.length) l := by
  refine ⟨_, _, rfl, Nat.le_refl _, h, fun _ => ⟨_, _, rfl, fun i hi => ?_⟩⟩
  have hh := heap_alloc_new w (.cells (u8s l).toArray 5)
  rw [Nat.zero_add, cell_of_row _ _ i _ _ _ hh]
  simp [u8s, hi]

end Go.Proofs.YtpeocdcciecpoaaDoor
