/- Whether all have bid: cars, order.Set, slices.BinarySearch, Full. -/
import Derived.Test.YtfphihhcclfmnaaRBi3
import Derived.Test.YtfphihhcclfmnaaBMin
import Derived.Test.YtfphihhcclfmnaaOrder
import Derived.Test.YtfphihhcclfmnaaBSearch
namespace Go.Proofs.Ytfphihhcclfmnaa
open Go.RowKit

theorem search_any (v : Value) (zs : List Int) (x : Int) (w : World) (h : HInts w v zs) (hl : zs.length ≤ 1000000) (hs : Rises zs) (b : Bool) (hb : b = decide (x ∈ zs)) :
    Calls Try.prog 28 #[v, .int .i64 x] w fun e w' => ∃ p : Int, e = .returned (.tuple #[.int .i64 p, .bool b]) ∧ Fr w w' [] := by
  obtain ⟨a, cap, rfl, h1, h2, h3⟩ := h
  by_cases h0 : 0 < zs.length
  · obtain ⟨bk, off, rfl, hc⟩ := h3 h0
    refine (Try.slices_BinarySearch_int bk off zs.length cap zs x w (Nat.le_refl _) (by omega) hc (by rw [List.take_length]; exact hs.imp Int.le_of_lt)).mono ?_
    rintro e w' ⟨rfl, q, rfl⟩
    refine ⟨(((zs.take zs.length).countP (· < x) : Nat) : Int), ?_, Fr.drewN w q []⟩
    rw [hb, List.take_length, show zs.contains x = decide (x ∈ zs) by simp]
  · obtain rfl : zs = [] := List.eq_nil_of_length_eq_zero (by omega)
    refine (Try.slices_BinarySearch_int_empty a cap x w).mono ?_
    rintro e w' ⟨rfl, rfl⟩
    exact ⟨0, by rw [hb]; simp, Fr.refl _ _⟩
/-- 'make([]int, n)' -/
theorem make_ints (w : World) (n : Nat) (h : n ≤ 1000000) :
    (Instr.makeSlice 25 (.int .i64 (n : Int)) (.int .i64 (n : Int))).run Try.prog w = .ok (.slice (some ⟨w.heap.size, 0, none⟩) n n) (w.alloc (.cells (List.replicate n (Value.int .i64 0)).toArray 3)) := by
  obtain ⟨i0, hi, hz0, hz1, hz2⟩ := info_parts infoI
  have hr := run_make (P := Try.prog) w 25 3 i0 (.int .i64 0) Try.underlying25 hi hz0 .i64 .i64 (n : Int) (n : Int) (by omega) (by omega) (by rw [hz2]; omega) (by omega)
  rw [hr, Int.toNat_natCast, hz1]
  have e : madeCells (Value.int .i64 0).cells (n * 1) = (List.replicate n (Value.int .i64 0)).toArray := by
    unfold madeCells
    refine Array.ext (by simp) fun i h1 h2 => ?_
    simp [Value.cells, Nat.mod_one]
  rw [e]
/-- The cars so far, and noughts. -/
def carsTo (l : List (Int × Int)) (k : Nat) : List Value := ((l.take k).map fun b => Value.int .i64 b.1) ++ List.replicate (l.length - k) (.int .i64 0)
theorem carsTo_len (l : List (Int × Int)) (k : Nat) (h : k ≤ l.length) : (carsTo l k).length = l.length := by
  unfold carsTo
  simp; omega
theorem carsTo_zero (l : List (Int × Int)) : carsTo l 0 = List.replicate l.length (.int .i64 0) := by simp [carsTo]
theorem carsTo_all (l : List (Int × Int)) : carsTo l l.length = l.map fun b => Value.int .i64 b.1 := by simp [carsTo]
theorem carsTo_step (l : List (Int × Int)) (k : Nat) (h : k < l.length) : (carsTo l k).set k (.int .i64 (l.getD k (0, 0)).1) = carsTo l (k + 1) := by
  unfold carsTo
  have hk : ((l.take k).map fun b => Value.int .i64 b.1).length = k := by simp; omega
  obtain ⟨j, hj⟩ : ∃ j, l.length - k = j + 1 := ⟨l.length - k - 1, by omega⟩
  rw [hj, show l.length - (k + 1) = j by omega, List.set_append_right _ _ (by omega), hk, Nat.sub_self, List.replicate_succ, List.set_cons_zero, take_more l k h, List.map_append, List.append_assoc]
  rfl
/-- The row under way. -/
def CR (W : World) (l : List (Int × Int)) (k : Nat) (a : World) : Prop := Fr W a [] ∧ a.heap[W.heap.size]? = some (.cells (carsTo l k).toArray 3 (0, 0))
theorem CR.fr {W a a' : World} {l : List (Int × Int)} {k : Nat} (h : CR W l k a) (f : Fr a a' []) : CR W l k a' := ⟨h.1.trans f, f.heap h.2 (by simp)⟩
theorem CR.cell {W a : World} {l : List (Int × Int)} {k : Nat} (h : CR W l k a) (hk : k < l.length) : a.cell? ⟨W.heap.size, k, none⟩ = some (.int .i64 0) ∧ a.frozen? ⟨W.heap.size, k, none⟩ = false := by
  refine ⟨?_, frozen_of_row _ _ k _ _ h.2⟩
  rw [cell_of_row _ _ k _ _ _ h.2]
  unfold carsTo
  have e : ((l.take k).map fun b => Value.int .i64 b.1).length = k := by simp; omega
  rw [List.getElem?_toArray, List.getElem?_append_right (by omega), e, Nat.sub_self, List.getElem?_replicate, if_pos (by omega)]
theorem CR.set {W a : World} {l : List (Int × Int)} {k : Nat} (h : CR W l k a) (hk : k < l.length) (x : Int) (hx : x = (l.getD k (0, 0)).1) : CR W l (k + 1) (a.setCell ⟨W.heap.size, k, none⟩ (.int .i64 x)) := by
  refine ⟨h.1.new (Fr.setCell a W.heap.size k _ (S := [W.heap.size]) (by simp)) (by intro r hr; obtain rfl := List.mem_singleton.1 hr; omega), ?_⟩
  rw [heap_setCell_same _ W.heap.size k _ _ _ h.2, List.setIfInBounds_toArray, hx, carsTo_step l k hk]
theorem CR.own {W a : World} {l : List (Int × Int)} (h : CR W l l.length a) (hl : l.length ≤ 1000000) : OwnI a W.heap.size (.slice (some ⟨W.heap.size, 0, none⟩) l.length l.length) (l.map (·.1)) := by
  have h2 := h.2
  rw [carsTo_all] at h2
  unfold OwnI
  rw [List.length_map]
  refine ⟨by simp [i64s], .inr ⟨W.heap.size, l.length, _, rfl, Nat.le_refl _, h2, Nat.le_refl _, by unfold maxLen; omega, by simp, ?_⟩⟩
  simp only [i64s, List.map_map, List.length_map, Nat.mul_one]
  rw [List.take_of_length_le (by simp)]
  rfl
set_option maxHeartbeats 1000000 in
set_option maxRecDepth 100000 in
theorem cars_any (v : Value) (l : List (Int × Int)) (w : World) (h : HB w v l) (hl : l.length ≤ 1000) :
    Calls Try.prog 27 #[v] w (Gives fun u w' => OwnI w' w.heap.size u (l.map (·.1)) ∧ Fr w w' []) := by
  obtain ⟨a, cap, rfl, p1, q1, r1⟩ := h
  unfold maxLen at q1
  have HCE := Lib.hid r1
  have HL := Lib.hid hl
  obtain ⟨n, hn⟩ : ∃ n, n = l.length := ⟨_, rfl⟩
  have HN := Lib.hid hn
  have C0 : Hid (CR w l 0 (w.alloc (.cells (List.replicate n (Value.int .i64 0)).toArray 3))) := by
    refine Lib.hid ⟨Fr.alloc _ _ [], ?_⟩
    rw [carsTo_zero, ← hn]
    exact heap_alloc_new w _
  rw [← hn] at hl p1 HCE ⊢
  have hmk := make_ints w n (by omega)
  clear r1 hn
  go_enter Try.func27, Try.ntmps27
  go_wp2
  go_loopw [4, 5, 11] (fun _ _ s11 wx => ∃ k : Nat, s11 = .int .i64 k ∧ Hid (k ≤ n) ∧ Hid (CR w l k wx)) (fun _ _ s11 _ => n - (intOf s11).toNat)
  case atStart => exact ⟨0, rfl, Lib.hid (Nat.zero_le _), C0⟩
  case round =>
    obtain ⟨k, rfl, HK, HC⟩ := hrel
    have hk := HK.out
    clear hmk
    by_cases hlt : k < n
    · obtain ⟨b, off, rfl, hc⟩ := HCE.out (by omega)
      obtain ⟨x, hx⟩ : ∃ x, x = l.getD k (0, 0) := ⟨_, rfl⟩
      have HX := Lib.hid hx
      obtain ⟨z0, z1⟩ := hc k hlt
      rw [← hx] at z0 z1
      have z0 := HC.out.1.cell z0 (by simp)
      have z1 := HC.out.1.cell z1 (by simp)
      obtain ⟨xa, xb⟩ := x
      have C1 := Lib.hid (HC.out.fr (Fr.alloc wr (bidBox (xa, xb)) []))
      obtain ⟨m0, m1⟩ := brow (heap_alloc_new wr (bidBox (xa, xb)))
      obtain ⟨f0, f1⟩ := C1.out.cell (by rw [← HN.out]; exact hlt)
      have C2 := Lib.hid (C1.out.set (by rw [← HN.out]; exact hlt) xa (by rw [← HX.out]))
      dsimp only [bidBox] at *
      clear hc hx HX HC C1
      go_wp2
      go_roundw
      case rel => exact ⟨k + 1, by go_num, Lib.hid (by omega), C2⟩
      case measure => simp [intOf]; omega
    · obtain rfl : k = n := by omega
      have HO := HC.out
      rw [HN.out] at HO
      have HO := Lib.hid (HO.own (by have := HL.out; omega))
      rw [← HN.out] at HO
      go_wp2
      go_ret
      exact gives ⟨HO.out, HC.out.1⟩
theorem full_cars (l : List (Int × Int)) (m : Int) : (bidOf l m).isSome = decide (m ∈ setOf (l.map (·.1))) := by
  rw [Bool.eq_iff_iff, decide_eq_true_iff, mem_setOf, Option.isSome_iff_ne_none, ne_eq, bidOf_none, List.mem_map]
  constructor
  · intro h
    exact Decidable.by_contra fun k => h fun x hx e => k ⟨x, hx, e⟩
  · rintro ⟨x, hx, e⟩ h
    exact h x hx e
set_option maxHeartbeats 1000000 in
set_option maxRecDepth 100000 in
theorem bfull_any (vm : Value) (ms : List Int) (v : Value) (l : List (Int × Int)) (w : World) (hm : HInts w vm ms) (h : HB w v l) (hl : l.length ≤ 1000) (hml : ms.length ≤ 1000) (r : Bool) (hr : r = fullB ms l) :
    Calls Try.prog 18 #[vm, v] w fun x w' => x = .returned (.bool r) ∧ Fr w w' [] := by
  have CA := Lib.hid (cars_any v l w h hl)
  have HM := Lib.hid hm
  obtain ⟨am, cm, rfl, pm, qm, rm⟩ := hm
  obtain ⟨a, c, rfl, _, _, _⟩ := h
  unfold maxLen at qm
  obtain ⟨n, hn⟩ : ∃ n, n = ms.length := ⟨_, rfl⟩
  have HN := Lib.hid hn
  have HME := Lib.hid rm
  have HR := Lib.hid hr
  rw [← hn] at hml pm HM HME ⊢
  have HSL := Lib.hid (show (setOf (l.map (·.1))).length ≤ 1000000 from Nat.le_trans (setOf_length _) (by rw [List.length_map]; omega))
  have HML := Lib.hid (show (l.map (·.1)).length ≤ 1000000 by rw [List.length_map]; omega)
  clear hn hr rm hl
  go_enter Try.func18, Try.ntmps18
  go_wp2_with fail
  with_reducible refine (CA.out).mono ?_
  rintro e w1 ⟨u1, rfl, ho, hf⟩
  have SE := Lib.hid (set_any u1 _ w1 ho.holds ho.form HML.out)
  have F1 := Lib.hid hf
  clear ho hf CA
  go_wp2_with fail
  with_reducible refine (SE.out).mono ?_
  rintro e w2 ⟨u2, rfl, ho, hf⟩
  have F2 := Lib.hid (F1.out.trans hf)
  have BS := Lib.hid (fun x W (hW : Fr w2 W []) b hb => search_any u2 _ x W (ho.keep hW).holds HSL.out (setOf_rises _) b hb)
  clear ho hf SE
  go_wp2
  go_loopw [7, 8, 9, 15] (fun _ _ _ s15 wx => ∃ k : Nat, s15 = .int .i64 k ∧ Hid (k ≤ n) ∧ Hid (∀ i, i < k → (bidOf l (ms.getD i 0)).isSome = true) ∧ Hid (Fr w2 wx [])) (fun _ _ _ s15 _ => n - (intOf s15).toNat)
  case atStart => exact ⟨0, rfl, Lib.hid (Nat.zero_le _), Lib.hid (fun i hi => by omega), Lib.hid (Fr.refl _ _)⟩
  case round =>
    obtain ⟨k, rfl, HK, HA, HF⟩ := hrel
    have hk := HK.out
    by_cases hlt : k < n
    · obtain ⟨b, off, rfl, hc⟩ := HME.out (by omega)
      have z0 := hc k hlt
      obtain ⟨x, hx⟩ : ∃ x, x = ms.getD k 0 := ⟨_, rfl⟩
      have HX := Lib.hid hx
      rw [← hx] at z0
      have z0 := (F2.out.trans HF.out).cell z0 (by simp)
      obtain ⟨q, hq⟩ : ∃ q, q = decide (x ∈ setOf (l.map (·.1))) := ⟨_, rfl⟩
      have B1 := Lib.hid (BS.out x wr HF.out q hq)
      have HQ := Lib.hid hq
      clear hc hx hq
      cases q with
      | false =>
        have HE : Hid (r = false) := by
          show _ = _
          rw [HR.out]
          refine full_not (i := k) (by rw [← HN.out]; exact hlt) ?_
          have := full_cars l x
          rw [← HQ.out] at this
          rw [← HX.out]
          simpa using this
        clear HA HX HQ BS
        go_wp2_with fail
        with_reducible refine (B1.out).mono ?_
        rintro e w3 ⟨p, rfl, hf⟩
        have HF3 := Lib.hid ((F2.out.trans HF.out).trans hf)
        clear hf B1
        go_wp2
        go_ret
        exact ⟨by rw [HE.out]; rfl, HF3.out⟩
      | true =>
        have HA2 : Hid (∀ i, i < k + 1 → (bidOf l (ms.getD i 0)).isSome = true) := Lib.hid (fun i hi => by
          by_cases e : i = k
          · subst e; rw [← HX.out, full_cars l x, ← HQ.out]
          · exact HA.out i (by omega))
        clear HA HX HQ
        go_wp2_with fail
        with_reducible refine (B1.out).mono ?_
        rintro e w3 ⟨p, rfl, hf⟩
        have HF3 := Lib.hid (HF.out.trans hf)
        clear hf B1
        go_wp2
        go_roundw
        case rel => exact ⟨k + 1, by go_num, Lib.hid (by omega), HA2, HF3⟩
        case measure => simp [intOf]; omega
    · obtain rfl : k = n := by omega
      have HE : Hid (r = true) := by
        show _ = _
        rw [HR.out]
        exact full_take (by rw [← HN.out]; exact HA.out)
      clear HA HME BS
      go_wp2
      go_ret
      exact ⟨by rw [HE.out]; rfl, F2.out.trans HF.out⟩
end Go.Proofs.Ytfphihhcclfmnaa
