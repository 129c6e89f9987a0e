/- The program's Valid, part by part: latches, the calls' order, members, bids. -/
import Derived.Test.YtpeocdcciecpoaaDoorFSmall
import Derived.Test.YtpeocdcciecpoaaDoorDet
namespace Go.Proofs.YtpeocdcciecpoaaDoor
open Go.RowKit Fm

theorem ev_ne (A : Nat → Addr) {c : Nat} (h : c ≠ 0) : ev A c = .iface 137 (.pointer (some (A c))) := if_neg h

set_option maxRecDepth 100000 in
theorem isLatch_any (fl di ge : Int) (b : Bool) (hb : b = decide (0 ≤ fl ∧ fl < 64 ∧ (di = 1 ∨ di = -1) ∧ 1 ≤ ge ∧ ge ≤ 2147483647)) (w : World) :
    Calls Tryd.prog 81 #[.agg #[.int .i64 fl, .int .i64 di, .int .i64 ge]] w fun e w' => e = .returned (.bool b) ∧ Fr w w' [] := by
  have hcase : (¬ 0 ≤ fl ∧ b = false) ∨ (0 ≤ fl ∧ ¬ fl < 64 ∧ b = false) ∨ (0 ≤ fl ∧ fl < 64 ∧ ¬ di = 1 ∧ ¬ di = -1 ∧ b = false) ∨
      (0 ≤ fl ∧ fl < 64 ∧ di = 1 ∧ ¬ 1 ≤ ge ∧ b = false) ∨ (0 ≤ fl ∧ fl < 64 ∧ di = 1 ∧ 1 ≤ ge ∧ ¬ ge ≤ 2147483647 ∧ b = false) ∨ (0 ≤ fl ∧ fl < 64 ∧ di = 1 ∧ 1 ≤ ge ∧ ge ≤ 2147483647 ∧ b = true) ∨
      (0 ≤ fl ∧ fl < 64 ∧ di = -1 ∧ ¬ 1 ≤ ge ∧ b = false) ∨ (0 ≤ fl ∧ fl < 64 ∧ di = -1 ∧ 1 ≤ ge ∧ ¬ ge ≤ 2147483647 ∧ b = false) ∨ (0 ≤ fl ∧ fl < 64 ∧ di = -1 ∧ 1 ≤ ge ∧ ge ≤ 2147483647 ∧ b = true) := by
    rcases bcase hb with ⟨h, e⟩ | ⟨h, e⟩ <;> subst e <;> simp only [and_true, reduceCtorEq, and_false, or_false, false_or] <;> omega
  clear hb
  rcases hcase with ⟨h1, rfl⟩ | ⟨h1, h2, rfl⟩ | ⟨h1, h2, h3, h4, rfl⟩ | ⟨h1, h2, rfl, h3, rfl⟩ | ⟨h1, h2, rfl, h3, h4, rfl⟩ | ⟨h1, h2, rfl, h3, h4, rfl⟩ | ⟨h1, h2, rfl, h3, rfl⟩ | ⟨h1, h2, rfl, h3, h4, rfl⟩ | ⟨h1, h2, rfl, h3, h4, rfl⟩
  all_goals
    go_enter Tryd.func81, Tryd.ntmps81
    go_wp2
    go_quiet (fail)
    go_wp2
    go_ret
    refine ⟨?_, (Fr.alloc _ _ _).trans (Fr.drewN _ _ _)⟩
    simp [*]

theorem ahead_any (a1 a2 b1 b2 : Int) (b : Bool) (hb : b = decide (a1 < b1 ∨ a1 = b1 ∧ a2 = -1 ∧ b2 = 1)) (w : World) :
    Calls Tryd.prog 83 #[.agg #[.int .i64 a1, .int .i64 a2], .agg #[.int .i64 b1, .int .i64 b2]] w fun e w' => e = .returned (.bool b) ∧ Fr w w' [] := by
  have hcase : (¬ a1 = b1 ∧ a1 < b1 ∧ b = true) ∨ (¬ a1 = b1 ∧ ¬ a1 < b1 ∧ b = false) ∨ (a1 = b1 ∧ ¬ a2 = -1 ∧ b = false) ∨ (a1 = b1 ∧ a2 = -1 ∧ ¬ b2 = 1 ∧ b = false) ∨ (a1 = b1 ∧ a2 = -1 ∧ b2 = 1 ∧ b = true) := by
    rcases bcase hb with ⟨h, e⟩ | ⟨h, e⟩ <;> subst e <;> simp only [and_true, reduceCtorEq, and_false, or_false, false_or] <;> omega
  clear hb
  rcases hcase with ⟨h1, h2, rfl⟩ | ⟨h1, h2, rfl⟩ | ⟨rfl, h2, rfl⟩ | ⟨rfl, rfl, h3, rfl⟩ | ⟨rfl, rfl, rfl, rfl⟩
  all_goals
    go_enter Tryd.func83, Tryd.ntmps83
    go_wp2
    go_ret
    refine ⟨?_, (Fr.alloc _ _ _).trans (Fr.alloc _ _ _)⟩
    simp [*]

theorem not_all {l : List Int} {k : Nat} (h : k < l.length) (hn : ¬ Car (l.getD k 0)) : ¬ ∀ m ∈ l, Car m := fun ha => hn (ha _ (getD_mem h 0))
theorem all_step {l : List Int} {k : Nat} (h : k < l.length) (ha : ∀ m ∈ l.take k, Car m) (hc : Car (l.getD k 0)) : ∀ m ∈ l.take (k + 1), Car m := by
  rw [tk_snoc l k h 0]
  intro m hm
  rcases List.mem_append.1 hm with hm | hm
  · exact ha m hm
  · obtain rfl := List.mem_singleton.1 hm; exact hc
set_option maxRecDepth 100000 in
theorem validMembers_any (v : Value) (l : List Int) (w : World) (A : Nat → Addr) (B : Nat) (is : List Nat) (hE : EV is w A B) (h : Holds .i64 w v l) (hs : ∀ i ∈ [2, 10], i ∈ is := by decide) :
    Calls Tryd.prog 63 #[v] w fun e w' => e = .returned (ev A (membC l)) ∧ Fr w w' [] := by
  have hR := hE.range (hs 2 (by decide))
  have hT := hE.twice (hs 10 (by decide))
  have HV := Lib.hid h
  obtain ⟨a, cap, rfl, h1, h2, h3⟩ := h
  unfold maxLen at h2
  clear hE hs
  go_enter Tryd.func63, Tryd.ntmps63
  go_wp2
  go_loop [7] (fun i => ∃ k : Nat, k ≤ l.length ∧ i = .int .i64 k ∧ ∀ m ∈ l.take k, Car m) (fun i => l.length - (intOf i).toNat)
  case atStart => exact ⟨0, Nat.zero_le _, rfl, by simp⟩
  case round =>
    obtain ⟨k, hk, rfl, hno⟩ := hrel
    have HN := Lib.hid hno
    clear hno
    by_cases hlt : k < l.length
    · obtain ⟨bl, off, rfl, hc⟩ := h3 (by omega)
      have hcell := hc k hlt
      obtain ⟨y, hy⟩ : ∃ y, y = l.getD k 0 := ⟨_, rfl⟩
      rw [← hy] at hcell
      have HY := Lib.hid hy
      clear hy hc h3
      by_cases hcar : Car y
      · have HC := Lib.hid (yes hcar)
        have HN2 := Lib.hid (all_step hlt HN.out (HY.out ▸ hcar))
        clear hcar
        go_wp2_with fail
        refine (isCar_any y _ HC.out _).mono ?_
        rintro e w1 ⟨rfl, rfl⟩
        go_wp2
        go_round
        case rel => exact ⟨k + 1, by omega, by go_num, HN2.out⟩
        case measure => simp [intOf]; omega
      · have HC := Lib.hid (no hcar)
        have HF : Hid (membC l = 3) := by show _ = _; unfold membC; rw [if_pos (not_all hlt (HY.out ▸ hcar))]
        clear hcar
        go_wp2_with fail
        refine (isCar_any y _ HC.out _).mono ?_
        rintro e w1 ⟨rfl, rfl⟩
        go_wp2
        go_ret
        exact ⟨by rw [HF.out]; rfl, Fr.refl _ _⟩
    · obtain rfl : k = l.length := by omega
      have hall : ∀ m ∈ l, Car m := by have := HN.out; rwa [List.take_length] at this
      clear h3
      by_cases hr : Rise l
      · have HC := Lib.hid (yes hr)
        have HF : Hid (membC l = 0) := by show _ = _; unfold membC; rw [if_neg (by simpa using hall), if_neg (by simpa using hr)]
        clear hr hall
        go_wp2_with fail
        refine (rise_any _ l _ HC.out _ HV.out).mono ?_
        rintro e w1 ⟨rfl, hf⟩
        go_wp2
        go_ret
        exact ⟨by rw [HF.out]; rfl, hf⟩
      · have HC := Lib.hid (no hr)
        have HF : Hid (membC l = 11) := by show _ = _; unfold membC; rw [if_neg (by simpa using hall), if_pos hr]
        clear hr hall
        go_wp2_with fail
        refine (rise_any _ l _ HC.out _ HV.out).mono ?_
        rintro e w1 ⟨rfl, hf⟩
        have hT1 := hf.cell hT (by simp)
        go_wp2
        go_ret
        exact ⟨by rw [HF.out]; rfl, hf⟩

/-- A row of numbers. -/
def i64s (l : List Int) : List Value := l.map (Value.int .i64)
theorem infoI : (Tryd.prog.info? 3).map (fun i => (i.zero, i.size, i.bytes)) = some (some (.int .i64 0), 1, 8) := by kernel_rfl
theorem makeInts (w : World) (n : Nat) (hc : n ≤ 17592186044416) (C : Int) (hC : C = (n : Int)) :
    (Instr.makeSlice 24 (.int .i64 C) (.int .i64 C)).run Tryd.prog w = .ok (.slice (some ⟨w.heap.size, 0, none⟩) n n) (w.alloc (.cells (i64s (List.replicate n 0)).toArray 3)) := by
  obtain ⟨i0, hi, hz0, hz1, hz2⟩ := info_parts infoI
  subst hC
  have hr := run_make (P := Tryd.prog) w 24 3 i0 (.int .i64 0) Tryd.underlying24 hi hz0 .i64 .i64 (n : Int) (n : Int) (by omega) (by omega) (by rw [hz2]; omega) (by omega)
  rw [hr, Int.toNat_natCast, hz1, Nat.mul_one]
  have e : madeCells (Value.int .i64 0).cells n = (i64s (List.replicate n 0)).toArray := by
    have h : ∀ x ∈ List.range n, (fun x => (Value.int .i64 0).cells[x % (Value.int .i64 0).cells.size]!) x = Value.int .i64 0 := by
      intro x _; simp [Value.cells, Nat.mod_one]
    apply Array.ext'
    simp only [madeCells, Array.toList_map, Array.toList_range]
    rw [List.map_congr_left h]
    refine List.ext_getElem (by simp [i64s]) (fun i h1 h2 => by simp [i64s])
  rw [e]
theorem i64s_set (l : List Int) (k : Nat) (x : Int) : (i64s l).toArray.setIfInBounds k (.int .i64 x) = (i64s (l.set k x)).toArray := by
  simp [i64s, List.map_set]
theorem holds_row {w : World} {g : Nat} {l : List Int} {T : TypeId} (h : w.heap[g]? = some (.cells (i64s l).toArray T (0, 0))) (hm : l.length ≤ maxLen) (n : Nat) (hn : n = l.length) : Holds .i64 w (.slice (some ⟨g, 0, none⟩) n n) l := by
  subst hn
  refine ⟨_, _, rfl, Nat.le_refl _, hm, fun _ => ⟨g, 0, rfl, fun i hi => ?_⟩⟩
  rw [Nat.zero_add, cell_of_row w g i _ _ _ h]
  simp [i64s, hi]
theorem bids_step {ms : List Int} {l : List (Int × Int)} {k : Nat} (h : k < l.length) (ha : BidsOk ms (l.take k)) (h1 : (l.getD k (0, 0)).1 ∈ ms) (h2 : 0 ≤ (l.getD k (0, 0)).2) (h3 : (l.getD k (0, 0)).2 ≤ 1048576) : BidsOk ms (l.take (k + 1)) := by
  rw [tk_snoc l k h (0, 0)]
  intro b hb
  rcases List.mem_append.1 hb with hb | hb
  · exact ha b hb
  · obtain rfl := List.mem_singleton.1 hb; exact ⟨h1, h2, h3⟩
theorem bids_no {ms : List Int} {l : List (Int × Int)} {k : Nat} (h : k < l.length) (hn : ¬ ((l.getD k (0, 0)).1 ∈ ms ∧ 0 ≤ (l.getD k (0, 0)).2 ∧ (l.getD k (0, 0)).2 ≤ 1048576)) : ¬ BidsOk ms l := fun ha => hn (ha _ (getD_mem h (0, 0)))
theorem map_set {l : List (Int × Int)} {L : List Int} {k : Nat} (h : k < l.length) (hL : L.length = l.length) (ht : L.take k = (l.take k).map (·.1)) : (L.set k (l.getD k (0, 0)).1).take (k + 1) = (l.take (k + 1)).map (·.1) := by
  rw [tk_snoc l k h (0, 0), tk_snoc (L.set k (l.getD k (0, 0)).1) k (by simp; omega) 0, List.map_append, ← ht]
  simp [List.take_set_of_le (Nat.le_refl k), h, hL]
end Go.Proofs.YtpeocdcciecpoaaDoor
