/- Which numbers, lists, epochs, latches may be: the frame's small functions. -/
import Derived.Test.YtpeocdcciecpoaaDoorFHold
import Derived.IntWalk
namespace Go.Proofs.YtpeocdcciecpoaaDoor
open Go.RowKit Fm

theorem bcase {P : Prop} [Decidable P] {b : Bool} (h : b = decide P) : (P ∧ b = true) ∨ (¬ P ∧ b = false) := by
  by_cases hp : P
  · exact .inl ⟨hp, by simp [h, hp]⟩
  · exact .inr ⟨hp, by simp [h, hp]⟩
theorem yes {P : Prop} [Decidable P] (h : P) : true = decide P := (decide_eq_true h).symm
theorem no {P : Prop} [Decidable P] (h : ¬ P) : false = decide P := (decide_eq_false h).symm
theorem iyes {P : Prop} (h : P) : true = true ↔ P := ⟨fun _ => h, fun _ => rfl⟩
theorem ino {P : Prop} (h : ¬ P) : false = true ↔ P := ⟨(fun e => by cases e), fun e => absurd e h⟩
theorem isKind_any (n : Int) (b : Bool) (hb : b = decide (n = 1 ∨ n = 2)) (w : World) : Calls Tryd.prog 31 #[.int .i64 n] w fun e w' => e = .returned (.bool b) ∧ w = w' := by
  have hcase : (n = 1 ∧ b = true) ∨ (¬ n = 1 ∧ n = 2 ∧ b = true) ∨ (¬ n = 1 ∧ ¬ n = 2 ∧ b = false) := by
    subst hb; simp only [decide_eq_true_eq, decide_eq_false_iff_not]; omega
  clear hb
  rcases hcase with ⟨h1, rfl⟩ | ⟨h1, h2, rfl⟩ | ⟨h1, h2, rfl⟩
  all_goals
    go_enter Tryd.func31, Tryd.ntmps31
    go_wp2
    go_ret
    refine ⟨?_, rfl⟩
    simp [*]
theorem isCar_any (n : Int) (b : Bool) (hb : b = decide (Car n)) (w : World) : Calls Tryd.prog 32 #[.int .i64 n] w fun e w' => e = .returned (.bool b) ∧ w = w' := by
  have hcase : (0 ≤ n ∧ n < 16 ∧ b = true) ∨ (0 ≤ n ∧ ¬ n < 16 ∧ b = false) ∨ (¬ 0 ≤ n ∧ b = false) := by
    rcases bcase hb with ⟨h, e⟩ | ⟨h, e⟩ <;> unfold Car at h <;> subst e <;> simp only [and_true, reduceCtorEq, and_false, or_false, false_or] <;> omega
  clear hb
  rcases hcase with ⟨h1, h2, rfl⟩ | ⟨h1, h2, rfl⟩ | ⟨h1, rfl⟩
  all_goals
    go_enter Tryd.func32, Tryd.ntmps32
    go_wp2
    go_ret
    exact ⟨rfl, rfl⟩
theorem rcar_any (n : Int) (b : Bool) (hb : b = decide (Car n)) (w : World) : Calls Tryd.prog 24 #[.int .i64 n] w fun e w' => e = .returned (.bool b) ∧ w = w' := by
  have hcase : (0 ≤ n ∧ n < 16 ∧ b = true) ∨ (0 ≤ n ∧ ¬ n < 16 ∧ b = false) ∨ (¬ 0 ≤ n ∧ b = false) := by
    rcases bcase hb with ⟨h, e⟩ | ⟨h, e⟩ <;> unfold Car at h <;> subst e <;> simp only [and_true, reduceCtorEq, and_false, or_false, false_or] <;> omega
  clear hb
  rcases hcase with ⟨h1, h2, rfl⟩ | ⟨h1, h2, rfl⟩ | ⟨h1, rfl⟩
  all_goals
    go_enter Tryd.func24, Tryd.ntmps24
    go_wp2
    go_ret
    exact ⟨rfl, rfl⟩
theorem isKept_any (n : Int) (b : Bool) (hb : b = decide (Kept n)) (w : World) : Calls Tryd.prog 61 #[.int .i64 n] w fun e w' => e = .returned (.bool b) ∧ w = w' := by
  have hcase : (0 ≤ n ∧ n ≤ 281474976710655 ∧ b = true) ∨ (0 ≤ n ∧ ¬ n ≤ 281474976710655 ∧ b = false) ∨ (¬ 0 ≤ n ∧ b = false) := by
    rcases bcase hb with ⟨h, e⟩ | ⟨h, e⟩ <;> unfold Kept at h <;> subst e <;> simp only [and_true, reduceCtorEq, and_false, or_false, false_or] <;> omega
  clear hb
  rcases hcase with ⟨h1, h2, rfl⟩ | ⟨h1, h2, rfl⟩ | ⟨h1, rfl⟩
  all_goals
    go_enter Tryd.func61, Tryd.ntmps61
    go_wp2
    go_ret
    exact ⟨rfl, rfl⟩

/-- May the epoch be? -/
def EpOk (c f : Int) : Prop := 1 ≤ c ∧ c ≤ 4294967295 ∧ 0 ≤ f ∧ f < 16
instance (c f : Int) : Decidable (EpOk c f) := by unfold EpOk; exact inferInstance
set_option maxRecDepth 100000 in
theorem epValid_any (c f : Int) (v : Bool) (hv : v = decide (EpOk c f)) (w : World) : Calls Tryd.prog 62 #[.agg #[.int .i64 c, .int .i64 f]] w fun e w' => e = .returned (.bool v) ∧ Fr w w' [] := by
  have hcase : (1 ≤ c ∧ c ≤ 4294967295 ∧ 0 ≤ f ∧ f < 16 ∧ v = true) ∨ (1 ≤ c ∧ c ≤ 4294967295 ∧ 0 ≤ f ∧ ¬ f < 16 ∧ v = false) ∨ (1 ≤ c ∧ c ≤ 4294967295 ∧ ¬ 0 ≤ f ∧ v = false) ∨ (1 ≤ c ∧ ¬ c ≤ 4294967295 ∧ v = false) ∨ (¬ 1 ≤ c ∧ v = false) := by
    rcases bcase hv with ⟨h, e⟩ | ⟨h, e⟩ <;> unfold EpOk at h <;> subst e <;> simp only [and_true, reduceCtorEq, and_false, or_false, false_or] <;> omega
  clear hv
  rcases hcase with ⟨h1, h2, h3, h4, rfl⟩ | ⟨h1, h2, h3, h4, rfl⟩ | ⟨h1, h2, h3, rfl⟩ | ⟨h1, h2, rfl⟩ | ⟨h1, rfl⟩
  all_goals
    go_enter Tryd.func62, Tryd.ntmps62
    go_wp2
    go_ret
    exact ⟨rfl, Fr.alloc _ _ _⟩
set_option maxRecDepth 100000 in
theorem repValid_any (c f : Int) (v : Bool) (hv : v = decide (EpOk c f)) (w : World) : Calls Tryd.prog 54 #[.agg #[.int .i64 c, .int .i64 f]] w fun e w' => e = .returned (.bool v) ∧ Fr w w' [] := by
  have hcase : (1 ≤ c ∧ c ≤ 4294967295 ∧ 0 ≤ f ∧ f < 16 ∧ v = true) ∨ (1 ≤ c ∧ c ≤ 4294967295 ∧ 0 ≤ f ∧ ¬ f < 16 ∧ v = false) ∨ (1 ≤ c ∧ c ≤ 4294967295 ∧ ¬ 0 ≤ f ∧ v = false) ∨ (1 ≤ c ∧ ¬ c ≤ 4294967295 ∧ v = false) ∨ (¬ 1 ≤ c ∧ v = false) := by
    rcases bcase hv with ⟨h, e⟩ | ⟨h, e⟩ <;> unfold EpOk at h <;> subst e <;> simp only [and_true, reduceCtorEq, and_false, or_false, false_or] <;> omega
  clear hv
  rcases hcase with ⟨h1, h2, h3, h4, rfl⟩ | ⟨h1, h2, h3, h4, rfl⟩ | ⟨h1, h2, h3, rfl⟩ | ⟨h1, h2, rfl⟩ | ⟨h1, rfl⟩
  all_goals
    go_enter Tryd.func54, Tryd.ntmps54
    go_wp2
    go_ret
    exact ⟨rfl, Fr.alloc _ _ _⟩

/-- A place, or -1. -/
def IdxE (b : Bool) (e : Ending) : Prop := ∃ r : Int, e = .returned (.int .i64 r) ∧ (b = true → 0 ≤ r) ∧ (b = false → r = -1)
theorem take_mem {l : List Int} {k : Nat} (h : k < l.length) {x : Int} (h1 : x ∉ l.take k) (h2 : l.getD k 0 ≠ x) : x ∉ l.take (k + 1) := by
  rw [tk_snoc l k h 0]
  simp only [List.mem_append, List.mem_singleton, not_or]
  exact ⟨h1, fun e => h2 e.symm⟩
theorem getD_mem {α : Type} {l : List α} {k : Nat} (h : k < l.length) (d : α) : l.getD k d ∈ l := by simp [h]

set_option maxRecDepth 100000 in
theorem index_any (v : Value) (l : List Int) (x : Int) (b : Bool) (hb : b = decide (x ∈ l)) (w : World) (h : Holds .i64 w v l) :
    Calls Tryd.prog 93 #[v, .int .i64 x] w fun e w' => IdxE b e ∧ w = w' := by
  obtain ⟨a, cap, rfl, h1, h2, h3⟩ := h
  unfold maxLen at h2
  have HB := Lib.hid hb
  clear hb
  go_enter Tryd.func93, Tryd.ntmps93
  go_wp2
  go_loop [8] (fun i => ∃ k : Nat, k ≤ l.length ∧ i = .int .i64 k ∧ x ∉ l.take k) (fun i => l.length - (intOf i).toNat)
  case atStart => exact ⟨0, Nat.zero_le _, rfl, by simp⟩
  case round =>
    obtain ⟨k, hk, rfl, hno⟩ := hrel
    have HN := Lib.hid hno
    clear hno
    by_cases hlt : k < l.length
    · obtain ⟨bl, off, rfl, hc⟩ := h3 (by omega)
      have hcell := hc k hlt
      obtain ⟨y, hy⟩ : ∃ y, y = l.getD k 0 := ⟨_, rfl⟩
      rw [← hy] at hcell
      have HY := Lib.hid hy
      clear hy hc h3
      by_cases hxy : x = y
      · have e1 : (x == y) = true := by simp [hxy]
        have HT : Hid (b = true) := by show _ = _; rw [HB.out, decide_eq_true_iff, hxy, HY.out]; exact getD_mem hlt 0
        clear hxy
        go_wp2
        go_ret
        exact ⟨⟨_, rfl, (fun _ => by omega), fun h => by rw [HT.out] at h; cases h⟩, rfl⟩
      · have e1 : (x == y) = false := by simp [hxy]
        have HN2 : Hid (x ∉ l.take (k + 1)) := take_mem hlt HN.out (by rw [← HY.out]; exact fun e => hxy e.symm)
        clear hxy
        go_wp2
        go_round
        case rel => exact ⟨k + 1, by omega, by go_num, HN2.out⟩
        case measure => simp [intOf]; omega
    · obtain rfl : k = l.length := by omega
      have HT : Hid (b = false) := by
        show _ = _
        rw [HB.out, decide_eq_false_iff_not]
        have := HN.out
        rwa [List.take_length] at this
      clear h3
      go_wp2
      go_ret
      exact ⟨⟨_, rfl, (fun h => by rw [HT.out] at h; cases h), fun _ => rfl⟩, rfl⟩
theorem contains_any (v : Value) (l : List Int) (x : Int) (b : Bool) (hb : b = decide (x ∈ l)) (w : World) (h : Holds .i64 w v l) :
    Calls Tryd.prog 82 #[v, .int .i64 x] w fun e w' => e = .returned (.bool b) ∧ w = w' := by
  have HI := Lib.hid (index_any v l x b hb w h)
  clear hb h
  cases b
  all_goals
    go_enter Tryd.func82, Tryd.ntmps82
    go_wp2_with fail
    refine HI.out.mono ?_
    rintro e w1 ⟨⟨r, rfl, h1, h2⟩, rfl⟩
    first
    | (have h1 := h1 rfl; clear h2; go_wp2; go_ret; exact ⟨rfl, rfl⟩)
    | (obtain rfl := h2 rfl; clear h1; go_wp2; go_ret; exact ⟨rfl, rfl⟩)

theorem rise_step {l : List Int} {k : Nat} (hk : 1 ≤ k) (h : ∀ i, i + 1 < k → l.getD i 0 < l.getD (i + 1) 0) (hs : l.getD (k - 1) 0 < l.getD k 0) : ∀ i, i + 1 < k + 1 → l.getD i 0 < l.getD (i + 1) 0 := by
  intro i hi
  by_cases e : i + 1 = k
  · obtain rfl : i = k - 1 := by omega
    rw [show k - 1 + 1 = k by omega]; exact hs
  · exact h i (by omega)
set_option maxRecDepth 100000 in
theorem rise_any (v : Value) (l : List Int) (b : Bool) (hb : b = decide (Rise l)) (w : World) (h : Holds .i64 w v l) :
    Calls Tryd.prog 80 #[v] w fun e w' => e = .returned (.bool b) ∧ Fr w w' [] := by
  obtain ⟨a, cap, rfl, h1, h2, h3⟩ := h
  unfold maxLen at h2
  have HB := Lib.hid hb
  clear hb
  go_enter Tryd.func80, Tryd.ntmps80
  go_wp2
  go_loopw [3] (fun i wr => ∃ k : Nat, 1 ≤ k ∧ (k ≤ l.length ∨ k = 1) ∧ i = .int .i64 k ∧ (∀ i, i + 1 < k → l.getD i 0 < l.getD (i + 1) 0) ∧ Fr w wr []) (fun i _ => l.length + 1 - (intOf i).toNat)
  case atStart => exact ⟨1, by omega, .inr rfl, rfl, fun i hi => by omega, Fr.refl _ _⟩
  case round =>
    obtain ⟨k, hk1, hk, rfl, hno, hf⟩ := hrel
    have HN := Lib.hid hno
    have HF := Lib.hid hf
    have HK := Lib.hid hk
    clear hno hk
    by_cases hlt : k < l.length
    · obtain ⟨bl, off, rfl, hc⟩ := h3 (by omega)
      have hcell := hf.cell (hc (k - 1) (by omega)) (by simp)
      have hcell2 := hf.cell (hc k hlt) (by simp)
      obtain ⟨y, hy⟩ : ∃ y, y = l.getD (k - 1) 0 := ⟨_, rfl⟩
      obtain ⟨z, hz⟩ : ∃ z, z = l.getD k 0 := ⟨_, rfl⟩
      rw [← hy] at hcell
      rw [← hz] at hcell2
      have HY := Lib.hid hy
      have HZ := Lib.hid hz
      have hn0 : (0 : Int) ≤ (k : Int) - 1 := by omega
      have hn3 : (k : Int) - 1 < (l.length : Int) := by omega
      have hn4 : (1 : Int) ≤ (k : Int) := by omega
      have hn1 : ((k : Int) - 1).toNat = k - 1 := by omega
      have hn2 : IntKind.i64.wrap ((k : Int) - 1) = (k : Int) - 1 := IntWalk.i64_in _ (by omega)
      clear hy hz hc h3 hf
      by_cases hyz : z ≤ y
      · have HT : Hid (b = false) := by
          show _ = _
          rw [HB.out, decide_eq_false_iff_not]
          intro hr
          have := hr (k - 1) (by omega)
          rw [show k - 1 + 1 = k by omega, ← HY.out, ← HZ.out] at this; omega
        go_wp2
        go_quiet (fail)
        go_wp2
        go_ret
        exact ⟨by rw [HT.out]; rfl, HF.out.trans (Fr.drewN _ _ _)⟩
      · have HN2 := Lib.hid (rise_step hk1 HN.out (by rw [← HY.out, ← HZ.out]; omega))
        go_wp2
        go_quiet (fail)
        clear hn1 hn2
        go_wp2
        go_roundw
        case rel => exact ⟨k + 1, by omega, .inl (by omega), by go_num, HN2.out, HF.out.trans (Fr.drewN _ _ _)⟩
        case measure => simp [intOf]; omega
    · have HT : Hid (b = true) := by
        show _ = _
        rw [HB.out, decide_eq_true_iff]
        intro i hi
        exact HN.out i (by omega)
      clear h3 hf
      go_wp2
      go_ret
      exact ⟨by rw [HT.out]; rfl, HF.out⟩
end Go.Proofs.YtpeocdcciecpoaaDoor
