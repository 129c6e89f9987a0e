/- Whether a ring may be: the document's. -/
import Derived.Test.YtldheaamcnmlgaaGLd
import Derived.IntWalk
namespace Go.Proofs.Ytldheaamcnmlgaa
open Go.RowKit Fm
theorem dr_cons {α : Type} (l : List α) (k : Nat) (h : k < l.length) (d : α) : l.drop k = l.getD k d :: l.drop (k + 1) := by
  rw [List.drop_eq_getElem_cons h]; simp [h]
theorem rcar_any (n : Int) (b : Bool) (hb : b = decide (Car n)) (w : World) : Calls Try.prog 45 #[.int .i64 n] w fun e w' => e = .returned (.bool b) ∧ w = w' := by
  have hcase : (0 ≤ n ∧ n < 16 ∧ b = true) ∨ (0 ≤ n ∧ ¬ n < 16 ∧ b = false) ∨ (¬ 0 ≤ n ∧ b = false) := by
    rcases bcase hb with ⟨h, e⟩ | ⟨h, e⟩ <;> unfold Car at h <;> subst e <;> simp only [and_true, reduceCtorEq, and_false, or_false, false_or] <;> omega
  clear hb
  rcases hcase with ⟨h1, h2, rfl⟩ | ⟨h1, h2, rfl⟩ | ⟨h1, rfl⟩
  all_goals
    go_enter Try.func45, Try.ntmps45
    go_wp2
    go_ret
    exact ⟨rfl, rfl⟩
/-- May the epoch be? -/
def EpOk (c f : Int) : Prop := 1 ≤ c ∧ c ≤ 4294967295 ∧ 0 ≤ f ∧ f < 16
instance (c f : Int) : Decidable (EpOk c f) := by unfold EpOk; exact inferInstance
set_option maxRecDepth 100000 in
theorem repValid_any (c f : Int) (v : Bool) (hv : v = decide (EpOk c f)) (w : World) : Calls Try.prog 44 #[.agg #[.int .i64 c, .int .i64 f]] w fun e w' => e = .returned (.bool v) ∧ Fr w w' [] := by
  have hcase : (1 ≤ c ∧ c ≤ 4294967295 ∧ 0 ≤ f ∧ f < 16 ∧ v = true) ∨ (1 ≤ c ∧ c ≤ 4294967295 ∧ 0 ≤ f ∧ ¬ f < 16 ∧ v = false) ∨ (1 ≤ c ∧ c ≤ 4294967295 ∧ ¬ 0 ≤ f ∧ v = false) ∨ (1 ≤ c ∧ ¬ c ≤ 4294967295 ∧ v = false) ∨ (¬ 1 ≤ c ∧ v = false) := by
    rcases bcase hv with ⟨h, e⟩ | ⟨h, e⟩ <;> unfold EpOk at h <;> subst e <;> simp only [and_true, reduceCtorEq, and_false, or_false, false_or] <;> omega
  clear hv
  rcases hcase with ⟨h1, h2, h3, h4, rfl⟩ | ⟨h1, h2, h3, h4, rfl⟩ | ⟨h1, h2, h3, rfl⟩ | ⟨h1, h2, rfl⟩ | ⟨h1, rfl⟩
  all_goals
    go_enter Try.func44, Try.ntmps44
    go_wp2
    go_ret
    exact ⟨rfl, Fr.alloc _ _ _⟩

theorem take_mem {l : List Int} {k : Nat} (h : k < l.length) {x : Int} (h1 : x ∉ l.take k) (h2 : l.getD k 0 ≠ x) : x ∉ l.take (k + 1) := by
  rw [tk_snoc l k h 0]
  simp only [List.mem_append, List.mem_singleton, not_or]
  exact ⟨h1, fun e => h2 e.symm⟩
theorem getD_mem {α : Type} {l : List α} {k : Nat} (h : k < l.length) (d : α) : l.getD k d ∈ l := by simp [h]

theorem rise_step {l : List Int} {k : Nat} (hk : 1 ≤ k) (h : ∀ i, i + 1 < k → l.getD i 0 < l.getD (i + 1) 0) (hs : l.getD (k - 1) 0 < l.getD k 0) : ∀ i, i + 1 < k + 1 → l.getD i 0 < l.getD (i + 1) 0 := by
  intro i hi
  by_cases e : i + 1 = k
  · obtain rfl : i = k - 1 := by omega
    rw [show k - 1 + 1 = k by omega]; exact hs
  · exact h i (by omega)
theorem not_all {l : List Int} {k : Nat} (h : k < l.length) (hn : ¬ Car (l.getD k 0)) : ¬ ∀ m ∈ l, Car m := fun ha => hn (ha _ (getD_mem h 0))
theorem all_step {l : List Int} {k : Nat} (h : k < l.length) (ha : ∀ m ∈ l.take k, Car m) (hc : Car (l.getD k 0)) : ∀ m ∈ l.take (k + 1), Car m := by
  rw [tk_snoc l k h 0]
  intro m hm
  rcases List.mem_append.1 hm with hm | hm
  · exact ha m hm
  · obtain rfl := List.mem_singleton.1 hm; exact hc
theorem bids_step {ms : List Int} {l : List (Int × Int)} {k : Nat} (h : k < l.length) (ha : BidsOk ms (l.take k)) (h1 : (l.getD k (0, 0)).1 ∈ ms) (h2 : 0 ≤ (l.getD k (0, 0)).2) (h3 : (l.getD k (0, 0)).2 ≤ 1048576) : BidsOk ms (l.take (k + 1)) := by
  rw [tk_snoc l k h (0, 0)]
  intro b hb
  rcases List.mem_append.1 hb with hb | hb
  · exact ha b hb
  · obtain rfl := List.mem_singleton.1 hb; exact ⟨h1, h2, h3⟩
theorem bids_no {ms : List Int} {l : List (Int × Int)} {k : Nat} (h : k < l.length) (hn : ¬ ((l.getD k (0, 0)).1 ∈ ms ∧ 0 ≤ (l.getD k (0, 0)).2 ∧ (l.getD k (0, 0)).2 ≤ 1048576)) : ¬ BidsOk ms l := fun ha => hn (ha _ (getD_mem h (0, 0)))
/-- The entry ahead of the k-th. -/
def prevE (l : List En) (k : Nat) : Option En := if k = 0 then none else some (l.getD (k - 1) zeroE)
theorem entsC_at {ms : List Int} {l : List En} {k : Nat} (hk : k < l.length) (h : entsC ms (prevE l k) (l.drop k) = entsC ms none l) :
    (entC ms (prevE l k) (l.getD k zeroE) = 0 → entsC ms (prevE l (k + 1)) (l.drop (k + 1)) = entsC ms none l) ∧
    (entC ms (prevE l k) (l.getD k zeroE) ≠ 0 → entsC ms none l = entC ms (prevE l k) (l.getD k zeroE)) := by
  rw [dr_cons l k hk zeroE] at h
  have h : (if entC ms (prevE l k) (l.getD k zeroE) = 0 then entsC ms (some (l.getD k zeroE)) (l.drop (k + 1)) else entC ms (prevE l k) (l.getD k zeroE)) = entsC ms none l := h
  refine ⟨fun h0 => ?_, fun h0 => ?_⟩
  · rw [if_pos h0] at h
    rw [← h]
    show entsC ms (if k + 1 = 0 then none else some (l.getD (k + 1 - 1) zeroE)) _ = _
    rw [if_neg (by omega), Nat.add_sub_cancel]
  · rw [if_neg h0] at h
    exact h.symm

theorem ent_latch {ms : List Int} {p : Option En} {e : En} (h : ¬ (LatchOk e ∧ (e.aw = -1 ∨ e.aw ∈ ms))) : entC ms p e = 3 := by unfold entC; rw [if_pos h]
theorem ent_after {ms : List Int} {p : Option En} {e : En} (h : LatchOk e ∧ (e.aw = -1 ∨ e.aw ∈ ms)) (h2 : ¬ After p e) : entC ms p e = 11 := by
  unfold entC; rw [if_neg (fun hn => hn h), if_pos h2]
theorem ent_bids {ms : List Int} {p : Option En} {e : En} (h : LatchOk e ∧ (e.aw = -1 ∨ e.aw ∈ ms)) (h2 : After p e) : entC ms p e = bidsC ms e.bs := by
  unfold entC; rw [if_neg (fun hn => hn h), if_neg (fun hn => hn h2)]
theorem latch_step {l : List En} {k : Nat} (h : ∀ j, j < k → LatchOk (l.getD j zeroE)) (hk : LatchOk (l.getD k zeroE)) : ∀ j, j < k + 1 → LatchOk (l.getD j zeroE) := by
  intro j hj
  by_cases e : j = k
  · subst e; exact hk
  · exact h j (by omega)
theorem prev_pos {l : List En} {k : Nat} (h : 0 < k) : prevE l k = some (l.getD (k - 1) zeroE) := by unfold prevE; rw [if_neg (by omega)]
theorem prev_zero {l : List En} {k : Nat} (h : k = 0) : prevE l k = none := by unfold prevE; rw [if_pos h]

/-- The ring's box, the entry ahead, the entry's box. -/
def AheadS (w0 : World) (g : Nat) (ve : Value) (b o : Nat) (q1 q2 : Int) (h : Nat) (e1 e2 : Int) (a : World) : Prop :=
  Fr w0 a [] ∧ a.cell? ⟨g, 4, none⟩ = some ve ∧ a.cell? ⟨b, o, none⟩ = some (.int .i64 q1) ∧ a.cell? ⟨b, o + 1, none⟩ = some (.int .i64 q2) ∧ a.cell? ⟨h, 0, none⟩ = some (.int .i64 e1) ∧ a.cell? ⟨h, 1, none⟩ = some (.int .i64 e2)
theorem AheadS.keep {w0 : World} {g : Nat} {ve : Value} {b o : Nat} {q1 q2 : Int} {h : Nat} {e1 e2 : Int} {a c : World} (hh : AheadS w0 g ve b o q1 q2 h e1 e2 a) (k : Fr a c []) : AheadS w0 g ve b o q1 q2 h e1 e2 c :=
  ⟨hh.1.trans k, k.cell hh.2.1 (by simp), k.cell hh.2.2.1 (by simp), k.cell hh.2.2.2.1 (by simp), k.cell hh.2.2.2.2.1 (by simp), k.cell hh.2.2.2.2.2 (by simp)⟩

theorem ringC_head {r : Rg} (h : ¬ HeadOk r) : ringC r = 3 := by unfold ringC; rw [if_pos h]
theorem ringC_many {r : Rg} (h : HeadOk r) (h2 : 16 < r.ms.length ∨ r.ms.length = 0 ∨ 128 < r.es.length) : ringC r = 4 := by unfold ringC; rw [if_neg (fun q => q h), if_pos h2]
theorem ringC_memb {r : Rg} (h : HeadOk r) (h2 : ¬ (16 < r.ms.length ∨ r.ms.length = 0 ∨ 128 < r.es.length)) (h3 : membC r.ms ≠ 0) : ringC r = membC r.ms := by unfold ringC; rw [if_neg (fun q => q h), if_neg h2, if_neg h3]
theorem ringC_ents {r : Rg} (h : HeadOk r) (h2 : ¬ (16 < r.ms.length ∨ r.ms.length = 0 ∨ 128 < r.es.length)) (h3 : membC r.ms = 0) : ringC r = entsC r.ms none r.es := by unfold ringC; rw [if_neg (fun q => q h), if_neg h2, if_pos h3]

theorem rless_any (a1 a2 b1 b2 : Int) (b : Bool) (hb : b = decide (a1 < b1 ∨ a1 = b1 ∧ a2 < b2)) (w : World) : Calls Try.prog 20 #[.agg #[.int .i64 a1, .int .i64 a2], .agg #[.int .i64 b1, .int .i64 b2]] w fun e w' => e = .returned (.bool b) ∧ Fr w w' [] := by
  have hcase : (a1 < b1 ∧ ¬ a1 = b1 ∧ b = true) ∨ (¬ a1 < b1 ∧ ¬ a1 = b1 ∧ b = false) ∨ (¬ a1 < b1 ∧ a1 = b1 ∧ a2 < b2 ∧ b = true) ∨ (¬ a1 < b1 ∧ a1 = b1 ∧ ¬ a2 < b2 ∧ b = false) := by
    rcases bcase hb with ⟨h, e⟩ | ⟨h, e⟩ <;> subst e <;> simp only [and_true, reduceCtorEq, and_false, or_false, false_or] <;> omega
  clear hb
  rcases hcase with ⟨h1, h2, rfl⟩ | ⟨h1, h2, rfl⟩ | ⟨h1, h2, h3, rfl⟩ | ⟨h1, h2, h3, rfl⟩
  all_goals
    go_enter Try.func20, Try.ntmps20
    go_wp2
    go_ret
    refine ⟨?_, (Fr.alloc _ _ _).trans (Fr.alloc _ _ _)⟩
    simp [*]

set_option maxRecDepth 100000 in
theorem among_any (v : Value) (l : List Int) (x : Int) (b : Bool) (hb : b = decide (x ∈ l)) (w : World) (h : Holds .i64 w v l) :
    Calls Try.prog 12 #[v, .int .i64 x] w fun e w' => e = .returned (.bool b) ∧ w = w' := by
  obtain ⟨a, cap, rfl, h1, h2, h3⟩ := h
  unfold maxLen at h2
  have HB := Lib.hid hb
  clear hb
  go_enter Try.func12, Try.ntmps12
  go_wp2
  go_loop [5] (fun i => ∃ k : Nat, k ≤ l.length ∧ i = .int .i64 k ∧ x ∉ l.take k) (fun i => l.length - (intOf i).toNat)
  case atStart => exact ⟨0, Nat.zero_le _, rfl, by simp⟩
  case round =>
    obtain ⟨k, hk, rfl, hno⟩ := hrel
    have HN := Lib.hid hno
    clear hno
    by_cases hlt : k < l.length
    · obtain ⟨bl, off, rfl, hc⟩ := h3 (by omega)
      have hcell := hc k hlt
      obtain ⟨y, hy⟩ : ∃ y, y = l.getD k 0 := ⟨_, rfl⟩
      rw [← hy] at hcell
      have HY := Lib.hid hy
      clear hy hc h3
      by_cases hxy : y = x
      · have e1 : (y == x) = true := by simp [hxy]
        have HT : Hid (b = true) := by show _ = _; rw [HB.out, decide_eq_true_iff, ← hxy, HY.out]; exact getD_mem hlt 0
        clear hxy
        go_wp2
        go_ret
        exact ⟨by rw [HT.out]; rfl, rfl⟩
      · have e1 : (y == x) = false := by simp [hxy]
        have HN2 : Hid (x ∉ l.take (k + 1)) := take_mem hlt HN.out (by rw [← HY.out]; exact hxy)
        clear hxy
        go_wp2
        go_round
        case rel => exact ⟨k + 1, by omega, by go_num, HN2.out⟩
        case measure => simp [intOf]; omega
    · obtain rfl : k = l.length := by omega
      have HT : Hid (b = false) := by
        show _ = _
        rw [HB.out, decide_eq_false_iff_not]
        have := HN.out
        rwa [List.take_length] at this
      clear h3
      go_wp2
      go_ret
      exact ⟨by rw [HT.out]; rfl, rfl⟩

theorem map_fst (l : List (Int × Int)) (k : Nat) : (l.map (·.1)).getD k 0 = (l.getD k (0, 0)).1 := by
  simp only [List.getD, List.getElem?_map]
  cases l[k]? <;> rfl
/-- A code as the document has it. -/
def dcode (c : Nat) : Int := if c = 0 then 0 else 100 + (c : Int)

set_option maxHeartbeats 2000000 in
set_option maxRecDepth 100000 in
theorem rvalidBids_any (v : Value) (l : List (Int × Int)) (u : Value) (ms : List Int) (w : World) (h : HB w v l) (hu : Holds .i64 w u ms) :
    Calls Try.prog 46 #[u, v] w fun e w' => e = .returned (.int .i64 (dcode (bidsC ms l))) ∧ Fr w w' [] := by
  have HU := Lib.hid hu
  obtain ⟨a, cap, rfl, h1, h2, h3⟩ := h
  obtain ⟨au, capu, rfl, hu1, hu2, _⟩ := hu
  unfold maxLen at h2 hu2
  by_cases hlen : ms.length < l.length
  · have HF : Hid (bidsC ms l = 4) := by show _ = _; unfold bidsC; rw [if_pos hlen]
    clear h3
    go_enter Try.func46, Try.ntmps46
    go_wp2
    go_ret
    exact ⟨by rw [HF.out]; rfl, Fr.refl _ _⟩
  · go_enter Try.func46, Try.ntmps46
    go_wp2
    go_loopw [5] (fun i wr => ∃ (k : Nat), k ≤ l.length ∧ i = .int .i64 k ∧ BidsOk ms (l.take k) ∧ Fr w wr []) (fun i _ => l.length - (intOf i).toNat)
    case atStart => exact ⟨0, Nat.zero_le _, rfl, by simp [BidsOk], Fr.refl _ _⟩
    case round =>
      obtain ⟨k, hk, rfl, hok, hf⟩ := hrel
      have HOK := Lib.hid hok
      have HF := Lib.hid hf
      clear hok
      by_cases hlt : k < l.length
      · obtain ⟨bl, off, rfl, hc⟩ := h3 (by omega)
        obtain ⟨hc1, hc2⟩ := hc k hlt
        have hcell1 := hf.cell hc1 (by simp)
        have hcell2 := hf.cell hc2 (by simp)
        obtain ⟨x, hx⟩ : ∃ x, x = (l.getD k (0, 0)).1 := ⟨_, rfl⟩
        obtain ⟨y, hy⟩ : ∃ y, y = (l.getD k (0, 0)).2 := ⟨_, rfl⟩
        rw [← hx] at hcell1
        rw [← hy] at hcell2
        have HX := Lib.hid hx
        have HY := Lib.hid hy
        clear hx hy hc hc1 hc2 h3 hf
        have hcase : (x ∈ ms ∧ 0 ≤ y ∧ y ≤ 1048576) ∨ (¬ x ∈ ms) ∨ (x ∈ ms ∧ ¬ 0 ≤ y) ∨ (x ∈ ms ∧ 0 ≤ y ∧ ¬ y ≤ 1048576) := by
          by_cases q : x ∈ ms
          · rcases (show (0 ≤ y ∧ y ≤ 1048576) ∨ ¬ 0 ≤ y ∨ (0 ≤ y ∧ ¬ y ≤ 1048576) by omega) with h | h | h
            · exact .inl ⟨q, h⟩
            · exact .inr (.inr (.inl ⟨q, h⟩))
            · exact .inr (.inr (.inr ⟨q, h⟩))
          · exact .inr (.inl q)
        rcases hcase with ⟨hm, hy0, hy1⟩ | hm | ⟨hm, hy0⟩ | ⟨hm, hy0, hy1⟩
        · have HC := Lib.hid (yes hm)
          have HN := Lib.hid (bids_step (ms := ms) hlt HOK.out (HX.out ▸ hm) (HY.out ▸ hy0) (HY.out ▸ hy1))
          clear hm
          go_wp2_with fail
          refine (among_any _ ms x _ HC.out _ (HU.out.keep HF.out)).mono ?_
          rintro e w1 ⟨rfl, rfl⟩
          go_wp2
          go_roundw
          case rel => exact ⟨k + 1, by omega, by go_num, HN.out, HF.out⟩
          case measure => simp [intOf]; omega
        all_goals
          have HN : Hid (bidsC ms l = 3) := by show _ = _; unfold bidsC; rw [if_neg hlen, if_pos (bids_no hlt (by rw [← HX.out, ← HY.out]; rintro ⟨q1, q2, q3⟩; first | exact hm q1 | exact hy0 q2 | exact hy1 q3))]
          first | have HC := Lib.hid (yes (P := x ∈ ms) hm) | have HC := Lib.hid (no (P := x ∈ ms) hm)
          clear hm
          go_wp2_with fail
          refine (among_any _ ms x _ HC.out _ (HU.out.keep HF.out)).mono ?_
          rintro e w1 ⟨rfl, rfl⟩
          go_wp2
          go_ret
          exact ⟨by rw [HN.out]; rfl, HF.out⟩
      · obtain rfl : k = l.length := by omega
        have hall : BidsOk ms l := by have := HOK.out; rwa [List.take_length] at this
        have HALL := Lib.hid hall
        clear hall hf
        go_wp2
        go_loopw [6] (fun i wr => ∃ k : Nat, 1 ≤ k ∧ (k ≤ l.length ∨ k = 1) ∧ i = .int .i64 k ∧ (∀ i, i + 1 < k → (l.map (·.1)).getD i 0 < (l.map (·.1)).getD (i + 1) 0) ∧ Fr w wr []) (fun i _ => l.length + 1 - (intOf i).toNat)
        case atStart => exact ⟨1, by omega, .inr rfl, rfl, fun i hi => by omega, HF.out⟩
        case round =>
          obtain ⟨k, hk1, hk, rfl, hno, hf⟩ := hrel
          have HN := Lib.hid hno
          have HF := Lib.hid hf
          have HK := Lib.hid hk
          clear hno hk
          by_cases hlt : k < l.length
          · obtain ⟨bl, off, rfl, hc⟩ := h3 (by omega)
            have hcell := hf.cell (hc (k - 1) (by omega)).1 (by simp)
            have hcell2 := hf.cell (hc k hlt).1 (by simp)
            obtain ⟨y, hy⟩ : ∃ y, y = (l.getD (k - 1) (0, 0)).1 := ⟨_, rfl⟩
            obtain ⟨z, hz⟩ : ∃ z, z = (l.getD k (0, 0)).1 := ⟨_, rfl⟩
            rw [← hy] at hcell
            rw [← hz] at hcell2
            have HY : Hid (y = (l.map (·.1)).getD (k - 1) 0) := by show _ = _; rw [hy, map_fst]
            have HZ : Hid (z = (l.map (·.1)).getD k 0) := by show _ = _; rw [hz, map_fst]
            have hn0 : (0 : Int) ≤ (k : Int) - 1 := by omega
            have hn3 : (k : Int) - 1 < (l.length : Int) := by omega
            have hn4 : (1 : Int) ≤ (k : Int) := by omega
            have hn1 : ((k : Int) - 1).toNat = k - 1 := by omega
            have hn2 : IntKind.i64.wrap ((k : Int) - 1) = (k : Int) - 1 := IntWalk.i64_in _ (by omega)
            clear hy hz hc h3 hf
            by_cases hyz : z ≤ y
            · have HT : Hid (bidsC ms l = 11) := by
                have hr : ¬ Rise (l.map (·.1)) := by
                  intro hr
                  have := hr (k - 1) (by simp; omega)
                  rw [show k - 1 + 1 = k by omega, ← HY.out, ← HZ.out] at this; omega
                show _ = _
                unfold bidsC; rw [if_neg hlen, if_neg (fun q => q HALL.out), if_pos hr]
              go_wp2
              go_quiet (fail)
              go_wp2
              go_ret
              exact ⟨by rw [HT.out]; rfl, HF.out.trans (Fr.drewN _ _ _)⟩
            · have HN2 := Lib.hid (rise_step hk1 HN.out (by rw [← HY.out, ← HZ.out]; omega))
              go_wp2
              go_quiet (fail)
              clear hn1 hn2
              go_wp2
              go_roundw
              case rel => exact ⟨k + 1, by omega, .inl (by omega), by go_num, HN2.out, HF.out.trans (Fr.drewN _ _ _)⟩
              case measure => simp [intOf]; omega
          · have HT : Hid (bidsC ms l = 0) := by
              have hr : Rise (l.map (·.1)) := by
                intro i hi
                rw [List.length_map] at hi
                exact HN.out i (by omega)
              show _ = _
              unfold bidsC; rw [if_neg hlen, if_neg (fun q => q HALL.out), if_neg (fun q => q hr)]
            clear h3 hf
            go_wp2
            go_ret
            exact ⟨by rw [HT.out]; rfl, HF.out⟩
theorem dcode_ne {c : Nat} (h : c ≠ 0) : (dcode c != 0) = true := by unfold dcode; rw [if_neg h]; simp; omega
theorem lt_iff_less (q e : En) : (q.fl < e.fl ∨ q.fl = e.fl ∧ q.di < e.di) ↔ Less q e := Iff.rfl

set_option maxHeartbeats 8000000 in
set_option maxRecDepth 100000 in
theorem rvalidRing_any (co fo ho : Int) (ms : List Int) (l : List En) (vm ve : Value) (w : World) (hm : Holds .i64 w vm ms) (he : HE w ve l) :
    Calls Try.prog 25 #[.agg #[.int .i64 co, .int .i64 fo, .int .i64 ho, vm, ve]] w fun e w' => e = .returned (.int .i64 (dcode (ringC ⟨co, fo, ho, ms, l⟩))) ∧ Fr w w' [] := by
  have HM := Lib.hid hm
  obtain ⟨am, cm, rfl, hm1, hm2, hm3⟩ := hm
  obtain ⟨ae, ce, rfl, h1, h2, h3⟩ := he
  unfold maxLen at h2 hm2
  have HF0 := Lib.hid (Fr.alloc w (.cells #[.int .i64 co, .int .i64 fo, .int .i64 ho, .slice am ms.length cm, .slice ae l.length ce] 27) [])
  have HZ := Lib.hid (heap_alloc_new w (.cells #[.int .i64 co, .int .i64 fo, .int .i64 ho, .slice am ms.length cm, .slice ae l.length ce] 27))
  by_cases hEp : EpOk co fo
  rotate_left
  · have HC := Lib.hid (no hEp)
    have HR : Hid (ringC ⟨co, fo, ho, ms, l⟩ = 3) := ringC_head (fun h => hEp h.1)
    clear hEp h3 hm3
    go_enter Try.func25, Try.ntmps25
    go_wp2_with fail
    refine (repValid_any _ _ _ HC.out _).mono ?_
    rintro e w1 ⟨rfl, hf1⟩
    go_wp2
    go_ret
    exact ⟨by rw [HR.out]; rfl, HF0.out.trans hf1⟩
  have HC := Lib.hid (yes hEp)
  by_cases hH : 0 ≤ ho ∧ ho ≤ 1099511627776
  rotate_left
  · have HR : Hid (ringC ⟨co, fo, ho, ms, l⟩ = 3) := ringC_head (fun h => hH h.2)
    have hcH : ho < 0 ∨ (¬ ho < 0 ∧ 1099511627776 < ho) := by omega
    clear hEp hH h3 hm3
    rcases hcH with q1 | ⟨q1, q2⟩
    all_goals
      go_enter Try.func25, Try.ntmps25
      go_wp2_with fail
      refine (repValid_any _ _ _ HC.out _).mono ?_
      rintro e w1 ⟨rfl, hf1⟩
      have k1 := row5 (hf1.heap HZ.out (by simp))
      go_wp2
      go_ret
      exact ⟨by rw [HR.out]; rfl, HF0.out.trans hf1⟩
  have HHD := Lib.hid (show HeadOk ⟨co, fo, ho, ms, l⟩ from ⟨hEp, hH⟩)
  have q1 : ¬ ho < 0 := by omega
  have q2 : ¬ 1099511627776 < ho := by omega
  clear hEp hH
  by_cases hN : 16 < ms.length ∨ ms.length = 0 ∨ 128 < l.length
  · have HR : Hid (ringC ⟨co, fo, ho, ms, l⟩ = 4) := ringC_many HHD.out hN
    have hcN : ((ms.length : Int) == 0) = true ∨ (((ms.length : Int) == 0) = false ∧ 16 < (ms.length : Int)) ∨ (¬ 16 < (ms.length : Int) ∧ ((ms.length : Int) == 0) = false ∧ 128 < (l.length : Int)) := by
      by_cases q : ms.length = 0
      · left; simp [q]
      · by_cases q2 : 16 < ms.length
        · right; left; refine ⟨?_, by omega⟩; simp only [beq_eq_false_iff_ne]; omega
        · right; right; refine ⟨by omega, ?_, by omega⟩; simp only [beq_eq_false_iff_ne]; omega
    clear hN h3 hm3
    rcases hcN with q3 | ⟨q3, q4⟩ | ⟨q3, q4, q5⟩
    all_goals
      go_enter Try.func25, Try.ntmps25
      go_wp2_with fail
      refine (repValid_any _ _ _ HC.out _).mono ?_
      rintro e w1 ⟨rfl, hf1⟩
      have k1 := row5 (hf1.heap HZ.out (by simp))
      go_wp2
      go_ret
      exact ⟨by rw [HR.out]; rfl, HF0.out.trans hf1⟩
  have HNN := Lib.hid hN
  have q3 : ¬ 16 < (ms.length : Int) := by omega
  have q4 : ((ms.length : Int) == 0) = false := by simp only [beq_eq_false_iff_ne]; omega
  have q5 : ¬ 128 < (l.length : Int) := by omega
  clear hN
  go_enter Try.func25, Try.ntmps25
  go_wp2_with fail
  refine (repValid_any _ _ _ HC.out _).mono ?_
  rintro e w1 ⟨rfl, hf1⟩
  have k1 := row5 (hf1.heap HZ.out (by simp))
  have HFA := Lib.hid hf1
  clear hf1
  go_wp2
  clear k1 q1 q2 q4
  go_loopw [4] (fun i wr => ∃ k : Nat, k ≤ ms.length ∧ i = .int .i64 k ∧ (∀ m ∈ ms.take k, Car m) ∧ Fr (w.alloc (.cells #[.int .i64 co, .int .i64 fo, .int .i64 ho, .slice am ms.length cm, .slice ae l.length ce] 27)) wr []) (fun i _ => ms.length - (intOf i).toNat)
  case atStart => exact ⟨0, Nat.zero_le _, rfl, by simp, HFA.out⟩
  case round =>
    obtain ⟨k, hk, rfl, hno, hf⟩ := hrel
    have HN := Lib.hid hno
    have HFB := Lib.hid hf
    have k1 := row5 (hf.heap HZ.out (by simp))
    clear hno hf
    by_cases hlt : k < ms.length
    · obtain ⟨bm, om, rfl, hc⟩ := hm3 (by omega)
      have hcell := (HF0.out.trans HFB.out).cell (hc k hlt) (by simp)
      obtain ⟨y, hy⟩ : ∃ y, y = ms.getD k 0 := ⟨_, rfl⟩
      rw [← hy] at hcell
      have HY := Lib.hid hy
      clear hy hc hm3 h3
      by_cases hcar : Car y
      · have HC := Lib.hid (yes hcar)
        have HN2 := Lib.hid (all_step hlt HN.out (HY.out ▸ hcar))
        clear hcar
        go_wp2_with fail
        refine (rcar_any y _ HC.out _).mono ?_
        rintro e w1 ⟨rfl, rfl⟩
        go_wp2
        go_roundw
        case rel => exact ⟨k + 1, by omega, by go_num, HN2.out, HFB.out⟩
        case measure => simp [intOf]; omega
      · have HC := Lib.hid (no hcar)
        have HR : Hid (ringC ⟨co, fo, ho, ms, l⟩ = 3) := by
          have e3 : membC ms = 3 := by unfold membC; rw [if_pos (not_all hlt (HY.out ▸ hcar))]
          show _ = _
          rw [ringC_memb HHD.out HNN.out (by rw [e3]; decide), e3]
        clear hcar
        go_wp2_with fail
        refine (rcar_any y _ HC.out _).mono ?_
        rintro e w1 ⟨rfl, rfl⟩
        go_wp2
        go_ret
        exact ⟨by rw [HR.out]; rfl, HF0.out.trans HFB.out⟩
    obtain rfl : k = ms.length := by omega
    have HCARS : Hid (∀ m ∈ ms, Car m) := by have := HN.out; rw [List.take_length] at this; exact this
    go_wp2
    clear k1 HN
    go_loopw [5] (fun i wr => ∃ k : Nat, 1 ≤ k ∧ (k ≤ ms.length ∨ k = 1) ∧ i = .int .i64 k ∧ (∀ i, i + 1 < k → ms.getD i 0 < ms.getD (i + 1) 0) ∧ Fr (w.alloc (.cells #[.int .i64 co, .int .i64 fo, .int .i64 ho, .slice am ms.length cm, .slice ae l.length ce] 27)) wr []) (fun i _ => ms.length + 1 - (intOf i).toNat)
    case atStart => exact ⟨1, by omega, .inr rfl, rfl, fun i hi => by omega, HFB.out⟩
    case round =>
      clear HFB
      obtain ⟨k, hk1, hk, rfl, hno, hf⟩ := hrel
      have HN := Lib.hid hno
      have HFB := Lib.hid hf
      have HK := Lib.hid hk
      have k1 := row5 (hf.heap HZ.out (by simp))
      clear hno hk hf
      by_cases hlt : k < ms.length
      · obtain ⟨bm, om, rfl, hc⟩ := hm3 (by omega)
        have hcell := (HF0.out.trans HFB.out).cell (hc (k - 1) (by omega)) (by simp)
        have hcell2 := (HF0.out.trans HFB.out).cell (hc k hlt) (by simp)
        obtain ⟨y, hy⟩ : ∃ y, y = ms.getD (k - 1) 0 := ⟨_, rfl⟩
        obtain ⟨z, hz⟩ : ∃ z, z = ms.getD k 0 := ⟨_, rfl⟩
        rw [← hy] at hcell
        rw [← hz] at hcell2
        have HY := Lib.hid hy
        have HZZ := Lib.hid hz
        have hn0 : (0 : Int) ≤ (k : Int) - 1 := by omega
        have hn3 : (k : Int) - 1 < (ms.length : Int) := by omega
        have hn4 : (1 : Int) ≤ (k : Int) := by omega
        have hn1 : ((k : Int) - 1).toNat = k - 1 := by omega
        have hn2 : IntKind.i64.wrap ((k : Int) - 1) = (k : Int) - 1 := IntWalk.i64_in _ (by omega)
        clear hy hz hc h3 hm3
        by_cases hyz : z ≤ y
        · have HR : Hid (ringC ⟨co, fo, ho, ms, l⟩ = 11) := by
            have hr : ¬ Rise ms := by
              intro hr
              have := hr (k - 1) (by omega)
              rw [show k - 1 + 1 = k by omega, ← HY.out, ← HZZ.out] at this; omega
            have e3 : membC ms = 11 := by unfold membC; rw [if_neg (fun q => q HCARS.out), if_pos hr]
            show _ = _
            rw [ringC_memb HHD.out HNN.out (by rw [e3]; decide), e3]
          go_wp2
          go_quiet (fail)
          go_wp2
          go_ret
          exact ⟨by rw [HR.out]; rfl, (HF0.out.trans HFB.out).trans (Fr.drewN _ _ _)⟩
        · have HN2 := Lib.hid (rise_step hk1 HN.out (by rw [← HY.out, ← HZZ.out]; omega))
          go_wp2
          go_quiet (fail)
          clear hn1 hn2
          go_wp2
          go_roundw
          case rel => exact ⟨k + 1, by omega, .inl (by omega), by go_num, HN2.out, HFB.out.trans (Fr.drewN _ _ _)⟩
          case measure => simp [intOf]; omega
      have HME : Hid (membC ms = 0) := by
        have hr : Rise ms := by
          intro i hi
          exact HN.out i (by omega)
        show _ = _
        unfold membC; rw [if_neg (fun q => q HCARS.out), if_neg (fun q => q hr)]
      have HRE := Lib.hid (ringC_ents HHD.out HNN.out HME.out)
      go_wp2
      clear k1 HN HK
      go_loopw [6] (fun i wr => ∃ k : Nat, k ≤ l.length ∧ i = .int .i64 k ∧ entsC ms (prevE l k) (l.drop k) = entsC ms none l ∧ (∀ j, j < k → LatchOk (l.getD j zeroE)) ∧ Fr (w.alloc (.cells #[.int .i64 co, .int .i64 fo, .int .i64 ho, .slice am ms.length cm, .slice ae l.length ce] 27)) wr []) (fun i _ => l.length - (intOf i).toNat)
      case atStart => exact ⟨0, Nat.zero_le _, rfl, rfl, fun j hj => by omega, HFB.out⟩
      case round =>
        clear HFB hk1 hlt
        obtain ⟨k, hk, rfl, hrec, hall, hf⟩ := hrel
        have HRB := Lib.hid (hf.heap HZ.out (by simp))
        have HF := Lib.hid (HF0.out.trans hf)
        have HFB := Lib.hid hf
        have HALL := Lib.hid hall
        have k1 := row5 HRB.out
        clear hall hf
        by_cases hlt : k < l.length
        · obtain ⟨bl, off, rfl, hc⟩ := h3 (by omega)
          obtain ⟨u, x0, x1, x2, x3, x4, hb⟩ := hc k hlt
          have hat := entsC_at hlt hrec
          have HQ : 0 < k → ∃ q : En, q = l.getD (k - 1) zeroE ∧ LatchOk q ∧ w.cell? ⟨bl, off + (k - 1) * 5, none⟩ = some (.int .i64 q.fl) ∧ w.cell? ⟨bl, off + (k - 1) * 5 + 1, none⟩ = some (.int .i64 q.di) := fun h0 => by
            obtain ⟨u', q0, q1, _⟩ := hc (k - 1) (by omega)
            exact ⟨_, rfl, HALL.out (k - 1) (by omega), q0, q1⟩
          have HLS := Lib.hid (fun hk' => latch_step (k := k) HALL.out hk')
          obtain ⟨e, he⟩ : ∃ e, e = l.getD k zeroE := ⟨_, rfl⟩
          rw [← he] at x0 x1 x2 x4 hb hat HLS
          obtain ⟨z1, d1, rfl⟩ := hb.shape
          obtain ⟨e0, e1, e2, el, e4⟩ := e
          simp only at x0 x1 x2 x4 hb
          have HBD := Lib.hid hb
          have HAT := Lib.hid hat
          replace x0 := HF.out.cell x0 (by simp)
          replace x1 := HF.out.cell x1 (by simp)
          replace x2 := HF.out.cell x2 (by simp)
          replace x3 := HF.out.cell x3 (by simp)
          replace x4 := HF.out.cell x4 (by simp)
          have HBX := Lib.hid (two_boxes wr (.cells #[.int .i64 e0, .int .i64 e1, .int .i64 e2, .slice z1 el.length d1, .int .i64 e4] 40) (.cells #[.int .i64 e0, .int .i64 e1] 35))
          have HFX := Lib.hid ((Fr.alloc wr (.cells #[.int .i64 e0, .int .i64 e1, .int .i64 e2, .slice z1 el.length d1, .int .i64 e4] 40) []).trans (Fr.alloc _ (.cells #[.int .i64 e0, .int .i64 e1] 35) []))
          have HRX := Lib.hid (HFX.out.heap HRB.out (by simp))
          have HX1 := Lib.hid (show ((wr.alloc (.cells #[.int .i64 e0, .int .i64 e1, .int .i64 e2, .slice z1 el.length d1, .int .i64 e4] 40)).alloc (.cells #[.int .i64 e0, .int .i64 e1] 35)).heap[w.heap.size]? = _ from HRX.out)
          have j1 := row5 HRX.out
          clear hb hat hc h3 hm3 hrec he
          by_cases hL : 0 ≤ e0 ∧ e0 < 64 ∧ (e1 = 1 ∨ e1 = -1) ∧ 1 ≤ e2 ∧ e2 ≤ 2147483647
          rotate_left
          · have HR : Hid (entsC ms none l = 3) := by
              have e3 : entC ms (prevE l k) ⟨e0, e1, e2, el, e4⟩ = 3 := ent_latch (fun h => hL h.1)
              show _ = _
              rw [HAT.out.2 (by rw [e3]; decide), e3]
            have hcL : e0 < 0 ∨ (¬ e0 < 0 ∧ 64 ≤ e0) ∨ (¬ e0 < 0 ∧ ¬ 64 ≤ e0 ∧ (e1 != 1) = true ∧ (e1 != -1) = true) ∨ (¬ e0 < 0 ∧ ¬ 64 ≤ e0 ∧ ((e1 != 1) = false ∨ ((e1 != 1) = true ∧ (e1 != -1) = false)) ∧ (e2 < 1 ∨ (¬ e2 < 1 ∧ 2147483647 < e2))) := by
              simp only [bne_iff_ne, ne_eq, bne_eq_false_iff_eq]; omega
            clear hL HQ
            rcases hcL with t1 | ⟨t1, t2⟩ | ⟨t1, t2, t3, t4⟩ | ⟨t1, t2, t3 | ⟨t3, t4⟩, t5 | ⟨t5, t6⟩⟩
            all_goals
              go_wp2
              go_ret
              exact ⟨by rw [HRE.out, HR.out]; rfl, HF.out.trans HFX.out⟩
          have HLO := Lib.hid (show LatchOk ⟨e0, e1, e2, el, e4⟩ from hL)
          have t1 : ¬ e0 < 0 := by omega
          have t2 : ¬ 64 ≤ e0 := by omega
          have t5 : ¬ e2 < 1 := by omega
          have t6 : ¬ 2147483647 < e2 := by omega
          have hcD : (e1 != 1) = false ∨ ((e1 != 1) = true ∧ (e1 != -1) = false) := by simp only [bne_iff_ne, ne_eq, bne_eq_false_iff_eq]; omega
          clear hL
          by_cases hA : e4 = -1 ∨ e4 ∈ ms
          rotate_left
          · have hne : (e4 != -1) = true := by simp; intro q; exact hA (.inl q)
            have HD := Lib.hid (no (P := e4 ∈ ms) (fun q => hA (.inr q)))
            have HR : Hid (entsC ms none l = 3) := by
              have e3 : entC ms (prevE l k) ⟨e0, e1, e2, el, e4⟩ = 3 := ent_latch (fun h => hA h.2)
              show _ = _
              rw [HAT.out.2 (by rw [e3]; decide), e3]
            clear hA HQ
            rcases hcD with t3 | ⟨t3, t4⟩
            all_goals
              go_wp2_with fail
              refine (among_any _ ms e4 _ HD.out _ (HM.out.keep (HF.out.trans HFX.out))).mono ?_
              rintro e w2 ⟨rfl, rfl⟩
              go_wp2
              go_ret
              exact ⟨by rw [HRE.out, HR.out]; rfl, HF.out.trans HFX.out⟩
          have HAW := Lib.hid hA
          have hcA : (e4 != -1) = false ∨ ((e4 != -1) = true ∧ Hid (true = decide (e4 ∈ ms))) := by
            by_cases q : e4 = -1
            · exact .inl (by simp [q])
            · exact .inr ⟨by simpa using q, Lib.hid (yes (hA.resolve_left q))⟩
          clear hA
          have hcP : (k = 0) ∨ (0 < k) := by omega
          rcases hcP with hk0 | hk0
          · have HPZ := Lib.hid (show entC ms (prevE l k) ⟨e0, e1, e2, el, e4⟩ = bidsC ms el from ent_bids ⟨HLO.out, HAW.out⟩ (by rw [prev_zero hk0]; exact trivial))
            have hgt : decide (0 < k) = false := by simp; omega
            clear hk0 HQ
            rcases hcA with hne | ⟨hne, HD⟩ <;> rcases hcD with t3 | ⟨t3, t4⟩
            · go_wp2
              clear j1 k1 x0 x1 x2 x3 x4
              refine wp_region_det (S := fun a => Fr ((wr.alloc (.cells #[.int .i64 e0, .int .i64 e1, .int .i64 e2, .slice z1 el.length d1, .int .i64 e4] 40)).alloc (.cells #[.int .i64 e0, .int .i64 e1] 35)) a []) (by kernel_rfl) (Fr.drew _ _) ?_
              refine wpDet_take (i := 0) (oi := _) (v := ?dv1) (by simp only [List.getElem?_toArray, List.getElem?_cons_zero]; rfl) (by kernel_rfl) (by kernel_rfl) (by kernel_rfl) (Or.inl ⟨by rfl, ?dy1⟩) ?dr1
              case dy1 => (intro w hSw; have hS0 := hSw; (try dsimp only at hSw); go_simp; refine Came.value ?_ hS0; with_reducible rfl)
              try simp only [Act.put, List.setIfInBounds_toArray, List.set_cons_zero, List.set_cons_succ]
              refine wpDet_take (i := 1) (oi := _) (v := ?dv2) (by simp only [List.getElem?_toArray, List.getElem?_cons_zero, List.getElem?_cons_succ]; rfl) (by kernel_rfl) (by kernel_rfl) (by kernel_rfl) (Or.inl ⟨by rfl, ?dy2⟩) ?dr2
              case dy2 => (intro w hSw; have hS0 := hSw; (try dsimp only at hSw); go_simp; refine Came.value ?_ hS0; with_reducible rfl)
              try simp only [Act.put, List.setIfInBounds_toArray, List.set_cons_zero, List.set_cons_succ]
              refine wpDet_take (i := 2) (oi := _) (v := ?dv3) (by simp only [List.getElem?_toArray, List.getElem?_cons_zero, List.getElem?_cons_succ]; rfl) (by kernel_rfl) (by kernel_rfl) (by kernel_rfl) (Or.inl ⟨by rfl, ?dy3⟩) ?dr3
              case dy3 => (intro w hSw; have hS0 := hSw; (try dsimp only at hSw); go_simp; refine Came.value ?_ hS0; with_reducible rfl)
              try simp only [Act.put, List.setIfInBounds_toArray, List.set_cons_zero, List.set_cons_succ]
              refine wpDet_take (i := 3) (oi := _) (v := undef) (by simp only [List.getElem?_toArray, List.getElem?_cons_zero, List.getElem?_cons_succ]; rfl) (by kernel_rfl) (by kernel_rfl) (by kernel_rfl) (Or.inr ⟨by rfl, rfl⟩) ?_
              try simp only [Act.put, List.setIfInBounds_toArray, List.set_cons_zero, List.set_cons_succ]
              refine wpDet_take (i := 4) (oi := _) (v := undef) (by simp only [List.getElem?_toArray, List.getElem?_cons_zero, List.getElem?_cons_succ]; rfl) (by kernel_rfl) (by kernel_rfl) (by kernel_rfl) (Or.inr ⟨by rfl, rfl⟩) ?_
              try simp only [Act.put, List.setIfInBounds_toArray, List.set_cons_zero, List.set_cons_succ]
              refine wpDet_take (i := 5) (oi := _) (v := undef) (by simp only [List.getElem?_toArray, List.getElem?_cons_zero, List.getElem?_cons_succ]; rfl) (by kernel_rfl) (by kernel_rfl) (by kernel_rfl) (Or.inr ⟨by rfl, rfl⟩) ?_
              try simp only [Act.put, List.setIfInBounds_toArray, List.set_cons_zero, List.set_cons_succ]
              refine wpDet_take (i := 6) (oi := _) (v := undef) (by simp only [List.getElem?_toArray, List.getElem?_cons_zero, List.getElem?_cons_succ]; rfl) (by kernel_rfl) (by kernel_rfl) (by kernel_rfl) (Or.inr ⟨by rfl, rfl⟩) ?_
              try simp only [Act.put, List.setIfInBounds_toArray, List.set_cons_zero, List.set_cons_succ]
              refine wpDet_take (i := 7) (oi := _) (v := undef) (by simp only [List.getElem?_toArray, List.getElem?_cons_zero, List.getElem?_cons_succ]; rfl) (by kernel_rfl) (by kernel_rfl) (by kernel_rfl) (Or.inr ⟨by rfl, rfl⟩) ?_
              try simp only [Act.put, List.setIfInBounds_toArray, List.set_cons_zero, List.set_cons_succ]
              refine wpDet_take (i := 8) (oi := _) (v := undef) (by simp only [List.getElem?_toArray, List.getElem?_cons_zero, List.getElem?_cons_succ]; rfl) (by kernel_rfl) (by kernel_rfl) (by kernel_rfl) (Or.inr ⟨by rfl, rfl⟩) ?_
              try simp only [Act.put, List.setIfInBounds_toArray, List.set_cons_zero, List.set_cons_succ]
              refine wpDet_take (i := 9) (oi := _) (v := undef) (by simp only [List.getElem?_toArray, List.getElem?_cons_zero, List.getElem?_cons_succ]; rfl) (by kernel_rfl) (by kernel_rfl) (by kernel_rfl) (Or.inr ⟨by rfl, rfl⟩) ?_
              try simp only [Act.put, List.setIfInBounds_toArray, List.set_cons_zero, List.set_cons_succ]
              refine wpDet_take (i := 10) (oi := _) (v := undef) (by simp only [List.getElem?_toArray, List.getElem?_cons_zero, List.getElem?_cons_succ]; rfl) (by kernel_rfl) (by kernel_rfl) (by kernel_rfl) (Or.inr ⟨by rfl, rfl⟩) ?_
              try simp only [Act.put, List.setIfInBounds_toArray, List.set_cons_zero, List.set_cons_succ]
              refine wpDet_take (i := 11) (oi := _) (v := undef) (by simp only [List.getElem?_toArray, List.getElem?_cons_zero, List.getElem?_cons_succ]; rfl) (by kernel_rfl) (by kernel_rfl) (by kernel_rfl) (Or.inr ⟨by rfl, rfl⟩) ?_
              try simp only [Act.put, List.setIfInBounds_toArray, List.set_cons_zero, List.set_cons_succ]
              refine wpDet_take (i := 12) (oi := _) (v := undef) (by simp only [List.getElem?_toArray, List.getElem?_cons_zero, List.getElem?_cons_succ]; rfl) (by kernel_rfl) (by kernel_rfl) (by kernel_rfl) (Or.inr ⟨by rfl, rfl⟩) ?_
              try simp only [Act.put, List.setIfInBounds_toArray, List.set_cons_zero, List.set_cons_succ]
              refine wpDet_take (i := 13) (oi := _) (v := undef) (by simp only [List.getElem?_toArray, List.getElem?_cons_zero, List.getElem?_cons_succ]; rfl) (by kernel_rfl) (by kernel_rfl) (by kernel_rfl) (Or.inr ⟨by rfl, rfl⟩) ?_
              try simp only [Act.put, List.setIfInBounds_toArray, List.set_cons_zero, List.set_cons_succ]
              refine wpDet_take (i := 14) (oi := _) (v := ?dv15) (by simp only [List.getElem?_toArray, List.getElem?_cons_zero, List.getElem?_cons_succ]; rfl) (by kernel_rfl) (by kernel_rfl) (by kernel_rfl) (Or.inl ⟨by rfl, ?dy15⟩) ?dr15
              case dy15 => (intro w hSw; have hS0 := hSw; (try dsimp only at hSw); go_simp; refine Came.value ?_ hS0; with_reducible rfl)
              try simp only [Act.put, List.setIfInBounds_toArray, List.set_cons_zero, List.set_cons_succ]
              refine wpDet_done (by kernel_rfl) ?_ _
              intro w3 hf3
              have k1 := row5 (hf3.heap HRX.out (by simp))
              have k2 := row5 (hf3.heap HBX.out.1 (by simp))
              have HF3 := Lib.hid ((HF.out.trans HFX.out).trans hf3)
              have HG3 := Lib.hid (HFX.out.trans hf3)
              clear hf3
              go_wp2_with fail
              refine (rvalidBids_any _ el _ ms _ (HBD.out.keep HF3.out) (HM.out.keep HF3.out)).mono ?_
              rintro e w4 ⟨rfl, hf4⟩
              by_cases hz : bidsC ms el = 0
              · have HN := Lib.hid (HAT.out.1 (HPZ.out.trans hz))
                rw [hz, show dcode 0 = 0 from rfl]
                clear hz
                go_wp2
                go_roundw
                case rel => exact ⟨k + 1, by omega, by go_num, HN.out, HLS.out HLO.out, (HFB.out.trans HG3.out).trans hf4⟩
                case measure => simp [intOf]; omega
              · have HR : Hid (entsC ms none l = bidsC ms el) := by show _ = _; rw [HAT.out.2 (by rw [HPZ.out]; exact hz), HPZ.out]
                have hnz := dcode_ne hz
                obtain ⟨D, hD⟩ : ∃ D, D = dcode (bidsC ms el) := ⟨_, rfl⟩
                rw [← hD] at hnz ⊢
                have HD2 := Lib.hid hD
                clear hz hD
                go_wp2
                go_ret
                exact ⟨by rw [HRE.out, HR.out, ← HD2.out]; rfl, HF3.out.trans hf4⟩
            · go_wp2
              clear j1 k1 x0 x1 x2 x3 x4
              refine wp_region_det (S := fun a => Fr ((wr.alloc (.cells #[.int .i64 e0, .int .i64 e1, .int .i64 e2, .slice z1 el.length d1, .int .i64 e4] 40)).alloc (.cells #[.int .i64 e0, .int .i64 e1] 35)) a []) (by kernel_rfl) (Fr.drew _ _) ?_
              refine wpDet_take (i := 0) (oi := _) (v := ?dv16) (by simp only [List.getElem?_toArray, List.getElem?_cons_zero]; rfl) (by kernel_rfl) (by kernel_rfl) (by kernel_rfl) (Or.inl ⟨by rfl, ?dy16⟩) ?dr16
              case dy16 => (intro w hSw; have hS0 := hSw; (try dsimp only at hSw); go_simp; refine Came.value ?_ hS0; with_reducible rfl)
              try simp only [Act.put, List.setIfInBounds_toArray, List.set_cons_zero, List.set_cons_succ]
              refine wpDet_take (i := 1) (oi := _) (v := ?dv17) (by simp only [List.getElem?_toArray, List.getElem?_cons_zero, List.getElem?_cons_succ]; rfl) (by kernel_rfl) (by kernel_rfl) (by kernel_rfl) (Or.inl ⟨by rfl, ?dy17⟩) ?dr17
              case dy17 => (intro w hSw; have hS0 := hSw; (try dsimp only at hSw); go_simp; refine Came.value ?_ hS0; with_reducible rfl)
              try simp only [Act.put, List.setIfInBounds_toArray, List.set_cons_zero, List.set_cons_succ]
              refine wpDet_take (i := 2) (oi := _) (v := ?dv18) (by simp only [List.getElem?_toArray, List.getElem?_cons_zero, List.getElem?_cons_succ]; rfl) (by kernel_rfl) (by kernel_rfl) (by kernel_rfl) (Or.inl ⟨by rfl, ?dy18⟩) ?dr18
              case dy18 => (intro w hSw; have hS0 := hSw; (try dsimp only at hSw); go_simp; refine Came.value ?_ hS0; with_reducible rfl)
              try simp only [Act.put, List.setIfInBounds_toArray, List.set_cons_zero, List.set_cons_succ]
              refine wpDet_take (i := 3) (oi := _) (v := undef) (by simp only [List.getElem?_toArray, List.getElem?_cons_zero, List.getElem?_cons_succ]; rfl) (by kernel_rfl) (by kernel_rfl) (by kernel_rfl) (Or.inr ⟨by rfl, rfl⟩) ?_
              try simp only [Act.put, List.setIfInBounds_toArray, List.set_cons_zero, List.set_cons_succ]
              refine wpDet_take (i := 4) (oi := _) (v := undef) (by simp only [List.getElem?_toArray, List.getElem?_cons_zero, List.getElem?_cons_succ]; rfl) (by kernel_rfl) (by kernel_rfl) (by kernel_rfl) (Or.inr ⟨by rfl, rfl⟩) ?_
              try simp only [Act.put, List.setIfInBounds_toArray, List.set_cons_zero, List.set_cons_succ]
              refine wpDet_take (i := 5) (oi := _) (v := undef) (by simp only [List.getElem?_toArray, List.getElem?_cons_zero, List.getElem?_cons_succ]; rfl) (by kernel_rfl) (by kernel_rfl) (by kernel_rfl) (Or.inr ⟨by rfl, rfl⟩) ?_
              try simp only [Act.put, List.setIfInBounds_toArray, List.set_cons_zero, List.set_cons_succ]
              refine wpDet_take (i := 6) (oi := _) (v := undef) (by simp only [List.getElem?_toArray, List.getElem?_cons_zero, List.getElem?_cons_succ]; rfl) (by kernel_rfl) (by kernel_rfl) (by kernel_rfl) (Or.inr ⟨by rfl, rfl⟩) ?_
              try simp only [Act.put, List.setIfInBounds_toArray, List.set_cons_zero, List.set_cons_succ]
              refine wpDet_take (i := 7) (oi := _) (v := undef) (by simp only [List.getElem?_toArray, List.getElem?_cons_zero, List.getElem?_cons_succ]; rfl) (by kernel_rfl) (by kernel_rfl) (by kernel_rfl) (Or.inr ⟨by rfl, rfl⟩) ?_
              try simp only [Act.put, List.setIfInBounds_toArray, List.set_cons_zero, List.set_cons_succ]
              refine wpDet_take (i := 8) (oi := _) (v := undef) (by simp only [List.getElem?_toArray, List.getElem?_cons_zero, List.getElem?_cons_succ]; rfl) (by kernel_rfl) (by kernel_rfl) (by kernel_rfl) (Or.inr ⟨by rfl, rfl⟩) ?_
              try simp only [Act.put, List.setIfInBounds_toArray, List.set_cons_zero, List.set_cons_succ]
              refine wpDet_take (i := 9) (oi := _) (v := undef) (by simp only [List.getElem?_toArray, List.getElem?_cons_zero, List.getElem?_cons_succ]; rfl) (by kernel_rfl) (by kernel_rfl) (by kernel_rfl) (Or.inr ⟨by rfl, rfl⟩) ?_
              try simp only [Act.put, List.setIfInBounds_toArray, List.set_cons_zero, List.set_cons_succ]
              refine wpDet_take (i := 10) (oi := _) (v := undef) (by simp only [List.getElem?_toArray, List.getElem?_cons_zero, List.getElem?_cons_succ]; rfl) (by kernel_rfl) (by kernel_rfl) (by kernel_rfl) (Or.inr ⟨by rfl, rfl⟩) ?_
              try simp only [Act.put, List.setIfInBounds_toArray, List.set_cons_zero, List.set_cons_succ]
              refine wpDet_take (i := 11) (oi := _) (v := undef) (by simp only [List.getElem?_toArray, List.getElem?_cons_zero, List.getElem?_cons_succ]; rfl) (by kernel_rfl) (by kernel_rfl) (by kernel_rfl) (Or.inr ⟨by rfl, rfl⟩) ?_
              try simp only [Act.put, List.setIfInBounds_toArray, List.set_cons_zero, List.set_cons_succ]
              refine wpDet_take (i := 12) (oi := _) (v := undef) (by simp only [List.getElem?_toArray, List.getElem?_cons_zero, List.getElem?_cons_succ]; rfl) (by kernel_rfl) (by kernel_rfl) (by kernel_rfl) (Or.inr ⟨by rfl, rfl⟩) ?_
              try simp only [Act.put, List.setIfInBounds_toArray, List.set_cons_zero, List.set_cons_succ]
              refine wpDet_take (i := 13) (oi := _) (v := undef) (by simp only [List.getElem?_toArray, List.getElem?_cons_zero, List.getElem?_cons_succ]; rfl) (by kernel_rfl) (by kernel_rfl) (by kernel_rfl) (Or.inr ⟨by rfl, rfl⟩) ?_
              try simp only [Act.put, List.setIfInBounds_toArray, List.set_cons_zero, List.set_cons_succ]
              refine wpDet_take (i := 14) (oi := _) (v := ?dv30) (by simp only [List.getElem?_toArray, List.getElem?_cons_zero, List.getElem?_cons_succ]; rfl) (by kernel_rfl) (by kernel_rfl) (by kernel_rfl) (Or.inl ⟨by rfl, ?dy30⟩) ?dr30
              case dy30 => (intro w hSw; have hS0 := hSw; (try dsimp only at hSw); go_simp; refine Came.value ?_ hS0; with_reducible rfl)
              try simp only [Act.put, List.setIfInBounds_toArray, List.set_cons_zero, List.set_cons_succ]
              refine wpDet_done (by kernel_rfl) ?_ _
              intro w3 hf3
              have k1 := row5 (hf3.heap HRX.out (by simp))
              have k2 := row5 (hf3.heap HBX.out.1 (by simp))
              have HF3 := Lib.hid ((HF.out.trans HFX.out).trans hf3)
              have HG3 := Lib.hid (HFX.out.trans hf3)
              clear hf3
              go_wp2_with fail
              refine (rvalidBids_any _ el _ ms _ (HBD.out.keep HF3.out) (HM.out.keep HF3.out)).mono ?_
              rintro e w4 ⟨rfl, hf4⟩
              by_cases hz : bidsC ms el = 0
              · have HN := Lib.hid (HAT.out.1 (HPZ.out.trans hz))
                rw [hz, show dcode 0 = 0 from rfl]
                clear hz
                go_wp2
                go_roundw
                case rel => exact ⟨k + 1, by omega, by go_num, HN.out, HLS.out HLO.out, (HFB.out.trans HG3.out).trans hf4⟩
                case measure => simp [intOf]; omega
              · have HR : Hid (entsC ms none l = bidsC ms el) := by show _ = _; rw [HAT.out.2 (by rw [HPZ.out]; exact hz), HPZ.out]
                have hnz := dcode_ne hz
                obtain ⟨D, hD⟩ : ∃ D, D = dcode (bidsC ms el) := ⟨_, rfl⟩
                rw [← hD] at hnz ⊢
                have HD2 := Lib.hid hD
                clear hz hD
                go_wp2
                go_ret
                exact ⟨by rw [HRE.out, HR.out, ← HD2.out]; rfl, HF3.out.trans hf4⟩
            · go_wp2_with fail
              refine (among_any _ ms e4 _ HD.out _ (HM.out.keep (HF.out.trans HFX.out))).mono ?_
              rintro e w2 ⟨rfl, rfl⟩
              go_wp2
              clear j1 k1 x0 x1 x2 x3 x4
              refine wp_region_det (S := fun a => Fr ((wr.alloc (.cells #[.int .i64 e0, .int .i64 e1, .int .i64 e2, .slice z1 el.length d1, .int .i64 e4] 40)).alloc (.cells #[.int .i64 e0, .int .i64 e1] 35)) a []) (by kernel_rfl) (Fr.drew _ _) ?_
              refine wpDet_take (i := 0) (oi := _) (v := ?dv31) (by simp only [List.getElem?_toArray, List.getElem?_cons_zero]; rfl) (by kernel_rfl) (by kernel_rfl) (by kernel_rfl) (Or.inl ⟨by rfl, ?dy31⟩) ?dr31
              case dy31 => (intro w hSw; have hS0 := hSw; (try dsimp only at hSw); go_simp; refine Came.value ?_ hS0; with_reducible rfl)
              try simp only [Act.put, List.setIfInBounds_toArray, List.set_cons_zero, List.set_cons_succ]
              refine wpDet_take (i := 1) (oi := _) (v := ?dv32) (by simp only [List.getElem?_toArray, List.getElem?_cons_zero, List.getElem?_cons_succ]; rfl) (by kernel_rfl) (by kernel_rfl) (by kernel_rfl) (Or.inl ⟨by rfl, ?dy32⟩) ?dr32
              case dy32 => (intro w hSw; have hS0 := hSw; (try dsimp only at hSw); go_simp; refine Came.value ?_ hS0; with_reducible rfl)
              try simp only [Act.put, List.setIfInBounds_toArray, List.set_cons_zero, List.set_cons_succ]
              refine wpDet_take (i := 2) (oi := _) (v := ?dv33) (by simp only [List.getElem?_toArray, List.getElem?_cons_zero, List.getElem?_cons_succ]; rfl) (by kernel_rfl) (by kernel_rfl) (by kernel_rfl) (Or.inl ⟨by rfl, ?dy33⟩) ?dr33
              case dy33 => (intro w hSw; have hS0 := hSw; (try dsimp only at hSw); go_simp; refine Came.value ?_ hS0; with_reducible rfl)
              try simp only [Act.put, List.setIfInBounds_toArray, List.set_cons_zero, List.set_cons_succ]
              refine wpDet_take (i := 3) (oi := _) (v := undef) (by simp only [List.getElem?_toArray, List.getElem?_cons_zero, List.getElem?_cons_succ]; rfl) (by kernel_rfl) (by kernel_rfl) (by kernel_rfl) (Or.inr ⟨by rfl, rfl⟩) ?_
              try simp only [Act.put, List.setIfInBounds_toArray, List.set_cons_zero, List.set_cons_succ]
              refine wpDet_take (i := 4) (oi := _) (v := undef) (by simp only [List.getElem?_toArray, List.getElem?_cons_zero, List.getElem?_cons_succ]; rfl) (by kernel_rfl) (by kernel_rfl) (by kernel_rfl) (Or.inr ⟨by rfl, rfl⟩) ?_
              try simp only [Act.put, List.setIfInBounds_toArray, List.set_cons_zero, List.set_cons_succ]
              refine wpDet_take (i := 5) (oi := _) (v := undef) (by simp only [List.getElem?_toArray, List.getElem?_cons_zero, List.getElem?_cons_succ]; rfl) (by kernel_rfl) (by kernel_rfl) (by kernel_rfl) (Or.inr ⟨by rfl, rfl⟩) ?_
              try simp only [Act.put, List.setIfInBounds_toArray, List.set_cons_zero, List.set_cons_succ]
              refine wpDet_take (i := 6) (oi := _) (v := undef) (by simp only [List.getElem?_toArray, List.getElem?_cons_zero, List.getElem?_cons_succ]; rfl) (by kernel_rfl) (by kernel_rfl) (by kernel_rfl) (Or.inr ⟨by rfl, rfl⟩) ?_
              try simp only [Act.put, List.setIfInBounds_toArray, List.set_cons_zero, List.set_cons_succ]
              refine wpDet_take (i := 7) (oi := _) (v := undef) (by simp only [List.getElem?_toArray, List.getElem?_cons_zero, List.getElem?_cons_succ]; rfl) (by kernel_rfl) (by kernel_rfl) (by kernel_rfl) (Or.inr ⟨by rfl, rfl⟩) ?_
              try simp only [Act.put, List.setIfInBounds_toArray, List.set_cons_zero, List.set_cons_succ]
              refine wpDet_take (i := 8) (oi := _) (v := undef) (by simp only [List.getElem?_toArray, List.getElem?_cons_zero, List.getElem?_cons_succ]; rfl) (by kernel_rfl) (by kernel_rfl) (by kernel_rfl) (Or.inr ⟨by rfl, rfl⟩) ?_
              try simp only [Act.put, List.setIfInBounds_toArray, List.set_cons_zero, List.set_cons_succ]
              refine wpDet_take (i := 9) (oi := _) (v := undef) (by simp only [List.getElem?_toArray, List.getElem?_cons_zero, List.getElem?_cons_succ]; rfl) (by kernel_rfl) (by kernel_rfl) (by kernel_rfl) (Or.inr ⟨by rfl, rfl⟩) ?_
              try simp only [Act.put, List.setIfInBounds_toArray, List.set_cons_zero, List.set_cons_succ]
              refine wpDet_take (i := 10) (oi := _) (v := undef) (by simp only [List.getElem?_toArray, List.getElem?_cons_zero, List.getElem?_cons_succ]; rfl) (by kernel_rfl) (by kernel_rfl) (by kernel_rfl) (Or.inr ⟨by rfl, rfl⟩) ?_
              try simp only [Act.put, List.setIfInBounds_toArray, List.set_cons_zero, List.set_cons_succ]
              refine wpDet_take (i := 11) (oi := _) (v := undef) (by simp only [List.getElem?_toArray, List.getElem?_cons_zero, List.getElem?_cons_succ]; rfl) (by kernel_rfl) (by kernel_rfl) (by kernel_rfl) (Or.inr ⟨by rfl, rfl⟩) ?_
              try simp only [Act.put, List.setIfInBounds_toArray, List.set_cons_zero, List.set_cons_succ]
              refine wpDet_take (i := 12) (oi := _) (v := undef) (by simp only [List.getElem?_toArray, List.getElem?_cons_zero, List.getElem?_cons_succ]; rfl) (by kernel_rfl) (by kernel_rfl) (by kernel_rfl) (Or.inr ⟨by rfl, rfl⟩) ?_
              try simp only [Act.put, List.setIfInBounds_toArray, List.set_cons_zero, List.set_cons_succ]
              refine wpDet_take (i := 13) (oi := _) (v := undef) (by simp only [List.getElem?_toArray, List.getElem?_cons_zero, List.getElem?_cons_succ]; rfl) (by kernel_rfl) (by kernel_rfl) (by kernel_rfl) (Or.inr ⟨by rfl, rfl⟩) ?_
              try simp only [Act.put, List.setIfInBounds_toArray, List.set_cons_zero, List.set_cons_succ]
              refine wpDet_take (i := 14) (oi := _) (v := ?dv45) (by simp only [List.getElem?_toArray, List.getElem?_cons_zero, List.getElem?_cons_succ]; rfl) (by kernel_rfl) (by kernel_rfl) (by kernel_rfl) (Or.inl ⟨by rfl, ?dy45⟩) ?dr45
              case dy45 => (intro w hSw; have hS0 := hSw; (try dsimp only at hSw); go_simp; refine Came.value ?_ hS0; with_reducible rfl)
              try simp only [Act.put, List.setIfInBounds_toArray, List.set_cons_zero, List.set_cons_succ]
              refine wpDet_done (by kernel_rfl) ?_ _
              intro w3 hf3
              have k1 := row5 (hf3.heap HRX.out (by simp))
              have k2 := row5 (hf3.heap HBX.out.1 (by simp))
              have HF3 := Lib.hid ((HF.out.trans HFX.out).trans hf3)
              have HG3 := Lib.hid (HFX.out.trans hf3)
              clear hf3
              go_wp2_with fail
              refine (rvalidBids_any _ el _ ms _ (HBD.out.keep HF3.out) (HM.out.keep HF3.out)).mono ?_
              rintro e w4 ⟨rfl, hf4⟩
              by_cases hz : bidsC ms el = 0
              · have HN := Lib.hid (HAT.out.1 (HPZ.out.trans hz))
                rw [hz, show dcode 0 = 0 from rfl]
                clear hz
                go_wp2
                go_roundw
                case rel => exact ⟨k + 1, by omega, by go_num, HN.out, HLS.out HLO.out, (HFB.out.trans HG3.out).trans hf4⟩
                case measure => simp [intOf]; omega
              · have HR : Hid (entsC ms none l = bidsC ms el) := by show _ = _; rw [HAT.out.2 (by rw [HPZ.out]; exact hz), HPZ.out]
                have hnz := dcode_ne hz
                obtain ⟨D, hD⟩ : ∃ D, D = dcode (bidsC ms el) := ⟨_, rfl⟩
                rw [← hD] at hnz ⊢
                have HD2 := Lib.hid hD
                clear hz hD
                go_wp2
                go_ret
                exact ⟨by rw [HRE.out, HR.out, ← HD2.out]; rfl, HF3.out.trans hf4⟩
            · go_wp2_with fail
              refine (among_any _ ms e4 _ HD.out _ (HM.out.keep (HF.out.trans HFX.out))).mono ?_
              rintro e w2 ⟨rfl, rfl⟩
              go_wp2
              clear j1 k1 x0 x1 x2 x3 x4
              refine wp_region_det (S := fun a => Fr ((wr.alloc (.cells #[.int .i64 e0, .int .i64 e1, .int .i64 e2, .slice z1 el.length d1, .int .i64 e4] 40)).alloc (.cells #[.int .i64 e0, .int .i64 e1] 35)) a []) (by kernel_rfl) (Fr.drew _ _) ?_
              refine wpDet_take (i := 0) (oi := _) (v := ?dv46) (by simp only [List.getElem?_toArray, List.getElem?_cons_zero]; rfl) (by kernel_rfl) (by kernel_rfl) (by kernel_rfl) (Or.inl ⟨by rfl, ?dy46⟩) ?dr46
              case dy46 => (intro w hSw; have hS0 := hSw; (try dsimp only at hSw); go_simp; refine Came.value ?_ hS0; with_reducible rfl)
              try simp only [Act.put, List.setIfInBounds_toArray, List.set_cons_zero, List.set_cons_succ]
              refine wpDet_take (i := 1) (oi := _) (v := ?dv47) (by simp only [List.getElem?_toArray, List.getElem?_cons_zero, List.getElem?_cons_succ]; rfl) (by kernel_rfl) (by kernel_rfl) (by kernel_rfl) (Or.inl ⟨by rfl, ?dy47⟩) ?dr47
              case dy47 => (intro w hSw; have hS0 := hSw; (try dsimp only at hSw); go_simp; refine Came.value ?_ hS0; with_reducible rfl)
              try simp only [Act.put, List.setIfInBounds_toArray, List.set_cons_zero, List.set_cons_succ]
              refine wpDet_take (i := 2) (oi := _) (v := ?dv48) (by simp only [List.getElem?_toArray, List.getElem?_cons_zero, List.getElem?_cons_succ]; rfl) (by kernel_rfl) (by kernel_rfl) (by kernel_rfl) (Or.inl ⟨by rfl, ?dy48⟩) ?dr48
              case dy48 => (intro w hSw; have hS0 := hSw; (try dsimp only at hSw); go_simp; refine Came.value ?_ hS0; with_reducible rfl)
              try simp only [Act.put, List.setIfInBounds_toArray, List.set_cons_zero, List.set_cons_succ]
              refine wpDet_take (i := 3) (oi := _) (v := undef) (by simp only [List.getElem?_toArray, List.getElem?_cons_zero, List.getElem?_cons_succ]; rfl) (by kernel_rfl) (by kernel_rfl) (by kernel_rfl) (Or.inr ⟨by rfl, rfl⟩) ?_
              try simp only [Act.put, List.setIfInBounds_toArray, List.set_cons_zero, List.set_cons_succ]
              refine wpDet_take (i := 4) (oi := _) (v := undef) (by simp only [List.getElem?_toArray, List.getElem?_cons_zero, List.getElem?_cons_succ]; rfl) (by kernel_rfl) (by kernel_rfl) (by kernel_rfl) (Or.inr ⟨by rfl, rfl⟩) ?_
              try simp only [Act.put, List.setIfInBounds_toArray, List.set_cons_zero, List.set_cons_succ]
              refine wpDet_take (i := 5) (oi := _) (v := undef) (by simp only [List.getElem?_toArray, List.getElem?_cons_zero, List.getElem?_cons_succ]; rfl) (by kernel_rfl) (by kernel_rfl) (by kernel_rfl) (Or.inr ⟨by rfl, rfl⟩) ?_
              try simp only [Act.put, List.setIfInBounds_toArray, List.set_cons_zero, List.set_cons_succ]
              refine wpDet_take (i := 6) (oi := _) (v := undef) (by simp only [List.getElem?_toArray, List.getElem?_cons_zero, List.getElem?_cons_succ]; rfl) (by kernel_rfl) (by kernel_rfl) (by kernel_rfl) (Or.inr ⟨by rfl, rfl⟩) ?_
              try simp only [Act.put, List.setIfInBounds_toArray, List.set_cons_zero, List.set_cons_succ]
              refine wpDet_take (i := 7) (oi := _) (v := undef) (by simp only [List.getElem?_toArray, List.getElem?_cons_zero, List.getElem?_cons_succ]; rfl) (by kernel_rfl) (by kernel_rfl) (by kernel_rfl) (Or.inr ⟨by rfl, rfl⟩) ?_
              try simp only [Act.put, List.setIfInBounds_toArray, List.set_cons_zero, List.set_cons_succ]
              refine wpDet_take (i := 8) (oi := _) (v := undef) (by simp only [List.getElem?_toArray, List.getElem?_cons_zero, List.getElem?_cons_succ]; rfl) (by kernel_rfl) (by kernel_rfl) (by kernel_rfl) (Or.inr ⟨by rfl, rfl⟩) ?_
              try simp only [Act.put, List.setIfInBounds_toArray, List.set_cons_zero, List.set_cons_succ]
              refine wpDet_take (i := 9) (oi := _) (v := undef) (by simp only [List.getElem?_toArray, List.getElem?_cons_zero, List.getElem?_cons_succ]; rfl) (by kernel_rfl) (by kernel_rfl) (by kernel_rfl) (Or.inr ⟨by rfl, rfl⟩) ?_
              try simp only [Act.put, List.setIfInBounds_toArray, List.set_cons_zero, List.set_cons_succ]
              refine wpDet_take (i := 10) (oi := _) (v := undef) (by simp only [List.getElem?_toArray, List.getElem?_cons_zero, List.getElem?_cons_succ]; rfl) (by kernel_rfl) (by kernel_rfl) (by kernel_rfl) (Or.inr ⟨by rfl, rfl⟩) ?_
              try simp only [Act.put, List.setIfInBounds_toArray, List.set_cons_zero, List.set_cons_succ]
              refine wpDet_take (i := 11) (oi := _) (v := undef) (by simp only [List.getElem?_toArray, List.getElem?_cons_zero, List.getElem?_cons_succ]; rfl) (by kernel_rfl) (by kernel_rfl) (by kernel_rfl) (Or.inr ⟨by rfl, rfl⟩) ?_
              try simp only [Act.put, List.setIfInBounds_toArray, List.set_cons_zero, List.set_cons_succ]
              refine wpDet_take (i := 12) (oi := _) (v := undef) (by simp only [List.getElem?_toArray, List.getElem?_cons_zero, List.getElem?_cons_succ]; rfl) (by kernel_rfl) (by kernel_rfl) (by kernel_rfl) (Or.inr ⟨by rfl, rfl⟩) ?_
              try simp only [Act.put, List.setIfInBounds_toArray, List.set_cons_zero, List.set_cons_succ]
              refine wpDet_take (i := 13) (oi := _) (v := undef) (by simp only [List.getElem?_toArray, List.getElem?_cons_zero, List.getElem?_cons_succ]; rfl) (by kernel_rfl) (by kernel_rfl) (by kernel_rfl) (Or.inr ⟨by rfl, rfl⟩) ?_
              try simp only [Act.put, List.setIfInBounds_toArray, List.set_cons_zero, List.set_cons_succ]
              refine wpDet_take (i := 14) (oi := _) (v := ?dv60) (by simp only [List.getElem?_toArray, List.getElem?_cons_zero, List.getElem?_cons_succ]; rfl) (by kernel_rfl) (by kernel_rfl) (by kernel_rfl) (Or.inl ⟨by rfl, ?dy60⟩) ?dr60
              case dy60 => (intro w hSw; have hS0 := hSw; (try dsimp only at hSw); go_simp; refine Came.value ?_ hS0; with_reducible rfl)
              try simp only [Act.put, List.setIfInBounds_toArray, List.set_cons_zero, List.set_cons_succ]
              refine wpDet_done (by kernel_rfl) ?_ _
              intro w3 hf3
              have k1 := row5 (hf3.heap HRX.out (by simp))
              have k2 := row5 (hf3.heap HBX.out.1 (by simp))
              have HF3 := Lib.hid ((HF.out.trans HFX.out).trans hf3)
              have HG3 := Lib.hid (HFX.out.trans hf3)
              clear hf3
              go_wp2_with fail
              refine (rvalidBids_any _ el _ ms _ (HBD.out.keep HF3.out) (HM.out.keep HF3.out)).mono ?_
              rintro e w4 ⟨rfl, hf4⟩
              by_cases hz : bidsC ms el = 0
              · have HN := Lib.hid (HAT.out.1 (HPZ.out.trans hz))
                rw [hz, show dcode 0 = 0 from rfl]
                clear hz
                go_wp2
                go_roundw
                case rel => exact ⟨k + 1, by omega, by go_num, HN.out, HLS.out HLO.out, (HFB.out.trans HG3.out).trans hf4⟩
                case measure => simp [intOf]; omega
              · have HR : Hid (entsC ms none l = bidsC ms el) := by show _ = _; rw [HAT.out.2 (by rw [HPZ.out]; exact hz), HPZ.out]
                have hnz := dcode_ne hz
                obtain ⟨D, hD⟩ : ∃ D, D = dcode (bidsC ms el) := ⟨_, rfl⟩
                rw [← hD] at hnz ⊢
                have HD2 := Lib.hid hD
                clear hz hD
                go_wp2
                go_ret
                exact ⟨by rw [HRE.out, HR.out, ← HD2.out]; rfl, HF3.out.trans hf4⟩
          · obtain ⟨q, hq, hql, q0, q1⟩ := HQ hk0
            replace q0 := HF.out.cell q0 (by simp)
            replace q1 := HF.out.cell q1 (by simp)
            obtain ⟨qf, qd, qg, qb, qa⟩ := q
            simp only at q0 q1
            have HQ0 := Lib.hid q0
            have HQ1 := Lib.hid q1
            have HPP := Lib.hid ((prev_pos hk0).trans (congrArg some hq.symm))
            have hgt : decide (0 < k) = true := by simp; omega
            have hn4 : (1 : Int) ≤ (k : Int) := by omega
            clear q0 q1 hq hql HQ hk0
            by_cases hles : Less ⟨qf, qd, qg, qb, qa⟩ ⟨e0, e1, e2, el, e4⟩
            · have HA := Lib.hid (yes ((lt_iff_less _ _).2 hles))
              have HPZ := Lib.hid (show entC ms (prevE l k) ⟨e0, e1, e2, el, e4⟩ = bidsC ms el from ent_bids ⟨HLO.out, HAW.out⟩ (by rw [HPP.out]; exact hles))
              clear hles
              rcases hcA with hne | ⟨hne, HD⟩ <;> rcases hcD with t3 | ⟨t3, t4⟩
              · go_wp2
                clear j1 k1 x0 x1 x2 x3 x4
                have hn0 : (0 : Int) ≤ (k : Int) - 1 := by omega
                have hn3 : (k : Int) - 1 < (l.length : Int) := by omega
                have hn1 : ((k : Int) - 1).toNat = k - 1 := by omega
                have hn2 : IntKind.i64.wrap ((k : Int) - 1) = (k : Int) - 1 := IntWalk.i64_in _ (by omega)
                have k1 := row5 HRX.out
                have k2 := row2 HBX.out.2
                refine wp_region_det (S := AheadS ((wr.alloc (.cells #[.int .i64 e0, .int .i64 e1, .int .i64 e2, .slice z1 el.length d1, .int .i64 e4] 40)).alloc (.cells #[.int .i64 e0, .int .i64 e1] 35)) w.heap.size (.slice (some ⟨bl, off, none⟩) l.length ce) bl (off + (k - 1) * 5) qf qd (wr.heap.size + 1) e0 e1) (by kernel_rfl) (AheadS.keep ⟨Fr.refl _ _, k1.2.2.2.2, HFX.out.cell HQ0.out (by simp), HFX.out.cell HQ1.out (by simp), k2.1, k2.2⟩ (Fr.drew _ _)) ?_
                clear k1 k2
                refine wpDet_take (i := 0) (oi := _) (v := ?dv61) (by simp only [List.getElem?_toArray, List.getElem?_cons_zero]; rfl) (by kernel_rfl) (by kernel_rfl) (by kernel_rfl) (Or.inl ⟨by rfl, ?dy61⟩) ?dr61
                case dy61 => (intro w hSw; have hS0 := hSw; (try dsimp only [AheadS] at hSw); go_simp; refine Came.value ?_ hS0; with_reducible rfl)
                try simp only [Act.put, List.setIfInBounds_toArray, List.set_cons_zero, List.set_cons_succ]
                refine wpDet_take (i := 1) (oi := _) (v := ?dv62) (by simp only [List.getElem?_toArray, List.getElem?_cons_zero, List.getElem?_cons_succ]; rfl) (by kernel_rfl) (by kernel_rfl) (by kernel_rfl) (Or.inl ⟨by rfl, ?dy62⟩) ?dr62
                case dy62 => (intro w hSw; have hS0 := hSw; (try dsimp only [AheadS] at hSw); go_simp; refine Came.value ?_ hS0; with_reducible rfl)
                try simp only [Act.put, List.setIfInBounds_toArray, List.set_cons_zero, List.set_cons_succ]
                refine wpDet_take (i := 2) (oi := _) (v := ?dv63) (by simp only [List.getElem?_toArray, List.getElem?_cons_zero, List.getElem?_cons_succ]; rfl) (by kernel_rfl) (by kernel_rfl) (by kernel_rfl) (Or.inl ⟨by rfl, ?dy63⟩) ?dr63
                case dy63 => (intro w hSw; have hS0 := hSw; (try dsimp only [AheadS] at hSw); go_simp; refine Came.value ?_ hS0; with_reducible rfl)
                try simp only [Act.put, List.setIfInBounds_toArray, List.set_cons_zero, List.set_cons_succ]
                refine wpDet_take (i := 3) (oi := _) (v := ?dv64) (by simp only [List.getElem?_toArray, List.getElem?_cons_zero, List.getElem?_cons_succ]; rfl) (by kernel_rfl) (by kernel_rfl) (by kernel_rfl) (Or.inl ⟨by rfl, ?dy64⟩) ?dr64
                case dy64 => (intro w hSw; have hS0 := hSw; (try dsimp only [AheadS] at hSw); go_simp; refine Came.value ?_ hS0; with_reducible rfl)
                try simp only [Act.put, List.setIfInBounds_toArray, List.set_cons_zero, List.set_cons_succ]
                refine wpDet_take (i := 4) (oi := _) (v := ?dv65) (by simp only [List.getElem?_toArray, List.getElem?_cons_zero, List.getElem?_cons_succ]; rfl) (by kernel_rfl) (by kernel_rfl) (by kernel_rfl) (Or.inl ⟨by rfl, ?dy65⟩) ?dr65
                case dy65 => (intro w hSw; have hS0 := hSw; (try dsimp only [AheadS] at hSw); go_simp; refine Came.value ?_ hS0; with_reducible rfl)
                try simp only [Act.put, List.setIfInBounds_toArray, List.set_cons_zero, List.set_cons_succ]
                refine wpDet_take (i := 5) (oi := _) (v := ?dv66) (by simp only [List.getElem?_toArray, List.getElem?_cons_zero, List.getElem?_cons_succ]; rfl) (by kernel_rfl) (by kernel_rfl) (by kernel_rfl) (Or.inl ⟨by rfl, ?dy66⟩) ?dr66
                case dy66 => (intro w hSw; have hS0 := hSw; (try dsimp only [AheadS] at hSw); go_simp; refine Came.value ?_ hS0; with_reducible rfl)
                try simp only [Act.put, List.setIfInBounds_toArray, List.set_cons_zero, List.set_cons_succ]
                refine wpDet_take (i := 6) (oi := _) (v := ?dv67) (by simp only [List.getElem?_toArray, List.getElem?_cons_zero, List.getElem?_cons_succ]; rfl) (by kernel_rfl) (by kernel_rfl) (by kernel_rfl) (Or.inl ⟨by rfl, ?dy67⟩) ?dr67
                case dy67 => (intro w hSw; have hS0 := hSw; (try dsimp only [AheadS] at hSw); go_simp; refine Came.value ?_ hS0; with_reducible rfl)
                try simp only [Act.put, List.setIfInBounds_toArray, List.set_cons_zero, List.set_cons_succ]
                refine wpDet_take (i := 7) (oi := _) (v := ?dv68) (by simp only [List.getElem?_toArray, List.getElem?_cons_zero, List.getElem?_cons_succ]; rfl) (by kernel_rfl) (by kernel_rfl) (by kernel_rfl) (Or.inl ⟨by rfl, ?dy68⟩) ?dr68
                case dy68 => (intro w hSw; have hS0 := hSw; (try dsimp only [AheadS] at hSw); go_simp; refine Came.value ?_ hS0; with_reducible rfl)
                try simp only [Act.put, List.setIfInBounds_toArray, List.set_cons_zero, List.set_cons_succ]
                refine wpDet_take (i := 8) (oi := _) (v := ?dv69) (by simp only [List.getElem?_toArray, List.getElem?_cons_zero, List.getElem?_cons_succ]; rfl) (by kernel_rfl) (by kernel_rfl) (by kernel_rfl) (Or.inl ⟨by rfl, ?dy69⟩) ?dr69
                case dy69 => (intro w hSw; have hS0 := hSw; (try dsimp only [AheadS] at hSw); go_simp; refine Came.value ?_ hS0; with_reducible rfl)
                try simp only [Act.put, List.setIfInBounds_toArray, List.set_cons_zero, List.set_cons_succ]
                refine wpDet_take (i := 9) (oi := _) (v := ?dv70) (by simp only [List.getElem?_toArray, List.getElem?_cons_zero, List.getElem?_cons_succ]; rfl) (by kernel_rfl) (by kernel_rfl) (by kernel_rfl) (Or.inl ⟨by rfl, ?dy70⟩) ?dr70
                case dy70 => (intro w hSw; have hS0 := hSw; (try dsimp only [AheadS] at hSw); go_simp; refine Came.value ?_ hS0; with_reducible rfl)
                try simp only [Act.put, List.setIfInBounds_toArray, List.set_cons_zero, List.set_cons_succ]
                refine wpDet_take (i := 10) (oi := _) (v := ?dv71) (by simp only [List.getElem?_toArray, List.getElem?_cons_zero, List.getElem?_cons_succ]; rfl) (by kernel_rfl) (by kernel_rfl) (by kernel_rfl) (Or.inl ⟨by rfl, ?dy71⟩) ?dr71
                case dy71 => (intro w hSw; have hS0 := hSw; (try dsimp only [AheadS] at hSw); go_simp; refine Came.value ?_ hS0; with_reducible rfl)
                try simp only [Act.put, List.setIfInBounds_toArray, List.set_cons_zero, List.set_cons_succ]
                refine wpDet_take (i := 11) (oi := _) (v := ?dv72) (by simp only [List.getElem?_toArray, List.getElem?_cons_zero, List.getElem?_cons_succ]; rfl) (by kernel_rfl) (by kernel_rfl) (by kernel_rfl) (Or.inl ⟨by rfl, ?dy72⟩) ?dr72
                case dy72 => (intro w hSw; have hS0 := hSw; (try dsimp only [AheadS] at hSw); go_simp; refine Came.value ?_ hS0; with_reducible rfl)
                try simp only [Act.put, List.setIfInBounds_toArray, List.set_cons_zero, List.set_cons_succ]
                refine wpDet_take (i := 12) (oi := _) (v := ?dv73) (by simp only [List.getElem?_toArray, List.getElem?_cons_zero, List.getElem?_cons_succ]; rfl) (by kernel_rfl) (by kernel_rfl) (by kernel_rfl) (Or.inl ⟨by rfl, ?dy73⟩) ?dr73
                case dy73 => (intro w hSw; go_simp; exact Came.call ((rless_any _ _ _ _ true HA.out w).mono fun e w' ⟨he, hf⟩ => ⟨he, hSw.keep hf⟩) (by with_reducible rfl))
                try simp only [Act.put, List.setIfInBounds_toArray, List.set_cons_zero, List.set_cons_succ]
                refine wpDet_take (i := 13) (oi := _) (v := ?dv74) (by simp only [List.getElem?_toArray, List.getElem?_cons_zero, List.getElem?_cons_succ]; rfl) (by kernel_rfl) (by kernel_rfl) (by kernel_rfl) (Or.inl ⟨by rfl, ?dy74⟩) ?dr74
                case dy74 => (intro w hSw; have hS0 := hSw; (try dsimp only [AheadS] at hSw); go_simp; refine Came.value ?_ hS0; with_reducible rfl)
                try simp only [Act.put, List.setIfInBounds_toArray, List.set_cons_zero, List.set_cons_succ]
                refine wpDet_take (i := 14) (oi := _) (v := ?dv75) (by simp only [List.getElem?_toArray, List.getElem?_cons_zero, List.getElem?_cons_succ]; rfl) (by kernel_rfl) (by kernel_rfl) (by kernel_rfl) (Or.inl ⟨by rfl, ?dy75⟩) ?dr75
                case dy75 => (intro w hSw; have hS0 := hSw; (try dsimp only [AheadS] at hSw); go_simp; refine Came.value ?_ hS0; with_reducible rfl)
                try simp only [Act.put, List.setIfInBounds_toArray, List.set_cons_zero, List.set_cons_succ]
                clear hn0 hn3 hn1 hn2
                refine wpDet_done (by kernel_rfl) ?_ _
                intro w3 hS3
                have hf3 := hS3.1
                clear hS3
                have k1 := row5 (hf3.heap HRX.out (by simp))
                have k2 := row5 (hf3.heap HBX.out.1 (by simp))
                have HF3 := Lib.hid ((HF.out.trans HFX.out).trans hf3)
                have HG3 := Lib.hid (HFX.out.trans hf3)
                clear hf3
                go_wp2_with fail
                refine (rvalidBids_any _ el _ ms _ (HBD.out.keep HF3.out) (HM.out.keep HF3.out)).mono ?_
                rintro e w4 ⟨rfl, hf4⟩
                by_cases hz : bidsC ms el = 0
                · have HN := Lib.hid (HAT.out.1 (HPZ.out.trans hz))
                  rw [hz, show dcode 0 = 0 from rfl]
                  clear hz
                  go_wp2
                  go_roundw
                  case rel => exact ⟨k + 1, by omega, by go_num, HN.out, HLS.out HLO.out, (HFB.out.trans HG3.out).trans hf4⟩
                  case measure => simp [intOf]; omega
                · have HR : Hid (entsC ms none l = bidsC ms el) := by show _ = _; rw [HAT.out.2 (by rw [HPZ.out]; exact hz), HPZ.out]
                  have hnz := dcode_ne hz
                  obtain ⟨D, hD⟩ : ∃ D, D = dcode (bidsC ms el) := ⟨_, rfl⟩
                  rw [← hD] at hnz ⊢
                  have HD2 := Lib.hid hD
                  clear hz hD
                  go_wp2
                  go_ret
                  exact ⟨by rw [HRE.out, HR.out, ← HD2.out]; rfl, HF3.out.trans hf4⟩
              · go_wp2
                clear j1 k1 x0 x1 x2 x3 x4
                have hn0 : (0 : Int) ≤ (k : Int) - 1 := by omega
                have hn3 : (k : Int) - 1 < (l.length : Int) := by omega
                have hn1 : ((k : Int) - 1).toNat = k - 1 := by omega
                have hn2 : IntKind.i64.wrap ((k : Int) - 1) = (k : Int) - 1 := IntWalk.i64_in _ (by omega)
                have k1 := row5 HRX.out
                have k2 := row2 HBX.out.2
                refine wp_region_det (S := AheadS ((wr.alloc (.cells #[.int .i64 e0, .int .i64 e1, .int .i64 e2, .slice z1 el.length d1, .int .i64 e4] 40)).alloc (.cells #[.int .i64 e0, .int .i64 e1] 35)) w.heap.size (.slice (some ⟨bl, off, none⟩) l.length ce) bl (off + (k - 1) * 5) qf qd (wr.heap.size + 1) e0 e1) (by kernel_rfl) (AheadS.keep ⟨Fr.refl _ _, k1.2.2.2.2, HFX.out.cell HQ0.out (by simp), HFX.out.cell HQ1.out (by simp), k2.1, k2.2⟩ (Fr.drew _ _)) ?_
                clear k1 k2
                refine wpDet_take (i := 0) (oi := _) (v := ?dv76) (by simp only [List.getElem?_toArray, List.getElem?_cons_zero]; rfl) (by kernel_rfl) (by kernel_rfl) (by kernel_rfl) (Or.inl ⟨by rfl, ?dy76⟩) ?dr76
                case dy76 => (intro w hSw; have hS0 := hSw; (try dsimp only [AheadS] at hSw); go_simp; refine Came.value ?_ hS0; with_reducible rfl)
                try simp only [Act.put, List.setIfInBounds_toArray, List.set_cons_zero, List.set_cons_succ]
                refine wpDet_take (i := 1) (oi := _) (v := ?dv77) (by simp only [List.getElem?_toArray, List.getElem?_cons_zero, List.getElem?_cons_succ]; rfl) (by kernel_rfl) (by kernel_rfl) (by kernel_rfl) (Or.inl ⟨by rfl, ?dy77⟩) ?dr77
                case dy77 => (intro w hSw; have hS0 := hSw; (try dsimp only [AheadS] at hSw); go_simp; refine Came.value ?_ hS0; with_reducible rfl)
                try simp only [Act.put, List.setIfInBounds_toArray, List.set_cons_zero, List.set_cons_succ]
                refine wpDet_take (i := 2) (oi := _) (v := ?dv78) (by simp only [List.getElem?_toArray, List.getElem?_cons_zero, List.getElem?_cons_succ]; rfl) (by kernel_rfl) (by kernel_rfl) (by kernel_rfl) (Or.inl ⟨by rfl, ?dy78⟩) ?dr78
                case dy78 => (intro w hSw; have hS0 := hSw; (try dsimp only [AheadS] at hSw); go_simp; refine Came.value ?_ hS0; with_reducible rfl)
                try simp only [Act.put, List.setIfInBounds_toArray, List.set_cons_zero, List.set_cons_succ]
                refine wpDet_take (i := 3) (oi := _) (v := ?dv79) (by simp only [List.getElem?_toArray, List.getElem?_cons_zero, List.getElem?_cons_succ]; rfl) (by kernel_rfl) (by kernel_rfl) (by kernel_rfl) (Or.inl ⟨by rfl, ?dy79⟩) ?dr79
                case dy79 => (intro w hSw; have hS0 := hSw; (try dsimp only [AheadS] at hSw); go_simp; refine Came.value ?_ hS0; with_reducible rfl)
                try simp only [Act.put, List.setIfInBounds_toArray, List.set_cons_zero, List.set_cons_succ]
                refine wpDet_take (i := 4) (oi := _) (v := ?dv80) (by simp only [List.getElem?_toArray, List.getElem?_cons_zero, List.getElem?_cons_succ]; rfl) (by kernel_rfl) (by kernel_rfl) (by kernel_rfl) (Or.inl ⟨by rfl, ?dy80⟩) ?dr80
                case dy80 => (intro w hSw; have hS0 := hSw; (try dsimp only [AheadS] at hSw); go_simp; refine Came.value ?_ hS0; with_reducible rfl)
                try simp only [Act.put, List.setIfInBounds_toArray, List.set_cons_zero, List.set_cons_succ]
                refine wpDet_take (i := 5) (oi := _) (v := ?dv81) (by simp only [List.getElem?_toArray, List.getElem?_cons_zero, List.getElem?_cons_succ]; rfl) (by kernel_rfl) (by kernel_rfl) (by kernel_rfl) (Or.inl ⟨by rfl, ?dy81⟩) ?dr81
                case dy81 => (intro w hSw; have hS0 := hSw; (try dsimp only [AheadS] at hSw); go_simp; refine Came.value ?_ hS0; with_reducible rfl)
                try simp only [Act.put, List.setIfInBounds_toArray, List.set_cons_zero, List.set_cons_succ]
                refine wpDet_take (i := 6) (oi := _) (v := ?dv82) (by simp only [List.getElem?_toArray, List.getElem?_cons_zero, List.getElem?_cons_succ]; rfl) (by kernel_rfl) (by kernel_rfl) (by kernel_rfl) (Or.inl ⟨by rfl, ?dy82⟩) ?dr82
                case dy82 => (intro w hSw; have hS0 := hSw; (try dsimp only [AheadS] at hSw); go_simp; refine Came.value ?_ hS0; with_reducible rfl)
                try simp only [Act.put, List.setIfInBounds_toArray, List.set_cons_zero, List.set_cons_succ]
                refine wpDet_take (i := 7) (oi := _) (v := ?dv83) (by simp only [List.getElem?_toArray, List.getElem?_cons_zero, List.getElem?_cons_succ]; rfl) (by kernel_rfl) (by kernel_rfl) (by kernel_rfl) (Or.inl ⟨by rfl, ?dy83⟩) ?dr83
                case dy83 => (intro w hSw; have hS0 := hSw; (try dsimp only [AheadS] at hSw); go_simp; refine Came.value ?_ hS0; with_reducible rfl)
                try simp only [Act.put, List.setIfInBounds_toArray, List.set_cons_zero, List.set_cons_succ]
                refine wpDet_take (i := 8) (oi := _) (v := ?dv84) (by simp only [List.getElem?_toArray, List.getElem?_cons_zero, List.getElem?_cons_succ]; rfl) (by kernel_rfl) (by kernel_rfl) (by kernel_rfl) (Or.inl ⟨by rfl, ?dy84⟩) ?dr84
                case dy84 => (intro w hSw; have hS0 := hSw; (try dsimp only [AheadS] at hSw); go_simp; refine Came.value ?_ hS0; with_reducible rfl)
                try simp only [Act.put, List.setIfInBounds_toArray, List.set_cons_zero, List.set_cons_succ]
                refine wpDet_take (i := 9) (oi := _) (v := ?dv85) (by simp only [List.getElem?_toArray, List.getElem?_cons_zero, List.getElem?_cons_succ]; rfl) (by kernel_rfl) (by kernel_rfl) (by kernel_rfl) (Or.inl ⟨by rfl, ?dy85⟩) ?dr85
                case dy85 => (intro w hSw; have hS0 := hSw; (try dsimp only [AheadS] at hSw); go_simp; refine Came.value ?_ hS0; with_reducible rfl)
                try simp only [Act.put, List.setIfInBounds_toArray, List.set_cons_zero, List.set_cons_succ]
                refine wpDet_take (i := 10) (oi := _) (v := ?dv86) (by simp only [List.getElem?_toArray, List.getElem?_cons_zero, List.getElem?_cons_succ]; rfl) (by kernel_rfl) (by kernel_rfl) (by kernel_rfl) (Or.inl ⟨by rfl, ?dy86⟩) ?dr86
                case dy86 => (intro w hSw; have hS0 := hSw; (try dsimp only [AheadS] at hSw); go_simp; refine Came.value ?_ hS0; with_reducible rfl)
                try simp only [Act.put, List.setIfInBounds_toArray, List.set_cons_zero, List.set_cons_succ]
                refine wpDet_take (i := 11) (oi := _) (v := ?dv87) (by simp only [List.getElem?_toArray, List.getElem?_cons_zero, List.getElem?_cons_succ]; rfl) (by kernel_rfl) (by kernel_rfl) (by kernel_rfl) (Or.inl ⟨by rfl, ?dy87⟩) ?dr87
                case dy87 => (intro w hSw; have hS0 := hSw; (try dsimp only [AheadS] at hSw); go_simp; refine Came.value ?_ hS0; with_reducible rfl)
                try simp only [Act.put, List.setIfInBounds_toArray, List.set_cons_zero, List.set_cons_succ]
                refine wpDet_take (i := 12) (oi := _) (v := ?dv88) (by simp only [List.getElem?_toArray, List.getElem?_cons_zero, List.getElem?_cons_succ]; rfl) (by kernel_rfl) (by kernel_rfl) (by kernel_rfl) (Or.inl ⟨by rfl, ?dy88⟩) ?dr88
                case dy88 => (intro w hSw; go_simp; exact Came.call ((rless_any _ _ _ _ true HA.out w).mono fun e w' ⟨he, hf⟩ => ⟨he, hSw.keep hf⟩) (by with_reducible rfl))
                try simp only [Act.put, List.setIfInBounds_toArray, List.set_cons_zero, List.set_cons_succ]
                refine wpDet_take (i := 13) (oi := _) (v := ?dv89) (by simp only [List.getElem?_toArray, List.getElem?_cons_zero, List.getElem?_cons_succ]; rfl) (by kernel_rfl) (by kernel_rfl) (by kernel_rfl) (Or.inl ⟨by rfl, ?dy89⟩) ?dr89
                case dy89 => (intro w hSw; have hS0 := hSw; (try dsimp only [AheadS] at hSw); go_simp; refine Came.value ?_ hS0; with_reducible rfl)
                try simp only [Act.put, List.setIfInBounds_toArray, List.set_cons_zero, List.set_cons_succ]
                refine wpDet_take (i := 14) (oi := _) (v := ?dv90) (by simp only [List.getElem?_toArray, List.getElem?_cons_zero, List.getElem?_cons_succ]; rfl) (by kernel_rfl) (by kernel_rfl) (by kernel_rfl) (Or.inl ⟨by rfl, ?dy90⟩) ?dr90
                case dy90 => (intro w hSw; have hS0 := hSw; (try dsimp only [AheadS] at hSw); go_simp; refine Came.value ?_ hS0; with_reducible rfl)
                try simp only [Act.put, List.setIfInBounds_toArray, List.set_cons_zero, List.set_cons_succ]
                clear hn0 hn3 hn1 hn2
                refine wpDet_done (by kernel_rfl) ?_ _
                intro w3 hS3
                have hf3 := hS3.1
                clear hS3
                have k1 := row5 (hf3.heap HRX.out (by simp))
                have k2 := row5 (hf3.heap HBX.out.1 (by simp))
                have HF3 := Lib.hid ((HF.out.trans HFX.out).trans hf3)
                have HG3 := Lib.hid (HFX.out.trans hf3)
                clear hf3
                go_wp2_with fail
                refine (rvalidBids_any _ el _ ms _ (HBD.out.keep HF3.out) (HM.out.keep HF3.out)).mono ?_
                rintro e w4 ⟨rfl, hf4⟩
                by_cases hz : bidsC ms el = 0
                · have HN := Lib.hid (HAT.out.1 (HPZ.out.trans hz))
                  rw [hz, show dcode 0 = 0 from rfl]
                  clear hz
                  go_wp2
                  go_roundw
                  case rel => exact ⟨k + 1, by omega, by go_num, HN.out, HLS.out HLO.out, (HFB.out.trans HG3.out).trans hf4⟩
                  case measure => simp [intOf]; omega
                · have HR : Hid (entsC ms none l = bidsC ms el) := by show _ = _; rw [HAT.out.2 (by rw [HPZ.out]; exact hz), HPZ.out]
                  have hnz := dcode_ne hz
                  obtain ⟨D, hD⟩ : ∃ D, D = dcode (bidsC ms el) := ⟨_, rfl⟩
                  rw [← hD] at hnz ⊢
                  have HD2 := Lib.hid hD
                  clear hz hD
                  go_wp2
                  go_ret
                  exact ⟨by rw [HRE.out, HR.out, ← HD2.out]; rfl, HF3.out.trans hf4⟩
              · go_wp2_with fail
                refine (among_any _ ms e4 _ HD.out _ (HM.out.keep (HF.out.trans HFX.out))).mono ?_
                rintro e w2 ⟨rfl, rfl⟩
                go_wp2
                clear j1 k1 x0 x1 x2 x3 x4
                have hn0 : (0 : Int) ≤ (k : Int) - 1 := by omega
                have hn3 : (k : Int) - 1 < (l.length : Int) := by omega
                have hn1 : ((k : Int) - 1).toNat = k - 1 := by omega
                have hn2 : IntKind.i64.wrap ((k : Int) - 1) = (k : Int) - 1 := IntWalk.i64_in _ (by omega)
                have k1 := row5 HRX.out
                have k2 := row2 HBX.out.2
                refine wp_region_det (S := AheadS ((wr.alloc (.cells #[.int .i64 e0, .int .i64 e1, .int .i64 e2, .slice z1 el.length d1, .int .i64 e4] 40)).alloc (.cells #[.int .i64 e0, .int .i64 e1] 35)) w.heap.size (.slice (some ⟨bl, off, none⟩) l.length ce) bl (off + (k - 1) * 5) qf qd (wr.heap.size + 1) e0 e1) (by kernel_rfl) (AheadS.keep ⟨Fr.refl _ _, k1.2.2.2.2, HFX.out.cell HQ0.out (by simp), HFX.out.cell HQ1.out (by simp), k2.1, k2.2⟩ (Fr.drew _ _)) ?_
                clear k1 k2
                refine wpDet_take (i := 0) (oi := _) (v := ?dv91) (by simp only [List.getElem?_toArray, List.getElem?_cons_zero]; rfl) (by kernel_rfl) (by kernel_rfl) (by kernel_rfl) (Or.inl ⟨by rfl, ?dy91⟩) ?dr91
                case dy91 => (intro w hSw; have hS0 := hSw; (try dsimp only [AheadS] at hSw); go_simp; refine Came.value ?_ hS0; with_reducible rfl)
                try simp only [Act.put, List.setIfInBounds_toArray, List.set_cons_zero, List.set_cons_succ]
                refine wpDet_take (i := 1) (oi := _) (v := ?dv92) (by simp only [List.getElem?_toArray, List.getElem?_cons_zero, List.getElem?_cons_succ]; rfl) (by kernel_rfl) (by kernel_rfl) (by kernel_rfl) (Or.inl ⟨by rfl, ?dy92⟩) ?dr92
                case dy92 => (intro w hSw; have hS0 := hSw; (try dsimp only [AheadS] at hSw); go_simp; refine Came.value ?_ hS0; with_reducible rfl)
                try simp only [Act.put, List.setIfInBounds_toArray, List.set_cons_zero, List.set_cons_succ]
                refine wpDet_take (i := 2) (oi := _) (v := ?dv93) (by simp only [List.getElem?_toArray, List.getElem?_cons_zero, List.getElem?_cons_succ]; rfl) (by kernel_rfl) (by kernel_rfl) (by kernel_rfl) (Or.inl ⟨by rfl, ?dy93⟩) ?dr93
                case dy93 => (intro w hSw; have hS0 := hSw; (try dsimp only [AheadS] at hSw); go_simp; refine Came.value ?_ hS0; with_reducible rfl)
                try simp only [Act.put, List.setIfInBounds_toArray, List.set_cons_zero, List.set_cons_succ]
                refine wpDet_take (i := 3) (oi := _) (v := ?dv94) (by simp only [List.getElem?_toArray, List.getElem?_cons_zero, List.getElem?_cons_succ]; rfl) (by kernel_rfl) (by kernel_rfl) (by kernel_rfl) (Or.inl ⟨by rfl, ?dy94⟩) ?dr94
                case dy94 => (intro w hSw; have hS0 := hSw; (try dsimp only [AheadS] at hSw); go_simp; refine Came.value ?_ hS0; with_reducible rfl)
                try simp only [Act.put, List.setIfInBounds_toArray, List.set_cons_zero, List.set_cons_succ]
                refine wpDet_take (i := 4) (oi := _) (v := ?dv95) (by simp only [List.getElem?_toArray, List.getElem?_cons_zero, List.getElem?_cons_succ]; rfl) (by kernel_rfl) (by kernel_rfl) (by kernel_rfl) (Or.inl ⟨by rfl, ?dy95⟩) ?dr95
                case dy95 => (intro w hSw; have hS0 := hSw; (try dsimp only [AheadS] at hSw); go_simp; refine Came.value ?_ hS0; with_reducible rfl)
                try simp only [Act.put, List.setIfInBounds_toArray, List.set_cons_zero, List.set_cons_succ]
                refine wpDet_take (i := 5) (oi := _) (v := ?dv96) (by simp only [List.getElem?_toArray, List.getElem?_cons_zero, List.getElem?_cons_succ]; rfl) (by kernel_rfl) (by kernel_rfl) (by kernel_rfl) (Or.inl ⟨by rfl, ?dy96⟩) ?dr96
                case dy96 => (intro w hSw; have hS0 := hSw; (try dsimp only [AheadS] at hSw); go_simp; refine Came.value ?_ hS0; with_reducible rfl)
                try simp only [Act.put, List.setIfInBounds_toArray, List.set_cons_zero, List.set_cons_succ]
                refine wpDet_take (i := 6) (oi := _) (v := ?dv97) (by simp only [List.getElem?_toArray, List.getElem?_cons_zero, List.getElem?_cons_succ]; rfl) (by kernel_rfl) (by kernel_rfl) (by kernel_rfl) (Or.inl ⟨by rfl, ?dy97⟩) ?dr97
                case dy97 => (intro w hSw; have hS0 := hSw; (try dsimp only [AheadS] at hSw); go_simp; refine Came.value ?_ hS0; with_reducible rfl)
                try simp only [Act.put, List.setIfInBounds_toArray, List.set_cons_zero, List.set_cons_succ]
                refine wpDet_take (i := 7) (oi := _) (v := ?dv98) (by simp only [List.getElem?_toArray, List.getElem?_cons_zero, List.getElem?_cons_succ]; rfl) (by kernel_rfl) (by kernel_rfl) (by kernel_rfl) (Or.inl ⟨by rfl, ?dy98⟩) ?dr98
                case dy98 => (intro w hSw; have hS0 := hSw; (try dsimp only [AheadS] at hSw); go_simp; refine Came.value ?_ hS0; with_reducible rfl)
                try simp only [Act.put, List.setIfInBounds_toArray, List.set_cons_zero, List.set_cons_succ]
                refine wpDet_take (i := 8) (oi := _) (v := ?dv99) (by simp only [List.getElem?_toArray, List.getElem?_cons_zero, List.getElem?_cons_succ]; rfl) (by kernel_rfl) (by kernel_rfl) (by kernel_rfl) (Or.inl ⟨by rfl, ?dy99⟩) ?dr99
                case dy99 => (intro w hSw; have hS0 := hSw; (try dsimp only [AheadS] at hSw); go_simp; refine Came.value ?_ hS0; with_reducible rfl)
                try simp only [Act.put, List.setIfInBounds_toArray, List.set_cons_zero, List.set_cons_succ]
                refine wpDet_take (i := 9) (oi := _) (v := ?dv100) (by simp only [List.getElem?_toArray, List.getElem?_cons_zero, List.getElem?_cons_succ]; rfl) (by kernel_rfl) (by kernel_rfl) (by kernel_rfl) (Or.inl ⟨by rfl, ?dy100⟩) ?dr100
                case dy100 => (intro w hSw; have hS0 := hSw; (try dsimp only [AheadS] at hSw); go_simp; refine Came.value ?_ hS0; with_reducible rfl)
                try simp only [Act.put, List.setIfInBounds_toArray, List.set_cons_zero, List.set_cons_succ]
                refine wpDet_take (i := 10) (oi := _) (v := ?dv101) (by simp only [List.getElem?_toArray, List.getElem?_cons_zero, List.getElem?_cons_succ]; rfl) (by kernel_rfl) (by kernel_rfl) (by kernel_rfl) (Or.inl ⟨by rfl, ?dy101⟩) ?dr101
                case dy101 => (intro w hSw; have hS0 := hSw; (try dsimp only [AheadS] at hSw); go_simp; refine Came.value ?_ hS0; with_reducible rfl)
                try simp only [Act.put, List.setIfInBounds_toArray, List.set_cons_zero, List.set_cons_succ]
                refine wpDet_take (i := 11) (oi := _) (v := ?dv102) (by simp only [List.getElem?_toArray, List.getElem?_cons_zero, List.getElem?_cons_succ]; rfl) (by kernel_rfl) (by kernel_rfl) (by kernel_rfl) (Or.inl ⟨by rfl, ?dy102⟩) ?dr102
                case dy102 => (intro w hSw; have hS0 := hSw; (try dsimp only [AheadS] at hSw); go_simp; refine Came.value ?_ hS0; with_reducible rfl)
                try simp only [Act.put, List.setIfInBounds_toArray, List.set_cons_zero, List.set_cons_succ]
                refine wpDet_take (i := 12) (oi := _) (v := ?dv103) (by simp only [List.getElem?_toArray, List.getElem?_cons_zero, List.getElem?_cons_succ]; rfl) (by kernel_rfl) (by kernel_rfl) (by kernel_rfl) (Or.inl ⟨by rfl, ?dy103⟩) ?dr103
                case dy103 => (intro w hSw; go_simp; exact Came.call ((rless_any _ _ _ _ true HA.out w).mono fun e w' ⟨he, hf⟩ => ⟨he, hSw.keep hf⟩) (by with_reducible rfl))
                try simp only [Act.put, List.setIfInBounds_toArray, List.set_cons_zero, List.set_cons_succ]
                refine wpDet_take (i := 13) (oi := _) (v := ?dv104) (by simp only [List.getElem?_toArray, List.getElem?_cons_zero, List.getElem?_cons_succ]; rfl) (by kernel_rfl) (by kernel_rfl) (by kernel_rfl) (Or.inl ⟨by rfl, ?dy104⟩) ?dr104
                case dy104 => (intro w hSw; have hS0 := hSw; (try dsimp only [AheadS] at hSw); go_simp; refine Came.value ?_ hS0; with_reducible rfl)
                try simp only [Act.put, List.setIfInBounds_toArray, List.set_cons_zero, List.set_cons_succ]
                refine wpDet_take (i := 14) (oi := _) (v := ?dv105) (by simp only [List.getElem?_toArray, List.getElem?_cons_zero, List.getElem?_cons_succ]; rfl) (by kernel_rfl) (by kernel_rfl) (by kernel_rfl) (Or.inl ⟨by rfl, ?dy105⟩) ?dr105
                case dy105 => (intro w hSw; have hS0 := hSw; (try dsimp only [AheadS] at hSw); go_simp; refine Came.value ?_ hS0; with_reducible rfl)
                try simp only [Act.put, List.setIfInBounds_toArray, List.set_cons_zero, List.set_cons_succ]
                clear hn0 hn3 hn1 hn2
                refine wpDet_done (by kernel_rfl) ?_ _
                intro w3 hS3
                have hf3 := hS3.1
                clear hS3
                have k1 := row5 (hf3.heap HRX.out (by simp))
                have k2 := row5 (hf3.heap HBX.out.1 (by simp))
                have HF3 := Lib.hid ((HF.out.trans HFX.out).trans hf3)
                have HG3 := Lib.hid (HFX.out.trans hf3)
                clear hf3
                go_wp2_with fail
                refine (rvalidBids_any _ el _ ms _ (HBD.out.keep HF3.out) (HM.out.keep HF3.out)).mono ?_
                rintro e w4 ⟨rfl, hf4⟩
                by_cases hz : bidsC ms el = 0
                · have HN := Lib.hid (HAT.out.1 (HPZ.out.trans hz))
                  rw [hz, show dcode 0 = 0 from rfl]
                  clear hz
                  go_wp2
                  go_roundw
                  case rel => exact ⟨k + 1, by omega, by go_num, HN.out, HLS.out HLO.out, (HFB.out.trans HG3.out).trans hf4⟩
                  case measure => simp [intOf]; omega
                · have HR : Hid (entsC ms none l = bidsC ms el) := by show _ = _; rw [HAT.out.2 (by rw [HPZ.out]; exact hz), HPZ.out]
                  have hnz := dcode_ne hz
                  obtain ⟨D, hD⟩ : ∃ D, D = dcode (bidsC ms el) := ⟨_, rfl⟩
                  rw [← hD] at hnz ⊢
                  have HD2 := Lib.hid hD
                  clear hz hD
                  go_wp2
                  go_ret
                  exact ⟨by rw [HRE.out, HR.out, ← HD2.out]; rfl, HF3.out.trans hf4⟩
              · go_wp2_with fail
                refine (among_any _ ms e4 _ HD.out _ (HM.out.keep (HF.out.trans HFX.out))).mono ?_
                rintro e w2 ⟨rfl, rfl⟩
                go_wp2
                clear j1 k1 x0 x1 x2 x3 x4
                have hn0 : (0 : Int) ≤ (k : Int) - 1 := by omega
                have hn3 : (k : Int) - 1 < (l.length : Int) := by omega
                have hn1 : ((k : Int) - 1).toNat = k - 1 := by omega
                have hn2 : IntKind.i64.wrap ((k : Int) - 1) = (k : Int) - 1 := IntWalk.i64_in _ (by omega)
                have k1 := row5 HRX.out
                have k2 := row2 HBX.out.2
                refine wp_region_det (S := AheadS ((wr.alloc (.cells #[.int .i64 e0, .int .i64 e1, .int .i64 e2, .slice z1 el.length d1, .int .i64 e4] 40)).alloc (.cells #[.int .i64 e0, .int .i64 e1] 35)) w.heap.size (.slice (some ⟨bl, off, none⟩) l.length ce) bl (off + (k - 1) * 5) qf qd (wr.heap.size + 1) e0 e1) (by kernel_rfl) (AheadS.keep ⟨Fr.refl _ _, k1.2.2.2.2, HFX.out.cell HQ0.out (by simp), HFX.out.cell HQ1.out (by simp), k2.1, k2.2⟩ (Fr.drew _ _)) ?_
                clear k1 k2
                refine wpDet_take (i := 0) (oi := _) (v := ?dv106) (by simp only [List.getElem?_toArray, List.getElem?_cons_zero]; rfl) (by kernel_rfl) (by kernel_rfl) (by kernel_rfl) (Or.inl ⟨by rfl, ?dy106⟩) ?dr106
                case dy106 => (intro w hSw; have hS0 := hSw; (try dsimp only [AheadS] at hSw); go_simp; refine Came.value ?_ hS0; with_reducible rfl)
                try simp only [Act.put, List.setIfInBounds_toArray, List.set_cons_zero, List.set_cons_succ]
                refine wpDet_take (i := 1) (oi := _) (v := ?dv107) (by simp only [List.getElem?_toArray, List.getElem?_cons_zero, List.getElem?_cons_succ]; rfl) (by kernel_rfl) (by kernel_rfl) (by kernel_rfl) (Or.inl ⟨by rfl, ?dy107⟩) ?dr107
                case dy107 => (intro w hSw; have hS0 := hSw; (try dsimp only [AheadS] at hSw); go_simp; refine Came.value ?_ hS0; with_reducible rfl)
                try simp only [Act.put, List.setIfInBounds_toArray, List.set_cons_zero, List.set_cons_succ]
                refine wpDet_take (i := 2) (oi := _) (v := ?dv108) (by simp only [List.getElem?_toArray, List.getElem?_cons_zero, List.getElem?_cons_succ]; rfl) (by kernel_rfl) (by kernel_rfl) (by kernel_rfl) (Or.inl ⟨by rfl, ?dy108⟩) ?dr108
                case dy108 => (intro w hSw; have hS0 := hSw; (try dsimp only [AheadS] at hSw); go_simp; refine Came.value ?_ hS0; with_reducible rfl)
                try simp only [Act.put, List.setIfInBounds_toArray, List.set_cons_zero, List.set_cons_succ]
                refine wpDet_take (i := 3) (oi := _) (v := ?dv109) (by simp only [List.getElem?_toArray, List.getElem?_cons_zero, List.getElem?_cons_succ]; rfl) (by kernel_rfl) (by kernel_rfl) (by kernel_rfl) (Or.inl ⟨by rfl, ?dy109⟩) ?dr109
                case dy109 => (intro w hSw; have hS0 := hSw; (try dsimp only [AheadS] at hSw); go_simp; refine Came.value ?_ hS0; with_reducible rfl)
                try simp only [Act.put, List.setIfInBounds_toArray, List.set_cons_zero, List.set_cons_succ]
                refine wpDet_take (i := 4) (oi := _) (v := ?dv110) (by simp only [List.getElem?_toArray, List.getElem?_cons_zero, List.getElem?_cons_succ]; rfl) (by kernel_rfl) (by kernel_rfl) (by kernel_rfl) (Or.inl ⟨by rfl, ?dy110⟩) ?dr110
                case dy110 => (intro w hSw; have hS0 := hSw; (try dsimp only [AheadS] at hSw); go_simp; refine Came.value ?_ hS0; with_reducible rfl)
                try simp only [Act.put, List.setIfInBounds_toArray, List.set_cons_zero, List.set_cons_succ]
                refine wpDet_take (i := 5) (oi := _) (v := ?dv111) (by simp only [List.getElem?_toArray, List.getElem?_cons_zero, List.getElem?_cons_succ]; rfl) (by kernel_rfl) (by kernel_rfl) (by kernel_rfl) (Or.inl ⟨by rfl, ?dy111⟩) ?dr111
                case dy111 => (intro w hSw; have hS0 := hSw; (try dsimp only [AheadS] at hSw); go_simp; refine Came.value ?_ hS0; with_reducible rfl)
                try simp only [Act.put, List.setIfInBounds_toArray, List.set_cons_zero, List.set_cons_succ]
                refine wpDet_take (i := 6) (oi := _) (v := ?dv112) (by simp only [List.getElem?_toArray, List.getElem?_cons_zero, List.getElem?_cons_succ]; rfl) (by kernel_rfl) (by kernel_rfl) (by kernel_rfl) (Or.inl ⟨by rfl, ?dy112⟩) ?dr112
                case dy112 => (intro w hSw; have hS0 := hSw; (try dsimp only [AheadS] at hSw); go_simp; refine Came.value ?_ hS0; with_reducible rfl)
                try simp only [Act.put, List.setIfInBounds_toArray, List.set_cons_zero, List.set_cons_succ]
                refine wpDet_take (i := 7) (oi := _) (v := ?dv113) (by simp only [List.getElem?_toArray, List.getElem?_cons_zero, List.getElem?_cons_succ]; rfl) (by kernel_rfl) (by kernel_rfl) (by kernel_rfl) (Or.inl ⟨by rfl, ?dy113⟩) ?dr113
                case dy113 => (intro w hSw; have hS0 := hSw; (try dsimp only [AheadS] at hSw); go_simp; refine Came.value ?_ hS0; with_reducible rfl)
                try simp only [Act.put, List.setIfInBounds_toArray, List.set_cons_zero, List.set_cons_succ]
                refine wpDet_take (i := 8) (oi := _) (v := ?dv114) (by simp only [List.getElem?_toArray, List.getElem?_cons_zero, List.getElem?_cons_succ]; rfl) (by kernel_rfl) (by kernel_rfl) (by kernel_rfl) (Or.inl ⟨by rfl, ?dy114⟩) ?dr114
                case dy114 => (intro w hSw; have hS0 := hSw; (try dsimp only [AheadS] at hSw); go_simp; refine Came.value ?_ hS0; with_reducible rfl)
                try simp only [Act.put, List.setIfInBounds_toArray, List.set_cons_zero, List.set_cons_succ]
                refine wpDet_take (i := 9) (oi := _) (v := ?dv115) (by simp only [List.getElem?_toArray, List.getElem?_cons_zero, List.getElem?_cons_succ]; rfl) (by kernel_rfl) (by kernel_rfl) (by kernel_rfl) (Or.inl ⟨by rfl, ?dy115⟩) ?dr115
                case dy115 => (intro w hSw; have hS0 := hSw; (try dsimp only [AheadS] at hSw); go_simp; refine Came.value ?_ hS0; with_reducible rfl)
                try simp only [Act.put, List.setIfInBounds_toArray, List.set_cons_zero, List.set_cons_succ]
                refine wpDet_take (i := 10) (oi := _) (v := ?dv116) (by simp only [List.getElem?_toArray, List.getElem?_cons_zero, List.getElem?_cons_succ]; rfl) (by kernel_rfl) (by kernel_rfl) (by kernel_rfl) (Or.inl ⟨by rfl, ?dy116⟩) ?dr116
                case dy116 => (intro w hSw; have hS0 := hSw; (try dsimp only [AheadS] at hSw); go_simp; refine Came.value ?_ hS0; with_reducible rfl)
                try simp only [Act.put, List.setIfInBounds_toArray, List.set_cons_zero, List.set_cons_succ]
                refine wpDet_take (i := 11) (oi := _) (v := ?dv117) (by simp only [List.getElem?_toArray, List.getElem?_cons_zero, List.getElem?_cons_succ]; rfl) (by kernel_rfl) (by kernel_rfl) (by kernel_rfl) (Or.inl ⟨by rfl, ?dy117⟩) ?dr117
                case dy117 => (intro w hSw; have hS0 := hSw; (try dsimp only [AheadS] at hSw); go_simp; refine Came.value ?_ hS0; with_reducible rfl)
                try simp only [Act.put, List.setIfInBounds_toArray, List.set_cons_zero, List.set_cons_succ]
                refine wpDet_take (i := 12) (oi := _) (v := ?dv118) (by simp only [List.getElem?_toArray, List.getElem?_cons_zero, List.getElem?_cons_succ]; rfl) (by kernel_rfl) (by kernel_rfl) (by kernel_rfl) (Or.inl ⟨by rfl, ?dy118⟩) ?dr118
                case dy118 => (intro w hSw; go_simp; exact Came.call ((rless_any _ _ _ _ true HA.out w).mono fun e w' ⟨he, hf⟩ => ⟨he, hSw.keep hf⟩) (by with_reducible rfl))
                try simp only [Act.put, List.setIfInBounds_toArray, List.set_cons_zero, List.set_cons_succ]
                refine wpDet_take (i := 13) (oi := _) (v := ?dv119) (by simp only [List.getElem?_toArray, List.getElem?_cons_zero, List.getElem?_cons_succ]; rfl) (by kernel_rfl) (by kernel_rfl) (by kernel_rfl) (Or.inl ⟨by rfl, ?dy119⟩) ?dr119
                case dy119 => (intro w hSw; have hS0 := hSw; (try dsimp only [AheadS] at hSw); go_simp; refine Came.value ?_ hS0; with_reducible rfl)
                try simp only [Act.put, List.setIfInBounds_toArray, List.set_cons_zero, List.set_cons_succ]
                refine wpDet_take (i := 14) (oi := _) (v := ?dv120) (by simp only [List.getElem?_toArray, List.getElem?_cons_zero, List.getElem?_cons_succ]; rfl) (by kernel_rfl) (by kernel_rfl) (by kernel_rfl) (Or.inl ⟨by rfl, ?dy120⟩) ?dr120
                case dy120 => (intro w hSw; have hS0 := hSw; (try dsimp only [AheadS] at hSw); go_simp; refine Came.value ?_ hS0; with_reducible rfl)
                try simp only [Act.put, List.setIfInBounds_toArray, List.set_cons_zero, List.set_cons_succ]
                clear hn0 hn3 hn1 hn2
                refine wpDet_done (by kernel_rfl) ?_ _
                intro w3 hS3
                have hf3 := hS3.1
                clear hS3
                have k1 := row5 (hf3.heap HRX.out (by simp))
                have k2 := row5 (hf3.heap HBX.out.1 (by simp))
                have HF3 := Lib.hid ((HF.out.trans HFX.out).trans hf3)
                have HG3 := Lib.hid (HFX.out.trans hf3)
                clear hf3
                go_wp2_with fail
                refine (rvalidBids_any _ el _ ms _ (HBD.out.keep HF3.out) (HM.out.keep HF3.out)).mono ?_
                rintro e w4 ⟨rfl, hf4⟩
                by_cases hz : bidsC ms el = 0
                · have HN := Lib.hid (HAT.out.1 (HPZ.out.trans hz))
                  rw [hz, show dcode 0 = 0 from rfl]
                  clear hz
                  go_wp2
                  go_roundw
                  case rel => exact ⟨k + 1, by omega, by go_num, HN.out, HLS.out HLO.out, (HFB.out.trans HG3.out).trans hf4⟩
                  case measure => simp [intOf]; omega
                · have HR : Hid (entsC ms none l = bidsC ms el) := by show _ = _; rw [HAT.out.2 (by rw [HPZ.out]; exact hz), HPZ.out]
                  have hnz := dcode_ne hz
                  obtain ⟨D, hD⟩ : ∃ D, D = dcode (bidsC ms el) := ⟨_, rfl⟩
                  rw [← hD] at hnz ⊢
                  have HD2 := Lib.hid hD
                  clear hz hD
                  go_wp2
                  go_ret
                  exact ⟨by rw [HRE.out, HR.out, ← HD2.out]; rfl, HF3.out.trans hf4⟩
            · have HA := Lib.hid (no (fun q => hles ((lt_iff_less _ _).1 q)))
              have HR : Hid (entsC ms none l = 11) := by
                have e3 : entC ms (prevE l k) ⟨e0, e1, e2, el, e4⟩ = 11 := ent_after ⟨HLO.out, HAW.out⟩ (by rw [HPP.out]; exact hles)
                show _ = _
                rw [HAT.out.2 (by rw [e3]; decide), e3]
              clear hles
              rcases hcA with hne | ⟨hne, HD⟩ <;> rcases hcD with t3 | ⟨t3, t4⟩
              · go_wp2
                clear j1 k1 x0 x1 x2 x3 x4
                have hn0 : (0 : Int) ≤ (k : Int) - 1 := by omega
                have hn3 : (k : Int) - 1 < (l.length : Int) := by omega
                have hn1 : ((k : Int) - 1).toNat = k - 1 := by omega
                have hn2 : IntKind.i64.wrap ((k : Int) - 1) = (k : Int) - 1 := IntWalk.i64_in _ (by omega)
                have k1 := row5 HRX.out
                have k2 := row2 HBX.out.2
                refine wp_region_det (S := AheadS ((wr.alloc (.cells #[.int .i64 e0, .int .i64 e1, .int .i64 e2, .slice z1 el.length d1, .int .i64 e4] 40)).alloc (.cells #[.int .i64 e0, .int .i64 e1] 35)) w.heap.size (.slice (some ⟨bl, off, none⟩) l.length ce) bl (off + (k - 1) * 5) qf qd (wr.heap.size + 1) e0 e1) (by kernel_rfl) (AheadS.keep ⟨Fr.refl _ _, k1.2.2.2.2, HFX.out.cell HQ0.out (by simp), HFX.out.cell HQ1.out (by simp), k2.1, k2.2⟩ (Fr.drew _ _)) ?_
                clear k1 k2
                refine wpDet_take (i := 0) (oi := _) (v := ?dv121) (by simp only [List.getElem?_toArray, List.getElem?_cons_zero]; rfl) (by kernel_rfl) (by kernel_rfl) (by kernel_rfl) (Or.inl ⟨by rfl, ?dy121⟩) ?dr121
                case dy121 => (intro w hSw; have hS0 := hSw; (try dsimp only [AheadS] at hSw); go_simp; refine Came.value ?_ hS0; with_reducible rfl)
                try simp only [Act.put, List.setIfInBounds_toArray, List.set_cons_zero, List.set_cons_succ]
                refine wpDet_take (i := 1) (oi := _) (v := ?dv122) (by simp only [List.getElem?_toArray, List.getElem?_cons_zero, List.getElem?_cons_succ]; rfl) (by kernel_rfl) (by kernel_rfl) (by kernel_rfl) (Or.inl ⟨by rfl, ?dy122⟩) ?dr122
                case dy122 => (intro w hSw; have hS0 := hSw; (try dsimp only [AheadS] at hSw); go_simp; refine Came.value ?_ hS0; with_reducible rfl)
                try simp only [Act.put, List.setIfInBounds_toArray, List.set_cons_zero, List.set_cons_succ]
                refine wpDet_take (i := 2) (oi := _) (v := ?dv123) (by simp only [List.getElem?_toArray, List.getElem?_cons_zero, List.getElem?_cons_succ]; rfl) (by kernel_rfl) (by kernel_rfl) (by kernel_rfl) (Or.inl ⟨by rfl, ?dy123⟩) ?dr123
                case dy123 => (intro w hSw; have hS0 := hSw; (try dsimp only [AheadS] at hSw); go_simp; refine Came.value ?_ hS0; with_reducible rfl)
                try simp only [Act.put, List.setIfInBounds_toArray, List.set_cons_zero, List.set_cons_succ]
                refine wpDet_take (i := 3) (oi := _) (v := ?dv124) (by simp only [List.getElem?_toArray, List.getElem?_cons_zero, List.getElem?_cons_succ]; rfl) (by kernel_rfl) (by kernel_rfl) (by kernel_rfl) (Or.inl ⟨by rfl, ?dy124⟩) ?dr124
                case dy124 => (intro w hSw; have hS0 := hSw; (try dsimp only [AheadS] at hSw); go_simp; refine Came.value ?_ hS0; with_reducible rfl)
                try simp only [Act.put, List.setIfInBounds_toArray, List.set_cons_zero, List.set_cons_succ]
                refine wpDet_take (i := 4) (oi := _) (v := ?dv125) (by simp only [List.getElem?_toArray, List.getElem?_cons_zero, List.getElem?_cons_succ]; rfl) (by kernel_rfl) (by kernel_rfl) (by kernel_rfl) (Or.inl ⟨by rfl, ?dy125⟩) ?dr125
                case dy125 => (intro w hSw; have hS0 := hSw; (try dsimp only [AheadS] at hSw); go_simp; refine Came.value ?_ hS0; with_reducible rfl)
                try simp only [Act.put, List.setIfInBounds_toArray, List.set_cons_zero, List.set_cons_succ]
                refine wpDet_take (i := 5) (oi := _) (v := ?dv126) (by simp only [List.getElem?_toArray, List.getElem?_cons_zero, List.getElem?_cons_succ]; rfl) (by kernel_rfl) (by kernel_rfl) (by kernel_rfl) (Or.inl ⟨by rfl, ?dy126⟩) ?dr126
                case dy126 => (intro w hSw; have hS0 := hSw; (try dsimp only [AheadS] at hSw); go_simp; refine Came.value ?_ hS0; with_reducible rfl)
                try simp only [Act.put, List.setIfInBounds_toArray, List.set_cons_zero, List.set_cons_succ]
                refine wpDet_take (i := 6) (oi := _) (v := ?dv127) (by simp only [List.getElem?_toArray, List.getElem?_cons_zero, List.getElem?_cons_succ]; rfl) (by kernel_rfl) (by kernel_rfl) (by kernel_rfl) (Or.inl ⟨by rfl, ?dy127⟩) ?dr127
                case dy127 => (intro w hSw; have hS0 := hSw; (try dsimp only [AheadS] at hSw); go_simp; refine Came.value ?_ hS0; with_reducible rfl)
                try simp only [Act.put, List.setIfInBounds_toArray, List.set_cons_zero, List.set_cons_succ]
                refine wpDet_take (i := 7) (oi := _) (v := ?dv128) (by simp only [List.getElem?_toArray, List.getElem?_cons_zero, List.getElem?_cons_succ]; rfl) (by kernel_rfl) (by kernel_rfl) (by kernel_rfl) (Or.inl ⟨by rfl, ?dy128⟩) ?dr128
                case dy128 => (intro w hSw; have hS0 := hSw; (try dsimp only [AheadS] at hSw); go_simp; refine Came.value ?_ hS0; with_reducible rfl)
                try simp only [Act.put, List.setIfInBounds_toArray, List.set_cons_zero, List.set_cons_succ]
                refine wpDet_take (i := 8) (oi := _) (v := ?dv129) (by simp only [List.getElem?_toArray, List.getElem?_cons_zero, List.getElem?_cons_succ]; rfl) (by kernel_rfl) (by kernel_rfl) (by kernel_rfl) (Or.inl ⟨by rfl, ?dy129⟩) ?dr129
                case dy129 => (intro w hSw; have hS0 := hSw; (try dsimp only [AheadS] at hSw); go_simp; refine Came.value ?_ hS0; with_reducible rfl)
                try simp only [Act.put, List.setIfInBounds_toArray, List.set_cons_zero, List.set_cons_succ]
                refine wpDet_take (i := 9) (oi := _) (v := ?dv130) (by simp only [List.getElem?_toArray, List.getElem?_cons_zero, List.getElem?_cons_succ]; rfl) (by kernel_rfl) (by kernel_rfl) (by kernel_rfl) (Or.inl ⟨by rfl, ?dy130⟩) ?dr130
                case dy130 => (intro w hSw; have hS0 := hSw; (try dsimp only [AheadS] at hSw); go_simp; refine Came.value ?_ hS0; with_reducible rfl)
                try simp only [Act.put, List.setIfInBounds_toArray, List.set_cons_zero, List.set_cons_succ]
                refine wpDet_take (i := 10) (oi := _) (v := ?dv131) (by simp only [List.getElem?_toArray, List.getElem?_cons_zero, List.getElem?_cons_succ]; rfl) (by kernel_rfl) (by kernel_rfl) (by kernel_rfl) (Or.inl ⟨by rfl, ?dy131⟩) ?dr131
                case dy131 => (intro w hSw; have hS0 := hSw; (try dsimp only [AheadS] at hSw); go_simp; refine Came.value ?_ hS0; with_reducible rfl)
                try simp only [Act.put, List.setIfInBounds_toArray, List.set_cons_zero, List.set_cons_succ]
                refine wpDet_take (i := 11) (oi := _) (v := ?dv132) (by simp only [List.getElem?_toArray, List.getElem?_cons_zero, List.getElem?_cons_succ]; rfl) (by kernel_rfl) (by kernel_rfl) (by kernel_rfl) (Or.inl ⟨by rfl, ?dy132⟩) ?dr132
                case dy132 => (intro w hSw; have hS0 := hSw; (try dsimp only [AheadS] at hSw); go_simp; refine Came.value ?_ hS0; with_reducible rfl)
                try simp only [Act.put, List.setIfInBounds_toArray, List.set_cons_zero, List.set_cons_succ]
                refine wpDet_take (i := 12) (oi := _) (v := ?dv133) (by simp only [List.getElem?_toArray, List.getElem?_cons_zero, List.getElem?_cons_succ]; rfl) (by kernel_rfl) (by kernel_rfl) (by kernel_rfl) (Or.inl ⟨by rfl, ?dy133⟩) ?dr133
                case dy133 => (intro w hSw; go_simp; exact Came.call ((rless_any _ _ _ _ false HA.out w).mono fun e w' ⟨he, hf⟩ => ⟨he, hSw.keep hf⟩) (by with_reducible rfl))
                try simp only [Act.put, List.setIfInBounds_toArray, List.set_cons_zero, List.set_cons_succ]
                refine wpDet_take (i := 13) (oi := _) (v := ?dv134) (by simp only [List.getElem?_toArray, List.getElem?_cons_zero, List.getElem?_cons_succ]; rfl) (by kernel_rfl) (by kernel_rfl) (by kernel_rfl) (Or.inl ⟨by rfl, ?dy134⟩) ?dr134
                case dy134 => (intro w hSw; have hS0 := hSw; (try dsimp only [AheadS] at hSw); go_simp; refine Came.value ?_ hS0; with_reducible rfl)
                try simp only [Act.put, List.setIfInBounds_toArray, List.set_cons_zero, List.set_cons_succ]
                refine wpDet_take (i := 14) (oi := _) (v := ?dv135) (by simp only [List.getElem?_toArray, List.getElem?_cons_zero, List.getElem?_cons_succ]; rfl) (by kernel_rfl) (by kernel_rfl) (by kernel_rfl) (Or.inl ⟨by rfl, ?dy135⟩) ?dr135
                case dy135 => (intro w hSw; have hS0 := hSw; (try dsimp only [AheadS] at hSw); go_simp; refine Came.value ?_ hS0; with_reducible rfl)
                try simp only [Act.put, List.setIfInBounds_toArray, List.set_cons_zero, List.set_cons_succ]
                clear hn0 hn3 hn1 hn2
                refine wpDet_done (by kernel_rfl) ?_ _
                intro w3 hS3
                have hf3 := hS3.1
                clear hS3
                have k1 := row5 (hf3.heap HRX.out (by simp))
                have k2 := row5 (hf3.heap HBX.out.1 (by simp))
                have HF3 := Lib.hid ((HF.out.trans HFX.out).trans hf3)
                have HG3 := Lib.hid (HFX.out.trans hf3)
                clear hf3
                go_wp2
                go_ret
                exact ⟨by rw [HRE.out, HR.out]; rfl, HF3.out⟩
              · go_wp2
                clear j1 k1 x0 x1 x2 x3 x4
                have hn0 : (0 : Int) ≤ (k : Int) - 1 := by omega
                have hn3 : (k : Int) - 1 < (l.length : Int) := by omega
                have hn1 : ((k : Int) - 1).toNat = k - 1 := by omega
                have hn2 : IntKind.i64.wrap ((k : Int) - 1) = (k : Int) - 1 := IntWalk.i64_in _ (by omega)
                have k1 := row5 HRX.out
                have k2 := row2 HBX.out.2
                refine wp_region_det (S := AheadS ((wr.alloc (.cells #[.int .i64 e0, .int .i64 e1, .int .i64 e2, .slice z1 el.length d1, .int .i64 e4] 40)).alloc (.cells #[.int .i64 e0, .int .i64 e1] 35)) w.heap.size (.slice (some ⟨bl, off, none⟩) l.length ce) bl (off + (k - 1) * 5) qf qd (wr.heap.size + 1) e0 e1) (by kernel_rfl) (AheadS.keep ⟨Fr.refl _ _, k1.2.2.2.2, HFX.out.cell HQ0.out (by simp), HFX.out.cell HQ1.out (by simp), k2.1, k2.2⟩ (Fr.drew _ _)) ?_
                clear k1 k2
                refine wpDet_take (i := 0) (oi := _) (v := ?dv136) (by simp only [List.getElem?_toArray, List.getElem?_cons_zero]; rfl) (by kernel_rfl) (by kernel_rfl) (by kernel_rfl) (Or.inl ⟨by rfl, ?dy136⟩) ?dr136
                case dy136 => (intro w hSw; have hS0 := hSw; (try dsimp only [AheadS] at hSw); go_simp; refine Came.value ?_ hS0; with_reducible rfl)
                try simp only [Act.put, List.setIfInBounds_toArray, List.set_cons_zero, List.set_cons_succ]
                refine wpDet_take (i := 1) (oi := _) (v := ?dv137) (by simp only [List.getElem?_toArray, List.getElem?_cons_zero, List.getElem?_cons_succ]; rfl) (by kernel_rfl) (by kernel_rfl) (by kernel_rfl) (Or.inl ⟨by rfl, ?dy137⟩) ?dr137
                case dy137 => (intro w hSw; have hS0 := hSw; (try dsimp only [AheadS] at hSw); go_simp; refine Came.value ?_ hS0; with_reducible rfl)
                try simp only [Act.put, List.setIfInBounds_toArray, List.set_cons_zero, List.set_cons_succ]
                refine wpDet_take (i := 2) (oi := _) (v := ?dv138) (by simp only [List.getElem?_toArray, List.getElem?_cons_zero, List.getElem?_cons_succ]; rfl) (by kernel_rfl) (by kernel_rfl) (by kernel_rfl) (Or.inl ⟨by rfl, ?dy138⟩) ?dr138
                case dy138 => (intro w hSw; have hS0 := hSw; (try dsimp only [AheadS] at hSw); go_simp; refine Came.value ?_ hS0; with_reducible rfl)
                try simp only [Act.put, List.setIfInBounds_toArray, List.set_cons_zero, List.set_cons_succ]
                refine wpDet_take (i := 3) (oi := _) (v := ?dv139) (by simp only [List.getElem?_toArray, List.getElem?_cons_zero, List.getElem?_cons_succ]; rfl) (by kernel_rfl) (by kernel_rfl) (by kernel_rfl) (Or.inl ⟨by rfl, ?dy139⟩) ?dr139
                case dy139 => (intro w hSw; have hS0 := hSw; (try dsimp only [AheadS] at hSw); go_simp; refine Came.value ?_ hS0; with_reducible rfl)
                try simp only [Act.put, List.setIfInBounds_toArray, List.set_cons_zero, List.set_cons_succ]
                refine wpDet_take (i := 4) (oi := _) (v := ?dv140) (by simp only [List.getElem?_toArray, List.getElem?_cons_zero, List.getElem?_cons_succ]; rfl) (by kernel_rfl) (by kernel_rfl) (by kernel_rfl) (Or.inl ⟨by rfl, ?dy140⟩) ?dr140
                case dy140 => (intro w hSw; have hS0 := hSw; (try dsimp only [AheadS] at hSw); go_simp; refine Came.value ?_ hS0; with_reducible rfl)
                try simp only [Act.put, List.setIfInBounds_toArray, List.set_cons_zero, List.set_cons_succ]
                refine wpDet_take (i := 5) (oi := _) (v := ?dv141) (by simp only [List.getElem?_toArray, List.getElem?_cons_zero, List.getElem?_cons_succ]; rfl) (by kernel_rfl) (by kernel_rfl) (by kernel_rfl) (Or.inl ⟨by rfl, ?dy141⟩) ?dr141
                case dy141 => (intro w hSw; have hS0 := hSw; (try dsimp only [AheadS] at hSw); go_simp; refine Came.value ?_ hS0; with_reducible rfl)
                try simp only [Act.put, List.setIfInBounds_toArray, List.set_cons_zero, List.set_cons_succ]
                refine wpDet_take (i := 6) (oi := _) (v := ?dv142) (by simp only [List.getElem?_toArray, List.getElem?_cons_zero, List.getElem?_cons_succ]; rfl) (by kernel_rfl) (by kernel_rfl) (by kernel_rfl) (Or.inl ⟨by rfl, ?dy142⟩) ?dr142
                case dy142 => (intro w hSw; have hS0 := hSw; (try dsimp only [AheadS] at hSw); go_simp; refine Came.value ?_ hS0; with_reducible rfl)
                try simp only [Act.put, List.setIfInBounds_toArray, List.set_cons_zero, List.set_cons_succ]
                refine wpDet_take (i := 7) (oi := _) (v := ?dv143) (by simp only [List.getElem?_toArray, List.getElem?_cons_zero, List.getElem?_cons_succ]; rfl) (by kernel_rfl) (by kernel_rfl) (by kernel_rfl) (Or.inl ⟨by rfl, ?dy143⟩) ?dr143
                case dy143 => (intro w hSw; have hS0 := hSw; (try dsimp only [AheadS] at hSw); go_simp; refine Came.value ?_ hS0; with_reducible rfl)
                try simp only [Act.put, List.setIfInBounds_toArray, List.set_cons_zero, List.set_cons_succ]
                refine wpDet_take (i := 8) (oi := _) (v := ?dv144) (by simp only [List.getElem?_toArray, List.getElem?_cons_zero, List.getElem?_cons_succ]; rfl) (by kernel_rfl) (by kernel_rfl) (by kernel_rfl) (Or.inl ⟨by rfl, ?dy144⟩) ?dr144
                case dy144 => (intro w hSw; have hS0 := hSw; (try dsimp only [AheadS] at hSw); go_simp; refine Came.value ?_ hS0; with_reducible rfl)
                try simp only [Act.put, List.setIfInBounds_toArray, List.set_cons_zero, List.set_cons_succ]
                refine wpDet_take (i := 9) (oi := _) (v := ?dv145) (by simp only [List.getElem?_toArray, List.getElem?_cons_zero, List.getElem?_cons_succ]; rfl) (by kernel_rfl) (by kernel_rfl) (by kernel_rfl) (Or.inl ⟨by rfl, ?dy145⟩) ?dr145
                case dy145 => (intro w hSw; have hS0 := hSw; (try dsimp only [AheadS] at hSw); go_simp; refine Came.value ?_ hS0; with_reducible rfl)
                try simp only [Act.put, List.setIfInBounds_toArray, List.set_cons_zero, List.set_cons_succ]
                refine wpDet_take (i := 10) (oi := _) (v := ?dv146) (by simp only [List.getElem?_toArray, List.getElem?_cons_zero, List.getElem?_cons_succ]; rfl) (by kernel_rfl) (by kernel_rfl) (by kernel_rfl) (Or.inl ⟨by rfl, ?dy146⟩) ?dr146
                case dy146 => (intro w hSw; have hS0 := hSw; (try dsimp only [AheadS] at hSw); go_simp; refine Came.value ?_ hS0; with_reducible rfl)
                try simp only [Act.put, List.setIfInBounds_toArray, List.set_cons_zero, List.set_cons_succ]
                refine wpDet_take (i := 11) (oi := _) (v := ?dv147) (by simp only [List.getElem?_toArray, List.getElem?_cons_zero, List.getElem?_cons_succ]; rfl) (by kernel_rfl) (by kernel_rfl) (by kernel_rfl) (Or.inl ⟨by rfl, ?dy147⟩) ?dr147
                case dy147 => (intro w hSw; have hS0 := hSw; (try dsimp only [AheadS] at hSw); go_simp; refine Came.value ?_ hS0; with_reducible rfl)
                try simp only [Act.put, List.setIfInBounds_toArray, List.set_cons_zero, List.set_cons_succ]
                refine wpDet_take (i := 12) (oi := _) (v := ?dv148) (by simp only [List.getElem?_toArray, List.getElem?_cons_zero, List.getElem?_cons_succ]; rfl) (by kernel_rfl) (by kernel_rfl) (by kernel_rfl) (Or.inl ⟨by rfl, ?dy148⟩) ?dr148
                case dy148 => (intro w hSw; go_simp; exact Came.call ((rless_any _ _ _ _ false HA.out w).mono fun e w' ⟨he, hf⟩ => ⟨he, hSw.keep hf⟩) (by with_reducible rfl))
                try simp only [Act.put, List.setIfInBounds_toArray, List.set_cons_zero, List.set_cons_succ]
                refine wpDet_take (i := 13) (oi := _) (v := ?dv149) (by simp only [List.getElem?_toArray, List.getElem?_cons_zero, List.getElem?_cons_succ]; rfl) (by kernel_rfl) (by kernel_rfl) (by kernel_rfl) (Or.inl ⟨by rfl, ?dy149⟩) ?dr149
                case dy149 => (intro w hSw; have hS0 := hSw; (try dsimp only [AheadS] at hSw); go_simp; refine Came.value ?_ hS0; with_reducible rfl)
                try simp only [Act.put, List.setIfInBounds_toArray, List.set_cons_zero, List.set_cons_succ]
                refine wpDet_take (i := 14) (oi := _) (v := ?dv150) (by simp only [List.getElem?_toArray, List.getElem?_cons_zero, List.getElem?_cons_succ]; rfl) (by kernel_rfl) (by kernel_rfl) (by kernel_rfl) (Or.inl ⟨by rfl, ?dy150⟩) ?dr150
                case dy150 => (intro w hSw; have hS0 := hSw; (try dsimp only [AheadS] at hSw); go_simp; refine Came.value ?_ hS0; with_reducible rfl)
                try simp only [Act.put, List.setIfInBounds_toArray, List.set_cons_zero, List.set_cons_succ]
                clear hn0 hn3 hn1 hn2
                refine wpDet_done (by kernel_rfl) ?_ _
                intro w3 hS3
                have hf3 := hS3.1
                clear hS3
                have k1 := row5 (hf3.heap HRX.out (by simp))
                have k2 := row5 (hf3.heap HBX.out.1 (by simp))
                have HF3 := Lib.hid ((HF.out.trans HFX.out).trans hf3)
                have HG3 := Lib.hid (HFX.out.trans hf3)
                clear hf3
                go_wp2
                go_ret
                exact ⟨by rw [HRE.out, HR.out]; rfl, HF3.out⟩
              · go_wp2_with fail
                refine (among_any _ ms e4 _ HD.out _ (HM.out.keep (HF.out.trans HFX.out))).mono ?_
                rintro e w2 ⟨rfl, rfl⟩
                go_wp2
                clear j1 k1 x0 x1 x2 x3 x4
                have hn0 : (0 : Int) ≤ (k : Int) - 1 := by omega
                have hn3 : (k : Int) - 1 < (l.length : Int) := by omega
                have hn1 : ((k : Int) - 1).toNat = k - 1 := by omega
                have hn2 : IntKind.i64.wrap ((k : Int) - 1) = (k : Int) - 1 := IntWalk.i64_in _ (by omega)
                have k1 := row5 HRX.out
                have k2 := row2 HBX.out.2
                refine wp_region_det (S := AheadS ((wr.alloc (.cells #[.int .i64 e0, .int .i64 e1, .int .i64 e2, .slice z1 el.length d1, .int .i64 e4] 40)).alloc (.cells #[.int .i64 e0, .int .i64 e1] 35)) w.heap.size (.slice (some ⟨bl, off, none⟩) l.length ce) bl (off + (k - 1) * 5) qf qd (wr.heap.size + 1) e0 e1) (by kernel_rfl) (AheadS.keep ⟨Fr.refl _ _, k1.2.2.2.2, HFX.out.cell HQ0.out (by simp), HFX.out.cell HQ1.out (by simp), k2.1, k2.2⟩ (Fr.drew _ _)) ?_
                clear k1 k2
                refine wpDet_take (i := 0) (oi := _) (v := ?dv151) (by simp only [List.getElem?_toArray, List.getElem?_cons_zero]; rfl) (by kernel_rfl) (by kernel_rfl) (by kernel_rfl) (Or.inl ⟨by rfl, ?dy151⟩) ?dr151
                case dy151 => (intro w hSw; have hS0 := hSw; (try dsimp only [AheadS] at hSw); go_simp; refine Came.value ?_ hS0; with_reducible rfl)
                try simp only [Act.put, List.setIfInBounds_toArray, List.set_cons_zero, List.set_cons_succ]
                refine wpDet_take (i := 1) (oi := _) (v := ?dv152) (by simp only [List.getElem?_toArray, List.getElem?_cons_zero, List.getElem?_cons_succ]; rfl) (by kernel_rfl) (by kernel_rfl) (by kernel_rfl) (Or.inl ⟨by rfl, ?dy152⟩) ?dr152
                case dy152 => (intro w hSw; have hS0 := hSw; (try dsimp only [AheadS] at hSw); go_simp; refine Came.value ?_ hS0; with_reducible rfl)
                try simp only [Act.put, List.setIfInBounds_toArray, List.set_cons_zero, List.set_cons_succ]
                refine wpDet_take (i := 2) (oi := _) (v := ?dv153) (by simp only [List.getElem?_toArray, List.getElem?_cons_zero, List.getElem?_cons_succ]; rfl) (by kernel_rfl) (by kernel_rfl) (by kernel_rfl) (Or.inl ⟨by rfl, ?dy153⟩) ?dr153
                case dy153 => (intro w hSw; have hS0 := hSw; (try dsimp only [AheadS] at hSw); go_simp; refine Came.value ?_ hS0; with_reducible rfl)
                try simp only [Act.put, List.setIfInBounds_toArray, List.set_cons_zero, List.set_cons_succ]
                refine wpDet_take (i := 3) (oi := _) (v := ?dv154) (by simp only [List.getElem?_toArray, List.getElem?_cons_zero, List.getElem?_cons_succ]; rfl) (by kernel_rfl) (by kernel_rfl) (by kernel_rfl) (Or.inl ⟨by rfl, ?dy154⟩) ?dr154
                case dy154 => (intro w hSw; have hS0 := hSw; (try dsimp only [AheadS] at hSw); go_simp; refine Came.value ?_ hS0; with_reducible rfl)
                try simp only [Act.put, List.setIfInBounds_toArray, List.set_cons_zero, List.set_cons_succ]
                refine wpDet_take (i := 4) (oi := _) (v := ?dv155) (by simp only [List.getElem?_toArray, List.getElem?_cons_zero, List.getElem?_cons_succ]; rfl) (by kernel_rfl) (by kernel_rfl) (by kernel_rfl) (Or.inl ⟨by rfl, ?dy155⟩) ?dr155
                case dy155 => (intro w hSw; have hS0 := hSw; (try dsimp only [AheadS] at hSw); go_simp; refine Came.value ?_ hS0; with_reducible rfl)
                try simp only [Act.put, List.setIfInBounds_toArray, List.set_cons_zero, List.set_cons_succ]
                refine wpDet_take (i := 5) (oi := _) (v := ?dv156) (by simp only [List.getElem?_toArray, List.getElem?_cons_zero, List.getElem?_cons_succ]; rfl) (by kernel_rfl) (by kernel_rfl) (by kernel_rfl) (Or.inl ⟨by rfl, ?dy156⟩) ?dr156
                case dy156 => (intro w hSw; have hS0 := hSw; (try dsimp only [AheadS] at hSw); go_simp; refine Came.value ?_ hS0; with_reducible rfl)
                try simp only [Act.put, List.setIfInBounds_toArray, List.set_cons_zero, List.set_cons_succ]
                refine wpDet_take (i := 6) (oi := _) (v := ?dv157) (by simp only [List.getElem?_toArray, List.getElem?_cons_zero, List.getElem?_cons_succ]; rfl) (by kernel_rfl) (by kernel_rfl) (by kernel_rfl) (Or.inl ⟨by rfl, ?dy157⟩) ?dr157
                case dy157 => (intro w hSw; have hS0 := hSw; (try dsimp only [AheadS] at hSw); go_simp; refine Came.value ?_ hS0; with_reducible rfl)
                try simp only [Act.put, List.setIfInBounds_toArray, List.set_cons_zero, List.set_cons_succ]
                refine wpDet_take (i := 7) (oi := _) (v := ?dv158) (by simp only [List.getElem?_toArray, List.getElem?_cons_zero, List.getElem?_cons_succ]; rfl) (by kernel_rfl) (by kernel_rfl) (by kernel_rfl) (Or.inl ⟨by rfl, ?dy158⟩) ?dr158
                case dy158 => (intro w hSw; have hS0 := hSw; (try dsimp only [AheadS] at hSw); go_simp; refine Came.value ?_ hS0; with_reducible rfl)
                try simp only [Act.put, List.setIfInBounds_toArray, List.set_cons_zero, List.set_cons_succ]
                refine wpDet_take (i := 8) (oi := _) (v := ?dv159) (by simp only [List.getElem?_toArray, List.getElem?_cons_zero, List.getElem?_cons_succ]; rfl) (by kernel_rfl) (by kernel_rfl) (by kernel_rfl) (Or.inl ⟨by rfl, ?dy159⟩) ?dr159
                case dy159 => (intro w hSw; have hS0 := hSw; (try dsimp only [AheadS] at hSw); go_simp; refine Came.value ?_ hS0; with_reducible rfl)
                try simp only [Act.put, List.setIfInBounds_toArray, List.set_cons_zero, List.set_cons_succ]
                refine wpDet_take (i := 9) (oi := _) (v := ?dv160) (by simp only [List.getElem?_toArray, List.getElem?_cons_zero, List.getElem?_cons_succ]; rfl) (by kernel_rfl) (by kernel_rfl) (by kernel_rfl) (Or.inl ⟨by rfl, ?dy160⟩) ?dr160
                case dy160 => (intro w hSw; have hS0 := hSw; (try dsimp only [AheadS] at hSw); go_simp; refine Came.value ?_ hS0; with_reducible rfl)
                try simp only [Act.put, List.setIfInBounds_toArray, List.set_cons_zero, List.set_cons_succ]
                refine wpDet_take (i := 10) (oi := _) (v := ?dv161) (by simp only [List.getElem?_toArray, List.getElem?_cons_zero, List.getElem?_cons_succ]; rfl) (by kernel_rfl) (by kernel_rfl) (by kernel_rfl) (Or.inl ⟨by rfl, ?dy161⟩) ?dr161
                case dy161 => (intro w hSw; have hS0 := hSw; (try dsimp only [AheadS] at hSw); go_simp; refine Came.value ?_ hS0; with_reducible rfl)
                try simp only [Act.put, List.setIfInBounds_toArray, List.set_cons_zero, List.set_cons_succ]
                refine wpDet_take (i := 11) (oi := _) (v := ?dv162) (by simp only [List.getElem?_toArray, List.getElem?_cons_zero, List.getElem?_cons_succ]; rfl) (by kernel_rfl) (by kernel_rfl) (by kernel_rfl) (Or.inl ⟨by rfl, ?dy162⟩) ?dr162
                case dy162 => (intro w hSw; have hS0 := hSw; (try dsimp only [AheadS] at hSw); go_simp; refine Came.value ?_ hS0; with_reducible rfl)
                try simp only [Act.put, List.setIfInBounds_toArray, List.set_cons_zero, List.set_cons_succ]
                refine wpDet_take (i := 12) (oi := _) (v := ?dv163) (by simp only [List.getElem?_toArray, List.getElem?_cons_zero, List.getElem?_cons_succ]; rfl) (by kernel_rfl) (by kernel_rfl) (by kernel_rfl) (Or.inl ⟨by rfl, ?dy163⟩) ?dr163
                case dy163 => (intro w hSw; go_simp; exact Came.call ((rless_any _ _ _ _ false HA.out w).mono fun e w' ⟨he, hf⟩ => ⟨he, hSw.keep hf⟩) (by with_reducible rfl))
                try simp only [Act.put, List.setIfInBounds_toArray, List.set_cons_zero, List.set_cons_succ]
                refine wpDet_take (i := 13) (oi := _) (v := ?dv164) (by simp only [List.getElem?_toArray, List.getElem?_cons_zero, List.getElem?_cons_succ]; rfl) (by kernel_rfl) (by kernel_rfl) (by kernel_rfl) (Or.inl ⟨by rfl, ?dy164⟩) ?dr164
                case dy164 => (intro w hSw; have hS0 := hSw; (try dsimp only [AheadS] at hSw); go_simp; refine Came.value ?_ hS0; with_reducible rfl)
                try simp only [Act.put, List.setIfInBounds_toArray, List.set_cons_zero, List.set_cons_succ]
                refine wpDet_take (i := 14) (oi := _) (v := ?dv165) (by simp only [List.getElem?_toArray, List.getElem?_cons_zero, List.getElem?_cons_succ]; rfl) (by kernel_rfl) (by kernel_rfl) (by kernel_rfl) (Or.inl ⟨by rfl, ?dy165⟩) ?dr165
                case dy165 => (intro w hSw; have hS0 := hSw; (try dsimp only [AheadS] at hSw); go_simp; refine Came.value ?_ hS0; with_reducible rfl)
                try simp only [Act.put, List.setIfInBounds_toArray, List.set_cons_zero, List.set_cons_succ]
                clear hn0 hn3 hn1 hn2
                refine wpDet_done (by kernel_rfl) ?_ _
                intro w3 hS3
                have hf3 := hS3.1
                clear hS3
                have k1 := row5 (hf3.heap HRX.out (by simp))
                have k2 := row5 (hf3.heap HBX.out.1 (by simp))
                have HF3 := Lib.hid ((HF.out.trans HFX.out).trans hf3)
                have HG3 := Lib.hid (HFX.out.trans hf3)
                clear hf3
                go_wp2
                go_ret
                exact ⟨by rw [HRE.out, HR.out]; rfl, HF3.out⟩
              · go_wp2_with fail
                refine (among_any _ ms e4 _ HD.out _ (HM.out.keep (HF.out.trans HFX.out))).mono ?_
                rintro e w2 ⟨rfl, rfl⟩
                go_wp2
                clear j1 k1 x0 x1 x2 x3 x4
                have hn0 : (0 : Int) ≤ (k : Int) - 1 := by omega
                have hn3 : (k : Int) - 1 < (l.length : Int) := by omega
                have hn1 : ((k : Int) - 1).toNat = k - 1 := by omega
                have hn2 : IntKind.i64.wrap ((k : Int) - 1) = (k : Int) - 1 := IntWalk.i64_in _ (by omega)
                have k1 := row5 HRX.out
                have k2 := row2 HBX.out.2
                refine wp_region_det (S := AheadS ((wr.alloc (.cells #[.int .i64 e0, .int .i64 e1, .int .i64 e2, .slice z1 el.length d1, .int .i64 e4] 40)).alloc (.cells #[.int .i64 e0, .int .i64 e1] 35)) w.heap.size (.slice (some ⟨bl, off, none⟩) l.length ce) bl (off + (k - 1) * 5) qf qd (wr.heap.size + 1) e0 e1) (by kernel_rfl) (AheadS.keep ⟨Fr.refl _ _, k1.2.2.2.2, HFX.out.cell HQ0.out (by simp), HFX.out.cell HQ1.out (by simp), k2.1, k2.2⟩ (Fr.drew _ _)) ?_
                clear k1 k2
                refine wpDet_take (i := 0) (oi := _) (v := ?dv166) (by simp only [List.getElem?_toArray, List.getElem?_cons_zero]; rfl) (by kernel_rfl) (by kernel_rfl) (by kernel_rfl) (Or.inl ⟨by rfl, ?dy166⟩) ?dr166
                case dy166 => (intro w hSw; have hS0 := hSw; (try dsimp only [AheadS] at hSw); go_simp; refine Came.value ?_ hS0; with_reducible rfl)
                try simp only [Act.put, List.setIfInBounds_toArray, List.set_cons_zero, List.set_cons_succ]
                refine wpDet_take (i := 1) (oi := _) (v := ?dv167) (by simp only [List.getElem?_toArray, List.getElem?_cons_zero, List.getElem?_cons_succ]; rfl) (by kernel_rfl) (by kernel_rfl) (by kernel_rfl) (Or.inl ⟨by rfl, ?dy167⟩) ?dr167
                case dy167 => (intro w hSw; have hS0 := hSw; (try dsimp only [AheadS] at hSw); go_simp; refine Came.value ?_ hS0; with_reducible rfl)
                try simp only [Act.put, List.setIfInBounds_toArray, List.set_cons_zero, List.set_cons_succ]
                refine wpDet_take (i := 2) (oi := _) (v := ?dv168) (by simp only [List.getElem?_toArray, List.getElem?_cons_zero, List.getElem?_cons_succ]; rfl) (by kernel_rfl) (by kernel_rfl) (by kernel_rfl) (Or.inl ⟨by rfl, ?dy168⟩) ?dr168
                case dy168 => (intro w hSw; have hS0 := hSw; (try dsimp only [AheadS] at hSw); go_simp; refine Came.value ?_ hS0; with_reducible rfl)
                try simp only [Act.put, List.setIfInBounds_toArray, List.set_cons_zero, List.set_cons_succ]
                refine wpDet_take (i := 3) (oi := _) (v := ?dv169) (by simp only [List.getElem?_toArray, List.getElem?_cons_zero, List.getElem?_cons_succ]; rfl) (by kernel_rfl) (by kernel_rfl) (by kernel_rfl) (Or.inl ⟨by rfl, ?dy169⟩) ?dr169
                case dy169 => (intro w hSw; have hS0 := hSw; (try dsimp only [AheadS] at hSw); go_simp; refine Came.value ?_ hS0; with_reducible rfl)
                try simp only [Act.put, List.setIfInBounds_toArray, List.set_cons_zero, List.set_cons_succ]
                refine wpDet_take (i := 4) (oi := _) (v := ?dv170) (by simp only [List.getElem?_toArray, List.getElem?_cons_zero, List.getElem?_cons_succ]; rfl) (by kernel_rfl) (by kernel_rfl) (by kernel_rfl) (Or.inl ⟨by rfl, ?dy170⟩) ?dr170
                case dy170 => (intro w hSw; have hS0 := hSw; (try dsimp only [AheadS] at hSw); go_simp; refine Came.value ?_ hS0; with_reducible rfl)
                try simp only [Act.put, List.setIfInBounds_toArray, List.set_cons_zero, List.set_cons_succ]
                refine wpDet_take (i := 5) (oi := _) (v := ?dv171) (by simp only [List.getElem?_toArray, List.getElem?_cons_zero, List.getElem?_cons_succ]; rfl) (by kernel_rfl) (by kernel_rfl) (by kernel_rfl) (Or.inl ⟨by rfl, ?dy171⟩) ?dr171
                case dy171 => (intro w hSw; have hS0 := hSw; (try dsimp only [AheadS] at hSw); go_simp; refine Came.value ?_ hS0; with_reducible rfl)
                try simp only [Act.put, List.setIfInBounds_toArray, List.set_cons_zero, List.set_cons_succ]
                refine wpDet_take (i := 6) (oi := _) (v := ?dv172) (by simp only [List.getElem?_toArray, List.getElem?_cons_zero, List.getElem?_cons_succ]; rfl) (by kernel_rfl) (by kernel_rfl) (by kernel_rfl) (Or.inl ⟨by rfl, ?dy172⟩) ?dr172
                case dy172 => (intro w hSw; have hS0 := hSw; (try dsimp only [AheadS] at hSw); go_simp; refine Came.value ?_ hS0; with_reducible rfl)
                try simp only [Act.put, List.setIfInBounds_toArray, List.set_cons_zero, List.set_cons_succ]
                refine wpDet_take (i := 7) (oi := _) (v := ?dv173) (by simp only [List.getElem?_toArray, List.getElem?_cons_zero, List.getElem?_cons_succ]; rfl) (by kernel_rfl) (by kernel_rfl) (by kernel_rfl) (Or.inl ⟨by rfl, ?dy173⟩) ?dr173
                case dy173 => (intro w hSw; have hS0 := hSw; (try dsimp only [AheadS] at hSw); go_simp; refine Came.value ?_ hS0; with_reducible rfl)
                try simp only [Act.put, List.setIfInBounds_toArray, List.set_cons_zero, List.set_cons_succ]
                refine wpDet_take (i := 8) (oi := _) (v := ?dv174) (by simp only [List.getElem?_toArray, List.getElem?_cons_zero, List.getElem?_cons_succ]; rfl) (by kernel_rfl) (by kernel_rfl) (by kernel_rfl) (Or.inl ⟨by rfl, ?dy174⟩) ?dr174
                case dy174 => (intro w hSw; have hS0 := hSw; (try dsimp only [AheadS] at hSw); go_simp; refine Came.value ?_ hS0; with_reducible rfl)
                try simp only [Act.put, List.setIfInBounds_toArray, List.set_cons_zero, List.set_cons_succ]
                refine wpDet_take (i := 9) (oi := _) (v := ?dv175) (by simp only [List.getElem?_toArray, List.getElem?_cons_zero, List.getElem?_cons_succ]; rfl) (by kernel_rfl) (by kernel_rfl) (by kernel_rfl) (Or.inl ⟨by rfl, ?dy175⟩) ?dr175
                case dy175 => (intro w hSw; have hS0 := hSw; (try dsimp only [AheadS] at hSw); go_simp; refine Came.value ?_ hS0; with_reducible rfl)
                try simp only [Act.put, List.setIfInBounds_toArray, List.set_cons_zero, List.set_cons_succ]
                refine wpDet_take (i := 10) (oi := _) (v := ?dv176) (by simp only [List.getElem?_toArray, List.getElem?_cons_zero, List.getElem?_cons_succ]; rfl) (by kernel_rfl) (by kernel_rfl) (by kernel_rfl) (Or.inl ⟨by rfl, ?dy176⟩) ?dr176
                case dy176 => (intro w hSw; have hS0 := hSw; (try dsimp only [AheadS] at hSw); go_simp; refine Came.value ?_ hS0; with_reducible rfl)
                try simp only [Act.put, List.setIfInBounds_toArray, List.set_cons_zero, List.set_cons_succ]
                refine wpDet_take (i := 11) (oi := _) (v := ?dv177) (by simp only [List.getElem?_toArray, List.getElem?_cons_zero, List.getElem?_cons_succ]; rfl) (by kernel_rfl) (by kernel_rfl) (by kernel_rfl) (Or.inl ⟨by rfl, ?dy177⟩) ?dr177
                case dy177 => (intro w hSw; have hS0 := hSw; (try dsimp only [AheadS] at hSw); go_simp; refine Came.value ?_ hS0; with_reducible rfl)
                try simp only [Act.put, List.setIfInBounds_toArray, List.set_cons_zero, List.set_cons_succ]
                refine wpDet_take (i := 12) (oi := _) (v := ?dv178) (by simp only [List.getElem?_toArray, List.getElem?_cons_zero, List.getElem?_cons_succ]; rfl) (by kernel_rfl) (by kernel_rfl) (by kernel_rfl) (Or.inl ⟨by rfl, ?dy178⟩) ?dr178
                case dy178 => (intro w hSw; go_simp; exact Came.call ((rless_any _ _ _ _ false HA.out w).mono fun e w' ⟨he, hf⟩ => ⟨he, hSw.keep hf⟩) (by with_reducible rfl))
                try simp only [Act.put, List.setIfInBounds_toArray, List.set_cons_zero, List.set_cons_succ]
                refine wpDet_take (i := 13) (oi := _) (v := ?dv179) (by simp only [List.getElem?_toArray, List.getElem?_cons_zero, List.getElem?_cons_succ]; rfl) (by kernel_rfl) (by kernel_rfl) (by kernel_rfl) (Or.inl ⟨by rfl, ?dy179⟩) ?dr179
                case dy179 => (intro w hSw; have hS0 := hSw; (try dsimp only [AheadS] at hSw); go_simp; refine Came.value ?_ hS0; with_reducible rfl)
                try simp only [Act.put, List.setIfInBounds_toArray, List.set_cons_zero, List.set_cons_succ]
                refine wpDet_take (i := 14) (oi := _) (v := ?dv180) (by simp only [List.getElem?_toArray, List.getElem?_cons_zero, List.getElem?_cons_succ]; rfl) (by kernel_rfl) (by kernel_rfl) (by kernel_rfl) (Or.inl ⟨by rfl, ?dy180⟩) ?dr180
                case dy180 => (intro w hSw; have hS0 := hSw; (try dsimp only [AheadS] at hSw); go_simp; refine Came.value ?_ hS0; with_reducible rfl)
                try simp only [Act.put, List.setIfInBounds_toArray, List.set_cons_zero, List.set_cons_succ]
                clear hn0 hn3 hn1 hn2
                refine wpDet_done (by kernel_rfl) ?_ _
                intro w3 hS3
                have hf3 := hS3.1
                clear hS3
                have k1 := row5 (hf3.heap HRX.out (by simp))
                have k2 := row5 (hf3.heap HBX.out.1 (by simp))
                have HF3 := Lib.hid ((HF.out.trans HFX.out).trans hf3)
                have HG3 := Lib.hid (HFX.out.trans hf3)
                clear hf3
                go_wp2
                go_ret
                exact ⟨by rw [HRE.out, HR.out]; rfl, HF3.out⟩
        · obtain rfl : k = l.length := by omega
          have HR : Hid (entsC ms none l = 0) := by
            show _ = _
            rw [← hrec, List.drop_length]; rfl
          clear h3 hm3 hrec
          go_wp2
          go_ret
          exact ⟨by rw [HRE.out, HR.out]; rfl, HF.out⟩

end Go.Proofs.Ytldheaamcnmlgaa
