/- Copies of slices and of a frame: the call's own. -/
import Derived.Test.YtpeocdcciecpoaaDoorFRead4
import Derived.Test.YtpeocdcciecpoaaDoorFHold
namespace Go.Proofs.YtpeocdcciecpoaaDoor
open Go.RowKit Fm

theorem own_empty (w : World) (T : TypeId) (size : Nat) : (w.alloc (.cells #[] T)).ownsRow w.heap.size T size (.slice (some ⟨w.heap.size, 0, none⟩) 0 0) 0 [] :=
  ⟨by simp, .inr ⟨w.heap.size, 0, #[], rfl, Nat.le_refl _, heap_alloc_new _ _, Nat.le_refl _, by decide, by simp, by simp⟩⟩
theorem i64_cells {w : World} {x : Addr} {l : List Int} (h3 : 0 < l.length → ∃ b off, some x = some ⟨b, off, none⟩ ∧ ∀ i, i < l.length → w.cell? ⟨b, off + i, none⟩ = some (.int .i64 (l.getD i 0))) : ∀ j u, (i64s l)[j]? = some u → w.cell? (x.add j) = some u := by
  intro j u hj
  obtain ⟨hlt, rfl⟩ := List.getElem?_eq_some_iff.1 hj
  have hl : j < l.length := by simpa [i64s] using hlt
  obtain ⟨b, off, he, hc⟩ := h3 (by omega)
  obtain rfl := Option.some.inj he
  rw [show (⟨b, off, none⟩ : Addr).add j = ⟨b, off + j, none⟩ by simp [Addr.add], hc j hl]
  simp [i64s, hl]
set_option maxHeartbeats 1000000 in
set_option maxRecDepth 100000 in
theorem clone_ints (v : Value) (l : List Int) (w : World) (h : Holds .i64 w v l) (hr : l.length ≤ 1000000) :
    Calls Tryd.prog 36 #[v] w (Gives fun u w' => OwnI w' w.heap.size u l ∧ Fr w w' []) := by
  obtain ⟨a, cap, rfl, h1, h2, h3⟩ := h
  obtain ⟨i0, hi, hz0, hz1, hz2⟩ := info_parts infoI
  cases a with
  | none =>
    have hn : ∀ W, (binOp .eql 24 (.slice none 0 cap) (.slice none 0 0)).run Tryd.prog W = .ok (.bool true) W := fun W => Lib.run_eql_slice_nil W _ _ _ _ _ _ _ Tryd.underlying24
    have h0 : l = [] := by
      cases l with
      | nil => rfl
      | cons x xs => obtain ⟨b, off, h, _⟩ := h3 (by simp); cases h
    subst h0
    go_enter Tryd.func36, Tryd.ntmps36
    go_wp2
    go_ret
    exact gives ⟨⟨rfl, .inl ⟨rfl, rfl⟩⟩, Fr.refl _ _⟩
  | some x =>
    have hn : ∀ W, (binOp .eql 24 (.slice (some x) l.length cap) (.slice none 0 0)).run Tryd.prog W = .ok (.bool false) W := fun W => Lib.run_eql_slice_nil W _ _ _ _ _ _ _ Tryd.underlying24
    have HO := Lib.hid (own_empty w 3 1)
    have HC := Lib.hid (fun j u hj => (Fr.alloc w (.cells #[] 3) []).cell (i64_cells h3 j u hj) (by simp))
    have HL1 : (i64s l).length = l.length * 1 := by simp [i64s]
    go_enter Tryd.func36, Tryd.ntmps36
    go_wp2_with (at_builtin; refine wpList_append_own _ rfl _ _ 24 rfl w.heap.size 3 i0 (.int .i64 0) 1 8 Tryd.underlying24 hi hz0 hz1 hz2 rfl (by decide) _ _ _ rfl HO.out x l.length cap (i64s l) rfl HL1 HC.out (ints_oneCell _ _) (by unfold maxLen; omega) (by omega) (by simp) ?_; intro v' w' hown hg _)
    go_ret
    refine gives ⟨?_, ?_⟩
    · unfold OwnI
      simpa using hown
    · exact Fr.of_grown (grown_new (World.grownBy_alloc w _ none) hg (fun r hr => by cases hr; exact Nat.le_refl _)) []

theorem bdc_one (l : List (Int × Int)) : ∀ u ∈ bdc l, u.oneCell' = true := by
  intro u hu
  obtain ⟨b, _, hb⟩ := List.mem_flatMap.1 hu
  simp only [List.mem_cons, List.not_mem_nil, or_false] at hb
  rcases hb with rfl | rfl <;> rfl
theorem bd_cells {w : World} {x : Addr} {l : List (Int × Int)} (h3 : 0 < l.length → ∃ b off, some x = some ⟨b, off, none⟩ ∧ ∀ i, i < l.length →
    w.cell? ⟨b, off + i * 2, none⟩ = some (.int .i64 (l.getD i (0, 0)).1) ∧ w.cell? ⟨b, off + i * 2 + 1, none⟩ = some (.int .i64 (l.getD i (0, 0)).2)) : ∀ j u, (bdc l)[j]? = some u → w.cell? (x.add j) = some u := by
  intro j u hj
  obtain ⟨hlt, _⟩ := List.getElem?_eq_some_iff.1 hj
  rw [bdc_len] at hlt
  obtain ⟨b, off, he, hc⟩ := h3 (by omega)
  obtain rfl := Option.some.inj he
  have hi : j / 2 < l.length := by omega
  obtain ⟨g0, g1⟩ := bdc_get l (j / 2) hi
  obtain ⟨c0, c1⟩ := hc (j / 2) hi
  rw [show (⟨b, off, none⟩ : Addr).add j = ⟨b, off + j, none⟩ by simp [Addr.add]]
  rcases (by omega : j = j / 2 * 2 ∨ j = j / 2 * 2 + 1) with e | e
  · rw [← e] at g0 c0
    rw [hj] at g0
    rw [c0, g0]
  · rw [Nat.add_assoc, ← e] at c1
    rw [← e] at g1
    rw [hj] at g1
    rw [c1, g1]
set_option maxHeartbeats 1000000 in
set_option maxRecDepth 100000 in
theorem clone_bids (v : Value) (l : List (Int × Int)) (w : World) (h : HB w v l) (hr : l.length ≤ 1000000) :
    Calls Tryd.prog 38 #[v] w (Gives fun u w' => OwnB w' w.heap.size u l ∧ Fr w w' []) := by
  obtain ⟨a, cap, rfl, h1, h2, h3⟩ := h
  obtain ⟨i0, hi, hz0, hz1, hz2⟩ := info_parts infoBd
  cases a with
  | none =>
    have hn : ∀ W, (binOp .eql 59 (.slice none 0 cap) (.slice none 0 0)).run Tryd.prog W = .ok (.bool true) W := fun W => Lib.run_eql_slice_nil W _ _ _ _ _ _ _ Tryd.underlying59
    have h0 : l = [] := by
      cases l with
      | nil => rfl
      | cons x xs => obtain ⟨b, off, h, _⟩ := h3 (by simp); cases h
    subst h0
    go_enter Tryd.func38, Tryd.ntmps38
    go_wp2
    go_ret
    exact gives ⟨⟨rfl, .inl ⟨rfl, rfl⟩⟩, Fr.refl _ _⟩
  | some x =>
    have hn : ∀ W, (binOp .eql 59 (.slice (some x) l.length cap) (.slice none 0 0)).run Tryd.prog W = .ok (.bool false) W := fun W => Lib.run_eql_slice_nil W _ _ _ _ _ _ _ Tryd.underlying59
    have HO := Lib.hid (own_empty w 63 2)
    have HC := Lib.hid (fun j u hj => (Fr.alloc w (.cells #[] 63) []).cell (bd_cells h3 j u hj) (by simp))
    have HL1 := bdc_len l
    go_enter Tryd.func38, Tryd.ntmps38
    go_wp2_with (at_builtin; refine wpList_append_own _ rfl _ _ 59 rfl w.heap.size 63 i0 (.agg #[.int .i64 0, .int .i64 0]) 2 16 Tryd.underlying59 hi hz0 hz1 hz2 rfl (by decide) _ _ _ rfl HO.out x l.length cap (bdc l) rfl HL1 HC.out (bdc_one _) (by unfold maxLen; omega) (by omega) (by simp) ?_; intro v' w' hown hg _)
    go_ret
    refine gives ⟨?_, ?_⟩
    · unfold OwnB
      simpa using hown
    · exact Fr.of_grown (grown_new (World.grownBy_alloc w _ none) hg (fun r hr => by cases hr; exact Nat.le_refl _)) []

theorem list_of' {α : Type} (d : α) (Q : Nat → α → Prop) : ∀ n, (∀ i, i < n → ∃ a, Q i a) → ∃ l : List α, l.length = n ∧ ∀ i, i < n → Q i (l.getD i d)
  | 0, _ => ⟨[], rfl, fun i hi => by omega⟩
  | n + 1, h => by
    obtain ⟨l, hl, hq⟩ := list_of' d Q n (fun i hi => h i (by omega))
    obtain ⟨a, ha⟩ := h n (by omega)
    refine ⟨l ++ [a], by simp [hl], fun i hi => ?_⟩
    by_cases e : i = n
    · subst e
      have : (l ++ [a]).getD i d = a := by simp [List.getD, ← hl]
      rw [this]; exact ha
    · have : (l ++ [a]).getD i d = l.getD i d := by simp [List.getD, List.getElem?_append_left (show i < l.length by omega)]
      rw [this]; exact hq i (by omega)

theorem encs_len (l : List (En × Value)) : (encs l).length = l.length * 5 := by
  induction l with
  | nil => rfl
  | cons b l ih => simp only [encs, enc1, List.flatMap_cons, List.length_append, List.length_cons, List.length_nil] at *; omega
theorem encs_one (l : List (En × Value)) (h : ∀ x ∈ l, x.2.oneCell' = true) : ∀ u ∈ encs l, u.oneCell' = true := by
  intro u hu
  obtain ⟨b, hb0, hb⟩ := List.mem_flatMap.1 hu
  simp only [enc1, List.mem_cons, List.not_mem_nil, or_false] at hb
  rcases hb with rfl | rfl | rfl | rfl | rfl <;> first | rfl | exact h _ hb0
/-- The slice v holds the entries, by their cells. -/
def HX (w : World) (v : Value) (xs : List (En × Value)) : Prop :=
  ∃ a cap, v = .slice a xs.length cap ∧ xs.length ≤ cap ∧ cap ≤ maxLen ∧ (a = none → xs = []) ∧ (∀ x, a = some x → ∀ j u, (encs xs)[j]? = some u → w.cell? (x.add j) = some u) ∧ ∀ x ∈ xs, HB w x.2 x.1.bs
theorem HE.hx {w : World} {v : Value} {l : List En} (h : HE w v l) : ∃ xs, xs.map (·.1) = l ∧ HX w v xs := by
  obtain ⟨a, cap, rfl, h1, h2, h3⟩ := h
  by_cases h0 : 0 < l.length
  · obtain ⟨b, off, rfl, hc⟩ := h3 h0
    obtain ⟨vs, hvs, hq⟩ := list_of' (.bool false) (fun i vb => w.cell? ⟨b, off + i * 5, none⟩ = some (.int .i64 (l.getD i zeroE).fl) ∧ w.cell? ⟨b, off + i * 5 + 1, none⟩ = some (.int .i64 (l.getD i zeroE).di) ∧
      w.cell? ⟨b, off + i * 5 + 2, none⟩ = some (.int .i64 (l.getD i zeroE).ge) ∧ w.cell? ⟨b, off + i * 5 + 3, none⟩ = some vb ∧
      w.cell? ⟨b, off + i * 5 + 4, none⟩ = some (.int .i64 (l.getD i zeroE).aw) ∧ HB w vb (l.getD i zeroE).bs) l.length hc
    have hget : ∀ i, i < l.length → (l.zip vs)[i]? = some (l.getD i zeroE, vs.getD i (.bool false)) := by
      intro i hi
      simp [List.getElem?_zip_eq_some, hi, show i < vs.length by omega]
    have hlen : (l.zip vs).length = l.length := by simp [hvs]
    refine ⟨l.zip vs, by simp [List.map_fst_zip, hvs], some ⟨b, off, none⟩, cap, by rw [hlen], by rw [hlen]; exact h1, h2, (by simp), ?_, ?_⟩
    · intro x hx j u hj
      obtain rfl := Option.some.inj hx
      obtain ⟨hlt, _⟩ := List.getElem?_eq_some_iff.1 hj
      rw [encs_len, hlen] at hlt
      have hi : j / 5 < l.length := by omega
      obtain ⟨g0, g1, g2, g3, g4⟩ := encs_get _ (j / 5) _ (hget _ hi)
      obtain ⟨c0, c1, c2, c3, c4, _⟩ := hq (j / 5) hi
      rw [show (⟨b, off, none⟩ : Addr).add j = ⟨b, off + j, none⟩ by simp [Addr.add]]
      simp only [Nat.add_assoc] at c1 c2 c3 c4
      rcases (by omega : j = j / 5 * 5 ∨ j = j / 5 * 5 + 1 ∨ j = j / 5 * 5 + 2 ∨ j = j / 5 * 5 + 3 ∨ j = j / 5 * 5 + 4) with e | e | e | e | e
      · rw [← e] at g0 c0; rw [hj] at g0; rw [c0, g0]
      · rw [← e] at g1 c1; rw [hj] at g1; rw [c1, g1]
      · rw [← e] at g2 c2; rw [hj] at g2; rw [c2, g2]
      · rw [← e] at g3 c3; rw [hj] at g3; rw [c3, g3]
      · rw [← e] at g4 c4; rw [hj] at g4; rw [c4, g4]
    · intro x hx
      obtain ⟨i, hi⟩ := List.getElem?_of_mem hx
      have hil : i < l.length := by have := (List.getElem?_eq_some_iff.1 hi).1; omega
      rw [hget i hil] at hi
      obtain rfl := Option.some.inj hi
      exact (hq i hil).2.2.2.2.2
  · obtain rfl : l = [] := List.eq_nil_of_length_eq_zero (by omega)
    exact ⟨[], rfl, a, cap, rfl, h1, h2, fun _ => rfl, fun x _ j u hj => by simp [encs] at hj, fun x hx => by simp at hx⟩

set_option maxHeartbeats 1000000 in
set_option maxRecDepth 100000 in
theorem clone_ents (v : Value) (xs : List (En × Value)) (w : World) (h : HX w v xs) (hr : xs.length ≤ 1000000) :
    Calls Tryd.prog 37 #[v] w (Gives fun u w' => w'.ownsRow w.heap.size 61 5 u xs.length (encs xs) ∧ Fr w w' []) := by
  obtain ⟨a, cap, rfl, h1, h2, h3, h4, h5⟩ := h
  have h1c : ∀ x ∈ xs, x.2.oneCell' = true := fun x hx => by obtain ⟨a, c, e⟩ := (h5 x hx).shape; rw [e]; rfl
  obtain ⟨i0, hi, hz0, hz1, hz2⟩ := info_parts infoEn
  cases a with
  | none =>
    obtain rfl := h3 rfl
    have hn : ∀ W, (binOp .eql 25 (.slice none 0 cap) (.slice none 0 0)).run Tryd.prog W = .ok (.bool true) W := fun W => Lib.run_eql_slice_nil W _ _ _ _ _ _ _ Tryd.underlying25
    clear h1c h4 h5
    go_enter Tryd.func37, Tryd.ntmps37
    go_wp2
    go_ret
    exact gives ⟨⟨rfl, .inl ⟨rfl, rfl⟩⟩, Fr.refl _ _⟩
  | some x =>
    have hn : ∀ W, (binOp .eql 25 (.slice (some x) xs.length cap) (.slice none 0 0)).run Tryd.prog W = .ok (.bool false) W := fun W => Lib.run_eql_slice_nil W _ _ _ _ _ _ _ Tryd.underlying25
    have HO := Lib.hid (own_empty w 61 5)
    have HC := Lib.hid (fun j u hj => (Fr.alloc w (.cells #[] 61) []).cell (h4 x rfl j u hj) (by simp))
    have HL1 := encs_len xs
    have H1C := Lib.hid (encs_one xs h1c)
    clear h4 h5 h1c h3
    go_enter Tryd.func37, Tryd.ntmps37
    go_wp2_with (at_builtin; refine wpList_append_own _ rfl _ _ 25 rfl w.heap.size 61 i0 (.agg #[.int .i64 0, .int .i64 0, .int .i64 0, .slice none 0 0, .int .i64 0]) 5 56 Tryd.underlying25 hi hz0 hz1 hz2 rfl (by decide) _ _ _ rfl HO.out x xs.length cap (encs xs) rfl HL1 HC.out H1C.out (by unfold maxLen; omega) (by omega) (by simp) ?_; intro v' w' hown hg _)
    go_ret
    refine gives ⟨?_, ?_⟩
    · simpa using hown
    · exact Fr.of_grown (grown_new (World.grownBy_alloc w _ none) hg (fun r hr => by cases hr; exact Nat.le_refl _)) []
end Go.Proofs.YtpeocdcciecpoaaDoor
