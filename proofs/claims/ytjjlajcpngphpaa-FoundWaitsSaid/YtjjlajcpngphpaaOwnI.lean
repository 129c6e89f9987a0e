/- Slices of integers of the call's own; the document's copy of integers, and whether two are the same. -/
import Derived.Test.YtjjlajcpngphpaaRow
namespace Go.Proofs.Ytjjlajcpngphpaa
open Go.RowKit

theorem infoI : (Try.prog.info? 3).map (fun i => (i.zero, i.size, i.bytes)) = some (some (.int .i64 0), 1, 8) := by kernel_rfl
def i64s (l : List Int) : List Value := l.map (Value.int .i64)
@[simp] theorem i64s_len (l : List Int) : (i64s l).length = l.length := by simp [i64s]
theorem i64s_snoc (l : List Int) (x : Int) : i64s (l ++ [x]) = i64s l ++ [.int .i64 x] := by simp [i64s]
def OwnI (w : World) (B : Nat) (v : Value) (l : List Int) : Prop := w.ownsRow B 3 1 v l.length (i64s l)
abbrev HInts (w : World) (v : Value) (l : List Int) : Prop := Holds .i64 w v l
theorem OwnI.holds {w : World} {B : Nat} {v : Value} {l : List Int} (h : OwnI w B v l) : HInts w v l := by
  rcases h.2 with ⟨rfl, h0⟩ | ⟨g, cap, cur, rfl, hb, hg, hn, hm, hs, ht⟩
  · obtain rfl := List.eq_nil_of_length_eq_zero h0
    exact ⟨none, 0, rfl, by simp, by decide, fun h => absurd h (by simp)⟩
  · refine ⟨_, cap, rfl, hn, hm, fun _ => ⟨g, 0, rfl, fun i hi => ?_⟩⟩
    have e : (i64s l)[i]? = some (.int .i64 (l.getD i 0)) := by simp [i64s, hi]
    rw [← ht] at e
    rw [List.getElem?_take_of_lt (by omega)] at e
    rw [Nat.zero_add, cell_of_row w g i _ _ _ hg]
    simpa using e
theorem OwnI.fr {w w' : World} {B : Nat} {v : Value} {l : List Int} {S : List Nat} (h : OwnI w B v l) (hg : Fr w w' S) (hne : ∀ r ∈ S, v.ownBlock ≠ some r) : OwnI w' B v l := row_fr h hg hne
theorem OwnI.keep {w w' : World} {B : Nat} {v : Value} {l : List Int} (h : OwnI w B v l) (hg : Fr w w' []) : OwnI w' B v l := h.fr hg (by simp)
/-- Behind writes to a block of another kind. -/
theorem OwnI.far {w w' : World} {B p : Nat} {v : Value} {l : List Int} (h : OwnI w B v l) (hg : Fr w w' [p]) {cs : Array Value} {T : TypeId} {fz : Nat × Nat} (hp : w.heap[p]? = some (.cells cs T fz)) (hT : T ≠ 3) : OwnI w' B v l :=
  h.fr hg (by intro r hr; obtain rfl := List.mem_singleton.1 hr; exact row_ne h hp hT)
theorem OwnI.nil (w : World) (B : Nat) : OwnI w B (.slice none 0 0) [] := ⟨rfl, .inl ⟨rfl, rfl⟩⟩
theorem OwnI.snoc {w : World} {B : Nat} {v : Value} {l : List Int} {x : Int} (h : w.ownsRow B 3 1 v (l.length + 1) (i64s l ++ [.int .i64 x])) : OwnI w B v (l ++ [x]) := by
  unfold OwnI
  rw [i64s_snoc]
  simpa using h
theorem OwnI.block {w : World} {B : Nat} {v : Value} {l : List Int} (h : OwnI w B v l) : ∀ r, v.ownBlock = some r → B ≤ r ∧ r < w.heap.size := World.ownsRow.lt h
theorem OwnI.mono {w : World} {B B' : Nat} {v : Value} {l : List Int} (h : OwnI w B v l) (hB : B' ≤ B) : OwnI w B' v l := row_mono h hB
theorem ints_any (v : Value) (l : List Int) (w : World) (h : HInts w v l) (hr : l.length ≤ 1000000) :
    Calls Try.prog 21 #[v] w (Gives fun u w' => OwnI w' w.heap.size u l ∧ w.grownBy w' none) := by
  obtain ⟨a, cap, rfl, h1, h2, h3⟩ := h
  unfold maxLen at h2
  obtain ⟨i0, hi, hz0, hz1, hz2⟩ := info_parts infoI
  go_enter Try.func21, Try.ntmps21
  go_wp2_with (at_make; refine wpList_make_own _ rfl _ _ 22 rfl w.heap.size 3 i0 (.int .i64 0) 1 Try.underlying22 hi hz0 hz1 _ _ _ l.length rfl rfl rfl (by rw [hz2]; omega) (by unfold maxLen; omega) (Nat.le_refl _) ?_; intro w1 hown1 hg1)
  go_loopw [3, 4] (fun out i wr => ∃ k : Nat, k ≤ l.length ∧ i = .int .i64 k ∧ OwnI wr w.heap.size out (l.take k) ∧ w.grownBy wr none) (fun _ i _ => l.length - (intOf i).toNat)
  case atStart => exact ⟨0, Nat.zero_le _, rfl, by simpa [OwnI, i64s] using hown1, hg1⟩
  case round =>
    obtain ⟨k, hk, rfl, hown, hg⟩ := hrel
    by_cases hlt : k < l.length
    · obtain ⟨b, off, rfl, hc⟩ := h3 (by omega)
      have hcell := hg.cell (hc k hlt) (by simp)
      have hsz := hg.size
      have hlen : (l.take k).length = k := by simp; omega
      obtain ⟨x, hx⟩ : ∃ x, x = l.getD k 0 := ⟨_, rfl⟩
      rw [← hx] at hcell
      have hsn := take_snoc l k hlt
      rw [← hx] at hsn
      have HS := Lib.hid hsn
      have HO := Lib.hid hown
      have HL := Lib.hid hlen
      clear hx hsn hc h3 hown hlen
      go_wp2_with (at_builtin; refine wpList_append_own _ rfl _ _ 22 rfl w.heap.size 3 i0 (.int .i64 0) 1 8 Try.underlying22 hi hz0 hz1 hz2 rfl (by decide) _ _ _ rfl (World.ownsRow.alloc HO.out _) ⟨wr.heap.size, 0, none⟩ 1 1 [.int .i64 x] rfl rfl (cell_one_new _ _ _) (one_cell _ _) (by rw [HL.out]; unfold maxLen; omega) (by rw [HL.out]; omega) (by simp; omega) ?_; intro v' w2 hown2 hg2 _)
      have hgr : w.grownBy w2 none := grown_new hg (grown_trans (World.grownBy_alloc wr _ _) hg2) (fun r hr => (HO.out.block r hr).1)
      have ho2 : OwnI w2 w.heap.size v' (l.take (k + 1)) := by rw [HS.out]; exact OwnI.snoc hown2
      have HG := Lib.hid hgr
      have HN := Lib.hid ho2
      clear hgr ho2 hown2 hg2 hg
      go_wp2
      go_roundw
      case rel => exact ⟨k + 1, by omega, by go_num, HN.out, HG.out⟩
      case measure => simp [intOf]; omega
    · obtain rfl : k = l.length := by omega
      rw [List.take_length] at hown
      have HO := Lib.hid hown
      have HG := Lib.hid hg
      clear hown hg h3
      go_wp2
      go_ret
      exact gives ⟨HO.out, HG.out⟩

theorem sameI_any (v1 : Value) (l : List Int) (v2 : Value) (m : List Int) (w : World) (h1 : HInts w v1 l) (h2 : HInts w v2 m) (hr : l.length ≤ 1000000) (b : Bool) (hb : b = decide (l = m)) :
    Calls Try.prog 9 #[v1, v2] w fun e w' => e = .returned (.bool b) ∧ w.grownBy w' none := by
  obtain ⟨a1, c1, rfl, p1, q1, r1⟩ := h1
  obtain ⟨a2, c2, rfl, p2, q2, r2⟩ := h2
  unfold maxLen at q1 q2
  by_cases hl : l.length = m.length
  · have hne : ((l.length : Int) != (m.length : Int)) = false := by simp [hl]
    have HL := Lib.hid hl
    have HB := Lib.hid hb
    clear hl hb
    go_enter Try.func9, Try.ntmps9
    go_wp2
    go_loopw [5] (fun i wr => ∃ k : Nat, k ≤ l.length ∧ i = .int .i64 k ∧ l.take k = m.take k ∧ w.grownBy wr none) (fun i _ => l.length - (intOf i).toNat)
    case atStart => exact ⟨0, Nat.zero_le _, rfl, by simp, grown_refl _ _⟩
    case round =>
      obtain ⟨k, hk, rfl, hpre, hg⟩ := hrel
      have HP := Lib.hid hpre
      clear hpre
      by_cases hlt : k < l.length
      · have hlt2 : k < m.length := by have := HL.out; omega
        obtain ⟨b1, o1, rfl, k1⟩ := r1 (by omega)
        obtain ⟨b2, o2, rfl, k2⟩ := r2 (by omega)
        obtain ⟨x, hx⟩ : ∃ x, x = l.getD k 0 := ⟨_, rfl⟩
        obtain ⟨y, hy⟩ : ∃ y, y = m.getD k 0 := ⟨_, rfl⟩
        have g1 : wr.cell? ⟨b1, o1 + k, none⟩ = some (.int .i64 x) := by rw [hx]; exact hg.cell (k1 k hlt) (by simp)
        have g2 : wr.cell? ⟨b2, o2 + k, none⟩ = some (.int .i64 y) := by rw [hy]; exact hg.cell (k2 k hlt2) (by simp)
        have s1 := take_snoc l k hlt
        have s2 := take_snoc m k hlt2
        rw [← hx] at s1
        rw [← hy] at s2
        by_cases hxy : x = y
        · have e1 : (x == y) = true := by simp [hxy]
          have HN : Hid (l.take (k + 1) = m.take (k + 1)) := by show _ = _; rw [s1, s2, hxy, HP.out]
          clear hxy hx hy k1 k2 r1 r2 s1 s2
          go_wp2
          go_quiet (fail)
          go_wp2
          go_roundw
          case rel => exact ⟨k + 1, by omega, by go_num, HN.out, grown_drewN hg _⟩
          case measure => simp [intOf]; omega
        · have e1 : (x == y) = false := by simp [hxy]
          have HN : Hid (b = false) := by
            show _ = _
            rw [HB.out, decide_eq_false_iff_not]
            intro e
            rw [hx, hy, e] at hxy
            exact hxy rfl
          clear hxy hx hy k1 k2 r1 r2 s1 s2
          go_wp2
          go_quiet (fail)
          go_wp2
          go_ret
          exact ⟨by rw [HN.out]; rfl, grown_drewN hg _⟩
      · obtain rfl : k = l.length := by omega
        have HN : Hid (b = true) := by
          show _ = _
          rw [HB.out, decide_eq_true_iff]
          have := HP.out
          rwa [List.take_length, HL.out, List.take_length] at this
        clear r1 r2
        go_wp2
        go_ret
        exact ⟨by rw [HN.out]; rfl, hg⟩
  · have hne : ((l.length : Int) != (m.length : Int)) = true := by simp; omega
    have HN : Hid (b = false) := by
      show _ = _
      rw [hb, decide_eq_false_iff_not]
      rintro rfl
      exact hl rfl
    clear hl hb r1 r2
    go_enter Try.func9, Try.ntmps9
    go_wp2
    go_ret
    exact ⟨by rw [HN.out]; rfl, grown_refl _ _⟩
/-- The same: the memory is as it was. -/
theorem sameI_quiet (v1 : Value) (l : List Int) (v2 : Value) (m : List Int) (w : World) (h1 : HInts w v1 l) (h2 : HInts w v2 m) (hr : l.length ≤ 1000000) (b : Bool) (hb : b = decide (l = m)) :
    Calls Try.prog 9 #[v1, v2] w fun e w' => e = .returned (.bool b) ∧ ∃ m, w' = w.drewN m := by
  obtain ⟨a1, c1, rfl, p1, q1, r1⟩ := h1
  obtain ⟨a2, c2, rfl, p2, q2, r2⟩ := h2
  unfold maxLen at q1 q2
  by_cases hl : l.length = m.length
  · have hne : ((l.length : Int) != (m.length : Int)) = false := by simp [hl]
    have HL := Lib.hid hl
    have HB := Lib.hid hb
    clear hl hb
    go_enter Try.func9, Try.ntmps9
    go_wp2
    go_loopw [5] (fun i wr => ∃ k : Nat, k ≤ l.length ∧ i = .int .i64 k ∧ l.take k = m.take k ∧ ∃ n, wr = w.drewN n) (fun i _ => l.length - (intOf i).toNat)
    case atStart => exact ⟨0, Nat.zero_le _, rfl, by simp, 0, rfl⟩
    case round =>
      obtain ⟨k, hk, rfl, hpre, hg⟩ := hrel
      have KEY : Hid (∀ m, ∃ n, wr.drewN m = w.drewN n) := fun m => by obtain ⟨n, e⟩ := hg; exact ⟨n + m, by rw [e]; simp [World.drewN, Nat.add_assoc]⟩
      have CEL : Hid (∀ a, wr.cell? a = w.cell? a) := fun a => by obtain ⟨n, e⟩ := hg; rw [e]; rfl
      have END : Hid (∃ n, wr = w.drewN n) := hg
      clear hg
      have HP := Lib.hid hpre
      clear hpre
      by_cases hlt : k < l.length
      · have hlt2 : k < m.length := by have := HL.out; omega
        obtain ⟨b1, o1, rfl, k1⟩ := r1 (by omega)
        obtain ⟨b2, o2, rfl, k2⟩ := r2 (by omega)
        obtain ⟨x, hx⟩ : ∃ x, x = l.getD k 0 := ⟨_, rfl⟩
        obtain ⟨y, hy⟩ : ∃ y, y = m.getD k 0 := ⟨_, rfl⟩
        have g1 : wr.cell? ⟨b1, o1 + k, none⟩ = some (.int .i64 x) := by rw [hx, CEL.out]; exact k1 k hlt
        have g2 : wr.cell? ⟨b2, o2 + k, none⟩ = some (.int .i64 y) := by rw [hy, CEL.out]; exact k2 k hlt2
        have s1 := take_snoc l k hlt
        have s2 := take_snoc m k hlt2
        rw [← hx] at s1
        rw [← hy] at s2
        by_cases hxy : x = y
        · have e1 : (x == y) = true := by simp [hxy]
          have HN : Hid (l.take (k + 1) = m.take (k + 1)) := by show _ = _; rw [s1, s2, hxy, HP.out]
          clear hxy hx hy k1 k2 r1 r2 s1 s2
          go_wp2
          go_quiet (fail)
          go_wp2
          go_roundw
          case rel => exact ⟨k + 1, by omega, by go_num, HN.out, KEY.out _⟩
          case measure => simp [intOf]; omega
        · have e1 : (x == y) = false := by simp [hxy]
          have HN : Hid (b = false) := by
            show _ = _
            rw [HB.out, decide_eq_false_iff_not]
            intro e
            rw [hx, hy, e] at hxy
            exact hxy rfl
          clear hxy hx hy k1 k2 r1 r2 s1 s2
          go_wp2
          go_quiet (fail)
          go_wp2
          go_ret
          exact ⟨by rw [HN.out]; rfl, KEY.out _⟩
      · obtain rfl : k = l.length := by omega
        have HN : Hid (b = true) := by
          show _ = _
          rw [HB.out, decide_eq_true_iff]
          have := HP.out
          rwa [List.take_length, HL.out, List.take_length] at this
        clear r1 r2
        go_wp2
        go_ret
        exact ⟨by rw [HN.out]; rfl, END.out⟩
  · have hne : ((l.length : Int) != (m.length : Int)) = true := by simp; omega
    have HN : Hid (b = false) := by
      show _ = _
      rw [hb, decide_eq_false_iff_not]
      rintro rfl
      exact hl rfl
    clear hl hb r1 r2
    go_enter Try.func9, Try.ntmps9
    go_wp2
    go_ret
    exact ⟨by rw [HN.out]; rfl, 0, rfl⟩
/-- In a quiet region. -/
theorem sameI_at (v1 : Value) (l : List Int) (v2 : Value) (m : List Int) (w : World) (n : Nat) (h1 : HInts w v1 l) (h2 : HInts w v2 m) (hr : l.length ≤ 1000000) (b : Bool) (hb : b = decide (l = m)) :
    Calls Try.prog 9 #[v1, v2] (w.drewN n) fun e w' => e = .returned (.bool b) ∧ ∃ m, w' = w.drewN m := by
  refine (sameI_quiet v1 l v2 m (w.drewN n) (h1.fr (Fr.drewN w n []) (by simp)) (h2.fr (Fr.drewN w n []) (by simp)) hr b hb).mono ?_
  rintro e w' ⟨he, k, rfl⟩
  exact ⟨he, n + k, by simp [World.drewN, Nat.add_assoc]⟩
end Go.Proofs.Ytjjlajcpngphpaa
