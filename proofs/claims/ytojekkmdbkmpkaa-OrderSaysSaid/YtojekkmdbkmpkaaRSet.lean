/- The document's: who is among them, a number put among those that rise, the set, who comes next. -/
import Derived.Test.YtojekkmdbkmpkaaOrder
namespace Go.Proofs.Ytojekkmdbkmpkaa
open Go.RowKit

set_option maxRecDepth 100000 in
theorem among_any (v : Value) (l : List Int) (c : Int) (w : World) (h : HInts w v l) (b : Bool) (hb : b = decide (c ∈ l)) :
    Calls Try.prog 10 #[v, .int .i64 c] w fun e w' => e = .returned (.bool b) ∧ w' = w := by
  obtain ⟨a, cap, rfl, h1, h2, h3⟩ := h
  unfold maxLen at h2
  have HB := Lib.hid hb
  clear hb
  go_enter Try.func10, Try.ntmps10
  go_wp2
  go_loopw [5] (fun i wr => ∃ k : Nat, k ≤ l.length ∧ i = .int .i64 k ∧ c ∉ l.take k ∧ wr = w) (fun i _ => l.length - (intOf i).toNat)
  case atStart => exact ⟨0, Nat.zero_le _, rfl, by simp, rfl⟩
  case round =>
    obtain ⟨k, hk, rfl, hpre, rfl⟩ := hrel
    have HP := Lib.hid hpre
    clear hpre
    by_cases hlt : k < l.length
    · obtain ⟨b1, o1, rfl, k1⟩ := h3 (by omega)
      have g1 := k1 k hlt
      have hs := take_snoc l k hlt
      have hm : l.getD k 0 ∈ l := by simp [hlt]
      obtain ⟨z, hz⟩ : ∃ z, z = l.getD k 0 := ⟨_, rfl⟩
      rw [← hz] at g1 hs hm
      have HS := Lib.hid hs
      have HM := Lib.hid hm
      clear hz hs hm k1 h3
      by_cases hn : z = c
      · have e1 : (z == c) = true := by simp [hn]
        have HE : Hid (b = true) := by show _ = _; rw [HB.out, decide_eq_true_iff, ← hn]; exact HM.out
        clear hn
        go_wp2
        go_ret
        exact ⟨by rw [HE.out]; rfl, rfl⟩
      · have e1 : (z == c) = false := by simp [hn]
        have HE : Hid (c ∉ l.take (k + 1)) := by
          show _
          rw [HS.out, List.mem_append, List.mem_singleton]
          rintro (h | h)
          · exact HP.out h
          · exact hn h.symm
        clear hn
        go_wp2
        go_roundw
        case rel => exact ⟨k + 1, by omega, by go_num, HE.out, trivial⟩
        case measure => simp [intOf]; omega
    · obtain rfl : k = l.length := by omega
      have HE : Hid (b = false) := by
        show _ = _
        rw [HB.out, decide_eq_false_iff_not]
        have := HP.out
        rwa [List.take_length] at this
      clear h3
      go_wp2
      go_ret
      exact ⟨by rw [HE.out]; rfl, rfl⟩

/-- A number put among those that rise. -/
def putS : List Int → Int → List Int
  | [], x => [x]
  | y :: l, x => if y < x then y :: putS l x else if y = x then y :: l else x :: y :: l
theorem mem_putS {l : List Int} {x y : Int} : y ∈ putS l x ↔ y = x ∨ y ∈ l := by
  induction l with
  | nil => simp [putS]
  | cons z l ih =>
    unfold putS
    by_cases h1 : z < x
    · rw [if_pos h1, List.mem_cons, ih, List.mem_cons]
      constructor
      · rintro (h | h | h)
        · exact .inr (.inl h)
        · exact .inl h
        · exact .inr (.inr h)
      · rintro (h | h | h)
        · exact .inr (.inl h)
        · exact .inl h
        · exact .inr (.inr h)
    · rw [if_neg h1]
      by_cases h2 : z = x
      · rw [if_pos h2]; subst h2; simp
      · rw [if_neg h2]; simp
theorem putS_rises {l : List Int} {x : Int} (h : Rises l) : Rises (putS l x) := by
  induction l with
  | nil => simp [putS]
  | cons z l ih =>
    obtain ⟨a, b⟩ := List.pairwise_cons.1 h
    unfold putS
    by_cases h1 : z < x
    · rw [if_pos h1]
      refine List.pairwise_cons.2 ⟨fun y hy => ?_, ih b⟩
      rcases mem_putS.1 hy with rfl | hy
      · exact h1
      · exact a y hy
    · rw [if_neg h1]
      by_cases h2 : z = x
      · rw [if_pos h2]; exact h
      · rw [if_neg h2]
        refine List.pairwise_cons.2 ⟨fun y hy => ?_, h⟩
        rcases List.mem_cons.1 hy with rfl | hy
        · omega
        · have := a y hy; omega
theorem setS_inv (l : List Int) : ∀ (s : List Int), Rises s → Rises (l.foldl putS s) ∧ ∀ x, x ∈ l.foldl putS s ↔ x ∈ s ∨ x ∈ l := by
  induction l with
  | nil => intro s hs; exact ⟨hs, by simp⟩
  | cons y l ih =>
    intro s hs
    obtain ⟨a, b⟩ := ih (putS s y) (putS_rises hs)
    refine ⟨a, fun x => ?_⟩
    rw [List.foldl_cons, b, mem_putS, List.mem_cons]
    constructor
    · rintro ((h | h) | h)
      · exact .inr (.inl h)
      · exact .inl h
      · exact .inr (.inr h)
    · rintro (h | h | h)
      · exact .inl (.inr h)
      · exact .inl (.inl h)
      · exact .inr h
theorem setS_eq (l : List Int) : l.foldl putS [] = setOf l := by
  obtain ⟨a, b⟩ := setS_inv l [] List.Pairwise.nil
  exact rises_unique a (setOf_rises l) (fun x => by rw [b, mem_setOf]; simp)
theorem putS_at : ∀ (l : List Int) (x : Int), ∃ k, k ≤ l.length ∧ (∀ j, j < k → l.getD j 0 < x) ∧ (k < l.length → ¬ l.getD k 0 < x) ∧
    ((k < l.length ∧ l.getD k 0 = x ∧ putS l x = l) ∨ ((k < l.length → l.getD k 0 ≠ x) ∧ putS l x = l.take k ++ [x] ++ l.drop k))
  | [], x => ⟨0, by simp, by simp, by simp, .inr ⟨by simp, by simp [putS]⟩⟩
  | z :: l, x => by
    by_cases h1 : z < x
    · obtain ⟨k, hk, a, b, c⟩ := putS_at l x
      refine ⟨k + 1, by simpa using hk, fun j hj => ?_, fun h => ?_, ?_⟩
      · cases j with
        | zero => simpa using h1
        | succ j => simpa using a j (by omega)
      · have := b (by simpa using h)
        simpa using this
      · rcases c with ⟨c1, c2, c3⟩ | ⟨c1, c2⟩
        · refine .inl ⟨by simpa using c1, by simpa using c2, ?_⟩
          unfold putS; rw [if_pos h1, c3]
        · refine .inr ⟨fun h => ?_, ?_⟩
          · have := c1 (by simpa using h)
            simpa using this
          · unfold putS; rw [if_pos h1, c2]; simp
    · refine ⟨0, by simp, by simp, by simpa using h1, ?_⟩
      by_cases h2 : z = x
      · refine .inl ⟨by simp, by simpa using h2, ?_⟩
        unfold putS; rw [if_neg h1, if_pos h2]
      · refine .inr ⟨fun _ => by simpa using h2, ?_⟩
        unfold putS; rw [if_neg h1, if_neg h2]; simp

set_option maxRecDepth 100000 in
theorem putS_any (v : Value) (l : List Int) (x : Int) (w : World) (h : HInts w v l) (hv : v = .slice none 0 0 ∨ ∃ x c, v = .slice (some x) l.length c) (hr : l.length ≤ 1000000) :
    Calls Try.prog 24 #[v, .int .i64 x] w (Gives fun u w' => OwnI w' w.heap.size u (putS l x) ∧ w.grownBy w' none) := by
  obtain ⟨i0, hi, hz0, hz1, hz2⟩ := info_parts infoI
  obtain ⟨K, hK, hlow, hat, hres⟩ := putS_at l x
  have HR := Lib.hid hres
  have HL := Lib.hid hlow
  clear hres hlow
  rcases hv with rfl | ⟨ad, cap, rfl⟩
  · have h0 : l = [] := by
      obtain ⟨a, cap, he, _⟩ := h
      simp only [Value.slice.injEq] at he
      exact List.eq_nil_of_length_eq_zero he.2.1.symm
    subst h0
    obtain rfl : K = 0 := by simpa using hK
    have HI := Lib.hid (ints_any (.slice none 0 0) [] w h hr)
    clear h hat
    go_enter Try.func24, Try.ntmps24
    go_wp2
    go_loopw [5] (fun i wr => i = .int .i64 0 ∧ wr = w) (fun _ _ => 0)
    case atStart => exact ⟨rfl, rfl⟩
    case round =>
      obtain ⟨rfl, rfl⟩ := hrel
      go_wp2_with fail
      refine HI.out.mono ?_
      rintro e w2 ⟨u, rfl, ho, hg⟩
      have O2 := Lib.hid ho
      have G2 := Lib.hid hg
      clear ho hg
      go_upto_region 7 with (at_builtin; refine wpList_append_own _ rfl _ _ 22 rfl wr.heap.size 3 i0 (.int .i64 0) 1 8 Try.underlying22 hi hz0 hz1 hz2 rfl (by decide) _ _ _ rfl (World.ownsRow.alloc O2.out _) ⟨w2.heap.size, 0, none⟩ 1 1 [.int .i64 x] rfl rfl (cell_one_new _ _ _) (one_cell _ _) (by decide) (by decide) (by have := G2.out.size; simp; omega) ?_; intro v' w3 hown3 hg3 _)
      have O3 := Lib.hid (OwnI.snoc hown3)
      have G3 := Lib.hid (grown_new G2.out (grown_trans (World.grownBy_alloc w2 _ _) hg3) (fun r hr => (O2.out.block r hr).1))
      clear hown3 hg3
      go_wp2_with (at_builtin; refine wpList_append_own_none rfl _ _ 22 rfl wr.heap.size 3 i0 1 Try.underlying22 hi _ _ _ rfl O3.out rfl ?_)
      go_ret
      refine gives ⟨?_, G3.out⟩
      have := O3.out
      simpa [putS] using this
  · obtain ⟨a', cap', he, h1, h2, h3⟩ := id h
    simp only [Value.slice.injEq, true_and] at he
    obtain ⟨rfl, rfl⟩ := he
    unfold maxLen at h2
    have HH := Lib.hid h
    clear h
    go_enter Try.func24, Try.ntmps24
    go_wp2
    go_loopw [5] (fun i wr => ∃ k : Nat, k ≤ K ∧ i = .int .i64 k ∧ wr = w) (fun i _ => K - (intOf i).toNat)
    case atStart => exact ⟨0, Nat.zero_le _, rfl, rfl⟩
    case round =>
      obtain ⟨k, hk, rfl, rfl⟩ := hrel
      by_cases hlt : k < K
      · obtain ⟨b1, o1, he, k1⟩ := h3 (by omega)
        obtain rfl := Option.some.inj he
        have g1 := k1 k (by omega)
        have hn := HL.out k hlt
        obtain ⟨z, hz⟩ : ∃ z, z = l.getD k 0 := ⟨_, rfl⟩
        rw [← hz] at g1 hn
        clear h3 k1 hat hz
        have hlt2 : k < l.length := by omega
        go_wp2
        go_roundw
        case rel => exact ⟨k + 1, by omega, by go_num, trivial⟩
        case measure => simp [intOf]; omega
      · obtain rfl : k = K := by omega
        clear hlt
        have HD := Lib.hid (HH.out.drop k hK)
        have HC := Lib.hid (HH.out.cut k hK)
        have HI := Lib.hid (ints_any _ (l.take k) wr HC.out (by rw [List.length_take]; omega))
        have HI2 := Lib.hid (ints_any _ l wr HH.out hr)
        have HA := Lib.hid (HInts.args (w := wr) (l := l.drop k) (x := if cap = k then ad else ad.add k) (n := l.length - k) (cap := cap - k) (by
          have := HD.out
          by_cases hck : cap = k
          · rw [if_pos hck] at this; rw [if_pos hck]; exact this
          · rw [if_neg hck] at this; rw [if_neg hck]; exact this))
        have hlen : (l.take k).length = k := by rw [List.length_take]; omega
        have HLe := Lib.hid hlen
        clear hlen
        by_cases hlt : k < l.length
        · obtain ⟨b1, o1, he, k1⟩ := h3 (by omega)
          obtain rfl := Option.some.inj he
          have g1 := k1 k (by omega)
          have hn := hat hlt
          obtain ⟨z, hz⟩ : ∃ z, z = l.getD k 0 := ⟨_, rfl⟩
          rw [← hz] at g1 hn
          have HZ := Lib.hid hz
          clear h3 k1 hat hz
          by_cases hzx : z = x
          · have e1 : (z == x) = true := by simp [hzx]
            have HE : Hid (putS l x = l) := by
              rcases HR.out with ⟨_, _, h⟩ | ⟨h, _⟩
              · exact h
              · exact absurd (HZ.out.symm.trans hzx) (h hlt)
            clear hzx
            go_wp2_with fail
            refine HI2.out.mono ?_
            rintro e w2 ⟨u, rfl, ho, hg⟩
            have O2 := Lib.hid ho
            have G2 := Lib.hid hg
            clear ho hg
            go_wp2
            go_ret
            exact gives ⟨by rw [HE.out]; exact O2.out, G2.out⟩
          · have e1 : (z == x) = false := by simp [hzx]
            have HE : Hid (putS l x = l.take k ++ [x] ++ l.drop k) := by
              rcases HR.out with ⟨_, h, _⟩ | ⟨_, h⟩
              · exact absurd (HZ.out.trans h) hzx
              · exact h
            clear hzx
            have hck : ¬ cap = k := by omega
            have HA2 : Hid (∀ j u, (i64s (l.drop k))[j]? = some u → wr.cell? (Addr.add ⟨b1, o1 + k, none⟩ j) = some u) := by
              have := HA.out
              rw [if_neg hck, Addr.add_lit] at this
              exact this
            go_wp2_with fail
            refine HI.out.mono ?_
            rintro e w2 ⟨u, rfl, ho, hg⟩
            have O2 := Lib.hid ho
            have G2 := Lib.hid hg
            clear ho hg
            go_upto_region 7 with (at_builtin; refine wpList_append_own _ rfl _ _ 22 rfl wr.heap.size 3 i0 (.int .i64 0) 1 8 Try.underlying22 hi hz0 hz1 hz2 rfl (by decide) _ _ _ rfl (World.ownsRow.alloc O2.out _) ⟨w2.heap.size, 0, none⟩ 1 1 [.int .i64 x] rfl rfl (cell_one_new _ _ _) (one_cell _ _) (by rw [HLe.out]; unfold maxLen; omega) (by rw [HLe.out]; omega) (by have := G2.out.size; simp; omega) ?_; intro v' w3 hown3 hg3 _)
            have O3 := Lib.hid (OwnI.snoc hown3)
            have G3 := Lib.hid (grown_new G2.out (grown_trans (World.grownBy_alloc w2 _ _) hg3) (fun r hr => (O2.out.block r hr).1))
            clear hown3 hg3
            go_wp2_with (at_builtin; refine wpList_append_own _ rfl _ _ 22 rfl wr.heap.size 3 i0 (.int .i64 0) 1 8 Try.underlying22 hi hz0 hz1 hz2 rfl (by decide) _ _ _ rfl O3.out ⟨b1, o1 + k, none⟩ (l.length - k) (cap - k) (i64s (l.drop k)) rfl (by simp) (fun j u hj => G3.out.cell (HA2.out j u hj) (by simp)) (i64s_one _) (by rw [List.length_append, HLe.out]; simp; unfold maxLen; omega) (by rw [List.length_append, HLe.out]; simp; omega) (by have := G3.out.size; omega) ?_; intro v4 w4 hown4 hg4 _)
            have G4 := Lib.hid (grown_new G3.out hg4 (fun r hr => (O3.out.block r hr).1))
            have O4 : Hid (OwnI w4 wr.heap.size v4 (putS l x)) := by
              show _
              rw [HE.out]
              unfold OwnI
              have h5 : (l.take k ++ [x] ++ l.drop k).length = (l.take k ++ [x]).length + (l.length - k) := by rw [List.length_append, List.length_drop]
              have h6 : i64s (l.take k ++ [x] ++ l.drop k) = i64s (l.take k ++ [x]) ++ i64s (l.drop k) := by simp [i64s]
              rw [h5, h6]
              exact hown4
            clear hown4 hg4
            go_wp2
            go_ret
            exact gives ⟨O4.out, G4.out⟩
        · obtain rfl : k = l.length := by omega
          have HE : Hid (putS l x = l.take l.length ++ [x] ++ l.drop l.length) := by
            rcases HR.out with ⟨h, _⟩ | ⟨_, h⟩
            · exact absurd h hlt
            · exact h
          have hds : (l.drop l.length) = [] := by simp
          obtain ⟨A, hA⟩ : ∃ A : Addr, (if cap = l.length then some ad else some (ad.add l.length)) = some A := by
            by_cases hc : cap = l.length
            · exact ⟨ad, by rw [if_pos hc]⟩
            · exact ⟨_, by rw [if_neg hc]⟩
          clear h3 hat
          go_wp2_with fail
          refine HI.out.mono ?_
          rintro e w2 ⟨u, rfl, ho, hg⟩
          have O2 := Lib.hid ho
          have G2 := Lib.hid hg
          clear ho hg
          go_upto_region 7 with (at_builtin; refine wpList_append_own _ rfl _ _ 22 rfl wr.heap.size 3 i0 (.int .i64 0) 1 8 Try.underlying22 hi hz0 hz1 hz2 rfl (by decide) _ _ _ rfl (World.ownsRow.alloc O2.out _) ⟨w2.heap.size, 0, none⟩ 1 1 [.int .i64 x] rfl rfl (cell_one_new _ _ _) (one_cell _ _) (by rw [HLe.out]; unfold maxLen; omega) (by rw [HLe.out]; omega) (by have := G2.out.size; simp; omega) ?_; intro v' w3 hown3 hg3 _)
          have O3 := Lib.hid (OwnI.snoc hown3)
          have G3 := Lib.hid (grown_new G2.out (grown_trans (World.grownBy_alloc w2 _ _) hg3) (fun r hr => (O2.out.block r hr).1))
          clear hown3 hg3
          go_wp2_with (at_builtin; refine wpList_append_own _ rfl _ _ 22 rfl wr.heap.size 3 i0 (.int .i64 0) 1 8 Try.underlying22 hi hz0 hz1 hz2 rfl (by decide) _ _ _ rfl O3.out A 0 (cap - l.length) [] rfl (by simp) (by simp) (by simp) (by rw [List.length_append, HLe.out]; simp; unfold maxLen; omega) (by rw [List.length_append, HLe.out]; simp; omega) (by have := G3.out.size; omega) ?_; intro v4 w4 hown4 hg4 _)
          have G4 := Lib.hid (grown_new G3.out hg4 (fun r hr => (O3.out.block r hr).1))
          have O4 : Hid (OwnI w4 wr.heap.size v4 (putS l x)) := by
            show _
            have h7 : OwnI w4 wr.heap.size v4 (l.take l.length ++ [x]) := by unfold OwnI; simpa using hown4
            rw [HE.out, hds, List.append_nil]
            exact h7
          clear hown4 hg4
          go_wp2
          go_ret
          exact gives ⟨O4.out, G4.out⟩
set_option maxRecDepth 100000 in
theorem setS_any (v : Value) (l : List Int) (w : World) (h : HInts w v l) (hr : l.length ≤ 1000) :
    Calls Try.prog 14 #[v] w (Gives fun u w' => OwnI w' w.heap.size u (setOf l) ∧ w.grownBy w' none) := by
  obtain ⟨a, cap, rfl, h1, h2, h3⟩ := h
  unfold maxLen at h2
  have HLen : Hid (∀ k, (((l.take k).foldl putS [])).length ≤ 1000) := by
    intro k
    rw [setS_eq]
    have := setOf_length (l.take k)
    rw [List.length_take] at this
    omega
  go_enter Try.func14, Try.ntmps14
  go_wp2
  go_loopw [3, 4] (fun out i wr => ∃ k : Nat, k ≤ l.length ∧ i = .int .i64 k ∧ OwnI wr w.heap.size out ((l.take k).foldl putS []) ∧ w.grownBy wr none) (fun _ i _ => l.length - (intOf i).toNat)
  case atStart => exact ⟨0, Nat.zero_le _, rfl, OwnI.nil _ _, grown_refl _ _⟩
  case round =>
    obtain ⟨k, hk, rfl, ho, hg⟩ := hrel
    have O1 := Lib.hid ho
    have G1 := Lib.hid hg
    clear ho
    by_cases hlt : k < l.length
    · obtain ⟨b1, o1, rfl, k1⟩ := h3 (by omega)
      have g1 := hg.cell (k1 k hlt) (by simp)
      have hs := take_snoc l k hlt
      obtain ⟨z, hz⟩ : ∃ z, z = l.getD k 0 := ⟨_, rfl⟩
      rw [← hz] at g1 hs
      have HS : Hid ((l.take (k + 1)).foldl putS [] = putS ((l.take k).foldl putS []) z) := by show _ = _; rw [hs]; simp
      clear hs hz h3 k1 hg
      go_wp2_with fail
      refine (putS_any _ _ z wr O1.out.holds O1.out.form (by have := HLen.out k; omega)).mono ?_
      rintro e w2 ⟨u, rfl, ho2, hg2⟩
      have O2 : Hid (OwnI w2 w.heap.size u ((l.take (k + 1)).foldl putS [])) := by show _; rw [HS.out]; exact ho2.mono G1.out.size
      have G2 := Lib.hid (grown_trans G1.out hg2)
      clear ho2 hg2
      go_wp2
      go_roundw
      case rel => exact ⟨k + 1, by omega, by go_num, O2.out, G2.out⟩
      case measure => simp [intOf]; omega
    · obtain rfl : k = l.length := by omega
      have h9 := O1.out
      rw [List.take_length, setS_eq] at h9
      have HE := Lib.hid h9
      clear h9
      clear h3 hg
      go_wp2
      go_ret
      exact gives ⟨HE.out, G1.out⟩
theorem rises_first {l : List Int} (hl : Rises l) {c : Int} (k : Nat) (hk : k < l.length) (hlow : ∀ y ∈ l.take k, ¬ c < y) (h : c < l.getD k 0) : AboveIs l c (l.getD k 0) true := by
  refine .inr ⟨rfl, by simp [hk], h, fun y hy hn => ?_⟩
  obtain ⟨j, hj, rfl⟩ := List.getElem_of_mem hy
  rcases Nat.lt_trichotomy j k with h' | h' | h'
  · exact absurd hn (hlow _ (List.mem_take_iff_getElem.2 ⟨j, by omega, rfl⟩))
  · subst h'; simp [hk]
  · have := List.pairwise_iff_getElem.1 hl k j hk hj h'
    simp [hk]; omega
theorem rises_least {l : List Int} (hl : Rises l) (h : 0 < l.length) : LeastIs l (l.getD 0 0) true := by
  cases l with
  | nil => simp at h
  | cons x l =>
    obtain ⟨a, _⟩ := List.pairwise_cons.1 hl
    refine .inr ⟨rfl, by simp, fun y hy => ?_⟩
    rcases List.mem_cons.1 hy with rfl | hy
    · simp
    · have := a y hy; simp; omega
set_option maxRecDepth 100000 in
theorem nextS_any (v : Value) (l : List Int) (c : Int) (w : World) (h : HInts w v l) (hl : Rises l) (x : Int) (b : Bool) (hx : NextIs l c x b) :
    Calls Try.prog 15 #[v, .int .i64 c] w fun e w' => e = .returned (.tuple #[.int .i64 x, .bool b]) ∧ w' = w := by
  have HL := Lib.hid hl
  clear hl
  by_cases hc : c ∈ l
  · have H1 := Lib.hid (among_any v l c w h true (by simp [hc]))
    obtain ⟨a, cap, rfl, h1, h2, h3⟩ := h
    unfold maxLen at h2
    have h0 : 0 < l.length := List.length_pos_of_mem hc
    obtain ⟨b1, o1, rfl, k1⟩ := h3 h0
    obtain ⟨hb, HX⟩ : b = true ∧ Hid (AboveIs l c x true ∨ (AboveIs l c 0 false ∧ LeastIs l x true)) := by
      rcases hx with ⟨h, _⟩ | ⟨_, h, h'⟩
      · exact absurd hc h
      · exact ⟨h, h'⟩
    subst hb
    clear h3 hx hc
    have K1 := Lib.hid k1
    clear k1
    go_enter Try.func15, Try.ntmps15
    go_wp2_with fail
    refine H1.out.mono ?_
    rintro e w' ⟨rfl, hw⟩
    obtain rfl : w = w' := hw.symm
    clear hw
    go_wp2
    go_loopw [6] (fun i wr => ∃ k : Nat, k ≤ l.length ∧ i = .int .i64 k ∧ (∀ y ∈ l.take k, ¬ c < y) ∧ wr = w) (fun i _ => l.length - (intOf i).toNat)
    case atStart => exact ⟨0, Nat.zero_le _, rfl, by simp, rfl⟩
    case round =>
      obtain ⟨k, hk, rfl, hlow, rfl⟩ := hrel
      have HW := Lib.hid hlow
      clear hlow
      by_cases hlt : k < l.length
      · have g1 := K1.out k hlt
        have hs := take_snoc l k hlt
        obtain ⟨z, hz⟩ : ∃ z, z = l.getD k 0 := ⟨_, rfl⟩
        rw [← hz] at g1 hs
        have HS := Lib.hid hs
        have HZ := Lib.hid hz
        clear hs hz
        by_cases hn : c < z
        · have HE : Hid (x = z) := by
            have hab := rises_first HL.out k hlt HW.out (by rw [← HZ.out]; exact hn)
            rw [← HZ.out] at hab
            rcases HX.out with h | ⟨h, _⟩
            · exact (h.unique hab).1
            · exact absurd (h.unique hab).2 (by simp)
          go_wp2
          go_ret2
          exact ⟨by rw [HE.out]; rfl, rfl⟩
        · have HE : Hid (∀ y ∈ l.take (k + 1), ¬ c < y) := by
            show _
            rw [HS.out]
            intro y hy
            rcases List.mem_append.1 hy with h | h
            · exact HW.out y h
            · obtain rfl := List.mem_singleton.1 h; exact hn
          go_wp2
          go_roundw
          case rel => exact ⟨k + 1, by omega, by go_num, HE.out, trivial⟩
          case measure => simp [intOf]; omega
      · obtain rfl : k = l.length := by omega
        have g1 := K1.out 0 h0
        obtain ⟨z, hz⟩ : ∃ z, z = l.getD 0 0 := ⟨_, rfl⟩
        rw [← hz] at g1
        have HE : Hid (x = z) := by
          have hab : AboveIs l c 0 false := .inl ⟨rfl, rfl, by have := HW.out; rwa [List.take_length] at this⟩
          rcases HX.out with h | ⟨_, h⟩
          · exact absurd (h.unique hab).2 (by simp)
          · have hl := rises_least HL.out h0
            rw [← hz] at hl
            exact (h.unique hl).1
        clear hz
        rw [Nat.add_zero] at g1
        have hpos : (0 : Int) < (l.length : Int) := by omega
        go_wp2
        go_ret2
        exact ⟨by rw [HE.out]; rfl, rfl⟩
  · have H1 := Lib.hid (among_any v l c w h false (by simp [hc]))
    obtain ⟨rfl, rfl⟩ := hx.unique (.inl ⟨hc, rfl, rfl⟩ : NextIs l c 0 false)
    clear h hc hx
    go_enter Try.func15, Try.ntmps15
    go_wp2_with fail
    refine H1.out.mono ?_
    rintro e w' ⟨rfl, rfl⟩
    go_wp2
    go_ret2
    exact ⟨rfl, rfl⟩
end Go.Proofs.Ytojekkmdbkmpkaa
