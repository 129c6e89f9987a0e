/- The document's: a number put among those that rise. -/
import Derived.Test.YtjjlajcpngphpaaHasA
import Derived.Deep.DeepCutAuto
import Derived.Deep.CutBlock
namespace Go.Proofs.Ytjjlajcpngphpaa
open Go.RowKit

/-- A number put among those that rise. -/
def putS : List Int → Int → List Int
  | [], x => [x]
  | y :: l, x => if y < x then y :: putS l x else if y = x then y :: l else x :: y :: l
theorem mem_putS {l : List Int} {x y : Int} : y ∈ putS l x ↔ y = x ∨ y ∈ l := by
  induction l with
  | nil => simp [putS]
  | cons z l ih =>
    unfold putS
    by_cases h1 : z < x
    · rw [if_pos h1, List.mem_cons, ih, List.mem_cons]
      constructor
      · rintro (h | h | h)
        · exact .inr (.inl h)
        · exact .inl h
        · exact .inr (.inr h)
      · rintro (h | h | h)
        · exact .inr (.inl h)
        · exact .inl h
        · exact .inr (.inr h)
    · rw [if_neg h1]
      by_cases h2 : z = x
      · rw [if_pos h2]; subst h2; simp
      · rw [if_neg h2]; simp
theorem putS_at : ∀ (l : List Int) (x : Int), ∃ k, k ≤ l.length ∧ (∀ j, j < k → l.getD j 0 < x) ∧ (k < l.length → ¬ l.getD k 0 < x) ∧
    ((k < l.length ∧ l.getD k 0 = x ∧ putS l x = l) ∨ ((k < l.length → l.getD k 0 ≠ x) ∧ putS l x = l.take k ++ [x] ++ l.drop k))
  | [], x => ⟨0, by simp, by simp, by simp, .inr ⟨by simp, by simp [putS]⟩⟩
  | z :: l, x => by
    by_cases h1 : z < x
    · obtain ⟨k, hk, a, b, c⟩ := putS_at l x
      refine ⟨k + 1, by simpa using hk, fun j hj => ?_, fun h => ?_, ?_⟩
      · cases j with
        | zero => simpa using h1
        | succ j => simpa using a j (by omega)
      · have := b (by simpa using h)
        simpa using this
      · rcases c with ⟨c1, c2, c3⟩ | ⟨c1, c2⟩
        · refine .inl ⟨by simpa using c1, by simpa using c2, ?_⟩
          unfold putS; rw [if_pos h1, c3]
        · refine .inr ⟨fun h => ?_, ?_⟩
          · have := c1 (by simpa using h)
            simpa using this
          · unfold putS; rw [if_pos h1, c2]; simp
    · refine ⟨0, by simp, by simp, by simpa using h1, ?_⟩
      by_cases h2 : z = x
      · refine .inl ⟨by simp, by simpa using h2, ?_⟩
        unfold putS; rw [if_neg h1, if_pos h2]
      · refine .inr ⟨fun _ => by simpa using h2, ?_⟩
        unfold putS; rw [if_neg h1, if_neg h2]; simp

set_option maxRecDepth 100000 in
theorem putS_any (v : Value) (l : List Int) (x : Int) (w : World) (h : HInts w v l) (hv : v = .slice none 0 0 ∨ ∃ x c, v = .slice (some x) l.length c) (hr : l.length ≤ 1000000) :
    Calls Try.prog 15 #[v, .int .i64 x] w (Gives fun u w' => OwnI w' w.heap.size u (putS l x) ∧ w.grownBy w' none) := by
  obtain ⟨i0, hi, hz0, hz1, hz2⟩ := info_parts infoI
  obtain ⟨K, hK, hlow, hat, hres⟩ := putS_at l x
  have HR := Lib.hid hres
  have HL := Lib.hid hlow
  clear hres hlow
  rcases hv with rfl | ⟨ad, cap, rfl⟩
  · have h0 : l = [] := by
      obtain ⟨a, cap, he, _⟩ := h
      simp only [Value.slice.injEq] at he
      exact List.eq_nil_of_length_eq_zero he.2.1.symm
    subst h0
    obtain rfl : K = 0 := by simpa using hK
    have HI := Lib.hid (ints_any (.slice none 0 0) [] w h hr)
    clear h hat
    go_enter Try.func15, Try.ntmps15
    go_wp2
    go_loopw [5] (fun i wr => i = .int .i64 0 ∧ wr = w) (fun _ _ => 0)
    case atStart => exact ⟨rfl, rfl⟩
    case round =>
      obtain ⟨rfl, rfl⟩ := hrel
      go_wp2_with fail
      refine HI.out.mono ?_
      rintro e w2 ⟨u, rfl, ho, hg⟩
      have O2 := Lib.hid ho
      have G2 := Lib.hid hg
      clear ho hg
      go_upto_region 7 with (at_builtin; refine wpList_append_own _ rfl _ _ 22 rfl wr.heap.size 3 i0 (.int .i64 0) 1 8 Try.underlying22 hi hz0 hz1 hz2 rfl (by decide) _ _ _ rfl (World.ownsRow.alloc O2.out _) ⟨w2.heap.size, 0, none⟩ 1 1 [.int .i64 x] rfl rfl (cell_one_new _ _ _) (one_cell _ _) (by decide) (by decide) (by have := G2.out.size; simp; omega) ?_; intro v' w3 hown3 hg3 _)
      have O3 := Lib.hid (OwnI.snoc hown3)
      have G3 := Lib.hid (grown_new G2.out (grown_trans (World.grownBy_alloc w2 _ _) hg3) (fun r hr => (O2.out.block r hr).1))
      clear hown3 hg3
      go_wp2_with (at_builtin; refine wpList_append_own_none rfl _ _ 22 rfl wr.heap.size 3 i0 1 Try.underlying22 hi _ _ _ rfl O3.out rfl ?_)
      go_ret
      refine gives ⟨?_, G3.out⟩
      have := O3.out
      simpa [putS] using this
  · obtain ⟨a', cap', he, h1, h2, h3⟩ := id h
    simp only [Value.slice.injEq, true_and] at he
    obtain ⟨rfl, rfl⟩ := he
    unfold maxLen at h2
    have HH := Lib.hid h
    clear h
    go_enter Try.func15, Try.ntmps15
    go_wp2
    go_loopw [5] (fun i wr => ∃ k : Nat, k ≤ K ∧ i = .int .i64 k ∧ wr = w) (fun i _ => K - (intOf i).toNat)
    case atStart => exact ⟨0, Nat.zero_le _, rfl, rfl⟩
    case round =>
      obtain ⟨k, hk, rfl, rfl⟩ := hrel
      by_cases hlt : k < K
      · obtain ⟨b1, o1, he, k1⟩ := h3 (by omega)
        obtain rfl := Option.some.inj he
        have g1 := k1 k (by omega)
        have hn := HL.out k hlt
        obtain ⟨z, hz⟩ : ∃ z, z = l.getD k 0 := ⟨_, rfl⟩
        rw [← hz] at g1 hn
        clear h3 k1 hat hz
        have hlt2 : k < l.length := by omega
        go_wp2
        go_roundw
        case rel => exact ⟨k + 1, by omega, by go_num, trivial⟩
        case measure => simp [intOf]; omega
      · obtain rfl : k = K := by omega
        clear hlt
        have HD := Lib.hid (HH.out.drop k hK)
        have HC := Lib.hid (HH.out.cut k hK)
        have HI := Lib.hid (ints_any _ (l.take k) wr HC.out (by rw [List.length_take]; omega))
        have HI2 := Lib.hid (ints_any _ l wr HH.out hr)
        have HA := Lib.hid (HInts.args (w := wr) (l := l.drop k) (x := if cap = k then ad else ad.add k) (n := l.length - k) (cap := cap - k) (by
          have := HD.out
          by_cases hck : cap = k
          · rw [if_pos hck] at this; rw [if_pos hck]; exact this
          · rw [if_neg hck] at this; rw [if_neg hck]; exact this))
        have hlen : (l.take k).length = k := by rw [List.length_take]; omega
        have HLe := Lib.hid hlen
        clear hlen
        by_cases hlt : k < l.length
        · obtain ⟨b1, o1, he, k1⟩ := h3 (by omega)
          obtain rfl := Option.some.inj he
          have g1 := k1 k (by omega)
          have hn := hat hlt
          obtain ⟨z, hz⟩ : ∃ z, z = l.getD k 0 := ⟨_, rfl⟩
          rw [← hz] at g1 hn
          have HZ := Lib.hid hz
          clear h3 k1 hat hz
          by_cases hzx : z = x
          · have e1 : (z == x) = true := by simp [hzx]
            have HE : Hid (putS l x = l) := by
              rcases HR.out with ⟨_, _, h⟩ | ⟨h, _⟩
              · exact h
              · exact absurd (HZ.out.symm.trans hzx) (h hlt)
            clear hzx
            go_wp2_with fail
            refine HI2.out.mono ?_
            rintro e w2 ⟨u, rfl, ho, hg⟩
            have O2 := Lib.hid ho
            have G2 := Lib.hid hg
            clear ho hg
            go_wp2
            go_ret
            exact gives ⟨by rw [HE.out]; exact O2.out, G2.out⟩
          · have e1 : (z == x) = false := by simp [hzx]
            have HE : Hid (putS l x = l.take k ++ [x] ++ l.drop k) := by
              rcases HR.out with ⟨_, h, _⟩ | ⟨_, h⟩
              · exact absurd (HZ.out.trans h) hzx
              · exact h
            clear hzx
            have hck : ¬ cap = k := by omega
            have HA2 : Hid (∀ j u, (i64s (l.drop k))[j]? = some u → wr.cell? (Addr.add ⟨b1, o1 + k, none⟩ j) = some u) := by
              have := HA.out
              rw [if_neg hck, Addr.add_lit] at this
              exact this
            go_wp2_with fail
            refine HI.out.mono ?_
            rintro e w2 ⟨u, rfl, ho, hg⟩
            have O2 := Lib.hid ho
            have G2 := Lib.hid hg
            clear ho hg
            go_upto_region 7 with (at_builtin; refine wpList_append_own _ rfl _ _ 22 rfl wr.heap.size 3 i0 (.int .i64 0) 1 8 Try.underlying22 hi hz0 hz1 hz2 rfl (by decide) _ _ _ rfl (World.ownsRow.alloc O2.out _) ⟨w2.heap.size, 0, none⟩ 1 1 [.int .i64 x] rfl rfl (cell_one_new _ _ _) (one_cell _ _) (by rw [HLe.out]; unfold maxLen; omega) (by rw [HLe.out]; omega) (by have := G2.out.size; simp; omega) ?_; intro v' w3 hown3 hg3 _)
            have O3 := Lib.hid (OwnI.snoc hown3)
            have G3 := Lib.hid (grown_new G2.out (grown_trans (World.grownBy_alloc w2 _ _) hg3) (fun r hr => (O2.out.block r hr).1))
            clear hown3 hg3
            go_wp2_with (at_builtin; refine wpList_append_own _ rfl _ _ 22 rfl wr.heap.size 3 i0 (.int .i64 0) 1 8 Try.underlying22 hi hz0 hz1 hz2 rfl (by decide) _ _ _ rfl O3.out ⟨b1, o1 + k, none⟩ (l.length - k) (cap - k) (i64s (l.drop k)) rfl (by simp) (fun j u hj => G3.out.cell (HA2.out j u hj) (by simp)) (i64s_one _) (by rw [List.length_append, HLe.out]; simp; unfold maxLen; omega) (by rw [List.length_append, HLe.out]; simp; omega) (by have := G3.out.size; omega) ?_; intro v4 w4 hown4 hg4 _)
            have G4 := Lib.hid (grown_new G3.out hg4 (fun r hr => (O3.out.block r hr).1))
            have O4 : Hid (OwnI w4 wr.heap.size v4 (putS l x)) := by
              show _
              rw [HE.out]
              unfold OwnI
              have h5 : (l.take k ++ [x] ++ l.drop k).length = (l.take k ++ [x]).length + (l.length - k) := by rw [List.length_append, List.length_drop]
              have h6 : i64s (l.take k ++ [x] ++ l.drop k) = i64s (l.take k ++ [x]) ++ i64s (l.drop k) := by simp [i64s]
              rw [h5, h6]
              exact hown4
            clear hown4 hg4
            go_wp2
            go_ret
            exact gives ⟨O4.out, G4.out⟩
        · obtain rfl : k = l.length := by omega
          have HE : Hid (putS l x = l.take l.length ++ [x] ++ l.drop l.length) := by
            rcases HR.out with ⟨h, _⟩ | ⟨_, h⟩
            · exact absurd h hlt
            · exact h
          have hds : (l.drop l.length) = [] := by simp
          obtain ⟨A, hA⟩ : ∃ A : Addr, (if cap = l.length then some ad else some (ad.add l.length)) = some A := by
            by_cases hc : cap = l.length
            · exact ⟨ad, by rw [if_pos hc]⟩
            · exact ⟨_, by rw [if_neg hc]⟩
          clear h3 hat
          go_wp2_with fail
          refine HI.out.mono ?_
          rintro e w2 ⟨u, rfl, ho, hg⟩
          have O2 := Lib.hid ho
          have G2 := Lib.hid hg
          clear ho hg
          go_upto_region 7 with (at_builtin; refine wpList_append_own _ rfl _ _ 22 rfl wr.heap.size 3 i0 (.int .i64 0) 1 8 Try.underlying22 hi hz0 hz1 hz2 rfl (by decide) _ _ _ rfl (World.ownsRow.alloc O2.out _) ⟨w2.heap.size, 0, none⟩ 1 1 [.int .i64 x] rfl rfl (cell_one_new _ _ _) (one_cell _ _) (by rw [HLe.out]; unfold maxLen; omega) (by rw [HLe.out]; omega) (by have := G2.out.size; simp; omega) ?_; intro v' w3 hown3 hg3 _)
          have O3 := Lib.hid (OwnI.snoc hown3)
          have G3 := Lib.hid (grown_new G2.out (grown_trans (World.grownBy_alloc w2 _ _) hg3) (fun r hr => (O2.out.block r hr).1))
          clear hown3 hg3
          go_wp2_with (at_builtin; refine wpList_append_own _ rfl _ _ 22 rfl wr.heap.size 3 i0 (.int .i64 0) 1 8 Try.underlying22 hi hz0 hz1 hz2 rfl (by decide) _ _ _ rfl O3.out A 0 (cap - l.length) [] rfl (by simp) (by simp) (by simp) (by rw [List.length_append, HLe.out]; simp; unfold maxLen; omega) (by rw [List.length_append, HLe.out]; simp; omega) (by have := G3.out.size; omega) ?_; intro v4 w4 hown4 hg4 _)
          have G4 := Lib.hid (grown_new G3.out hg4 (fun r hr => (O3.out.block r hr).1))
          have O4 : Hid (OwnI w4 wr.heap.size v4 (putS l x)) := by
            show _
            have h7 : OwnI w4 wr.heap.size v4 (l.take l.length ++ [x]) := by unfold OwnI; simpa using hown4
            rw [HE.out, hds, List.append_nil]
            exact h7
          clear hown4 hg4
          go_wp2
          go_ret
          exact gives ⟨O4.out, G4.out⟩
end Go.Proofs.Ytjjlajcpngphpaa
