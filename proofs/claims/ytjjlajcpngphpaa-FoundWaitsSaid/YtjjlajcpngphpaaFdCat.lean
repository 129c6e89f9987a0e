/- slices.Grow of a nil slice of integers, slices.Concat of some slices of integers. -/
import Derived.Test.YtjjlajcpngphpaaHasA
import Derived.Lib.AppendZerosOnto
import Derived.Lib.Walk
namespace Go.Proofs.Ytjjlajcpngphpaa
open Go.RowKit

theorem zcells_len (k : Nat) : (Builtin.zeroCells (Value.int .i64 0).cells k).size = k * 1 := by
  simp [Builtin.zeroCells, Value.cells]
set_option maxHeartbeats 1000000 in
set_option maxRecDepth 100000 in
theorem grow_any (n : Nat) (w : World) (hn : n ≤ 1000000) : Calls Try.prog 25 #[.slice none 0 0, .int .i64 n] w (Gives fun u w' => OwnI w' w.heap.size u [] ∧ Fr w w' []) := by
  obtain ⟨i0, hi0, hz0, hz1, hz2⟩ := info_parts infoI
  by_cases h0 : n = 0
  · subst h0
    go_enter Try.func25, Try.ntmps25
    go_wp2
    go_ret
    exact gives ⟨OwnI.nil _ _, Fr.refl _ _⟩
  · have hold : (Builtin.firstCells i0.size 0 (.slice none 0 0)).run Try.prog w.drew = .ok ([] : List Value).toArray w.drew := run_firstCells_none w.drew i0.size 0 0 0
    have hgf : Builtin.nextslicecap (0 + n) 0 * i0.bytes ≤ 281474976710656 := growslice_fits (by omega) (by rw [hz2]; omega)
    have hap := fun ty => Lib.run_append_grow_zeros (P := Try.prog) w 22 3 ty 3 i0 _ .i64 .i64 Try.underlying22 Try.underlying3 hi0 hz0 none 0 0 [] hold n (by omega) (by rw [hz1]; decide) (by omega) (by omega) (by rw [hz2]; omega) hgf
    have hGn : 0 + n ≤ grownCap w (0 + n) 0 3 := grownCap_ge w _ _ _
    have hGm := grownCap_le_maxLen w (0 + n) 0 3 (by unfold maxLen; omega)
    obtain ⟨G, hG⟩ : ∃ G, G = grownCap w (0 + n) 0 3 := ⟨_, rfl⟩
    rw [← hG] at hap hGn hGm
    rw [Nat.zero_add] at hap hGn
    obtain ⟨cs, hcs⟩ : ∃ cs, cs = ([] : List Value).toArray ++ Builtin.zeroCells (Value.int .i64 0).cells n ++ Builtin.zeroCells (Value.int .i64 0).cells (G - n) := ⟨_, rfl⟩
    rw [← hcs] at hap
    have hsz : cs.size = G * 1 := by
      rw [hcs, Array.size_append, Array.size_append, zcells_len, zcells_len]
      simp only [List.size_toArray, List.length_nil]
      omega
    have HO : Hid (OwnI (w.drew.alloc (.cells cs 3)) w.heap.size (.slice (some ⟨w.heap.size, 0, none⟩) 0 G) []) :=
      ⟨rfl, .inr ⟨w.heap.size, G, cs, rfl, Nat.le_refl _, heap_alloc_new w.drew _, Nat.zero_le _, hGm, hsz, by simp [i64s]⟩⟩
    have HF : Hid (Fr w (w.drew.alloc (.cells cs 3)) []) := (Fr.drew w []).trans (Fr.alloc _ _ [])
    unfold maxLen at hGm
    have hnp : (n : Int) > 0 := by omega
    clear hG hcs hsz hold hgf
    go_enter Try.func25, Try.ntmps25
    go_wp2_with (at_builtin; refine Lib.wpList_append_run _ rfl _ _ _ _ rfl _ _ rfl rfl _ _ (hap _) ?_)
    go_ret
    exact gives ⟨HO.out, HF.out⟩
/-- Slices of bids, one behind the other. -/
abbrev VL := Value × List Int
def zVL : VL := (.slice none 0 0, [])
def totL : List VL → Nat
  | [] => 0
  | p :: vs => p.2.length + totL vs
def catL (vs : List VL) : List Int := vs.flatMap (·.2)
theorem catL_len : ∀ vs : List VL, (catL vs).length = totL vs
  | [] => rfl
  | p :: vs => by
    have := catL_len vs
    unfold catL at *
    rw [List.flatMap_cons, List.length_append, this]
    rfl
theorem catL_app (vs ws : List VL) : catL (vs ++ ws) = catL vs ++ catL ws := by simp [catL]
theorem take_vl (vs : List VL) (k : Nat) (h : k < vs.length) : vs.take (k + 1) = vs.take k ++ [vs.getD k zVL] := by
  rw [List.take_succ_eq_append_getElem h]; simp [h]
theorem tot_take (vs : List VL) (k : Nat) (h : k < vs.length) : totL (vs.take (k + 1)) = totL (vs.take k) + (vs.getD k zVL).2.length := by
  rw [← catL_len, ← catL_len, take_vl vs k h, catL_app, List.length_append]; simp [catL]
theorem cat_take (vs : List VL) (k : Nat) (h : k < vs.length) : catL (vs.take (k + 1)) = catL (vs.take k) ++ (vs.getD k zVL).2 := by
  rw [take_vl vs k h, catL_app]; simp [catL]
theorem tot_le (vs : List VL) (k : Nat) : totL (vs.take k) ≤ totL vs := by
  have h : totL vs = totL (vs.take k) + totL (vs.drop k) := by
    rw [← catL_len, ← catL_len, ← catL_len, ← List.length_append, ← catL_app, List.take_append_drop]
  omega
/-- The slice v holds the numbers l, and is nil or points somewhere. -/
def HIf (w : World) (v : Value) (l : List Int) : Prop := HInts w v l ∧ (v = .slice none 0 0 ∨ ∃ x c, v = .slice (some x) l.length c)
theorem HIf.keep {w w' : World} {v : Value} {l : List Int} (h : HIf w v l) (k : Fr w w' []) : HIf w' v l := ⟨Holds.keep h.1 k, h.2⟩
theorem OwnI.hif {w : World} {B : Nat} {v : Value} {l : List Int} (h : OwnI w B v l) : HIf w v l := ⟨h.holds, h.form⟩
theorem HIf.nil (w : World) : HIf w (.slice none 0 0) [] := ⟨nil_ints w, .inl rfl⟩
theorem i64s_more (l m : List Int) : i64s (l ++ m) = i64s l ++ i64s m := by simp [i64s]
theorem own_more {w0 w w6 : World} {B : Nat} {l m : List Int} {v v' : Value} (ho : w6.ownsRow B 3 1 v' (l.length + m.length) (i64s l ++ i64s m)) (hf : Fr w0 w [])
    (hg : w.grownBy w6 v.ownBlock) (hb : ∀ r, v.ownBlock = some r → w0.heap.size ≤ r) : OwnI w6 B v' (l ++ m) ∧ Fr w0 w6 [] := by
  refine ⟨?_, hf.grown_own hg (fun r hr => .inr (hb r hr))⟩
  unfold OwnI
  rw [List.length_append, i64s_more]
  exact ho
set_option maxHeartbeats 2000000 in
set_option maxRecDepth 100000 in
theorem concat_any (g : Nat) (vs : List VL) (w : World) (hl : vs.length ≤ 1000) (ht : totL vs ≤ 1000000) (hc : ∀ i, i < vs.length → w.cell? ⟨g, i, none⟩ = some (vs.getD i zVL).1) (hv : ∀ i, i < vs.length → HIf w (vs.getD i zVL).1 (vs.getD i zVL).2) :
    Calls Try.prog 19 #[.slice (some ⟨g, 0, none⟩) vs.length vs.length] w (Gives fun u w' => OwnI w' w.heap.size u (catL vs) ∧ Fr w w' []) := by
  obtain ⟨i0, hi0, hz0, hz1, hz2⟩ := info_parts infoI
  obtain ⟨n, hn⟩ : ∃ n, n = vs.length := ⟨_, rfl⟩
  have HN := Lib.hid hn
  have HC := Lib.hid hc
  have HV := Lib.hid hv
  have HT := Lib.hid ht
  obtain ⟨t, htt⟩ : ∃ t, t = totL vs := ⟨_, rfl⟩
  have HTT := Lib.hid htt
  rw [← htt] at ht
  rw [← hn] at hl ⊢
  have GR := Lib.hid (grow_any t w ht)
  clear hc hv hn htt
  go_enter Try.func19, Try.ntmps19
  go_wp2
  go_loopw [3, 5, 11] (fun s3 _ s11 wx => ∃ k m : Nat, s3 = .int .i64 m ∧ s11 = .int .i64 k ∧ Hid (k ≤ n) ∧ Hid (m = totL (vs.take k)) ∧ w = wx) (fun _ _ s11 _ => n - (intOf s11).toNat)
  case atStart => exact ⟨0, 0, rfl, rfl, Lib.hid (Nat.zero_le _), Lib.hid rfl, rfl⟩
  case round =>
    obtain ⟨k, m, rfl, rfl, HK, HM, rfl⟩ := hrel
    have hk := HK.out
    by_cases hlt : k < n
    · have hcell := HC.out k (by have := HN.out; omega)
      obtain ⟨⟨a, c, hav, p1, q1, r1⟩, _⟩ := HV.out k (by have := HN.out; omega)
      obtain ⟨q, hq⟩ : ∃ q, q = (vs.getD k zVL).2.length := ⟨_, rfl⟩
      rw [hav, ← hq] at hcell
      have hs := tot_take vs k (by have := HN.out; omega)
      rw [← hq, ← HM.out] at hs
      have hb := tot_le vs (k + 1)
      rw [hs] at hb
      have hb2 := HT.out
      have HM2 : Hid (m + q = totL (vs.take (k + 1))) := Lib.hid hs.symm
      have hmq : m + q ≤ 1000000 := by omega
      have hnn : ¬ (((m : Int) + (q : Int)) < 0) := by omega
      clear hq hs hb hb2 hav p1 q1 r1 HM
      go_wp2
      go_roundw
      case rel => exact ⟨k + 1, m + q, by go_num, by go_num, Lib.hid (by omega), HM2, by trivial⟩
      case measure => simp [intOf]; omega
    · obtain rfl : k = n := by omega
      have HE : Hid (m = t) := by
        show _ = _
        rw [HM.out, HN.out, List.take_length, HTT.out]
      obtain rfl := HE.out
      clear HM HE
      go_wp2_with fail
      with_reducible refine (GR.out).mono ?_
      rintro e w1 ⟨u, rfl, ho, hf⟩
      have HO := Lib.hid ho
      have HF := Lib.hid hf
      clear ho hf GR
      go_wp2
      go_loopw [6, 8, 27] (fun s6 _ s27 wx => ∃ j : Nat, s27 = .int .i64 j ∧ Hid (j ≤ k) ∧ Hid (OwnI wx w.heap.size s6 (catL (vs.take j))) ∧ Hid (Fr w wx [])) (fun _ _ s27 _ => k - (intOf s27).toNat)
      case atStart => exact ⟨0, rfl, Lib.hid (Nat.zero_le _), HO, HF⟩
      case round =>
        obtain ⟨j, rfl, HJ, HOj, HFj⟩ := hrel
        have hj := HJ.out
        by_cases hlt : j < k
        · have hcell := HFj.out.cell (HC.out j (by have := HN.out; omega)) (by simp)
          have hvj := (HV.out j (by have := HN.out; omega)).keep HFj.out
          have hct := cat_take vs j (by have := HN.out; omega)
          have hb := tot_le vs (j + 1)
          rw [← catL_len, hct, List.length_append] at hb
          have hb2 := HT.out
          obtain ⟨⟨v, l⟩, hvl⟩ : ∃ p, p = vs.getD j zVL := ⟨_, rfl⟩
          rw [← hvl] at hcell hvj hct hb
          dsimp only at hcell hvj hct hb
          have HCT := Lib.hid hct
          obtain ⟨M, hM⟩ : ∃ M, M = catL (vs.take j) := ⟨_, rfl⟩
          rw [← hM] at HOj hb HCT
          obtain ⟨ua, uc, hu⟩ := row_shape HOj.out
          have HVJ := Lib.hid hvj
          obtain ⟨⟨a, c, rfl, p1, q1, r1⟩, hform⟩ := hvj
          have hbig : M.length + l.length ≤ 1000000 := by omega
          clear hvl hct hM hb hb2 r1 HO HF
          cases a with
          | none =>
            have hl0 : l = [] ∧ c = 0 := by
              rcases hform with h | ⟨x, c', h⟩
              · simp only [Value.slice.injEq] at h
                exact ⟨List.eq_nil_of_length_eq_zero h.2.1, h.2.2⟩
              · simp at h
            obtain ⟨rfl, rfl⟩ := hl0
            clear hform
            have HO2 : Hid (OwnI wr w.heap.size (.slice ua M.length uc) (catL (vs.take (j + 1)))) := by
              show OwnI _ _ _ _
              rw [HCT.out, List.append_nil, ← hu]
              exact HOj.out
            clear HVJ
            go_wp2_with (at_builtin; refine wpList_append_own_none rfl _ _ 22 rfl w.heap.size 3 i0 1 Try.underlying22 hi0 _ _ _ rfl HOj.out rfl ?_)
            go_roundw
            case rel => exact ⟨j + 1, by go_num, Lib.hid (by omega), HO2, HFj⟩
            case measure => simp [intOf]; omega
          | some ad =>
            clear hform
            go_wp2_with (at_builtin; refine wpList_append_own _ rfl _ _ 22 rfl w.heap.size 3 i0 (.int .i64 0) 1 8 Try.underlying22 hi0 hz0 hz1 hz2 rfl (by decide) _ _ _ rfl HOj.out ad l.length c (i64s l) rfl (by simp) (HInts.args HVJ.out.1) (i64s_one l) (by unfold maxLen; omega) (by omega) HFj.out.size ?_; intro v' w3 hown3 hg3 _)
            have HQ := Lib.hid (own_more (m := l) hown3 HFj.out hg3 (fun r hr => (HOj.out.block r hr).1))
            have HO2 : Hid (OwnI w3 w.heap.size v' (catL (vs.take (j + 1)))) := by
              show OwnI _ _ _ _
              rw [HCT.out]
              exact HQ.out.1
            have HF2 := Lib.hid HQ.out.2
            clear hown3 hg3 HQ HVJ
            go_wp2
            go_roundw
            case rel => exact ⟨j + 1, by go_num, Lib.hid (by omega), HO2, HF2⟩
            case measure => simp [intOf]; omega
        · obtain rfl : j = k := by omega
          have HO2 := HOj.out
          rw [HN.out, List.take_length] at HO2
          have HO2 := Lib.hid HO2
          clear HOj HO HF
          go_wp2
          go_ret
          exact gives ⟨HO2.out, HFj.out⟩
end Go.Proofs.Ytjjlajcpngphpaa
