import Derived.Test.YtiflmkicnkbeaaaGreatDoorZp01
import Derived.Test.YtiflmkicnkbeaaaGreatDoorZp02
import Derived.Lib.SlicesCompact
import Derived.Lib.RowBridge
import Derived.Sort.OwnSortedInts
namespace Go.Proofs.YtiflmkicnkbeaaaGreatDoor
abbrev Rises (l : List Int) : Prop := l.Pairwise (· < ·)
theorem compact_inv (d : Array Int) (hd : ∀ i j, i ≤ j → j < d.size → d[i]! ≤ d[j]!) : ∀ m, m ≤ d.size →
 Rises (Lib.compactUpTo d m) ∧ (∀ x ∈ Lib.compactUpTo d m, x ≤ d[m - 1]!) ∧ ∀ x, x ∈ Lib.compactUpTo d m ↔ ∃ j, j < m ∧ d[j]! = x := by
 intro m
 induction m with
 | zero => intro _; simp [Lib.compactUpTo]
 | succ m ih =>
   intro hm
   obtain ⟨h1, h2, h3⟩ := ih (by omega)
   rw [Lib.compactUpTo_succ]
   by_cases hk : Lib.keeps d m = true
   · rw [if_pos hk]
     refine ⟨List.pairwise_append.2 ⟨h1, by simp, fun x hx y hy => ?_⟩, fun x hx => ?_, fun x => ?_⟩
     · obtain rfl := List.mem_singleton.1 hy
       have hx2 := h2 x hx
       rcases Nat.eq_zero_or_pos m with rfl | h0
       · simp [Lib.compactUpTo] at hx
       · have hne : d[m]! ≠ d[m - 1]! := by
          intro e
          rw [Lib.keeps_neg h0 e] at hk
          exact absurd hk (by simp)
         have := hd (m - 1) m (by omega) (by omega)
         omega
     · rw [Nat.add_sub_cancel]
       rcases List.mem_append.1 hx with h | h
       · have := h2 x h; have := hd (m - 1) m (by omega) (by omega); omega
       · obtain rfl := List.mem_singleton.1 h; exact Int.le_refl _
     · rw [List.mem_append, h3, List.mem_singleton]
       constructor
       · rintro (⟨j, hj, e⟩ | e)
         · exact ⟨j, by omega, e⟩
         · exact ⟨m, by omega, e.symm⟩
       · rintro ⟨j, hj, e⟩
         by_cases hjm : j = m
         · subst hjm; exact .inr e.symm
         · exact .inl ⟨j, by omega, e⟩
   · rw [if_neg hk, List.append_nil]
     have h0 : 0 < m := by
      rcases Nat.eq_zero_or_pos m with rfl | h0
      · exact absurd (Lib.keeps_lt_one d 0 (by omega)) hk
      · exact h0
     have he : d[m]! = d[m - 1]! := by
      by_cases e : d[m]! = d[m - 1]!
      · exact e
      · exact absurd (Lib.keeps_pos e) hk
     refine ⟨h1, fun x hx => ?_, fun x => ?_⟩
     · rw [Nat.add_sub_cancel, he]; exact h2 x hx
     · rw [h3]
       constructor
       · rintro ⟨j, hj, e⟩; exact ⟨j, by omega, e⟩
       · rintro ⟨j, hj, e⟩
         by_cases hjm : j = m
         · exact ⟨m - 1, by omega, by rw [← he, ← hjm]; exact e⟩
         · exact ⟨j, by omega, e⟩
def setOf (l : List Int) : List Int := Lib.compact (l.mergeSort fun x y => decide (x ≤ y))
theorem setOf_inv (l : List Int) : Rises (setOf l) ∧ ∀ x, x ∈ setOf l ↔ x ∈ l := by
 have hp := List.mergeSort_perm l (fun x y => decide (x ≤ y))
 have hs := List.pairwise_mergeSort (le := fun x y : Int => decide (x ≤ y)) (by intro a b c; simp; omega) (by intro a b; simp; omega) l
 obtain ⟨m, hm⟩ : ∃ m, m = l.mergeSort (fun x y => decide (x ≤ y)) := ⟨_, rfl⟩
 rw [← hm] at hp hs
 have hd : ∀ i j, i ≤ j → j < m.toArray.size → m.toArray[i]! ≤ m.toArray[j]! := by
  intro i j hij hj
  have hj' : j < m.length := by simpa using hj
  rw [getElem!_pos _ i (by simp; omega), getElem!_pos _ j hj]
  rcases Nat.lt_or_eq_of_le hij with h | rfl
  · have := List.pairwise_iff_getElem.1 hs i j (by omega) hj' h
    simpa using this
  · exact Int.le_refl _
 have := compact_inv m.toArray hd m.length (by simp)
 have hE : setOf l = Lib.compactUpTo m.toArray m.length := by unfold setOf Lib.compact; rw [← hm]
 rw [hE]
 refine ⟨this.1, fun x => ?_⟩
 rw [this.2.2, ← hp.mem_iff]
 constructor
 · rintro ⟨j, hj, e⟩
   rw [getElem!_pos _ j (by simpa using hj)] at e
   rw [← e]
   simp
 · intro hx
   obtain ⟨j, hj, e⟩ := List.getElem_of_mem hx
   exact ⟨j, hj, by rw [getElem!_pos _ j (by simpa using hj)]; simpa using e⟩
theorem mem_setOf {l : List Int} {x : Int} : x ∈ setOf l ↔ x ∈ l := (setOf_inv l).2 x
theorem setOf_nil : setOf [] = [] := by simp [setOf, Lib.compact, Lib.compactUpTo]
theorem setOf_length (l : List Int) : (setOf l).length ≤ l.length := by
 unfold setOf
 refine Nat.le_trans (Lib.compact_length_le _) ?_
 simp
end Go.Proofs.YtiflmkicnkbeaaaGreatDoor
namespace Go.Proofs.YtiflmkicnkbeaaaGreatDoor
open Go.RowKit
theorem same_any (v1 : Value) (l : List Int) (v2 : Value) (m : List Int) (w : World) (h1 : HInts w v1 l) (h2 : HInts w v2 m) (b : Bool) (hb : b = decide (l = m)) :
 Calls Tryz.prog 213 #[v1, v2] w fun e w' => e = .returned (.bool b) ∧ ∃ q, w' = w.drewN q := by
 obtain ⟨a1, c1, rfl, p1, q1, r1⟩ := h1
 obtain ⟨a2, c2, rfl, p2, q2, r2⟩ := h2
 unfold maxLen at q1 q2
 have hc : Calls Tryz.prog 248 #[.slice a1 l.length c1, .slice a2 m.length c2] w fun e w' => e = .returned (.bool b) ∧ ∃ q, w' = w.drewN q := by
  by_cases hl : l.length = m.length
  · by_cases h0 : 0 < l.length
    · obtain ⟨b1, o1, rfl, k1⟩ := r1 (by omega)
      obtain ⟨b2, o2, rfl, k2⟩ := r2 (by omega)
      refine (Tryz.slices_Equal_int b1 o1 l.length c1 b2 o2 m.length c2 l m w (Nat.le_refl _) (Nat.le_refl _) (by omega) (by omega) k1 k2).mono ?_
      rintro e w' ⟨rfl, hq⟩
      refine ⟨?_, hq⟩
      rw [List.take_length, List.take_length, hb]
      congr 2
      exact Bool.eq_iff_iff.2 (by simp)
    · obtain rfl : l = [] := List.eq_nil_of_length_eq_zero (by omega)
      obtain rfl : m = [] := List.eq_nil_of_length_eq_zero (by simp at hl; omega)
      refine (Tryz.slices_Equal_int_empty a1 a2 c1 0 c2 w (by decide)).mono ?_
      rintro e w' ⟨rfl, rfl⟩
      exact ⟨by simp [hb], 0, rfl⟩
  · refine (Tryz.slices_Equal_int_lens a1 a2 l.length c1 m.length c2 w hl).mono ?_
    rintro e w' ⟨rfl, rfl⟩
    refine ⟨?_, 0, rfl⟩
    have : ¬ l = m := by rintro rfl; exact hl rfl
    simp [hb, this]
 have HC := Lib.hid hc
 clear hc hb r1 r2
 go_enter Tryz.func213, Tryz.ntmps213
 go_wp2_with fail
 refine HC.out.mono ?_
 rintro e w' ⟨rfl, q, rfl⟩
 go_wp2
 go_ret
 exact ⟨rfl, q, rfl⟩
theorem set_row {w : World} {B g cap : Nat} {cur : Array Value} {l ts : List Int} {q : Nat} {os : Array Obj} (hB : B ≤ g) (hg : w.heap[g]? = some (.cells cur 3 (0, 0))) (hl : ts.length = l.length) (h1 : l.length ≤ cap) (h2 : cap ≤ maxLen) (h3 : cur.size = cap * 1) :
 OwnI (Sort.grow (Sort.putRow (Value.int .i64) (Sort.ahead w q) g 0 ts.toArray) os) B (.slice (some ⟨g, 0, none⟩) ts.length cap) ts := by
 have := ownsRow_sortedI (w := w) (base := B) (n := q) (os := os) (ss := l) hl hB hg h1 h2 h3
 unfold OwnI i64s
 rw [hl]; exact this
theorem OwnI.cut {w : World} {B g n cap : Nat} {l m : List Int} (h : OwnI w B (.slice (some ⟨g, 0, none⟩) n cap) (l ++ m)) : OwnI w B (.slice (some ⟨g, 0, none⟩) l.length cap) l := by
 rcases h.2 with ⟨h, _⟩ | ⟨g', cap', cur, he, hb, hg, hn, hm, hs, ht⟩
 · simp at h
 · simp only [Value.slice.injEq, Option.some.injEq, Addr.mk.injEq, and_true] at he
   obtain ⟨rfl, rfl, rfl⟩ := he
   refine ⟨by simp, .inr ⟨g, cap, cur, rfl, hb, hg, by rw [List.length_append] at hn; omega, hm, hs, ?_⟩⟩
   have h5 := congrArg (List.take (l.length * 1)) ht
   rw [List.take_take, List.length_append, Nat.min_eq_left (by omega)] at h5
   rw [h5]
   simp [i64s]
set_option maxRecDepth 100000 in
theorem set_any (v : Value) (l : List Int) (w : World) (h : HInts w v l) (hv : v = .slice none 0 0 ∨ ∃ x c, v = .slice (some x) l.length c) (hr : l.length ≤ 1000000) :
 Calls Tryz.prog 63 #[v] w (Gives fun u w' => OwnI w' w.heap.size u (setOf l) ∧ Fr w w' []) := by
 obtain ⟨i0, hi, hz0, hz1, hz2⟩ := info_parts infoI
 have HN : Hid (l = [] → ∀ (W : World), OwnI W w.heap.size (.slice none 0 0) (setOf l)) := by
  show _
  rintro rfl W
  rw [setOf_nil]
  exact OwnI.nil _ _
 rcases hv with rfl | ⟨ad, cap, rfl⟩
 · have h0 : l = [] := by
    obtain ⟨a, cap, he, _⟩ := h
    simp only [Value.slice.injEq] at he
    exact List.eq_nil_of_length_eq_zero he.2.1.symm
   have HO := Lib.hid (OwnI.nil w w.heap.size)
   have HL := Lib.hid h0
   clear h h0
   go_enter Tryz.func63, Tryz.ntmps63
   go_wp2_with (at_builtin; refine wpList_append_own_none rfl _ _ 36 rfl w.heap.size 3 i0 1 Tryz.underlying36 hi _ _ _ rfl HO.out rfl ?_)
   go_wp2_with fail
   refine (Tryz.slices_Sort_int_none none 0 _).mono ?_
   rintro e w' ⟨rfl, rfl⟩
   go_wp2_with fail
   refine (Tryz.slices_Compact_int_empty none 0 _).mono ?_
   rintro e w' ⟨rfl, rfl⟩
   go_wp2
   go_ret
   exact gives ⟨HN.out HL.out _, Fr.refl _ _⟩
 · have HA := Lib.hid (HInts.args h)
   clear h
   go_enter Tryz.func63, Tryz.ntmps63
   go_wp2_with (at_builtin; refine wpList_append_own _ rfl _ _ 36 rfl w.heap.size 3 i0 (.int .i64 0) 1 8 Tryz.underlying36 hi hz0 hz1 hz2 rfl (by decide) (.slice none 0 0) 0 [] rfl (OwnI.nil w w.heap.size) ad l.length cap (i64s l) rfl (by simp) HA.out (i64s_one _) (by unfold maxLen; omega) (by omega) (Nat.le_refl _) ?_; intro v' w2 hown2 hg2 _)
   have ho2 : OwnI w2 w.heap.size v' l := by simpa [OwnI] using hown2
   have HG : Hid (Fr w w2 []) := Fr.of_grown hg2 []
   clear hg2 hown2
   rcases ho2.2 with ⟨rfl, h0⟩ | ⟨g, cp, cur, rfl, hb, hg, hn, hm, hs, ht⟩
   · have HL : Hid (l = []) := List.eq_nil_of_length_eq_zero h0
     clear ho2 h0
     go_wp2_with fail
     refine (Tryz.slices_Sort_int_none none 0 _).mono ?_
     rintro e w' ⟨rfl, rfl⟩
     go_wp2_with fail
     refine (Tryz.slices_Compact_int_empty none 0 _).mono ?_
     rintro e w' ⟨rfl, rfl⟩
     go_wp2
     go_ret
     exact gives ⟨HN.out HL.out _, HG.out⟩
   · have hH : Sort.Holds (Value.int .i64) w2 g 0 l.toArray := holds_of_blockI hg (by rw [Nat.mul_one] at ht; exact ht)
     have HS := Lib.hid (Tryz.slices_Sort_int g 0 cp l w2 hH (size_of_row hg) (by omega))
     have H0 := Lib.hid (And.intro hb (And.intro hg (And.intro hn (And.intro hm hs))))
     clear hH ho2 hb hg hn hm hs ht
     go_wp2_with fail
     refine HS.out.mono ?_
     rintro e w3 ⟨rfl, q, os, hw3⟩
     obtain ⟨ts, hts⟩ : ∃ ts, ts = l.mergeSort (fun x y => decide (x ≤ y)) := ⟨_, rfl⟩
     have hlen : ts.length = l.length := by rw [hts]; simp
     rw [← hts] at hw3
     obtain ⟨hb, hg, hn, hm, hs⟩ := H0.out
     have hg3 : w3.heap[g]? = some (.cells (Sort.putCells (Value.int .i64) 0 ts.toArray cur) 3 (0, 0)) := by rw [hw3]; exact heap_sortedI _ hg
     have ho3 : OwnI w3 w.heap.size (.slice (some ⟨g, 0, none⟩) ts.length cp) ts := by rw [hw3]; exact set_row hb hg hlen hn hm hs
     have hH3 : Sort.Holds (Value.int .i64) w3 g 0 ts.toArray := holds_of_blockI hg3 (by
      have : cur.size = cp := by omega
      exact take_putCellsI cur ts (by omega))
     have F3 : Hid (Fr w w3 []) := by
      rw [hw3]
      exact HG.out.new (Fr.of_grown_row (grownBy_sortedI ts.toArray) (S := [g]) (by simp)) (by intro r hr; obtain rfl := List.mem_singleton.1 hr; exact hb)
     have HC := Lib.hid (Tryz.slices_Compact_int g 0 cp ts w3 hH3 (by omega) (by omega))
     rw [← hlen]
     have hset : setOf l = Lib.compact ts := by rw [hts]; rfl
     have hle := Lib.compact_length_le ts
     have H3 : Hid (∀ q, OwnI (Sort.putRow (Value.int .i64) (Sort.ahead w3 q) g 0 (Lib.compact ts ++ List.replicate (ts.length - (Lib.compact ts).length) 0).toArray) w.heap.size (.slice (some ⟨g, 0, none⟩) (Lib.compact ts).length cp) (setOf l)) := by
      intro q
      have hlc : (Lib.compact ts ++ List.replicate (ts.length - (Lib.compact ts).length) 0).length = ts.length := by simp; omega
      have := set_row (q := q) (os := #[]) hb hg3 hlc (by omega) hm (by simp [Sort.putCells]; omega)
      rw [Sort.grow_empty] at this
      rw [hset]
      exact OwnI.cut this
     have HF : Hid (∀ q (d : Array Int), Fr w (Sort.putRow (Value.int .i64) (Sort.ahead w3 q) g 0 d) []) := by
      intro q d
      have := grownBy_sortedI (w := w3) (g := g) (n := q) (os := #[]) d
      rw [Sort.grow_empty] at this
      exact F3.out.new (Fr.of_grown_row this (S := [g]) (by simp)) (by intro r hr; obtain rfl := List.mem_singleton.1 hr; exact hb)
     clear hw3 hts hb hg hn hm hs hg3 ho3 hH3 hset hle hlen HS H0 F3
     go_wp2_with fail
     refine HC.out.mono ?_
     rintro e w4 ⟨rfl, q4, rfl⟩
     go_wp2
     go_ret
     exact gives ⟨H3.out _, HF.out _ _⟩
end Go.Proofs.YtiflmkicnkbeaaaGreatDoor
