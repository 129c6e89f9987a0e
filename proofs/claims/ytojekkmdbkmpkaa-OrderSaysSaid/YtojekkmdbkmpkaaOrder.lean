/- The package's Set, Has, Least, Same, Next. -/
import Derived.Test.YtojekkmdbkmpkaaOMath
import Derived.Test.YtojekkmdbkmpkaaSlices
import Derived.Test.YtojekkmdbkmpkaaOwnI
import Derived.Sort.OwnSortedInts
namespace Go.Proofs.Ytojekkmdbkmpkaa
open Go.RowKit

theorem HInts.args {w : World} {x : Addr} {n cap : Nat} {l : List Int} (h : HInts w (.slice (some x) n cap) l) : ∀ j u, (i64s l)[j]? = some u → w.cell? (x.add j) = some u := by
  intro j u hj
  have hjl : j < l.length := by have := (List.getElem?_eq_some_iff.1 hj).1; simpa using this
  have e : (i64s l)[j]? = some (.int .i64 (l.getD j 0)) := by simp [i64s, hjl]
  rw [e] at hj
  obtain rfl := Option.some.inj hj
  obtain ⟨a, cap', he, _, _, hc⟩ := h
  simp only [Value.slice.injEq] at he
  obtain ⟨rfl, rfl, rfl⟩ := he
  obtain ⟨b, off, he2, hc2⟩ := hc (by omega)
  simp only [Option.some.injEq] at he2
  subst he2
  rw [Addr.add_lit]
  exact hc2 j hjl
theorem i64s_one (l : List Int) : ∀ u ∈ i64s l, u.oneCell' = true := ints_oneCell _ _
theorem nil_ints (w : World) : HInts w (.slice none 0 0) [] := ⟨none, 0, rfl, by simp, by decide, fun h => absurd h (by simp)⟩

theorem has_any (v : Value) (l : List Int) (c : Int) (w : World) (h : HInts w v l) (b : Bool) (hb : b = decide (c ∈ l)) :
    Calls Try.prog 12 #[v, .int .i64 c] w fun e w' => e = .returned (.bool b) ∧ w' = w := by
  obtain ⟨a, cap, rfl, h1, h2, h3⟩ := h
  unfold maxLen at h2
  have hc : Calls Try.prog 23 #[.slice a l.length cap, .int .i64 c] w fun e w' => e = .returned (.bool b) ∧ w' = w := by
    by_cases h0 : 0 < l.length
    · obtain ⟨bk, off, rfl, hc⟩ := h3 h0
      refine (Try.slices_Contains_int bk off l.length cap l c w (Nat.le_refl _) (by omega) hc).mono ?_
      rintro e w' ⟨rfl, rfl⟩
      refine ⟨?_, rfl⟩
      rw [List.take_length, hb]
      congr 2
      simp
    · obtain rfl : l = [] := List.eq_nil_of_length_eq_zero (by omega)
      refine (Try.slices_Contains_int_empty a cap c w).mono ?_
      rintro e w' ⟨rfl, rfl⟩
      exact ⟨by simp [hb], rfl⟩
  have HC := Lib.hid hc
  clear hc h3 hb
  go_enter Try.func12, Try.ntmps12
  go_wp2_with fail
  refine HC.out.mono ?_
  rintro e w' ⟨rfl, rfl⟩
  go_wp2
  go_ret
  exact ⟨rfl, rfl⟩
theorem minOf_is (zs : List Int) (h : zs ≠ []) : LeastIs zs (Lib.minOf zs) true := by
  suffices hs : ∀ (l : List Int) (a : Int), l.foldl min a ≤ a ∧ (∀ y ∈ l, l.foldl min a ≤ y) ∧ (l.foldl min a = a ∨ l.foldl min a ∈ l) by
    cases zs with
    | nil => exact absurd rfl h
    | cons x l =>
      unfold Lib.minOf
      obtain ⟨a1, a2, a3⟩ := hs (x :: l) x
      refine .inr ⟨rfl, ?_, a2⟩
      rcases a3 with e | e
      · rw [List.headD_cons, e]; simp
      · exact e
  intro l
  induction l with
  | nil => intro a; simp
  | cons y l ih =>
    intro a
    obtain ⟨a1, a2, a3⟩ := ih (min a y)
    rw [List.foldl_cons]
    refine ⟨by omega, fun z hz => ?_, ?_⟩
    · rcases List.mem_cons.1 hz with rfl | hz
      · omega
      · exact a2 z hz
    · rcases a3 with e | e
      · by_cases hay : a ≤ y
        · left; omega
        · right; rw [e]; simp; omega
      · right; simp [e]
theorem least_any (v : Value) (l : List Int) (w : World) (h : HInts w v l) (x : Int) (b : Bool) (hx : LeastIs l x b) :
    Calls Try.prog 16 #[v] w fun e w' => e = .returned (.tuple #[.int .i64 x, .bool b]) ∧ w' = w := by
  obtain ⟨a, cap, rfl, h1, h2, h3⟩ := h
  unfold maxLen at h2
  by_cases h0 : 0 < l.length
  · obtain ⟨bk, off, rfl, hc⟩ := h3 h0
    obtain ⟨rfl, rfl⟩ := hx.unique (minOf_is l (by rintro rfl; simp at h0))
    have hne : ((l.length : Int) == 0) = false := by rw [beq_eq_false_iff_ne]; omega
    have hm : Calls Try.prog 25 #[.slice (some ⟨bk, off, none⟩) l.length cap] w fun e w' => e = .returned (.int .i64 (Lib.minOf l)) ∧ w' = w := by
      have := Try.slices_Min_int bk off l.length cap l w h0 (Nat.le_refl _) (by omega) hc
      rwa [List.take_length] at this
    obtain ⟨m, hmm⟩ : ∃ m, m = Lib.minOf l := ⟨_, rfl⟩
    rw [← hmm] at hm ⊢
    have HM := Lib.hid hm
    clear hm hc h3 hx hmm
    go_enter Try.func16, Try.ntmps16
    go_wp2_with fail
    refine HM.out.mono ?_
    rintro e w' ⟨rfl, rfl⟩
    go_wp2
    go_ret2
    exact ⟨rfl, rfl⟩
  · obtain rfl : l = [] := List.eq_nil_of_length_eq_zero (by omega)
    obtain ⟨rfl, rfl⟩ := hx.unique (.inl ⟨rfl, rfl, rfl⟩ : LeastIs [] 0 false)
    clear h3 hx
    go_enter Try.func16, Try.ntmps16
    go_wp2
    go_ret2
    exact ⟨rfl, rfl⟩
theorem same_any (v1 : Value) (l : List Int) (v2 : Value) (m : List Int) (w : World) (h1 : HInts w v1 l) (h2 : HInts w v2 m) (b : Bool) (hb : b = decide (l = m)) :
    Calls Try.prog 11 #[v1, v2] w fun e w' => e = .returned (.bool b) ∧ ∃ q, w' = w.drewN q := by
  obtain ⟨a1, c1, rfl, p1, q1, r1⟩ := h1
  obtain ⟨a2, c2, rfl, p2, q2, r2⟩ := h2
  unfold maxLen at q1 q2
  have hc : Calls Try.prog 22 #[.slice a1 l.length c1, .slice a2 m.length c2] w fun e w' => e = .returned (.bool b) ∧ ∃ q, w' = w.drewN q := by
    by_cases hl : l.length = m.length
    · by_cases h0 : 0 < l.length
      · obtain ⟨b1, o1, rfl, k1⟩ := r1 (by omega)
        obtain ⟨b2, o2, rfl, k2⟩ := r2 (by omega)
        refine (Try.slices_Equal_int b1 o1 l.length c1 b2 o2 m.length c2 l m w (Nat.le_refl _) (Nat.le_refl _) (by omega) (by omega) k1 k2).mono ?_
        rintro e w' ⟨rfl, hq⟩
        refine ⟨?_, hq⟩
        rw [List.take_length, List.take_length, hb]
        congr 2
        exact Bool.eq_iff_iff.2 (by simp)
      · obtain rfl : l = [] := List.eq_nil_of_length_eq_zero (by omega)
        obtain rfl : m = [] := List.eq_nil_of_length_eq_zero (by simp at hl; omega)
        refine (Try.slices_Equal_int_empty a1 a2 c1 0 c2 w (by decide)).mono ?_
        rintro e w' ⟨rfl, rfl⟩
        exact ⟨by simp [hb], 0, rfl⟩
    · refine (Try.slices_Equal_int_lens a1 a2 l.length c1 m.length c2 w hl).mono ?_
      rintro e w' ⟨rfl, rfl⟩
      refine ⟨?_, 0, rfl⟩
      have : ¬ l = m := by rintro rfl; exact hl rfl
      simp [hb, this]
  have HC := Lib.hid hc
  clear hc hb r1 r2
  go_enter Try.func11, Try.ntmps11
  go_wp2_with fail
  refine HC.out.mono ?_
  rintro e w' ⟨rfl, q, rfl⟩
  go_wp2
  go_ret
  exact ⟨rfl, q, rfl⟩
theorem above_any (v : Value) (l : List Int) (n : Int) (w : World) (h : HInts w v l) (hr : l.length ≤ 1000000) (x : Int) (b : Bool) (hx : AboveIs l n x b) :
    Calls Try.prog 21 #[v, .int .i64 n] w fun e w' => e = .returned (.tuple #[.int .i64 x, .bool b]) ∧ w' = w := by
  obtain ⟨a, cap, rfl, h1, h2, h3⟩ := h
  unfold maxLen at h2
  have HX := Lib.hid hx
  clear hx
  go_enter Try.func21, Try.ntmps21
  go_wp2
  go_loopw [6, 7, 12] (fun le fo i wr => ∃ k y d, k ≤ l.length ∧ i = .int .i64 ((k : Nat) : Int) ∧ le = .int .i64 y ∧ fo = .bool d ∧ AboveIs (l.take k) n y d ∧ wr = w) (fun _ _ i _ => l.length - (intOf i).toNat)
  case atStart => exact ⟨0, 0, false, Nat.zero_le _, rfl, rfl, rfl, .nil n, rfl⟩
  case round =>
    obtain ⟨k, y, d, hk, rfl, rfl, rfl, hab, rfl⟩ := hrel
    have HA := Lib.hid hab
    clear hab
    by_cases hlt : k < l.length
    · obtain ⟨b1, o1, rfl, k1⟩ := h3 (by omega)
      have g1 := k1 k hlt
      have hs := take_snoc l k hlt
      obtain ⟨z, hz⟩ : ∃ z, z = l.getD k 0 := ⟨_, rfl⟩
      rw [← hz] at g1 hs
      have HS := Lib.hid hs
      clear hz hs k1 h3
      by_cases hn : n < z
      · cases d with
        | false =>
          go_wp2
          go_roundw
          case rel => exact ⟨k + 1, z, true, by omega, by go_num, rfl, rfl, by rw [HS.out]; exact HA.out.new hn (.inl rfl), trivial⟩
          case measure => simp [intOf]; omega
        | true =>
          by_cases hy : z < y
          · go_wp2
            go_roundw
            case rel => exact ⟨k + 1, z, true, by omega, by go_num, rfl, rfl, by rw [HS.out]; exact HA.out.new hn (.inr hy), trivial⟩
            case measure => simp [intOf]; omega
          · go_wp2
            go_roundw
            case rel => exact ⟨k + 1, y, true, by omega, by go_num, rfl, rfl, by rw [HS.out]; exact HA.out.old hy, trivial⟩
            case measure => simp [intOf]; omega
      · go_wp2
        go_roundw
        case rel => exact ⟨k + 1, y, d, by omega, by go_num, rfl, rfl, by rw [HS.out]; exact HA.out.not hn, trivial⟩
        case measure => simp [intOf]; omega
    · obtain rfl : k = l.length := by omega
      have HE : Hid (AboveIs l n y d) := by have := HA.out; rwa [List.take_length] at this
      clear h3
      go_wp2
      go_ret2
      obtain ⟨rfl, rfl⟩ := HE.out.unique HX.out
      exact ⟨rfl, rfl⟩
theorem next_any (v : Value) (l : List Int) (c : Int) (w : World) (h : HInts w v l) (hr : l.length ≤ 1000000) (x : Int) (b : Bool) (hx : NextIs l c x b) :
    Calls Try.prog 9 #[v, .int .i64 c] w fun e w' => e = .returned (.tuple #[.int .i64 x, .bool b]) ∧ w' = w := by
  have HH := Lib.hid h
  rcases hx with ⟨hc, rfl, rfl⟩ | ⟨hc, rfl, hx | ⟨hx, hy⟩⟩
  · have H1 := Lib.hid (has_any v l c w h false (by simp [hc]))
    clear h hc
    go_enter Try.func9, Try.ntmps9
    go_wp2_with fail
    refine H1.out.mono ?_
    rintro e w' ⟨rfl, rfl⟩
    go_wp2
    go_ret2
    exact ⟨rfl, rfl⟩
  · have H1 := Lib.hid (has_any v l c w h true (by simp [hc]))
    have H2 := Lib.hid (above_any v l c w h hr x true hx)
    clear h hc hx
    go_enter Try.func9, Try.ntmps9
    go_wp2_with fail
    refine H1.out.mono ?_
    rintro e w' ⟨rfl, rfl⟩
    go_wp2_with fail
    refine H2.out.mono ?_
    rintro e w' ⟨rfl, rfl⟩
    go_wp2
    go_ret2
    exact ⟨rfl, rfl⟩
  · have H1 := Lib.hid (has_any v l c w h true (by simp [hc]))
    have H2 := Lib.hid (above_any v l c w h hr 0 false hx)
    have H3 := Lib.hid (least_any v l w h x true hy)
    clear h hc hx hy
    go_enter Try.func9, Try.ntmps9
    go_wp2_with fail
    refine H1.out.mono ?_
    rintro e w' ⟨rfl, rfl⟩
    go_wp2_with fail
    refine H2.out.mono ?_
    rintro e w' ⟨rfl, rfl⟩
    go_wp2_with fail
    refine H3.out.mono ?_
    rintro e w' ⟨rfl, rfl⟩
    go_wp2
    go_ret2
    exact ⟨rfl, rfl⟩
/-- Behind the sort and the removal of what is twice, in a row of the call's own. -/
theorem set_row {w : World} {B g cap : Nat} {cur : Array Value} {l ts : List Int} {q : Nat} {os : Array Obj} (hB : B ≤ g) (hg : w.heap[g]? = some (.cells cur 3 (0, 0))) (hl : ts.length = l.length) (h1 : l.length ≤ cap) (h2 : cap ≤ maxLen) (h3 : cur.size = cap * 1) :
    OwnI (Sort.grow (Sort.putRow (Value.int .i64) (Sort.ahead w q) g 0 ts.toArray) os) B (.slice (some ⟨g, 0, none⟩) ts.length cap) ts := by
  have := ownsRow_sortedI (w := w) (base := B) (n := q) (os := os) (ss := l) hl hB hg h1 h2 h3
  unfold OwnI i64s
  rw [hl]; exact this
theorem OwnI.cut {w : World} {B g n cap : Nat} {l m : List Int} (h : OwnI w B (.slice (some ⟨g, 0, none⟩) n cap) (l ++ m)) : OwnI w B (.slice (some ⟨g, 0, none⟩) l.length cap) l := by
  rcases h.2 with ⟨h, _⟩ | ⟨g', cap', cur, he, hb, hg, hn, hm, hs, ht⟩
  · simp at h
  · simp only [Value.slice.injEq, Option.some.injEq, Addr.mk.injEq, and_true] at he
    obtain ⟨rfl, rfl, rfl⟩ := he
    refine ⟨by simp, .inr ⟨g, cap, cur, rfl, hb, hg, by rw [List.length_append] at hn; omega, hm, hs, ?_⟩⟩
    have h5 := congrArg (List.take (l.length * 1)) ht
    rw [List.take_take, List.length_append, Nat.min_eq_left (by omega)] at h5
    rw [h5]
    simp [i64s]
theorem OwnI.form {w : World} {B : Nat} {v : Value} {l : List Int} (h : OwnI w B v l) : v = .slice none 0 0 ∨ ∃ x c, v = .slice (some x) l.length c := by
  rcases h.2 with ⟨rfl, _⟩ | ⟨g, cap, cur, rfl, _⟩
  · exact .inl rfl
  · exact .inr ⟨_, _, rfl⟩
set_option maxRecDepth 100000 in
theorem set_any (v : Value) (l : List Int) (w : World) (h : HInts w v l) (hv : v = .slice none 0 0 ∨ ∃ x c, v = .slice (some x) l.length c) (hr : l.length ≤ 1000000) :
    Calls Try.prog 8 #[v] w (Gives fun u w' => OwnI w' w.heap.size u (setOf l) ∧ Fr w w' []) := by
  obtain ⟨i0, hi, hz0, hz1, hz2⟩ := info_parts infoI
  have HN : Hid (l = [] → ∀ (W : World), OwnI W w.heap.size (.slice none 0 0) (setOf l)) := by
    show _
    rintro rfl W
    rw [setOf_nil]
    exact OwnI.nil _ _
  rcases hv with rfl | ⟨ad, cap, rfl⟩
  · have h0 : l = [] := by
      obtain ⟨a, cap, he, _⟩ := h
      simp only [Value.slice.injEq] at he
      exact List.eq_nil_of_length_eq_zero he.2.1.symm
    have HO := Lib.hid (OwnI.nil w w.heap.size)
    have HL := Lib.hid h0
    clear h h0
    go_enter Try.func8, Try.ntmps8
    go_wp2_with (at_builtin; refine wpList_append_own_none rfl _ _ 22 rfl w.heap.size 3 i0 1 Try.underlying22 hi _ _ _ rfl HO.out rfl ?_)
    go_wp2_with fail
    refine (Try.slices_Sort_int_none none 0 _).mono ?_
    rintro e w' ⟨rfl, rfl⟩
    go_wp2_with fail
    refine (Try.slices_Compact_int_empty none 0 _).mono ?_
    rintro e w' ⟨rfl, rfl⟩
    go_wp2
    go_ret
    exact gives ⟨HN.out HL.out _, Fr.refl _ _⟩
  · have HA := Lib.hid (HInts.args h)
    clear h
    go_enter Try.func8, Try.ntmps8
    go_wp2_with (at_builtin; refine wpList_append_own _ rfl _ _ 22 rfl w.heap.size 3 i0 (.int .i64 0) 1 8 Try.underlying22 hi hz0 hz1 hz2 rfl (by decide) (.slice none 0 0) 0 [] rfl (OwnI.nil w w.heap.size) ad l.length cap (i64s l) rfl (by simp) HA.out (i64s_one _) (by unfold maxLen; omega) (by omega) (Nat.le_refl _) ?_; intro v' w2 hown2 hg2 _)
    have ho2 : OwnI w2 w.heap.size v' l := by simpa [OwnI] using hown2
    have HG : Hid (Fr w w2 []) := Fr.of_grown hg2 []
    clear hg2 hown2
    rcases ho2.2 with ⟨rfl, h0⟩ | ⟨g, cp, cur, rfl, hb, hg, hn, hm, hs, ht⟩
    · have HL : Hid (l = []) := List.eq_nil_of_length_eq_zero h0
      clear ho2 h0
      go_wp2_with fail
      refine (Try.slices_Sort_int_none none 0 _).mono ?_
      rintro e w' ⟨rfl, rfl⟩
      go_wp2_with fail
      refine (Try.slices_Compact_int_empty none 0 _).mono ?_
      rintro e w' ⟨rfl, rfl⟩
      go_wp2
      go_ret
      exact gives ⟨HN.out HL.out _, HG.out⟩
    · have hH : Sort.Holds (Value.int .i64) w2 g 0 l.toArray := holds_of_blockI hg (by rw [Nat.mul_one] at ht; exact ht)
      have HS := Lib.hid (Try.slices_Sort_int g 0 cp l w2 hH (size_of_row hg) (by omega))
      have H0 := Lib.hid (And.intro hb (And.intro hg (And.intro hn (And.intro hm hs))))
      clear hH ho2 hb hg hn hm hs ht
      go_wp2_with fail
      refine HS.out.mono ?_
      rintro e w3 ⟨rfl, q, os, hw3⟩
      obtain ⟨ts, hts⟩ : ∃ ts, ts = l.mergeSort (fun x y => decide (x ≤ y)) := ⟨_, rfl⟩
      have hlen : ts.length = l.length := by rw [hts]; simp
      rw [← hts] at hw3
      obtain ⟨hb, hg, hn, hm, hs⟩ := H0.out
      have hg3 : w3.heap[g]? = some (.cells (Sort.putCells (Value.int .i64) 0 ts.toArray cur) 3 (0, 0)) := by rw [hw3]; exact heap_sortedI _ hg
      have ho3 : OwnI w3 w.heap.size (.slice (some ⟨g, 0, none⟩) ts.length cp) ts := by rw [hw3]; exact set_row hb hg hlen hn hm hs
      have hH3 : Sort.Holds (Value.int .i64) w3 g 0 ts.toArray := holds_of_blockI hg3 (by
        have : cur.size = cp := by omega
        exact take_putCellsI cur ts (by omega))
      have F3 : Hid (Fr w w3 []) := by
        rw [hw3]
        exact HG.out.new (Fr.of_grown_row (grownBy_sortedI ts.toArray) (S := [g]) (by simp)) (by intro r hr; obtain rfl := List.mem_singleton.1 hr; exact hb)
      have HC := Lib.hid (Try.slices_Compact_int g 0 cp ts w3 hH3 (by omega) (by omega))
      rw [← hlen]
      have hset : setOf l = Lib.compact ts := by rw [hts]; rfl
      have hle := Lib.compact_length_le ts
      have H3 : Hid (∀ q, OwnI (Sort.putRow (Value.int .i64) (Sort.ahead w3 q) g 0 (Lib.compact ts ++ List.replicate (ts.length - (Lib.compact ts).length) 0).toArray) w.heap.size (.slice (some ⟨g, 0, none⟩) (Lib.compact ts).length cp) (setOf l)) := by
        intro q
        have hlc : (Lib.compact ts ++ List.replicate (ts.length - (Lib.compact ts).length) 0).length = ts.length := by simp; omega
        have := set_row (q := q) (os := #[]) hb hg3 hlc (by omega) hm (by simp [Sort.putCells]; omega)
        rw [Sort.grow_empty] at this
        rw [hset]
        exact OwnI.cut this
      have HF : Hid (∀ q (d : Array Int), Fr w (Sort.putRow (Value.int .i64) (Sort.ahead w3 q) g 0 d) []) := by
        intro q d
        have := grownBy_sortedI (w := w3) (g := g) (n := q) (os := #[]) d
        rw [Sort.grow_empty] at this
        exact F3.out.new (Fr.of_grown_row this (S := [g]) (by simp)) (by intro r hr; obtain rfl := List.mem_singleton.1 hr; exact hb)
      clear hw3 hts hb hg hn hm hs hg3 ho3 hH3 hset hle hlen HS H0 F3
      go_wp2_with fail
      refine HC.out.mono ?_
      rintro e w4 ⟨rfl, q4, rfl⟩
      go_wp2
      go_ret
      exact gives ⟨H3.out _, HF.out _ _⟩
end Go.Proofs.Ytojekkmdbkmpkaa
