/- Who is among them: the package's Has. The package's Set, Has, Least, Same, Next. Bids as the package reckons them: cmp.Compare, cmp.Or, compare, Less. The least of some bids: slices.MinFunc, Least. Where a bid stands by its car: slices.IndexFunc, place. slices.Grow of a nil slice of bids, slices.Concat of some. The first bid of a car: Of. One more bid by cars: Put. slices.BinarySearch at []int: the contract of the library, laid at this program. Whether all have bid: cars, order.Set, slices.BinarySearch, Full. A number from 0 to below a bound, of any (a helper of the statements). Package bid's calls: what each answers; the chapter's example. -/
import Derived.Test.YtldheaamcnmlgaaSlices
import Derived.Test.YtldheaamcnmlgaaGLa
import Derived.Test.YtldheaamcnmlgaaGLb
import Derived.Test.YtldheaamcnmlgaaGLc
import Derived.Sort.OwnSortedInts
import Derived.Deep.RegionHeld3
import Derived.Lib.AppendZerosOnto
import Derived.Lib.Walk
import Derived.Shelf.Slices.SearchI
import Derived.Shelf.Slices.Empties
import Derived.Test.YtldheaamcnmlgaaProg
import Derived.OpenShut
import Derived.Test.YtldheaamcnmlgaaGLd
namespace Go.Proofs.Ytldheaamcnmlgaa
open Go.RowKit

theorem has_any (v : Value) (l : List Int) (c : Int) (w : World) (h : HInts w v l) (b : Bool) (hb : b = decide (c ∈ l)) :
    Calls Try.prog 26 #[v, .int .i64 c] w fun e w' => e = .returned (.bool b) ∧ w' = w := by
  obtain ⟨a, cap, rfl, h1, h2, h3⟩ := h
  unfold maxLen at h2
  have hc : Calls Try.prog 47 #[.slice a l.length cap, .int .i64 c] w fun e w' => e = .returned (.bool b) ∧ w' = w := by
    by_cases h0 : 0 < l.length
    · obtain ⟨bk, off, rfl, hc⟩ := h3 h0
      refine (Try.slices_Contains_int bk off l.length cap l c w (Nat.le_refl _) (by omega) hc).mono ?_
      rintro e w' ⟨rfl, rfl⟩
      refine ⟨?_, rfl⟩
      rw [List.take_length, hb]
      congr 2
      simp
    · obtain rfl : l = [] := List.eq_nil_of_length_eq_zero (by omega)
      refine (Try.slices_Contains_int_empty a cap c w).mono ?_
      rintro e w' ⟨rfl, rfl⟩
      exact ⟨by simp [hb], rfl⟩
  have HC := Lib.hid hc
  clear hc h3 hb
  go_enter Try.func26, Try.ntmps26
  go_wp2_with fail
  refine HC.out.mono ?_
  rintro e w' ⟨rfl, rfl⟩
  go_wp2
  go_ret
  exact ⟨rfl, rfl⟩
end Go.Proofs.Ytldheaamcnmlgaa

namespace Go.Proofs.Ytldheaamcnmlgaa
open Go.RowKit

/-- Behind the sort and the removal of what is twice, in a row of the call's own. -/
theorem set_row {w : World} {B g cap : Nat} {cur : Array Value} {l ts : List Int} {q : Nat} {os : Array Obj} (hB : B ≤ g) (hg : w.heap[g]? = some (.cells cur 3 (0, 0))) (hl : ts.length = l.length) (h1 : l.length ≤ cap) (h2 : cap ≤ maxLen) (h3 : cur.size = cap * 1) :
    OwnI (Sort.grow (Sort.putRow (Value.int .i64) (Sort.ahead w q) g 0 ts.toArray) os) B (.slice (some ⟨g, 0, none⟩) ts.length cap) ts := by
  have := ownsRow_sortedI (w := w) (base := B) (n := q) (os := os) (ss := l) hl hB hg h1 h2 h3
  unfold OwnI i64s
  rw [hl]; exact this
theorem OwnI.cut {w : World} {B g n cap : Nat} {l m : List Int} (h : OwnI w B (.slice (some ⟨g, 0, none⟩) n cap) (l ++ m)) : OwnI w B (.slice (some ⟨g, 0, none⟩) l.length cap) l := by
  rcases h.2 with ⟨h, _⟩ | ⟨g', cap', cur, he, hb, hg, hn, hm, hs, ht⟩
  · simp at h
  · simp only [Value.slice.injEq, Option.some.injEq, Addr.mk.injEq, and_true] at he
    obtain ⟨rfl, rfl, rfl⟩ := he
    refine ⟨by simp, .inr ⟨g, cap, cur, rfl, hb, hg, by rw [List.length_append] at hn; omega, hm, hs, ?_⟩⟩
    have h5 := congrArg (List.take (l.length * 1)) ht
    rw [List.take_take, List.length_append, Nat.min_eq_left (by omega)] at h5
    rw [h5]
    simp [i64s]
set_option maxRecDepth 100000 in
theorem set_any (v : Value) (l : List Int) (w : World) (h : HInts w v l) (hv : v = .slice none 0 0 ∨ ∃ x c, v = .slice (some x) l.length c) (hr : l.length ≤ 1000000) :
    Calls Try.prog 33 #[v] w (Gives fun u w' => OwnI w' w.heap.size u (setOf l) ∧ Fr w w' []) := by
  obtain ⟨i0, hi, hz0, hz1, hz2⟩ := info_parts infoI
  have HN : Hid (l = [] → ∀ (W : World), OwnI W w.heap.size (.slice none 0 0) (setOf l)) := by
    show _
    rintro rfl W
    rw [setOf_nil]
    exact OwnI.nil _ _
  rcases hv with rfl | ⟨ad, cap, rfl⟩
  · have h0 : l = [] := by
      obtain ⟨a, cap, he, _⟩ := h
      simp only [Value.slice.injEq] at he
      exact List.eq_nil_of_length_eq_zero he.2.1.symm
    have HO := Lib.hid (OwnI.nil w w.heap.size)
    have HL := Lib.hid h0
    clear h h0
    go_enter Try.func33, Try.ntmps33
    go_wp2_with (at_builtin; refine wpList_append_own_none rfl _ _ 24 rfl w.heap.size 3 i0 1 Try.underlying24 hi _ _ _ rfl HO.out rfl ?_)
    go_wp2_with fail
    refine (Try.slices_Sort_int_none none 0 _).mono ?_
    rintro e w' ⟨rfl, rfl⟩
    go_wp2_with fail
    refine (Try.slices_Compact_int_empty none 0 _).mono ?_
    rintro e w' ⟨rfl, rfl⟩
    go_wp2
    go_ret
    exact gives ⟨HN.out HL.out _, Fr.refl _ _⟩
  · have HA := Lib.hid (HInts.args h)
    clear h
    go_enter Try.func33, Try.ntmps33
    go_wp2_with (at_builtin; refine wpList_append_own _ rfl _ _ 24 rfl w.heap.size 3 i0 (.int .i64 0) 1 8 Try.underlying24 hi hz0 hz1 hz2 rfl (by decide) (.slice none 0 0) 0 [] rfl (OwnI.nil w w.heap.size) ad l.length cap (i64s l) rfl (by simp) HA.out (i64s_one _) (by unfold maxLen; omega) (by omega) (Nat.le_refl _) ?_; intro v' w2 hown2 hg2 _)
    have ho2 : OwnI w2 w.heap.size v' l := by simpa [OwnI] using hown2
    have HG : Hid (Fr w w2 []) := Fr.of_grown hg2 []
    clear hg2 hown2
    rcases ho2.2 with ⟨rfl, h0⟩ | ⟨g, cp, cur, rfl, hb, hg, hn, hm, hs, ht⟩
    · have HL : Hid (l = []) := List.eq_nil_of_length_eq_zero h0
      clear ho2 h0
      go_wp2_with fail
      refine (Try.slices_Sort_int_none none 0 _).mono ?_
      rintro e w' ⟨rfl, rfl⟩
      go_wp2_with fail
      refine (Try.slices_Compact_int_empty none 0 _).mono ?_
      rintro e w' ⟨rfl, rfl⟩
      go_wp2
      go_ret
      exact gives ⟨HN.out HL.out _, HG.out⟩
    · have hH : Sort.Holds (Value.int .i64) w2 g 0 l.toArray := holds_of_blockI hg (by rw [Nat.mul_one] at ht; exact ht)
      have HS := Lib.hid (Try.slices_Sort_int g 0 cp l w2 hH (size_of_row hg) (by omega))
      have H0 := Lib.hid (And.intro hb (And.intro hg (And.intro hn (And.intro hm hs))))
      clear hH ho2 hb hg hn hm hs ht
      go_wp2_with fail
      refine HS.out.mono ?_
      rintro e w3 ⟨rfl, q, os, hw3⟩
      obtain ⟨ts, hts⟩ : ∃ ts, ts = l.mergeSort (fun x y => decide (x ≤ y)) := ⟨_, rfl⟩
      have hlen : ts.length = l.length := by rw [hts]; simp
      rw [← hts] at hw3
      obtain ⟨hb, hg, hn, hm, hs⟩ := H0.out
      have hg3 : w3.heap[g]? = some (.cells (Sort.putCells (Value.int .i64) 0 ts.toArray cur) 3 (0, 0)) := by rw [hw3]; exact heap_sortedI _ hg
      have ho3 : OwnI w3 w.heap.size (.slice (some ⟨g, 0, none⟩) ts.length cp) ts := by rw [hw3]; exact set_row hb hg hlen hn hm hs
      have hH3 : Sort.Holds (Value.int .i64) w3 g 0 ts.toArray := holds_of_blockI hg3 (by
        have : cur.size = cp := by omega
        exact take_putCellsI cur ts (by omega))
      have F3 : Hid (Fr w w3 []) := by
        rw [hw3]
        exact HG.out.new (Fr.of_grown_row (grownBy_sortedI ts.toArray) (S := [g]) (by simp)) (by intro r hr; obtain rfl := List.mem_singleton.1 hr; exact hb)
      have HC := Lib.hid (Try.slices_Compact_int g 0 cp ts w3 hH3 (by omega) (by omega))
      rw [← hlen]
      have hset : setOf l = Lib.compact ts := by rw [hts]; rfl
      have hle := Lib.compact_length_le ts
      have H3 : Hid (∀ q, OwnI (Sort.putRow (Value.int .i64) (Sort.ahead w3 q) g 0 (Lib.compact ts ++ List.replicate (ts.length - (Lib.compact ts).length) 0).toArray) w.heap.size (.slice (some ⟨g, 0, none⟩) (Lib.compact ts).length cp) (setOf l)) := by
        intro q
        have hlc : (Lib.compact ts ++ List.replicate (ts.length - (Lib.compact ts).length) 0).length = ts.length := by simp; omega
        have := set_row (q := q) (os := #[]) hb hg3 hlc (by omega) hm (by simp [Sort.putCells]; omega)
        rw [Sort.grow_empty] at this
        rw [hset]
        exact OwnI.cut this
      have HF : Hid (∀ q (d : Array Int), Fr w (Sort.putRow (Value.int .i64) (Sort.ahead w3 q) g 0 d) []) := by
        intro q d
        have := grownBy_sortedI (w := w3) (g := g) (n := q) (os := #[]) d
        rw [Sort.grow_empty] at this
        exact F3.out.new (Fr.of_grown_row this (S := [g]) (by simp)) (by intro r hr; obtain rfl := List.mem_singleton.1 hr; exact hb)
      clear hw3 hts hb hg hn hm hs hg3 ho3 hH3 hset hle hlen HS H0 F3
      go_wp2_with fail
      refine HC.out.mono ?_
      rintro e w4 ⟨rfl, q4, rfl⟩
      go_wp2
      go_ret
      exact gives ⟨H3.out _, HF.out _ _⟩
end Go.Proofs.Ytldheaamcnmlgaa

namespace Go.Proofs.Ytldheaamcnmlgaa
open Go.RowKit

theorem nan_any (a : Int) (w : World) : Calls Try.prog 111 #[.int .i64 a] w fun e w' => e = .returned (.bool false) ∧ w' = w := by
  have h : (a != a) = false := by simp
  go_enter Try.func111, Try.ntmps111
  go_wp2
  go_ret
  exact ⟨rfl, rfl⟩
/-- What cmp.Compare says of two numbers. -/
def cmp1 (a b : Int) : Int := if a < b then -1 else if b < a then 1 else 0
theorem cmp1_any (a b : Int) (w : World) : Calls Try.prog 103 #[.int .i64 a, .int .i64 b] w fun e w' => e = .returned (.int .i64 (cmp1 a b)) ∧ w' = w := by
  by_cases h : a < b
  · have HC := Lib.hid (show cmp1 a b = -1 by simp [cmp1, h])
    go_enter Try.func103, Try.ntmps103
    go_wp2_with (go_at_call 111; refine (nan_any _ _).mono ?_; rintro e w' ⟨rfl, rfl⟩)
    go_ret
    exact ⟨by rw [HC.out]; rfl, rfl⟩
  · by_cases h' : b < a
    · have HC := Lib.hid (show cmp1 a b = 1 by simp [cmp1, h, h'])
      go_enter Try.func103, Try.ntmps103
      go_wp2_with (go_at_call 111; refine (nan_any _ _).mono ?_; rintro e w' ⟨rfl, rfl⟩)
      go_ret
      exact ⟨by rw [HC.out]; rfl, rfl⟩
    · have HC := Lib.hid (show cmp1 a b = 0 by simp [cmp1, h, h'])
      go_enter Try.func103, Try.ntmps103
      go_wp2_with (go_at_call 111; refine (nan_any _ _).mono ?_; rintro e w' ⟨rfl, rfl⟩)
      go_ret
      exact ⟨by rw [HC.out]; rfl, rfl⟩
/-- cmp.Or of two numbers that lie in a block. -/
theorem or_any (b : Nat) (x y : Int) (w : World) (h0 : w.cell? ⟨b, 0, none⟩ = some (.int .i64 x)) (h1 : w.cell? ⟨b, 1, none⟩ = some (.int .i64 y)) (r : Int) (hr : r = if x ≠ 0 then x else y) :
    Calls Try.prog 102 #[.slice (some ⟨b, 0, none⟩) 2 2] w fun e w' => e = .returned (.int .i64 r) ∧ w' = w := by
  by_cases hx : x = 0
  · subst hx
    have HR := Lib.hid (show r = y by rw [hr]; simp)
    clear hr
    by_cases hy : y = 0
    · subst hy
      go_enter Try.func102, Try.ntmps102
      go_wp2
      go_loopw [5, 8] (fun v i wr => (i = .int .i64 0 ∨ i = .int .i64 1 ∨ i = .int .i64 2) ∧ wr = w) (fun _ i _ => 2 - (intOf i).toNat)
      case atStart => exact ⟨.inl rfl, rfl⟩
      case round =>
        obtain ⟨rfl | rfl | rfl, rfl⟩ := hrel
        · go_wp2
          go_roundw
          case rel => exact ⟨.inr (.inl rfl), trivial⟩
          case measure => simp [intOf]
        · go_wp2
          go_roundw
          case rel => exact ⟨.inr (.inr rfl), trivial⟩
          case measure => simp [intOf]
        · go_wp2
          go_ret
          exact ⟨by rw [HR.out]; rfl, rfl⟩
    · have hy' : (y != 0) = true := by simp [hy]
      go_enter Try.func102, Try.ntmps102
      go_wp2
      go_loopw [5, 8] (fun v i wr => (i = .int .i64 0 ∨ i = .int .i64 1) ∧ wr = w) (fun _ i _ => 2 - (intOf i).toNat)
      case atStart => exact ⟨.inl rfl, rfl⟩
      case round =>
        obtain ⟨rfl | rfl, rfl⟩ := hrel
        · go_wp2
          go_roundw
          case rel => exact ⟨.inr rfl, trivial⟩
          case measure => simp [intOf]
        · go_wp2
          go_ret
          exact ⟨by rw [HR.out]; rfl, rfl⟩
  · have HR := Lib.hid (show r = x by rw [hr]; simp [hx])
    have hx' : (x != 0) = true := by simp [hx]
    clear hr
    go_enter Try.func102, Try.ntmps102
    go_wp2
    go_loopw [5, 8] (fun v i wr => i = .int .i64 0 ∧ wr = w) (fun _ i _ => 2 - (intOf i).toNat)
    case atStart => exact ⟨rfl, rfl⟩
    case round =>
      obtain ⟨rfl, rfl⟩ := hrel
      go_wp2
      go_ret
      exact ⟨by rw [HR.out]; rfl, rfl⟩
/-- What compare says of two bids. -/
def cmpB (a b : Int × Int) : Int := if cmp1 a.2 b.2 ≠ 0 then cmp1 a.2 b.2 else cmp1 a.1 b.1
theorem cmpB_lt (a b : Int × Int) : decide (cmpB a b < 0) = ltB a b := by
  rw [Bool.eq_iff_iff, decide_eq_true_iff, ltB_iff]
  unfold cmpB cmp1
  by_cases h1 : a.2 < b.2 <;> by_cases h2 : b.2 < a.2 <;> by_cases h3 : a.1 < b.1 <;> by_cases h4 : b.1 < a.1 <;> simp [h1, h2, h3, h4] <;> omega
theorem box2_cells (W : World) (n : Nat) (hn : W.heap.size = n) (a b : Value) (T : TypeId) : (W.alloc (.cells #[a, b] T)).drew.cell? ⟨n, 0, none⟩ = some a ∧ (W.alloc (.cells #[a, b] T)).drew.cell? ⟨n, 1, none⟩ = some b := by
  subst hn
  exact row2 (heap_alloc_new W (.cells #[a, b] T))
/-- The two bids as they lie in boxes of their own. -/
def SC (W : World) (b1 b2 : Nat) (f d f' d' : Int) (a : World) : Prop := Fr W a [] ∧ (a.cell? ⟨b1, 0, none⟩ = some (.int .i64 f) ∧ a.cell? ⟨b1, 1, none⟩ = some (.int .i64 d)) ∧ a.cell? ⟨b2, 0, none⟩ = some (.int .i64 f') ∧ a.cell? ⟨b2, 1, none⟩ = some (.int .i64 d')
theorem SC.fr {W a a' : World} {b1 b2 : Nat} {f d f' d' : Int} (h : SC W b1 b2 f d f' d' a) (k : Fr a a' []) : SC W b1 b2 f d f' d' a' := by
  obtain ⟨h0, ⟨h1, h2⟩, h3, h4⟩ := h
  exact ⟨h0.trans k, ⟨k.cell h1 (by simp), k.cell h2 (by simp)⟩, k.cell h3 (by simp), k.cell h4 (by simp)⟩
theorem SC.boxes (w : World) (f d f' d' : Int) : SC w w.heap.size (w.heap.size + 1) f d f' d' (((w.alloc (.cells #[.int .i64 f, .int .i64 d] 42)).alloc (.cells #[.int .i64 f', .int .i64 d'] 42))) := by
  obtain ⟨h0, h1, h2⟩ := two_bids w (f, d) (f', d')
  exact ⟨h0, row2 h1, row2 h2⟩
set_option maxRecDepth 100000 in
theorem bcompare_any (f d f' d' : Int) (w : World) : Calls Try.prog 79 #[.agg #[.int .i64 f, .int .i64 d], .agg #[.int .i64 f', .int .i64 d']] w fun e w' => e = .returned (.int .i64 (cmpB (f, d) (f', d'))) ∧ Fr w w' [] := by
  have HS := Lib.hid ((SC.boxes w f d f' d').fr (Fr.drew _ []))
  obtain ⟨c1, e1⟩ : ∃ c, c = cmp1 d d' := ⟨_, rfl⟩
  obtain ⟨c2, e2⟩ : ∃ c, c = cmp1 f f' := ⟨_, rfl⟩
  have C1 := Lib.hid (fun W => (e1 ▸ cmp1_any d d' W : Calls Try.prog 103 #[.int .i64 d, .int .i64 d'] W fun e w' => e = .returned (.int .i64 c1) ∧ w' = W))
  have C2 := Lib.hid (fun W => (e2 ▸ cmp1_any f f' W : Calls Try.prog 103 #[.int .i64 f, .int .i64 f'] W fun e w' => e = .returned (.int .i64 c2) ∧ w' = W))
  have HR : Hid (cmpB (f, d) (f', d') = if c1 ≠ 0 then c1 else c2) := by show _ = _; rw [e1, e2]; rfl
  clear e1 e2
  go_enter Try.func79, Try.ntmps79
  go_wp2_with fail
  refine wp_region_noPanic ?_
  refine wp_region_held_drew (S := (SC w w.heap.size (w.heap.size + 1) f d f' d')) (by kernel_rfl) HS.out (fun hHeld => ?_)
  refine wpAnyH_take (i := 0) (oi := _) (v := ?fv0h1n2) (by simp only [List.getElem?_toArray, List.getElem?_cons_zero]; rfl) (by kernel_rfl) (by kernel_rfl) (by kernel_rfl) (fun _ _ _ h => h) (Or.inl ⟨by rfl, ?fy0h1n2⟩) (by assumption) ?fr0h1n2
  case fy0h1n2 => (intro w hSw; (try dsimp only [SC] at hSw); go_simp; try with_reducible rfl)
  try simp only [Act.put, List.setIfInBounds_toArray, List.set_cons_zero, List.set_cons_succ]
  refine wpAnyH_take (i := 1) (oi := _) (v := ?fv1h1n2) (by simp only [List.getElem?_toArray, List.getElem?_cons_zero, List.getElem?_cons_succ]; rfl) (by kernel_rfl) (by kernel_rfl) (by kernel_rfl) (fun _ _ _ h => h) (Or.inl ⟨by rfl, ?fy1h1n2⟩) (by assumption) ?fr1h1n2
  case fy1h1n2 => (intro w hSw; (try dsimp only [SC] at hSw); go_simp; try with_reducible rfl)
  try simp only [Act.put, List.setIfInBounds_toArray, List.set_cons_zero, List.set_cons_succ]
  refine wpAnyH_take (i := 2) (oi := _) (v := ?fv2h1n2) (by simp only [List.getElem?_toArray, List.getElem?_cons_zero, List.getElem?_cons_succ]; rfl) (by kernel_rfl) (by kernel_rfl) (by kernel_rfl) (fun _ _ _ h => h) (Or.inl ⟨by rfl, ?fy2h1n2⟩) (by assumption) ?fr2h1n2
  case fy2h1n2 => (intro w hSw; (try dsimp only [SC] at hSw); go_simp; try with_reducible rfl)
  try simp only [Act.put, List.setIfInBounds_toArray, List.set_cons_zero, List.set_cons_succ]
  refine wpAnyH_take (i := 3) (oi := _) (v := ?fv3h1n2) (by simp only [List.getElem?_toArray, List.getElem?_cons_zero, List.getElem?_cons_succ]; rfl) (by kernel_rfl) (by kernel_rfl) (by kernel_rfl) (fun _ _ _ h => h) (Or.inl ⟨by rfl, ?fy3h1n2⟩) (by assumption) ?fr3h1n2
  case fy3h1n2 => (intro w hSw; (try dsimp only [SC] at hSw); go_simp; try with_reducible rfl)
  try simp only [Act.put, List.setIfInBounds_toArray, List.set_cons_zero, List.set_cons_succ]
  refine wpAnyH_take (i := 5) (oi := _) (v := ?fv5h1n2) (by simp only [List.getElem?_toArray, List.getElem?_cons_zero, List.getElem?_cons_succ]; rfl) (by kernel_rfl) (by kernel_rfl) (by kernel_rfl) (fun _ _ _ h => h) (Or.inl ⟨by rfl, ?fy5h1n2⟩) (by assumption) ?fr5h1n2
  case fy5h1n2 => (intro w hSw; (try dsimp only [SC] at hSw); go_simp; try with_reducible rfl)
  try simp only [Act.put, List.setIfInBounds_toArray, List.set_cons_zero, List.set_cons_succ]
  refine wpAnyH_take (i := 6) (oi := _) (v := ?fv6h1n2) (by simp only [List.getElem?_toArray, List.getElem?_cons_zero, List.getElem?_cons_succ]; rfl) (by kernel_rfl) (by kernel_rfl) (by kernel_rfl) (fun _ _ _ h => h) (Or.inl ⟨by rfl, ?fy6h1n2⟩) (by assumption) ?fr6h1n2
  case fy6h1n2 => (intro w hSw; (try dsimp only [SC] at hSw); go_simp; try with_reducible rfl)
  try simp only [Act.put, List.setIfInBounds_toArray, List.set_cons_zero, List.set_cons_succ]
  refine wpAnyH_take (i := 7) (oi := _) (v := ?fv7h1n2) (by simp only [List.getElem?_toArray, List.getElem?_cons_zero, List.getElem?_cons_succ]; rfl) (by kernel_rfl) (by kernel_rfl) (by kernel_rfl) (fun _ _ _ h => h) (Or.inl ⟨by rfl, ?fy7h1n2⟩) (by assumption) ?fr7h1n2
  case fy7h1n2 => (intro w hSw; (try dsimp only [SC] at hSw); go_simp; try with_reducible rfl)
  try simp only [Act.put, List.setIfInBounds_toArray, List.set_cons_zero, List.set_cons_succ]
  refine wpAnyH_take (i := 8) (oi := _) (v := ?fv8h1n2) (by simp only [List.getElem?_toArray, List.getElem?_cons_zero, List.getElem?_cons_succ]; rfl) (by kernel_rfl) (by kernel_rfl) (by kernel_rfl) (fun _ _ _ h => h) (Or.inl ⟨by rfl, ?fy8h1n2⟩) (by assumption) ?fr8h1n2
  case fy8h1n2 => (intro w hSw; (try dsimp only [SC] at hSw); go_simp; try with_reducible rfl)
  try simp only [Act.put, List.setIfInBounds_toArray, List.set_cons_zero, List.set_cons_succ]
  refine wpAnyH_ready (rs := [4]) (by kernel_rfl) (by simp) ?_
  refine AllReadyH.cons (o := _) rfl (fun K hK => ?_) AllReadyH.nil
  go_simp
  ((with_reducible refine (C1.out _).mono ?_); rintro e x1 ⟨rfl, rfl⟩; have hS2 := hHeld)
  go_wp2_with fail
  refine hK.out _ _ hS2 (fun hHeld => ?_)
  clear hK K
  try simp only [Act.put, List.setIfInBounds_toArray, List.set_cons_zero, List.set_cons_succ]
  refine wpAnyH_ready (rs := [9]) (by kernel_rfl) (by simp) ?_
  refine AllReadyH.cons (o := _) rfl (fun K hK => ?_) AllReadyH.nil
  go_simp
  ((with_reducible refine (C2.out _).mono ?_); rintro e x2 ⟨rfl, rfl⟩; have hS3 := hHeld)
  go_wp2_with fail
  refine hK.out _ _ hS3 (fun hHeld => ?_)
  clear hK K
  try simp only [Act.put, List.setIfInBounds_toArray, List.set_cons_zero, List.set_cons_succ]
  refine wpAnyH_ready (rs := [10]) (by kernel_rfl) (by simp) ?_
  refine AllReadyH.cons (o := _) rfl (fun K hK => ?_) AllReadyH.nil
  go_simp
  have hS4 := hHeld.fr (Fr.alloc _ (.cells #[.int .i64 c1, .int .i64 c2] 3) [])
  refine hK.out _ _ hS4 (fun hHeld => ?_)
  clear hK K
  try simp only [Act.put, List.setIfInBounds_toArray, List.set_cons_zero, List.set_cons_succ]
  refine wpAnyH_ready (rs := [11]) (by kernel_rfl) (by simp) ?_
  refine AllReadyH.cons (o := _) rfl (fun K hK => ?_) AllReadyH.nil
  go_simp
  ((with_reducible refine (or_any _ c1 c2 _ (box2_cells _ _ (by simp) _ _ _).1 (box2_cells _ _ (by simp) _ _ _).2 _ HR.out).mono ?_); rintro e x3 ⟨rfl, rfl⟩; have hS5 := hHeld)
  go_wp2_with fail
  refine hK.out _ _ hS5 (fun hHeld => ?_)
  clear hK K
  try simp only [Act.put, List.setIfInBounds_toArray, List.set_cons_zero, List.set_cons_succ]
  refine wpAnyH_take (i := 12) (oi := _) (v := ?fv12h1n3) (by simp only [List.getElem?_toArray, List.getElem?_cons_zero, List.getElem?_cons_succ]; rfl) (by kernel_rfl) (by kernel_rfl) (by kernel_rfl) (fun _ _ _ h => h) (Or.inl ⟨by rfl, ?fy12h1n3⟩) (by assumption) ?fr12h1n3
  case fy12h1n3 => (intro w hSw; (try dsimp only [SC] at hSw); go_simp; try with_reducible rfl)
  try simp only [Act.put, List.setIfInBounds_toArray, List.set_cons_zero, List.set_cons_succ]
  refine wpAnyH_done (by kernel_rfl) ?_ _
  refine NoPanic.normal ?_
  go_wp2
  go_ret
  exact ⟨rfl, hHeld.1⟩
end Go.Proofs.Ytldheaamcnmlgaa

namespace Go.Proofs.Ytldheaamcnmlgaa
open Go.RowKit

/-- A box whose two cells are stored anew. -/
theorem bset {w : World} {g : Nat} {a b : Value} {T : TypeId} (h : w.heap[g]? = some (.cells #[a, b] T (0, 0))) (x y : Value) :
    ((w.setCell ⟨g, 0, none⟩ x).setCell ⟨g, 1, none⟩ y).heap[g]? = some (.cells #[x, y] T (0, 0)) := by
  have h1 : (w.setCell ⟨g, 0, none⟩ x).heap[g]? = some (.cells #[x, b] T (0, 0)) := by rw [heap_setCell_same _ g 0 _ _ _ h]; rfl
  rw [heap_setCell_same _ g 1 _ _ _ h1]; rfl
theorem bset_fr (w : World) (g : Nat) (x y : Value) : Fr w ((w.setCell ⟨g, 0, none⟩ x).setCell ⟨g, 1, none⟩ y) [g] :=
  (Fr.setCell w g 0 x (S := [g]) (by simp)).trans (Fr.setCell _ g 1 y (S := [g]) (by simp))
theorem bfz {w : World} {g : Nat} {a b : Value} {T : TypeId} (h : w.heap[g]? = some (.cells #[a, b] T (0, 0))) : w.frozen? ⟨g, 0, none⟩ = false ∧ w.frozen? ⟨g, 1, none⟩ = false :=
  ⟨frozen_of_row _ _ 0 _ _ h, frozen_of_row _ _ 1 _ _ h⟩
/-- A box of the call's own, the first that it made, and the next one. -/
def MF (W : World) (z m : Int × Int) (a : World) : Prop := Fr W a [] ∧ a.heap[W.heap.size]? = some (bidBox z) ∧ a.heap[W.heap.size + 1]? = some (bidBox m)
theorem MF.fr {W : World} {z m : Int × Int} {a a' : World} (h : MF W z m a) (k : Fr a a' []) : MF W z m a' := ⟨h.1.trans k, k.heap h.2.1 (by simp), k.heap h.2.2 (by simp)⟩
theorem MF.set {W : World} {z m : Int × Int} {a : World} (h : MF W z m a) (x : Int × Int) : MF W z x ((a.setCell ⟨W.heap.size + 1, 0, none⟩ (.int .i64 x.1)).setCell ⟨W.heap.size + 1, 1, none⟩ (.int .i64 x.2)) :=
  ⟨h.1.new (bset_fr a _ _ _) (by intro r hr; obtain rfl := List.mem_singleton.1 hr; omega), (bset_fr a _ _ _).heap h.2.1 (by simp), bset h.2.2 _ _⟩
theorem MF.out {W : World} {z m : Int × Int} {a : World} (h : MF W z m a) (x : Int × Int) : MF W x m ((a.setCell ⟨W.heap.size, 0, none⟩ (.int .i64 x.1)).setCell ⟨W.heap.size, 1, none⟩ (.int .i64 x.2)) :=
  ⟨h.1.new (bset_fr a _ _ _) (by intro r hr; obtain rfl := List.mem_singleton.1 hr; omega), bset h.2.1 _ _, (bset_fr a _ _ _).heap h.2.2 (by simp)⟩
/-- What a round reads. -/
def MS (W : World) (b o : Nat) (x z m : Int × Int) (a : World) : Prop := MF W z m a ∧ (a.cell? ⟨b, o, none⟩ = some (.int .i64 x.1) ∧ a.cell? ⟨b, o + 1, none⟩ = some (.int .i64 x.2)) ∧ a.cell? ⟨W.heap.size + 1, 0, none⟩ = some (.int .i64 m.1) ∧ a.cell? ⟨W.heap.size + 1, 1, none⟩ = some (.int .i64 m.2)
theorem MS.fr {W : World} {b o : Nat} {x z m : Int × Int} {a a' : World} (h : MS W b o x z m a) (k : Fr a a' []) : MS W b o x z m a' :=
  ⟨h.1.fr k, ⟨k.cell h.2.1.1 (by simp), k.cell h.2.1.2 (by simp)⟩, k.cell h.2.2.1 (by simp), k.cell h.2.2.2 (by simp)⟩
set_option maxHeartbeats 2000000 in
set_option maxRecDepth 100000 in
theorem minf_any (v : Value) (l : List (Int × Int)) (y : Int × Int) (w : World) (h : HB w v l) (hl : l.length ≤ 1000000) (hy : LeastB l y) :
    Calls Try.prog 78 #[v, .func (.func 79) #[] #[]] w fun x w' => x = .returned (bidV y) ∧ Fr w w' [] := by
  obtain ⟨a, cap, rfl, p1, q1, r1⟩ := h
  unfold maxLen at q1
  have h0 : 0 < l.length := List.length_pos_of_mem hy.1
  obtain ⟨b, off, rfl, hc⟩ := r1 h0
  obtain ⟨n, hn⟩ : ∃ n, n = l.length := ⟨_, rfl⟩
  have HN := Lib.hid hn
  obtain ⟨x0, hx0⟩ : ∃ x, x = l.getD 0 (0, 0) := ⟨_, rfl⟩
  have HX0 := Lib.hid hx0
  obtain ⟨g0, g1⟩ := hc 0 h0
  rw [Nat.zero_mul, Nat.add_zero, ← hx0] at g0 g1
  have HY := Lib.hid hy
  have HCE := Lib.hid hc
  have F1 := Lib.hid (Fr.alloc w (bidBox (0, 0)) [])
  have g0 := F1.out.cell g0 (by simp)
  have g1 := F1.out.cell g1 (by simp)
  have HM0 := Lib.hid (show MF w (0, 0) x0 _ from two_bids w (0, 0) x0)
  have HL1 := Lib.hid (show LeastB (l.take 1) x0 by
    rw [take_more l 0 h0, ← hx0]
    exact least_first x0)
  rw [← hn] at hl p1 h0 ⊢
  clear hc r1 hn hx0 hy
  obtain ⟨xa, xb⟩ := x0
  dsimp only [bidV, bidBox] at *
  go_enter Try.func78, Try.ntmps78
  go_wp2
  go_loopw [6] (fun s6 wx => ∃ (k : Nat) (m : Int × Int), s6 = .int .i64 k ∧ Hid (1 ≤ k ∧ k ≤ n) ∧ Hid (LeastB (l.take k) m) ∧ Hid (MF w (0, 0) m wx)) (fun s6 _ => n - (intOf s6).toNat)
  case atStart => exact ⟨1, (xa, xb), rfl, Lib.hid ⟨Nat.le_refl _, by omega⟩, HL1, HM0⟩
  case round =>
    obtain ⟨k, m, rfl, HK, HL, HM⟩ := hrel
    have hk1 := HK.out.1
    have hk := HK.out.2
    obtain ⟨ma, mb⟩ := m
    obtain ⟨m0, m1⟩ := brow HM.out.2.2
    by_cases hlt : k < n
    · obtain ⟨x, hx⟩ : ∃ x, x = l.getD k (0, 0) := ⟨_, rfl⟩
      obtain ⟨z0, z1⟩ := HCE.out k (by have := HN.out; omega)
      rw [← hx] at z0 z1
      have HT := Lib.hid (show l.take (k + 1) = l.take k ++ [x] by rw [hx]; exact take_more l k (by have := HN.out; omega))
      have HL2 := Lib.hid (show LeastB (l.take (k + 1)) (if ltB x (ma, mb) = true then x else (ma, mb)) by rw [HT.out]; exact HL.out.snoc x)
      obtain ⟨xa, xb⟩ := x
      have HS := Lib.hid (show MS w b (off + k * 2) (xa, xb) (0, 0) (ma, mb) wr.drew from ⟨HM.out.fr (Fr.drew wr []), ⟨(HM.out.1.trans (Fr.drew wr [])).cell z0 (by simp), (HM.out.1.trans (Fr.drew wr [])).cell z1 (by simp)⟩, (Fr.drew wr []).cell m0 (by simp), (Fr.drew wr []).cell m1 (by simp)⟩)
      obtain ⟨cc, hcc⟩ : ∃ c, c = cmpB (xa, xb) (ma, mb) := ⟨_, rfl⟩
      have HV : Hid (∀ W, Calls Try.prog 79 #[.agg #[.int .i64 xa, .int .i64 xb], .agg #[.int .i64 ma, .int .i64 mb]] W fun e w' => e = .returned (.int .i64 cc) ∧ Fr W w' []) := by rw [hcc]; exact bcompare_any xa xb ma mb
      have HLT := Lib.hid (cmpB_lt (xa, xb) (ma, mb))
      rw [← hcc] at HLT
      clear hx z0 z1 hcc m0 m1 HT HL HM
      by_cases hneg : cc < 0
      · have HL3 : Hid (LeastB (l.take (k + 1)) (xa, xb)) := by
          have := HL2.out
          rwa [← HLT.out, decide_eq_true hneg, if_pos rfl] at this
        clear HL2 HLT
        go_wp2
        refine wp_region_det (S := MS w b (off + k * 2) (xa, xb) (0, 0) (ma, mb)) (by kernel_rfl) HS.out ?_
        refine wpDet_take (i := 0) (oi := _) (v := ?dv1) (by simp only [List.getElem?_toArray, List.getElem?_cons_zero]; rfl) (by kernel_rfl) (by kernel_rfl) (by kernel_rfl) (Or.inl ⟨by rfl, ?dy1⟩) ?dr1
        case dy1 => (intro w hSw; have hS0 := hSw; (try dsimp only [MS] at hSw); go_simp; refine Came.value ?_ hS0; with_reducible rfl)
        try simp only [Act.put, List.setIfInBounds_toArray, List.set_cons_zero, List.set_cons_succ]
        refine wpDet_take (i := 1) (oi := _) (v := ?dv2) (by simp only [List.getElem?_toArray, List.getElem?_cons_zero, List.getElem?_cons_succ]; rfl) (by kernel_rfl) (by kernel_rfl) (by kernel_rfl) (Or.inl ⟨by rfl, ?dy2⟩) ?dr2
        case dy2 => (intro w hSw; have hS0 := hSw; (try dsimp only [MS] at hSw); go_simp; refine Came.value ?_ hS0; with_reducible rfl)
        try simp only [Act.put, List.setIfInBounds_toArray, List.set_cons_zero, List.set_cons_succ]
        refine wpDet_take (i := 2) (oi := _) (v := ?dv3) (by simp only [List.getElem?_toArray, List.getElem?_cons_zero, List.getElem?_cons_succ]; rfl) (by kernel_rfl) (by kernel_rfl) (by kernel_rfl) (Or.inl ⟨by rfl, ?dy3⟩) ?dr3
        case dy3 => (intro w hSw; have hS0 := hSw; (try dsimp only [MS] at hSw); go_simp; refine Came.value ?_ hS0; with_reducible rfl)
        try simp only [Act.put, List.setIfInBounds_toArray, List.set_cons_zero, List.set_cons_succ]
        refine wpDet_take (i := 3) (oi := _) (v := ?dv4) (by simp only [List.getElem?_toArray, List.getElem?_cons_zero, List.getElem?_cons_succ]; rfl) (by kernel_rfl) (by kernel_rfl) (by kernel_rfl) (Or.inl ⟨by rfl, ?dy4⟩) ?dr4
        case dy4 => (intro w hSw; have hS0 := hSw; (try dsimp only [MS] at hSw); go_simp; refine Came.value ?_ hS0; with_reducible rfl)
        try simp only [Act.put, List.setIfInBounds_toArray, List.set_cons_zero, List.set_cons_succ]
        refine wpDet_take (i := 4) (oi := _) (v := ?dv5) (by simp only [List.getElem?_toArray, List.getElem?_cons_zero, List.getElem?_cons_succ]; rfl) (by kernel_rfl) (by kernel_rfl) (by kernel_rfl) (Or.inl ⟨by rfl, ?dy5⟩) ?dr5
        case dy5 => (intro w hSw; have hS0 := hSw; (try dsimp only [MS] at hSw); go_simp; refine Came.value ?_ hS0; with_reducible rfl)
        try simp only [Act.put, List.setIfInBounds_toArray, List.set_cons_zero, List.set_cons_succ]
        refine wpDet_take (i := 5) (oi := _) (v := ?dv6) (by simp only [List.getElem?_toArray, List.getElem?_cons_zero, List.getElem?_cons_succ]; rfl) (by kernel_rfl) (by kernel_rfl) (by kernel_rfl) (Or.inl ⟨by rfl, ?dy6⟩) ?dr6
        case dy6 => (intro w hSw; have hS0 := hSw; (try dsimp only [MS] at hSw); go_simp; refine Came.value ?_ hS0; with_reducible rfl)
        try simp only [Act.put, List.setIfInBounds_toArray, List.set_cons_zero, List.set_cons_succ]
        refine wpDet_take (i := 6) (oi := _) (v := ?dv7) (by simp only [List.getElem?_toArray, List.getElem?_cons_zero, List.getElem?_cons_succ]; rfl) (by kernel_rfl) (by kernel_rfl) (by kernel_rfl) (Or.inl ⟨by rfl, ?dy7⟩) ?dr7
        case dy7 => (intro w hSw; go_simp; exact Came.call ((HV.out w).mono fun e w' ⟨he, hf⟩ => ⟨he, hSw.fr hf⟩) (by with_reducible rfl))
        try simp only [Act.put, List.setIfInBounds_toArray, List.set_cons_zero, List.set_cons_succ]
        refine wpDet_take (i := 7) (oi := _) (v := ?dv8) (by simp only [List.getElem?_toArray, List.getElem?_cons_zero, List.getElem?_cons_succ]; rfl) (by kernel_rfl) (by kernel_rfl) (by kernel_rfl) (Or.inl ⟨by rfl, ?dy8⟩) ?dr8
        case dy8 => (intro w hSw; have hS0 := hSw; (try dsimp only [MS] at hSw); go_simp; refine Came.value ?_ hS0; with_reducible rfl)
        try simp only [Act.put, List.setIfInBounds_toArray, List.set_cons_zero, List.set_cons_succ]
        refine wpDet_done (by kernel_rfl) ?_ _
        rintro w1 hS1
        have HM1 := Lib.hid hS1.1
        obtain ⟨t0, t1⟩ := hS1.2.1
        obtain ⟨t2, t3⟩ := hS1.2.2
        obtain ⟨f0, f1⟩ := bfz HM1.out.2.2
        have HM2 := Lib.hid (HM1.out.set (xa, xb))
        clear hS1 HS HV
        go_wp2
        go_roundw
        case rel => exact ⟨k + 1, (xa, xb), by go_num, Lib.hid ⟨by omega, by omega⟩, HL3, HM2⟩
        case measure => simp [intOf]; omega
      · have HL3 : Hid (LeastB (l.take (k + 1)) (ma, mb)) := by
          have := HL2.out
          rwa [← HLT.out, decide_eq_false hneg, if_neg (by simp)] at this
        clear HL2 HLT
        go_wp2
        refine wp_region_det (S := MS w b (off + k * 2) (xa, xb) (0, 0) (ma, mb)) (by kernel_rfl) HS.out ?_
        refine wpDet_take (i := 0) (oi := _) (v := ?dv9) (by simp only [List.getElem?_toArray, List.getElem?_cons_zero]; rfl) (by kernel_rfl) (by kernel_rfl) (by kernel_rfl) (Or.inl ⟨by rfl, ?dy9⟩) ?dr9
        case dy9 => (intro w hSw; have hS0 := hSw; (try dsimp only [MS] at hSw); go_simp; refine Came.value ?_ hS0; with_reducible rfl)
        try simp only [Act.put, List.setIfInBounds_toArray, List.set_cons_zero, List.set_cons_succ]
        refine wpDet_take (i := 1) (oi := _) (v := ?dv10) (by simp only [List.getElem?_toArray, List.getElem?_cons_zero, List.getElem?_cons_succ]; rfl) (by kernel_rfl) (by kernel_rfl) (by kernel_rfl) (Or.inl ⟨by rfl, ?dy10⟩) ?dr10
        case dy10 => (intro w hSw; have hS0 := hSw; (try dsimp only [MS] at hSw); go_simp; refine Came.value ?_ hS0; with_reducible rfl)
        try simp only [Act.put, List.setIfInBounds_toArray, List.set_cons_zero, List.set_cons_succ]
        refine wpDet_take (i := 2) (oi := _) (v := ?dv11) (by simp only [List.getElem?_toArray, List.getElem?_cons_zero, List.getElem?_cons_succ]; rfl) (by kernel_rfl) (by kernel_rfl) (by kernel_rfl) (Or.inl ⟨by rfl, ?dy11⟩) ?dr11
        case dy11 => (intro w hSw; have hS0 := hSw; (try dsimp only [MS] at hSw); go_simp; refine Came.value ?_ hS0; with_reducible rfl)
        try simp only [Act.put, List.setIfInBounds_toArray, List.set_cons_zero, List.set_cons_succ]
        refine wpDet_take (i := 3) (oi := _) (v := ?dv12) (by simp only [List.getElem?_toArray, List.getElem?_cons_zero, List.getElem?_cons_succ]; rfl) (by kernel_rfl) (by kernel_rfl) (by kernel_rfl) (Or.inl ⟨by rfl, ?dy12⟩) ?dr12
        case dy12 => (intro w hSw; have hS0 := hSw; (try dsimp only [MS] at hSw); go_simp; refine Came.value ?_ hS0; with_reducible rfl)
        try simp only [Act.put, List.setIfInBounds_toArray, List.set_cons_zero, List.set_cons_succ]
        refine wpDet_take (i := 4) (oi := _) (v := ?dv13) (by simp only [List.getElem?_toArray, List.getElem?_cons_zero, List.getElem?_cons_succ]; rfl) (by kernel_rfl) (by kernel_rfl) (by kernel_rfl) (Or.inl ⟨by rfl, ?dy13⟩) ?dr13
        case dy13 => (intro w hSw; have hS0 := hSw; (try dsimp only [MS] at hSw); go_simp; refine Came.value ?_ hS0; with_reducible rfl)
        try simp only [Act.put, List.setIfInBounds_toArray, List.set_cons_zero, List.set_cons_succ]
        refine wpDet_take (i := 5) (oi := _) (v := ?dv14) (by simp only [List.getElem?_toArray, List.getElem?_cons_zero, List.getElem?_cons_succ]; rfl) (by kernel_rfl) (by kernel_rfl) (by kernel_rfl) (Or.inl ⟨by rfl, ?dy14⟩) ?dr14
        case dy14 => (intro w hSw; have hS0 := hSw; (try dsimp only [MS] at hSw); go_simp; refine Came.value ?_ hS0; with_reducible rfl)
        try simp only [Act.put, List.setIfInBounds_toArray, List.set_cons_zero, List.set_cons_succ]
        refine wpDet_take (i := 6) (oi := _) (v := ?dv15) (by simp only [List.getElem?_toArray, List.getElem?_cons_zero, List.getElem?_cons_succ]; rfl) (by kernel_rfl) (by kernel_rfl) (by kernel_rfl) (Or.inl ⟨by rfl, ?dy15⟩) ?dr15
        case dy15 => (intro w hSw; go_simp; exact Came.call ((HV.out w).mono fun e w' ⟨he, hf⟩ => ⟨he, hSw.fr hf⟩) (by with_reducible rfl))
        try simp only [Act.put, List.setIfInBounds_toArray, List.set_cons_zero, List.set_cons_succ]
        refine wpDet_take (i := 7) (oi := _) (v := ?dv16) (by simp only [List.getElem?_toArray, List.getElem?_cons_zero, List.getElem?_cons_succ]; rfl) (by kernel_rfl) (by kernel_rfl) (by kernel_rfl) (Or.inl ⟨by rfl, ?dy16⟩) ?dr16
        case dy16 => (intro w hSw; have hS0 := hSw; (try dsimp only [MS] at hSw); go_simp; refine Came.value ?_ hS0; with_reducible rfl)
        try simp only [Act.put, List.setIfInBounds_toArray, List.set_cons_zero, List.set_cons_succ]
        refine wpDet_done (by kernel_rfl) ?_ _
        rintro w1 hS1
        have HM1 := Lib.hid hS1.1
        clear hS1 HS HV
        go_wp2
        go_roundw
        case rel => exact ⟨k + 1, (ma, mb), by go_num, Lib.hid ⟨by omega, by omega⟩, HL3, HM1⟩
        case measure => simp [intOf]; omega
    · obtain rfl : k = n := by omega
      have HE : Hid ((ma, mb) = y) := by
        have := HL.out
        rw [HN.out, List.take_length] at this
        exact this.unique HY.out
      obtain ⟨t0, t1⟩ := brow HM.out.2.1
      obtain ⟨f0, f1⟩ := bfz HM.out.2.1
      have HM2 := Lib.hid (HM.out.out (ma, mb))
      obtain ⟨e0, e1⟩ := brow HM2.out.2.1
      clear HL
      have HF := Lib.hid HM2.out.1
      clear HM2
      go_wp2
      generalize World.setCell (World.setCell wr _ _) _ _ = W at HF e0 e1 ⊢
      exact bodyPost_ret (v := .agg #[.int .i64 ma, .int .i64 mb]) (by simp [results, Try.results78, go_sem, e0, e1]) rfl ⟨by rw [← HE.out], HF.out⟩
set_option maxRecDepth 100000 in
theorem bleast_some (v : Value) (l : List (Int × Int)) (y : Int × Int) (w : World) (h : HB w v l) (hl : l.length ≤ 1000) (hy : LeastB l y) : Calls Try.prog 62 #[v] w fun x w' => x = .returned (.tuple #[bidV y, .bool true]) ∧ Fr w w' [] := by
  have F1 := Lib.hid (Fr.alloc w (bidBox (0, 0)) [])
  have R1 := Lib.hid (heap_alloc_new w (bidBox (0, 0)))
  have HM := Lib.hid (minf_any v l y _ (h.keep F1.out) (by omega) hy)
  obtain ⟨a, cap, rfl, p1, q1, r1⟩ := h
  have h0 : 0 < l.length := List.length_pos_of_mem hy.1
  have hne : ((l.length : Int) == 0) = false := by rw [beq_eq_false_iff_ne]; omega
  clear r1 hy
  obtain ⟨ya, yb⟩ := y
  dsimp only [bidV, bidBox] at *
  go_enter Try.func62, Try.ntmps62
  go_wp2_with fail
  with_reducible refine (HM.out).mono ?_
  rintro e w1 ⟨rfl, hf⟩
  have R2 := Lib.hid (hf.heap R1.out (by simp))
  have F2 := Lib.hid (F1.out.trans hf)
  obtain ⟨t0, t1⟩ := brow R2.out
  obtain ⟨f0, f1⟩ := bfz R2.out
  obtain ⟨e0, e1⟩ := brow (bset R2.out (.int .i64 ya) (.int .i64 yb))
  have F3 := Lib.hid (F2.out.new (bset_fr w1 w.heap.size (.int .i64 ya) (.int .i64 yb)) (by intro r hr; obtain rfl := List.mem_singleton.1 hr; omega))
  clear hf HM
  go_wp2
  generalize World.setCell (World.setCell w1 _ _) _ _ = W at F3 e0 e1 ⊢
  exact bodyPost_ret (v := .tuple #[.agg #[.int .i64 ya, .int .i64 yb], .bool true]) (by simp [results, Try.results62, go_sem, e0, e1]) rfl ⟨rfl, F3.out⟩
set_option maxRecDepth 100000 in
theorem bleast_none (v : Value) (w : World) (h : HB w v []) : Calls Try.prog 62 #[v] w fun x w' => x = .returned (.tuple #[bidV (0, 0), .bool false]) ∧ Fr w w' [] := by
  obtain ⟨a, cap, rfl, p1, q1, r1⟩ := h
  have F1 := Lib.hid (Fr.alloc w (bidBox (0, 0)) [])
  have R1 := Lib.hid (heap_alloc_new w (bidBox (0, 0)))
  obtain ⟨t0, t1⟩ := brow R1.out
  obtain ⟨f0, f1⟩ := bfz R1.out
  clear r1
  dsimp only [bidV, bidBox] at *
  go_enter Try.func62, Try.ntmps62
  go_wp2
  generalize World.alloc w _ = W at F1 t0 t1 ⊢
  exact bodyPost_ret (v := .tuple #[.agg #[.int .i64 0, .int .i64 0], .bool false]) (by simp [results, Try.results62, go_sem, t0, t1]) rfl ⟨rfl, F1.out⟩
end Go.Proofs.Ytldheaamcnmlgaa

namespace Go.Proofs.Ytldheaamcnmlgaa
open Go.RowKit

/-- A number in a box of the call's own. -/
theorem nrow {w : World} {g : Nat} {a : Value} {T : TypeId} (h : w.heap[g]? = some (.cells #[a] T (0, 0))) : w.cell? ⟨g, 0, none⟩ = some a := by
  rw [cell_of_row w g 0 _ _ _ h]; rfl
set_option maxRecDepth 100000 in
theorem clos_any (x : Int × Int) (c : Int) (g : Nat) (w : World) (hg : w.cell? ⟨g, 0, none⟩ = some (.int .i64 c)) (r : Bool) (hr : r = decide (c < x.1)) :
    Calls Try.prog 66 #[bidV x, .pointer (some ⟨g, 0, none⟩)] w fun e w' => e = .returned (.bool r) ∧ Fr w w' [] := by
  obtain ⟨a, b⟩ := x
  have F1 := Lib.hid (Fr.alloc w (bidBox (a, b)) [])
  obtain ⟨x0, x1⟩ := brow (heap_alloc_new w (bidBox (a, b)))
  have hg := F1.out.cell hg (by simp)
  have HR := Lib.hid hr
  clear hr
  dsimp only [bidV, bidBox] at *
  go_enter Try.func66, Try.ntmps66
  go_wp2
  go_ret
  exact ⟨by rw [HR.out]; rfl, F1.out⟩
/-- Where the first of a greater car stands; -1. -/
def placeZ (l : List (Int × Int)) (c : Int) : Int := if placeB l c < l.length then (placeB l c : Int) else -1
set_option maxHeartbeats 1000000 in
set_option maxRecDepth 100000 in
theorem idx_any (v : Value) (l : List (Int × Int)) (c : Int) (g : Nat) (w : World) (h : HB w v l) (hl : l.length ≤ 1000000) (hg : w.cell? ⟨g, 0, none⟩ = some (.int .i64 c)) (z : Int) (hz : z = placeZ l c) :
    Calls Try.prog 65 #[v, .func (.func 66) #[] #[.pointer (some ⟨g, 0, none⟩)]] w fun e w' => e = .returned (.int .i64 z) ∧ Fr w w' [] := by
  obtain ⟨a, cap, rfl, p1, q1, r1⟩ := h
  unfold maxLen at q1
  have CL := Lib.hid (fun (x : Int × Int) W (hW : Fr w W []) r hr => clos_any x c g W (hW.cell hg (by simp)) r hr)
  obtain ⟨n, hn⟩ : ∃ n, n = l.length := ⟨_, rfl⟩
  have HN := Lib.hid hn
  have HCE := Lib.hid r1
  have HZ := Lib.hid hz
  rw [← hn] at hl p1 ⊢
  rw [← hn] at HCE
  clear r1 hn hz hg
  go_enter Try.func65, Try.ntmps65
  go_wp2
  go_loopw [5, 8] (fun _ s8 wx => ∃ k : Nat, s8 = .int .i64 k ∧ Hid (k ≤ n) ∧ Hid (∀ i, i < k → (l.getD i (0, 0)).1 ≤ c) ∧ Hid (Fr w wx [])) (fun _ s8 _ => n - (intOf s8).toNat)
  case atStart => exact ⟨0, rfl, Lib.hid (Nat.zero_le _), Lib.hid (fun i hi => by omega), Lib.hid (Fr.refl _ _)⟩
  case round =>
    obtain ⟨k, rfl, HK, HA, HF⟩ := hrel
    have hk := HK.out
    by_cases hlt : k < n
    · obtain ⟨b, off, rfl, hc⟩ := HCE.out (by omega)
      obtain ⟨x, hx⟩ : ∃ x, x = l.getD k (0, 0) := ⟨_, rfl⟩
      have HX := Lib.hid hx
      obtain ⟨z0, z1⟩ := hc k hlt
      rw [← hx] at z0 z1
      have z0 := HF.out.cell z0 (by simp)
      have z1 := HF.out.cell z1 (by simp)
      clear hc hx
      by_cases hg : c < x.1
      · have HP : Hid (z = (k : Int)) := by
          show _ = _
          have e : placeB l c = k := placeB_is (by have := HN.out; omega) HA.out (fun _ => by rw [← HX.out]; exact hg)
          rw [HZ.out]
          unfold placeZ
          rw [e, if_pos (by have := HN.out; omega)]
        have C1 := Lib.hid (CL.out x wr HF.out true (decide_eq_true hg).symm)
        obtain ⟨xa, xb⟩ := x
        dsimp only [bidV] at *
        clear HA HX hg CL
        go_wp2_with fail
        with_reducible refine (C1.out).mono ?_
        rintro e w1 ⟨rfl, hf⟩
        have HF1 := Lib.hid (HF.out.trans hf)
        clear hf C1
        go_wp2
        go_ret
        exact ⟨by rw [HP.out]; rfl, HF1.out⟩
      · have HA2 : Hid (∀ i, i < k + 1 → (l.getD i (0, 0)).1 ≤ c) := Lib.hid (fun i hi => by
          by_cases e : i = k
          · subst e; rw [← HX.out]; omega
          · exact HA.out i (by omega))
        have C1 := Lib.hid (CL.out x wr HF.out false (decide_eq_false hg).symm)
        obtain ⟨xa, xb⟩ := x
        dsimp only [bidV] at *
        clear HA HX hg
        go_wp2_with fail
        with_reducible refine (C1.out).mono ?_
        rintro e w1 ⟨rfl, hf⟩
        have HF1 := Lib.hid (HF.out.trans hf)
        clear hf C1
        go_wp2
        go_roundw
        case rel => exact ⟨k + 1, by go_num, Lib.hid (by omega), HA2, HF1⟩
        case measure => simp [intOf]; omega
    · obtain rfl : k = n := by omega
      have HP : Hid (z = -1) := by
        show _ = _
        have e : placeB l c = l.length := placeB_is (Nat.le_refl _) (by rw [← HN.out]; exact HA.out) (fun h => absurd h (Nat.lt_irrefl _))
        rw [HZ.out]
        unfold placeZ
        rw [e, if_neg (Nat.lt_irrefl _)]
      clear HA CL HCE
      go_wp2
      go_ret
      exact ⟨by rw [HP.out]; rfl, HF.out⟩
set_option maxRecDepth 100000 in
theorem place_any (v : Value) (l : List (Int × Int)) (c : Int) (w : World) (h : HB w v l) (hl : l.length ≤ 1000000) (k : Nat) (hk : k = placeB l c) :
    Calls Try.prog 50 #[v, .int .i64 c] w fun e w' => e = .returned (.int .i64 k) ∧ Fr w w' [] := by
  have F1 := Lib.hid (Fr.alloc w (.cells #[.int .i64 c] 3) [])
  have R1 := Lib.hid (heap_alloc_new w (.cells #[.int .i64 c] 3))
  obtain ⟨z, hz⟩ : ∃ z, z = placeZ l c := ⟨_, rfl⟩
  have IX := Lib.hid (idx_any v l c w.heap.size _ (h.keep F1.out) hl (nrow R1.out) z hz)
  obtain ⟨a, cap, rfl, p1, q1, r1⟩ := h
  unfold maxLen at q1
  have hle := placeB_le l c
  clear r1
  unfold placeZ at hz
  rw [← hk] at hz hle
  clear hk
  by_cases hlt : k < l.length
  · rw [if_pos hlt] at hz
    subst hz
    go_enter Try.func50, Try.ntmps50
    go_wp2_with fail
    with_reducible refine (IX.out).mono ?_
    rintro e w1 ⟨rfl, hf⟩
    have HF1 := Lib.hid (F1.out.trans hf)
    clear hf IX
    go_wp2
    go_ret
    exact ⟨rfl, HF1.out⟩
  · rw [if_neg hlt] at hz
    subst hz
    have HK := Lib.hid (show l.length = k by omega)
    go_enter Try.func50, Try.ntmps50
    go_wp2_with fail
    with_reducible refine (IX.out).mono ?_
    rintro e w1 ⟨rfl, hf⟩
    have HF1 := Lib.hid (F1.out.trans hf)
    clear hf IX
    go_wp2
    go_ret
    exact ⟨by rw [HK.out]; rfl, HF1.out⟩
end Go.Proofs.Ytldheaamcnmlgaa

namespace Go.Proofs.Ytldheaamcnmlgaa
open Go.RowKit

theorem zcells_len (k : Nat) : (Builtin.zeroCells (Value.agg #[.int .i64 0, .int .i64 0]).cells k).size = k * 2 := by
  simp [Builtin.zeroCells, Value.cells]
set_option maxHeartbeats 1000000 in
set_option maxRecDepth 100000 in
theorem grow_any (n : Nat) (w : World) (hn : n ≤ 1000000) : Calls Try.prog 67 #[.slice none 0 0, .int .i64 n] w (Gives fun u w' => OwnB w' w.heap.size u [] ∧ Fr w w' []) := by
  obtain ⟨i0, hi0, hz0, hz1, hz2⟩ := info_parts infoB
  by_cases h0 : n = 0
  · subst h0
    go_enter Try.func67, Try.ntmps67
    go_wp2
    go_ret
    exact gives ⟨OwnB.nil _ _, Fr.refl _ _⟩
  · have hold : (Builtin.firstCells i0.size 0 (.slice none 0 0)).run Try.prog w.drew = .ok ([] : List Value).toArray w.drew := run_firstCells_none w.drew i0.size 0 0 0
    have hgf : Builtin.nextslicecap (0 + n) 0 * i0.bytes ≤ 281474976710656 := growslice_fits (by omega) (by rw [hz2]; omega)
    have hap := fun ty => Lib.run_append_grow_zeros (P := Try.prog) w 38 3 ty 42 i0 _ .i64 .i64 Try.underlying38 Try.underlying3 hi0 hz0 none 0 0 [] hold n (by omega) (by rw [hz1]; decide) (by omega) (by omega) (by rw [hz2]; omega) hgf
    have hGn : 0 + n ≤ grownCap w (0 + n) 0 42 := grownCap_ge w _ _ _
    have hGm := grownCap_le_maxLen w (0 + n) 0 42 (by unfold maxLen; omega)
    obtain ⟨G, hG⟩ : ∃ G, G = grownCap w (0 + n) 0 42 := ⟨_, rfl⟩
    rw [← hG] at hap hGn hGm
    rw [Nat.zero_add] at hap hGn
    obtain ⟨cs, hcs⟩ : ∃ cs, cs = ([] : List Value).toArray ++ Builtin.zeroCells (Value.agg #[.int .i64 0, .int .i64 0]).cells n ++ Builtin.zeroCells (Value.agg #[.int .i64 0, .int .i64 0]).cells (G - n) := ⟨_, rfl⟩
    rw [← hcs] at hap
    have hsz : cs.size = G * 2 := by
      rw [hcs, Array.size_append, Array.size_append, zcells_len, zcells_len]
      simp only [List.size_toArray, List.length_nil]
      omega
    have HO : Hid (OwnB (w.drew.alloc (.cells cs 42)) w.heap.size (.slice (some ⟨w.heap.size, 0, none⟩) 0 G) []) :=
      ⟨rfl, .inr ⟨w.heap.size, G, cs, rfl, Nat.le_refl _, heap_alloc_new w.drew _, Nat.zero_le _, hGm, hsz, by simp [bdc]⟩⟩
    have HF : Hid (Fr w (w.drew.alloc (.cells cs 42)) []) := (Fr.drew w []).trans (Fr.alloc _ _ [])
    unfold maxLen at hGm
    have hnp : (n : Int) > 0 := by omega
    clear hG hcs hsz hold hgf
    go_enter Try.func67, Try.ntmps67
    go_wp2_with (at_builtin; refine Lib.wpList_append_run _ rfl _ _ _ _ rfl _ _ rfl rfl _ _ (hap _) ?_)
    go_ret
    exact gives ⟨HO.out, HF.out⟩
/-- Slices of bids, one behind the other. -/
abbrev VL := Value × List (Int × Int)
def zVL : VL := (.slice none 0 0, [])
def totL : List VL → Nat
  | [] => 0
  | p :: vs => p.2.length + totL vs
def catL (vs : List VL) : List (Int × Int) := vs.flatMap (·.2)
theorem catL_len : ∀ vs : List VL, (catL vs).length = totL vs
  | [] => rfl
  | p :: vs => by
    have := catL_len vs
    unfold catL at *
    rw [List.flatMap_cons, List.length_append, this]
    rfl
theorem catL_app (vs ws : List VL) : catL (vs ++ ws) = catL vs ++ catL ws := by simp [catL]
theorem take_vl (vs : List VL) (k : Nat) (h : k < vs.length) : vs.take (k + 1) = vs.take k ++ [vs.getD k zVL] := by
  rw [List.take_succ_eq_append_getElem h]; simp [h]
theorem tot_take (vs : List VL) (k : Nat) (h : k < vs.length) : totL (vs.take (k + 1)) = totL (vs.take k) + (vs.getD k zVL).2.length := by
  rw [← catL_len, ← catL_len, take_vl vs k h, catL_app, List.length_append]; simp [catL]
theorem cat_take (vs : List VL) (k : Nat) (h : k < vs.length) : catL (vs.take (k + 1)) = catL (vs.take k) ++ (vs.getD k zVL).2 := by
  rw [take_vl vs k h, catL_app]; simp [catL]
theorem tot_le (vs : List VL) (k : Nat) : totL (vs.take k) ≤ totL vs := by
  have h : totL vs = totL (vs.take k) + totL (vs.drop k) := by
    rw [← catL_len, ← catL_len, ← catL_len, ← List.length_append, ← catL_app, List.take_append_drop]
  omega
theorem HB.args {w : World} {x : Addr} {n c : Nat} {l : List (Int × Int)} (h : HB w (.slice (some x) n c) l) : ∀ j u, (bdc l)[j]? = some u → w.cell? (x.add j) = some u := by
  intro j u hu
  have hj : j < (bdc l).length := (List.getElem?_eq_some_iff.1 hu).1
  rw [bdc_len] at hj
  obtain ⟨a, c', he, _, _, hc⟩ := h
  simp only [Value.slice.injEq] at he
  obtain ⟨rfl, rfl, rfl⟩ := he
  obtain ⟨b, off, e, hc2⟩ := hc (by omega)
  simp only [Option.some.injEq] at e
  subst e
  have hh : HB w (.slice (some ⟨b, off, none⟩) l.length c) l := ⟨_, _, rfl, ‹_›, ‹_›, hc⟩
  have := hh.cells 0 j u (by simpa using hu)
  simpa using this
theorem own_more {w0 w w6 : World} {B : Nat} {l m : List (Int × Int)} {v v' : Value} (ho : w6.ownsRow B 42 2 v' (l.length + m.length) (bdc l ++ bdc m)) (hf : Fr w0 w [])
    (hg : w.grownBy w6 v.ownBlock) (hb : ∀ r, v.ownBlock = some r → w0.heap.size ≤ r) : OwnB w6 B v' (l ++ m) ∧ Fr w0 w6 [] := by
  refine ⟨?_, hf.grown_own hg (fun r hr => .inr (hb r hr))⟩
  unfold OwnB
  rw [List.length_append, bdc_app]
  exact ho
set_option maxHeartbeats 2000000 in
set_option maxRecDepth 100000 in
theorem concat_any (g : Nat) (vs : List VL) (w : World) (hl : vs.length ≤ 1000) (ht : totL vs ≤ 1000000) (hc : ∀ i, i < vs.length → w.cell? ⟨g, i, none⟩ = some (vs.getD i zVL).1) (hv : ∀ i, i < vs.length → HB w (vs.getD i zVL).1 (vs.getD i zVL).2) :
    Calls Try.prog 51 #[.slice (some ⟨g, 0, none⟩) vs.length vs.length] w (Gives fun u w' => OwnB w' w.heap.size u (catL vs) ∧ Fr w w' []) := by
  obtain ⟨i0, hi0, hz0, hz1, hz2⟩ := info_parts infoB
  obtain ⟨n, hn⟩ : ∃ n, n = vs.length := ⟨_, rfl⟩
  have HN := Lib.hid hn
  have HC := Lib.hid hc
  have HV := Lib.hid hv
  have HT := Lib.hid ht
  obtain ⟨t, htt⟩ : ∃ t, t = totL vs := ⟨_, rfl⟩
  have HTT := Lib.hid htt
  rw [← htt] at ht
  rw [← hn] at hl ⊢
  have GR := Lib.hid (grow_any t w ht)
  clear hc hv hn htt
  go_enter Try.func51, Try.ntmps51
  go_wp2
  go_loopw [3, 5, 11] (fun s3 _ s11 wx => ∃ k m : Nat, s3 = .int .i64 m ∧ s11 = .int .i64 k ∧ Hid (k ≤ n) ∧ Hid (m = totL (vs.take k)) ∧ w = wx) (fun _ _ s11 _ => n - (intOf s11).toNat)
  case atStart => exact ⟨0, 0, rfl, rfl, Lib.hid (Nat.zero_le _), Lib.hid rfl, rfl⟩
  case round =>
    obtain ⟨k, m, rfl, rfl, HK, HM, rfl⟩ := hrel
    have hk := HK.out
    by_cases hlt : k < n
    · have hcell := HC.out k (by have := HN.out; omega)
      obtain ⟨a, c, hav, p1, q1, r1⟩ := HV.out k (by have := HN.out; omega)
      obtain ⟨q, hq⟩ : ∃ q, q = (vs.getD k zVL).2.length := ⟨_, rfl⟩
      rw [hav, ← hq] at hcell
      have hs := tot_take vs k (by have := HN.out; omega)
      rw [← hq, ← HM.out] at hs
      have hb := tot_le vs (k + 1)
      rw [hs] at hb
      have hb2 := HT.out
      have HM2 : Hid (m + q = totL (vs.take (k + 1))) := Lib.hid hs.symm
      have hmq : m + q ≤ 1000000 := by omega
      have hnn : ¬ (((m : Int) + (q : Int)) < 0) := by omega
      clear hq hs hb hb2 hav p1 q1 r1 HM
      go_wp2
      go_roundw
      case rel => exact ⟨k + 1, m + q, by go_num, by go_num, Lib.hid (by omega), HM2, by trivial⟩
      case measure => simp [intOf]; omega
    · obtain rfl : k = n := by omega
      have HE : Hid (m = t) := by
        show _ = _
        rw [HM.out, HN.out, List.take_length, HTT.out]
      obtain rfl := HE.out
      clear HM HE
      go_wp2_with fail
      with_reducible refine (GR.out).mono ?_
      rintro e w1 ⟨u, rfl, ho, hf⟩
      have HO := Lib.hid ho
      have HF := Lib.hid hf
      clear ho hf GR
      go_wp2
      go_loopw [6, 8, 27] (fun s6 _ s27 wx => ∃ j : Nat, s27 = .int .i64 j ∧ Hid (j ≤ k) ∧ Hid (OwnB wx w.heap.size s6 (catL (vs.take j))) ∧ Hid (Fr w wx [])) (fun _ _ s27 _ => k - (intOf s27).toNat)
      case atStart => exact ⟨0, rfl, Lib.hid (Nat.zero_le _), HO, HF⟩
      case round =>
        obtain ⟨j, rfl, HJ, HOj, HFj⟩ := hrel
        have hj := HJ.out
        by_cases hlt : j < k
        · have hcell := HFj.out.cell (HC.out j (by have := HN.out; omega)) (by simp)
          have hvj := (HV.out j (by have := HN.out; omega)).keep HFj.out
          have hct := cat_take vs j (by have := HN.out; omega)
          have hb := tot_le vs (j + 1)
          rw [← catL_len, hct, List.length_append] at hb
          have hb2 := HT.out
          obtain ⟨⟨v, l⟩, hvl⟩ : ∃ p, p = vs.getD j zVL := ⟨_, rfl⟩
          rw [← hvl] at hcell hvj hct hb
          dsimp only at hcell hvj hct hb
          have HCT := Lib.hid hct
          obtain ⟨M, hM⟩ : ∃ M, M = catL (vs.take j) := ⟨_, rfl⟩
          rw [← hM] at HOj hb HCT
          obtain ⟨ua, uc, hu⟩ := HOj.out.shape
          have HVJ := Lib.hid hvj
          obtain ⟨a, c, rfl, p1, q1, r1⟩ := hvj
          have hbig : M.length + l.length ≤ 1000000 := by omega
          clear hvl hct hM hb hb2 r1 HO HF
          cases a with
          | none =>
            have hl0 : l = [] := by
              refine List.eq_nil_of_length_eq_zero ?_
              have := p1.2 rfl
              omega
            subst hl0
            have HO2 : Hid (OwnB wr w.heap.size (.slice ua M.length uc) (catL (vs.take (j + 1)))) := by
              show OwnB _ _ _ _
              rw [HCT.out, List.append_nil, ← hu]
              exact HOj.out
            clear HVJ
            go_wp2_with (at_builtin; refine wpList_append_own_none rfl _ _ 38 rfl w.heap.size 42 i0 2 Try.underlying38 hi0 _ _ _ rfl HOj.out rfl ?_)
            go_roundw
            case rel => exact ⟨j + 1, by go_num, Lib.hid (by omega), HO2, HFj⟩
            case measure => simp [intOf]; omega
          | some ad =>
            go_wp2_with (at_builtin; refine wpList_append_own _ rfl _ _ 38 rfl w.heap.size 42 i0 (.agg #[.int .i64 0, .int .i64 0]) 2 16 Try.underlying38 hi0 hz0 hz1 hz2 rfl (by decide) _ _ _ rfl HOj.out ad l.length c (bdc l) rfl (bdc_len l) (HVJ.out.args) (bdc_one l) (by unfold maxLen; omega) (by omega) HFj.out.size ?_; intro v' w3 hown3 hg3 _)
            have HQ := Lib.hid (own_more (m := l) hown3 HFj.out hg3 (fun r hr => (HOj.out.block r hr).1))
            have HO2 : Hid (OwnB w3 w.heap.size v' (catL (vs.take (j + 1)))) := by
              show OwnB _ _ _ _
              rw [HCT.out]
              exact HQ.out.1
            have HF2 := Lib.hid HQ.out.2
            clear hown3 hg3 HQ HVJ
            go_wp2
            go_roundw
            case rel => exact ⟨j + 1, by go_num, Lib.hid (by omega), HO2, HF2⟩
            case measure => simp [intOf]; omega
        · obtain rfl : j = k := by omega
          have HO2 := HOj.out
          rw [HN.out, List.take_length] at HO2
          have HO2 := Lib.hid HO2
          clear HOj HO HF
          go_wp2
          go_ret
          exact gives ⟨HO2.out, HFj.out⟩
end Go.Proofs.Ytldheaamcnmlgaa

namespace Go.Proofs.Ytldheaamcnmlgaa
open Go.RowKit

/-- The answer's box. -/
def OF (W : World) (z : Int × Int) (a : World) : Prop := Fr W a [] ∧ a.heap[W.heap.size]? = some (bidBox z)
theorem OF.fr {W : World} {z : Int × Int} {a a' : World} (h : OF W z a) (k : Fr a a' []) : OF W z a' := ⟨h.1.trans k, k.heap h.2 (by simp)⟩
theorem OF.set {W : World} {z : Int × Int} {a : World} (h : OF W z a) (x : Int × Int) : OF W x ((a.setCell ⟨W.heap.size, 0, none⟩ (.int .i64 x.1)).setCell ⟨W.heap.size, 1, none⟩ (.int .i64 x.2)) :=
  ⟨h.1.new (bset_fr a _ _ _) (by intro r hr; obtain rfl := List.mem_singleton.1 hr; omega), bset h.2 _ _⟩
set_option maxHeartbeats 1000000 in
set_option maxRecDepth 100000 in
theorem bof_any (v : Value) (l : List (Int × Int)) (c : Int) (w : World) (h : HB w v l) (hl : l.length ≤ 1000) (y : Int × Int) (r : Bool) (hy : (bidOf l c = some y ∧ r = true) ∨ (bidOf l c = none ∧ y = (0, 0) ∧ r = false)) :
    Calls Try.prog 27 #[v, .int .i64 c] w fun x w' => x = .returned (.tuple #[bidV y, .bool r]) ∧ Fr w w' [] := by
  obtain ⟨a, cap, rfl, p1, q1, r1⟩ := h
  unfold maxLen at q1
  have HCE := Lib.hid r1
  have HY := Lib.hid hy
  obtain ⟨n, hn⟩ : ∃ n, n = l.length := ⟨_, rfl⟩
  have HN := Lib.hid hn
  have O0 := Lib.hid (show OF w (0, 0) _ from ⟨Fr.alloc w (bidBox (0, 0)) [], heap_alloc_new w _⟩)
  rw [← hn] at hl p1 HCE ⊢
  clear r1 hn hy
  dsimp only [bidV, bidBox] at *
  go_enter Try.func27, Try.ntmps27
  go_wp2
  go_loopw [7, 10] (fun _ s10 wx => ∃ k : Nat, s10 = .int .i64 k ∧ Hid (k ≤ n) ∧ Hid (∀ i, i < k → (l.getD i (0, 0)).1 ≠ c) ∧ Hid (OF w (0, 0) wx)) (fun _ s10 _ => n - (intOf s10).toNat)
  case atStart => exact ⟨0, rfl, Lib.hid (Nat.zero_le _), Lib.hid (fun i hi => by omega), O0⟩
  case round =>
    obtain ⟨k, rfl, HK, HA, HO⟩ := hrel
    have hk := HK.out
    by_cases hlt : k < n
    · obtain ⟨b, off, rfl, hc⟩ := HCE.out (by omega)
      obtain ⟨x, hx⟩ : ∃ x, x = l.getD k (0, 0) := ⟨_, rfl⟩
      have HX := Lib.hid hx
      obtain ⟨z0, z1⟩ := hc k hlt
      rw [← hx] at z0 z1
      have z0 := HO.out.1.cell z0 (by simp)
      have z1 := HO.out.1.cell z1 (by simp)
      have O1 := Lib.hid (HO.out.fr (Fr.alloc wr (bidBox x) []))
      obtain ⟨m0, m1⟩ := brow (heap_alloc_new wr (bidBox x))
      obtain ⟨xa, xb⟩ := x
      dsimp only [bidV, bidBox] at *
      clear hc hx HO
      by_cases he : xa = c
      · have HR : Hid (y = (xa, xb) ∧ r = true) := by
          show _ ∧ _
          have e := find_take (l := l) (c := c) (k := k) (by rw [← HN.out]; exact hlt) HA.out (by rw [← HX.out]; exact he)
          rw [← HX.out] at e
          rcases HY.out with ⟨h1, h2⟩ | ⟨h1, _⟩
          · rw [e] at h1; exact ⟨(Option.some.inj h1).symm, h2⟩
          · rw [e] at h1; cases h1
        obtain ⟨rfl, rfl⟩ := HR.out
        subst he
        obtain ⟨t0, t1⟩ := brow O1.out.2
        obtain ⟨f0, f1⟩ := bfz O1.out.2
        have O2 := Lib.hid (O1.out.set (xa, xb))
        obtain ⟨e0, e1⟩ := brow O2.out.2
        have HF := Lib.hid O2.out.1
        have he : (xa == xa) = true := by simp
        clear HY HR HA HX O0 O2
        go_wp2
        generalize World.setCell (World.setCell _ _ _) _ _ = W at HF e0 e1 ⊢
        exact bodyPost_ret (v := .tuple #[.agg #[.int .i64 xa, .int .i64 xb], .bool true]) (by simp [results, Try.results27, go_sem, e0, e1]) rfl ⟨rfl, HF.out⟩
      · have HA2 : Hid (∀ i, i < k + 1 → (l.getD i (0, 0)).1 ≠ c) := Lib.hid (fun i hi => by
          by_cases e : i = k
          · subst e; rw [← HX.out]; exact he
          · exact HA.out i (by omega))
        have he2 : (xa == c) = false := by simp [he]
        clear HA HX he
        go_wp2
        go_roundw
        case rel => exact ⟨k + 1, by go_num, Lib.hid (by omega), HA2, O1⟩
        case measure => simp [intOf]; omega
    · obtain rfl : k = n := by omega
      have HR : Hid (y = (0, 0) ∧ r = false) := by
        show _ ∧ _
        have e := find_none' (l := l) (c := c) (by rw [← HN.out]; exact HA.out)
        rcases HY.out with ⟨h1, _⟩ | ⟨_, h2⟩
        · rw [e] at h1; cases h1
        · exact h2
      obtain ⟨rfl, rfl⟩ := HR.out
      obtain ⟨t0, t1⟩ := brow HO.out.2
      obtain ⟨f0, f1⟩ := bfz HO.out.2
      have O2 := Lib.hid (HO.out.set (0, 0))
      obtain ⟨e0, e1⟩ := brow O2.out.2
      have HF := Lib.hid O2.out.1
      clear HY HR HA O0 O2 HO HCE
      go_wp2
      generalize World.setCell (World.setCell _ _ _) _ _ = W at HF e0 e1 ⊢
      exact bodyPost_ret (v := .tuple #[.agg #[.int .i64 0, .int .i64 0], .bool false]) (by simp [results, Try.results27, go_sem, e0, e1]) rfl ⟨rfl, HF.out⟩
end Go.Proofs.Ytldheaamcnmlgaa

namespace Go.Proofs.Ytldheaamcnmlgaa
open Go.RowKit

theorem hb_of_cells {w : World} {g n : Nat} {l : List (Int × Int)} (hn : l.length = n) (hm : n ≤ maxLen) (h : w.heap[g]? = some (.cells (bdc l).toArray 42 (0, 0))) : HB w (.slice (some ⟨g, 0, none⟩) n n) l := by
  subst hn
  refine ⟨_, _, rfl, ⟨Nat.le_refl _, by simp⟩, hm, fun _ => ⟨g, 0, rfl, fun i hi => ?_⟩⟩
  obtain ⟨a, b⟩ := bdc_get l i hi
  rw [Nat.zero_add, cell_of_row _ _ _ _ _ _ h, cell_of_row _ _ _ _ _ _ h]
  exact ⟨by simpa using a, by simpa using b⟩
/-- What stands behind, as a slice. -/
theorem HB.drop {w : World} {b off n c : Nat} {l : List (Int × Int)} (h : HB w (.slice (some ⟨b, off, none⟩) n c) l) (k : Nat) (hk : k < n) : HB w (.slice (some ⟨b, off + k * 2, none⟩) (n - k) (c - k)) (l.drop k) := by
  obtain ⟨a', c', he, h1, h2, h3⟩ := h
  simp only [Value.slice.injEq] at he
  obtain ⟨rfl, rfl, rfl⟩ := he
  refine ⟨_, _, by rw [List.length_drop], ⟨by rw [List.length_drop]; omega, by simp⟩, by omega, fun _ => ⟨b, off + k * 2, rfl, fun i hi => ?_⟩⟩
  rw [List.length_drop] at hi
  obtain ⟨b', off', e, hc⟩ := h3 (by omega)
  simp only [Option.some.injEq, Addr.mk.injEq, and_true] at e
  obtain ⟨rfl, rfl⟩ := e
  obtain ⟨x0, x1⟩ := hc (k + i) (by omega)
  have e2 : (l.drop k).getD i (0, 0) = l.getD (k + i) (0, 0) := by simp [List.getD]
  rw [e2, show off + k * 2 + i * 2 = off + (k + i) * 2 by omega]
  exact ⟨x0, x1⟩
theorem hb_empty (w : World) (a : Option Addr) (c : Nat) (hc : c ≤ maxLen) (ha : a = none → c = 0) : HB w (.slice a 0 c) [] :=
  ⟨a, c, rfl, ⟨Nat.zero_le _, ha⟩, hc, fun h => absurd h (by simp)⟩
/-- slices.Concat of three. -/
theorem concat3 {w W : World} {g1 g2 k c : Nat} {a : Option Addr} {s3 : Value} {l : List (Int × Int)} {b : Int × Int} (hf : Fr w W []) (hk : k = placeB l b.1) (hl : l.length ≤ 1000) (h1 : HB w (.slice a k c) (l.take k)) (h3 : HB w s3 (l.drop k))
    (hb : W.heap[g1]? = some (bidBox b)) (hr : W.heap[g2]? = some (.cells #[.slice a k c, .slice (some ⟨g1, 0, none⟩) 1 1, s3] 38 (0, 0))) :
    Calls Try.prog 51 #[.slice (some ⟨g2, 0, none⟩) 3 3] W (Gives fun u w' => OwnB w' W.heap.size u (insB b l) ∧ Fr W w' []) := by
  have hB : HB W (.slice (some ⟨g1, 0, none⟩) 1 1) [b] := hb_of_cells rfl (by decide) hb
  have hcat : catL [(.slice a k c, l.take k), (.slice (some ⟨g1, 0, none⟩) 1 1, [b]), (s3, l.drop k)] = insB b l := by
    rw [insB_split, ← hk]; simp [catL]
  have ht : totL [(.slice a k c, l.take k), (.slice (some ⟨g1, 0, none⟩) 1 1, [b]), (s3, l.drop k)] = (insB b l).length := by rw [← catL_len, hcat]
  rw [insB_length] at ht
  have := concat_any g2 [(.slice a k c, l.take k), (.slice (some ⟨g1, 0, none⟩) 1 1, [b]), (s3, l.drop k)] W (by simp) (by rw [ht]; omega)
    (fun i hi => by
      rw [cell_of_row _ _ _ _ _ _ hr]
      match i, hi with
      | 0, _ => rfl
      | 1, _ => rfl
      | 2, _ => rfl
      | i + 3, hi => exact absurd hi (by simp))
    (fun i hi => by
      match i, hi with
      | 0, _ => exact h1.keep hf
      | 1, _ => exact hB
      | 2, _ => exact h3.keep hf
      | i + 3, hi => exact absurd hi (by simp))
  rw [hcat] at this
  exact this
set_option maxHeartbeats 4000000 in
set_option maxRecDepth 100000 in
theorem bput_own (v : Value) (l : List (Int × Int)) (b : Int × Int) (w : World) (h : HB w v l) (hl : l.length ≤ 1000) (r : Bool) (hr : r = (bidOf l b.1).isNone) :
    Calls Try.prog 32 #[v, bidV b] w fun x w' => ∃ u, x = .returned (.tuple #[u, .bool r]) ∧ OwnB w' w.heap.size u (putB l b) ∧ Fr w w' [] := by
  obtain ⟨i0, hi0, hz0, hz1, hz2⟩ := info_parts infoB
  have OFF := Lib.hid (fun W (hW : Fr w W []) y r hy => bof_any v l b.1 W (h.keep hW) hl y r hy)
  have PLA := Lib.hid (fun W (hW : Fr w W []) => place_any v l b.1 W (h.keep hW) (by omega) _ rfl)
  have HLV := Lib.hid h
  obtain ⟨a, c, rfl, p1, q1, r1⟩ := h
  unfold maxLen at q1
  obtain ⟨n, hn⟩ : ∃ n, n = l.length := ⟨_, rfl⟩
  have HN := Lib.hid hn
  obtain ⟨k, hk⟩ : ∃ k, k = placeB l b.1 := ⟨_, rfl⟩
  have HK := Lib.hid hk
  have hkn : k ≤ n := by rw [hk, hn]; exact placeB_le _ _
  rw [← hk] at PLA
  have HLN := Lib.hid hl
  rw [← hn] at hl p1 r1
  have HLS := Lib.hid r1
  have HR := Lib.hid hr
  have O0 := Lib.hid (show OF w b _ from ⟨Fr.alloc w (bidBox b) [], heap_alloc_new w _⟩)
  clear r1 hk hr
  rw [← hn] at OFF PLA HLV ⊢
  clear hn
  obtain ⟨ba, bb⟩ := b
  dsimp only [bidV, bidBox] at *
  obtain ⟨y0, y1⟩ := brow O0.out.2
  cases hbo : bidOf l ba with
  | some y =>
    have HPU : Hid (putB l (ba, bb) = l ∧ r = false) := by
      show _ ∧ _
      refine ⟨?_, by rw [HR.out, hbo]; rfl⟩
      unfold putB
      dsimp only
      rw [hbo]
      rfl
    have OF1 := Lib.hid (OFF.out _ O0.out.1 y true (.inl ⟨hbo, rfl⟩))
    have h0 : 0 < n := by
      rw [HN.out]
      exact List.length_pos_of_mem (bidOf_car hbo).2
    obtain ⟨bk, off, rfl, _⟩ := HLS.out h0
    obtain ⟨ya, yb⟩ := y
    clear hbo PLA OFF HLS
    dsimp only [bidV] at *
    go_enter Try.func32, Try.ntmps32
    go_wp2_with fail
    with_reducible refine (OF1.out).mono ?_
    rintro e w1 ⟨rfl, hf⟩
    have O2 := Lib.hid ((O0.out.fr hf).fr (Fr.alloc w1 (bidBox (ya, yb)) []))
    have HCE := Lib.hid (fun (W : World) (hW : Fr w W []) => (HLV.out.keep hW).args)
    have HSZ := Lib.hid (show w.heap.size ≤ w1.heap.size from (O0.out.fr hf).1.size)
    dsimp only [bidBox] at O2
    clear hf y0 y1 OF1
    go_wp2_with (at_builtin; refine wpList_append_own _ rfl _ _ 38 rfl w.heap.size 42 i0 (.agg #[.int .i64 0, .int .i64 0]) 2 16 Try.underlying38 hi0 hz0 hz1 hz2 rfl (by decide) (.slice none 0 0) 0 [] rfl (OwnB.nil _ w.heap.size) ⟨bk, off, none⟩ n c (bdc l) rfl (by rw [bdc_len, HN.out]) (HCE.out _ O2.out.1) (bdc_one l) (by unfold maxLen; omega) (by omega) O2.out.1.size ?_; intro v' w3 hown3 hg3 _)
    have HO3 : Hid (OwnB w3 w.heap.size v' l ∧ Fr w w3 []) := by
      refine Lib.hid ⟨?_, O2.out.1.trans (Fr.of_grown hg3 [])⟩
      unfold OwnB
      rw [← HN.out]
      simpa using hown3
    clear hown3 hg3
    go_wp2
    go_ret2
    refine ⟨_, by rw [HPU.out.2]; rfl, ?_, HO3.out.2⟩
    rw [HPU.out.1]
    exact HO3.out.1
  | none =>
    have HPU : Hid (putB l (ba, bb) = insB (ba, bb) l ∧ r = true) := by
      show _ ∧ _
      refine ⟨?_, by rw [HR.out, hbo]; rfl⟩
      unfold putB
      dsimp only
      rw [hbo]
      rfl
    have OF1 := Lib.hid (OFF.out _ O0.out.1 (0, 0) false (.inr ⟨hbo, rfl, rfl⟩))
    have HLV2 : Hid (HB w (.slice a l.length c) l) := by rw [← HN.out]; exact HLV
    have HTK := Lib.hid (HLV2.out.cut k (by have := HN.out; omega))
    clear hbo OFF
    dsimp only [bidV] at *
    go_enter Try.func32, Try.ntmps32
    go_wp2_with fail
    with_reducible refine (OF1.out).mono ?_
    rintro e w1 ⟨rfl, hf⟩
    have O2 := Lib.hid ((O0.out.fr hf).fr (Fr.alloc w1 (bidBox (0, 0)) []))
    have PL1 := Lib.hid (PLA.out _ O2.out.1)
    dsimp only [bidBox] at O2 PL1
    obtain ⟨y0, y1⟩ := brow O2.out.2
    clear hf PLA OF1
    go_wp2_with fail
    with_reducible refine (PL1.out).mono ?_
    rintro e w2 ⟨rfl, hf⟩
    have O3 := Lib.hid (O2.out.fr hf)
    have hkc : k ≤ c := by omega
    clear hf PL1 y0 y1
    obtain ⟨y0, y1⟩ := brow O3.out.2
    have HSI := Lib.hid (show SB1 w.heap.size (ba, bb) w2.drew from ⟨y0, y1⟩)
    have F3 := Lib.hid (O3.out.1.trans (Fr.drew w2 []))
    have HSZ := Lib.hid O3.out.1.size
    clear y0 y1 O0 O2
    by_cases hlt : k < n
    · obtain ⟨bk, off, rfl, _⟩ := HLS.out (by omega)
      have hck : ¬ c = k := by omega
      have hck2 : ¬ (c : Int) = (k : Int) := by omega
      have H3 := Lib.hid (HLV.out.drop k hlt)
      go_wp2_with fail
      refine wp_region_noPanic ?_
      refine wp_region_held_drew (S := (SB1 w.heap.size (ba, bb))) (by kernel_rfl) HSI.out (fun hHeld => ?_)
      refine wpAnyH_take (i := 0) (oi := _) (v := ?fv0h1n2) (by simp only [List.getElem?_toArray, List.getElem?_cons_zero]; rfl) (by kernel_rfl) (by kernel_rfl) (by kernel_rfl) (fun _ _ _ h => h) (Or.inl ⟨by rfl, ?fy0h1n2⟩) (by assumption) ?fr0h1n2
      case fy0h1n2 => (intro w hSw; (try dsimp only [SB1] at hSw); go_simp; try with_reducible rfl)
      try simp only [Act.put, List.setIfInBounds_toArray, List.set_cons_zero, List.set_cons_succ]
      refine wpAnyH_take (i := 1) (oi := _) (v := ?fv1h1n2) (by simp only [List.getElem?_toArray, List.getElem?_cons_zero, List.getElem?_cons_succ]; rfl) (by kernel_rfl) (by kernel_rfl) (by kernel_rfl) (fun _ _ _ h => h) (Or.inl ⟨by rfl, ?fy1h1n2⟩) (by assumption) ?fr1h1n2
      case fy1h1n2 => (intro w hSw; (try dsimp only [SB1] at hSw); go_simp; try with_reducible rfl)
      try simp only [Act.put, List.setIfInBounds_toArray, List.set_cons_zero, List.set_cons_succ]
      refine wpAnyH_take (i := 2) (oi := _) (v := ?fv2h1n2) (by simp only [List.getElem?_toArray, List.getElem?_cons_zero, List.getElem?_cons_succ]; rfl) (by kernel_rfl) (by kernel_rfl) (by kernel_rfl) (fun _ _ _ h => h) (Or.inl ⟨by rfl, ?fy2h1n2⟩) (by assumption) ?fr2h1n2
      case fy2h1n2 => (intro w hSw; (try dsimp only [SB1] at hSw); go_simp; try with_reducible rfl)
      try simp only [Act.put, List.setIfInBounds_toArray, List.set_cons_zero, List.set_cons_succ]
      refine wpAnyH_take (i := 3) (oi := _) (v := ?fv3h1n2) (by simp only [List.getElem?_toArray, List.getElem?_cons_zero, List.getElem?_cons_succ]; rfl) (by kernel_rfl) (by kernel_rfl) (by kernel_rfl) (fun _ _ _ h => h) (Or.inl ⟨by rfl, ?fy3h1n2⟩) (by assumption) ?fr3h1n2
      case fy3h1n2 => (intro w hSw; (try dsimp only [SB1] at hSw); go_simp; try with_reducible rfl)
      try simp only [Act.put, List.setIfInBounds_toArray, List.set_cons_zero, List.set_cons_succ]
      refine wpAnyH_take (i := 5) (oi := _) (v := ?fv5h1n2) (by simp only [List.getElem?_toArray, List.getElem?_cons_zero, List.getElem?_cons_succ]; rfl) (by kernel_rfl) (by kernel_rfl) (by kernel_rfl) (fun _ _ _ h => h) (Or.inl ⟨by rfl, ?fy5h1n2⟩) (by assumption) ?fr5h1n2
      case fy5h1n2 => (intro w hSw; (try dsimp only [SB1] at hSw); go_simp; try with_reducible rfl)
      try simp only [Act.put, List.setIfInBounds_toArray, List.set_cons_zero, List.set_cons_succ]
      refine wpAnyH_take (i := 6) (oi := _) (v := ?fv6h1n2) (by simp only [List.getElem?_toArray, List.getElem?_cons_zero, List.getElem?_cons_succ]; rfl) (by kernel_rfl) (by kernel_rfl) (by kernel_rfl) (fun _ _ _ h => h) (Or.inl ⟨by rfl, ?fy6h1n2⟩) (by assumption) ?fr6h1n2
      case fy6h1n2 => (intro w hSw; (try dsimp only [SB1] at hSw); go_simp; try with_reducible rfl)
      try simp only [Act.put, List.setIfInBounds_toArray, List.set_cons_zero, List.set_cons_succ]
      refine wpAnyH_take (i := 7) (oi := _) (v := ?fv7h1n2) (by simp only [List.getElem?_toArray, List.getElem?_cons_zero, List.getElem?_cons_succ]; rfl) (by kernel_rfl) (by kernel_rfl) (by kernel_rfl) (fun _ _ _ h => h) (Or.inl ⟨by rfl, ?fy7h1n2⟩) (by assumption) ?fr7h1n2
      case fy7h1n2 => (intro w hSw; (try dsimp only [SB1] at hSw); go_simp; try with_reducible rfl)
      try simp only [Act.put, List.setIfInBounds_toArray, List.set_cons_zero, List.set_cons_succ]
      refine wpAnyH_ready (rs := [4]) (by kernel_rfl) (by simp) ?_
      refine AllReadyH.cons (o := _) rfl (fun K hK => ?_) AllReadyH.nil
      go_simp
      have hS1 := SB1.fr (a := w2) (a' := (w2.alloc (.cells #[.int .i64 ba, .int .i64 bb] 42)).drew) HSI.out ((Fr.alloc w2 (.cells #[.int .i64 ba, .int .i64 bb] 42) []).trans (Fr.drew _ [])) (by simp)
      refine hK.out _ _ hS1 (fun hHeld => ?_)
      clear hK K
      try simp only [Act.put, List.setIfInBounds_toArray, List.set_cons_zero, List.set_cons_succ]
      refine wpAnyH_ready (rs := [8]) (by kernel_rfl) (by simp) ?_
      refine AllReadyH.cons (o := _) rfl (fun K hK => ?_) AllReadyH.nil
      go_simp
      have HFF := Lib.hid (show Fr w2 ((w2.alloc (.cells #[.int .i64 ba, .int .i64 bb] 42)).alloc (.cells #[.slice (some ⟨bk, off, none⟩) k c, .slice (some ⟨w2.heap.size, 0, none⟩) 1 1, .slice (some ⟨bk, off + k * 2, none⟩) (n - k) (c - k)] 38)).drew [] from ((Fr.alloc w2 _ []).trans (Fr.alloc _ _ [])).trans (Fr.drew _ []))
      have hS2 := SB1.fr (a := w2) HSI.out HFF.out (by simp)
      refine hK.out _ _ hS2 (fun hHeld => ?_)
      clear hK K
      try simp only [Act.put, List.setIfInBounds_toArray, List.set_cons_zero, List.set_cons_succ]
      refine wpAnyH_ready (rs := [9]) (by kernel_rfl) (by simp) ?_
      refine AllReadyH.cons (o := _) rfl (fun K hK => ?_) AllReadyH.nil
      go_simp
      have HR1 := Lib.hid (show ((w2.alloc (.cells #[.int .i64 ba, .int .i64 bb] 42)).alloc (.cells #[.slice (some ⟨bk, off, none⟩) k c, .slice (some ⟨w2.heap.size, 0, none⟩) 1 1, .slice (some ⟨bk, off + k * 2, none⟩) (n - k) (c - k)] 38)).drew.heap[w2.heap.size]? = some (bidBox (ba, bb)) from (Fr.alloc _ _ []).heap (heap_alloc_new w2 (bidBox (ba, bb))) (by simp))
      have HR2 := Lib.hid (show ((w2.alloc (.cells #[.int .i64 ba, .int .i64 bb] 42)).alloc (.cells #[.slice (some ⟨bk, off, none⟩) k c, .slice (some ⟨w2.heap.size, 0, none⟩) 1 1, .slice (some ⟨bk, off + k * 2, none⟩) (n - k) (c - k)] 38)).drew.heap[w2.heap.size + 1]? = some (.cells #[.slice (some ⟨bk, off, none⟩) k c, .slice (some ⟨w2.heap.size, 0, none⟩) 1 1, .slice (some ⟨bk, off + k * 2, none⟩) (n - k) (c - k)] 38 (0, 0)) by
        have := heap_alloc_new (w2.alloc (.cells #[.int .i64 ba, .int .i64 bb] 42)) (.cells #[.slice (some ⟨bk, off, none⟩) k c, .slice (some ⟨w2.heap.size, 0, none⟩) 1 1, .slice (some ⟨bk, off + k * 2, none⟩) (n - k) (c - k)] 38)
        rw [show (w2.alloc (.cells #[.int .i64 ba, .int .i64 bb] 42)).heap.size = w2.heap.size + 1 by simp] at this
        exact this)
      have HCC := Lib.hid (concat3 (O3.out.1.trans HFF.out) HK.out HLN.out HTK.out H3.out HR1.out HR2.out)
      ((with_reducible refine (HCC.out).mono ?_); rintro e w4 ⟨u, rfl, ho, hf⟩; have hT := hHeld.fr hf (by simp); have HO := Lib.hid (OwnB.mono ho (Nat.le_trans HSZ.out HFF.out.size)); have HF := Lib.hid ((O3.out.1.trans HFF.out).trans hf); clear ho hf HCC)
      go_wp2_with fail
      refine hK.out _ _ hT (fun hHeld => ?_)
      clear hK K
      try simp only [Act.put, List.setIfInBounds_toArray, List.set_cons_zero, List.set_cons_succ]
      refine wpAnyH_take (i := 10) (oi := _) (v := ?fv10h1n3) (by simp only [List.getElem?_toArray, List.getElem?_cons_zero, List.getElem?_cons_succ]; rfl) (by kernel_rfl) (by kernel_rfl) (by kernel_rfl) (fun _ _ _ h => h) (Or.inl ⟨by rfl, ?fy10h1n3⟩) (by assumption) ?fr10h1n3
      case fy10h1n3 => (intro w hSw; (try dsimp only [SB1] at hSw); go_simp; try with_reducible rfl)
      try simp only [Act.put, List.setIfInBounds_toArray, List.set_cons_zero, List.set_cons_succ]
      refine wpAnyH_take (i := 11) (oi := _) (v := ?fv11h1n3) (by simp only [List.getElem?_toArray, List.getElem?_cons_zero, List.getElem?_cons_succ]; rfl) (by kernel_rfl) (by kernel_rfl) (by kernel_rfl) (fun _ _ _ h => h) (Or.inl ⟨by rfl, ?fy11h1n3⟩) (by assumption) ?fr11h1n3
      case fy11h1n3 => (intro w hSw; (try dsimp only [SB1] at hSw); go_simp; try with_reducible rfl)
      try simp only [Act.put, List.setIfInBounds_toArray, List.set_cons_zero, List.set_cons_succ]
      refine wpAnyH_done (by kernel_rfl) ?_ _
      refine NoPanic.normal ?_
      go_wp2
      go_ret2
      refine ⟨_, by rw [HPU.out.2]; rfl, ?_, HF.out⟩
      rw [HPU.out.1]
      exact HO.out
    · obtain rfl : k = n := by omega
      have HDR : Hid (l.drop k = []) := by show _ = _; rw [HN.out]; exact List.drop_length
      cases a with
      | none =>
        obtain rfl : c = 0 := p1.2 rfl
        obtain rfl : k = 0 := by omega
        have H3 : Hid (HB w (.slice none 0 0) (l.drop 0)) := by rw [HDR.out]; exact Lib.hid nil_bids
        go_wp2_with fail
        refine wp_region_noPanic ?_
        refine wp_region_held_drew (S := (SB1 w.heap.size (ba, bb))) (by kernel_rfl) HSI.out (fun hHeld => ?_)
        refine wpAnyH_take (i := 0) (oi := _) (v := ?fv0h4n5) (by simp only [List.getElem?_toArray, List.getElem?_cons_zero]; rfl) (by kernel_rfl) (by kernel_rfl) (by kernel_rfl) (fun _ _ _ h => h) (Or.inl ⟨by rfl, ?fy0h4n5⟩) (by assumption) ?fr0h4n5
        case fy0h4n5 => (intro w hSw; (try dsimp only [SB1] at hSw); go_simp; try with_reducible rfl)
        try simp only [Act.put, List.setIfInBounds_toArray, List.set_cons_zero, List.set_cons_succ]
        refine wpAnyH_take (i := 1) (oi := _) (v := ?fv1h4n5) (by simp only [List.getElem?_toArray, List.getElem?_cons_zero, List.getElem?_cons_succ]; rfl) (by kernel_rfl) (by kernel_rfl) (by kernel_rfl) (fun _ _ _ h => h) (Or.inl ⟨by rfl, ?fy1h4n5⟩) (by assumption) ?fr1h4n5
        case fy1h4n5 => (intro w hSw; (try dsimp only [SB1] at hSw); go_simp; try with_reducible rfl)
        try simp only [Act.put, List.setIfInBounds_toArray, List.set_cons_zero, List.set_cons_succ]
        refine wpAnyH_take (i := 2) (oi := _) (v := ?fv2h4n5) (by simp only [List.getElem?_toArray, List.getElem?_cons_zero, List.getElem?_cons_succ]; rfl) (by kernel_rfl) (by kernel_rfl) (by kernel_rfl) (fun _ _ _ h => h) (Or.inl ⟨by rfl, ?fy2h4n5⟩) (by assumption) ?fr2h4n5
        case fy2h4n5 => (intro w hSw; (try dsimp only [SB1] at hSw); go_simp; try with_reducible rfl)
        try simp only [Act.put, List.setIfInBounds_toArray, List.set_cons_zero, List.set_cons_succ]
        refine wpAnyH_take (i := 3) (oi := _) (v := ?fv3h4n5) (by simp only [List.getElem?_toArray, List.getElem?_cons_zero, List.getElem?_cons_succ]; rfl) (by kernel_rfl) (by kernel_rfl) (by kernel_rfl) (fun _ _ _ h => h) (Or.inl ⟨by rfl, ?fy3h4n5⟩) (by assumption) ?fr3h4n5
        case fy3h4n5 => (intro w hSw; (try dsimp only [SB1] at hSw); go_simp; try with_reducible rfl)
        try simp only [Act.put, List.setIfInBounds_toArray, List.set_cons_zero, List.set_cons_succ]
        refine wpAnyH_take (i := 5) (oi := _) (v := ?fv5h4n5) (by simp only [List.getElem?_toArray, List.getElem?_cons_zero, List.getElem?_cons_succ]; rfl) (by kernel_rfl) (by kernel_rfl) (by kernel_rfl) (fun _ _ _ h => h) (Or.inl ⟨by rfl, ?fy5h4n5⟩) (by assumption) ?fr5h4n5
        case fy5h4n5 => (intro w hSw; (try dsimp only [SB1] at hSw); go_simp; try with_reducible rfl)
        try simp only [Act.put, List.setIfInBounds_toArray, List.set_cons_zero, List.set_cons_succ]
        refine wpAnyH_take (i := 6) (oi := _) (v := ?fv6h4n5) (by simp only [List.getElem?_toArray, List.getElem?_cons_zero, List.getElem?_cons_succ]; rfl) (by kernel_rfl) (by kernel_rfl) (by kernel_rfl) (fun _ _ _ h => h) (Or.inl ⟨by rfl, ?fy6h4n5⟩) (by assumption) ?fr6h4n5
        case fy6h4n5 => (intro w hSw; (try dsimp only [SB1] at hSw); go_simp; try with_reducible rfl)
        try simp only [Act.put, List.setIfInBounds_toArray, List.set_cons_zero, List.set_cons_succ]
        refine wpAnyH_take (i := 7) (oi := _) (v := ?fv7h4n5) (by simp only [List.getElem?_toArray, List.getElem?_cons_zero, List.getElem?_cons_succ]; rfl) (by kernel_rfl) (by kernel_rfl) (by kernel_rfl) (fun _ _ _ h => h) (Or.inl ⟨by rfl, ?fy7h4n5⟩) (by assumption) ?fr7h4n5
        case fy7h4n5 => (intro w hSw; (try dsimp only [SB1] at hSw); go_simp; try with_reducible rfl)
        try simp only [Act.put, List.setIfInBounds_toArray, List.set_cons_zero, List.set_cons_succ]
        refine wpAnyH_ready (rs := [4]) (by kernel_rfl) (by simp) ?_
        refine AllReadyH.cons (o := _) rfl (fun K hK => ?_) AllReadyH.nil
        go_simp
        have hS1 := SB1.fr (a := w2) (a' := (w2.alloc (.cells #[.int .i64 ba, .int .i64 bb] 42)).drew) HSI.out ((Fr.alloc w2 (.cells #[.int .i64 ba, .int .i64 bb] 42) []).trans (Fr.drew _ [])) (by simp)
        refine hK.out _ _ hS1 (fun hHeld => ?_)
        clear hK K
        try simp only [Act.put, List.setIfInBounds_toArray, List.set_cons_zero, List.set_cons_succ]
        refine wpAnyH_ready (rs := [8]) (by kernel_rfl) (by simp) ?_
        refine AllReadyH.cons (o := _) rfl (fun K hK => ?_) AllReadyH.nil
        go_simp
        have HFF := Lib.hid (show Fr w2 ((w2.alloc (.cells #[.int .i64 ba, .int .i64 bb] 42)).alloc (.cells #[.slice none 0 0, .slice (some ⟨w2.heap.size, 0, none⟩) 1 1, .slice none 0 0] 38)).drew [] from ((Fr.alloc w2 _ []).trans (Fr.alloc _ _ [])).trans (Fr.drew _ []))
        have hS2 := SB1.fr (a := w2) HSI.out HFF.out (by simp)
        refine hK.out _ _ hS2 (fun hHeld => ?_)
        clear hK K
        try simp only [Act.put, List.setIfInBounds_toArray, List.set_cons_zero, List.set_cons_succ]
        refine wpAnyH_ready (rs := [9]) (by kernel_rfl) (by simp) ?_
        refine AllReadyH.cons (o := _) rfl (fun K hK => ?_) AllReadyH.nil
        go_simp
        have HR1 := Lib.hid (show ((w2.alloc (.cells #[.int .i64 ba, .int .i64 bb] 42)).alloc (.cells #[.slice none 0 0, .slice (some ⟨w2.heap.size, 0, none⟩) 1 1, .slice none 0 0] 38)).drew.heap[w2.heap.size]? = some (bidBox (ba, bb)) from (Fr.alloc _ _ []).heap (heap_alloc_new w2 (bidBox (ba, bb))) (by simp))
        have HR2 := Lib.hid (show ((w2.alloc (.cells #[.int .i64 ba, .int .i64 bb] 42)).alloc (.cells #[.slice none 0 0, .slice (some ⟨w2.heap.size, 0, none⟩) 1 1, .slice none 0 0] 38)).drew.heap[w2.heap.size + 1]? = some (.cells #[.slice none 0 0, .slice (some ⟨w2.heap.size, 0, none⟩) 1 1, .slice none 0 0] 38 (0, 0)) by
          have := heap_alloc_new (w2.alloc (.cells #[.int .i64 ba, .int .i64 bb] 42)) (.cells #[.slice none 0 0, .slice (some ⟨w2.heap.size, 0, none⟩) 1 1, .slice none 0 0] 38)
          rw [show (w2.alloc (.cells #[.int .i64 ba, .int .i64 bb] 42)).heap.size = w2.heap.size + 1 by simp] at this
          exact this)
        have HCC := Lib.hid (concat3 (O3.out.1.trans HFF.out) HK.out HLN.out HTK.out H3.out HR1.out HR2.out)
        ((with_reducible refine (HCC.out).mono ?_); rintro e w4 ⟨u, rfl, ho, hf⟩; have hT := hHeld.fr hf (by simp); have HO := Lib.hid (OwnB.mono ho (Nat.le_trans HSZ.out HFF.out.size)); have HF := Lib.hid ((O3.out.1.trans HFF.out).trans hf); clear ho hf HCC)
        go_wp2_with fail
        refine hK.out _ _ hT (fun hHeld => ?_)
        clear hK K
        try simp only [Act.put, List.setIfInBounds_toArray, List.set_cons_zero, List.set_cons_succ]
        refine wpAnyH_take (i := 10) (oi := _) (v := ?fv10h4n6) (by simp only [List.getElem?_toArray, List.getElem?_cons_zero, List.getElem?_cons_succ]; rfl) (by kernel_rfl) (by kernel_rfl) (by kernel_rfl) (fun _ _ _ h => h) (Or.inl ⟨by rfl, ?fy10h4n6⟩) (by assumption) ?fr10h4n6
        case fy10h4n6 => (intro w hSw; (try dsimp only [SB1] at hSw); go_simp; try with_reducible rfl)
        try simp only [Act.put, List.setIfInBounds_toArray, List.set_cons_zero, List.set_cons_succ]
        refine wpAnyH_take (i := 11) (oi := _) (v := ?fv11h4n6) (by simp only [List.getElem?_toArray, List.getElem?_cons_zero, List.getElem?_cons_succ]; rfl) (by kernel_rfl) (by kernel_rfl) (by kernel_rfl) (fun _ _ _ h => h) (Or.inl ⟨by rfl, ?fy11h4n6⟩) (by assumption) ?fr11h4n6
        case fy11h4n6 => (intro w hSw; (try dsimp only [SB1] at hSw); go_simp; try with_reducible rfl)
        try simp only [Act.put, List.setIfInBounds_toArray, List.set_cons_zero, List.set_cons_succ]
        refine wpAnyH_done (by kernel_rfl) ?_ _
        refine NoPanic.normal ?_
        go_wp2
        go_ret2
        refine ⟨_, by rw [HPU.out.2]; rfl, ?_, HF.out⟩
        rw [HPU.out.1]
        exact HO.out
      | some ad =>
        obtain ⟨bk, off, sp⟩ := ad
        by_cases hck : c = k
        · subst hck
          have H3 : Hid (HB w (.slice (some ⟨bk, off, sp⟩) 0 0) (l.drop c)) := by rw [HDR.out]; exact Lib.hid (hb_empty w _ _ (by decide) (by simp))
          go_wp2_with fail
          refine wp_region_noPanic ?_
          refine wp_region_held_drew (S := (SB1 w.heap.size (ba, bb))) (by kernel_rfl) HSI.out (fun hHeld => ?_)
          refine wpAnyH_take (i := 0) (oi := _) (v := ?fv0h7n8) (by simp only [List.getElem?_toArray, List.getElem?_cons_zero]; rfl) (by kernel_rfl) (by kernel_rfl) (by kernel_rfl) (fun _ _ _ h => h) (Or.inl ⟨by rfl, ?fy0h7n8⟩) (by assumption) ?fr0h7n8
          case fy0h7n8 => (intro w hSw; (try dsimp only [SB1] at hSw); go_simp; try with_reducible rfl)
          try simp only [Act.put, List.setIfInBounds_toArray, List.set_cons_zero, List.set_cons_succ]
          refine wpAnyH_take (i := 1) (oi := _) (v := ?fv1h7n8) (by simp only [List.getElem?_toArray, List.getElem?_cons_zero, List.getElem?_cons_succ]; rfl) (by kernel_rfl) (by kernel_rfl) (by kernel_rfl) (fun _ _ _ h => h) (Or.inl ⟨by rfl, ?fy1h7n8⟩) (by assumption) ?fr1h7n8
          case fy1h7n8 => (intro w hSw; (try dsimp only [SB1] at hSw); go_simp; try with_reducible rfl)
          try simp only [Act.put, List.setIfInBounds_toArray, List.set_cons_zero, List.set_cons_succ]
          refine wpAnyH_take (i := 2) (oi := _) (v := ?fv2h7n8) (by simp only [List.getElem?_toArray, List.getElem?_cons_zero, List.getElem?_cons_succ]; rfl) (by kernel_rfl) (by kernel_rfl) (by kernel_rfl) (fun _ _ _ h => h) (Or.inl ⟨by rfl, ?fy2h7n8⟩) (by assumption) ?fr2h7n8
          case fy2h7n8 => (intro w hSw; (try dsimp only [SB1] at hSw); go_simp; try with_reducible rfl)
          try simp only [Act.put, List.setIfInBounds_toArray, List.set_cons_zero, List.set_cons_succ]
          refine wpAnyH_take (i := 3) (oi := _) (v := ?fv3h7n8) (by simp only [List.getElem?_toArray, List.getElem?_cons_zero, List.getElem?_cons_succ]; rfl) (by kernel_rfl) (by kernel_rfl) (by kernel_rfl) (fun _ _ _ h => h) (Or.inl ⟨by rfl, ?fy3h7n8⟩) (by assumption) ?fr3h7n8
          case fy3h7n8 => (intro w hSw; (try dsimp only [SB1] at hSw); go_simp; try with_reducible rfl)
          try simp only [Act.put, List.setIfInBounds_toArray, List.set_cons_zero, List.set_cons_succ]
          refine wpAnyH_take (i := 5) (oi := _) (v := ?fv5h7n8) (by simp only [List.getElem?_toArray, List.getElem?_cons_zero, List.getElem?_cons_succ]; rfl) (by kernel_rfl) (by kernel_rfl) (by kernel_rfl) (fun _ _ _ h => h) (Or.inl ⟨by rfl, ?fy5h7n8⟩) (by assumption) ?fr5h7n8
          case fy5h7n8 => (intro w hSw; (try dsimp only [SB1] at hSw); go_simp; try with_reducible rfl)
          try simp only [Act.put, List.setIfInBounds_toArray, List.set_cons_zero, List.set_cons_succ]
          refine wpAnyH_take (i := 6) (oi := _) (v := ?fv6h7n8) (by simp only [List.getElem?_toArray, List.getElem?_cons_zero, List.getElem?_cons_succ]; rfl) (by kernel_rfl) (by kernel_rfl) (by kernel_rfl) (fun _ _ _ h => h) (Or.inl ⟨by rfl, ?fy6h7n8⟩) (by assumption) ?fr6h7n8
          case fy6h7n8 => (intro w hSw; (try dsimp only [SB1] at hSw); go_simp; try with_reducible rfl)
          try simp only [Act.put, List.setIfInBounds_toArray, List.set_cons_zero, List.set_cons_succ]
          refine wpAnyH_take (i := 7) (oi := _) (v := ?fv7h7n8) (by simp only [List.getElem?_toArray, List.getElem?_cons_zero, List.getElem?_cons_succ]; rfl) (by kernel_rfl) (by kernel_rfl) (by kernel_rfl) (fun _ _ _ h => h) (Or.inl ⟨by rfl, ?fy7h7n8⟩) (by assumption) ?fr7h7n8
          case fy7h7n8 => (intro w hSw; (try dsimp only [SB1] at hSw); go_simp; try with_reducible rfl)
          try simp only [Act.put, List.setIfInBounds_toArray, List.set_cons_zero, List.set_cons_succ]
          refine wpAnyH_ready (rs := [4]) (by kernel_rfl) (by simp) ?_
          refine AllReadyH.cons (o := _) rfl (fun K hK => ?_) AllReadyH.nil
          go_simp
          have hS1 := SB1.fr (a := w2) (a' := (w2.alloc (.cells #[.int .i64 ba, .int .i64 bb] 42)).drew) HSI.out ((Fr.alloc w2 (.cells #[.int .i64 ba, .int .i64 bb] 42) []).trans (Fr.drew _ [])) (by simp)
          refine hK.out _ _ hS1 (fun hHeld => ?_)
          clear hK K
          try simp only [Act.put, List.setIfInBounds_toArray, List.set_cons_zero, List.set_cons_succ]
          refine wpAnyH_ready (rs := [8]) (by kernel_rfl) (by simp) ?_
          refine AllReadyH.cons (o := _) rfl (fun K hK => ?_) AllReadyH.nil
          go_simp
          have HFF := Lib.hid (show Fr w2 ((w2.alloc (.cells #[.int .i64 ba, .int .i64 bb] 42)).alloc (.cells #[.slice (some ⟨bk, off, sp⟩) c c, .slice (some ⟨w2.heap.size, 0, none⟩) 1 1, .slice (some ⟨bk, off, sp⟩) 0 0] 38)).drew [] from ((Fr.alloc w2 _ []).trans (Fr.alloc _ _ [])).trans (Fr.drew _ []))
          have hS2 := SB1.fr (a := w2) HSI.out HFF.out (by simp)
          refine hK.out _ _ hS2 (fun hHeld => ?_)
          clear hK K
          try simp only [Act.put, List.setIfInBounds_toArray, List.set_cons_zero, List.set_cons_succ]
          refine wpAnyH_ready (rs := [9]) (by kernel_rfl) (by simp) ?_
          refine AllReadyH.cons (o := _) rfl (fun K hK => ?_) AllReadyH.nil
          go_simp
          have HR1 := Lib.hid (show ((w2.alloc (.cells #[.int .i64 ba, .int .i64 bb] 42)).alloc (.cells #[.slice (some ⟨bk, off, sp⟩) c c, .slice (some ⟨w2.heap.size, 0, none⟩) 1 1, .slice (some ⟨bk, off, sp⟩) 0 0] 38)).drew.heap[w2.heap.size]? = some (bidBox (ba, bb)) from (Fr.alloc _ _ []).heap (heap_alloc_new w2 (bidBox (ba, bb))) (by simp))
          have HR2 := Lib.hid (show ((w2.alloc (.cells #[.int .i64 ba, .int .i64 bb] 42)).alloc (.cells #[.slice (some ⟨bk, off, sp⟩) c c, .slice (some ⟨w2.heap.size, 0, none⟩) 1 1, .slice (some ⟨bk, off, sp⟩) 0 0] 38)).drew.heap[w2.heap.size + 1]? = some (.cells #[.slice (some ⟨bk, off, sp⟩) c c, .slice (some ⟨w2.heap.size, 0, none⟩) 1 1, .slice (some ⟨bk, off, sp⟩) 0 0] 38 (0, 0)) by
            have := heap_alloc_new (w2.alloc (.cells #[.int .i64 ba, .int .i64 bb] 42)) (.cells #[.slice (some ⟨bk, off, sp⟩) c c, .slice (some ⟨w2.heap.size, 0, none⟩) 1 1, .slice (some ⟨bk, off, sp⟩) 0 0] 38)
            rw [show (w2.alloc (.cells #[.int .i64 ba, .int .i64 bb] 42)).heap.size = w2.heap.size + 1 by simp] at this
            exact this)
          have HCC := Lib.hid (concat3 (O3.out.1.trans HFF.out) HK.out HLN.out HTK.out H3.out HR1.out HR2.out)
          ((with_reducible refine (HCC.out).mono ?_); rintro e w4 ⟨u, rfl, ho, hf⟩; have hT := hHeld.fr hf (by simp); have HO := Lib.hid (OwnB.mono ho (Nat.le_trans HSZ.out HFF.out.size)); have HF := Lib.hid ((O3.out.1.trans HFF.out).trans hf); clear ho hf HCC)
          go_wp2_with fail
          refine hK.out _ _ hT (fun hHeld => ?_)
          clear hK K
          try simp only [Act.put, List.setIfInBounds_toArray, List.set_cons_zero, List.set_cons_succ]
          refine wpAnyH_take (i := 10) (oi := _) (v := ?fv10h7n9) (by simp only [List.getElem?_toArray, List.getElem?_cons_zero, List.getElem?_cons_succ]; rfl) (by kernel_rfl) (by kernel_rfl) (by kernel_rfl) (fun _ _ _ h => h) (Or.inl ⟨by rfl, ?fy10h7n9⟩) (by assumption) ?fr10h7n9
          case fy10h7n9 => (intro w hSw; (try dsimp only [SB1] at hSw); go_simp; try with_reducible rfl)
          try simp only [Act.put, List.setIfInBounds_toArray, List.set_cons_zero, List.set_cons_succ]
          refine wpAnyH_take (i := 11) (oi := _) (v := ?fv11h7n9) (by simp only [List.getElem?_toArray, List.getElem?_cons_zero, List.getElem?_cons_succ]; rfl) (by kernel_rfl) (by kernel_rfl) (by kernel_rfl) (fun _ _ _ h => h) (Or.inl ⟨by rfl, ?fy11h7n9⟩) (by assumption) ?fr11h7n9
          case fy11h7n9 => (intro w hSw; (try dsimp only [SB1] at hSw); go_simp; try with_reducible rfl)
          try simp only [Act.put, List.setIfInBounds_toArray, List.set_cons_zero, List.set_cons_succ]
          refine wpAnyH_done (by kernel_rfl) ?_ _
          refine NoPanic.normal ?_
          go_wp2
          go_ret2
          refine ⟨_, by rw [HPU.out.2]; rfl, ?_, HF.out⟩
          rw [HPU.out.1]
          exact HO.out
        · have hck2 : ¬ (c : Int) = (k : Int) := by omega
          have H3 : Hid (HB w (.slice (some (Addr.add ⟨bk, off, sp⟩ (k * 2))) 0 (c - k)) (l.drop k)) := by rw [HDR.out]; exact Lib.hid (hb_empty w _ _ (by unfold maxLen; omega) (by simp))
          go_wp2_with fail
          refine wp_region_noPanic ?_
          refine wp_region_held_drew (S := (SB1 w.heap.size (ba, bb))) (by kernel_rfl) HSI.out (fun hHeld => ?_)
          refine wpAnyH_take (i := 0) (oi := _) (v := ?fv0h10n11) (by simp only [List.getElem?_toArray, List.getElem?_cons_zero]; rfl) (by kernel_rfl) (by kernel_rfl) (by kernel_rfl) (fun _ _ _ h => h) (Or.inl ⟨by rfl, ?fy0h10n11⟩) (by assumption) ?fr0h10n11
          case fy0h10n11 => (intro w hSw; (try dsimp only [SB1] at hSw); go_simp; try with_reducible rfl)
          try simp only [Act.put, List.setIfInBounds_toArray, List.set_cons_zero, List.set_cons_succ]
          refine wpAnyH_take (i := 1) (oi := _) (v := ?fv1h10n11) (by simp only [List.getElem?_toArray, List.getElem?_cons_zero, List.getElem?_cons_succ]; rfl) (by kernel_rfl) (by kernel_rfl) (by kernel_rfl) (fun _ _ _ h => h) (Or.inl ⟨by rfl, ?fy1h10n11⟩) (by assumption) ?fr1h10n11
          case fy1h10n11 => (intro w hSw; (try dsimp only [SB1] at hSw); go_simp; try with_reducible rfl)
          try simp only [Act.put, List.setIfInBounds_toArray, List.set_cons_zero, List.set_cons_succ]
          refine wpAnyH_take (i := 2) (oi := _) (v := ?fv2h10n11) (by simp only [List.getElem?_toArray, List.getElem?_cons_zero, List.getElem?_cons_succ]; rfl) (by kernel_rfl) (by kernel_rfl) (by kernel_rfl) (fun _ _ _ h => h) (Or.inl ⟨by rfl, ?fy2h10n11⟩) (by assumption) ?fr2h10n11
          case fy2h10n11 => (intro w hSw; (try dsimp only [SB1] at hSw); go_simp; try with_reducible rfl)
          try simp only [Act.put, List.setIfInBounds_toArray, List.set_cons_zero, List.set_cons_succ]
          refine wpAnyH_take (i := 3) (oi := _) (v := ?fv3h10n11) (by simp only [List.getElem?_toArray, List.getElem?_cons_zero, List.getElem?_cons_succ]; rfl) (by kernel_rfl) (by kernel_rfl) (by kernel_rfl) (fun _ _ _ h => h) (Or.inl ⟨by rfl, ?fy3h10n11⟩) (by assumption) ?fr3h10n11
          case fy3h10n11 => (intro w hSw; (try dsimp only [SB1] at hSw); go_simp; try with_reducible rfl)
          try simp only [Act.put, List.setIfInBounds_toArray, List.set_cons_zero, List.set_cons_succ]
          refine wpAnyH_take (i := 5) (oi := _) (v := ?fv5h10n11) (by simp only [List.getElem?_toArray, List.getElem?_cons_zero, List.getElem?_cons_succ]; rfl) (by kernel_rfl) (by kernel_rfl) (by kernel_rfl) (fun _ _ _ h => h) (Or.inl ⟨by rfl, ?fy5h10n11⟩) (by assumption) ?fr5h10n11
          case fy5h10n11 => (intro w hSw; (try dsimp only [SB1] at hSw); go_simp; try with_reducible rfl)
          try simp only [Act.put, List.setIfInBounds_toArray, List.set_cons_zero, List.set_cons_succ]
          refine wpAnyH_take (i := 6) (oi := _) (v := ?fv6h10n11) (by simp only [List.getElem?_toArray, List.getElem?_cons_zero, List.getElem?_cons_succ]; rfl) (by kernel_rfl) (by kernel_rfl) (by kernel_rfl) (fun _ _ _ h => h) (Or.inl ⟨by rfl, ?fy6h10n11⟩) (by assumption) ?fr6h10n11
          case fy6h10n11 => (intro w hSw; (try dsimp only [SB1] at hSw); go_simp; try with_reducible rfl)
          try simp only [Act.put, List.setIfInBounds_toArray, List.set_cons_zero, List.set_cons_succ]
          refine wpAnyH_take (i := 7) (oi := _) (v := ?fv7h10n11) (by simp only [List.getElem?_toArray, List.getElem?_cons_zero, List.getElem?_cons_succ]; rfl) (by kernel_rfl) (by kernel_rfl) (by kernel_rfl) (fun _ _ _ h => h) (Or.inl ⟨by rfl, ?fy7h10n11⟩) (by assumption) ?fr7h10n11
          case fy7h10n11 => (intro w hSw; (try dsimp only [SB1] at hSw); go_simp; try with_reducible rfl)
          try simp only [Act.put, List.setIfInBounds_toArray, List.set_cons_zero, List.set_cons_succ]
          refine wpAnyH_ready (rs := [4]) (by kernel_rfl) (by simp) ?_
          refine AllReadyH.cons (o := _) rfl (fun K hK => ?_) AllReadyH.nil
          go_simp
          have hS1 := SB1.fr (a := w2) (a' := (w2.alloc (.cells #[.int .i64 ba, .int .i64 bb] 42)).drew) HSI.out ((Fr.alloc w2 (.cells #[.int .i64 ba, .int .i64 bb] 42) []).trans (Fr.drew _ [])) (by simp)
          refine hK.out _ _ hS1 (fun hHeld => ?_)
          clear hK K
          try simp only [Act.put, List.setIfInBounds_toArray, List.set_cons_zero, List.set_cons_succ]
          refine wpAnyH_ready (rs := [8]) (by kernel_rfl) (by simp) ?_
          refine AllReadyH.cons (o := _) rfl (fun K hK => ?_) AllReadyH.nil
          go_simp
          have HFF := Lib.hid (show Fr w2 ((w2.alloc (.cells #[.int .i64 ba, .int .i64 bb] 42)).alloc (.cells #[.slice (some ⟨bk, off, sp⟩) k c, .slice (some ⟨w2.heap.size, 0, none⟩) 1 1, .slice (some (Addr.add ⟨bk, off, sp⟩ (k * 2))) 0 (c - k)] 38)).drew [] from ((Fr.alloc w2 _ []).trans (Fr.alloc _ _ [])).trans (Fr.drew _ []))
          have hS2 := SB1.fr (a := w2) HSI.out HFF.out (by simp)
          refine hK.out _ _ hS2 (fun hHeld => ?_)
          clear hK K
          try simp only [Act.put, List.setIfInBounds_toArray, List.set_cons_zero, List.set_cons_succ]
          refine wpAnyH_ready (rs := [9]) (by kernel_rfl) (by simp) ?_
          refine AllReadyH.cons (o := _) rfl (fun K hK => ?_) AllReadyH.nil
          go_simp
          have HR1 := Lib.hid (show ((w2.alloc (.cells #[.int .i64 ba, .int .i64 bb] 42)).alloc (.cells #[.slice (some ⟨bk, off, sp⟩) k c, .slice (some ⟨w2.heap.size, 0, none⟩) 1 1, .slice (some (Addr.add ⟨bk, off, sp⟩ (k * 2))) 0 (c - k)] 38)).drew.heap[w2.heap.size]? = some (bidBox (ba, bb)) from (Fr.alloc _ _ []).heap (heap_alloc_new w2 (bidBox (ba, bb))) (by simp))
          have HR2 := Lib.hid (show ((w2.alloc (.cells #[.int .i64 ba, .int .i64 bb] 42)).alloc (.cells #[.slice (some ⟨bk, off, sp⟩) k c, .slice (some ⟨w2.heap.size, 0, none⟩) 1 1, .slice (some (Addr.add ⟨bk, off, sp⟩ (k * 2))) 0 (c - k)] 38)).drew.heap[w2.heap.size + 1]? = some (.cells #[.slice (some ⟨bk, off, sp⟩) k c, .slice (some ⟨w2.heap.size, 0, none⟩) 1 1, .slice (some (Addr.add ⟨bk, off, sp⟩ (k * 2))) 0 (c - k)] 38 (0, 0)) by
            have := heap_alloc_new (w2.alloc (.cells #[.int .i64 ba, .int .i64 bb] 42)) (.cells #[.slice (some ⟨bk, off, sp⟩) k c, .slice (some ⟨w2.heap.size, 0, none⟩) 1 1, .slice (some (Addr.add ⟨bk, off, sp⟩ (k * 2))) 0 (c - k)] 38)
            rw [show (w2.alloc (.cells #[.int .i64 ba, .int .i64 bb] 42)).heap.size = w2.heap.size + 1 by simp] at this
            exact this)
          have HCC := Lib.hid (concat3 (O3.out.1.trans HFF.out) HK.out HLN.out HTK.out H3.out HR1.out HR2.out)
          ((with_reducible refine (HCC.out).mono ?_); rintro e w4 ⟨u, rfl, ho, hf⟩; have hT := hHeld.fr hf (by simp); have HO := Lib.hid (OwnB.mono ho (Nat.le_trans HSZ.out HFF.out.size)); have HF := Lib.hid ((O3.out.1.trans HFF.out).trans hf); clear ho hf HCC)
          go_wp2_with fail
          refine hK.out _ _ hT (fun hHeld => ?_)
          clear hK K
          try simp only [Act.put, List.setIfInBounds_toArray, List.set_cons_zero, List.set_cons_succ]
          refine wpAnyH_take (i := 10) (oi := _) (v := ?fv10h10n12) (by simp only [List.getElem?_toArray, List.getElem?_cons_zero, List.getElem?_cons_succ]; rfl) (by kernel_rfl) (by kernel_rfl) (by kernel_rfl) (fun _ _ _ h => h) (Or.inl ⟨by rfl, ?fy10h10n12⟩) (by assumption) ?fr10h10n12
          case fy10h10n12 => (intro w hSw; (try dsimp only [SB1] at hSw); go_simp; try with_reducible rfl)
          try simp only [Act.put, List.setIfInBounds_toArray, List.set_cons_zero, List.set_cons_succ]
          refine wpAnyH_take (i := 11) (oi := _) (v := ?fv11h10n12) (by simp only [List.getElem?_toArray, List.getElem?_cons_zero, List.getElem?_cons_succ]; rfl) (by kernel_rfl) (by kernel_rfl) (by kernel_rfl) (fun _ _ _ h => h) (Or.inl ⟨by rfl, ?fy11h10n12⟩) (by assumption) ?fr11h10n12
          case fy11h10n12 => (intro w hSw; (try dsimp only [SB1] at hSw); go_simp; try with_reducible rfl)
          try simp only [Act.put, List.setIfInBounds_toArray, List.set_cons_zero, List.set_cons_succ]
          refine wpAnyH_done (by kernel_rfl) ?_ _
          refine NoPanic.normal ?_
          go_wp2
          go_ret2
          refine ⟨_, by rw [HPU.out.2]; rfl, ?_, HF.out⟩
          rw [HPU.out.1]
          exact HO.out
end Go.Proofs.Ytldheaamcnmlgaa

namespace Go.Proofs.Ytldheaamcnmlgaa
open Go.Shelf
def Try.laysNm225_ren : Go.Shelf.Ren := ⟨fun | 25 => 77 | 31 => 86 | 32 => 105 | 37 => 111 | n => n, fun | 22 => 24 | 3 => 3 | 4 => 4 | 40 => 99 | 0 => 0 | n => n, fun | n => n⟩
theorem Try.laysNm225 : Go.Proofs.Lays2.n25 Try.prog Try.laysNm225_ren := {
  mixed := by kernel_rfl
  f25 := Try.func77.trans (congrArg some (by kernel_rfl))
  f31 := Try.func86.trans (congrArg some (by kernel_rfl))
  f32 := Try.func105.trans (congrArg some (by kernel_rfl))
  f37 := Try.func111.trans (congrArg some (by kernel_rfl))
  t0 := Try.underlying0
  a0 := Try.isAgg0
  z0 := Try.sizeOf0
  v0 := Try.zeroValue0
  t3 := Try.underlying3
  a3 := Try.isAgg3
  z3 := Try.sizeOf3
  v3 := Try.zeroValue3
  t4 := Try.underlying4
  a4 := Try.isAgg4
  z4 := Try.sizeOf4
  v4 := Try.zeroValue4
  t22 := Try.underlying24
  a22 := Try.isAgg24
  z22 := Try.sizeOf24
  v22 := Try.zeroValue24
  t40 := Try.underlying99
  a40 := Try.isAgg99
  z40 := Try.sizeOf99
  v40 := Try.zeroValue99 }
open Go.RowKit Go.Lib in
theorem Try.slices_BinarySearch_int (b off n c : Nat) (zs : List Int) (x : Int) (w : World) (hz : n ≤ zs.length) (hbig : n < 4611686018427387904) (hc : ∀ j, j < zs.length → w.cell? ⟨b, off + j, none⟩ = some (.int .i64 (zs.getD j 0))) (hs : (zs.take n).Pairwise (· ≤ ·)) :
    Calls Try.prog 77 #[.slice (some ⟨b, off, none⟩) n c, .int .i64 x] w fun e w' => e = .returned (.tuple #[.int .i64 ((zs.take n).countP (· < x) : Nat), .bool ((zs.take n).contains x)]) ∧ ∃ q, w' = w.drewN q := Any.slices_BinarySearch_int Try.laysNm225 b off n c zs x w hz hbig hc hs
open Go.RowKit Go.Lib in
theorem Try.slices_BinarySearch_int_empty (a : Option Addr) (c : Nat) (x : Int) (w : World) :
    Calls Try.prog 77 #[.slice a 0 c, .int .i64 x] w fun e w' => e = .returned (.tuple #[.int .i64 0, .bool false]) ∧ w' = w := Any.slices_BinarySearch_int_empty Try.laysNm225 a c x w
end Go.Proofs.Ytldheaamcnmlgaa

namespace Go.Proofs.Ytldheaamcnmlgaa
open Go.RowKit

theorem search_any (v : Value) (zs : List Int) (x : Int) (w : World) (h : HInts w v zs) (hl : zs.length ≤ 1000000) (hs : Rises zs) (b : Bool) (hb : b = decide (x ∈ zs)) :
    Calls Try.prog 77 #[v, .int .i64 x] w fun e w' => ∃ p : Int, e = .returned (.tuple #[.int .i64 p, .bool b]) ∧ Fr w w' [] := by
  obtain ⟨a, cap, rfl, h1, h2, h3⟩ := h
  by_cases h0 : 0 < zs.length
  · obtain ⟨bk, off, rfl, hc⟩ := h3 h0
    refine (Try.slices_BinarySearch_int bk off zs.length cap zs x w (Nat.le_refl _) (by omega) hc (by rw [List.take_length]; exact hs.imp Int.le_of_lt)).mono ?_
    rintro e w' ⟨rfl, q, rfl⟩
    refine ⟨(((zs.take zs.length).countP (· < x) : Nat) : Int), ?_, Fr.drewN w q []⟩
    rw [hb, List.take_length, show zs.contains x = decide (x ∈ zs) by simp]
  · obtain rfl : zs = [] := List.eq_nil_of_length_eq_zero (by omega)
    refine (Try.slices_BinarySearch_int_empty a cap x w).mono ?_
    rintro e w' ⟨rfl, rfl⟩
    exact ⟨0, by rw [hb]; simp, Fr.refl _ _⟩
/-- 'make([]int, n)' -/
theorem make_ints (w : World) (n : Nat) (h : n ≤ 1000000) :
    (Instr.makeSlice 24 (.int .i64 (n : Int)) (.int .i64 (n : Int))).run Try.prog w = .ok (.slice (some ⟨w.heap.size, 0, none⟩) n n) (w.alloc (.cells (List.replicate n (Value.int .i64 0)).toArray 3)) := by
  obtain ⟨i0, hi, hz0, hz1, hz2⟩ := info_parts infoI
  have hr := run_make (P := Try.prog) w 24 3 i0 (.int .i64 0) Try.underlying24 hi hz0 .i64 .i64 (n : Int) (n : Int) (by omega) (by omega) (by rw [hz2]; omega) (by omega)
  rw [hr, Int.toNat_natCast, hz1]
  have e : madeCells (Value.int .i64 0).cells (n * 1) = (List.replicate n (Value.int .i64 0)).toArray := by
    unfold madeCells
    refine Array.ext (by simp) fun i h1 h2 => ?_
    simp [Value.cells, Nat.mod_one]
  rw [e]
/-- The cars so far, and noughts. -/
def carsTo (l : List (Int × Int)) (k : Nat) : List Value := ((l.take k).map fun b => Value.int .i64 b.1) ++ List.replicate (l.length - k) (.int .i64 0)
theorem carsTo_len (l : List (Int × Int)) (k : Nat) (h : k ≤ l.length) : (carsTo l k).length = l.length := by
  unfold carsTo
  simp; omega
theorem carsTo_zero (l : List (Int × Int)) : carsTo l 0 = List.replicate l.length (.int .i64 0) := by simp [carsTo]
theorem carsTo_all (l : List (Int × Int)) : carsTo l l.length = l.map fun b => Value.int .i64 b.1 := by simp [carsTo]
theorem carsTo_step (l : List (Int × Int)) (k : Nat) (h : k < l.length) : (carsTo l k).set k (.int .i64 (l.getD k (0, 0)).1) = carsTo l (k + 1) := by
  unfold carsTo
  have hk : ((l.take k).map fun b => Value.int .i64 b.1).length = k := by simp; omega
  obtain ⟨j, hj⟩ : ∃ j, l.length - k = j + 1 := ⟨l.length - k - 1, by omega⟩
  rw [hj, show l.length - (k + 1) = j by omega, List.set_append_right _ _ (by omega), hk, Nat.sub_self, List.replicate_succ, List.set_cons_zero, take_more l k h, List.map_append, List.append_assoc]
  rfl
/-- The row under way. -/
def CR (W : World) (l : List (Int × Int)) (k : Nat) (a : World) : Prop := Fr W a [] ∧ a.heap[W.heap.size]? = some (.cells (carsTo l k).toArray 3 (0, 0))
theorem CR.fr {W a a' : World} {l : List (Int × Int)} {k : Nat} (h : CR W l k a) (f : Fr a a' []) : CR W l k a' := ⟨h.1.trans f, f.heap h.2 (by simp)⟩
theorem CR.cell {W a : World} {l : List (Int × Int)} {k : Nat} (h : CR W l k a) (hk : k < l.length) : a.cell? ⟨W.heap.size, k, none⟩ = some (.int .i64 0) ∧ a.frozen? ⟨W.heap.size, k, none⟩ = false := by
  refine ⟨?_, frozen_of_row _ _ k _ _ h.2⟩
  rw [cell_of_row _ _ k _ _ _ h.2]
  unfold carsTo
  have e : ((l.take k).map fun b => Value.int .i64 b.1).length = k := by simp; omega
  rw [List.getElem?_toArray, List.getElem?_append_right (by omega), e, Nat.sub_self, List.getElem?_replicate, if_pos (by omega)]
theorem CR.set {W a : World} {l : List (Int × Int)} {k : Nat} (h : CR W l k a) (hk : k < l.length) (x : Int) (hx : x = (l.getD k (0, 0)).1) : CR W l (k + 1) (a.setCell ⟨W.heap.size, k, none⟩ (.int .i64 x)) := by
  refine ⟨h.1.new (Fr.setCell a W.heap.size k _ (S := [W.heap.size]) (by simp)) (by intro r hr; obtain rfl := List.mem_singleton.1 hr; omega), ?_⟩
  rw [heap_setCell_same _ W.heap.size k _ _ _ h.2, List.setIfInBounds_toArray, hx, carsTo_step l k hk]
theorem CR.own {W a : World} {l : List (Int × Int)} (h : CR W l l.length a) (hl : l.length ≤ 1000000) : OwnI a W.heap.size (.slice (some ⟨W.heap.size, 0, none⟩) l.length l.length) (l.map (·.1)) := by
  have h2 := h.2
  rw [carsTo_all] at h2
  unfold OwnI
  rw [List.length_map]
  refine ⟨by simp [i64s], .inr ⟨W.heap.size, l.length, _, rfl, Nat.le_refl _, h2, Nat.le_refl _, by unfold maxLen; omega, by simp, ?_⟩⟩
  simp only [i64s, List.map_map, Nat.mul_one]
  rw [List.take_of_length_le (by simp)]
  rfl
set_option maxHeartbeats 1000000 in
set_option maxRecDepth 100000 in
theorem cars_any (v : Value) (l : List (Int × Int)) (w : World) (h : HB w v l) (hl : l.length ≤ 1000) :
    Calls Try.prog 76 #[v] w (Gives fun u w' => OwnI w' w.heap.size u (l.map (·.1)) ∧ Fr w w' []) := by
  obtain ⟨a, cap, rfl, p1, q1, r1⟩ := h
  unfold maxLen at q1
  have HCE := Lib.hid r1
  have HL := Lib.hid hl
  obtain ⟨n, hn⟩ : ∃ n, n = l.length := ⟨_, rfl⟩
  have HN := Lib.hid hn
  have C0 : Hid (CR w l 0 (w.alloc (.cells (List.replicate n (Value.int .i64 0)).toArray 3))) := by
    refine Lib.hid ⟨Fr.alloc _ _ [], ?_⟩
    rw [carsTo_zero, ← hn]
    exact heap_alloc_new w _
  rw [← hn] at hl p1 HCE ⊢
  have hmk := make_ints w n (by omega)
  clear r1 hn
  go_enter Try.func76, Try.ntmps76
  go_wp2
  go_loopw [4, 5, 11] (fun _ _ s11 wx => ∃ k : Nat, s11 = .int .i64 k ∧ Hid (k ≤ n) ∧ Hid (CR w l k wx)) (fun _ _ s11 _ => n - (intOf s11).toNat)
  case atStart => exact ⟨0, rfl, Lib.hid (Nat.zero_le _), C0⟩
  case round =>
    obtain ⟨k, rfl, HK, HC⟩ := hrel
    have hk := HK.out
    clear hmk
    by_cases hlt : k < n
    · obtain ⟨b, off, rfl, hc⟩ := HCE.out (by omega)
      obtain ⟨x, hx⟩ : ∃ x, x = l.getD k (0, 0) := ⟨_, rfl⟩
      have HX := Lib.hid hx
      obtain ⟨z0, z1⟩ := hc k hlt
      rw [← hx] at z0 z1
      have z0 := HC.out.1.cell z0 (by simp)
      have z1 := HC.out.1.cell z1 (by simp)
      obtain ⟨xa, xb⟩ := x
      have C1 := Lib.hid (HC.out.fr (Fr.alloc wr (bidBox (xa, xb)) []))
      obtain ⟨m0, m1⟩ := brow (heap_alloc_new wr (bidBox (xa, xb)))
      obtain ⟨f0, f1⟩ := C1.out.cell (by rw [← HN.out]; exact hlt)
      have C2 := Lib.hid (C1.out.set (by rw [← HN.out]; exact hlt) xa (by rw [← HX.out]))
      dsimp only [bidBox] at *
      clear hc hx HX HC C1
      go_wp2
      go_roundw
      case rel => exact ⟨k + 1, by go_num, Lib.hid (by omega), C2⟩
      case measure => simp [intOf]; omega
    · obtain rfl : k = n := by omega
      have HO := HC.out
      rw [HN.out] at HO
      have HO := Lib.hid (HO.own (by have := HL.out; omega))
      rw [← HN.out] at HO
      go_wp2
      go_ret
      exact gives ⟨HO.out, HC.out.1⟩
theorem full_cars (l : List (Int × Int)) (m : Int) : (bidOf l m).isSome = decide (m ∈ setOf (l.map (·.1))) := by
  rw [Bool.eq_iff_iff, decide_eq_true_iff, mem_setOf, Option.isSome_iff_ne_none, ne_eq, bidOf_none, List.mem_map]
  constructor
  · intro h
    exact Decidable.by_contra fun k => h fun x hx e => k ⟨x, hx, e⟩
  · rintro ⟨x, hx, e⟩ h
    exact h x hx e
set_option maxHeartbeats 1000000 in
set_option maxRecDepth 100000 in
theorem bfull_any (vm : Value) (ms : List Int) (v : Value) (l : List (Int × Int)) (w : World) (hm : HInts w vm ms) (h : HB w v l) (hl : l.length ≤ 1000) (hml : ms.length ≤ 1000) (r : Bool) (hr : r = fullB ms l) :
    Calls Try.prog 61 #[vm, v] w fun x w' => x = .returned (.bool r) ∧ Fr w w' [] := by
  have CA := Lib.hid (cars_any v l w h hl)
  have HM := Lib.hid hm
  obtain ⟨am, cm, rfl, pm, qm, rm⟩ := hm
  obtain ⟨a, c, rfl, _, _, _⟩ := h
  unfold maxLen at qm
  obtain ⟨n, hn⟩ : ∃ n, n = ms.length := ⟨_, rfl⟩
  have HN := Lib.hid hn
  have HME := Lib.hid rm
  have HR := Lib.hid hr
  rw [← hn] at hml pm HM HME ⊢
  have HSL := Lib.hid (show (setOf (l.map (·.1))).length ≤ 1000000 from Nat.le_trans (setOf_length _) (by rw [List.length_map]; omega))
  have HML := Lib.hid (show (l.map (·.1)).length ≤ 1000000 by rw [List.length_map]; omega)
  clear hn hr rm hl
  go_enter Try.func61, Try.ntmps61
  go_wp2_with fail
  with_reducible refine (CA.out).mono ?_
  rintro e w1 ⟨u1, rfl, ho, hf⟩
  have SE := Lib.hid (set_any u1 _ w1 ho.holds ho.form HML.out)
  have F1 := Lib.hid hf
  clear ho hf CA
  go_wp2_with fail
  with_reducible refine (SE.out).mono ?_
  rintro e w2 ⟨u2, rfl, ho, hf⟩
  have F2 := Lib.hid (F1.out.trans hf)
  have BS := Lib.hid (fun x W (hW : Fr w2 W []) b hb => search_any u2 _ x W (ho.keep hW).holds HSL.out (setOf_rises _) b hb)
  clear ho hf SE
  go_wp2
  go_loopw [7, 8, 9, 15] (fun _ _ _ s15 wx => ∃ k : Nat, s15 = .int .i64 k ∧ Hid (k ≤ n) ∧ Hid (∀ i, i < k → (bidOf l (ms.getD i 0)).isSome = true) ∧ Hid (Fr w2 wx [])) (fun _ _ _ s15 _ => n - (intOf s15).toNat)
  case atStart => exact ⟨0, rfl, Lib.hid (Nat.zero_le _), Lib.hid (fun i hi => by omega), Lib.hid (Fr.refl _ _)⟩
  case round =>
    obtain ⟨k, rfl, HK, HA, HF⟩ := hrel
    have hk := HK.out
    by_cases hlt : k < n
    · obtain ⟨b, off, rfl, hc⟩ := HME.out (by omega)
      have z0 := hc k hlt
      obtain ⟨x, hx⟩ : ∃ x, x = ms.getD k 0 := ⟨_, rfl⟩
      have HX := Lib.hid hx
      rw [← hx] at z0
      have z0 := (F2.out.trans HF.out).cell z0 (by simp)
      obtain ⟨q, hq⟩ : ∃ q, q = decide (x ∈ setOf (l.map (·.1))) := ⟨_, rfl⟩
      have B1 := Lib.hid (BS.out x wr HF.out q hq)
      have HQ := Lib.hid hq
      clear hc hx hq
      cases q with
      | false =>
        have HE : Hid (r = false) := by
          show _ = _
          rw [HR.out]
          refine full_not (i := k) (by rw [← HN.out]; exact hlt) ?_
          have := full_cars l x
          rw [← HQ.out] at this
          rw [← HX.out]
          simpa using this
        clear HA HX HQ BS
        go_wp2_with fail
        with_reducible refine (B1.out).mono ?_
        rintro e w3 ⟨p, rfl, hf⟩
        have HF3 := Lib.hid ((F2.out.trans HF.out).trans hf)
        clear hf B1
        go_wp2
        go_ret
        exact ⟨by rw [HE.out]; rfl, HF3.out⟩
      | true =>
        have HA2 : Hid (∀ i, i < k + 1 → (bidOf l (ms.getD i 0)).isSome = true) := Lib.hid (fun i hi => by
          by_cases e : i = k
          · subst e; rw [← HX.out, full_cars l x, ← HQ.out]
          · exact HA.out i (by omega))
        clear HA HX HQ
        go_wp2_with fail
        with_reducible refine (B1.out).mono ?_
        rintro e w3 ⟨p, rfl, hf⟩
        have HF3 := Lib.hid (HF.out.trans hf)
        clear hf B1
        go_wp2
        go_roundw
        case rel => exact ⟨k + 1, by go_num, Lib.hid (by omega), HA2, HF3⟩
        case measure => simp [intOf]; omega
    · obtain rfl : k = n := by omega
      have HE : Hid (r = true) := by
        show _ = _
        rw [HR.out]
        exact full_take (by rw [← HN.out]; exact HA.out)
      clear HA HME BS
      go_wp2
      go_ret
      exact ⟨by rw [HE.out]; rfl, F2.out.trans HF.out⟩
end Go.Proofs.Ytldheaamcnmlgaa

namespace Go.Proofs.Ytldheaamcnmlgaa
open Go.RowKit

theorem emod_walk (n b : Int) (hb : 0 < b) : n % b = if n.tmod b < 0 then n.tmod b + b else n.tmod b := by
  have h1 := Int.emod_nonneg n (show b ≠ 0 by omega)
  have h2 := Int.emod_lt_of_pos n hb
  have h3 := Int.tmod_lt_of_pos n hb
  have h4 := Int.mul_ediv_add_emod n b
  have h5 := Int.mul_tdiv_add_tmod n b
  by_cases h : 0 ≤ n
  · rw [Int.tmod_eq_emod_of_nonneg h, if_neg (by omega)]
  · have h6 : n.tmod b ≤ 0 := by
      have := Int.tmod_nonneg b (show 0 ≤ -n by omega)
      rw [Int.neg_tmod] at this; omega
    have h7 : -b < n.tmod b := by
      have := Int.tmod_lt_of_pos (-n) hb
      rw [Int.neg_tmod] at this; omega
    have key : n.tmod b = n % b ∨ n.tmod b = n % b - b := by
      have e : b * (n / b - n.tdiv b) = n.tmod b - n % b := by rw [Int.mul_sub]; omega
      have hq : n / b - n.tdiv b = 0 ∨ n / b - n.tdiv b = -1 := by
        have hlo : -b * 2 < b * (n / b - n.tdiv b) := by omega
        have hhi : b * (n / b - n.tdiv b) < b := by omega
        have a1 : -2 < n / b - n.tdiv b := by
          apply Int.lt_of_mul_lt_mul_left (a := b) _ (by omega)
          have : b * -2 = -b * 2 := by omega
          omega
        have a2 : n / b - n.tdiv b < 1 := by
          apply Int.lt_of_mul_lt_mul_left (a := b) _ (by omega)
          omega
        omega
      rcases hq with hq | hq
      · rw [hq] at e; left; omega
      · rw [hq] at e; right; omega
    rcases key with h | h
    · rw [h]; split <;> omega
    · rw [h]; split <;> omega

/-- 'Number': from 0 to below a bound. -/
theorem numberTo_any (n b : Int) (w : World) (hb : 0 < b) (hb1 : b ≤ 1000000) (_h0 : -9223372036854775808 ≤ n) (_h1 : n ≤ 9223372036854775807) :
    Calls Try.prog 10 #[.int .i64 n, .int .i64 b] w fun e w' => e = .returned (.int .i64 (n % b)) ∧ w = w' := by
  have hne : ¬ b = 0 := by omega
  have hlt := Int.tmod_lt_of_pos n hb
  have hgt : -b < n.tmod b := by
    have := Int.tmod_lt_of_pos (-n) hb
    rw [Int.neg_tmod] at this; omega
  have HEM := Lib.hid (emod_walk n b hb)
  by_cases hneg : n.tmod b < 0
  · have HV : Hid (n % b = n.tmod b + b) := by show _ = _; rw [HEM.out, if_pos hneg]
    go_enter Try.func10, Try.ntmps10
    go_wp2
    go_ret
    exact ⟨by rw [HV.out]; rfl, rfl⟩
  · have HV : Hid (n % b = n.tmod b) := by show _ = _; rw [HEM.out, if_neg hneg]
    go_enter Try.func10, Try.ntmps10
    go_wp2
    go_ret
    exact ⟨by rw [HV.out]; rfl, rfl⟩
/-- The same, as a natural number. -/
theorem numberTo_nat (n : Int) (b : Nat) (hb : 0 < b) (hb1 : b ≤ 1000000) (h : (Lit.int .i64 n).wf = true) : ∃ k : Nat, k < b ∧ n % (b : Int) = (k : Int) ∧ ∀ w : World, Calls Try.prog 10 #[.int .i64 n, .int .i64 (b : Int)] w fun e w' => e = .returned (.int .i64 (k : Int)) ∧ w = w' := by
  obtain ⟨h0, h1⟩ := bounds_i64 h
  obtain ⟨k, hk⟩ := Int.eq_ofNat_of_zero_le (Int.emod_nonneg n (show (b : Int) ≠ 0 by omega))
  refine ⟨k, ?_, hk, fun w => ?_⟩
  · have := Int.emod_lt_of_pos n (show (0 : Int) < (b : Int) by omega); omega
  · have := numberTo_any n b w (by omega) (by omega) h0 h1
    rw [hk] at this; exact this
end Go.Proofs.Ytldheaamcnmlgaa

namespace Go.Proofs.Ytldheaamcnmlgaa
open Go.RowKit

theorem bput_any (v : Value) (l : List (Int × Int)) (b : Int × Int) (w : World) (h : HB w v l) (hl : l.length ≤ 1000) (r : Bool) (hr : r = (bidOf l b.1).isNone) :
    Calls Try.prog 32 #[v, bidV b] w fun x w' => ∃ u, x = .returned (.tuple #[u, .bool r]) ∧ HB w' u (putB l b) ∧ Fr w w' [] :=
  (bput_own v l b w h hl r hr).mono fun _ _ ⟨u, e, ho, hf⟩ => ⟨u, e, ho.holds, hf⟩
/-- What Of answers. -/
theorem bidOf_some (l : List (Int × Int)) (c : Int) : ∃ y, (bidOf l c = some y ∧ (bidOf l c).isSome = true) ∨ (bidOf l c = none ∧ y = (0, 0) ∧ (bidOf l c).isSome = false) := by
  cases h : bidOf l c with
  | none => exact ⟨(0, 0), .inr ⟨rfl, rfl, rfl⟩⟩
  | some y => exact ⟨y, .inl ⟨rfl, rfl⟩⟩
end Go.Proofs.Ytldheaamcnmlgaa
