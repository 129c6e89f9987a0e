/- The least bid is less than all others, or the same as some behind it; one more that is less is it; put in whatever order bids stand by cars. -/
import Derived.Test.YtfphihhcclfmnaaBiC
import Derived.Deep.DeepCutAuto
namespace Go.Proofs.Ytfphihhcclfmnaa
open Go.RowKit

/-- What is made while the bids are copied and one more is put behind: the new row, the box of the one more, the box of the answer. -/
structure R14 (V : World) (b : Int × Int) (row : Option (Value × List (Int × Int))) (e4 e10 : Option Nat) (W : World) : Prop where
  f : Fr V W []
  own : ∀ v m, row = some (v, m) → OwnB W V.heap.size v m
  r4 : ∀ g, e4 = some g → W.heap[g]? = some (bidBox b) ∧ V.heap.size ≤ g ∧ ∀ v m, row = some (v, m) → v.ownBlock ≠ some g
  r10 : ∀ g, e10 = some g → W.heap[g]? = some (bidBox (0, 0)) ∧ V.heap.size ≤ g ∧ ∀ v m, row = some (v, m) → v.ownBlock ≠ some g
theorem R14.start (V : World) (b : Int × Int) : R14 V b none none none V.drew :=
  ⟨Fr.drew V [], fun v m h => (by cases h), fun g h => (by cases h), fun g h => (by cases h)⟩
theorem R14.fr {V W W' : World} {b : Int × Int} {row : Option (Value × List (Int × Int))} {e4 e10 : Option Nat} (h : R14 V b row e4 e10 W) (k : Fr W W' []) : R14 V b row e4 e10 W' :=
  ⟨h.f.trans k, fun v m e => (h.own v m e).keep k, fun g e => ⟨k.heap (h.r4 g e).1 (by simp), (h.r4 g e).2⟩, fun g e => ⟨k.heap (h.r10 g e).1 (by simp), (h.r10 g e).2⟩⟩
theorem R14.new0 {V W : World} {b : Int × Int} {e4 e10 : Option Nat} (h : R14 V b none e4 e10 W) : R14 V b (some (.slice (some ⟨W.heap.size, 0, none⟩) 0 0, [])) e4 e10 (W.alloc (.cells #[] 24)) := by
  have k := Fr.alloc W (.cells #[] 24) []
  refine ⟨h.f.trans k, fun v m e => ?_, fun g e => ⟨k.heap (h.r4 g e).1 (by simp), (h.r4 g e).2.1, fun v m e2 => ?_⟩, fun g e => ⟨k.heap (h.r10 g e).1 (by simp), (h.r10 g e).2.1, fun v m e2 => ?_⟩⟩
  · simp only [Option.some.injEq, Prod.mk.injEq] at e
    obtain ⟨rfl, rfl⟩ := e
    exact row_mono (own_empty W 24 2) h.f.size
  · simp only [Option.some.injEq, Prod.mk.injEq] at e2
    obtain ⟨rfl, rfl⟩ := e2
    have := size_of_row (h.r4 g e).1
    simp [Value.ownBlock]; omega
  · simp only [Option.some.injEq, Prod.mk.injEq] at e2
    obtain ⟨rfl, rfl⟩ := e2
    have := size_of_row (h.r10 g e).1
    simp [Value.ownBlock]; omega
theorem R14.new4 {V W : World} {b : Int × Int} {row : Option (Value × List (Int × Int))} {e10 : Option Nat} (h : R14 V b row none e10 W) : R14 V b row (some W.heap.size) e10 (W.alloc (bidBox b)) := by
  have k := h.fr (Fr.alloc W (bidBox b) [])
  refine ⟨k.f, k.own, fun g e => ?_, k.r10⟩
  obtain rfl : W.heap.size = g := by simpa using e
  refine ⟨heap_alloc_new W _, h.f.size, fun v m e2 q => ?_⟩
  have := ((h.own v m e2).block _ q).2
  omega
theorem R14.new10 {V W : World} {b : Int × Int} {row : Option (Value × List (Int × Int))} {e4 : Option Nat} (h : R14 V b row e4 none W) : R14 V b row e4 (some W.heap.size) (W.alloc (bidBox (0, 0))) := by
  have k := h.fr (Fr.alloc W (bidBox (0, 0)) [])
  refine ⟨k.f, k.own, k.r4, fun g e => ?_⟩
  obtain rfl : W.heap.size = g := by simpa using e
  refine ⟨heap_alloc_new W _, h.f.size, fun v m e2 q => ?_⟩
  have := ((h.own v m e2).block _ q).2
  omega
theorem R14.app {V W W' : World} {b : Int × Int} {v : Value} {m M : List (Int × Int)} {e4 e10 : Option Nat} {g N cap : Nat} {cs : List Value} (h : R14 V b (some (v, m)) e4 e10 W) (hN : N = M.length) (he : cs = bdc M)
    (ho : W'.ownsRow V.heap.size 24 2 (.slice (some ⟨g, 0, none⟩) N cap) N cs) (hg : W.grownBy W' v.ownBlock) (hor : v.ownBlock = some g ∨ g = W.heap.size) :
    R14 V b (some (.slice (some ⟨g, 0, none⟩) N cap, M)) e4 e10 W' := by
  have key : ∀ q, (W.heap[q]? = some (bidBox b) ∨ W.heap[q]? = some (bidBox (0, 0))) → v.ownBlock ≠ some q → g ≠ q := by
    rintro q hq hne rfl
    rcases hor with e | e
    · exact hne e
    · rcases hq with hq | hq
      · have := size_of_row hq; omega
      · have := size_of_row hq; omega
  refine ⟨h.f.grown_own hg (fun r hr => .inr ((h.own v m rfl).block r hr).1), fun v' m2 e => ?_, fun q e => ?_, fun q e => ?_⟩
  · simp only [Option.some.injEq, Prod.mk.injEq] at e
    obtain ⟨rfl, rfl⟩ := e
    unfold OwnB
    rw [← hN, ← he]
    exact ho
  · obtain ⟨a1, a2, a3⟩ := h.r4 q e
    have hne := a3 v m rfl
    refine ⟨by rw [hg.block q (size_of_row a1) (fun e2 => hne e2.symm)]; exact a1, a2, fun v' m2 e2 => ?_⟩
    simp only [Option.some.injEq, Prod.mk.injEq] at e2
    obtain ⟨rfl, rfl⟩ := e2
    have := key q (.inl a1) hne
    simpa [Value.ownBlock] using this
  · obtain ⟨a1, a2, a3⟩ := h.r10 q e
    have hne := a3 v m rfl
    refine ⟨by rw [hg.block q (size_of_row a1) (fun e2 => hne e2.symm)]; exact a1, a2, fun v' m2 e2 => ?_⟩
    simp only [Option.some.injEq, Prod.mk.injEq] at e2
    obtain ⟨rfl, rfl⟩ := e2
    have := key q (.inr a1) hne
    simpa [Value.ownBlock] using this
/-- The answer in its box. -/
theorem R14.ends {V W : World} {b y : Int × Int} {row : Option (Value × List (Int × Int))} {e4 : Option Nat} {g : Nat} (h : R14 V b row e4 (some g) W) :
    Fr V ((W.setCell ⟨g, 0, none⟩ (.int .i64 y.1)).setCell ⟨g, 1, none⟩ (.int .i64 y.2)) [] ∧ ((W.setCell ⟨g, 0, none⟩ (.int .i64 y.1)).setCell ⟨g, 1, none⟩ (.int .i64 y.2)).heap[g]? = some (bidBox y) := by
  obtain ⟨a1, a2, _⟩ := h.r10 g rfl
  exact ⟨h.f.new (bset_fr W g _ _) (by intro r hr; obtain rfl := List.mem_singleton.1 hr; exact a2), bset a1 _ _⟩
/-- The boxes of the one more and of the least. -/
def TB (V : World) (gx : Nat) (b x : Int × Int) (a : World) : Prop := Fr V a [] ∧ a.heap[V.heap.size]? = some (bidBox b) ∧ a.heap[gx]? = some (bidBox x)
theorem TB.fr {V : World} {gx : Nat} {b x : Int × Int} {a a' : World} (h : TB V gx b x a) (k : Fr a a' []) : TB V gx b x a' := ⟨h.1.trans k, k.heap h.2.1 (by simp), k.heap h.2.2 (by simp)⟩
/-- What a round reads. -/
def LS (V : World) (gx bk o : Nat) (b x y : Int × Int) (a : World) : Prop := TB V gx b x a ∧ (a.cell? ⟨bk, o, none⟩ = some (.int .i64 y.1) ∧ a.cell? ⟨bk, o + 1, none⟩ = some (.int .i64 y.2)) ∧ a.cell? ⟨gx, 0, none⟩ = some (.int .i64 x.1) ∧ a.cell? ⟨gx, 1, none⟩ = some (.int .i64 x.2)
theorem LS.fr {V : World} {gx bk o : Nat} {b x y : Int × Int} {a a' : World} (h : LS V gx bk o b x y a) (k : Fr a a' []) : LS V gx bk o b x y a' :=
  ⟨h.1.fr k, ⟨k.cell h.2.1.1 (by simp), k.cell h.2.1.2 (by simp)⟩, k.cell h.2.2.1 (by simp), k.cell h.2.2.2 (by simp)⟩
/-- Three boxes. -/
def LT (V : World) (gx gy : Nat) (b x y : Int × Int) (a : World) : Prop := TB V gx b x a ∧ (a.cell? ⟨V.heap.size, 0, none⟩ = some (.int .i64 b.1) ∧ a.cell? ⟨V.heap.size, 1, none⟩ = some (.int .i64 b.2)) ∧ (a.cell? ⟨gx, 0, none⟩ = some (.int .i64 x.1) ∧ a.cell? ⟨gx, 1, none⟩ = some (.int .i64 x.2)) ∧ a.cell? ⟨gy, 0, none⟩ = some (.int .i64 y.1) ∧ a.cell? ⟨gy, 1, none⟩ = some (.int .i64 y.2)
theorem LT.fr {V : World} {gx gy : Nat} {b x y : Int × Int} {a a' : World} (h : LT V gx gy b x y a) (k : Fr a a' []) : LT V gx gy b x y a' :=
  ⟨h.1.fr k, ⟨k.cell h.2.1.1 (by simp), k.cell h.2.1.2 (by simp)⟩, ⟨k.cell h.2.2.1.1 (by simp), k.cell h.2.2.1.2 (by simp)⟩, k.cell h.2.2.2.1 (by simp), k.cell h.2.2.2.2 (by simp)⟩
/-- The bids put so far. -/
def putsB (l : List (Int × Int)) (k : Nat) : List (Int × Int) := (l.take k).foldl putB []
theorem putsB_step (l : List (Int × Int)) (k : Nat) (h : k < l.length) : putsB l (k + 1) = putB (putsB l k) (l.getD k (0, 0)) := by
  unfold putsB
  rw [take_more l k h, List.foldl_append]; rfl
theorem putB_len (l : List (Int × Int)) (b : Int × Int) : (putB l b).length ≤ l.length + 1 ∧ 0 < (putB l b).length := by
  unfold putB
  split
  · rename_i g
    refine ⟨by omega, ?_⟩
    cases h : bidOf l b.1 with
    | none => rw [h] at g; simp at g
    | some y => exact List.length_pos_of_mem (bidOf_car h).2
  · rw [insB_length]; omega
theorem putsB_len (l : List (Int × Int)) : ∀ k, k ≤ l.length → (putsB l k).length ≤ k ∧ (0 < k → 0 < (putsB l k).length)
  | 0, _ => by simp [putsB]
  | k + 1, h => by
    have := putsB_len l k (by omega)
    rw [putsB_step l k (by omega)]
    have := putB_len (putsB l k) (l.getD k (0, 0))
    omega
theorem putsB_rise (l : List (Int × Int)) : ∀ k, k ≤ l.length → RiseB (putsB l k)
  | 0, _ => List.Pairwise.nil
  | k + 1, h => by
    rw [putsB_step l k (by omega)]
    exact (putsB_rise l k (by omega)).put _
/-- What the last loop reads. -/
def L2 (V : World) (b1 o1 o2 : Nat) (x y : Int) (a : World) : Prop := Fr V a [] ∧ a.cell? ⟨b1, o1, none⟩ = some (.int .i64 x) ∧ a.cell? ⟨b1, o2, none⟩ = some (.int .i64 y)
theorem L2.fr {V : World} {b1 o1 o2 : Nat} {x y : Int} {a a' : World} (h : L2 V b1 o1 o2 x y a) (k : Fr a a' []) : L2 V b1 o1 o2 x y a' := ⟨h.1.trans k, k.cell h.2.1 (by simp), k.cell h.2.2 (by simp)⟩

set_option maxHeartbeats 16000000 in
set_option maxRecDepth 100000 in
theorem bleast_true (v : Value) (l : List (Int × Int)) (b : Int × Int) (w : World) (h : HB w v l) :
    Calls Try.prog 4 #[v, bidV b] w fun x w' => x = .returned (.bool true) ∧ Fr w w' [] := by
  obtain ⟨i0, hi0, hz0, hz1, hz2⟩ := info_parts infoB
  have HLV := Lib.hid h
  obtain ⟨a, c, rfl, p1, q1, r1⟩ := h
  unfold maxLen at q1
  obtain ⟨n, hn⟩ : ∃ n, n = l.length := ⟨_, rfl⟩
  have HN := Lib.hid hn
  have HLS := Lib.hid r1
  rw [← hn] at p1 HLS HLV ⊢
  clear r1 hn
  have O0 := Lib.hid (show OF w b _ from ⟨Fr.alloc w (bidBox b) [], heap_alloc_new w _⟩)
  obtain ⟨ba, bb⟩ := b
  dsimp only [bidV, bidBox] at *
  go_enter Try.func4, Try.ntmps4
  go_wp2_with fail
  with_reducible refine (bfirst_any _).mono ?_
  rintro e w1 ⟨rfl, hf⟩
  have O1 := Lib.hid (O0.out.fr hf)
  clear hf O0
  by_cases h0 : n = 0
  · have e0 : ((n : Int) == 0) = true := by simp [h0]
    go_wp2
    go_ret
    exact ⟨rfl, O1.out.1⟩
  have e0 : ((n : Int) == 0) = false := by simp [h0]
  by_cases h16 : 16 < n
  · have e1 : decide (16 < (n : Int)) = true := decide_eq_true (by omega)
    go_wp2
    go_ret
    exact ⟨rfl, O1.out.1⟩
  have e1 : decide (16 < (n : Int)) = false := decide_eq_false (by omega)
  obtain ⟨bk, off, rfl, hc⟩ := HLS.out (by omega)
  have HCE := Lib.hid hc
  obtain ⟨x, hx⟩ := LeastB.some (l := l) (by rintro rfl; exact h0 HN.out)
  have HX := Lib.hid hx
  have LE0 := Lib.hid (bleast_some _ l x w1 (HLV.out.keep O1.out.1) (by have := HN.out; omega) hx)
  obtain ⟨xa, xb⟩ := x
  dsimp only [bidV] at *
  clear hc hx
  go_wp2_with fail
  with_reducible refine (LE0.out).mono ?_
  rintro e w2 ⟨rfl, hf⟩
  have T3 := Lib.hid (show TB w w2.heap.size (ba, bb) (xa, xb) (w2.alloc (bidBox (xa, xb))) from ⟨(O1.out.fr hf).1.trans (Fr.alloc _ _ []), (Fr.alloc _ _ []).heap (O1.out.fr hf).2 (by simp), heap_alloc_new w2 _⟩)
  clear hf LE0 O1 e0 e1
  go_wp2
  generalize w2.heap.size = gx at *
  generalize w2.alloc _ = w3 at *
  go_loopw [8] (fun s8 wx => ∃ i : Nat, s8 = .int .i64 i ∧ Hid (i ≤ n) ∧ Hid (TB w gx (ba, bb) (xa, xb) wx)) (fun s8 _ => n - (intOf s8).toNat)
  case atStart => exact ⟨0, rfl, Lib.hid (Nat.zero_le _), T3⟩
  case round =>
    clear T3
    obtain ⟨i, rfl, HI, HT⟩ := hrel
    have hi := HI.out
    by_cases hlt : i < n
    · obtain ⟨y, hy⟩ : ∃ y, y = l.getD i (0, 0) := ⟨_, rfl⟩
      obtain ⟨z0, z1⟩ := HCE.out i (by have := HN.out; omega)
      rw [← hy] at z0 z1
      have hm : y ∈ l := by
        have hi' : i < l.length := by have := HN.out; omega
        rw [hy, List.getD_eq_getElem?_getD, List.getElem?_eq_getElem hi']
        exact List.getElem_mem hi'
      have LE1 := Lib.hid (fun W => bless_any y (xa, xb) W false (HX.out.2 y hm).symm)
      obtain ⟨t0, t1⟩ := brow HT.out.2.2
      have HS := Lib.hid (show LS w gx bk (off + i * 2) (ba, bb) (xa, xb) y wr.drew from ⟨HT.out.fr (Fr.drew wr []), ⟨(HT.out.1.trans (Fr.drew wr [])).cell z0 (by simp), (HT.out.1.trans (Fr.drew wr [])).cell z1 (by simp)⟩, (Fr.drew wr []).cell t0 (by simp), (Fr.drew wr []).cell t1 (by simp)⟩)
      obtain ⟨ya, yb⟩ := y
      dsimp only [bidV] at *
      clear hy z0 z1 hm t0 t1 HT
      go_wp2
      refine wp_region_det (S := LS w gx bk (off + i * 2) (ba, bb) (xa, xb) (ya, yb)) (by kernel_rfl) HS.out ?_
      refine wpDet_take (i := 0) (oi := _) (v := ?dv1) (by simp only [List.getElem?_toArray, List.getElem?_cons_zero]; rfl) (by kernel_rfl) (by kernel_rfl) (by kernel_rfl) (Or.inl ⟨by rfl, ?dy1⟩) ?dr1
      case dy1 => (intro w hSw; have hS0 := hSw; (try dsimp only [LS] at hSw); go_simp; refine Came.value ?_ hS0; with_reducible rfl)
      try simp only [Act.put, List.setIfInBounds_toArray, List.set_cons_zero, List.set_cons_succ]
      refine wpDet_take (i := 1) (oi := _) (v := ?dv2) (by simp only [List.getElem?_toArray, List.getElem?_cons_zero, List.getElem?_cons_succ]; rfl) (by kernel_rfl) (by kernel_rfl) (by kernel_rfl) (Or.inl ⟨by rfl, ?dy2⟩) ?dr2
      case dy2 => (intro w hSw; have hS0 := hSw; (try dsimp only [LS] at hSw); go_simp; refine Came.value ?_ hS0; with_reducible rfl)
      try simp only [Act.put, List.setIfInBounds_toArray, List.set_cons_zero, List.set_cons_succ]
      refine wpDet_take (i := 2) (oi := _) (v := ?dv3) (by simp only [List.getElem?_toArray, List.getElem?_cons_zero, List.getElem?_cons_succ]; rfl) (by kernel_rfl) (by kernel_rfl) (by kernel_rfl) (Or.inl ⟨by rfl, ?dy3⟩) ?dr3
      case dy3 => (intro w hSw; have hS0 := hSw; (try dsimp only [LS] at hSw); go_simp; refine Came.value ?_ hS0; with_reducible rfl)
      try simp only [Act.put, List.setIfInBounds_toArray, List.set_cons_zero, List.set_cons_succ]
      refine wpDet_take (i := 3) (oi := _) (v := ?dv4) (by simp only [List.getElem?_toArray, List.getElem?_cons_zero, List.getElem?_cons_succ]; rfl) (by kernel_rfl) (by kernel_rfl) (by kernel_rfl) (Or.inl ⟨by rfl, ?dy4⟩) ?dr4
      case dy4 => (intro w hSw; have hS0 := hSw; (try dsimp only [LS] at hSw); go_simp; refine Came.value ?_ hS0; with_reducible rfl)
      try simp only [Act.put, List.setIfInBounds_toArray, List.set_cons_zero, List.set_cons_succ]
      refine wpDet_take (i := 4) (oi := _) (v := ?dv5) (by simp only [List.getElem?_toArray, List.getElem?_cons_zero, List.getElem?_cons_succ]; rfl) (by kernel_rfl) (by kernel_rfl) (by kernel_rfl) (Or.inl ⟨by rfl, ?dy5⟩) ?dr5
      case dy5 => (intro w hSw; have hS0 := hSw; (try dsimp only [LS] at hSw); go_simp; refine Came.value ?_ hS0; with_reducible rfl)
      try simp only [Act.put, List.setIfInBounds_toArray, List.set_cons_zero, List.set_cons_succ]
      refine wpDet_take (i := 5) (oi := _) (v := ?dv6) (by simp only [List.getElem?_toArray, List.getElem?_cons_zero, List.getElem?_cons_succ]; rfl) (by kernel_rfl) (by kernel_rfl) (by kernel_rfl) (Or.inl ⟨by rfl, ?dy6⟩) ?dr6
      case dy6 => (intro w hSw; go_simp; exact Came.call ((LE1.out w).mono fun e w' ⟨he, hf⟩ => ⟨he, hSw.fr hf⟩) (by with_reducible rfl))
      try simp only [Act.put, List.setIfInBounds_toArray, List.set_cons_zero, List.set_cons_succ]
      refine wpDet_done (by kernel_rfl) ?_ _
      rintro w4 hS
      have HT4 := Lib.hid hS.1
      clear hS HS LE1
      go_wp2
      go_roundw
      case rel => exact ⟨i + 1, by go_num, Lib.hid (by omega), HT4⟩
      case measure => simp [intOf]; omega
    obtain rfl : i = n := by omega
    clear hlt
    obtain ⟨g, hg⟩ : ∃ g, g = ltB (ba, bb) (xa, xb) := ⟨_, rfl⟩
    obtain ⟨y, hy⟩ : ∃ y, y = if g = true then (ba, bb) else (xa, xb) := ⟨_, rfl⟩
    have HYL := Lib.hid (show LeastB (l ++ [(ba, bb)]) y by rw [hy, hg]; exact HX.out.snoc (ba, bb))
    have HGY : Hid ((g = true ∧ y = (ba, bb) ∧ ¬ (ba = xa ∧ bb = xb)) ∨ (g = false ∧ y = (xa, xb))) := by
      cases e : g with
      | true =>
        refine Lib.hid (.inl ⟨rfl, by rw [hy, e]; rfl, ?_⟩)
        rintro ⟨rfl, rfl⟩
        rw [e, ltB_self] at hg
        cases hg
      | false => exact Lib.hid (.inr ⟨rfl, by rw [hy, e]; rfl⟩)
    have LEB := Lib.hid (fun W => bless_any (ba, bb) (xa, xb) W g hg)
    have hln : l.length = i := HN.out.symm
    have HLN := Lib.hid hln
    have HBL := Lib.hid (show (bdc l).length = i * 2 by rw [bdc_len, hln])
    have LE2 := Lib.hid (fun W v (hv : HB W v (l ++ [(ba, bb)])) => bleast_some v (l ++ [(ba, bb)]) y W hv (by rw [List.length_append, hln]; simp; omega) HYL.out)
    have hpos : 0 < i := by omega
    obtain ⟨ya, yb⟩ := y
    dsimp only [bidV] at *
    clear hy hg hln HX
    go_upto_region 14 with fail
    go_cut [9, 10] (fun s9 s10 wx => ∃ gy, s9 = .pointer (some ⟨gy, 0, none⟩) ∧ s10 = .bool true ∧ Hid (wx.heap[gy]? = some (bidBox (ya, yb))) ∧ Hid (Fr wr wx []))
    case first =>
      obtain ⟨z0, z1⟩ := brow HT.out.2.1
      have HCL := Lib.hid (fun (W : World) (hW : Fr wr W []) => ((HLV.out.keep HT.out.1).keep hW).args)
      have HR := Lib.hid (R14.start wr (ba, bb))
      have HX0 := Lib.hid (show SB1 w.heap.size (ba, bb) wr.drew from ⟨z0, z1⟩)
      have HBW := Lib.hid (size_of_row HT.out.2.1)
      have HSF := Lib.hid (fun (W : World) (hW : Fr wr W []) => (HX0.out.fr (a := wr) hW (by simp) : SB1 w.heap.size (ba, bb) W))
      clear z0 z1 HLS HCE HLV
      refine wp_region_noPanic ?_
      refine wp_region_held_drew (S := (SB1 w.heap.size (ba, bb))) (by kernel_rfl) HX0.out (fun hHeld => ?_)
      refine wpAnyH_take (i := 1) (oi := _) (v := ?fv1h7n8) (by simp only [List.getElem?_toArray, List.getElem?_cons_zero, List.getElem?_cons_succ]; rfl) (by kernel_rfl) (by kernel_rfl) (by kernel_rfl) (fun _ _ _ h => h) (Or.inl ⟨by rfl, ?fy1h7n8⟩) (by assumption) ?fr1h7n8
      case fy1h7n8 => (intro w hSw; (try dsimp only [SB1] at hSw); go_simp; try with_reducible rfl)
      try simp only [Act.put, List.setIfInBounds_toArray, List.set_cons_zero, List.set_cons_succ]
      refine wpAnyH_take (i := 3) (oi := _) (v := ?fv3h7n8) (by simp only [List.getElem?_toArray, List.getElem?_cons_zero, List.getElem?_cons_succ]; rfl) (by kernel_rfl) (by kernel_rfl) (by kernel_rfl) (fun _ _ _ h => h) (Or.inl ⟨by rfl, ?fy3h7n8⟩) (by assumption) ?fr3h7n8
      case fy3h7n8 => (intro w hSw; (try dsimp only [SB1] at hSw); go_simp; try with_reducible rfl)
      try simp only [Act.put, List.setIfInBounds_toArray, List.set_cons_zero, List.set_cons_succ]
      generalize wr.drew = W0 at HR hHeld ⊢
      clear HX0
      refine wpAnyH_ready (rs := [0, 4, 10]) (by kernel_rfl) (by simp) ?_
      refine AllReadyH.cons (o := _) (by simp only [List.getElem?_toArray, List.getElem?_cons_zero, List.getElem?_cons_succ]; rfl) (fun K hK => ?_) ?_
      focus
        go_simp
        replace HR := Lib.hid (R14.new0 HR.out)
        have hS := HSF.out _ HR.out.f
        refine hK.out _ _ hS (fun hHeld => ?_)
        clear hK K
        try simp only [Act.put, List.setIfInBounds_toArray, List.set_cons_zero, List.set_cons_succ]
        clear hS
        generalize World.alloc W0 _ = W1 at HR hHeld ⊢
        refine wpAnyH_ready (rs := [2, 4, 10]) (by kernel_rfl) (by simp) ?_
        refine AllReadyH.cons (o := _) (by simp only [List.getElem?_toArray, List.getElem?_cons_zero, List.getElem?_cons_succ]; rfl) (fun K hK => ?_) ?_
        focus
          refine step_append_lies _ (by rfl) _ _ _ (by rfl) wr.heap.size 24 i0 (.agg #[.int .i64 0, .int .i64 0]) 2 16 Try.underlying22 hi0 hz0 hz1 hz2 rfl (by decide) (.slice (some ⟨W0.heap.size, 0, none⟩) 0 0) 0 [] (by rfl) (HR.out.own _ _ rfl) ⟨bk, off, none⟩ i c (bdc l) (by rfl) HBL.out (HCL.out _ HR.out.f) (bdc_one l) (by omega) (by unfold maxLen; omega) (by omega) HR.out.f.size _ rfl ?_
          intro g2 cap2 W2 hown hgr hor _
          rw [Nat.zero_add] at hown ⊢
          replace HR := Lib.hid (R14.app (M := l) HR.out HLN.out.symm rfl hown hgr hor)
          clear hown hgr hor
          have hS := HSF.out _ HR.out.f
          refine hK.out _ _ hS (fun hHeld => ?_)
          clear hK K
          try simp only [Act.put, List.setIfInBounds_toArray, List.set_cons_zero, List.set_cons_succ]
          clear hS
          refine wpAnyH_ready (rs := [4, 10]) (by kernel_rfl) (by simp) ?_
          refine AllReadyH.cons (o := _) (by simp only [List.getElem?_toArray, List.getElem?_cons_zero, List.getElem?_cons_succ]; rfl) (fun K hK => ?_) ?_
          focus
            go_simp
            replace HR := Lib.hid (R14.new4 HR.out)
            dsimp only [bidBox] at HR
            have hS := HSF.out _ HR.out.f
            refine hK.out _ _ hS (fun hHeld => ?_)
            clear hK K
            try simp only [Act.put, List.setIfInBounds_toArray, List.set_cons_zero, List.set_cons_succ]
            clear hS
            generalize World.alloc W2 _ = W3 at HR hHeld ⊢
            refine wpAnyH_ready (rs := [5, 10]) (by kernel_rfl) (by simp) ?_
            refine AllReadyH.cons (o := _) (by simp only [List.getElem?_toArray, List.getElem?_cons_zero, List.getElem?_cons_succ]; rfl) (fun K hK => ?_) ?_
            focus
              refine step_append_lies _ (by rfl) _ _ _ (by rfl) wr.heap.size 24 i0 (.agg #[.int .i64 0, .int .i64 0]) 2 16 Try.underlying22 hi0 hz0 hz1 hz2 rfl (by decide) (.slice (some ⟨g2, 0, none⟩) i cap2) i (bdc l) (by rfl) (by have := HR.out.own _ _ rfl; unfold OwnB at this; rw [HLN.out] at this; exact this) ⟨W2.heap.size, 0, none⟩ 1 1 [.int .i64 ba, .int .i64 bb] (by rfl) rfl (bid_cells (b := (ba, bb)) (HR.out.r4 _ rfl).1) (bid_one (ba, bb)) (by omega) (by unfold maxLen; omega) (by omega) HR.out.f.size _ rfl ?_
              intro g5 cap5 W4 hown hgr hor _
              replace HR := Lib.hid (R14.app (M := l ++ [(ba, bb)]) HR.out (by rw [List.length_append, HLN.out]; rfl) (by rw [bdc_snoc]) hown hgr hor)
              clear hown hgr hor
              have hS := HSF.out _ HR.out.f
              refine hK.out _ _ hS (fun hHeld => ?_)
              clear hK K
              try simp only [Act.put, List.setIfInBounds_toArray, List.set_cons_zero, List.set_cons_succ]
              clear hS
              refine wpAnyH_ready (rs := [6, 10]) (by kernel_rfl) (by simp) ?_
              refine AllReadyH.cons (o := _) (by simp only [List.getElem?_toArray, List.getElem?_cons_zero, List.getElem?_cons_succ]; rfl) (fun K hK => ?_) ?_
              focus
                go_simp
                with_reducible refine (LE2.out _ _ (by have := (HR.out.own _ _ rfl).holds; exact this)).mono ?_
                rintro e W5 ⟨rfl, hf⟩
                replace HR := Lib.hid (HR.out.fr hf)
                have hS := HSF.out _ HR.out.f
                clear hf
                go_wp2_with fail
                refine hK.out _ _ hS (fun hHeld => ?_)
                clear hK K
                try simp only [Act.put, List.setIfInBounds_toArray, List.set_cons_zero, List.set_cons_succ]
                clear hS
                refine wpAnyH_take (i := 7) (oi := _) (v := ?fv7h7n9) (by simp only [List.getElem?_toArray, List.getElem?_cons_zero, List.getElem?_cons_succ]; rfl) (by kernel_rfl) (by kernel_rfl) (by kernel_rfl) (fun _ _ _ h => h) (Or.inl ⟨by rfl, ?fy7h7n9⟩) (by assumption) ?fr7h7n9
                case fy7h7n9 => (intro w hSw; (try dsimp only [SB1] at hSw); go_simp; try with_reducible rfl)
                try simp only [Act.put, List.setIfInBounds_toArray, List.set_cons_zero, List.set_cons_succ]
                refine wpAnyH_take (i := 8) (oi := _) (v := ?fv8h7n9) (by simp only [List.getElem?_toArray, List.getElem?_cons_zero, List.getElem?_cons_succ]; rfl) (by kernel_rfl) (by kernel_rfl) (by kernel_rfl) (fun _ _ _ h => h) (Or.inl ⟨by rfl, ?fy8h7n9⟩) (by assumption) ?fr8h7n9
                case fy8h7n9 => (intro w hSw; (try dsimp only [SB1] at hSw); go_simp; try with_reducible rfl)
                try simp only [Act.put, List.setIfInBounds_toArray, List.set_cons_zero, List.set_cons_succ]
                refine wpAnyH_take (i := 9) (oi := _) (v := ?fv9h7n9) (by simp only [List.getElem?_toArray, List.getElem?_cons_zero, List.getElem?_cons_succ]; rfl) (by kernel_rfl) (by kernel_rfl) (by kernel_rfl) (fun _ _ _ h => h) (Or.inl ⟨by rfl, ?fy9h7n9⟩) (by assumption) ?fr9h7n9
                case fy9h7n9 => (intro w hSw; (try dsimp only [SB1] at hSw); go_simp; try with_reducible rfl)
                try simp only [Act.put, List.setIfInBounds_toArray, List.set_cons_zero, List.set_cons_succ]
                refine wpAnyH_ready (rs := [10]) (by kernel_rfl) (by simp) ?_
                refine AllReadyH.cons (o := _) (by simp only [List.getElem?_toArray, List.getElem?_cons_zero, List.getElem?_cons_succ]; rfl) (fun K hK => ?_) AllReadyH.nil
                go_simp
                replace HR := Lib.hid (R14.new10 HR.out)
                dsimp only [bidBox] at HR
                have hS := HSF.out _ HR.out.f
                refine hK.out _ _ hS (fun hHeld => ?_)
                clear hK K
                try simp only [Act.put, List.setIfInBounds_toArray, List.set_cons_zero, List.set_cons_succ]
                clear hS
                generalize World.alloc W5 _ = W6 at HR hHeld ⊢
                obtain ⟨t0, t1⟩ := brow (HR.out.r10 _ rfl).1
                obtain ⟨f0, f1⟩ := bfz (HR.out.r10 _ rfl).1
                refine wpAnyH_ready (rs := [11]) (by kernel_rfl) (by simp) ?_
                refine AllReadyH.cons (o := _) rfl (fun K hK => ?_) AllReadyH.nil
                go_simp
                have HE := Lib.hid (R14.ends (y := (ya, yb)) HR.out)
                have hS := HSF.out _ HE.out.1
                refine hK.out _ _ hS (fun hHeld => ?_)
                clear hK K
                try simp only [Act.put, List.setIfInBounds_toArray, List.set_cons_zero, List.set_cons_succ]
                refine wpAnyH_take (i := 12) (oi := _) (v := ?fv12h7n10) (by simp only [List.getElem?_toArray, List.getElem?_cons_zero, List.getElem?_cons_succ]; rfl) (by kernel_rfl) (by kernel_rfl) (by kernel_rfl) (fun _ _ _ h => h) (Or.inl ⟨by rfl, ?fy12h7n10⟩) (by assumption) ?fr12h7n10
                case fy12h7n10 => (intro w hSw; (try dsimp only [SB1] at hSw); go_simp; try with_reducible rfl)
                try simp only [Act.put, List.setIfInBounds_toArray, List.set_cons_zero, List.set_cons_succ]
                refine wpAnyH_done (by kernel_rfl) ?_ _
                refine NoPanic.normal ?_
                clear hHeld hS t0 t1 f0 f1
                go_wp2_with fail
                go_meet
                exact ⟨_, rfl, rfl, HE.out.2, HE.out.1⟩
              refine AllReadyH.cons (o := _) (by simp only [List.getElem?_toArray, List.getElem?_cons_zero, List.getElem?_cons_succ]; rfl) (fun K hK => ?_) AllReadyH.nil
              go_simp
              replace HR := Lib.hid (R14.new10 HR.out)
              dsimp only [bidBox] at HR
              have hS := HSF.out _ HR.out.f
              refine hK.out _ _ hS (fun hHeld => ?_)
              clear hK K
              try simp only [Act.put, List.setIfInBounds_toArray, List.set_cons_zero, List.set_cons_succ]
              clear hS
              generalize World.alloc W4 _ = W5 at HR hHeld ⊢
              refine wpAnyH_ready (rs := [6]) (by kernel_rfl) (by simp) ?_
              refine AllReadyH.cons (o := _) (by simp only [List.getElem?_toArray, List.getElem?_cons_zero, List.getElem?_cons_succ]; rfl) (fun K hK => ?_) AllReadyH.nil
              go_simp
              with_reducible refine (LE2.out _ _ (by have := (HR.out.own _ _ rfl).holds; exact this)).mono ?_
              rintro e W6 ⟨rfl, hf⟩
              replace HR := Lib.hid (HR.out.fr hf)
              have hS := HSF.out _ HR.out.f
              clear hf
              go_wp2_with fail
              refine hK.out _ _ hS (fun hHeld => ?_)
              clear hK K
              try simp only [Act.put, List.setIfInBounds_toArray, List.set_cons_zero, List.set_cons_succ]
              clear hS
              refine wpAnyH_take (i := 7) (oi := _) (v := ?fv7h7n11) (by simp only [List.getElem?_toArray, List.getElem?_cons_zero, List.getElem?_cons_succ]; rfl) (by kernel_rfl) (by kernel_rfl) (by kernel_rfl) (fun _ _ _ h => h) (Or.inl ⟨by rfl, ?fy7h7n11⟩) (by assumption) ?fr7h7n11
              case fy7h7n11 => (intro w hSw; (try dsimp only [SB1] at hSw); go_simp; try with_reducible rfl)
              try simp only [Act.put, List.setIfInBounds_toArray, List.set_cons_zero, List.set_cons_succ]
              refine wpAnyH_take (i := 8) (oi := _) (v := ?fv8h7n11) (by simp only [List.getElem?_toArray, List.getElem?_cons_zero, List.getElem?_cons_succ]; rfl) (by kernel_rfl) (by kernel_rfl) (by kernel_rfl) (fun _ _ _ h => h) (Or.inl ⟨by rfl, ?fy8h7n11⟩) (by assumption) ?fr8h7n11
              case fy8h7n11 => (intro w hSw; (try dsimp only [SB1] at hSw); go_simp; try with_reducible rfl)
              try simp only [Act.put, List.setIfInBounds_toArray, List.set_cons_zero, List.set_cons_succ]
              refine wpAnyH_take (i := 9) (oi := _) (v := ?fv9h7n11) (by simp only [List.getElem?_toArray, List.getElem?_cons_zero, List.getElem?_cons_succ]; rfl) (by kernel_rfl) (by kernel_rfl) (by kernel_rfl) (fun _ _ _ h => h) (Or.inl ⟨by rfl, ?fy9h7n11⟩) (by assumption) ?fr9h7n11
              case fy9h7n11 => (intro w hSw; (try dsimp only [SB1] at hSw); go_simp; try with_reducible rfl)
              try simp only [Act.put, List.setIfInBounds_toArray, List.set_cons_zero, List.set_cons_succ]
              obtain ⟨t0, t1⟩ := brow (HR.out.r10 _ rfl).1
              obtain ⟨f0, f1⟩ := bfz (HR.out.r10 _ rfl).1
              refine wpAnyH_ready (rs := [11]) (by kernel_rfl) (by simp) ?_
              refine AllReadyH.cons (o := _) rfl (fun K hK => ?_) AllReadyH.nil
              go_simp
              have HE := Lib.hid (R14.ends (y := (ya, yb)) HR.out)
              have hS := HSF.out _ HE.out.1
              refine hK.out _ _ hS (fun hHeld => ?_)
              clear hK K
              try simp only [Act.put, List.setIfInBounds_toArray, List.set_cons_zero, List.set_cons_succ]
              refine wpAnyH_take (i := 12) (oi := _) (v := ?fv12h7n12) (by simp only [List.getElem?_toArray, List.getElem?_cons_zero, List.getElem?_cons_succ]; rfl) (by kernel_rfl) (by kernel_rfl) (by kernel_rfl) (fun _ _ _ h => h) (Or.inl ⟨by rfl, ?fy12h7n12⟩) (by assumption) ?fr12h7n12
              case fy12h7n12 => (intro w hSw; (try dsimp only [SB1] at hSw); go_simp; try with_reducible rfl)
              try simp only [Act.put, List.setIfInBounds_toArray, List.set_cons_zero, List.set_cons_succ]
              refine wpAnyH_done (by kernel_rfl) ?_ _
              refine NoPanic.normal ?_
              clear hHeld hS t0 t1 f0 f1
              go_wp2_with fail
              go_meet
              exact ⟨_, rfl, rfl, HE.out.2, HE.out.1⟩
            refine AllReadyH.cons (o := _) (by simp only [List.getElem?_toArray, List.getElem?_cons_zero, List.getElem?_cons_succ]; rfl) (fun K hK => ?_) AllReadyH.nil
            go_simp
            replace HR := Lib.hid (R14.new10 HR.out)
            dsimp only [bidBox] at HR
            have hS := HSF.out _ HR.out.f
            refine hK.out _ _ hS (fun hHeld => ?_)
            clear hK K
            try simp only [Act.put, List.setIfInBounds_toArray, List.set_cons_zero, List.set_cons_succ]
            clear hS
            generalize World.alloc W3 _ = W4 at HR hHeld ⊢
            refine wpAnyH_ready (rs := [5]) (by kernel_rfl) (by simp) ?_
            refine AllReadyH.cons (o := _) (by simp only [List.getElem?_toArray, List.getElem?_cons_zero, List.getElem?_cons_succ]; rfl) (fun K hK => ?_) AllReadyH.nil
            refine step_append_lies _ (by rfl) _ _ _ (by rfl) wr.heap.size 24 i0 (.agg #[.int .i64 0, .int .i64 0]) 2 16 Try.underlying22 hi0 hz0 hz1 hz2 rfl (by decide) (.slice (some ⟨g2, 0, none⟩) i cap2) i (bdc l) (by rfl) (by have := HR.out.own _ _ rfl; unfold OwnB at this; rw [HLN.out] at this; exact this) ⟨W2.heap.size, 0, none⟩ 1 1 [.int .i64 ba, .int .i64 bb] (by rfl) rfl (bid_cells (b := (ba, bb)) (HR.out.r4 _ rfl).1) (bid_one (ba, bb)) (by omega) (by unfold maxLen; omega) (by omega) HR.out.f.size _ rfl ?_
            intro g5 cap5 W5 hown hgr hor _
            replace HR := Lib.hid (R14.app (M := l ++ [(ba, bb)]) HR.out (by rw [List.length_append, HLN.out]; rfl) (by rw [bdc_snoc]) hown hgr hor)
            clear hown hgr hor
            have hS := HSF.out _ HR.out.f
            refine hK.out _ _ hS (fun hHeld => ?_)
            clear hK K
            try simp only [Act.put, List.setIfInBounds_toArray, List.set_cons_zero, List.set_cons_succ]
            clear hS
            refine wpAnyH_ready (rs := [6]) (by kernel_rfl) (by simp) ?_
            refine AllReadyH.cons (o := _) (by simp only [List.getElem?_toArray, List.getElem?_cons_zero, List.getElem?_cons_succ]; rfl) (fun K hK => ?_) AllReadyH.nil
            go_simp
            with_reducible refine (LE2.out _ _ (by have := (HR.out.own _ _ rfl).holds; exact this)).mono ?_
            rintro e W6 ⟨rfl, hf⟩
            replace HR := Lib.hid (HR.out.fr hf)
            have hS := HSF.out _ HR.out.f
            clear hf
            go_wp2_with fail
            refine hK.out _ _ hS (fun hHeld => ?_)
            clear hK K
            try simp only [Act.put, List.setIfInBounds_toArray, List.set_cons_zero, List.set_cons_succ]
            clear hS
            refine wpAnyH_take (i := 7) (oi := _) (v := ?fv7h7n13) (by simp only [List.getElem?_toArray, List.getElem?_cons_zero, List.getElem?_cons_succ]; rfl) (by kernel_rfl) (by kernel_rfl) (by kernel_rfl) (fun _ _ _ h => h) (Or.inl ⟨by rfl, ?fy7h7n13⟩) (by assumption) ?fr7h7n13
            case fy7h7n13 => (intro w hSw; (try dsimp only [SB1] at hSw); go_simp; try with_reducible rfl)
            try simp only [Act.put, List.setIfInBounds_toArray, List.set_cons_zero, List.set_cons_succ]
            refine wpAnyH_take (i := 8) (oi := _) (v := ?fv8h7n13) (by simp only [List.getElem?_toArray, List.getElem?_cons_zero, List.getElem?_cons_succ]; rfl) (by kernel_rfl) (by kernel_rfl) (by kernel_rfl) (fun _ _ _ h => h) (Or.inl ⟨by rfl, ?fy8h7n13⟩) (by assumption) ?fr8h7n13
            case fy8h7n13 => (intro w hSw; (try dsimp only [SB1] at hSw); go_simp; try with_reducible rfl)
            try simp only [Act.put, List.setIfInBounds_toArray, List.set_cons_zero, List.set_cons_succ]
            refine wpAnyH_take (i := 9) (oi := _) (v := ?fv9h7n13) (by simp only [List.getElem?_toArray, List.getElem?_cons_zero, List.getElem?_cons_succ]; rfl) (by kernel_rfl) (by kernel_rfl) (by kernel_rfl) (fun _ _ _ h => h) (Or.inl ⟨by rfl, ?fy9h7n13⟩) (by assumption) ?fr9h7n13
            case fy9h7n13 => (intro w hSw; (try dsimp only [SB1] at hSw); go_simp; try with_reducible rfl)
            try simp only [Act.put, List.setIfInBounds_toArray, List.set_cons_zero, List.set_cons_succ]
            obtain ⟨t0, t1⟩ := brow (HR.out.r10 _ rfl).1
            obtain ⟨f0, f1⟩ := bfz (HR.out.r10 _ rfl).1
            refine wpAnyH_ready (rs := [11]) (by kernel_rfl) (by simp) ?_
            refine AllReadyH.cons (o := _) rfl (fun K hK => ?_) AllReadyH.nil
            go_simp
            have HE := Lib.hid (R14.ends (y := (ya, yb)) HR.out)
            have hS := HSF.out _ HE.out.1
            refine hK.out _ _ hS (fun hHeld => ?_)
            clear hK K
            try simp only [Act.put, List.setIfInBounds_toArray, List.set_cons_zero, List.set_cons_succ]
            refine wpAnyH_take (i := 12) (oi := _) (v := ?fv12h7n14) (by simp only [List.getElem?_toArray, List.getElem?_cons_zero, List.getElem?_cons_succ]; rfl) (by kernel_rfl) (by kernel_rfl) (by kernel_rfl) (fun _ _ _ h => h) (Or.inl ⟨by rfl, ?fy12h7n14⟩) (by assumption) ?fr12h7n14
            case fy12h7n14 => (intro w hSw; (try dsimp only [SB1] at hSw); go_simp; try with_reducible rfl)
            try simp only [Act.put, List.setIfInBounds_toArray, List.set_cons_zero, List.set_cons_succ]
            refine wpAnyH_done (by kernel_rfl) ?_ _
            refine NoPanic.normal ?_
            clear hHeld hS t0 t1 f0 f1
            go_wp2_with fail
            go_meet
            exact ⟨_, rfl, rfl, HE.out.2, HE.out.1⟩
          refine AllReadyH.cons (o := _) (by simp only [List.getElem?_toArray, List.getElem?_cons_zero, List.getElem?_cons_succ]; rfl) (fun K hK => ?_) AllReadyH.nil
          go_simp
          replace HR := Lib.hid (R14.new10 HR.out)
          dsimp only [bidBox] at HR
          have hS := HSF.out _ HR.out.f
          refine hK.out _ _ hS (fun hHeld => ?_)
          clear hK K
          try simp only [Act.put, List.setIfInBounds_toArray, List.set_cons_zero, List.set_cons_succ]
          clear hS
          generalize World.alloc W2 _ = W3 at HR hHeld ⊢
          refine wpAnyH_ready (rs := [4]) (by kernel_rfl) (by simp) ?_
          refine AllReadyH.cons (o := _) (by simp only [List.getElem?_toArray, List.getElem?_cons_zero, List.getElem?_cons_succ]; rfl) (fun K hK => ?_) AllReadyH.nil
          go_simp
          replace HR := Lib.hid (R14.new4 HR.out)
          dsimp only [bidBox] at HR
          have hS := HSF.out _ HR.out.f
          refine hK.out _ _ hS (fun hHeld => ?_)
          clear hK K
          try simp only [Act.put, List.setIfInBounds_toArray, List.set_cons_zero, List.set_cons_succ]
          clear hS
          generalize World.alloc W3 _ = W4 at HR hHeld ⊢
          refine wpAnyH_ready (rs := [5]) (by kernel_rfl) (by simp) ?_
          refine AllReadyH.cons (o := _) (by simp only [List.getElem?_toArray, List.getElem?_cons_zero, List.getElem?_cons_succ]; rfl) (fun K hK => ?_) AllReadyH.nil
          refine step_append_lies _ (by rfl) _ _ _ (by rfl) wr.heap.size 24 i0 (.agg #[.int .i64 0, .int .i64 0]) 2 16 Try.underlying22 hi0 hz0 hz1 hz2 rfl (by decide) (.slice (some ⟨g2, 0, none⟩) i cap2) i (bdc l) (by rfl) (by have := HR.out.own _ _ rfl; unfold OwnB at this; rw [HLN.out] at this; exact this) ⟨W3.heap.size, 0, none⟩ 1 1 [.int .i64 ba, .int .i64 bb] (by rfl) rfl (bid_cells (b := (ba, bb)) (HR.out.r4 _ rfl).1) (bid_one (ba, bb)) (by omega) (by unfold maxLen; omega) (by omega) HR.out.f.size _ rfl ?_
          intro g5 cap5 W5 hown hgr hor _
          replace HR := Lib.hid (R14.app (M := l ++ [(ba, bb)]) HR.out (by rw [List.length_append, HLN.out]; rfl) (by rw [bdc_snoc]) hown hgr hor)
          clear hown hgr hor
          have hS := HSF.out _ HR.out.f
          refine hK.out _ _ hS (fun hHeld => ?_)
          clear hK K
          try simp only [Act.put, List.setIfInBounds_toArray, List.set_cons_zero, List.set_cons_succ]
          clear hS
          refine wpAnyH_ready (rs := [6]) (by kernel_rfl) (by simp) ?_
          refine AllReadyH.cons (o := _) (by simp only [List.getElem?_toArray, List.getElem?_cons_zero, List.getElem?_cons_succ]; rfl) (fun K hK => ?_) AllReadyH.nil
          go_simp
          with_reducible refine (LE2.out _ _ (by have := (HR.out.own _ _ rfl).holds; exact this)).mono ?_
          rintro e W6 ⟨rfl, hf⟩
          replace HR := Lib.hid (HR.out.fr hf)
          have hS := HSF.out _ HR.out.f
          clear hf
          go_wp2_with fail
          refine hK.out _ _ hS (fun hHeld => ?_)
          clear hK K
          try simp only [Act.put, List.setIfInBounds_toArray, List.set_cons_zero, List.set_cons_succ]
          clear hS
          refine wpAnyH_take (i := 7) (oi := _) (v := ?fv7h7n15) (by simp only [List.getElem?_toArray, List.getElem?_cons_zero, List.getElem?_cons_succ]; rfl) (by kernel_rfl) (by kernel_rfl) (by kernel_rfl) (fun _ _ _ h => h) (Or.inl ⟨by rfl, ?fy7h7n15⟩) (by assumption) ?fr7h7n15
          case fy7h7n15 => (intro w hSw; (try dsimp only [SB1] at hSw); go_simp; try with_reducible rfl)
          try simp only [Act.put, List.setIfInBounds_toArray, List.set_cons_zero, List.set_cons_succ]
          refine wpAnyH_take (i := 8) (oi := _) (v := ?fv8h7n15) (by simp only [List.getElem?_toArray, List.getElem?_cons_zero, List.getElem?_cons_succ]; rfl) (by kernel_rfl) (by kernel_rfl) (by kernel_rfl) (fun _ _ _ h => h) (Or.inl ⟨by rfl, ?fy8h7n15⟩) (by assumption) ?fr8h7n15
          case fy8h7n15 => (intro w hSw; (try dsimp only [SB1] at hSw); go_simp; try with_reducible rfl)
          try simp only [Act.put, List.setIfInBounds_toArray, List.set_cons_zero, List.set_cons_succ]
          refine wpAnyH_take (i := 9) (oi := _) (v := ?fv9h7n15) (by simp only [List.getElem?_toArray, List.getElem?_cons_zero, List.getElem?_cons_succ]; rfl) (by kernel_rfl) (by kernel_rfl) (by kernel_rfl) (fun _ _ _ h => h) (Or.inl ⟨by rfl, ?fy9h7n15⟩) (by assumption) ?fr9h7n15
          case fy9h7n15 => (intro w hSw; (try dsimp only [SB1] at hSw); go_simp; try with_reducible rfl)
          try simp only [Act.put, List.setIfInBounds_toArray, List.set_cons_zero, List.set_cons_succ]
          obtain ⟨t0, t1⟩ := brow (HR.out.r10 _ rfl).1
          obtain ⟨f0, f1⟩ := bfz (HR.out.r10 _ rfl).1
          refine wpAnyH_ready (rs := [11]) (by kernel_rfl) (by simp) ?_
          refine AllReadyH.cons (o := _) rfl (fun K hK => ?_) AllReadyH.nil
          go_simp
          have HE := Lib.hid (R14.ends (y := (ya, yb)) HR.out)
          have hS := HSF.out _ HE.out.1
          refine hK.out _ _ hS (fun hHeld => ?_)
          clear hK K
          try simp only [Act.put, List.setIfInBounds_toArray, List.set_cons_zero, List.set_cons_succ]
          refine wpAnyH_take (i := 12) (oi := _) (v := ?fv12h7n16) (by simp only [List.getElem?_toArray, List.getElem?_cons_zero, List.getElem?_cons_succ]; rfl) (by kernel_rfl) (by kernel_rfl) (by kernel_rfl) (fun _ _ _ h => h) (Or.inl ⟨by rfl, ?fy12h7n16⟩) (by assumption) ?fr12h7n16
          case fy12h7n16 => (intro w hSw; (try dsimp only [SB1] at hSw); go_simp; try with_reducible rfl)
          try simp only [Act.put, List.setIfInBounds_toArray, List.set_cons_zero, List.set_cons_succ]
          refine wpAnyH_done (by kernel_rfl) ?_ _
          refine NoPanic.normal ?_
          clear hHeld hS t0 t1 f0 f1
          go_wp2_with fail
          go_meet
          exact ⟨_, rfl, rfl, HE.out.2, HE.out.1⟩
        refine AllReadyH.cons (o := _) (by simp only [List.getElem?_toArray, List.getElem?_cons_zero, List.getElem?_cons_succ]; rfl) (fun K hK => ?_) ?_
        focus
          go_simp
          replace HR := Lib.hid (R14.new4 HR.out)
          dsimp only [bidBox] at HR
          have hS := HSF.out _ HR.out.f
          refine hK.out _ _ hS (fun hHeld => ?_)
          clear hK K
          try simp only [Act.put, List.setIfInBounds_toArray, List.set_cons_zero, List.set_cons_succ]
          clear hS
          generalize World.alloc W1 _ = W2 at HR hHeld ⊢
          refine wpAnyH_ready (rs := [2, 10]) (by kernel_rfl) (by simp) ?_
          refine AllReadyH.cons (o := _) (by simp only [List.getElem?_toArray, List.getElem?_cons_zero, List.getElem?_cons_succ]; rfl) (fun K hK => ?_) ?_
          focus
            refine step_append_lies _ (by rfl) _ _ _ (by rfl) wr.heap.size 24 i0 (.agg #[.int .i64 0, .int .i64 0]) 2 16 Try.underlying22 hi0 hz0 hz1 hz2 rfl (by decide) (.slice (some ⟨W0.heap.size, 0, none⟩) 0 0) 0 [] (by rfl) (HR.out.own _ _ rfl) ⟨bk, off, none⟩ i c (bdc l) (by rfl) HBL.out (HCL.out _ HR.out.f) (bdc_one l) (by omega) (by unfold maxLen; omega) (by omega) HR.out.f.size _ rfl ?_
            intro g2 cap2 W3 hown hgr hor _
            rw [Nat.zero_add] at hown ⊢
            replace HR := Lib.hid (R14.app (M := l) HR.out HLN.out.symm rfl hown hgr hor)
            clear hown hgr hor
            have hS := HSF.out _ HR.out.f
            refine hK.out _ _ hS (fun hHeld => ?_)
            clear hK K
            try simp only [Act.put, List.setIfInBounds_toArray, List.set_cons_zero, List.set_cons_succ]
            clear hS
            refine wpAnyH_ready (rs := [5, 10]) (by kernel_rfl) (by simp) ?_
            refine AllReadyH.cons (o := _) (by simp only [List.getElem?_toArray, List.getElem?_cons_zero, List.getElem?_cons_succ]; rfl) (fun K hK => ?_) ?_
            focus
              refine step_append_lies _ (by rfl) _ _ _ (by rfl) wr.heap.size 24 i0 (.agg #[.int .i64 0, .int .i64 0]) 2 16 Try.underlying22 hi0 hz0 hz1 hz2 rfl (by decide) (.slice (some ⟨g2, 0, none⟩) i cap2) i (bdc l) (by rfl) (by have := HR.out.own _ _ rfl; unfold OwnB at this; rw [HLN.out] at this; exact this) ⟨W1.heap.size, 0, none⟩ 1 1 [.int .i64 ba, .int .i64 bb] (by rfl) rfl (bid_cells (b := (ba, bb)) (HR.out.r4 _ rfl).1) (bid_one (ba, bb)) (by omega) (by unfold maxLen; omega) (by omega) HR.out.f.size _ rfl ?_
              intro g5 cap5 W4 hown hgr hor _
              replace HR := Lib.hid (R14.app (M := l ++ [(ba, bb)]) HR.out (by rw [List.length_append, HLN.out]; rfl) (by rw [bdc_snoc]) hown hgr hor)
              clear hown hgr hor
              have hS := HSF.out _ HR.out.f
              refine hK.out _ _ hS (fun hHeld => ?_)
              clear hK K
              try simp only [Act.put, List.setIfInBounds_toArray, List.set_cons_zero, List.set_cons_succ]
              clear hS
              refine wpAnyH_ready (rs := [6, 10]) (by kernel_rfl) (by simp) ?_
              refine AllReadyH.cons (o := _) (by simp only [List.getElem?_toArray, List.getElem?_cons_zero, List.getElem?_cons_succ]; rfl) (fun K hK => ?_) ?_
              focus
                go_simp
                with_reducible refine (LE2.out _ _ (by have := (HR.out.own _ _ rfl).holds; exact this)).mono ?_
                rintro e W5 ⟨rfl, hf⟩
                replace HR := Lib.hid (HR.out.fr hf)
                have hS := HSF.out _ HR.out.f
                clear hf
                go_wp2_with fail
                refine hK.out _ _ hS (fun hHeld => ?_)
                clear hK K
                try simp only [Act.put, List.setIfInBounds_toArray, List.set_cons_zero, List.set_cons_succ]
                clear hS
                refine wpAnyH_take (i := 7) (oi := _) (v := ?fv7h7n17) (by simp only [List.getElem?_toArray, List.getElem?_cons_zero, List.getElem?_cons_succ]; rfl) (by kernel_rfl) (by kernel_rfl) (by kernel_rfl) (fun _ _ _ h => h) (Or.inl ⟨by rfl, ?fy7h7n17⟩) (by assumption) ?fr7h7n17
                case fy7h7n17 => (intro w hSw; (try dsimp only [SB1] at hSw); go_simp; try with_reducible rfl)
                try simp only [Act.put, List.setIfInBounds_toArray, List.set_cons_zero, List.set_cons_succ]
                refine wpAnyH_take (i := 8) (oi := _) (v := ?fv8h7n17) (by simp only [List.getElem?_toArray, List.getElem?_cons_zero, List.getElem?_cons_succ]; rfl) (by kernel_rfl) (by kernel_rfl) (by kernel_rfl) (fun _ _ _ h => h) (Or.inl ⟨by rfl, ?fy8h7n17⟩) (by assumption) ?fr8h7n17
                case fy8h7n17 => (intro w hSw; (try dsimp only [SB1] at hSw); go_simp; try with_reducible rfl)
                try simp only [Act.put, List.setIfInBounds_toArray, List.set_cons_zero, List.set_cons_succ]
                refine wpAnyH_take (i := 9) (oi := _) (v := ?fv9h7n17) (by simp only [List.getElem?_toArray, List.getElem?_cons_zero, List.getElem?_cons_succ]; rfl) (by kernel_rfl) (by kernel_rfl) (by kernel_rfl) (fun _ _ _ h => h) (Or.inl ⟨by rfl, ?fy9h7n17⟩) (by assumption) ?fr9h7n17
                case fy9h7n17 => (intro w hSw; (try dsimp only [SB1] at hSw); go_simp; try with_reducible rfl)
                try simp only [Act.put, List.setIfInBounds_toArray, List.set_cons_zero, List.set_cons_succ]
                refine wpAnyH_ready (rs := [10]) (by kernel_rfl) (by simp) ?_
                refine AllReadyH.cons (o := _) (by simp only [List.getElem?_toArray, List.getElem?_cons_zero, List.getElem?_cons_succ]; rfl) (fun K hK => ?_) AllReadyH.nil
                go_simp
                replace HR := Lib.hid (R14.new10 HR.out)
                dsimp only [bidBox] at HR
                have hS := HSF.out _ HR.out.f
                refine hK.out _ _ hS (fun hHeld => ?_)
                clear hK K
                try simp only [Act.put, List.setIfInBounds_toArray, List.set_cons_zero, List.set_cons_succ]
                clear hS
                generalize World.alloc W5 _ = W6 at HR hHeld ⊢
                obtain ⟨t0, t1⟩ := brow (HR.out.r10 _ rfl).1
                obtain ⟨f0, f1⟩ := bfz (HR.out.r10 _ rfl).1
                refine wpAnyH_ready (rs := [11]) (by kernel_rfl) (by simp) ?_
                refine AllReadyH.cons (o := _) rfl (fun K hK => ?_) AllReadyH.nil
                go_simp
                have HE := Lib.hid (R14.ends (y := (ya, yb)) HR.out)
                have hS := HSF.out _ HE.out.1
                refine hK.out _ _ hS (fun hHeld => ?_)
                clear hK K
                try simp only [Act.put, List.setIfInBounds_toArray, List.set_cons_zero, List.set_cons_succ]
                refine wpAnyH_take (i := 12) (oi := _) (v := ?fv12h7n18) (by simp only [List.getElem?_toArray, List.getElem?_cons_zero, List.getElem?_cons_succ]; rfl) (by kernel_rfl) (by kernel_rfl) (by kernel_rfl) (fun _ _ _ h => h) (Or.inl ⟨by rfl, ?fy12h7n18⟩) (by assumption) ?fr12h7n18
                case fy12h7n18 => (intro w hSw; (try dsimp only [SB1] at hSw); go_simp; try with_reducible rfl)
                try simp only [Act.put, List.setIfInBounds_toArray, List.set_cons_zero, List.set_cons_succ]
                refine wpAnyH_done (by kernel_rfl) ?_ _
                refine NoPanic.normal ?_
                clear hHeld hS t0 t1 f0 f1
                go_wp2_with fail
                go_meet
                exact ⟨_, rfl, rfl, HE.out.2, HE.out.1⟩
              refine AllReadyH.cons (o := _) (by simp only [List.getElem?_toArray, List.getElem?_cons_zero, List.getElem?_cons_succ]; rfl) (fun K hK => ?_) AllReadyH.nil
              go_simp
              replace HR := Lib.hid (R14.new10 HR.out)
              dsimp only [bidBox] at HR
              have hS := HSF.out _ HR.out.f
              refine hK.out _ _ hS (fun hHeld => ?_)
              clear hK K
              try simp only [Act.put, List.setIfInBounds_toArray, List.set_cons_zero, List.set_cons_succ]
              clear hS
              generalize World.alloc W4 _ = W5 at HR hHeld ⊢
              refine wpAnyH_ready (rs := [6]) (by kernel_rfl) (by simp) ?_
              refine AllReadyH.cons (o := _) (by simp only [List.getElem?_toArray, List.getElem?_cons_zero, List.getElem?_cons_succ]; rfl) (fun K hK => ?_) AllReadyH.nil
              go_simp
              with_reducible refine (LE2.out _ _ (by have := (HR.out.own _ _ rfl).holds; exact this)).mono ?_
              rintro e W6 ⟨rfl, hf⟩
              replace HR := Lib.hid (HR.out.fr hf)
              have hS := HSF.out _ HR.out.f
              clear hf
              go_wp2_with fail
              refine hK.out _ _ hS (fun hHeld => ?_)
              clear hK K
              try simp only [Act.put, List.setIfInBounds_toArray, List.set_cons_zero, List.set_cons_succ]
              clear hS
              refine wpAnyH_take (i := 7) (oi := _) (v := ?fv7h7n19) (by simp only [List.getElem?_toArray, List.getElem?_cons_zero, List.getElem?_cons_succ]; rfl) (by kernel_rfl) (by kernel_rfl) (by kernel_rfl) (fun _ _ _ h => h) (Or.inl ⟨by rfl, ?fy7h7n19⟩) (by assumption) ?fr7h7n19
              case fy7h7n19 => (intro w hSw; (try dsimp only [SB1] at hSw); go_simp; try with_reducible rfl)
              try simp only [Act.put, List.setIfInBounds_toArray, List.set_cons_zero, List.set_cons_succ]
              refine wpAnyH_take (i := 8) (oi := _) (v := ?fv8h7n19) (by simp only [List.getElem?_toArray, List.getElem?_cons_zero, List.getElem?_cons_succ]; rfl) (by kernel_rfl) (by kernel_rfl) (by kernel_rfl) (fun _ _ _ h => h) (Or.inl ⟨by rfl, ?fy8h7n19⟩) (by assumption) ?fr8h7n19
              case fy8h7n19 => (intro w hSw; (try dsimp only [SB1] at hSw); go_simp; try with_reducible rfl)
              try simp only [Act.put, List.setIfInBounds_toArray, List.set_cons_zero, List.set_cons_succ]
              refine wpAnyH_take (i := 9) (oi := _) (v := ?fv9h7n19) (by simp only [List.getElem?_toArray, List.getElem?_cons_zero, List.getElem?_cons_succ]; rfl) (by kernel_rfl) (by kernel_rfl) (by kernel_rfl) (fun _ _ _ h => h) (Or.inl ⟨by rfl, ?fy9h7n19⟩) (by assumption) ?fr9h7n19
              case fy9h7n19 => (intro w hSw; (try dsimp only [SB1] at hSw); go_simp; try with_reducible rfl)
              try simp only [Act.put, List.setIfInBounds_toArray, List.set_cons_zero, List.set_cons_succ]
              obtain ⟨t0, t1⟩ := brow (HR.out.r10 _ rfl).1
              obtain ⟨f0, f1⟩ := bfz (HR.out.r10 _ rfl).1
              refine wpAnyH_ready (rs := [11]) (by kernel_rfl) (by simp) ?_
              refine AllReadyH.cons (o := _) rfl (fun K hK => ?_) AllReadyH.nil
              go_simp
              have HE := Lib.hid (R14.ends (y := (ya, yb)) HR.out)
              have hS := HSF.out _ HE.out.1
              refine hK.out _ _ hS (fun hHeld => ?_)
              clear hK K
              try simp only [Act.put, List.setIfInBounds_toArray, List.set_cons_zero, List.set_cons_succ]
              refine wpAnyH_take (i := 12) (oi := _) (v := ?fv12h7n20) (by simp only [List.getElem?_toArray, List.getElem?_cons_zero, List.getElem?_cons_succ]; rfl) (by kernel_rfl) (by kernel_rfl) (by kernel_rfl) (fun _ _ _ h => h) (Or.inl ⟨by rfl, ?fy12h7n20⟩) (by assumption) ?fr12h7n20
              case fy12h7n20 => (intro w hSw; (try dsimp only [SB1] at hSw); go_simp; try with_reducible rfl)
              try simp only [Act.put, List.setIfInBounds_toArray, List.set_cons_zero, List.set_cons_succ]
              refine wpAnyH_done (by kernel_rfl) ?_ _
              refine NoPanic.normal ?_
              clear hHeld hS t0 t1 f0 f1
              go_wp2_with fail
              go_meet
              exact ⟨_, rfl, rfl, HE.out.2, HE.out.1⟩
            refine AllReadyH.cons (o := _) (by simp only [List.getElem?_toArray, List.getElem?_cons_zero, List.getElem?_cons_succ]; rfl) (fun K hK => ?_) AllReadyH.nil
            go_simp
            replace HR := Lib.hid (R14.new10 HR.out)
            dsimp only [bidBox] at HR
            have hS := HSF.out _ HR.out.f
            refine hK.out _ _ hS (fun hHeld => ?_)
            clear hK K
            try simp only [Act.put, List.setIfInBounds_toArray, List.set_cons_zero, List.set_cons_succ]
            clear hS
            generalize World.alloc W3 _ = W4 at HR hHeld ⊢
            refine wpAnyH_ready (rs := [5]) (by kernel_rfl) (by simp) ?_
            refine AllReadyH.cons (o := _) (by simp only [List.getElem?_toArray, List.getElem?_cons_zero, List.getElem?_cons_succ]; rfl) (fun K hK => ?_) AllReadyH.nil
            refine step_append_lies _ (by rfl) _ _ _ (by rfl) wr.heap.size 24 i0 (.agg #[.int .i64 0, .int .i64 0]) 2 16 Try.underlying22 hi0 hz0 hz1 hz2 rfl (by decide) (.slice (some ⟨g2, 0, none⟩) i cap2) i (bdc l) (by rfl) (by have := HR.out.own _ _ rfl; unfold OwnB at this; rw [HLN.out] at this; exact this) ⟨W1.heap.size, 0, none⟩ 1 1 [.int .i64 ba, .int .i64 bb] (by rfl) rfl (bid_cells (b := (ba, bb)) (HR.out.r4 _ rfl).1) (bid_one (ba, bb)) (by omega) (by unfold maxLen; omega) (by omega) HR.out.f.size _ rfl ?_
            intro g5 cap5 W5 hown hgr hor _
            replace HR := Lib.hid (R14.app (M := l ++ [(ba, bb)]) HR.out (by rw [List.length_append, HLN.out]; rfl) (by rw [bdc_snoc]) hown hgr hor)
            clear hown hgr hor
            have hS := HSF.out _ HR.out.f
            refine hK.out _ _ hS (fun hHeld => ?_)
            clear hK K
            try simp only [Act.put, List.setIfInBounds_toArray, List.set_cons_zero, List.set_cons_succ]
            clear hS
            refine wpAnyH_ready (rs := [6]) (by kernel_rfl) (by simp) ?_
            refine AllReadyH.cons (o := _) (by simp only [List.getElem?_toArray, List.getElem?_cons_zero, List.getElem?_cons_succ]; rfl) (fun K hK => ?_) AllReadyH.nil
            go_simp
            with_reducible refine (LE2.out _ _ (by have := (HR.out.own _ _ rfl).holds; exact this)).mono ?_
            rintro e W6 ⟨rfl, hf⟩
            replace HR := Lib.hid (HR.out.fr hf)
            have hS := HSF.out _ HR.out.f
            clear hf
            go_wp2_with fail
            refine hK.out _ _ hS (fun hHeld => ?_)
            clear hK K
            try simp only [Act.put, List.setIfInBounds_toArray, List.set_cons_zero, List.set_cons_succ]
            clear hS
            refine wpAnyH_take (i := 7) (oi := _) (v := ?fv7h7n21) (by simp only [List.getElem?_toArray, List.getElem?_cons_zero, List.getElem?_cons_succ]; rfl) (by kernel_rfl) (by kernel_rfl) (by kernel_rfl) (fun _ _ _ h => h) (Or.inl ⟨by rfl, ?fy7h7n21⟩) (by assumption) ?fr7h7n21
            case fy7h7n21 => (intro w hSw; (try dsimp only [SB1] at hSw); go_simp; try with_reducible rfl)
            try simp only [Act.put, List.setIfInBounds_toArray, List.set_cons_zero, List.set_cons_succ]
            refine wpAnyH_take (i := 8) (oi := _) (v := ?fv8h7n21) (by simp only [List.getElem?_toArray, List.getElem?_cons_zero, List.getElem?_cons_succ]; rfl) (by kernel_rfl) (by kernel_rfl) (by kernel_rfl) (fun _ _ _ h => h) (Or.inl ⟨by rfl, ?fy8h7n21⟩) (by assumption) ?fr8h7n21
            case fy8h7n21 => (intro w hSw; (try dsimp only [SB1] at hSw); go_simp; try with_reducible rfl)
            try simp only [Act.put, List.setIfInBounds_toArray, List.set_cons_zero, List.set_cons_succ]
            refine wpAnyH_take (i := 9) (oi := _) (v := ?fv9h7n21) (by simp only [List.getElem?_toArray, List.getElem?_cons_zero, List.getElem?_cons_succ]; rfl) (by kernel_rfl) (by kernel_rfl) (by kernel_rfl) (fun _ _ _ h => h) (Or.inl ⟨by rfl, ?fy9h7n21⟩) (by assumption) ?fr9h7n21
            case fy9h7n21 => (intro w hSw; (try dsimp only [SB1] at hSw); go_simp; try with_reducible rfl)
            try simp only [Act.put, List.setIfInBounds_toArray, List.set_cons_zero, List.set_cons_succ]
            obtain ⟨t0, t1⟩ := brow (HR.out.r10 _ rfl).1
            obtain ⟨f0, f1⟩ := bfz (HR.out.r10 _ rfl).1
            refine wpAnyH_ready (rs := [11]) (by kernel_rfl) (by simp) ?_
            refine AllReadyH.cons (o := _) rfl (fun K hK => ?_) AllReadyH.nil
            go_simp
            have HE := Lib.hid (R14.ends (y := (ya, yb)) HR.out)
            have hS := HSF.out _ HE.out.1
            refine hK.out _ _ hS (fun hHeld => ?_)
            clear hK K
            try simp only [Act.put, List.setIfInBounds_toArray, List.set_cons_zero, List.set_cons_succ]
            refine wpAnyH_take (i := 12) (oi := _) (v := ?fv12h7n22) (by simp only [List.getElem?_toArray, List.getElem?_cons_zero, List.getElem?_cons_succ]; rfl) (by kernel_rfl) (by kernel_rfl) (by kernel_rfl) (fun _ _ _ h => h) (Or.inl ⟨by rfl, ?fy12h7n22⟩) (by assumption) ?fr12h7n22
            case fy12h7n22 => (intro w hSw; (try dsimp only [SB1] at hSw); go_simp; try with_reducible rfl)
            try simp only [Act.put, List.setIfInBounds_toArray, List.set_cons_zero, List.set_cons_succ]
            refine wpAnyH_done (by kernel_rfl) ?_ _
            refine NoPanic.normal ?_
            clear hHeld hS t0 t1 f0 f1
            go_wp2_with fail
            go_meet
            exact ⟨_, rfl, rfl, HE.out.2, HE.out.1⟩
          refine AllReadyH.cons (o := _) (by simp only [List.getElem?_toArray, List.getElem?_cons_zero, List.getElem?_cons_succ]; rfl) (fun K hK => ?_) AllReadyH.nil
          go_simp
          replace HR := Lib.hid (R14.new10 HR.out)
          dsimp only [bidBox] at HR
          have hS := HSF.out _ HR.out.f
          refine hK.out _ _ hS (fun hHeld => ?_)
          clear hK K
          try simp only [Act.put, List.setIfInBounds_toArray, List.set_cons_zero, List.set_cons_succ]
          clear hS
          generalize World.alloc W2 _ = W3 at HR hHeld ⊢
          refine wpAnyH_ready (rs := [2]) (by kernel_rfl) (by simp) ?_
          refine AllReadyH.cons (o := _) (by simp only [List.getElem?_toArray, List.getElem?_cons_zero, List.getElem?_cons_succ]; rfl) (fun K hK => ?_) AllReadyH.nil
          refine step_append_lies _ (by rfl) _ _ _ (by rfl) wr.heap.size 24 i0 (.agg #[.int .i64 0, .int .i64 0]) 2 16 Try.underlying22 hi0 hz0 hz1 hz2 rfl (by decide) (.slice (some ⟨W0.heap.size, 0, none⟩) 0 0) 0 [] (by rfl) (HR.out.own _ _ rfl) ⟨bk, off, none⟩ i c (bdc l) (by rfl) HBL.out (HCL.out _ HR.out.f) (bdc_one l) (by omega) (by unfold maxLen; omega) (by omega) HR.out.f.size _ rfl ?_
          intro g2 cap2 W4 hown hgr hor _
          rw [Nat.zero_add] at hown ⊢
          replace HR := Lib.hid (R14.app (M := l) HR.out HLN.out.symm rfl hown hgr hor)
          clear hown hgr hor
          have hS := HSF.out _ HR.out.f
          refine hK.out _ _ hS (fun hHeld => ?_)
          clear hK K
          try simp only [Act.put, List.setIfInBounds_toArray, List.set_cons_zero, List.set_cons_succ]
          clear hS
          refine wpAnyH_ready (rs := [5]) (by kernel_rfl) (by simp) ?_
          refine AllReadyH.cons (o := _) (by simp only [List.getElem?_toArray, List.getElem?_cons_zero, List.getElem?_cons_succ]; rfl) (fun K hK => ?_) AllReadyH.nil
          refine step_append_lies _ (by rfl) _ _ _ (by rfl) wr.heap.size 24 i0 (.agg #[.int .i64 0, .int .i64 0]) 2 16 Try.underlying22 hi0 hz0 hz1 hz2 rfl (by decide) (.slice (some ⟨g2, 0, none⟩) i cap2) i (bdc l) (by rfl) (by have := HR.out.own _ _ rfl; unfold OwnB at this; rw [HLN.out] at this; exact this) ⟨W1.heap.size, 0, none⟩ 1 1 [.int .i64 ba, .int .i64 bb] (by rfl) rfl (bid_cells (b := (ba, bb)) (HR.out.r4 _ rfl).1) (bid_one (ba, bb)) (by omega) (by unfold maxLen; omega) (by omega) HR.out.f.size _ rfl ?_
          intro g5 cap5 W5 hown hgr hor _
          replace HR := Lib.hid (R14.app (M := l ++ [(ba, bb)]) HR.out (by rw [List.length_append, HLN.out]; rfl) (by rw [bdc_snoc]) hown hgr hor)
          clear hown hgr hor
          have hS := HSF.out _ HR.out.f
          refine hK.out _ _ hS (fun hHeld => ?_)
          clear hK K
          try simp only [Act.put, List.setIfInBounds_toArray, List.set_cons_zero, List.set_cons_succ]
          clear hS
          refine wpAnyH_ready (rs := [6]) (by kernel_rfl) (by simp) ?_
          refine AllReadyH.cons (o := _) (by simp only [List.getElem?_toArray, List.getElem?_cons_zero, List.getElem?_cons_succ]; rfl) (fun K hK => ?_) AllReadyH.nil
          go_simp
          with_reducible refine (LE2.out _ _ (by have := (HR.out.own _ _ rfl).holds; exact this)).mono ?_
          rintro e W6 ⟨rfl, hf⟩
          replace HR := Lib.hid (HR.out.fr hf)
          have hS := HSF.out _ HR.out.f
          clear hf
          go_wp2_with fail
          refine hK.out _ _ hS (fun hHeld => ?_)
          clear hK K
          try simp only [Act.put, List.setIfInBounds_toArray, List.set_cons_zero, List.set_cons_succ]
          clear hS
          refine wpAnyH_take (i := 7) (oi := _) (v := ?fv7h7n23) (by simp only [List.getElem?_toArray, List.getElem?_cons_zero, List.getElem?_cons_succ]; rfl) (by kernel_rfl) (by kernel_rfl) (by kernel_rfl) (fun _ _ _ h => h) (Or.inl ⟨by rfl, ?fy7h7n23⟩) (by assumption) ?fr7h7n23
          case fy7h7n23 => (intro w hSw; (try dsimp only [SB1] at hSw); go_simp; try with_reducible rfl)
          try simp only [Act.put, List.setIfInBounds_toArray, List.set_cons_zero, List.set_cons_succ]
          refine wpAnyH_take (i := 8) (oi := _) (v := ?fv8h7n23) (by simp only [List.getElem?_toArray, List.getElem?_cons_zero, List.getElem?_cons_succ]; rfl) (by kernel_rfl) (by kernel_rfl) (by kernel_rfl) (fun _ _ _ h => h) (Or.inl ⟨by rfl, ?fy8h7n23⟩) (by assumption) ?fr8h7n23
          case fy8h7n23 => (intro w hSw; (try dsimp only [SB1] at hSw); go_simp; try with_reducible rfl)
          try simp only [Act.put, List.setIfInBounds_toArray, List.set_cons_zero, List.set_cons_succ]
          refine wpAnyH_take (i := 9) (oi := _) (v := ?fv9h7n23) (by simp only [List.getElem?_toArray, List.getElem?_cons_zero, List.getElem?_cons_succ]; rfl) (by kernel_rfl) (by kernel_rfl) (by kernel_rfl) (fun _ _ _ h => h) (Or.inl ⟨by rfl, ?fy9h7n23⟩) (by assumption) ?fr9h7n23
          case fy9h7n23 => (intro w hSw; (try dsimp only [SB1] at hSw); go_simp; try with_reducible rfl)
          try simp only [Act.put, List.setIfInBounds_toArray, List.set_cons_zero, List.set_cons_succ]
          obtain ⟨t0, t1⟩ := brow (HR.out.r10 _ rfl).1
          obtain ⟨f0, f1⟩ := bfz (HR.out.r10 _ rfl).1
          refine wpAnyH_ready (rs := [11]) (by kernel_rfl) (by simp) ?_
          refine AllReadyH.cons (o := _) rfl (fun K hK => ?_) AllReadyH.nil
          go_simp
          have HE := Lib.hid (R14.ends (y := (ya, yb)) HR.out)
          have hS := HSF.out _ HE.out.1
          refine hK.out _ _ hS (fun hHeld => ?_)
          clear hK K
          try simp only [Act.put, List.setIfInBounds_toArray, List.set_cons_zero, List.set_cons_succ]
          refine wpAnyH_take (i := 12) (oi := _) (v := ?fv12h7n24) (by simp only [List.getElem?_toArray, List.getElem?_cons_zero, List.getElem?_cons_succ]; rfl) (by kernel_rfl) (by kernel_rfl) (by kernel_rfl) (fun _ _ _ h => h) (Or.inl ⟨by rfl, ?fy12h7n24⟩) (by assumption) ?fr12h7n24
          case fy12h7n24 => (intro w hSw; (try dsimp only [SB1] at hSw); go_simp; try with_reducible rfl)
          try simp only [Act.put, List.setIfInBounds_toArray, List.set_cons_zero, List.set_cons_succ]
          refine wpAnyH_done (by kernel_rfl) ?_ _
          refine NoPanic.normal ?_
          clear hHeld hS t0 t1 f0 f1
          go_wp2_with fail
          go_meet
          exact ⟨_, rfl, rfl, HE.out.2, HE.out.1⟩
        refine AllReadyH.cons (o := _) (by simp only [List.getElem?_toArray, List.getElem?_cons_zero, List.getElem?_cons_succ]; rfl) (fun K hK => ?_) AllReadyH.nil
        go_simp
        replace HR := Lib.hid (R14.new10 HR.out)
        dsimp only [bidBox] at HR
        have hS := HSF.out _ HR.out.f
        refine hK.out _ _ hS (fun hHeld => ?_)
        clear hK K
        try simp only [Act.put, List.setIfInBounds_toArray, List.set_cons_zero, List.set_cons_succ]
        clear hS
        generalize World.alloc W1 _ = W2 at HR hHeld ⊢
        refine wpAnyH_ready (rs := [2, 4]) (by kernel_rfl) (by simp) ?_
        refine AllReadyH.cons (o := _) (by simp only [List.getElem?_toArray, List.getElem?_cons_zero, List.getElem?_cons_succ]; rfl) (fun K hK => ?_) ?_
        focus
          refine step_append_lies _ (by rfl) _ _ _ (by rfl) wr.heap.size 24 i0 (.agg #[.int .i64 0, .int .i64 0]) 2 16 Try.underlying22 hi0 hz0 hz1 hz2 rfl (by decide) (.slice (some ⟨W0.heap.size, 0, none⟩) 0 0) 0 [] (by rfl) (HR.out.own _ _ rfl) ⟨bk, off, none⟩ i c (bdc l) (by rfl) HBL.out (HCL.out _ HR.out.f) (bdc_one l) (by omega) (by unfold maxLen; omega) (by omega) HR.out.f.size _ rfl ?_
          intro g2 cap2 W3 hown hgr hor _
          rw [Nat.zero_add] at hown ⊢
          replace HR := Lib.hid (R14.app (M := l) HR.out HLN.out.symm rfl hown hgr hor)
          clear hown hgr hor
          have hS := HSF.out _ HR.out.f
          refine hK.out _ _ hS (fun hHeld => ?_)
          clear hK K
          try simp only [Act.put, List.setIfInBounds_toArray, List.set_cons_zero, List.set_cons_succ]
          clear hS
          refine wpAnyH_ready (rs := [4]) (by kernel_rfl) (by simp) ?_
          refine AllReadyH.cons (o := _) (by simp only [List.getElem?_toArray, List.getElem?_cons_zero, List.getElem?_cons_succ]; rfl) (fun K hK => ?_) AllReadyH.nil
          go_simp
          replace HR := Lib.hid (R14.new4 HR.out)
          dsimp only [bidBox] at HR
          have hS := HSF.out _ HR.out.f
          refine hK.out _ _ hS (fun hHeld => ?_)
          clear hK K
          try simp only [Act.put, List.setIfInBounds_toArray, List.set_cons_zero, List.set_cons_succ]
          clear hS
          generalize World.alloc W3 _ = W4 at HR hHeld ⊢
          refine wpAnyH_ready (rs := [5]) (by kernel_rfl) (by simp) ?_
          refine AllReadyH.cons (o := _) (by simp only [List.getElem?_toArray, List.getElem?_cons_zero, List.getElem?_cons_succ]; rfl) (fun K hK => ?_) AllReadyH.nil
          refine step_append_lies _ (by rfl) _ _ _ (by rfl) wr.heap.size 24 i0 (.agg #[.int .i64 0, .int .i64 0]) 2 16 Try.underlying22 hi0 hz0 hz1 hz2 rfl (by decide) (.slice (some ⟨g2, 0, none⟩) i cap2) i (bdc l) (by rfl) (by have := HR.out.own _ _ rfl; unfold OwnB at this; rw [HLN.out] at this; exact this) ⟨W3.heap.size, 0, none⟩ 1 1 [.int .i64 ba, .int .i64 bb] (by rfl) rfl (bid_cells (b := (ba, bb)) (HR.out.r4 _ rfl).1) (bid_one (ba, bb)) (by omega) (by unfold maxLen; omega) (by omega) HR.out.f.size _ rfl ?_
          intro g5 cap5 W5 hown hgr hor _
          replace HR := Lib.hid (R14.app (M := l ++ [(ba, bb)]) HR.out (by rw [List.length_append, HLN.out]; rfl) (by rw [bdc_snoc]) hown hgr hor)
          clear hown hgr hor
          have hS := HSF.out _ HR.out.f
          refine hK.out _ _ hS (fun hHeld => ?_)
          clear hK K
          try simp only [Act.put, List.setIfInBounds_toArray, List.set_cons_zero, List.set_cons_succ]
          clear hS
          refine wpAnyH_ready (rs := [6]) (by kernel_rfl) (by simp) ?_
          refine AllReadyH.cons (o := _) (by simp only [List.getElem?_toArray, List.getElem?_cons_zero, List.getElem?_cons_succ]; rfl) (fun K hK => ?_) AllReadyH.nil
          go_simp
          with_reducible refine (LE2.out _ _ (by have := (HR.out.own _ _ rfl).holds; exact this)).mono ?_
          rintro e W6 ⟨rfl, hf⟩
          replace HR := Lib.hid (HR.out.fr hf)
          have hS := HSF.out _ HR.out.f
          clear hf
          go_wp2_with fail
          refine hK.out _ _ hS (fun hHeld => ?_)
          clear hK K
          try simp only [Act.put, List.setIfInBounds_toArray, List.set_cons_zero, List.set_cons_succ]
          clear hS
          refine wpAnyH_take (i := 7) (oi := _) (v := ?fv7h7n25) (by simp only [List.getElem?_toArray, List.getElem?_cons_zero, List.getElem?_cons_succ]; rfl) (by kernel_rfl) (by kernel_rfl) (by kernel_rfl) (fun _ _ _ h => h) (Or.inl ⟨by rfl, ?fy7h7n25⟩) (by assumption) ?fr7h7n25
          case fy7h7n25 => (intro w hSw; (try dsimp only [SB1] at hSw); go_simp; try with_reducible rfl)
          try simp only [Act.put, List.setIfInBounds_toArray, List.set_cons_zero, List.set_cons_succ]
          refine wpAnyH_take (i := 8) (oi := _) (v := ?fv8h7n25) (by simp only [List.getElem?_toArray, List.getElem?_cons_zero, List.getElem?_cons_succ]; rfl) (by kernel_rfl) (by kernel_rfl) (by kernel_rfl) (fun _ _ _ h => h) (Or.inl ⟨by rfl, ?fy8h7n25⟩) (by assumption) ?fr8h7n25
          case fy8h7n25 => (intro w hSw; (try dsimp only [SB1] at hSw); go_simp; try with_reducible rfl)
          try simp only [Act.put, List.setIfInBounds_toArray, List.set_cons_zero, List.set_cons_succ]
          refine wpAnyH_take (i := 9) (oi := _) (v := ?fv9h7n25) (by simp only [List.getElem?_toArray, List.getElem?_cons_zero, List.getElem?_cons_succ]; rfl) (by kernel_rfl) (by kernel_rfl) (by kernel_rfl) (fun _ _ _ h => h) (Or.inl ⟨by rfl, ?fy9h7n25⟩) (by assumption) ?fr9h7n25
          case fy9h7n25 => (intro w hSw; (try dsimp only [SB1] at hSw); go_simp; try with_reducible rfl)
          try simp only [Act.put, List.setIfInBounds_toArray, List.set_cons_zero, List.set_cons_succ]
          obtain ⟨t0, t1⟩ := brow (HR.out.r10 _ rfl).1
          obtain ⟨f0, f1⟩ := bfz (HR.out.r10 _ rfl).1
          refine wpAnyH_ready (rs := [11]) (by kernel_rfl) (by simp) ?_
          refine AllReadyH.cons (o := _) rfl (fun K hK => ?_) AllReadyH.nil
          go_simp
          have HE := Lib.hid (R14.ends (y := (ya, yb)) HR.out)
          have hS := HSF.out _ HE.out.1
          refine hK.out _ _ hS (fun hHeld => ?_)
          clear hK K
          try simp only [Act.put, List.setIfInBounds_toArray, List.set_cons_zero, List.set_cons_succ]
          refine wpAnyH_take (i := 12) (oi := _) (v := ?fv12h7n26) (by simp only [List.getElem?_toArray, List.getElem?_cons_zero, List.getElem?_cons_succ]; rfl) (by kernel_rfl) (by kernel_rfl) (by kernel_rfl) (fun _ _ _ h => h) (Or.inl ⟨by rfl, ?fy12h7n26⟩) (by assumption) ?fr12h7n26
          case fy12h7n26 => (intro w hSw; (try dsimp only [SB1] at hSw); go_simp; try with_reducible rfl)
          try simp only [Act.put, List.setIfInBounds_toArray, List.set_cons_zero, List.set_cons_succ]
          refine wpAnyH_done (by kernel_rfl) ?_ _
          refine NoPanic.normal ?_
          clear hHeld hS t0 t1 f0 f1
          go_wp2_with fail
          go_meet
          exact ⟨_, rfl, rfl, HE.out.2, HE.out.1⟩
        refine AllReadyH.cons (o := _) (by simp only [List.getElem?_toArray, List.getElem?_cons_zero, List.getElem?_cons_succ]; rfl) (fun K hK => ?_) AllReadyH.nil
        go_simp
        replace HR := Lib.hid (R14.new4 HR.out)
        dsimp only [bidBox] at HR
        have hS := HSF.out _ HR.out.f
        refine hK.out _ _ hS (fun hHeld => ?_)
        clear hK K
        try simp only [Act.put, List.setIfInBounds_toArray, List.set_cons_zero, List.set_cons_succ]
        clear hS
        generalize World.alloc W2 _ = W3 at HR hHeld ⊢
        refine wpAnyH_ready (rs := [2]) (by kernel_rfl) (by simp) ?_
        refine AllReadyH.cons (o := _) (by simp only [List.getElem?_toArray, List.getElem?_cons_zero, List.getElem?_cons_succ]; rfl) (fun K hK => ?_) AllReadyH.nil
        refine step_append_lies _ (by rfl) _ _ _ (by rfl) wr.heap.size 24 i0 (.agg #[.int .i64 0, .int .i64 0]) 2 16 Try.underlying22 hi0 hz0 hz1 hz2 rfl (by decide) (.slice (some ⟨W0.heap.size, 0, none⟩) 0 0) 0 [] (by rfl) (HR.out.own _ _ rfl) ⟨bk, off, none⟩ i c (bdc l) (by rfl) HBL.out (HCL.out _ HR.out.f) (bdc_one l) (by omega) (by unfold maxLen; omega) (by omega) HR.out.f.size _ rfl ?_
        intro g2 cap2 W4 hown hgr hor _
        rw [Nat.zero_add] at hown ⊢
        replace HR := Lib.hid (R14.app (M := l) HR.out HLN.out.symm rfl hown hgr hor)
        clear hown hgr hor
        have hS := HSF.out _ HR.out.f
        refine hK.out _ _ hS (fun hHeld => ?_)
        clear hK K
        try simp only [Act.put, List.setIfInBounds_toArray, List.set_cons_zero, List.set_cons_succ]
        clear hS
        refine wpAnyH_ready (rs := [5]) (by kernel_rfl) (by simp) ?_
        refine AllReadyH.cons (o := _) (by simp only [List.getElem?_toArray, List.getElem?_cons_zero, List.getElem?_cons_succ]; rfl) (fun K hK => ?_) AllReadyH.nil
        refine step_append_lies _ (by rfl) _ _ _ (by rfl) wr.heap.size 24 i0 (.agg #[.int .i64 0, .int .i64 0]) 2 16 Try.underlying22 hi0 hz0 hz1 hz2 rfl (by decide) (.slice (some ⟨g2, 0, none⟩) i cap2) i (bdc l) (by rfl) (by have := HR.out.own _ _ rfl; unfold OwnB at this; rw [HLN.out] at this; exact this) ⟨W2.heap.size, 0, none⟩ 1 1 [.int .i64 ba, .int .i64 bb] (by rfl) rfl (bid_cells (b := (ba, bb)) (HR.out.r4 _ rfl).1) (bid_one (ba, bb)) (by omega) (by unfold maxLen; omega) (by omega) HR.out.f.size _ rfl ?_
        intro g5 cap5 W5 hown hgr hor _
        replace HR := Lib.hid (R14.app (M := l ++ [(ba, bb)]) HR.out (by rw [List.length_append, HLN.out]; rfl) (by rw [bdc_snoc]) hown hgr hor)
        clear hown hgr hor
        have hS := HSF.out _ HR.out.f
        refine hK.out _ _ hS (fun hHeld => ?_)
        clear hK K
        try simp only [Act.put, List.setIfInBounds_toArray, List.set_cons_zero, List.set_cons_succ]
        clear hS
        refine wpAnyH_ready (rs := [6]) (by kernel_rfl) (by simp) ?_
        refine AllReadyH.cons (o := _) (by simp only [List.getElem?_toArray, List.getElem?_cons_zero, List.getElem?_cons_succ]; rfl) (fun K hK => ?_) AllReadyH.nil
        go_simp
        with_reducible refine (LE2.out _ _ (by have := (HR.out.own _ _ rfl).holds; exact this)).mono ?_
        rintro e W6 ⟨rfl, hf⟩
        replace HR := Lib.hid (HR.out.fr hf)
        have hS := HSF.out _ HR.out.f
        clear hf
        go_wp2_with fail
        refine hK.out _ _ hS (fun hHeld => ?_)
        clear hK K
        try simp only [Act.put, List.setIfInBounds_toArray, List.set_cons_zero, List.set_cons_succ]
        clear hS
        refine wpAnyH_take (i := 7) (oi := _) (v := ?fv7h7n27) (by simp only [List.getElem?_toArray, List.getElem?_cons_zero, List.getElem?_cons_succ]; rfl) (by kernel_rfl) (by kernel_rfl) (by kernel_rfl) (fun _ _ _ h => h) (Or.inl ⟨by rfl, ?fy7h7n27⟩) (by assumption) ?fr7h7n27
        case fy7h7n27 => (intro w hSw; (try dsimp only [SB1] at hSw); go_simp; try with_reducible rfl)
        try simp only [Act.put, List.setIfInBounds_toArray, List.set_cons_zero, List.set_cons_succ]
        refine wpAnyH_take (i := 8) (oi := _) (v := ?fv8h7n27) (by simp only [List.getElem?_toArray, List.getElem?_cons_zero, List.getElem?_cons_succ]; rfl) (by kernel_rfl) (by kernel_rfl) (by kernel_rfl) (fun _ _ _ h => h) (Or.inl ⟨by rfl, ?fy8h7n27⟩) (by assumption) ?fr8h7n27
        case fy8h7n27 => (intro w hSw; (try dsimp only [SB1] at hSw); go_simp; try with_reducible rfl)
        try simp only [Act.put, List.setIfInBounds_toArray, List.set_cons_zero, List.set_cons_succ]
        refine wpAnyH_take (i := 9) (oi := _) (v := ?fv9h7n27) (by simp only [List.getElem?_toArray, List.getElem?_cons_zero, List.getElem?_cons_succ]; rfl) (by kernel_rfl) (by kernel_rfl) (by kernel_rfl) (fun _ _ _ h => h) (Or.inl ⟨by rfl, ?fy9h7n27⟩) (by assumption) ?fr9h7n27
        case fy9h7n27 => (intro w hSw; (try dsimp only [SB1] at hSw); go_simp; try with_reducible rfl)
        try simp only [Act.put, List.setIfInBounds_toArray, List.set_cons_zero, List.set_cons_succ]
        obtain ⟨t0, t1⟩ := brow (HR.out.r10 _ rfl).1
        obtain ⟨f0, f1⟩ := bfz (HR.out.r10 _ rfl).1
        refine wpAnyH_ready (rs := [11]) (by kernel_rfl) (by simp) ?_
        refine AllReadyH.cons (o := _) rfl (fun K hK => ?_) AllReadyH.nil
        go_simp
        have HE := Lib.hid (R14.ends (y := (ya, yb)) HR.out)
        have hS := HSF.out _ HE.out.1
        refine hK.out _ _ hS (fun hHeld => ?_)
        clear hK K
        try simp only [Act.put, List.setIfInBounds_toArray, List.set_cons_zero, List.set_cons_succ]
        refine wpAnyH_take (i := 12) (oi := _) (v := ?fv12h7n28) (by simp only [List.getElem?_toArray, List.getElem?_cons_zero, List.getElem?_cons_succ]; rfl) (by kernel_rfl) (by kernel_rfl) (by kernel_rfl) (fun _ _ _ h => h) (Or.inl ⟨by rfl, ?fy12h7n28⟩) (by assumption) ?fr12h7n28
        case fy12h7n28 => (intro w hSw; (try dsimp only [SB1] at hSw); go_simp; try with_reducible rfl)
        try simp only [Act.put, List.setIfInBounds_toArray, List.set_cons_zero, List.set_cons_succ]
        refine wpAnyH_done (by kernel_rfl) ?_ _
        refine NoPanic.normal ?_
        clear hHeld hS t0 t1 f0 f1
        go_wp2_with fail
        go_meet
        exact ⟨_, rfl, rfl, HE.out.2, HE.out.1⟩
      refine AllReadyH.cons (o := _) (by simp only [List.getElem?_toArray, List.getElem?_cons_zero, List.getElem?_cons_succ]; rfl) (fun K hK => ?_) ?_
      focus
        go_simp
        replace HR := Lib.hid (R14.new4 HR.out)
        dsimp only [bidBox] at HR
        have hS := HSF.out _ HR.out.f
        refine hK.out _ _ hS (fun hHeld => ?_)
        clear hK K
        try simp only [Act.put, List.setIfInBounds_toArray, List.set_cons_zero, List.set_cons_succ]
        clear hS
        generalize World.alloc W0 _ = W1 at HR hHeld ⊢
        refine wpAnyH_ready (rs := [0, 10]) (by kernel_rfl) (by simp) ?_
        refine AllReadyH.cons (o := _) (by simp only [List.getElem?_toArray, List.getElem?_cons_zero, List.getElem?_cons_succ]; rfl) (fun K hK => ?_) ?_
        focus
          go_simp
          replace HR := Lib.hid (R14.new0 HR.out)
          have hS := HSF.out _ HR.out.f
          refine hK.out _ _ hS (fun hHeld => ?_)
          clear hK K
          try simp only [Act.put, List.setIfInBounds_toArray, List.set_cons_zero, List.set_cons_succ]
          clear hS
          generalize World.alloc W1 _ = W2 at HR hHeld ⊢
          refine wpAnyH_ready (rs := [2, 10]) (by kernel_rfl) (by simp) ?_
          refine AllReadyH.cons (o := _) (by simp only [List.getElem?_toArray, List.getElem?_cons_zero, List.getElem?_cons_succ]; rfl) (fun K hK => ?_) ?_
          focus
            refine step_append_lies _ (by rfl) _ _ _ (by rfl) wr.heap.size 24 i0 (.agg #[.int .i64 0, .int .i64 0]) 2 16 Try.underlying22 hi0 hz0 hz1 hz2 rfl (by decide) (.slice (some ⟨W1.heap.size, 0, none⟩) 0 0) 0 [] (by rfl) (HR.out.own _ _ rfl) ⟨bk, off, none⟩ i c (bdc l) (by rfl) HBL.out (HCL.out _ HR.out.f) (bdc_one l) (by omega) (by unfold maxLen; omega) (by omega) HR.out.f.size _ rfl ?_
            intro g2 cap2 W3 hown hgr hor _
            rw [Nat.zero_add] at hown ⊢
            replace HR := Lib.hid (R14.app (M := l) HR.out HLN.out.symm rfl hown hgr hor)
            clear hown hgr hor
            have hS := HSF.out _ HR.out.f
            refine hK.out _ _ hS (fun hHeld => ?_)
            clear hK K
            try simp only [Act.put, List.setIfInBounds_toArray, List.set_cons_zero, List.set_cons_succ]
            clear hS
            refine wpAnyH_ready (rs := [5, 10]) (by kernel_rfl) (by simp) ?_
            refine AllReadyH.cons (o := _) (by simp only [List.getElem?_toArray, List.getElem?_cons_zero, List.getElem?_cons_succ]; rfl) (fun K hK => ?_) ?_
            focus
              refine step_append_lies _ (by rfl) _ _ _ (by rfl) wr.heap.size 24 i0 (.agg #[.int .i64 0, .int .i64 0]) 2 16 Try.underlying22 hi0 hz0 hz1 hz2 rfl (by decide) (.slice (some ⟨g2, 0, none⟩) i cap2) i (bdc l) (by rfl) (by have := HR.out.own _ _ rfl; unfold OwnB at this; rw [HLN.out] at this; exact this) ⟨W0.heap.size, 0, none⟩ 1 1 [.int .i64 ba, .int .i64 bb] (by rfl) rfl (bid_cells (b := (ba, bb)) (HR.out.r4 _ rfl).1) (bid_one (ba, bb)) (by omega) (by unfold maxLen; omega) (by omega) HR.out.f.size _ rfl ?_
              intro g5 cap5 W4 hown hgr hor _
              replace HR := Lib.hid (R14.app (M := l ++ [(ba, bb)]) HR.out (by rw [List.length_append, HLN.out]; rfl) (by rw [bdc_snoc]) hown hgr hor)
              clear hown hgr hor
              have hS := HSF.out _ HR.out.f
              refine hK.out _ _ hS (fun hHeld => ?_)
              clear hK K
              try simp only [Act.put, List.setIfInBounds_toArray, List.set_cons_zero, List.set_cons_succ]
              clear hS
              refine wpAnyH_ready (rs := [6, 10]) (by kernel_rfl) (by simp) ?_
              refine AllReadyH.cons (o := _) (by simp only [List.getElem?_toArray, List.getElem?_cons_zero, List.getElem?_cons_succ]; rfl) (fun K hK => ?_) ?_
              focus
                go_simp
                with_reducible refine (LE2.out _ _ (by have := (HR.out.own _ _ rfl).holds; exact this)).mono ?_
                rintro e W5 ⟨rfl, hf⟩
                replace HR := Lib.hid (HR.out.fr hf)
                have hS := HSF.out _ HR.out.f
                clear hf
                go_wp2_with fail
                refine hK.out _ _ hS (fun hHeld => ?_)
                clear hK K
                try simp only [Act.put, List.setIfInBounds_toArray, List.set_cons_zero, List.set_cons_succ]
                clear hS
                refine wpAnyH_take (i := 7) (oi := _) (v := ?fv7h7n29) (by simp only [List.getElem?_toArray, List.getElem?_cons_zero, List.getElem?_cons_succ]; rfl) (by kernel_rfl) (by kernel_rfl) (by kernel_rfl) (fun _ _ _ h => h) (Or.inl ⟨by rfl, ?fy7h7n29⟩) (by assumption) ?fr7h7n29
                case fy7h7n29 => (intro w hSw; (try dsimp only [SB1] at hSw); go_simp; try with_reducible rfl)
                try simp only [Act.put, List.setIfInBounds_toArray, List.set_cons_zero, List.set_cons_succ]
                refine wpAnyH_take (i := 8) (oi := _) (v := ?fv8h7n29) (by simp only [List.getElem?_toArray, List.getElem?_cons_zero, List.getElem?_cons_succ]; rfl) (by kernel_rfl) (by kernel_rfl) (by kernel_rfl) (fun _ _ _ h => h) (Or.inl ⟨by rfl, ?fy8h7n29⟩) (by assumption) ?fr8h7n29
                case fy8h7n29 => (intro w hSw; (try dsimp only [SB1] at hSw); go_simp; try with_reducible rfl)
                try simp only [Act.put, List.setIfInBounds_toArray, List.set_cons_zero, List.set_cons_succ]
                refine wpAnyH_take (i := 9) (oi := _) (v := ?fv9h7n29) (by simp only [List.getElem?_toArray, List.getElem?_cons_zero, List.getElem?_cons_succ]; rfl) (by kernel_rfl) (by kernel_rfl) (by kernel_rfl) (fun _ _ _ h => h) (Or.inl ⟨by rfl, ?fy9h7n29⟩) (by assumption) ?fr9h7n29
                case fy9h7n29 => (intro w hSw; (try dsimp only [SB1] at hSw); go_simp; try with_reducible rfl)
                try simp only [Act.put, List.setIfInBounds_toArray, List.set_cons_zero, List.set_cons_succ]
                refine wpAnyH_ready (rs := [10]) (by kernel_rfl) (by simp) ?_
                refine AllReadyH.cons (o := _) (by simp only [List.getElem?_toArray, List.getElem?_cons_zero, List.getElem?_cons_succ]; rfl) (fun K hK => ?_) AllReadyH.nil
                go_simp
                replace HR := Lib.hid (R14.new10 HR.out)
                dsimp only [bidBox] at HR
                have hS := HSF.out _ HR.out.f
                refine hK.out _ _ hS (fun hHeld => ?_)
                clear hK K
                try simp only [Act.put, List.setIfInBounds_toArray, List.set_cons_zero, List.set_cons_succ]
                clear hS
                generalize World.alloc W5 _ = W6 at HR hHeld ⊢
                obtain ⟨t0, t1⟩ := brow (HR.out.r10 _ rfl).1
                obtain ⟨f0, f1⟩ := bfz (HR.out.r10 _ rfl).1
                refine wpAnyH_ready (rs := [11]) (by kernel_rfl) (by simp) ?_
                refine AllReadyH.cons (o := _) rfl (fun K hK => ?_) AllReadyH.nil
                go_simp
                have HE := Lib.hid (R14.ends (y := (ya, yb)) HR.out)
                have hS := HSF.out _ HE.out.1
                refine hK.out _ _ hS (fun hHeld => ?_)
                clear hK K
                try simp only [Act.put, List.setIfInBounds_toArray, List.set_cons_zero, List.set_cons_succ]
                refine wpAnyH_take (i := 12) (oi := _) (v := ?fv12h7n30) (by simp only [List.getElem?_toArray, List.getElem?_cons_zero, List.getElem?_cons_succ]; rfl) (by kernel_rfl) (by kernel_rfl) (by kernel_rfl) (fun _ _ _ h => h) (Or.inl ⟨by rfl, ?fy12h7n30⟩) (by assumption) ?fr12h7n30
                case fy12h7n30 => (intro w hSw; (try dsimp only [SB1] at hSw); go_simp; try with_reducible rfl)
                try simp only [Act.put, List.setIfInBounds_toArray, List.set_cons_zero, List.set_cons_succ]
                refine wpAnyH_done (by kernel_rfl) ?_ _
                refine NoPanic.normal ?_
                clear hHeld hS t0 t1 f0 f1
                go_wp2_with fail
                go_meet
                exact ⟨_, rfl, rfl, HE.out.2, HE.out.1⟩
              refine AllReadyH.cons (o := _) (by simp only [List.getElem?_toArray, List.getElem?_cons_zero, List.getElem?_cons_succ]; rfl) (fun K hK => ?_) AllReadyH.nil
              go_simp
              replace HR := Lib.hid (R14.new10 HR.out)
              dsimp only [bidBox] at HR
              have hS := HSF.out _ HR.out.f
              refine hK.out _ _ hS (fun hHeld => ?_)
              clear hK K
              try simp only [Act.put, List.setIfInBounds_toArray, List.set_cons_zero, List.set_cons_succ]
              clear hS
              generalize World.alloc W4 _ = W5 at HR hHeld ⊢
              refine wpAnyH_ready (rs := [6]) (by kernel_rfl) (by simp) ?_
              refine AllReadyH.cons (o := _) (by simp only [List.getElem?_toArray, List.getElem?_cons_zero, List.getElem?_cons_succ]; rfl) (fun K hK => ?_) AllReadyH.nil
              go_simp
              with_reducible refine (LE2.out _ _ (by have := (HR.out.own _ _ rfl).holds; exact this)).mono ?_
              rintro e W6 ⟨rfl, hf⟩
              replace HR := Lib.hid (HR.out.fr hf)
              have hS := HSF.out _ HR.out.f
              clear hf
              go_wp2_with fail
              refine hK.out _ _ hS (fun hHeld => ?_)
              clear hK K
              try simp only [Act.put, List.setIfInBounds_toArray, List.set_cons_zero, List.set_cons_succ]
              clear hS
              refine wpAnyH_take (i := 7) (oi := _) (v := ?fv7h7n31) (by simp only [List.getElem?_toArray, List.getElem?_cons_zero, List.getElem?_cons_succ]; rfl) (by kernel_rfl) (by kernel_rfl) (by kernel_rfl) (fun _ _ _ h => h) (Or.inl ⟨by rfl, ?fy7h7n31⟩) (by assumption) ?fr7h7n31
              case fy7h7n31 => (intro w hSw; (try dsimp only [SB1] at hSw); go_simp; try with_reducible rfl)
              try simp only [Act.put, List.setIfInBounds_toArray, List.set_cons_zero, List.set_cons_succ]
              refine wpAnyH_take (i := 8) (oi := _) (v := ?fv8h7n31) (by simp only [List.getElem?_toArray, List.getElem?_cons_zero, List.getElem?_cons_succ]; rfl) (by kernel_rfl) (by kernel_rfl) (by kernel_rfl) (fun _ _ _ h => h) (Or.inl ⟨by rfl, ?fy8h7n31⟩) (by assumption) ?fr8h7n31
              case fy8h7n31 => (intro w hSw; (try dsimp only [SB1] at hSw); go_simp; try with_reducible rfl)
              try simp only [Act.put, List.setIfInBounds_toArray, List.set_cons_zero, List.set_cons_succ]
              refine wpAnyH_take (i := 9) (oi := _) (v := ?fv9h7n31) (by simp only [List.getElem?_toArray, List.getElem?_cons_zero, List.getElem?_cons_succ]; rfl) (by kernel_rfl) (by kernel_rfl) (by kernel_rfl) (fun _ _ _ h => h) (Or.inl ⟨by rfl, ?fy9h7n31⟩) (by assumption) ?fr9h7n31
              case fy9h7n31 => (intro w hSw; (try dsimp only [SB1] at hSw); go_simp; try with_reducible rfl)
              try simp only [Act.put, List.setIfInBounds_toArray, List.set_cons_zero, List.set_cons_succ]
              obtain ⟨t0, t1⟩ := brow (HR.out.r10 _ rfl).1
              obtain ⟨f0, f1⟩ := bfz (HR.out.r10 _ rfl).1
              refine wpAnyH_ready (rs := [11]) (by kernel_rfl) (by simp) ?_
              refine AllReadyH.cons (o := _) rfl (fun K hK => ?_) AllReadyH.nil
              go_simp
              have HE := Lib.hid (R14.ends (y := (ya, yb)) HR.out)
              have hS := HSF.out _ HE.out.1
              refine hK.out _ _ hS (fun hHeld => ?_)
              clear hK K
              try simp only [Act.put, List.setIfInBounds_toArray, List.set_cons_zero, List.set_cons_succ]
              refine wpAnyH_take (i := 12) (oi := _) (v := ?fv12h7n32) (by simp only [List.getElem?_toArray, List.getElem?_cons_zero, List.getElem?_cons_succ]; rfl) (by kernel_rfl) (by kernel_rfl) (by kernel_rfl) (fun _ _ _ h => h) (Or.inl ⟨by rfl, ?fy12h7n32⟩) (by assumption) ?fr12h7n32
              case fy12h7n32 => (intro w hSw; (try dsimp only [SB1] at hSw); go_simp; try with_reducible rfl)
              try simp only [Act.put, List.setIfInBounds_toArray, List.set_cons_zero, List.set_cons_succ]
              refine wpAnyH_done (by kernel_rfl) ?_ _
              refine NoPanic.normal ?_
              clear hHeld hS t0 t1 f0 f1
              go_wp2_with fail
              go_meet
              exact ⟨_, rfl, rfl, HE.out.2, HE.out.1⟩
            refine AllReadyH.cons (o := _) (by simp only [List.getElem?_toArray, List.getElem?_cons_zero, List.getElem?_cons_succ]; rfl) (fun K hK => ?_) AllReadyH.nil
            go_simp
            replace HR := Lib.hid (R14.new10 HR.out)
            dsimp only [bidBox] at HR
            have hS := HSF.out _ HR.out.f
            refine hK.out _ _ hS (fun hHeld => ?_)
            clear hK K
            try simp only [Act.put, List.setIfInBounds_toArray, List.set_cons_zero, List.set_cons_succ]
            clear hS
            generalize World.alloc W3 _ = W4 at HR hHeld ⊢
            refine wpAnyH_ready (rs := [5]) (by kernel_rfl) (by simp) ?_
            refine AllReadyH.cons (o := _) (by simp only [List.getElem?_toArray, List.getElem?_cons_zero, List.getElem?_cons_succ]; rfl) (fun K hK => ?_) AllReadyH.nil
            refine step_append_lies _ (by rfl) _ _ _ (by rfl) wr.heap.size 24 i0 (.agg #[.int .i64 0, .int .i64 0]) 2 16 Try.underlying22 hi0 hz0 hz1 hz2 rfl (by decide) (.slice (some ⟨g2, 0, none⟩) i cap2) i (bdc l) (by rfl) (by have := HR.out.own _ _ rfl; unfold OwnB at this; rw [HLN.out] at this; exact this) ⟨W0.heap.size, 0, none⟩ 1 1 [.int .i64 ba, .int .i64 bb] (by rfl) rfl (bid_cells (b := (ba, bb)) (HR.out.r4 _ rfl).1) (bid_one (ba, bb)) (by omega) (by unfold maxLen; omega) (by omega) HR.out.f.size _ rfl ?_
            intro g5 cap5 W5 hown hgr hor _
            replace HR := Lib.hid (R14.app (M := l ++ [(ba, bb)]) HR.out (by rw [List.length_append, HLN.out]; rfl) (by rw [bdc_snoc]) hown hgr hor)
            clear hown hgr hor
            have hS := HSF.out _ HR.out.f
            refine hK.out _ _ hS (fun hHeld => ?_)
            clear hK K
            try simp only [Act.put, List.setIfInBounds_toArray, List.set_cons_zero, List.set_cons_succ]
            clear hS
            refine wpAnyH_ready (rs := [6]) (by kernel_rfl) (by simp) ?_
            refine AllReadyH.cons (o := _) (by simp only [List.getElem?_toArray, List.getElem?_cons_zero, List.getElem?_cons_succ]; rfl) (fun K hK => ?_) AllReadyH.nil
            go_simp
            with_reducible refine (LE2.out _ _ (by have := (HR.out.own _ _ rfl).holds; exact this)).mono ?_
            rintro e W6 ⟨rfl, hf⟩
            replace HR := Lib.hid (HR.out.fr hf)
            have hS := HSF.out _ HR.out.f
            clear hf
            go_wp2_with fail
            refine hK.out _ _ hS (fun hHeld => ?_)
            clear hK K
            try simp only [Act.put, List.setIfInBounds_toArray, List.set_cons_zero, List.set_cons_succ]
            clear hS
            refine wpAnyH_take (i := 7) (oi := _) (v := ?fv7h7n33) (by simp only [List.getElem?_toArray, List.getElem?_cons_zero, List.getElem?_cons_succ]; rfl) (by kernel_rfl) (by kernel_rfl) (by kernel_rfl) (fun _ _ _ h => h) (Or.inl ⟨by rfl, ?fy7h7n33⟩) (by assumption) ?fr7h7n33
            case fy7h7n33 => (intro w hSw; (try dsimp only [SB1] at hSw); go_simp; try with_reducible rfl)
            try simp only [Act.put, List.setIfInBounds_toArray, List.set_cons_zero, List.set_cons_succ]
            refine wpAnyH_take (i := 8) (oi := _) (v := ?fv8h7n33) (by simp only [List.getElem?_toArray, List.getElem?_cons_zero, List.getElem?_cons_succ]; rfl) (by kernel_rfl) (by kernel_rfl) (by kernel_rfl) (fun _ _ _ h => h) (Or.inl ⟨by rfl, ?fy8h7n33⟩) (by assumption) ?fr8h7n33
            case fy8h7n33 => (intro w hSw; (try dsimp only [SB1] at hSw); go_simp; try with_reducible rfl)
            try simp only [Act.put, List.setIfInBounds_toArray, List.set_cons_zero, List.set_cons_succ]
            refine wpAnyH_take (i := 9) (oi := _) (v := ?fv9h7n33) (by simp only [List.getElem?_toArray, List.getElem?_cons_zero, List.getElem?_cons_succ]; rfl) (by kernel_rfl) (by kernel_rfl) (by kernel_rfl) (fun _ _ _ h => h) (Or.inl ⟨by rfl, ?fy9h7n33⟩) (by assumption) ?fr9h7n33
            case fy9h7n33 => (intro w hSw; (try dsimp only [SB1] at hSw); go_simp; try with_reducible rfl)
            try simp only [Act.put, List.setIfInBounds_toArray, List.set_cons_zero, List.set_cons_succ]
            obtain ⟨t0, t1⟩ := brow (HR.out.r10 _ rfl).1
            obtain ⟨f0, f1⟩ := bfz (HR.out.r10 _ rfl).1
            refine wpAnyH_ready (rs := [11]) (by kernel_rfl) (by simp) ?_
            refine AllReadyH.cons (o := _) rfl (fun K hK => ?_) AllReadyH.nil
            go_simp
            have HE := Lib.hid (R14.ends (y := (ya, yb)) HR.out)
            have hS := HSF.out _ HE.out.1
            refine hK.out _ _ hS (fun hHeld => ?_)
            clear hK K
            try simp only [Act.put, List.setIfInBounds_toArray, List.set_cons_zero, List.set_cons_succ]
            refine wpAnyH_take (i := 12) (oi := _) (v := ?fv12h7n34) (by simp only [List.getElem?_toArray, List.getElem?_cons_zero, List.getElem?_cons_succ]; rfl) (by kernel_rfl) (by kernel_rfl) (by kernel_rfl) (fun _ _ _ h => h) (Or.inl ⟨by rfl, ?fy12h7n34⟩) (by assumption) ?fr12h7n34
            case fy12h7n34 => (intro w hSw; (try dsimp only [SB1] at hSw); go_simp; try with_reducible rfl)
            try simp only [Act.put, List.setIfInBounds_toArray, List.set_cons_zero, List.set_cons_succ]
            refine wpAnyH_done (by kernel_rfl) ?_ _
            refine NoPanic.normal ?_
            clear hHeld hS t0 t1 f0 f1
            go_wp2_with fail
            go_meet
            exact ⟨_, rfl, rfl, HE.out.2, HE.out.1⟩
          refine AllReadyH.cons (o := _) (by simp only [List.getElem?_toArray, List.getElem?_cons_zero, List.getElem?_cons_succ]; rfl) (fun K hK => ?_) AllReadyH.nil
          go_simp
          replace HR := Lib.hid (R14.new10 HR.out)
          dsimp only [bidBox] at HR
          have hS := HSF.out _ HR.out.f
          refine hK.out _ _ hS (fun hHeld => ?_)
          clear hK K
          try simp only [Act.put, List.setIfInBounds_toArray, List.set_cons_zero, List.set_cons_succ]
          clear hS
          generalize World.alloc W2 _ = W3 at HR hHeld ⊢
          refine wpAnyH_ready (rs := [2]) (by kernel_rfl) (by simp) ?_
          refine AllReadyH.cons (o := _) (by simp only [List.getElem?_toArray, List.getElem?_cons_zero, List.getElem?_cons_succ]; rfl) (fun K hK => ?_) AllReadyH.nil
          refine step_append_lies _ (by rfl) _ _ _ (by rfl) wr.heap.size 24 i0 (.agg #[.int .i64 0, .int .i64 0]) 2 16 Try.underlying22 hi0 hz0 hz1 hz2 rfl (by decide) (.slice (some ⟨W1.heap.size, 0, none⟩) 0 0) 0 [] (by rfl) (HR.out.own _ _ rfl) ⟨bk, off, none⟩ i c (bdc l) (by rfl) HBL.out (HCL.out _ HR.out.f) (bdc_one l) (by omega) (by unfold maxLen; omega) (by omega) HR.out.f.size _ rfl ?_
          intro g2 cap2 W4 hown hgr hor _
          rw [Nat.zero_add] at hown ⊢
          replace HR := Lib.hid (R14.app (M := l) HR.out HLN.out.symm rfl hown hgr hor)
          clear hown hgr hor
          have hS := HSF.out _ HR.out.f
          refine hK.out _ _ hS (fun hHeld => ?_)
          clear hK K
          try simp only [Act.put, List.setIfInBounds_toArray, List.set_cons_zero, List.set_cons_succ]
          clear hS
          refine wpAnyH_ready (rs := [5]) (by kernel_rfl) (by simp) ?_
          refine AllReadyH.cons (o := _) (by simp only [List.getElem?_toArray, List.getElem?_cons_zero, List.getElem?_cons_succ]; rfl) (fun K hK => ?_) AllReadyH.nil
          refine step_append_lies _ (by rfl) _ _ _ (by rfl) wr.heap.size 24 i0 (.agg #[.int .i64 0, .int .i64 0]) 2 16 Try.underlying22 hi0 hz0 hz1 hz2 rfl (by decide) (.slice (some ⟨g2, 0, none⟩) i cap2) i (bdc l) (by rfl) (by have := HR.out.own _ _ rfl; unfold OwnB at this; rw [HLN.out] at this; exact this) ⟨W0.heap.size, 0, none⟩ 1 1 [.int .i64 ba, .int .i64 bb] (by rfl) rfl (bid_cells (b := (ba, bb)) (HR.out.r4 _ rfl).1) (bid_one (ba, bb)) (by omega) (by unfold maxLen; omega) (by omega) HR.out.f.size _ rfl ?_
          intro g5 cap5 W5 hown hgr hor _
          replace HR := Lib.hid (R14.app (M := l ++ [(ba, bb)]) HR.out (by rw [List.length_append, HLN.out]; rfl) (by rw [bdc_snoc]) hown hgr hor)
          clear hown hgr hor
          have hS := HSF.out _ HR.out.f
          refine hK.out _ _ hS (fun hHeld => ?_)
          clear hK K
          try simp only [Act.put, List.setIfInBounds_toArray, List.set_cons_zero, List.set_cons_succ]
          clear hS
          refine wpAnyH_ready (rs := [6]) (by kernel_rfl) (by simp) ?_
          refine AllReadyH.cons (o := _) (by simp only [List.getElem?_toArray, List.getElem?_cons_zero, List.getElem?_cons_succ]; rfl) (fun K hK => ?_) AllReadyH.nil
          go_simp
          with_reducible refine (LE2.out _ _ (by have := (HR.out.own _ _ rfl).holds; exact this)).mono ?_
          rintro e W6 ⟨rfl, hf⟩
          replace HR := Lib.hid (HR.out.fr hf)
          have hS := HSF.out _ HR.out.f
          clear hf
          go_wp2_with fail
          refine hK.out _ _ hS (fun hHeld => ?_)
          clear hK K
          try simp only [Act.put, List.setIfInBounds_toArray, List.set_cons_zero, List.set_cons_succ]
          clear hS
          refine wpAnyH_take (i := 7) (oi := _) (v := ?fv7h7n35) (by simp only [List.getElem?_toArray, List.getElem?_cons_zero, List.getElem?_cons_succ]; rfl) (by kernel_rfl) (by kernel_rfl) (by kernel_rfl) (fun _ _ _ h => h) (Or.inl ⟨by rfl, ?fy7h7n35⟩) (by assumption) ?fr7h7n35
          case fy7h7n35 => (intro w hSw; (try dsimp only [SB1] at hSw); go_simp; try with_reducible rfl)
          try simp only [Act.put, List.setIfInBounds_toArray, List.set_cons_zero, List.set_cons_succ]
          refine wpAnyH_take (i := 8) (oi := _) (v := ?fv8h7n35) (by simp only [List.getElem?_toArray, List.getElem?_cons_zero, List.getElem?_cons_succ]; rfl) (by kernel_rfl) (by kernel_rfl) (by kernel_rfl) (fun _ _ _ h => h) (Or.inl ⟨by rfl, ?fy8h7n35⟩) (by assumption) ?fr8h7n35
          case fy8h7n35 => (intro w hSw; (try dsimp only [SB1] at hSw); go_simp; try with_reducible rfl)
          try simp only [Act.put, List.setIfInBounds_toArray, List.set_cons_zero, List.set_cons_succ]
          refine wpAnyH_take (i := 9) (oi := _) (v := ?fv9h7n35) (by simp only [List.getElem?_toArray, List.getElem?_cons_zero, List.getElem?_cons_succ]; rfl) (by kernel_rfl) (by kernel_rfl) (by kernel_rfl) (fun _ _ _ h => h) (Or.inl ⟨by rfl, ?fy9h7n35⟩) (by assumption) ?fr9h7n35
          case fy9h7n35 => (intro w hSw; (try dsimp only [SB1] at hSw); go_simp; try with_reducible rfl)
          try simp only [Act.put, List.setIfInBounds_toArray, List.set_cons_zero, List.set_cons_succ]
          obtain ⟨t0, t1⟩ := brow (HR.out.r10 _ rfl).1
          obtain ⟨f0, f1⟩ := bfz (HR.out.r10 _ rfl).1
          refine wpAnyH_ready (rs := [11]) (by kernel_rfl) (by simp) ?_
          refine AllReadyH.cons (o := _) rfl (fun K hK => ?_) AllReadyH.nil
          go_simp
          have HE := Lib.hid (R14.ends (y := (ya, yb)) HR.out)
          have hS := HSF.out _ HE.out.1
          refine hK.out _ _ hS (fun hHeld => ?_)
          clear hK K
          try simp only [Act.put, List.setIfInBounds_toArray, List.set_cons_zero, List.set_cons_succ]
          refine wpAnyH_take (i := 12) (oi := _) (v := ?fv12h7n36) (by simp only [List.getElem?_toArray, List.getElem?_cons_zero, List.getElem?_cons_succ]; rfl) (by kernel_rfl) (by kernel_rfl) (by kernel_rfl) (fun _ _ _ h => h) (Or.inl ⟨by rfl, ?fy12h7n36⟩) (by assumption) ?fr12h7n36
          case fy12h7n36 => (intro w hSw; (try dsimp only [SB1] at hSw); go_simp; try with_reducible rfl)
          try simp only [Act.put, List.setIfInBounds_toArray, List.set_cons_zero, List.set_cons_succ]
          refine wpAnyH_done (by kernel_rfl) ?_ _
          refine NoPanic.normal ?_
          clear hHeld hS t0 t1 f0 f1
          go_wp2_with fail
          go_meet
          exact ⟨_, rfl, rfl, HE.out.2, HE.out.1⟩
        refine AllReadyH.cons (o := _) (by simp only [List.getElem?_toArray, List.getElem?_cons_zero, List.getElem?_cons_succ]; rfl) (fun K hK => ?_) AllReadyH.nil
        go_simp
        replace HR := Lib.hid (R14.new10 HR.out)
        dsimp only [bidBox] at HR
        have hS := HSF.out _ HR.out.f
        refine hK.out _ _ hS (fun hHeld => ?_)
        clear hK K
        try simp only [Act.put, List.setIfInBounds_toArray, List.set_cons_zero, List.set_cons_succ]
        clear hS
        generalize World.alloc W1 _ = W2 at HR hHeld ⊢
        refine wpAnyH_ready (rs := [0]) (by kernel_rfl) (by simp) ?_
        refine AllReadyH.cons (o := _) (by simp only [List.getElem?_toArray, List.getElem?_cons_zero, List.getElem?_cons_succ]; rfl) (fun K hK => ?_) AllReadyH.nil
        go_simp
        replace HR := Lib.hid (R14.new0 HR.out)
        have hS := HSF.out _ HR.out.f
        refine hK.out _ _ hS (fun hHeld => ?_)
        clear hK K
        try simp only [Act.put, List.setIfInBounds_toArray, List.set_cons_zero, List.set_cons_succ]
        clear hS
        generalize World.alloc W2 _ = W3 at HR hHeld ⊢
        refine wpAnyH_ready (rs := [2]) (by kernel_rfl) (by simp) ?_
        refine AllReadyH.cons (o := _) (by simp only [List.getElem?_toArray, List.getElem?_cons_zero, List.getElem?_cons_succ]; rfl) (fun K hK => ?_) AllReadyH.nil
        refine step_append_lies _ (by rfl) _ _ _ (by rfl) wr.heap.size 24 i0 (.agg #[.int .i64 0, .int .i64 0]) 2 16 Try.underlying22 hi0 hz0 hz1 hz2 rfl (by decide) (.slice (some ⟨W2.heap.size, 0, none⟩) 0 0) 0 [] (by rfl) (HR.out.own _ _ rfl) ⟨bk, off, none⟩ i c (bdc l) (by rfl) HBL.out (HCL.out _ HR.out.f) (bdc_one l) (by omega) (by unfold maxLen; omega) (by omega) HR.out.f.size _ rfl ?_
        intro g2 cap2 W4 hown hgr hor _
        rw [Nat.zero_add] at hown ⊢
        replace HR := Lib.hid (R14.app (M := l) HR.out HLN.out.symm rfl hown hgr hor)
        clear hown hgr hor
        have hS := HSF.out _ HR.out.f
        refine hK.out _ _ hS (fun hHeld => ?_)
        clear hK K
        try simp only [Act.put, List.setIfInBounds_toArray, List.set_cons_zero, List.set_cons_succ]
        clear hS
        refine wpAnyH_ready (rs := [5]) (by kernel_rfl) (by simp) ?_
        refine AllReadyH.cons (o := _) (by simp only [List.getElem?_toArray, List.getElem?_cons_zero, List.getElem?_cons_succ]; rfl) (fun K hK => ?_) AllReadyH.nil
        refine step_append_lies _ (by rfl) _ _ _ (by rfl) wr.heap.size 24 i0 (.agg #[.int .i64 0, .int .i64 0]) 2 16 Try.underlying22 hi0 hz0 hz1 hz2 rfl (by decide) (.slice (some ⟨g2, 0, none⟩) i cap2) i (bdc l) (by rfl) (by have := HR.out.own _ _ rfl; unfold OwnB at this; rw [HLN.out] at this; exact this) ⟨W0.heap.size, 0, none⟩ 1 1 [.int .i64 ba, .int .i64 bb] (by rfl) rfl (bid_cells (b := (ba, bb)) (HR.out.r4 _ rfl).1) (bid_one (ba, bb)) (by omega) (by unfold maxLen; omega) (by omega) HR.out.f.size _ rfl ?_
        intro g5 cap5 W5 hown hgr hor _
        replace HR := Lib.hid (R14.app (M := l ++ [(ba, bb)]) HR.out (by rw [List.length_append, HLN.out]; rfl) (by rw [bdc_snoc]) hown hgr hor)
        clear hown hgr hor
        have hS := HSF.out _ HR.out.f
        refine hK.out _ _ hS (fun hHeld => ?_)
        clear hK K
        try simp only [Act.put, List.setIfInBounds_toArray, List.set_cons_zero, List.set_cons_succ]
        clear hS
        refine wpAnyH_ready (rs := [6]) (by kernel_rfl) (by simp) ?_
        refine AllReadyH.cons (o := _) (by simp only [List.getElem?_toArray, List.getElem?_cons_zero, List.getElem?_cons_succ]; rfl) (fun K hK => ?_) AllReadyH.nil
        go_simp
        with_reducible refine (LE2.out _ _ (by have := (HR.out.own _ _ rfl).holds; exact this)).mono ?_
        rintro e W6 ⟨rfl, hf⟩
        replace HR := Lib.hid (HR.out.fr hf)
        have hS := HSF.out _ HR.out.f
        clear hf
        go_wp2_with fail
        refine hK.out _ _ hS (fun hHeld => ?_)
        clear hK K
        try simp only [Act.put, List.setIfInBounds_toArray, List.set_cons_zero, List.set_cons_succ]
        clear hS
        refine wpAnyH_take (i := 7) (oi := _) (v := ?fv7h7n37) (by simp only [List.getElem?_toArray, List.getElem?_cons_zero, List.getElem?_cons_succ]; rfl) (by kernel_rfl) (by kernel_rfl) (by kernel_rfl) (fun _ _ _ h => h) (Or.inl ⟨by rfl, ?fy7h7n37⟩) (by assumption) ?fr7h7n37
        case fy7h7n37 => (intro w hSw; (try dsimp only [SB1] at hSw); go_simp; try with_reducible rfl)
        try simp only [Act.put, List.setIfInBounds_toArray, List.set_cons_zero, List.set_cons_succ]
        refine wpAnyH_take (i := 8) (oi := _) (v := ?fv8h7n37) (by simp only [List.getElem?_toArray, List.getElem?_cons_zero, List.getElem?_cons_succ]; rfl) (by kernel_rfl) (by kernel_rfl) (by kernel_rfl) (fun _ _ _ h => h) (Or.inl ⟨by rfl, ?fy8h7n37⟩) (by assumption) ?fr8h7n37
        case fy8h7n37 => (intro w hSw; (try dsimp only [SB1] at hSw); go_simp; try with_reducible rfl)
        try simp only [Act.put, List.setIfInBounds_toArray, List.set_cons_zero, List.set_cons_succ]
        refine wpAnyH_take (i := 9) (oi := _) (v := ?fv9h7n37) (by simp only [List.getElem?_toArray, List.getElem?_cons_zero, List.getElem?_cons_succ]; rfl) (by kernel_rfl) (by kernel_rfl) (by kernel_rfl) (fun _ _ _ h => h) (Or.inl ⟨by rfl, ?fy9h7n37⟩) (by assumption) ?fr9h7n37
        case fy9h7n37 => (intro w hSw; (try dsimp only [SB1] at hSw); go_simp; try with_reducible rfl)
        try simp only [Act.put, List.setIfInBounds_toArray, List.set_cons_zero, List.set_cons_succ]
        obtain ⟨t0, t1⟩ := brow (HR.out.r10 _ rfl).1
        obtain ⟨f0, f1⟩ := bfz (HR.out.r10 _ rfl).1
        refine wpAnyH_ready (rs := [11]) (by kernel_rfl) (by simp) ?_
        refine AllReadyH.cons (o := _) rfl (fun K hK => ?_) AllReadyH.nil
        go_simp
        have HE := Lib.hid (R14.ends (y := (ya, yb)) HR.out)
        have hS := HSF.out _ HE.out.1
        refine hK.out _ _ hS (fun hHeld => ?_)
        clear hK K
        try simp only [Act.put, List.setIfInBounds_toArray, List.set_cons_zero, List.set_cons_succ]
        refine wpAnyH_take (i := 12) (oi := _) (v := ?fv12h7n38) (by simp only [List.getElem?_toArray, List.getElem?_cons_zero, List.getElem?_cons_succ]; rfl) (by kernel_rfl) (by kernel_rfl) (by kernel_rfl) (fun _ _ _ h => h) (Or.inl ⟨by rfl, ?fy12h7n38⟩) (by assumption) ?fr12h7n38
        case fy12h7n38 => (intro w hSw; (try dsimp only [SB1] at hSw); go_simp; try with_reducible rfl)
        try simp only [Act.put, List.setIfInBounds_toArray, List.set_cons_zero, List.set_cons_succ]
        refine wpAnyH_done (by kernel_rfl) ?_ _
        refine NoPanic.normal ?_
        clear hHeld hS t0 t1 f0 f1
        go_wp2_with fail
        go_meet
        exact ⟨_, rfl, rfl, HE.out.2, HE.out.1⟩
      refine AllReadyH.cons (o := _) (by simp only [List.getElem?_toArray, List.getElem?_cons_zero, List.getElem?_cons_succ]; rfl) (fun K hK => ?_) AllReadyH.nil
      go_simp
      replace HR := Lib.hid (R14.new10 HR.out)
      dsimp only [bidBox] at HR
      have hS := HSF.out _ HR.out.f
      refine hK.out _ _ hS (fun hHeld => ?_)
      clear hK K
      try simp only [Act.put, List.setIfInBounds_toArray, List.set_cons_zero, List.set_cons_succ]
      clear hS
      generalize World.alloc W0 _ = W1 at HR hHeld ⊢
      refine wpAnyH_ready (rs := [0, 4]) (by kernel_rfl) (by simp) ?_
      refine AllReadyH.cons (o := _) (by simp only [List.getElem?_toArray, List.getElem?_cons_zero, List.getElem?_cons_succ]; rfl) (fun K hK => ?_) ?_
      focus
        go_simp
        replace HR := Lib.hid (R14.new0 HR.out)
        have hS := HSF.out _ HR.out.f
        refine hK.out _ _ hS (fun hHeld => ?_)
        clear hK K
        try simp only [Act.put, List.setIfInBounds_toArray, List.set_cons_zero, List.set_cons_succ]
        clear hS
        generalize World.alloc W1 _ = W2 at HR hHeld ⊢
        refine wpAnyH_ready (rs := [2, 4]) (by kernel_rfl) (by simp) ?_
        refine AllReadyH.cons (o := _) (by simp only [List.getElem?_toArray, List.getElem?_cons_zero, List.getElem?_cons_succ]; rfl) (fun K hK => ?_) ?_
        focus
          refine step_append_lies _ (by rfl) _ _ _ (by rfl) wr.heap.size 24 i0 (.agg #[.int .i64 0, .int .i64 0]) 2 16 Try.underlying22 hi0 hz0 hz1 hz2 rfl (by decide) (.slice (some ⟨W1.heap.size, 0, none⟩) 0 0) 0 [] (by rfl) (HR.out.own _ _ rfl) ⟨bk, off, none⟩ i c (bdc l) (by rfl) HBL.out (HCL.out _ HR.out.f) (bdc_one l) (by omega) (by unfold maxLen; omega) (by omega) HR.out.f.size _ rfl ?_
          intro g2 cap2 W3 hown hgr hor _
          rw [Nat.zero_add] at hown ⊢
          replace HR := Lib.hid (R14.app (M := l) HR.out HLN.out.symm rfl hown hgr hor)
          clear hown hgr hor
          have hS := HSF.out _ HR.out.f
          refine hK.out _ _ hS (fun hHeld => ?_)
          clear hK K
          try simp only [Act.put, List.setIfInBounds_toArray, List.set_cons_zero, List.set_cons_succ]
          clear hS
          refine wpAnyH_ready (rs := [4]) (by kernel_rfl) (by simp) ?_
          refine AllReadyH.cons (o := _) (by simp only [List.getElem?_toArray, List.getElem?_cons_zero, List.getElem?_cons_succ]; rfl) (fun K hK => ?_) AllReadyH.nil
          go_simp
          replace HR := Lib.hid (R14.new4 HR.out)
          dsimp only [bidBox] at HR
          have hS := HSF.out _ HR.out.f
          refine hK.out _ _ hS (fun hHeld => ?_)
          clear hK K
          try simp only [Act.put, List.setIfInBounds_toArray, List.set_cons_zero, List.set_cons_succ]
          clear hS
          generalize World.alloc W3 _ = W4 at HR hHeld ⊢
          refine wpAnyH_ready (rs := [5]) (by kernel_rfl) (by simp) ?_
          refine AllReadyH.cons (o := _) (by simp only [List.getElem?_toArray, List.getElem?_cons_zero, List.getElem?_cons_succ]; rfl) (fun K hK => ?_) AllReadyH.nil
          refine step_append_lies _ (by rfl) _ _ _ (by rfl) wr.heap.size 24 i0 (.agg #[.int .i64 0, .int .i64 0]) 2 16 Try.underlying22 hi0 hz0 hz1 hz2 rfl (by decide) (.slice (some ⟨g2, 0, none⟩) i cap2) i (bdc l) (by rfl) (by have := HR.out.own _ _ rfl; unfold OwnB at this; rw [HLN.out] at this; exact this) ⟨W3.heap.size, 0, none⟩ 1 1 [.int .i64 ba, .int .i64 bb] (by rfl) rfl (bid_cells (b := (ba, bb)) (HR.out.r4 _ rfl).1) (bid_one (ba, bb)) (by omega) (by unfold maxLen; omega) (by omega) HR.out.f.size _ rfl ?_
          intro g5 cap5 W5 hown hgr hor _
          replace HR := Lib.hid (R14.app (M := l ++ [(ba, bb)]) HR.out (by rw [List.length_append, HLN.out]; rfl) (by rw [bdc_snoc]) hown hgr hor)
          clear hown hgr hor
          have hS := HSF.out _ HR.out.f
          refine hK.out _ _ hS (fun hHeld => ?_)
          clear hK K
          try simp only [Act.put, List.setIfInBounds_toArray, List.set_cons_zero, List.set_cons_succ]
          clear hS
          refine wpAnyH_ready (rs := [6]) (by kernel_rfl) (by simp) ?_
          refine AllReadyH.cons (o := _) (by simp only [List.getElem?_toArray, List.getElem?_cons_zero, List.getElem?_cons_succ]; rfl) (fun K hK => ?_) AllReadyH.nil
          go_simp
          with_reducible refine (LE2.out _ _ (by have := (HR.out.own _ _ rfl).holds; exact this)).mono ?_
          rintro e W6 ⟨rfl, hf⟩
          replace HR := Lib.hid (HR.out.fr hf)
          have hS := HSF.out _ HR.out.f
          clear hf
          go_wp2_with fail
          refine hK.out _ _ hS (fun hHeld => ?_)
          clear hK K
          try simp only [Act.put, List.setIfInBounds_toArray, List.set_cons_zero, List.set_cons_succ]
          clear hS
          refine wpAnyH_take (i := 7) (oi := _) (v := ?fv7h7n39) (by simp only [List.getElem?_toArray, List.getElem?_cons_zero, List.getElem?_cons_succ]; rfl) (by kernel_rfl) (by kernel_rfl) (by kernel_rfl) (fun _ _ _ h => h) (Or.inl ⟨by rfl, ?fy7h7n39⟩) (by assumption) ?fr7h7n39
          case fy7h7n39 => (intro w hSw; (try dsimp only [SB1] at hSw); go_simp; try with_reducible rfl)
          try simp only [Act.put, List.setIfInBounds_toArray, List.set_cons_zero, List.set_cons_succ]
          refine wpAnyH_take (i := 8) (oi := _) (v := ?fv8h7n39) (by simp only [List.getElem?_toArray, List.getElem?_cons_zero, List.getElem?_cons_succ]; rfl) (by kernel_rfl) (by kernel_rfl) (by kernel_rfl) (fun _ _ _ h => h) (Or.inl ⟨by rfl, ?fy8h7n39⟩) (by assumption) ?fr8h7n39
          case fy8h7n39 => (intro w hSw; (try dsimp only [SB1] at hSw); go_simp; try with_reducible rfl)
          try simp only [Act.put, List.setIfInBounds_toArray, List.set_cons_zero, List.set_cons_succ]
          refine wpAnyH_take (i := 9) (oi := _) (v := ?fv9h7n39) (by simp only [List.getElem?_toArray, List.getElem?_cons_zero, List.getElem?_cons_succ]; rfl) (by kernel_rfl) (by kernel_rfl) (by kernel_rfl) (fun _ _ _ h => h) (Or.inl ⟨by rfl, ?fy9h7n39⟩) (by assumption) ?fr9h7n39
          case fy9h7n39 => (intro w hSw; (try dsimp only [SB1] at hSw); go_simp; try with_reducible rfl)
          try simp only [Act.put, List.setIfInBounds_toArray, List.set_cons_zero, List.set_cons_succ]
          obtain ⟨t0, t1⟩ := brow (HR.out.r10 _ rfl).1
          obtain ⟨f0, f1⟩ := bfz (HR.out.r10 _ rfl).1
          refine wpAnyH_ready (rs := [11]) (by kernel_rfl) (by simp) ?_
          refine AllReadyH.cons (o := _) rfl (fun K hK => ?_) AllReadyH.nil
          go_simp
          have HE := Lib.hid (R14.ends (y := (ya, yb)) HR.out)
          have hS := HSF.out _ HE.out.1
          refine hK.out _ _ hS (fun hHeld => ?_)
          clear hK K
          try simp only [Act.put, List.setIfInBounds_toArray, List.set_cons_zero, List.set_cons_succ]
          refine wpAnyH_take (i := 12) (oi := _) (v := ?fv12h7n40) (by simp only [List.getElem?_toArray, List.getElem?_cons_zero, List.getElem?_cons_succ]; rfl) (by kernel_rfl) (by kernel_rfl) (by kernel_rfl) (fun _ _ _ h => h) (Or.inl ⟨by rfl, ?fy12h7n40⟩) (by assumption) ?fr12h7n40
          case fy12h7n40 => (intro w hSw; (try dsimp only [SB1] at hSw); go_simp; try with_reducible rfl)
          try simp only [Act.put, List.setIfInBounds_toArray, List.set_cons_zero, List.set_cons_succ]
          refine wpAnyH_done (by kernel_rfl) ?_ _
          refine NoPanic.normal ?_
          clear hHeld hS t0 t1 f0 f1
          go_wp2_with fail
          go_meet
          exact ⟨_, rfl, rfl, HE.out.2, HE.out.1⟩
        refine AllReadyH.cons (o := _) (by simp only [List.getElem?_toArray, List.getElem?_cons_zero, List.getElem?_cons_succ]; rfl) (fun K hK => ?_) AllReadyH.nil
        go_simp
        replace HR := Lib.hid (R14.new4 HR.out)
        dsimp only [bidBox] at HR
        have hS := HSF.out _ HR.out.f
        refine hK.out _ _ hS (fun hHeld => ?_)
        clear hK K
        try simp only [Act.put, List.setIfInBounds_toArray, List.set_cons_zero, List.set_cons_succ]
        clear hS
        generalize World.alloc W2 _ = W3 at HR hHeld ⊢
        refine wpAnyH_ready (rs := [2]) (by kernel_rfl) (by simp) ?_
        refine AllReadyH.cons (o := _) (by simp only [List.getElem?_toArray, List.getElem?_cons_zero, List.getElem?_cons_succ]; rfl) (fun K hK => ?_) AllReadyH.nil
        refine step_append_lies _ (by rfl) _ _ _ (by rfl) wr.heap.size 24 i0 (.agg #[.int .i64 0, .int .i64 0]) 2 16 Try.underlying22 hi0 hz0 hz1 hz2 rfl (by decide) (.slice (some ⟨W1.heap.size, 0, none⟩) 0 0) 0 [] (by rfl) (HR.out.own _ _ rfl) ⟨bk, off, none⟩ i c (bdc l) (by rfl) HBL.out (HCL.out _ HR.out.f) (bdc_one l) (by omega) (by unfold maxLen; omega) (by omega) HR.out.f.size _ rfl ?_
        intro g2 cap2 W4 hown hgr hor _
        rw [Nat.zero_add] at hown ⊢
        replace HR := Lib.hid (R14.app (M := l) HR.out HLN.out.symm rfl hown hgr hor)
        clear hown hgr hor
        have hS := HSF.out _ HR.out.f
        refine hK.out _ _ hS (fun hHeld => ?_)
        clear hK K
        try simp only [Act.put, List.setIfInBounds_toArray, List.set_cons_zero, List.set_cons_succ]
        clear hS
        refine wpAnyH_ready (rs := [5]) (by kernel_rfl) (by simp) ?_
        refine AllReadyH.cons (o := _) (by simp only [List.getElem?_toArray, List.getElem?_cons_zero, List.getElem?_cons_succ]; rfl) (fun K hK => ?_) AllReadyH.nil
        refine step_append_lies _ (by rfl) _ _ _ (by rfl) wr.heap.size 24 i0 (.agg #[.int .i64 0, .int .i64 0]) 2 16 Try.underlying22 hi0 hz0 hz1 hz2 rfl (by decide) (.slice (some ⟨g2, 0, none⟩) i cap2) i (bdc l) (by rfl) (by have := HR.out.own _ _ rfl; unfold OwnB at this; rw [HLN.out] at this; exact this) ⟨W2.heap.size, 0, none⟩ 1 1 [.int .i64 ba, .int .i64 bb] (by rfl) rfl (bid_cells (b := (ba, bb)) (HR.out.r4 _ rfl).1) (bid_one (ba, bb)) (by omega) (by unfold maxLen; omega) (by omega) HR.out.f.size _ rfl ?_
        intro g5 cap5 W5 hown hgr hor _
        replace HR := Lib.hid (R14.app (M := l ++ [(ba, bb)]) HR.out (by rw [List.length_append, HLN.out]; rfl) (by rw [bdc_snoc]) hown hgr hor)
        clear hown hgr hor
        have hS := HSF.out _ HR.out.f
        refine hK.out _ _ hS (fun hHeld => ?_)
        clear hK K
        try simp only [Act.put, List.setIfInBounds_toArray, List.set_cons_zero, List.set_cons_succ]
        clear hS
        refine wpAnyH_ready (rs := [6]) (by kernel_rfl) (by simp) ?_
        refine AllReadyH.cons (o := _) (by simp only [List.getElem?_toArray, List.getElem?_cons_zero, List.getElem?_cons_succ]; rfl) (fun K hK => ?_) AllReadyH.nil
        go_simp
        with_reducible refine (LE2.out _ _ (by have := (HR.out.own _ _ rfl).holds; exact this)).mono ?_
        rintro e W6 ⟨rfl, hf⟩
        replace HR := Lib.hid (HR.out.fr hf)
        have hS := HSF.out _ HR.out.f
        clear hf
        go_wp2_with fail
        refine hK.out _ _ hS (fun hHeld => ?_)
        clear hK K
        try simp only [Act.put, List.setIfInBounds_toArray, List.set_cons_zero, List.set_cons_succ]
        clear hS
        refine wpAnyH_take (i := 7) (oi := _) (v := ?fv7h7n41) (by simp only [List.getElem?_toArray, List.getElem?_cons_zero, List.getElem?_cons_succ]; rfl) (by kernel_rfl) (by kernel_rfl) (by kernel_rfl) (fun _ _ _ h => h) (Or.inl ⟨by rfl, ?fy7h7n41⟩) (by assumption) ?fr7h7n41
        case fy7h7n41 => (intro w hSw; (try dsimp only [SB1] at hSw); go_simp; try with_reducible rfl)
        try simp only [Act.put, List.setIfInBounds_toArray, List.set_cons_zero, List.set_cons_succ]
        refine wpAnyH_take (i := 8) (oi := _) (v := ?fv8h7n41) (by simp only [List.getElem?_toArray, List.getElem?_cons_zero, List.getElem?_cons_succ]; rfl) (by kernel_rfl) (by kernel_rfl) (by kernel_rfl) (fun _ _ _ h => h) (Or.inl ⟨by rfl, ?fy8h7n41⟩) (by assumption) ?fr8h7n41
        case fy8h7n41 => (intro w hSw; (try dsimp only [SB1] at hSw); go_simp; try with_reducible rfl)
        try simp only [Act.put, List.setIfInBounds_toArray, List.set_cons_zero, List.set_cons_succ]
        refine wpAnyH_take (i := 9) (oi := _) (v := ?fv9h7n41) (by simp only [List.getElem?_toArray, List.getElem?_cons_zero, List.getElem?_cons_succ]; rfl) (by kernel_rfl) (by kernel_rfl) (by kernel_rfl) (fun _ _ _ h => h) (Or.inl ⟨by rfl, ?fy9h7n41⟩) (by assumption) ?fr9h7n41
        case fy9h7n41 => (intro w hSw; (try dsimp only [SB1] at hSw); go_simp; try with_reducible rfl)
        try simp only [Act.put, List.setIfInBounds_toArray, List.set_cons_zero, List.set_cons_succ]
        obtain ⟨t0, t1⟩ := brow (HR.out.r10 _ rfl).1
        obtain ⟨f0, f1⟩ := bfz (HR.out.r10 _ rfl).1
        refine wpAnyH_ready (rs := [11]) (by kernel_rfl) (by simp) ?_
        refine AllReadyH.cons (o := _) rfl (fun K hK => ?_) AllReadyH.nil
        go_simp
        have HE := Lib.hid (R14.ends (y := (ya, yb)) HR.out)
        have hS := HSF.out _ HE.out.1
        refine hK.out _ _ hS (fun hHeld => ?_)
        clear hK K
        try simp only [Act.put, List.setIfInBounds_toArray, List.set_cons_zero, List.set_cons_succ]
        refine wpAnyH_take (i := 12) (oi := _) (v := ?fv12h7n42) (by simp only [List.getElem?_toArray, List.getElem?_cons_zero, List.getElem?_cons_succ]; rfl) (by kernel_rfl) (by kernel_rfl) (by kernel_rfl) (fun _ _ _ h => h) (Or.inl ⟨by rfl, ?fy12h7n42⟩) (by assumption) ?fr12h7n42
        case fy12h7n42 => (intro w hSw; (try dsimp only [SB1] at hSw); go_simp; try with_reducible rfl)
        try simp only [Act.put, List.setIfInBounds_toArray, List.set_cons_zero, List.set_cons_succ]
        refine wpAnyH_done (by kernel_rfl) ?_ _
        refine NoPanic.normal ?_
        clear hHeld hS t0 t1 f0 f1
        go_wp2_with fail
        go_meet
        exact ⟨_, rfl, rfl, HE.out.2, HE.out.1⟩
      refine AllReadyH.cons (o := _) (by simp only [List.getElem?_toArray, List.getElem?_cons_zero, List.getElem?_cons_succ]; rfl) (fun K hK => ?_) AllReadyH.nil
      go_simp
      replace HR := Lib.hid (R14.new4 HR.out)
      dsimp only [bidBox] at HR
      have hS := HSF.out _ HR.out.f
      refine hK.out _ _ hS (fun hHeld => ?_)
      clear hK K
      try simp only [Act.put, List.setIfInBounds_toArray, List.set_cons_zero, List.set_cons_succ]
      clear hS
      generalize World.alloc W1 _ = W2 at HR hHeld ⊢
      refine wpAnyH_ready (rs := [0]) (by kernel_rfl) (by simp) ?_
      refine AllReadyH.cons (o := _) (by simp only [List.getElem?_toArray, List.getElem?_cons_zero, List.getElem?_cons_succ]; rfl) (fun K hK => ?_) AllReadyH.nil
      go_simp
      replace HR := Lib.hid (R14.new0 HR.out)
      have hS := HSF.out _ HR.out.f
      refine hK.out _ _ hS (fun hHeld => ?_)
      clear hK K
      try simp only [Act.put, List.setIfInBounds_toArray, List.set_cons_zero, List.set_cons_succ]
      clear hS
      generalize World.alloc W2 _ = W3 at HR hHeld ⊢
      refine wpAnyH_ready (rs := [2]) (by kernel_rfl) (by simp) ?_
      refine AllReadyH.cons (o := _) (by simp only [List.getElem?_toArray, List.getElem?_cons_zero, List.getElem?_cons_succ]; rfl) (fun K hK => ?_) AllReadyH.nil
      refine step_append_lies _ (by rfl) _ _ _ (by rfl) wr.heap.size 24 i0 (.agg #[.int .i64 0, .int .i64 0]) 2 16 Try.underlying22 hi0 hz0 hz1 hz2 rfl (by decide) (.slice (some ⟨W2.heap.size, 0, none⟩) 0 0) 0 [] (by rfl) (HR.out.own _ _ rfl) ⟨bk, off, none⟩ i c (bdc l) (by rfl) HBL.out (HCL.out _ HR.out.f) (bdc_one l) (by omega) (by unfold maxLen; omega) (by omega) HR.out.f.size _ rfl ?_
      intro g2 cap2 W4 hown hgr hor _
      rw [Nat.zero_add] at hown ⊢
      replace HR := Lib.hid (R14.app (M := l) HR.out HLN.out.symm rfl hown hgr hor)
      clear hown hgr hor
      have hS := HSF.out _ HR.out.f
      refine hK.out _ _ hS (fun hHeld => ?_)
      clear hK K
      try simp only [Act.put, List.setIfInBounds_toArray, List.set_cons_zero, List.set_cons_succ]
      clear hS
      refine wpAnyH_ready (rs := [5]) (by kernel_rfl) (by simp) ?_
      refine AllReadyH.cons (o := _) (by simp only [List.getElem?_toArray, List.getElem?_cons_zero, List.getElem?_cons_succ]; rfl) (fun K hK => ?_) AllReadyH.nil
      refine step_append_lies _ (by rfl) _ _ _ (by rfl) wr.heap.size 24 i0 (.agg #[.int .i64 0, .int .i64 0]) 2 16 Try.underlying22 hi0 hz0 hz1 hz2 rfl (by decide) (.slice (some ⟨g2, 0, none⟩) i cap2) i (bdc l) (by rfl) (by have := HR.out.own _ _ rfl; unfold OwnB at this; rw [HLN.out] at this; exact this) ⟨W1.heap.size, 0, none⟩ 1 1 [.int .i64 ba, .int .i64 bb] (by rfl) rfl (bid_cells (b := (ba, bb)) (HR.out.r4 _ rfl).1) (bid_one (ba, bb)) (by omega) (by unfold maxLen; omega) (by omega) HR.out.f.size _ rfl ?_
      intro g5 cap5 W5 hown hgr hor _
      replace HR := Lib.hid (R14.app (M := l ++ [(ba, bb)]) HR.out (by rw [List.length_append, HLN.out]; rfl) (by rw [bdc_snoc]) hown hgr hor)
      clear hown hgr hor
      have hS := HSF.out _ HR.out.f
      refine hK.out _ _ hS (fun hHeld => ?_)
      clear hK K
      try simp only [Act.put, List.setIfInBounds_toArray, List.set_cons_zero, List.set_cons_succ]
      clear hS
      refine wpAnyH_ready (rs := [6]) (by kernel_rfl) (by simp) ?_
      refine AllReadyH.cons (o := _) (by simp only [List.getElem?_toArray, List.getElem?_cons_zero, List.getElem?_cons_succ]; rfl) (fun K hK => ?_) AllReadyH.nil
      go_simp
      with_reducible refine (LE2.out _ _ (by have := (HR.out.own _ _ rfl).holds; exact this)).mono ?_
      rintro e W6 ⟨rfl, hf⟩
      replace HR := Lib.hid (HR.out.fr hf)
      have hS := HSF.out _ HR.out.f
      clear hf
      go_wp2_with fail
      refine hK.out _ _ hS (fun hHeld => ?_)
      clear hK K
      try simp only [Act.put, List.setIfInBounds_toArray, List.set_cons_zero, List.set_cons_succ]
      clear hS
      refine wpAnyH_take (i := 7) (oi := _) (v := ?fv7h7n43) (by simp only [List.getElem?_toArray, List.getElem?_cons_zero, List.getElem?_cons_succ]; rfl) (by kernel_rfl) (by kernel_rfl) (by kernel_rfl) (fun _ _ _ h => h) (Or.inl ⟨by rfl, ?fy7h7n43⟩) (by assumption) ?fr7h7n43
      case fy7h7n43 => (intro w hSw; (try dsimp only [SB1] at hSw); go_simp; try with_reducible rfl)
      try simp only [Act.put, List.setIfInBounds_toArray, List.set_cons_zero, List.set_cons_succ]
      refine wpAnyH_take (i := 8) (oi := _) (v := ?fv8h7n43) (by simp only [List.getElem?_toArray, List.getElem?_cons_zero, List.getElem?_cons_succ]; rfl) (by kernel_rfl) (by kernel_rfl) (by kernel_rfl) (fun _ _ _ h => h) (Or.inl ⟨by rfl, ?fy8h7n43⟩) (by assumption) ?fr8h7n43
      case fy8h7n43 => (intro w hSw; (try dsimp only [SB1] at hSw); go_simp; try with_reducible rfl)
      try simp only [Act.put, List.setIfInBounds_toArray, List.set_cons_zero, List.set_cons_succ]
      refine wpAnyH_take (i := 9) (oi := _) (v := ?fv9h7n43) (by simp only [List.getElem?_toArray, List.getElem?_cons_zero, List.getElem?_cons_succ]; rfl) (by kernel_rfl) (by kernel_rfl) (by kernel_rfl) (fun _ _ _ h => h) (Or.inl ⟨by rfl, ?fy9h7n43⟩) (by assumption) ?fr9h7n43
      case fy9h7n43 => (intro w hSw; (try dsimp only [SB1] at hSw); go_simp; try with_reducible rfl)
      try simp only [Act.put, List.setIfInBounds_toArray, List.set_cons_zero, List.set_cons_succ]
      obtain ⟨t0, t1⟩ := brow (HR.out.r10 _ rfl).1
      obtain ⟨f0, f1⟩ := bfz (HR.out.r10 _ rfl).1
      refine wpAnyH_ready (rs := [11]) (by kernel_rfl) (by simp) ?_
      refine AllReadyH.cons (o := _) rfl (fun K hK => ?_) AllReadyH.nil
      go_simp
      have HE := Lib.hid (R14.ends (y := (ya, yb)) HR.out)
      have hS := HSF.out _ HE.out.1
      refine hK.out _ _ hS (fun hHeld => ?_)
      clear hK K
      try simp only [Act.put, List.setIfInBounds_toArray, List.set_cons_zero, List.set_cons_succ]
      refine wpAnyH_take (i := 12) (oi := _) (v := ?fv12h7n44) (by simp only [List.getElem?_toArray, List.getElem?_cons_zero, List.getElem?_cons_succ]; rfl) (by kernel_rfl) (by kernel_rfl) (by kernel_rfl) (fun _ _ _ h => h) (Or.inl ⟨by rfl, ?fy12h7n44⟩) (by assumption) ?fr12h7n44
      case fy12h7n44 => (intro w hSw; (try dsimp only [SB1] at hSw); go_simp; try with_reducible rfl)
      try simp only [Act.put, List.setIfInBounds_toArray, List.set_cons_zero, List.set_cons_succ]
      refine wpAnyH_done (by kernel_rfl) ?_ _
      refine NoPanic.normal ?_
      clear hHeld hS t0 t1 f0 f1
      go_wp2_with fail
      go_meet
      exact ⟨_, rfl, rfl, HE.out.2, HE.out.1⟩
    case rest =>
      obtain ⟨gy, rfl, rfl, HGYB, HFc⟩ := hcut
      have HTc := Lib.hid (HT.out.fr HFc.out)
      obtain ⟨z0, z1⟩ := brow HTc.out.2.1
      obtain ⟨z2, z3⟩ := brow HTc.out.2.2
      obtain ⟨z4, z5⟩ := brow HGYB.out
      have HS := Lib.hid (show LT w gx gy (ba, bb) (xa, xb) (ya, yb) wc.drew from ⟨HTc.out.fr (Fr.drew wc []), ⟨z0, z1⟩, ⟨z2, z3⟩, z4, z5⟩)
      clear z0 z1 z2 z3 z4 z5 LE2 HYL HT HFc HGYB HTc
      go_upto_region 15 with fail
      go_cut [70] (fun s70 wx => s70 = .bool false ∧ Hid (Fr w wx []))
      case first =>
        obtain ⟨sm, hs⟩ : ∃ sm, sm = decide (ya = xa ∧ yb = xb) := ⟨_, rfl⟩
        have SAM := Lib.hid (fun W => rsameBid_any ya yb xa xb sm hs W)
        have HSM : Hid ((g = true ∧ sm = false) ∨ (g = false ∧ sm = true)) := by
          rcases HGY.out with ⟨e1, e2, e3⟩ | ⟨e1, e2⟩
          · obtain ⟨rfl, rfl⟩ : ya = ba ∧ yb = bb := by simpa using e2
            exact Lib.hid (.inl ⟨e1, by rw [hs]; exact decide_eq_false e3⟩)
          · obtain ⟨rfl, rfl⟩ : ya = xa ∧ yb = xb := by simpa using e2
            exact Lib.hid (.inr ⟨e1, by rw [hs]; simp⟩)
        clear hs HGY
        rcases HSM.out with ⟨rfl, rfl⟩ | ⟨rfl, rfl⟩
        · go_wp2_with fail
          refine wp_region_det (S := LT w gx gy (ba, bb) (xa, xb) (ya, yb)) (by kernel_rfl) HS.out ?_
          refine wpDet_take (i := 0) (oi := _) (v := ?dv45) (by simp only [List.getElem?_toArray, List.getElem?_cons_zero]; rfl) (by kernel_rfl) (by kernel_rfl) (by kernel_rfl) (Or.inl ⟨by rfl, ?dy45⟩) ?dr45
          case dy45 => (intro w hSw; have hS0 := hSw; (try dsimp only [LT] at hSw); go_simp; refine Came.value ?_ hS0; with_reducible rfl)
          try simp only [Act.put, List.setIfInBounds_toArray, List.set_cons_zero, List.set_cons_succ]
          refine wpDet_take (i := 1) (oi := _) (v := ?dv46) (by simp only [List.getElem?_toArray, List.getElem?_cons_zero, List.getElem?_cons_succ]; rfl) (by kernel_rfl) (by kernel_rfl) (by kernel_rfl) (Or.inl ⟨by rfl, ?dy46⟩) ?dr46
          case dy46 => (intro w hSw; have hS0 := hSw; (try dsimp only [LT] at hSw); go_simp; refine Came.value ?_ hS0; with_reducible rfl)
          try simp only [Act.put, List.setIfInBounds_toArray, List.set_cons_zero, List.set_cons_succ]
          refine wpDet_take (i := 2) (oi := _) (v := ?dv47) (by simp only [List.getElem?_toArray, List.getElem?_cons_zero, List.getElem?_cons_succ]; rfl) (by kernel_rfl) (by kernel_rfl) (by kernel_rfl) (Or.inl ⟨by rfl, ?dy47⟩) ?dr47
          case dy47 => (intro w hSw; have hS0 := hSw; (try dsimp only [LT] at hSw); go_simp; refine Came.value ?_ hS0; with_reducible rfl)
          try simp only [Act.put, List.setIfInBounds_toArray, List.set_cons_zero, List.set_cons_succ]
          refine wpDet_take (i := 3) (oi := _) (v := ?dv48) (by simp only [List.getElem?_toArray, List.getElem?_cons_zero, List.getElem?_cons_succ]; rfl) (by kernel_rfl) (by kernel_rfl) (by kernel_rfl) (Or.inl ⟨by rfl, ?dy48⟩) ?dr48
          case dy48 => (intro w hSw; have hS0 := hSw; (try dsimp only [LT] at hSw); go_simp; refine Came.value ?_ hS0; with_reducible rfl)
          try simp only [Act.put, List.setIfInBounds_toArray, List.set_cons_zero, List.set_cons_succ]
          refine wpDet_take (i := 4) (oi := _) (v := ?dv49) (by simp only [List.getElem?_toArray, List.getElem?_cons_zero, List.getElem?_cons_succ]; rfl) (by kernel_rfl) (by kernel_rfl) (by kernel_rfl) (Or.inl ⟨by rfl, ?dy49⟩) ?dr49
          case dy49 => (intro w hSw; have hS0 := hSw; (try dsimp only [LT] at hSw); go_simp; refine Came.value ?_ hS0; with_reducible rfl)
          try simp only [Act.put, List.setIfInBounds_toArray, List.set_cons_zero, List.set_cons_succ]
          refine wpDet_take (i := 6) (oi := _) (v := ?dv50) (by simp only [List.getElem?_toArray, List.getElem?_cons_zero, List.getElem?_cons_succ]; rfl) (by kernel_rfl) (by kernel_rfl) (by kernel_rfl) (Or.inl ⟨by rfl, ?dy50⟩) ?dr50
          case dy50 => (intro w hSw; have hS0 := hSw; (try dsimp only [LT] at hSw); go_simp; refine Came.value ?_ hS0; with_reducible rfl)
          try simp only [Act.put, List.setIfInBounds_toArray, List.set_cons_zero, List.set_cons_succ]
          refine wpDet_take (i := 7) (oi := _) (v := ?dv51) (by simp only [List.getElem?_toArray, List.getElem?_cons_zero, List.getElem?_cons_succ]; rfl) (by kernel_rfl) (by kernel_rfl) (by kernel_rfl) (Or.inl ⟨by rfl, ?dy51⟩) ?dr51
          case dy51 => (intro w hSw; have hS0 := hSw; (try dsimp only [LT] at hSw); go_simp; refine Came.value ?_ hS0; with_reducible rfl)
          try simp only [Act.put, List.setIfInBounds_toArray, List.set_cons_zero, List.set_cons_succ]
          refine wpDet_take (i := 5) (oi := _) (v := ?dv52) (by simp only [List.getElem?_toArray, List.getElem?_cons_zero, List.getElem?_cons_succ]; rfl) (by kernel_rfl) (by kernel_rfl) (by kernel_rfl) (Or.inl ⟨by rfl, ?dy52⟩) ?dr52
          case dy52 => (intro w hSw; go_simp; exact Came.call ((LEB.out w).mono fun e w' ⟨he, hf⟩ => ⟨he, hSw.fr hf⟩) (by with_reducible rfl))
          try simp only [Act.put, List.setIfInBounds_toArray, List.set_cons_zero, List.set_cons_succ]
          refine wpDet_take (i := 8) (oi := _) (v := ?dv53) (by simp only [List.getElem?_toArray, List.getElem?_cons_zero, List.getElem?_cons_succ]; rfl) (by kernel_rfl) (by kernel_rfl) (by kernel_rfl) (Or.inl ⟨by rfl, ?dy53⟩) ?dr53
          case dy53 => (intro w hSw; go_simp; exact Came.call ((SAM.out w).mono fun e w' ⟨he, hf⟩ => ⟨he, hSw.fr hf⟩) (by with_reducible rfl))
          try simp only [Act.put, List.setIfInBounds_toArray, List.set_cons_zero, List.set_cons_succ]
          refine wpDet_take (i := 9) (oi := _) (v := ?dv54) (by simp only [List.getElem?_toArray, List.getElem?_cons_zero, List.getElem?_cons_succ]; rfl) (by kernel_rfl) (by kernel_rfl) (by kernel_rfl) (Or.inl ⟨by rfl, ?dy54⟩) ?dr54
          case dy54 => (intro w hSw; have hS0 := hSw; (try dsimp only [LT] at hSw); go_simp; refine Came.value ?_ hS0; with_reducible rfl)
          try simp only [Act.put, List.setIfInBounds_toArray, List.set_cons_zero, List.set_cons_succ]
          refine wpDet_take (i := 10) (oi := _) (v := ?dv55) (by simp only [List.getElem?_toArray, List.getElem?_cons_zero, List.getElem?_cons_succ]; rfl) (by kernel_rfl) (by kernel_rfl) (by kernel_rfl) (Or.inl ⟨by rfl, ?dy55⟩) ?dr55
          case dy55 => (intro w hSw; have hS0 := hSw; (try dsimp only [LT] at hSw); go_simp; refine Came.value ?_ hS0; with_reducible rfl)
          try simp only [Act.put, List.setIfInBounds_toArray, List.set_cons_zero, List.set_cons_succ]
          refine wpDet_take (i := 11) (oi := _) (v := ?dv56) (by simp only [List.getElem?_toArray, List.getElem?_cons_zero, List.getElem?_cons_succ]; rfl) (by kernel_rfl) (by kernel_rfl) (by kernel_rfl) (Or.inl ⟨by rfl, ?dy56⟩) ?dr56
          case dy56 => (intro w hSw; have hS0 := hSw; (try dsimp only [LT] at hSw); go_simp; refine Came.value ?_ hS0; with_reducible rfl)
          try simp only [Act.put, List.setIfInBounds_toArray, List.set_cons_zero, List.set_cons_succ]
          refine wpDet_done (by kernel_rfl) ?_ _
          rintro w4 hS
          have HFe := Lib.hid hS.1.1
          clear hS HS
          go_wp2_with fail
          go_meet
          exact ⟨rfl, HFe⟩
        · go_wp2_with fail
          refine wp_region_det (S := LT w gx gy (ba, bb) (xa, xb) (ya, yb)) (by kernel_rfl) HS.out ?_
          refine wpDet_take (i := 0) (oi := _) (v := ?dv57) (by simp only [List.getElem?_toArray, List.getElem?_cons_zero]; rfl) (by kernel_rfl) (by kernel_rfl) (by kernel_rfl) (Or.inl ⟨by rfl, ?dy57⟩) ?dr57
          case dy57 => (intro w hSw; have hS0 := hSw; (try dsimp only [LT] at hSw); go_simp; refine Came.value ?_ hS0; with_reducible rfl)
          try simp only [Act.put, List.setIfInBounds_toArray, List.set_cons_zero, List.set_cons_succ]
          refine wpDet_take (i := 1) (oi := _) (v := ?dv58) (by simp only [List.getElem?_toArray, List.getElem?_cons_zero, List.getElem?_cons_succ]; rfl) (by kernel_rfl) (by kernel_rfl) (by kernel_rfl) (Or.inl ⟨by rfl, ?dy58⟩) ?dr58
          case dy58 => (intro w hSw; have hS0 := hSw; (try dsimp only [LT] at hSw); go_simp; refine Came.value ?_ hS0; with_reducible rfl)
          try simp only [Act.put, List.setIfInBounds_toArray, List.set_cons_zero, List.set_cons_succ]
          refine wpDet_take (i := 2) (oi := _) (v := ?dv59) (by simp only [List.getElem?_toArray, List.getElem?_cons_zero, List.getElem?_cons_succ]; rfl) (by kernel_rfl) (by kernel_rfl) (by kernel_rfl) (Or.inl ⟨by rfl, ?dy59⟩) ?dr59
          case dy59 => (intro w hSw; have hS0 := hSw; (try dsimp only [LT] at hSw); go_simp; refine Came.value ?_ hS0; with_reducible rfl)
          try simp only [Act.put, List.setIfInBounds_toArray, List.set_cons_zero, List.set_cons_succ]
          refine wpDet_take (i := 3) (oi := _) (v := ?dv60) (by simp only [List.getElem?_toArray, List.getElem?_cons_zero, List.getElem?_cons_succ]; rfl) (by kernel_rfl) (by kernel_rfl) (by kernel_rfl) (Or.inl ⟨by rfl, ?dy60⟩) ?dr60
          case dy60 => (intro w hSw; have hS0 := hSw; (try dsimp only [LT] at hSw); go_simp; refine Came.value ?_ hS0; with_reducible rfl)
          try simp only [Act.put, List.setIfInBounds_toArray, List.set_cons_zero, List.set_cons_succ]
          refine wpDet_take (i := 4) (oi := _) (v := ?dv61) (by simp only [List.getElem?_toArray, List.getElem?_cons_zero, List.getElem?_cons_succ]; rfl) (by kernel_rfl) (by kernel_rfl) (by kernel_rfl) (Or.inl ⟨by rfl, ?dy61⟩) ?dr61
          case dy61 => (intro w hSw; have hS0 := hSw; (try dsimp only [LT] at hSw); go_simp; refine Came.value ?_ hS0; with_reducible rfl)
          try simp only [Act.put, List.setIfInBounds_toArray, List.set_cons_zero, List.set_cons_succ]
          refine wpDet_take (i := 6) (oi := _) (v := ?dv62) (by simp only [List.getElem?_toArray, List.getElem?_cons_zero, List.getElem?_cons_succ]; rfl) (by kernel_rfl) (by kernel_rfl) (by kernel_rfl) (Or.inl ⟨by rfl, ?dy62⟩) ?dr62
          case dy62 => (intro w hSw; have hS0 := hSw; (try dsimp only [LT] at hSw); go_simp; refine Came.value ?_ hS0; with_reducible rfl)
          try simp only [Act.put, List.setIfInBounds_toArray, List.set_cons_zero, List.set_cons_succ]
          refine wpDet_take (i := 7) (oi := _) (v := ?dv63) (by simp only [List.getElem?_toArray, List.getElem?_cons_zero, List.getElem?_cons_succ]; rfl) (by kernel_rfl) (by kernel_rfl) (by kernel_rfl) (Or.inl ⟨by rfl, ?dy63⟩) ?dr63
          case dy63 => (intro w hSw; have hS0 := hSw; (try dsimp only [LT] at hSw); go_simp; refine Came.value ?_ hS0; with_reducible rfl)
          try simp only [Act.put, List.setIfInBounds_toArray, List.set_cons_zero, List.set_cons_succ]
          refine wpDet_take (i := 5) (oi := _) (v := ?dv64) (by simp only [List.getElem?_toArray, List.getElem?_cons_zero, List.getElem?_cons_succ]; rfl) (by kernel_rfl) (by kernel_rfl) (by kernel_rfl) (Or.inl ⟨by rfl, ?dy64⟩) ?dr64
          case dy64 => (intro w hSw; go_simp; exact Came.call ((LEB.out w).mono fun e w' ⟨he, hf⟩ => ⟨he, hSw.fr hf⟩) (by with_reducible rfl))
          try simp only [Act.put, List.setIfInBounds_toArray, List.set_cons_zero, List.set_cons_succ]
          refine wpDet_take (i := 8) (oi := _) (v := ?dv65) (by simp only [List.getElem?_toArray, List.getElem?_cons_zero, List.getElem?_cons_succ]; rfl) (by kernel_rfl) (by kernel_rfl) (by kernel_rfl) (Or.inl ⟨by rfl, ?dy65⟩) ?dr65
          case dy65 => (intro w hSw; go_simp; exact Came.call ((SAM.out w).mono fun e w' ⟨he, hf⟩ => ⟨he, hSw.fr hf⟩) (by with_reducible rfl))
          try simp only [Act.put, List.setIfInBounds_toArray, List.set_cons_zero, List.set_cons_succ]
          refine wpDet_take (i := 9) (oi := _) (v := ?dv66) (by simp only [List.getElem?_toArray, List.getElem?_cons_zero, List.getElem?_cons_succ]; rfl) (by kernel_rfl) (by kernel_rfl) (by kernel_rfl) (Or.inl ⟨by rfl, ?dy66⟩) ?dr66
          case dy66 => (intro w hSw; have hS0 := hSw; (try dsimp only [LT] at hSw); go_simp; refine Came.value ?_ hS0; with_reducible rfl)
          try simp only [Act.put, List.setIfInBounds_toArray, List.set_cons_zero, List.set_cons_succ]
          refine wpDet_take (i := 10) (oi := _) (v := ?dv67) (by simp only [List.getElem?_toArray, List.getElem?_cons_zero, List.getElem?_cons_succ]; rfl) (by kernel_rfl) (by kernel_rfl) (by kernel_rfl) (Or.inl ⟨by rfl, ?dy67⟩) ?dr67
          case dy67 => (intro w hSw; have hS0 := hSw; (try dsimp only [LT] at hSw); go_simp; refine Came.value ?_ hS0; with_reducible rfl)
          try simp only [Act.put, List.setIfInBounds_toArray, List.set_cons_zero, List.set_cons_succ]
          refine wpDet_take (i := 11) (oi := _) (v := ?dv68) (by simp only [List.getElem?_toArray, List.getElem?_cons_zero, List.getElem?_cons_succ]; rfl) (by kernel_rfl) (by kernel_rfl) (by kernel_rfl) (Or.inl ⟨by rfl, ?dy68⟩) ?dr68
          case dy68 => (intro w hSw; have hS0 := hSw; (try dsimp only [LT] at hSw); go_simp; refine Came.value ?_ hS0; with_reducible rfl)
          try simp only [Act.put, List.setIfInBounds_toArray, List.set_cons_zero, List.set_cons_succ]
          refine wpDet_done (by kernel_rfl) ?_ _
          rintro w4 hS
          have HFe := Lib.hid hS.1.1
          clear hS HS
          go_wp2_with fail
          go_meet
          exact ⟨rfl, HFe⟩
      case rest =>
        obtain ⟨rfl, HFd⟩ := hcut
        clear HS HGY LEB
        have N0 := Lib.hid (nil_bids (w := wc))
        go_wp2
        go_loopw [11, 12] (fun s11 s12 wx => ∃ k : Nat, s12 = .int .i64 k ∧ Hid (k ≤ i) ∧ Hid (HB wx s11 (putsB l k)) ∧ Hid (Fr w wx [])) (fun _ s12 _ => i - (intOf s12).toNat)
        case atStart => exact ⟨0, rfl, Lib.hid (Nat.zero_le _), Lib.hid (by exact N0.out), HFd⟩
        case round =>
          clear N0 HFd
          obtain ⟨k, rfl, HK, HBx, HF⟩ := hrel
          have hk := HK.out
          have hlen := putsB_len l k (by have := HLN.out; omega)
          by_cases hlt : k < i
          · obtain ⟨z0, z1⟩ := HCE.out k (by have := HLN.out; omega)
            obtain ⟨y, hy⟩ : ∃ y, y = l.getD k (0, 0) := ⟨_, rfl⟩
            rw [← hy] at z0 z1
            have z0 := HF.out.cell z0 (by simp)
            have HPS := Lib.hid (show putsB l (k + 1) = putB (putsB l k) y by rw [hy]; exact putsB_step l k (by have := HLN.out; omega))
            obtain ⟨L, hL⟩ : ∃ L, L = putsB l k := ⟨_, rfl⟩
            rw [← hL] at HBx HPS hlen
            obtain ⟨gg, hgg⟩ : ∃ gg, gg = (bidOf L y.1).isSome := ⟨_, rfl⟩
            obtain ⟨q, hq⟩ := bidOf_some L y.1
            rw [← hgg] at hq
            have OFF := Lib.hid (bof_any u11 L y.1 _ HBx.out (by omega) q gg hq)
            have PU := Lib.hid (fun W (hW : Fr wr W []) => bput_any u11 L y W (HBx.out.keep hW) (by omega) (!gg) (by rw [hgg]; cases bidOf L y.1 <;> rfl))
            have HZ := Lib.hid (show wr.cell? ⟨bk, off + k * 2, none⟩ = some (.int .i64 y.1) ∧ wr.cell? ⟨bk, off + k * 2 + 1, none⟩ = some (.int .i64 y.2) from ⟨z0, HF.out.cell z1 (by simp)⟩)
            obtain ⟨ya2, yb2⟩ := y
            obtain ⟨qa, qb⟩ := q
            dsimp only [bidV] at *
            clear hy hL hgg hq z1 hlen
            go_wp2_with fail
            with_reducible refine (OFF.out).mono ?_
            rintro e w5 ⟨rfl, hf⟩
            have F5 := Lib.hid (hf.trans (Fr.alloc w5 (bidBox (qa, qb)) []))
            have PU1 := Lib.hid (PU.out _ F5.out)
            have x0 := F5.out.cell HZ.out.1 (by simp)
            have x1 := F5.out.cell HZ.out.2 (by simp)
            dsimp only [bidBox] at *
            clear z0 hf OFF PU
            go_wp2_with fail
            with_reducible refine (PU1.out).mono ?_
            rintro e w6 ⟨u, rfl, hu, hf⟩
            have HU : Hid (HB w6 u (putsB l (k + 1))) := by rw [HPS.out]; exact hu
            have F6 := Lib.hid ((HF.out.trans F5.out).trans hf)
            clear hu hf x0 x1 PU1 HPS HZ HBx
            cases gg with
            | true =>
              go_wp2
              go_roundw
              case rel => exact ⟨k + 1, by go_num, Lib.hid (by omega), HU, F6⟩
              case measure => simp [intOf]; omega
            | false =>
              go_wp2
              go_roundw
              case rel => exact ⟨k + 1, by go_num, Lib.hid (by omega), HU, F6⟩
              case measure => simp [intOf]; omega
          · obtain rfl : k = i := by omega
            have HRI := Lib.hid (putsB_rise l k (by have := HLN.out; omega))
            obtain ⟨L, hL⟩ : ∃ L, L = putsB l k := ⟨_, rfl⟩
            rw [← hL] at HBx HRI hlen
            clear hL
            obtain ⟨m, hm⟩ : ∃ m, m = L.length := ⟨_, rfl⟩
            have HM := Lib.hid hm
            have hm0 : 0 < m := by rw [hm]; exact hlen.2 (by omega)
            have hm16 : m ≤ 16 := by rw [hm]; omega
            obtain ⟨ua, uc, hu⟩ := HBx.out.shape
            rw [← hm] at hu
            clear hlen hm
            subst hu
            go_wp2
            go_loopw [17] (fun s17 wx => ∃ j : Nat, s17 = .int .i64 j ∧ Hid (1 ≤ j ∧ j ≤ m) ∧ Hid (HB wx (.slice ua m uc) L) ∧ Hid (Fr w wx [])) (fun s17 _ => m - (intOf s17).toNat)
            case atStart => exact ⟨1, rfl, Lib.hid ⟨Nat.le_refl _, by omega⟩, HBx, HF⟩
            case round =>
              clear HBx HF
              obtain ⟨j, rfl, HJ, HBj, HFj⟩ := hrel
              have hj1 := HJ.out.1
              have hj := HJ.out.2
              by_cases hlt : j < m
              · obtain ⟨p, hp⟩ : ∃ p, j = p + 1 := ⟨j - 1, by omega⟩
                have HP := Lib.hid hp
                have W1 : IntKind.i64.wrap ((j : Int) - 1) = (p : Int) := by rw [IntWalk.i64_in _ (by omega)]; omega
                have hpm : p < m := by omega
                obtain ⟨a', c', he, hup, huq, hur⟩ := HBj.out
                simp only [Value.slice.injEq] at he
                obtain ⟨rfl, hmm, rfl⟩ := he
                clear hmm
                obtain ⟨b1, o1, rfl, hcl⟩ := hur (by have := HM.out; omega)
                obtain ⟨x, hx⟩ : ∃ x, x = (L.getD p (0, 0)).1 := ⟨_, rfl⟩
                obtain ⟨y, hy⟩ : ∃ y, y = (L.getD j (0, 0)).1 := ⟨_, rfl⟩
                have HU := Lib.hid hup
                have HUQ := Lib.hid huq
                have hmc : m ≤ uc := by have := HU.out.1; have := HM.out; omega
                have huc : uc ≤ 9223372036854775807 := by have := huq; unfold maxLen at this; omega
                clear hup huq hur
                have z0 := (hcl p (by have := HM.out; omega)).1
                have z1 := (hcl j (by have := HM.out; omega)).1
                rw [← hx] at z0
                rw [← hy] at z1
                have hge : decide (y ≤ x) = false := decide_eq_false (by
                  have := HRI.out.at (i := p) (by have := HM.out; omega)
                  rw [← hp, ← hx, ← hy] at this
                  omega)
                have HS := Lib.hid (show L2 wr b1 (o1 + p * 2) (o1 + j * 2) x y wr.drew from ⟨Fr.drew _ [], (Fr.drew wr []).cell z0 (by simp), (Fr.drew wr []).cell z1 (by simp)⟩)
                clear hcl hx hy z0 z1 hp
                go_wp2
                refine wp_region_det (S := L2 wr b1 (o1 + p * 2) (o1 + j * 2) x y) (by kernel_rfl) HS.out ?_
                refine wpDet_take (i := 0) (oi := _) (v := ?dv69) (by simp only [List.getElem?_toArray, List.getElem?_cons_zero]; rfl) (by kernel_rfl) (by kernel_rfl) (by kernel_rfl) (Or.inl ⟨by rfl, ?dy69⟩) ?dr69
                case dy69 => (intro w hSw; have hS0 := hSw; (try dsimp only [L2] at hSw); go_simp; refine Came.value ?_ hS0; with_reducible rfl)
                try simp only [Act.put, List.setIfInBounds_toArray, List.set_cons_zero, List.set_cons_succ]
                refine wpDet_take (i := 1) (oi := _) (v := ?dv70) (by simp only [List.getElem?_toArray, List.getElem?_cons_zero, List.getElem?_cons_succ]; rfl) (by kernel_rfl) (by kernel_rfl) (by kernel_rfl) (Or.inl ⟨by rfl, ?dy70⟩) ?dr70
                case dy70 => (intro w hSw; have hS0 := hSw; (try dsimp only [L2] at hSw); go_simp; refine Came.value ?_ hS0; with_reducible rfl)
                try simp only [Act.put, List.setIfInBounds_toArray, List.set_cons_zero, List.set_cons_succ]
                refine wpDet_take (i := 2) (oi := _) (v := ?dv71) (by simp only [List.getElem?_toArray, List.getElem?_cons_zero, List.getElem?_cons_succ]; rfl) (by kernel_rfl) (by kernel_rfl) (by kernel_rfl) (Or.inl ⟨by rfl, ?dy71⟩) ?dr71
                case dy71 => (intro w hSw; have hS0 := hSw; (try dsimp only [L2] at hSw); go_simp; refine Came.value ?_ hS0; with_reducible rfl)
                try simp only [Act.put, List.setIfInBounds_toArray, List.set_cons_zero, List.set_cons_succ]
                refine wpDet_take (i := 3) (oi := _) (v := ?dv72) (by simp only [List.getElem?_toArray, List.getElem?_cons_zero, List.getElem?_cons_succ]; rfl) (by kernel_rfl) (by kernel_rfl) (by kernel_rfl) (Or.inl ⟨by rfl, ?dy72⟩) ?dr72
                case dy72 => (intro w hSw; have hS0 := hSw; (try dsimp only [L2] at hSw); go_simp; refine Came.value ?_ hS0; with_reducible rfl)
                try simp only [Act.put, List.setIfInBounds_toArray, List.set_cons_zero, List.set_cons_succ]
                refine wpDet_take (i := 4) (oi := _) (v := ?dv73) (by simp only [List.getElem?_toArray, List.getElem?_cons_zero, List.getElem?_cons_succ]; rfl) (by kernel_rfl) (by kernel_rfl) (by kernel_rfl) (Or.inl ⟨by rfl, ?dy73⟩) ?dr73
                case dy73 => (intro w hSw; have hS0 := hSw; (try dsimp only [L2] at hSw); go_simp; refine Came.value ?_ hS0; with_reducible rfl)
                try simp only [Act.put, List.setIfInBounds_toArray, List.set_cons_zero, List.set_cons_succ]
                refine wpDet_take (i := 5) (oi := _) (v := ?dv74) (by simp only [List.getElem?_toArray, List.getElem?_cons_zero, List.getElem?_cons_succ]; rfl) (by kernel_rfl) (by kernel_rfl) (by kernel_rfl) (Or.inl ⟨by rfl, ?dy74⟩) ?dr74
                case dy74 => (intro w hSw; have hS0 := hSw; (try dsimp only [L2] at hSw); go_simp; refine Came.value ?_ hS0; with_reducible rfl)
                try simp only [Act.put, List.setIfInBounds_toArray, List.set_cons_zero, List.set_cons_succ]
                refine wpDet_take (i := 6) (oi := _) (v := ?dv75) (by simp only [List.getElem?_toArray, List.getElem?_cons_zero, List.getElem?_cons_succ]; rfl) (by kernel_rfl) (by kernel_rfl) (by kernel_rfl) (Or.inl ⟨by rfl, ?dy75⟩) ?dr75
                case dy75 => (intro w hSw; have hS0 := hSw; (try dsimp only [L2] at hSw); go_simp; refine Came.value ?_ hS0; with_reducible rfl)
                try simp only [Act.put, List.setIfInBounds_toArray, List.set_cons_zero, List.set_cons_succ]
                refine wpDet_take (i := 7) (oi := _) (v := ?dv76) (by simp only [List.getElem?_toArray, List.getElem?_cons_zero, List.getElem?_cons_succ]; rfl) (by kernel_rfl) (by kernel_rfl) (by kernel_rfl) (Or.inl ⟨by rfl, ?dy76⟩) ?dr76
                case dy76 => (intro w hSw; have hS0 := hSw; (try dsimp only [L2] at hSw); go_simp; refine Came.value ?_ hS0; with_reducible rfl)
                try simp only [Act.put, List.setIfInBounds_toArray, List.set_cons_zero, List.set_cons_succ]
                refine wpDet_take (i := 8) (oi := _) (v := ?dv77) (by simp only [List.getElem?_toArray, List.getElem?_cons_zero, List.getElem?_cons_succ]; rfl) (by kernel_rfl) (by kernel_rfl) (by kernel_rfl) (Or.inl ⟨by rfl, ?dy77⟩) ?dr77
                case dy77 => (intro w hSw; have hS0 := hSw; (try dsimp only [L2] at hSw); go_simp; refine Came.value ?_ hS0; with_reducible rfl)
                try simp only [Act.put, List.setIfInBounds_toArray, List.set_cons_zero, List.set_cons_succ]
                refine wpDet_take (i := 9) (oi := _) (v := ?dv78) (by simp only [List.getElem?_toArray, List.getElem?_cons_zero, List.getElem?_cons_succ]; rfl) (by kernel_rfl) (by kernel_rfl) (by kernel_rfl) (Or.inl ⟨by rfl, ?dy78⟩) ?dr78
                case dy78 => (intro w hSw; have hS0 := hSw; (try dsimp only [L2] at hSw); go_simp; refine Came.value ?_ hS0; with_reducible rfl)
                try simp only [Act.put, List.setIfInBounds_toArray, List.set_cons_zero, List.set_cons_succ]
                refine wpDet_take (i := 10) (oi := _) (v := ?dv79) (by simp only [List.getElem?_toArray, List.getElem?_cons_zero, List.getElem?_cons_succ]; rfl) (by kernel_rfl) (by kernel_rfl) (by kernel_rfl) (Or.inl ⟨by rfl, ?dy79⟩) ?dr79
                case dy79 => (intro w hSw; have hS0 := hSw; (try dsimp only [L2] at hSw); go_simp; refine Came.value ?_ hS0; with_reducible rfl)
                try simp only [Act.put, List.setIfInBounds_toArray, List.set_cons_zero, List.set_cons_succ]
                refine wpDet_take (i := 11) (oi := _) (v := ?dv80) (by simp only [List.getElem?_toArray, List.getElem?_cons_zero, List.getElem?_cons_succ]; rfl) (by kernel_rfl) (by kernel_rfl) (by kernel_rfl) (Or.inl ⟨by rfl, ?dy80⟩) ?dr80
                case dy80 => (intro w hSw; have hS0 := hSw; (try dsimp only [L2] at hSw); go_simp; refine Came.value ?_ hS0; with_reducible rfl)
                try simp only [Act.put, List.setIfInBounds_toArray, List.set_cons_zero, List.set_cons_succ]
                refine wpDet_done (by kernel_rfl) ?_ _
                rintro w7 hS
                have HB7 := Lib.hid (HBj.out.keep hS.1)
                have HF7 := Lib.hid (HFj.out.trans hS.1)
                clear hS HS
                go_wp2
                go_roundw
                case rel => exact ⟨j + 1, by go_num, Lib.hid ⟨by omega, by omega⟩, HB7, HF7⟩
                case measure => simp [intOf]; omega
              · obtain rfl : j = m := by omega
                have hgt : decide (0 < (j : Int)) = true := decide_eq_true (by omega)
                clear HRI
                go_wp2
                go_ret
                exact ⟨rfl, HFj.out⟩
theorem bleast_walk (v : Value) (l : List (Int × Int)) (b : Int × Int) (W : World) (h : HB W v l) : Calls Try.prog 4 #[v, bidV b] W fun x w' => x = .returned (.bool true) ∧ W.grownBy w' none :=
  (bleast_true v l b W h).mono fun _ _ h => ⟨h.1, h.2.grown (by simp)⟩
end Go.Proofs.Ytfphihhcclfmnaa
