/- The least of some bids: slices.MinFunc, Least. -/
import Derived.Test.YtfphihhcclfmnaaBCmp
namespace Go.Proofs.Ytfphihhcclfmnaa
open Go.RowKit

/-- A box whose two cells are stored anew. -/
theorem bset {w : World} {g : Nat} {a b : Value} {T : TypeId} (h : w.heap[g]? = some (.cells #[a, b] T (0, 0))) (x y : Value) :
    ((w.setCell ⟨g, 0, none⟩ x).setCell ⟨g, 1, none⟩ y).heap[g]? = some (.cells #[x, y] T (0, 0)) := by
  have h1 : (w.setCell ⟨g, 0, none⟩ x).heap[g]? = some (.cells #[x, b] T (0, 0)) := by rw [heap_setCell_same _ g 0 _ _ _ h]; rfl
  rw [heap_setCell_same _ g 1 _ _ _ h1]; rfl
theorem bset_fr (w : World) (g : Nat) (x y : Value) : Fr w ((w.setCell ⟨g, 0, none⟩ x).setCell ⟨g, 1, none⟩ y) [g] :=
  (Fr.setCell w g 0 x (S := [g]) (by simp)).trans (Fr.setCell _ g 1 y (S := [g]) (by simp))
theorem bfz {w : World} {g : Nat} {a b : Value} {T : TypeId} (h : w.heap[g]? = some (.cells #[a, b] T (0, 0))) : w.frozen? ⟨g, 0, none⟩ = false ∧ w.frozen? ⟨g, 1, none⟩ = false :=
  ⟨frozen_of_row _ _ 0 _ _ h, frozen_of_row _ _ 1 _ _ h⟩
/-- A box of the call's own, the first that it made, and the next one. -/
def MF (W : World) (z m : Int × Int) (a : World) : Prop := Fr W a [] ∧ a.heap[W.heap.size]? = some (bidBox z) ∧ a.heap[W.heap.size + 1]? = some (bidBox m)
theorem MF.fr {W : World} {z m : Int × Int} {a a' : World} (h : MF W z m a) (k : Fr a a' []) : MF W z m a' := ⟨h.1.trans k, k.heap h.2.1 (by simp), k.heap h.2.2 (by simp)⟩
theorem MF.set {W : World} {z m : Int × Int} {a : World} (h : MF W z m a) (x : Int × Int) : MF W z x ((a.setCell ⟨W.heap.size + 1, 0, none⟩ (.int .i64 x.1)).setCell ⟨W.heap.size + 1, 1, none⟩ (.int .i64 x.2)) :=
  ⟨h.1.new (bset_fr a _ _ _) (by intro r hr; obtain rfl := List.mem_singleton.1 hr; omega), (bset_fr a _ _ _).heap h.2.1 (by simp), bset h.2.2 _ _⟩
theorem MF.out {W : World} {z m : Int × Int} {a : World} (h : MF W z m a) (x : Int × Int) : MF W x m ((a.setCell ⟨W.heap.size, 0, none⟩ (.int .i64 x.1)).setCell ⟨W.heap.size, 1, none⟩ (.int .i64 x.2)) :=
  ⟨h.1.new (bset_fr a _ _ _) (by intro r hr; obtain rfl := List.mem_singleton.1 hr; omega), bset h.2.1 _ _, (bset_fr a _ _ _).heap h.2.2 (by simp)⟩
/-- What a round reads. -/
def MS (W : World) (b o : Nat) (x z m : Int × Int) (a : World) : Prop := MF W z m a ∧ (a.cell? ⟨b, o, none⟩ = some (.int .i64 x.1) ∧ a.cell? ⟨b, o + 1, none⟩ = some (.int .i64 x.2)) ∧ a.cell? ⟨W.heap.size + 1, 0, none⟩ = some (.int .i64 m.1) ∧ a.cell? ⟨W.heap.size + 1, 1, none⟩ = some (.int .i64 m.2)
theorem MS.fr {W : World} {b o : Nat} {x z m : Int × Int} {a a' : World} (h : MS W b o x z m a) (k : Fr a a' []) : MS W b o x z m a' :=
  ⟨h.1.fr k, ⟨k.cell h.2.1.1 (by simp), k.cell h.2.1.2 (by simp)⟩, k.cell h.2.2.1 (by simp), k.cell h.2.2.2 (by simp)⟩
set_option maxHeartbeats 2000000 in
set_option maxRecDepth 100000 in
theorem minf_any (v : Value) (l : List (Int × Int)) (y : Int × Int) (w : World) (h : HB w v l) (hl : l.length ≤ 1000000) (hy : LeastB l y) :
    Calls Try.prog 21 #[v, .func (.func 22) #[] #[]] w fun x w' => x = .returned (bidV y) ∧ Fr w w' [] := by
  obtain ⟨a, cap, rfl, p1, q1, r1⟩ := h
  unfold maxLen at q1
  have h0 : 0 < l.length := List.length_pos_of_mem hy.1
  obtain ⟨b, off, rfl, hc⟩ := r1 h0
  obtain ⟨n, hn⟩ : ∃ n, n = l.length := ⟨_, rfl⟩
  have HN := Lib.hid hn
  obtain ⟨x0, hx0⟩ : ∃ x, x = l.getD 0 (0, 0) := ⟨_, rfl⟩
  have HX0 := Lib.hid hx0
  obtain ⟨g0, g1⟩ := hc 0 h0
  rw [Nat.zero_mul, Nat.add_zero, ← hx0] at g0 g1
  have HY := Lib.hid hy
  have HCE := Lib.hid hc
  have F1 := Lib.hid (Fr.alloc w (bidBox (0, 0)) [])
  have g0 := F1.out.cell g0 (by simp)
  have g1 := F1.out.cell g1 (by simp)
  have HM0 := Lib.hid (show MF w (0, 0) x0 _ from two_bids w (0, 0) x0)
  have HL1 := Lib.hid (show LeastB (l.take 1) x0 by
    rw [take_more l 0 h0, ← hx0]
    exact least_first x0)
  rw [← hn] at hl p1 h0 ⊢
  clear hc r1 hn hx0 hy
  obtain ⟨xa, xb⟩ := x0
  dsimp only [bidV, bidBox] at *
  go_enter Try.func21, Try.ntmps21
  go_wp2
  go_loopw [6] (fun s6 wx => ∃ (k : Nat) (m : Int × Int), s6 = .int .i64 k ∧ Hid (1 ≤ k ∧ k ≤ n) ∧ Hid (LeastB (l.take k) m) ∧ Hid (MF w (0, 0) m wx)) (fun s6 _ => n - (intOf s6).toNat)
  case atStart => exact ⟨1, (xa, xb), rfl, Lib.hid ⟨Nat.le_refl _, by omega⟩, HL1, HM0⟩
  case round =>
    obtain ⟨k, m, rfl, HK, HL, HM⟩ := hrel
    have hk1 := HK.out.1
    have hk := HK.out.2
    obtain ⟨ma, mb⟩ := m
    obtain ⟨m0, m1⟩ := brow HM.out.2.2
    by_cases hlt : k < n
    · obtain ⟨x, hx⟩ : ∃ x, x = l.getD k (0, 0) := ⟨_, rfl⟩
      obtain ⟨z0, z1⟩ := HCE.out k (by have := HN.out; omega)
      rw [← hx] at z0 z1
      have HT := Lib.hid (show l.take (k + 1) = l.take k ++ [x] by rw [hx]; exact take_more l k (by have := HN.out; omega))
      have HL2 := Lib.hid (show LeastB (l.take (k + 1)) (if ltB x (ma, mb) = true then x else (ma, mb)) by rw [HT.out]; exact HL.out.snoc x)
      obtain ⟨xa, xb⟩ := x
      have HS := Lib.hid (show MS w b (off + k * 2) (xa, xb) (0, 0) (ma, mb) wr.drew from ⟨HM.out.fr (Fr.drew wr []), ⟨(HM.out.1.trans (Fr.drew wr [])).cell z0 (by simp), (HM.out.1.trans (Fr.drew wr [])).cell z1 (by simp)⟩, (Fr.drew wr []).cell m0 (by simp), (Fr.drew wr []).cell m1 (by simp)⟩)
      obtain ⟨cc, hcc⟩ : ∃ c, c = cmpB (xa, xb) (ma, mb) := ⟨_, rfl⟩
      have HV : Hid (∀ W, Calls Try.prog 22 #[.agg #[.int .i64 xa, .int .i64 xb], .agg #[.int .i64 ma, .int .i64 mb]] W fun e w' => e = .returned (.int .i64 cc) ∧ Fr W w' []) := by rw [hcc]; exact bcompare_any xa xb ma mb
      have HLT := Lib.hid (cmpB_lt (xa, xb) (ma, mb))
      rw [← hcc] at HLT
      clear hx z0 z1 hcc m0 m1 HT HL HM
      by_cases hneg : cc < 0
      · have HL3 : Hid (LeastB (l.take (k + 1)) (xa, xb)) := by
          have := HL2.out
          rwa [← HLT.out, decide_eq_true hneg, if_pos rfl] at this
        clear HL2 HLT
        go_wp2
        refine wp_region_det (S := MS w b (off + k * 2) (xa, xb) (0, 0) (ma, mb)) (by kernel_rfl) HS.out ?_
        refine wpDet_take (i := 0) (oi := _) (v := ?dv1) (by simp only [List.getElem?_toArray, List.getElem?_cons_zero]; rfl) (by kernel_rfl) (by kernel_rfl) (by kernel_rfl) (Or.inl ⟨by rfl, ?dy1⟩) ?dr1
        case dy1 => (intro w hSw; have hS0 := hSw; (try dsimp only [MS] at hSw); go_simp; refine Came.value ?_ hS0; with_reducible rfl)
        try simp only [Act.put, List.setIfInBounds_toArray, List.set_cons_zero, List.set_cons_succ]
        refine wpDet_take (i := 1) (oi := _) (v := ?dv2) (by simp only [List.getElem?_toArray, List.getElem?_cons_zero, List.getElem?_cons_succ]; rfl) (by kernel_rfl) (by kernel_rfl) (by kernel_rfl) (Or.inl ⟨by rfl, ?dy2⟩) ?dr2
        case dy2 => (intro w hSw; have hS0 := hSw; (try dsimp only [MS] at hSw); go_simp; refine Came.value ?_ hS0; with_reducible rfl)
        try simp only [Act.put, List.setIfInBounds_toArray, List.set_cons_zero, List.set_cons_succ]
        refine wpDet_take (i := 2) (oi := _) (v := ?dv3) (by simp only [List.getElem?_toArray, List.getElem?_cons_zero, List.getElem?_cons_succ]; rfl) (by kernel_rfl) (by kernel_rfl) (by kernel_rfl) (Or.inl ⟨by rfl, ?dy3⟩) ?dr3
        case dy3 => (intro w hSw; have hS0 := hSw; (try dsimp only [MS] at hSw); go_simp; refine Came.value ?_ hS0; with_reducible rfl)
        try simp only [Act.put, List.setIfInBounds_toArray, List.set_cons_zero, List.set_cons_succ]
        refine wpDet_take (i := 3) (oi := _) (v := ?dv4) (by simp only [List.getElem?_toArray, List.getElem?_cons_zero, List.getElem?_cons_succ]; rfl) (by kernel_rfl) (by kernel_rfl) (by kernel_rfl) (Or.inl ⟨by rfl, ?dy4⟩) ?dr4
        case dy4 => (intro w hSw; have hS0 := hSw; (try dsimp only [MS] at hSw); go_simp; refine Came.value ?_ hS0; with_reducible rfl)
        try simp only [Act.put, List.setIfInBounds_toArray, List.set_cons_zero, List.set_cons_succ]
        refine wpDet_take (i := 4) (oi := _) (v := ?dv5) (by simp only [List.getElem?_toArray, List.getElem?_cons_zero, List.getElem?_cons_succ]; rfl) (by kernel_rfl) (by kernel_rfl) (by kernel_rfl) (Or.inl ⟨by rfl, ?dy5⟩) ?dr5
        case dy5 => (intro w hSw; have hS0 := hSw; (try dsimp only [MS] at hSw); go_simp; refine Came.value ?_ hS0; with_reducible rfl)
        try simp only [Act.put, List.setIfInBounds_toArray, List.set_cons_zero, List.set_cons_succ]
        refine wpDet_take (i := 5) (oi := _) (v := ?dv6) (by simp only [List.getElem?_toArray, List.getElem?_cons_zero, List.getElem?_cons_succ]; rfl) (by kernel_rfl) (by kernel_rfl) (by kernel_rfl) (Or.inl ⟨by rfl, ?dy6⟩) ?dr6
        case dy6 => (intro w hSw; have hS0 := hSw; (try dsimp only [MS] at hSw); go_simp; refine Came.value ?_ hS0; with_reducible rfl)
        try simp only [Act.put, List.setIfInBounds_toArray, List.set_cons_zero, List.set_cons_succ]
        refine wpDet_take (i := 6) (oi := _) (v := ?dv7) (by simp only [List.getElem?_toArray, List.getElem?_cons_zero, List.getElem?_cons_succ]; rfl) (by kernel_rfl) (by kernel_rfl) (by kernel_rfl) (Or.inl ⟨by rfl, ?dy7⟩) ?dr7
        case dy7 => (intro w hSw; go_simp; exact Came.call ((HV.out w).mono fun e w' ⟨he, hf⟩ => ⟨he, hSw.fr hf⟩) (by with_reducible rfl))
        try simp only [Act.put, List.setIfInBounds_toArray, List.set_cons_zero, List.set_cons_succ]
        refine wpDet_take (i := 7) (oi := _) (v := ?dv8) (by simp only [List.getElem?_toArray, List.getElem?_cons_zero, List.getElem?_cons_succ]; rfl) (by kernel_rfl) (by kernel_rfl) (by kernel_rfl) (Or.inl ⟨by rfl, ?dy8⟩) ?dr8
        case dy8 => (intro w hSw; have hS0 := hSw; (try dsimp only [MS] at hSw); go_simp; refine Came.value ?_ hS0; with_reducible rfl)
        try simp only [Act.put, List.setIfInBounds_toArray, List.set_cons_zero, List.set_cons_succ]
        refine wpDet_done (by kernel_rfl) ?_ _
        rintro w1 hS1
        have HM1 := Lib.hid hS1.1
        obtain ⟨t0, t1⟩ := hS1.2.1
        obtain ⟨t2, t3⟩ := hS1.2.2
        obtain ⟨f0, f1⟩ := bfz HM1.out.2.2
        have HM2 := Lib.hid (HM1.out.set (xa, xb))
        clear hS1 HS HV
        go_wp2
        go_roundw
        case rel => exact ⟨k + 1, (xa, xb), by go_num, Lib.hid ⟨by omega, by omega⟩, HL3, HM2⟩
        case measure => simp [intOf]; omega
      · have HL3 : Hid (LeastB (l.take (k + 1)) (ma, mb)) := by
          have := HL2.out
          rwa [← HLT.out, decide_eq_false hneg, if_neg (by simp)] at this
        clear HL2 HLT
        go_wp2
        refine wp_region_det (S := MS w b (off + k * 2) (xa, xb) (0, 0) (ma, mb)) (by kernel_rfl) HS.out ?_
        refine wpDet_take (i := 0) (oi := _) (v := ?dv9) (by simp only [List.getElem?_toArray, List.getElem?_cons_zero]; rfl) (by kernel_rfl) (by kernel_rfl) (by kernel_rfl) (Or.inl ⟨by rfl, ?dy9⟩) ?dr9
        case dy9 => (intro w hSw; have hS0 := hSw; (try dsimp only [MS] at hSw); go_simp; refine Came.value ?_ hS0; with_reducible rfl)
        try simp only [Act.put, List.setIfInBounds_toArray, List.set_cons_zero, List.set_cons_succ]
        refine wpDet_take (i := 1) (oi := _) (v := ?dv10) (by simp only [List.getElem?_toArray, List.getElem?_cons_zero, List.getElem?_cons_succ]; rfl) (by kernel_rfl) (by kernel_rfl) (by kernel_rfl) (Or.inl ⟨by rfl, ?dy10⟩) ?dr10
        case dy10 => (intro w hSw; have hS0 := hSw; (try dsimp only [MS] at hSw); go_simp; refine Came.value ?_ hS0; with_reducible rfl)
        try simp only [Act.put, List.setIfInBounds_toArray, List.set_cons_zero, List.set_cons_succ]
        refine wpDet_take (i := 2) (oi := _) (v := ?dv11) (by simp only [List.getElem?_toArray, List.getElem?_cons_zero, List.getElem?_cons_succ]; rfl) (by kernel_rfl) (by kernel_rfl) (by kernel_rfl) (Or.inl ⟨by rfl, ?dy11⟩) ?dr11
        case dy11 => (intro w hSw; have hS0 := hSw; (try dsimp only [MS] at hSw); go_simp; refine Came.value ?_ hS0; with_reducible rfl)
        try simp only [Act.put, List.setIfInBounds_toArray, List.set_cons_zero, List.set_cons_succ]
        refine wpDet_take (i := 3) (oi := _) (v := ?dv12) (by simp only [List.getElem?_toArray, List.getElem?_cons_zero, List.getElem?_cons_succ]; rfl) (by kernel_rfl) (by kernel_rfl) (by kernel_rfl) (Or.inl ⟨by rfl, ?dy12⟩) ?dr12
        case dy12 => (intro w hSw; have hS0 := hSw; (try dsimp only [MS] at hSw); go_simp; refine Came.value ?_ hS0; with_reducible rfl)
        try simp only [Act.put, List.setIfInBounds_toArray, List.set_cons_zero, List.set_cons_succ]
        refine wpDet_take (i := 4) (oi := _) (v := ?dv13) (by simp only [List.getElem?_toArray, List.getElem?_cons_zero, List.getElem?_cons_succ]; rfl) (by kernel_rfl) (by kernel_rfl) (by kernel_rfl) (Or.inl ⟨by rfl, ?dy13⟩) ?dr13
        case dy13 => (intro w hSw; have hS0 := hSw; (try dsimp only [MS] at hSw); go_simp; refine Came.value ?_ hS0; with_reducible rfl)
        try simp only [Act.put, List.setIfInBounds_toArray, List.set_cons_zero, List.set_cons_succ]
        refine wpDet_take (i := 5) (oi := _) (v := ?dv14) (by simp only [List.getElem?_toArray, List.getElem?_cons_zero, List.getElem?_cons_succ]; rfl) (by kernel_rfl) (by kernel_rfl) (by kernel_rfl) (Or.inl ⟨by rfl, ?dy14⟩) ?dr14
        case dy14 => (intro w hSw; have hS0 := hSw; (try dsimp only [MS] at hSw); go_simp; refine Came.value ?_ hS0; with_reducible rfl)
        try simp only [Act.put, List.setIfInBounds_toArray, List.set_cons_zero, List.set_cons_succ]
        refine wpDet_take (i := 6) (oi := _) (v := ?dv15) (by simp only [List.getElem?_toArray, List.getElem?_cons_zero, List.getElem?_cons_succ]; rfl) (by kernel_rfl) (by kernel_rfl) (by kernel_rfl) (Or.inl ⟨by rfl, ?dy15⟩) ?dr15
        case dy15 => (intro w hSw; go_simp; exact Came.call ((HV.out w).mono fun e w' ⟨he, hf⟩ => ⟨he, hSw.fr hf⟩) (by with_reducible rfl))
        try simp only [Act.put, List.setIfInBounds_toArray, List.set_cons_zero, List.set_cons_succ]
        refine wpDet_take (i := 7) (oi := _) (v := ?dv16) (by simp only [List.getElem?_toArray, List.getElem?_cons_zero, List.getElem?_cons_succ]; rfl) (by kernel_rfl) (by kernel_rfl) (by kernel_rfl) (Or.inl ⟨by rfl, ?dy16⟩) ?dr16
        case dy16 => (intro w hSw; have hS0 := hSw; (try dsimp only [MS] at hSw); go_simp; refine Came.value ?_ hS0; with_reducible rfl)
        try simp only [Act.put, List.setIfInBounds_toArray, List.set_cons_zero, List.set_cons_succ]
        refine wpDet_done (by kernel_rfl) ?_ _
        rintro w1 hS1
        have HM1 := Lib.hid hS1.1
        clear hS1 HS HV
        go_wp2
        go_roundw
        case rel => exact ⟨k + 1, (ma, mb), by go_num, Lib.hid ⟨by omega, by omega⟩, HL3, HM1⟩
        case measure => simp [intOf]; omega
    · obtain rfl : k = n := by omega
      have HE : Hid ((ma, mb) = y) := by
        have := HL.out
        rw [HN.out, List.take_length] at this
        exact this.unique HY.out
      obtain ⟨t0, t1⟩ := brow HM.out.2.1
      obtain ⟨f0, f1⟩ := bfz HM.out.2.1
      have HM2 := Lib.hid (HM.out.out (ma, mb))
      obtain ⟨e0, e1⟩ := brow HM2.out.2.1
      clear HL
      have HF := Lib.hid HM2.out.1
      clear HM2
      go_wp2
      generalize World.setCell (World.setCell wr _ _) _ _ = W at HF e0 e1 ⊢
      exact bodyPost_ret (v := .agg #[.int .i64 ma, .int .i64 mb]) (by simp [results, Try.results21, go_sem, e0, e1]) rfl ⟨by rw [← HE.out], HF.out⟩
set_option maxRecDepth 100000 in
theorem bleast_some (v : Value) (l : List (Int × Int)) (y : Int × Int) (w : World) (h : HB w v l) (hl : l.length ≤ 1000) (hy : LeastB l y) : Calls Try.prog 9 #[v] w fun x w' => x = .returned (.tuple #[bidV y, .bool true]) ∧ Fr w w' [] := by
  have F1 := Lib.hid (Fr.alloc w (bidBox (0, 0)) [])
  have R1 := Lib.hid (heap_alloc_new w (bidBox (0, 0)))
  have HM := Lib.hid (minf_any v l y _ (h.keep F1.out) (by omega) hy)
  obtain ⟨a, cap, rfl, p1, q1, r1⟩ := h
  have h0 : 0 < l.length := List.length_pos_of_mem hy.1
  have hne : ((l.length : Int) == 0) = false := by rw [beq_eq_false_iff_ne]; omega
  clear r1 hy
  obtain ⟨ya, yb⟩ := y
  dsimp only [bidV, bidBox] at *
  go_enter Try.func9, Try.ntmps9
  go_wp2_with fail
  with_reducible refine (HM.out).mono ?_
  rintro e w1 ⟨rfl, hf⟩
  have R2 := Lib.hid (hf.heap R1.out (by simp))
  have F2 := Lib.hid (F1.out.trans hf)
  obtain ⟨t0, t1⟩ := brow R2.out
  obtain ⟨f0, f1⟩ := bfz R2.out
  obtain ⟨e0, e1⟩ := brow (bset R2.out (.int .i64 ya) (.int .i64 yb))
  have F3 := Lib.hid (F2.out.new (bset_fr w1 w.heap.size (.int .i64 ya) (.int .i64 yb)) (by intro r hr; obtain rfl := List.mem_singleton.1 hr; omega))
  clear hf HM
  go_wp2
  generalize World.setCell (World.setCell w1 _ _) _ _ = W at F3 e0 e1 ⊢
  exact bodyPost_ret (v := .tuple #[.agg #[.int .i64 ya, .int .i64 yb], .bool true]) (by simp [results, Try.results9, go_sem, e0, e1]) rfl ⟨rfl, F3.out⟩
set_option maxRecDepth 100000 in
theorem bleast_none (v : Value) (w : World) (h : HB w v []) : Calls Try.prog 9 #[v] w fun x w' => x = .returned (.tuple #[bidV (0, 0), .bool false]) ∧ Fr w w' [] := by
  obtain ⟨a, cap, rfl, p1, q1, r1⟩ := h
  have F1 := Lib.hid (Fr.alloc w (bidBox (0, 0)) [])
  have R1 := Lib.hid (heap_alloc_new w (bidBox (0, 0)))
  obtain ⟨t0, t1⟩ := brow R1.out
  obtain ⟨f0, f1⟩ := bfz R1.out
  clear r1
  dsimp only [bidV, bidBox] at *
  go_enter Try.func9, Try.ntmps9
  go_wp2
  generalize World.alloc w _ = W at F1 t0 t1 ⊢
  exact bodyPost_ret (v := .tuple #[.agg #[.int .i64 0, .int .i64 0], .bool false]) (by simp [results, Try.results9, go_sem, t0, t1]) rfl ⟨rfl, F1.out⟩
end Go.Proofs.Ytfphihhcclfmnaa
