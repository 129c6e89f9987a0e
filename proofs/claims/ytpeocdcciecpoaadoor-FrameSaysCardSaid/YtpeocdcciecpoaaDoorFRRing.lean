/- The document's readRing. -/
import Derived.Test.YtpeocdcciecpoaaDoorFRReader
import Derived.Test.YtpeocdcciecpoaaDoorFRead3
import Derived.Test.YtpeocdcciecpoaaDoorFClone2
namespace Go.Proofs.YtpeocdcciecpoaaDoor
open Go.RowKit Fm

theorem RR.types {w : World} {B p : Nat} {l : List Int} {k c : Nat} (h : RR w B p l k c) : ∀ r ∈ [p], ∃ cs T, w.heap[r]? = some (.cells cs T (0, 0)) ∧ T ≠ 61 ∧ T ≠ 63 := by
  intro r hr
  obtain rfl := List.mem_singleton.1 hr
  obtain ⟨v, h1, _⟩ := h
  exact ⟨_, _, h1, by decide, by decide⟩
/-- So far so many have been read of N. -/
def RepAt {α : Type} (p : P α) (N j : Nat) (l : List Int) (k c : Nat) (xs : List α) (kk cc : Nat) : Prop :=
  xs.length = j ∧ (cc = 0 → rep p j l k c = (xs, kk, 0)) ∧ (cc ≠ 0 → (rep p N l k c).2 = (kk, cc))
theorem RepAt.zero {α : Type} {p : P α} (hd : Dead p) (N : Nat) (l : List Int) (k c : Nat) : RepAt p N 0 l k c [] k c :=
  ⟨rfl, fun h => by subst h; rfl, fun h => (hd.rep N) l k c h⟩
theorem rep_dead {α : Type} {p : P α} (hd : Dead p) {l : List Int} {k c kk cc : Nat} (hc : cc ≠ 0) {j : Nat} (h : (rep p j l k c).2 = (kk, cc)) : ∀ n, j ≤ n → (rep p n l k c).2 = (kk, cc) := by
  intro n hn
  induction n with
  | zero => obtain rfl : j = 0 := by omega
            exact h
  | succ n ih =>
    by_cases e : j = n + 1
    · rw [← e]; exact h
    · have h1 := ih (by omega)
      have h2 := congrArg Prod.fst h1
      have h3 := congrArg Prod.snd h1
      simp only at h2 h3
      rw [rep_succ, h2, h3]
      exact hd l kk cc hc
theorem RepAt.step {α : Type} {p : P α} (hd : Dead p) {N j : Nat} {l : List Int} {k c : Nat} {xs : List α} {kk : Nat} (h : RepAt p N j l k c xs kk 0) (hj : j < N) {y : α} {q d : Nat} (h2 : (p l kk 0).2 = (q, d)) (h1 : d = 0 → (p l kk 0).1 = y) : RepAt p N (j + 1) l k c (xs ++ [y]) q d := by
  obtain ⟨a1, a2, _⟩ := h
  have e := a2 rfl
  have h3 := congrArg Prod.fst h2
  have h4 := congrArg Prod.snd h2
  simp only at h3 h4
  refine ⟨by simp [a1], fun hd0 => ?_, fun hd0 => ?_⟩
  · rw [rep_succ, e]
    simp only
    rw [h1 hd0, h3, h4, hd0]
  · refine rep_dead hd hd0 (j := j + 1) ?_ N (by omega)
    rw [rep_succ, e]
    simp only
    rw [h3, h4]
theorem RepAt.done {α : Type} {p : P α} {N j : Nat} {l : List Int} {k c : Nat} {xs : List α} {kk cc : Nat} (h : RepAt p N j l k c xs kk cc) (hj : j = N ∨ cc ≠ 0) : (rep p N l k c).2 = (kk, cc) ∧ (cc = 0 → (rep p N l k c).1 = xs) := by
  obtain ⟨a1, a2, a3⟩ := h
  by_cases hc : cc = 0
  · subst hc
    obtain rfl : j = N := by rcases hj with h | h; exact h; exact absurd rfl h
    have e := a2 rfl
    rw [e]
    exact ⟨rfl, fun _ => rfl⟩
  · exact ⟨a3 hc, fun h => absurd h hc⟩
/-- What readRing hands back. -/
def RRing (B p : Nat) (l : List Int) (R : Rg) (k c : Nat) (w0 : World) (v : Value) (w' : World) : Prop :=
  ∃ R' vm ve xs, v = rgV R' vm ve ∧ OwnI w' w0.heap.size vm R'.ms ∧ OwnE w' w0.heap.size ve xs ∧ xs.map (·.1) = R'.es ∧ (c = 0 → R' = R) ∧ RR w' B p l k c ∧ Fr w0 w' [p]
theorem num_behind {lo hi : Int} {l : List Int} {k c : Nat} (h : c ≠ 0) : Fm.num lo hi l k c = (0, k, c) := by unfold Fm.num; rw [if_neg h]
theorem fourN {lo hi : Int} {l : List Int} {k c : Nat} {x : Int} {k' c' : Nat} (h : Fm.num lo hi l k c = (x, k', c')) : c ≠ 0 → c' = c ∧ k' = k := by
  intro hc
  rw [num_behind hc] at h
  simp only [Prod.mk.injEq] at h
  exact ⟨h.2.2.symm, h.2.1.symm⟩

set_option maxHeartbeats 16000000 in
set_option maxRecDepth 100000 in
theorem rring_any (B p : Nat) (l : List Int) (k c : Nat) (w : World) (h : RR w B p l k c) (hb : Wm.Byte l) (hl : l.length ≤ 140737488355328) (R : Rg) (k' c' : Nat) (hn : Fm.rdRg l k c = (R, k', c')) :
    Calls Tryd.prog 45 #[.pointer (some ⟨p, 0, none⟩)] w (Gives (RRing B p l R k' c' w)) := by
  obtain ⟨i0, hi, hz0, hz1, hz2⟩ := info_parts infoI
  obtain ⟨i1, ii, iz0, iz1, iz2⟩ := info_parts infoEn
  obtain ⟨i2, ji, jz0, jz1, jz2⟩ := info_parts infoBd
  have HN := Lib.hid hn
  have HP := Lib.hid (show B ≤ p ∧ p < w.heap.size from ⟨h.low, h.lt⟩)
  have HBY := Lib.hid hb
  have HLL := Lib.hid hl
  have HTB := Lib.hid (two_boxes w (.cells #[.int .i64 0, .int .i64 0, .int .i64 0, .slice none 0 0, .slice none 0 0] 27) (.cells #[.int .i64 0, .int .i64 0, .int .i64 0, .slice none 0 0, .slice none 0 0] 27))
  have HF0 := Lib.hid ((Fr.alloc w (.cells #[.int .i64 0, .int .i64 0, .int .i64 0, .slice none 0 0, .slice none 0 0] 27) []).trans (Fr.alloc _ (.cells #[.int .i64 0, .int .i64 0, .int .i64 0, .slice none 0 0, .slice none 0 0] 27) []))
  have H0 := Lib.hid (h.keep HF0.out)
  obtain ⟨x1, k1, c1, h1⟩ : ∃ x k' c', Fm.num 1 4294967295 l k c = (x, k', c') := ⟨_, _, _, rfl⟩
  obtain ⟨x2, k2, c2, h2⟩ : ∃ x k' c', Fm.num 0 15 l k1 c1 = (x, k', c') := ⟨_, _, _, rfl⟩
  obtain ⟨x3, k3, c3, h3⟩ : ∃ x k' c', Fm.num 0 1099511627776 l k2 c2 = (x, k', c') := ⟨_, _, _, rfl⟩
  obtain ⟨x4, k4, c4, h4⟩ : ∃ x k' c', Fm.num 0 16 l k3 c3 = (x, k', c') := ⟨_, _, _, rfl⟩
  have hr4 := range_len h4
  have H1 := Lib.hid h1
  have H2 := Lib.hid h2
  have H3 := Lib.hid h3
  have H4 := Lib.hid h4
  obtain ⟨N, rfl⟩ := Int.eq_ofNat_of_zero_le hr4.1
  have hN : N ≤ 16 := by omega
  clear h hb hl hn h1 h2 h3 h4 hr4
  go_enter Tryd.func45, Tryd.ntmps45
  go_wp2_with fail
  refine (rnum B p l k c 1 4294967295 _ H0.out HBY.out HLL.out x1 k1 c1 H1.out).mono ?_
  rintro e w1 ⟨rfl, hs, hf⟩
  have S1 := Lib.hid hs
  have F1 := Lib.hid ((HF0.out.mono (by simp)).trans hf)
  have G1 := Lib.hid (hf.heap HTB.out.1 (by have := HP.out; simp; omega))
  have B1 := Lib.hid (hf.heap HTB.out.2 (by have := HP.out; simp; omega))
  have q1 := row5 B1.out
  have y1 := frozen_of_row _ _ 0 _ _ B1.out
  have X1 := Lib.hid (Fr.setCell w1 (w.heap.size + 1) 0 (.int .i64 x1) (S := [w.heap.size + 1]) (by simp))
  have T1 := Lib.hid (S1.out.set B1.out (by have := HP.out; omega) (by decide) 0 (.int .i64 x1))
  have D1 := Lib.hid (X1.out.heap G1.out (by simp))
  have E1 := Lib.hid (F1.out.new X1.out (by simp))
  have C1 : Hid ((w1.setCell ⟨w.heap.size + 1, 0, none⟩ (.int .i64 x1)).heap[w.heap.size + 1]? = some (.cells #[.int .i64 x1, .int .i64 0, .int .i64 0, .slice none 0 0, .slice none 0 0] 27 (0, 0))) := heap_setCell_same _ (w.heap.size + 1) 0 _ _ (.int .i64 x1) B1.out
  clear hs hf
  go_wp2_with fail
  refine (rnum B p l k1 c1 0 15 _ T1.out HBY.out HLL.out x2 k2 c2 H2.out).mono ?_
  rintro e w2 ⟨rfl, hs, hf⟩
  have S2 := Lib.hid hs
  have F2 := Lib.hid (E1.out.trans hf)
  have G2 := Lib.hid (hf.heap D1.out (by have := HP.out; simp; omega))
  have B2 := Lib.hid (hf.heap C1.out (by have := HP.out; simp; omega))
  have q2 := row5 B2.out
  have y2 := frozen_of_row _ _ 1 _ _ B2.out
  have X2 := Lib.hid (Fr.setCell w2 (w.heap.size + 1) 1 (.int .i64 x2) (S := [w.heap.size + 1]) (by simp))
  have T2 := Lib.hid (S2.out.set B2.out (by have := HP.out; omega) (by decide) 1 (.int .i64 x2))
  have D2 := Lib.hid (X2.out.heap G2.out (by simp))
  have E2 := Lib.hid (F2.out.new X2.out (by simp))
  have C2 : Hid ((w2.setCell ⟨w.heap.size + 1, 1, none⟩ (.int .i64 x2)).heap[w.heap.size + 1]? = some (.cells #[.int .i64 x1, .int .i64 x2, .int .i64 0, .slice none 0 0, .slice none 0 0] 27 (0, 0))) := heap_setCell_same _ (w.heap.size + 1) 1 _ _ (.int .i64 x2) B2.out
  clear hs hf
  clear q1 y1
  go_wp2_with fail
  refine (rnum B p l k2 c2 0 1099511627776 _ T2.out HBY.out HLL.out x3 k3 c3 H3.out).mono ?_
  rintro e w3 ⟨rfl, hs, hf⟩
  have S3 := Lib.hid hs
  have F3 := Lib.hid (E2.out.trans hf)
  have G3 := Lib.hid (hf.heap D2.out (by have := HP.out; simp; omega))
  have B3 := Lib.hid (hf.heap C2.out (by have := HP.out; simp; omega))
  have q3 := row5 B3.out
  have y3 := frozen_of_row _ _ 2 _ _ B3.out
  have X3 := Lib.hid (Fr.setCell w3 (w.heap.size + 1) 2 (.int .i64 x3) (S := [w.heap.size + 1]) (by simp))
  have T3 := Lib.hid (S3.out.set B3.out (by have := HP.out; omega) (by decide) 2 (.int .i64 x3))
  have D3 := Lib.hid (X3.out.heap G3.out (by simp))
  have E3 := Lib.hid (F3.out.new X3.out (by simp))
  have C3 : Hid ((w3.setCell ⟨w.heap.size + 1, 2, none⟩ (.int .i64 x3)).heap[w.heap.size + 1]? = some (.cells #[.int .i64 x1, .int .i64 x2, .int .i64 x3, .slice none 0 0, .slice none 0 0] 27 (0, 0))) := heap_setCell_same _ (w.heap.size + 1) 2 _ _ (.int .i64 x3) B3.out
  clear hs hf
  clear q2 y2
  go_wp2_with fail
  refine (rnum B p l k3 c3 0 16 _ T3.out HBY.out HLL.out _ k4 c4 H4.out).mono ?_
  rintro e w4 ⟨rfl, hs, hf⟩
  have S4 := Lib.hid hs
  have F4 := Lib.hid (E3.out.trans hf)
  have G4 := Lib.hid (hf.heap D3.out (by have := HP.out; simp; omega))
  have B4 := Lib.hid (hf.heap C3.out (by have := HP.out; simp; omega))
  clear hs hf q3 y3
  go_wp2
  go_loopw [6] (fun i wr => ∃ (j : Nat) (ms : List Int) (kk cc : Nat) (vm : Value), j ≤ N ∧ i = .int .i64 j ∧ RR wr B p l kk cc ∧ OwnI wr w.heap.size vm ms ∧ RepAt (Fm.num 0 15) N j l k4 c4 ms kk cc ∧
      wr.heap[w.heap.size + 1]? = some (.cells #[.int .i64 x1, .int .i64 x2, .int .i64 x3, vm, .slice none 0 0] 27 (0, 0)) ∧ wr.heap[w.heap.size]? = some (.cells #[.int .i64 0, .int .i64 0, .int .i64 0, .slice none 0 0, .slice none 0 0] 27 (0, 0)) ∧ Fr w wr [p]) (fun i _ => N - (intOf i).toNat)
  case atStart => exact ⟨0, [], k4, c4, _, by omega, rfl, S4.out, ⟨rfl, .inl ⟨rfl, rfl⟩⟩, RepAt.zero (Dead.num _ _) _ _ _ _, B4.out, G4.out, F4.out⟩
  case round =>
    clear S4 F4 G4 B4 S1 S2 S3 F1 F2 F3 G1 G2 G3 B1 B2 B3 X1 X2 X3 T1 T2 T3 D1 D2 D3 E1 E2 E3 C1 C2 C3 H0 HF0 HTB
    obtain ⟨j, ms, kk, cc, vm, hj, rfl, hs, ho, hrep, hb, hg, hf⟩ := hrel
    have S := Lib.hid hs
    have O := Lib.hid ho
    have RP := Lib.hid hrep
    have LB := Lib.hid hrep.1
    have BX := Lib.hid hb
    have GX := Lib.hid hg
    have F := Lib.hid hf
    have HWB := Lib.hid (show w.heap.size ≤ wr.heap.size from hf.size)
    clear hs ho hrep hb hg hf
    by_cases hgo : j < N ∧ cc = 0
    · obtain ⟨hlt, hc0⟩ := hgo
      subst hc0
      obtain ⟨y1, q1, d1, g1⟩ : ∃ x k' c', Fm.num 0 15 l kk 0 = (x, k', c') := ⟨_, _, _, rfl⟩
      have Y1 := Lib.hid g1
      have HST := Lib.hid (RP.out.step (Dead.num _ _) hlt (y := y1) (q := q1) (d := d1) (by rw [Y1.out]) (fun _ => by rw [Y1.out]))
      have SD := Lib.hid (S.out.keep (Fr.drew wr []))
      have BD := Lib.hid ((Fr.drew wr []).heap BX.out (by simp))
      have hbox0 := (row5 BD.out).2.2.2.1
      have HNP := Lib.hid (show w.heap.size + 1 ≠ p by have := HP.out; omega)
      clear g1
      go_wp2_with fail
      refine (rok B p l kk 0 _ S.out true (yes rfl)).mono ?_
      rintro e we ⟨rfl, rfl⟩
      go_wp2_with fail
      go_region_law (first
        | (go_simp; go_at_call 43; refine (rnum B p l kk 0 0 15 _ SD.out HBY.out HLL.out y1 q1 d1 Y1.out).mono ?_; rintro e wb ⟨rfl, hb, hfb⟩; have SB := Lib.hid hb; have FB := Lib.hid hfb; have BB := Lib.hid (hfb.heap BD.out (by simpa using HNP.out)); have hbox2 := (row5 BB.out).2.2.2.1; have hbox3 := (row5 ((Fr.alloc wb (.cells #[.int .i64 y1] 3) []).heap BB.out (by simp))).2.2.2.1; clear hb hfb)
        | (refine step_append_lies _ (by rfl) _ _ _ (by rfl) w.heap.size 3 i0 _ 1 8 Tryd.underlying24 hi hz0 hz1 hz2 rfl (by omega) vm ms.length (i64s ms) (by rfl) (World.ownsRow.alloc (row_fr (row_fr O.out (Fr.drew wr []) (by simp)) FB.out (SD.out.row_ne (row_fr O.out (Fr.drew wr []) (by simp)) (by decide))) _) ⟨wb.heap.size, 0, none⟩ 1 1 [.int .i64 y1] (by rfl) (by rfl) (World.news_of_block (cs := #[.int .i64 y1]) (t := 3) (fr := (0, 0)) (heap_alloc_new wb _)) (by simp [Value.oneCell']) (by omega) (by have := LB.out; unfold maxLen; omega) (by have := LB.out; omega) (by have h1 := HWB.out; have h2 := FB.out.size; simp at h2 ⊢; omega) (wb.heap.size + 1) (by simp) ?_; intro gg cap wc hown hgrow hat hlt'; have OC := Lib.hid hown; have GC := Lib.hid hgrow; have BC := Lib.hid (row_far hgrow (World.ownsRow.alloc (row_fr (row_fr O.out (Fr.drew wr []) (by simp)) FB.out (SD.out.row_ne (row_fr O.out (Fr.drew wr []) (by simp)) (by decide))) _) ((Fr.alloc wb (.cells #[.int .i64 y1] 3) []).heap BB.out (by simp)) (by decide)); have hbox4 := (row5 BC.out).2.2.2.1; have hfz := frozen_of_row _ _ 3 _ _ BC.out; clear hown hgrow hat hlt'))
      all_goals
        have OA := Lib.hid (World.ownsRow.alloc (row_fr (row_fr O.out (Fr.drew wr []) (by simp)) FB.out (SD.out.row_ne (row_fr O.out (Fr.drew wr []) (by simp)) (by decide))) (.cells #[.int .i64 y1] 3))
        have FA1 := Lib.hid (Fr.alloc wb (.cells #[.int .i64 y1] 3) [])
        have SC := Lib.hid (((SB.out.keep FA1.out).row OA.out GC.out (by have := HP.out; omega) (by decide)).set BC.out (by have := HP.out; omega) (by decide) 3 (.slice (some ⟨gg, 0, none⟩) (ms.length + 1) cap))
        have OD := Lib.hid (row_set OC.out BC.out (by decide) 3 (.slice (some ⟨gg, 0, none⟩) (ms.length + 1) cap))
        have GA := Lib.hid (FA1.out.heap (FB.out.heap ((Fr.drew wr []).heap GX.out (by simp)) (by have := HP.out; simp; omega)) (by simp))
        have GD := Lib.hid (row_far GC.out OA.out GA.out (by decide))
        have FD := Lib.hid (((((F.out.trans (Fr.drew wr [p])).trans FB.out).trans (FA1.out.mono (by simp))).row OA.out GC.out (by omega)).new (Fr.setCell wc (w.heap.size + 1) 3 (.slice (some ⟨gg, 0, none⟩) (ms.length + 1) cap) (S := [w.heap.size + 1]) (by simp)) (by simp))
        go_wp2
        go_roundw
        case rel =>
          refine ⟨j + 1, ms ++ [y1], q1, d1, _, by omega, by go_num, SC.out, ?_, HST.out, by rw [heap_setCell_same _ _ 3 _ _ _ BC.out]; rfl, (Fr.setCell wc (w.heap.size + 1) 3 _ (S := [w.heap.size + 1]) (by simp)).heap GD.out (by simp), FD.out⟩
          unfold OwnI
          rw [List.length_append, show i64s (ms ++ [y1]) = i64s ms ++ [.int .i64 y1] by simp [i64s]]
          exact OD.out
        case measure => simp [intOf]; omega
    have DN := Lib.hid (RP.out.done (by omega))
    obtain ⟨zm, cm, hvm⟩ := O.out.holds.shape
    subst hvm
    obtain ⟨x6, k6, c6, h6⟩ : ∃ x k' c', Fm.num 0 128 l kk cc = (x, k', c') := ⟨_, _, _, rfl⟩
    have hr6 := range_len h6
    have H6 := Lib.hid h6
    obtain ⟨M, rfl⟩ := Int.eq_ofNat_of_zero_le hr6.1
    have hM : M ≤ 128 := by omega
    have H46 := Lib.hid (fourN h6)
    clear h6 hr6
    by_cases hlt : j < N
    · have hcc : cc ≠ 0 := fun e => hgo ⟨hlt, e⟩
      have HNO := Lib.hid (no hcc)
      clear hgo
      go_wp2_with fail
      refine (rok B p l kk cc _ S.out false HNO.out).mono ?_
      rintro e we ⟨rfl, rfl⟩
      clear hcc
      go_wp2_with fail
      refine (rnum B p l kk cc 0 128 _ S.out HBY.out HLL.out _ k6 c6 H6.out).mono ?_
      rintro e w6 ⟨rfl, hs, hf⟩
      have S6 := Lib.hid hs
      have OM6 := Lib.hid (row_fr O.out hf (S.out.row_ne O.out (by decide)))
      have B6 := Lib.hid (hf.heap BX.out (by have := HP.out; simp; omega))
      have G6 := Lib.hid (hf.heap GX.out (by have := HP.out; simp; omega))
      have F6 := Lib.hid (F.out.trans hf)
      clear hs hf S O BX GX F HWB RP
      go_wp2
      go_loopw [8] (fun i wr => ∃ (t : Nat) (kk2 cc2 : Nat) (ve : Value) (xs : List (En × Value)), t ≤ M ∧ i = .int .i64 t ∧ RR wr B p l kk2 cc2 ∧ OwnI wr w.heap.size (.slice zm ms.length cm) ms ∧ OwnE wr w.heap.size ve xs ∧ RepAt (rdEn (N : Int)) M t l k6 c6 (xs.map (·.1)) kk2 cc2 ∧
          wr.heap[w.heap.size + 1]? = some (.cells #[.int .i64 x1, .int .i64 x2, .int .i64 x3, .slice zm ms.length cm, ve] 27 (0, 0)) ∧ wr.heap[w.heap.size]? = some (.cells #[.int .i64 0, .int .i64 0, .int .i64 0, .slice none 0 0, .slice none 0 0] 27 (0, 0)) ∧ Fr w wr [p]) (fun i _ => M - (intOf i).toNat)
      case atStart => exact ⟨0, k6, c6, _, [], by omega, rfl, S6.out, OM6.out, ⟨⟨rfl, .inl ⟨rfl, rfl⟩⟩, by simp⟩, RepAt.zero (dead_en _) _ _ _ _, B6.out, G6.out, F6.out⟩
      case round =>
        clear S6 OM6 B6 G6 F6
        obtain ⟨t, kk2, cc2, ve, xs, ht, rfl, hs, hom, hoe, hrep, hb, hg, hf⟩ := hrel
        have S := Lib.hid hs
        have OM := Lib.hid hom
        have OE := Lib.hid hoe
        have RP := Lib.hid hrep
        have HL := Lib.hid (show xs.length = t by have h := hrep.1; rw [List.length_map] at h; exact h)
        have BX := Lib.hid hb
        have GX := Lib.hid hg
        have F := Lib.hid hf
        have HWB := Lib.hid (show w.heap.size + 1 < wr.heap.size from size_of_row hb)
        clear hs hom hoe hrep hb hg hf
        by_cases hgo2 : t < M ∧ cc2 = 0
        · obtain ⟨hlt2, hc0⟩ := hgo2
          subst hc0
          obtain ⟨f1, a1, b1, n1⟩ : ∃ x k' c', Fm.num 0 63 l kk2 0 = (x, k', c') := ⟨_, _, _, rfl⟩
          have N1 := Lib.hid n1
          obtain ⟨f2, a2, b2, n2⟩ : ∃ x k' c', Fm.num (-1) 1 l a1 b1 = (x, k', c') := ⟨_, _, _, rfl⟩
          have N2 := Lib.hid n2
          obtain ⟨f3, a3, b3, n3⟩ : ∃ x k' c', Fm.num 1 2147483647 l a2 b2 = (x, k', c') := ⟨_, _, _, rfl⟩
          have N3 := Lib.hid n3
          obtain ⟨f4, a4, b4, n4⟩ : ∃ x k' c', Fm.num (-1) 15 l a3 b3 = (x, k', c') := ⟨_, _, _, rfl⟩
          have N4 := Lib.hid n4
          obtain ⟨f5, a5, b5, n5⟩ : ∃ x k' c', Fm.num 0 (N : Int) l a4 b4 = (x, k', c') := ⟨_, _, _, rfl⟩
          have hr5 := range_len n5
          have N5 := Lib.hid n5
          obtain ⟨Kb, rfl⟩ := Int.eq_ofNat_of_zero_le hr5.1
          have hKb : Kb ≤ 16 := by omega
          have HRE : Hid (rdEn (N : Int) l kk2 0 = (⟨f1, f2, f3, (rep rdBid Kb l a5 b5).1, f4⟩, (rep rdBid Kb l a5 b5).2.1, (rep rdBid Kb l a5 b5).2.2)) := by
            show _ = _
            simp only [rdEn, Fm.bind, N1.out, N2.out, N3.out, N4.out, N5.out, Int.toNat_natCast, Fm.ret]
          obtain ⟨wl, hwl⟩ : ∃ wl, wl = wr := ⟨_, rfl⟩
          subst hwl
          have AE := Lib.hid (Fr.alloc wl (.cells #[.int .i64 0, .int .i64 0, .int .i64 0, .slice none 0 0, .int .i64 0] 61) [p])
          have BE := Lib.hid (heap_alloc_new wl (.cells #[.int .i64 0, .int .i64 0, .int .i64 0, .slice none 0 0, .int .i64 0] 61))
          have SE := Lib.hid (S.out.keep (Fr.alloc wl (.cells #[.int .i64 0, .int .i64 0, .int .i64 0, .slice none 0 0, .int .i64 0] 61) []))
          have HNW := Lib.hid (show p < wl.heap.size ∧ B ≤ wl.heap.size from ⟨S.out.lt, by have := HP.out; have := HWB.out; omega⟩)
          clear n1 n2 n3 n4 n5 hr5
          go_wp2_with fail
          refine (rok B p l kk2 0 _ S.out true (yes rfl)).mono ?_
          rintro e we ⟨rfl, rfl⟩
          go_wp2_with fail
          refine (rnum B p l kk2 0 0 63 _ SE.out HBY.out HLL.out f1 a1 b1 N1.out).mono ?_
          rintro e v1 ⟨rfl, hs, hf⟩
          have S1 := Lib.hid hs
          have F1 := Lib.hid (AE.out.trans hf)
          have B1 := Lib.hid (hf.heap BE.out (by have := HNW.out; simp; omega))
          have q1 := row5 B1.out
          have y1 := frozen_of_row _ _ 0 _ _ B1.out
          have X1 := Lib.hid (Fr.setCell v1 wl.heap.size 0 (.int .i64 f1) (S := [wl.heap.size]) (by simp))
          have T1 := Lib.hid (S1.out.set B1.out HNW.out.2 (by decide) 0 (.int .i64 f1))
          have E1 := Lib.hid (F1.out.new X1.out (by simp))
          have C1 : Hid ((v1.setCell ⟨wl.heap.size, 0, none⟩ (.int .i64 f1)).heap[wl.heap.size]? = some (.cells #[.int .i64 f1, .int .i64 0, .int .i64 0, .slice none 0 0, .int .i64 0] 61 (0, 0))) := heap_setCell_same _ wl.heap.size 0 _ _ (.int .i64 f1) B1.out
          clear hs hf
          go_wp2_with fail
          refine (rnum B p l a1 b1 (-1) 1 _ T1.out HBY.out HLL.out f2 a2 b2 N2.out).mono ?_
          rintro e v2 ⟨rfl, hs, hf⟩
          have S2 := Lib.hid hs
          have F2 := Lib.hid (E1.out.trans hf)
          have B2 := Lib.hid (hf.heap C1.out (by have := HNW.out; simp; omega))
          have q2 := row5 B2.out
          have y2 := frozen_of_row _ _ 1 _ _ B2.out
          have X2 := Lib.hid (Fr.setCell v2 wl.heap.size 1 (.int .i64 f2) (S := [wl.heap.size]) (by simp))
          have T2 := Lib.hid (S2.out.set B2.out HNW.out.2 (by decide) 1 (.int .i64 f2))
          have E2 := Lib.hid (F2.out.new X2.out (by simp))
          have C2 : Hid ((v2.setCell ⟨wl.heap.size, 1, none⟩ (.int .i64 f2)).heap[wl.heap.size]? = some (.cells #[.int .i64 f1, .int .i64 f2, .int .i64 0, .slice none 0 0, .int .i64 0] 61 (0, 0))) := heap_setCell_same _ wl.heap.size 1 _ _ (.int .i64 f2) B2.out
          clear hs hf q1 y1
          go_wp2_with fail
          refine (rnum B p l a2 b2 1 2147483647 _ T2.out HBY.out HLL.out f3 a3 b3 N3.out).mono ?_
          rintro e v3 ⟨rfl, hs, hf⟩
          have S3 := Lib.hid hs
          have F3 := Lib.hid (E2.out.trans hf)
          have B3 := Lib.hid (hf.heap C2.out (by have := HNW.out; simp; omega))
          have q3 := row5 B3.out
          have y3 := frozen_of_row _ _ 2 _ _ B3.out
          have X3 := Lib.hid (Fr.setCell v3 wl.heap.size 2 (.int .i64 f3) (S := [wl.heap.size]) (by simp))
          have T3 := Lib.hid (S3.out.set B3.out HNW.out.2 (by decide) 2 (.int .i64 f3))
          have E3 := Lib.hid (F3.out.new X3.out (by simp))
          have C3 : Hid ((v3.setCell ⟨wl.heap.size, 2, none⟩ (.int .i64 f3)).heap[wl.heap.size]? = some (.cells #[.int .i64 f1, .int .i64 f2, .int .i64 f3, .slice none 0 0, .int .i64 0] 61 (0, 0))) := heap_setCell_same _ wl.heap.size 2 _ _ (.int .i64 f3) B3.out
          clear hs hf q2 y2
          go_wp2_with fail
          refine (rnum B p l a3 b3 (-1) 15 _ T3.out HBY.out HLL.out f4 a4 b4 N4.out).mono ?_
          rintro e v4 ⟨rfl, hs, hf⟩
          have S4 := Lib.hid hs
          have F4 := Lib.hid (E3.out.trans hf)
          have B4 := Lib.hid (hf.heap C3.out (by have := HNW.out; simp; omega))
          have q4 := row5 B4.out
          have y4 := frozen_of_row _ _ 4 _ _ B4.out
          have X4 := Lib.hid (Fr.setCell v4 wl.heap.size 4 (.int .i64 f4) (S := [wl.heap.size]) (by simp))
          have T4 := Lib.hid (S4.out.set B4.out HNW.out.2 (by decide) 4 (.int .i64 f4))
          have E4 := Lib.hid (F4.out.new X4.out (by simp))
          have C4 : Hid ((v4.setCell ⟨wl.heap.size, 4, none⟩ (.int .i64 f4)).heap[wl.heap.size]? = some (.cells #[.int .i64 f1, .int .i64 f2, .int .i64 f3, .slice none 0 0, .int .i64 f4] 61 (0, 0))) := heap_setCell_same _ wl.heap.size 4 _ _ (.int .i64 f4) B4.out
          clear hs hf q3 y3
          go_wp2_with fail
          refine (rnum B p l a4 b4 0 (N : Int) _ T4.out HBY.out HLL.out _ a5 b5 N5.out).mono ?_
          rintro e v5 ⟨rfl, hs, hf⟩
          have S5 := Lib.hid hs
          have F5 := Lib.hid (E4.out.trans hf)
          have B5 := Lib.hid (hf.heap C4.out (by have := HNW.out; simp; omega))
          clear hs hf q4 y4 S1 S2 S3 S4 F1 F2 F3 F4 B1 B2 B3 B4 X1 X2 X3 X4 T1 T2 T3 T4 E1 E2 E3 E4 C1 C2 C3 C4 AE BE SE
          go_wp2
          go_loopw [11] (fun i wr => ∃ (j3 : Nat) (bs : List (Int × Int)) (kk3 cc3 : Nat) (vb : Value), j3 ≤ Kb ∧ i = .int .i64 j3 ∧ RR wr B p l kk3 cc3 ∧ OwnB wr (wl.heap.size + 1) vb bs ∧ RepAt rdBid Kb j3 l a5 b5 bs kk3 cc3 ∧
              wr.heap[wl.heap.size]? = some (.cells #[.int .i64 f1, .int .i64 f2, .int .i64 f3, vb, .int .i64 f4] 61 (0, 0)) ∧ Fr wl wr [p]) (fun i _ => Kb - (intOf i).toNat)
          case atStart => exact ⟨0, [], a5, b5, _, by omega, rfl, S5.out, ⟨rfl, .inl ⟨rfl, rfl⟩⟩, RepAt.zero dead_bid _ _ _ _, B5.out, F5.out⟩
          case round =>
            clear S5 F5 B5
            obtain ⟨j3, bs, kk3, cc3, vb, hj3, rfl, hs, ho, hrep, hb, hf⟩ := hrel
            have S3 := Lib.hid hs
            have OB := Lib.hid ho
            have RP3 := Lib.hid hrep
            have LB := Lib.hid hrep.1
            have BE := Lib.hid hb
            have FE := Lib.hid hf
            have HWE := Lib.hid (show wl.heap.size + 1 ≤ wr.heap.size from size_of_row hb)
            clear hs ho hrep hb hf
            by_cases hgo3 : j3 < Kb ∧ cc3 = 0
            · obtain ⟨hlt3, hc0⟩ := hgo3
              subst hc0
              obtain ⟨y1, q1, d1, g1⟩ : ∃ x k' c', Fm.num 0 15 l kk3 0 = (x, k', c') := ⟨_, _, _, rfl⟩
              obtain ⟨y2, q2, d2, g2⟩ : ∃ x k' c', Fm.num 0 1048576 l q1 d1 = (x, k', c') := ⟨_, _, _, rfl⟩
              have Y1 := Lib.hid g1
              have Y2 := Lib.hid g2
              have HST := Lib.hid (RP3.out.step dead_bid hlt3 (y := (y1, y2)) (q := q2) (d := d2) (by rw [rdBid_eq Y1.out Y2.out]) (fun _ => by rw [rdBid_eq Y1.out Y2.out]))
              have HNP := Lib.hid (show wl.heap.size ≠ p by have := HNW.out; omega)
              clear g1 g2
              go_wp2_with fail
              refine (rok B p l kk3 0 _ S3.out true (yes rfl)).mono ?_
              rintro e we ⟨rfl, rfl⟩
              go_wp2_with fail
              refine (rnum B p l kk3 0 0 15 _ S3.out HBY.out HLL.out y1 q1 d1 Y1.out).mono ?_
              rintro e wc ⟨rfl, hs, hf⟩
              have S4 := Lib.hid hs
              have OB4 := Lib.hid (row_fr OB.out hf (S3.out.row_ne OB.out (by decide)))
              have BE4 := Lib.hid (hf.heap BE.out (by simpa using HNP.out))
              have FE4 := Lib.hid (FE.out.trans hf)
              have HWE4 := Lib.hid (show wl.heap.size + 1 ≤ wc.heap.size from size_of_row BE4.out)
              clear hs hf
              have SD := Lib.hid (S4.out.keep (Fr.drew wc []))
              have BD := Lib.hid ((Fr.drew wc []).heap BE4.out (by simp))
              have hbox0 := (row5 BD.out).2.2.2.1
              go_wp2_with fail
              go_region_law (first
                | (go_simp; go_at_call 43; refine (rnum B p l q1 d1 0 1048576 _ SD.out HBY.out HLL.out y2 q2 d2 Y2.out).mono ?_; rintro e wb ⟨rfl, hb, hfb⟩; have SB := Lib.hid hb; have FB := Lib.hid hfb; have BB := Lib.hid (hfb.heap BD.out (by simpa using HNP.out)); have hbox2 := (row5 BB.out).2.2.2.1; have hbox3 := (row5 ((Fr.alloc wb (.cells #[.int .i64 y1, .int .i64 y2] 63) []).heap BB.out (by simp))).2.2.2.1; clear hb hfb)
                | (refine step_append_lies _ (by rfl) _ _ _ (by rfl) (wl.heap.size + 1) 63 i2 _ 2 16 Tryd.underlying59 ji jz0 jz1 jz2 rfl (by omega) vb bs.length (bdc bs) (by rfl) (World.ownsRow.alloc (row_fr (row_fr OB4.out (Fr.drew wc []) (by simp)) FB.out (SD.out.row_ne (row_fr OB4.out (Fr.drew wc []) (by simp)) (by decide))) _) ⟨wb.heap.size, 0, none⟩ 1 1 [.int .i64 y1, .int .i64 y2] (by rfl) (by rfl) (World.news_of_block (cs := #[.int .i64 y1, .int .i64 y2]) (t := 63) (fr := (0, 0)) (heap_alloc_new wb _)) (by simp [Value.oneCell']) (by omega) (by have := LB.out; unfold maxLen; omega) (by have := LB.out; omega) (by have h1 := HWE4.out; have h2 := FB.out.size; simp at h2 ⊢; omega) (wb.heap.size + 1) (by simp) ?_; intro gg cap wd hown hgrow hat hlt'; have OC := Lib.hid hown; have GC := Lib.hid hgrow; have BC := Lib.hid (row_far hgrow (World.ownsRow.alloc (row_fr (row_fr OB4.out (Fr.drew wc []) (by simp)) FB.out (SD.out.row_ne (row_fr OB4.out (Fr.drew wc []) (by simp)) (by decide))) _) ((Fr.alloc wb (.cells #[.int .i64 y1, .int .i64 y2] 63) []).heap BB.out (by simp)) (by decide)); have hbox4 := (row5 BC.out).2.2.2.1; have hfz := frozen_of_row _ _ 3 _ _ BC.out; clear hown hgrow hat hlt'))
              all_goals
                have OA := Lib.hid (World.ownsRow.alloc (row_fr (row_fr OB4.out (Fr.drew wc []) (by simp)) FB.out (SD.out.row_ne (row_fr OB4.out (Fr.drew wc []) (by simp)) (by decide))) (.cells #[.int .i64 y1, .int .i64 y2] 63))
                have FA1 := Lib.hid (Fr.alloc wb (.cells #[.int .i64 y1, .int .i64 y2] 63) [])
                have SC := Lib.hid (((SB.out.keep FA1.out).row OA.out GC.out (by have := HNW.out; omega) (by decide)).set BC.out HNW.out.2 (by decide) 3 (.slice (some ⟨gg, 0, none⟩) (bs.length + 1) cap))
                have OD := Lib.hid (row_set OC.out BC.out (by decide) 3 (.slice (some ⟨gg, 0, none⟩) (bs.length + 1) cap))
                have FD := Lib.hid (((((FE4.out.trans (Fr.drew wc [p])).trans FB.out).trans (FA1.out.mono (by simp))).row OA.out GC.out (by omega)).new (Fr.setCell wd wl.heap.size 3 (.slice (some ⟨gg, 0, none⟩) (bs.length + 1) cap) (S := [wl.heap.size]) (by simp)) (by simp))
                go_wp2
                go_roundw
                case rel =>
                  refine ⟨j3 + 1, bs ++ [(y1, y2)], q2, d2, _, by omega, by go_num, SC.out, ?_, HST.out, by rw [heap_setCell_same _ _ 3 _ _ _ BC.out]; rfl, FD.out⟩
                  unfold OwnB
                  rw [List.length_append, show bdc (bs ++ [(y1, y2)]) = bdc bs ++ [.int .i64 y1, .int .i64 y2] by simp [bdc]]
                  exact OD.out
                case measure => simp [intOf]; omega
            have DN3 := Lib.hid (RP3.out.done (by omega))
            obtain ⟨zb, cb, hvb⟩ := OB.out.hb.shape
            subst hvb
            have OEx := Lib.hid (OE.out.fr FE.out S.out.types)
            have OMx := Lib.hid (row_fr OM.out FE.out (S.out.row_ne OM.out (by decide)))
            have BXx := Lib.hid (FE.out.heap BX.out (by have := HP.out; simp; omega))
            have GXx := Lib.hid (FE.out.heap GX.out (by have := HP.out; simp; omega))
            have FXx := Lib.hid (F.out.trans FE.out)
            have HSTE := Lib.hid (RP.out.step (dead_en _) hlt2 (y := (⟨f1, f2, f3, bs, f4⟩ : En)) (q := kk3) (d := cc3) (by rw [HRE.out]; exact DN3.out.1) (fun h0 => by rw [HRE.out, DN3.out.2 h0]))
            by_cases hlt3 : j3 < Kb
            · have hcc : cc3 ≠ 0 := fun e => hgo3 ⟨hlt3, e⟩
              have HNO := Lib.hid (no hcc)
              clear hgo3 hcc
              go_wp2_with fail
              refine (rok B p l kk3 cc3 _ S3.out false HNO.out).mono ?_
              rintro e we ⟨rfl, rfl⟩
              have qe := row5 BE.out
              have qx := (row5 BXx.out).2.2.2.2
              have FA := Lib.hid (Fr.alloc wr (.cells #[.int .i64 f1, .int .i64 f2, .int .i64 f3, .slice zb bs.length cb, .int .i64 f4] 61) [])
              have NW := Lib.hid (heap_alloc_new wr (.cells #[.int .i64 f1, .int .i64 f2, .int .i64 f3, .slice zb bs.length cb, .int .i64 f4] 61))
              have OEa := Lib.hid (OEx.out.fr FA.out (by simp))
              have BXa := Lib.hid (FA.out.heap BXx.out (by simp))
              have GXa := Lib.hid (FA.out.heap GXx.out (by simp))
              have OMa := Lib.hid (row_fr OMx.out FA.out (by simp))
              have OBa := Lib.hid (row_mono (row_fr OB.out FA.out (by simp)) (B' := w.heap.size) (by have := HWB.out; omega))
              have qa := (row5 BXa.out).2.2.2.2
              have HSZ := Lib.hid (show w.heap.size ≤ wr.heap.size from FXx.out.size)
              go_wp2_with (at_builtin; refine wpList_append_own _ rfl _ _ 25 rfl w.heap.size 61 i1 (.agg #[.int .i64 0, .int .i64 0, .int .i64 0, .slice none 0 0, .int .i64 0]) 5 56 Tryd.underlying25 ii iz0 iz1 iz2 rfl (by decide) ve xs.length (encs xs) rfl OEa.out.1 ⟨wr.heap.size, 0, none⟩ 1 1 [.int .i64 f1, .int .i64 f2, .int .i64 f3, .slice zb bs.length cb, .int .i64 f4] rfl rfl (World.news_of_block (cs := #[.int .i64 f1, .int .i64 f2, .int .i64 f3, .slice zb bs.length cb, .int .i64 f4]) (t := 61) (fr := (0, 0)) NW.out) (by simp [Value.oneCell']) (by rw [HL.out]; unfold maxLen; omega) (by rw [HL.out]; omega) (by have := HSZ.out; simp; omega) ?_; intro v' wc hown hgrow _; have OC := Lib.hid hown; have GC := Lib.hid hgrow; have BC := Lib.hid (row_far hgrow OEa.out.1 BXa.out (by decide)); have GD := Lib.hid (row_far hgrow OEa.out.1 GXa.out (by decide)); obtain ⟨ag, cg, hvg⟩ := row_shape hown; rw [HL.out] at hvg; subst hvg; have hfz := frozen_of_row _ _ 4 _ _ BC.out; have q2 := (row5 BC.out).2.2.2.2; clear hown hgrow)
              have FC := Lib.hid ((FXx.out.trans (FA.out.mono (by simp))).row OEa.out.1 GC.out (Nat.le_refl _))
              have SX := Lib.hid (Fr.setCell wc (w.heap.size + 1) 4 (.slice ag (t + 1) cg) (S := [w.heap.size + 1]) (by simp))
              have FD := Lib.hid (FC.out.new SX.out (by simp))
              have SC := Lib.hid (((S3.out.keep FA.out).row OEa.out.1 GC.out (by have := HP.out; omega) (by decide)).set BC.out (by have := HP.out; omega) (by decide) 4 (.slice ag (t + 1) cg))
              have OC2 := Lib.hid (row_set OC.out BC.out (by decide) 4 (.slice ag (t + 1) cg))
              have OM2 := Lib.hid (row_set (row_grown OMa.out OEa.out.1 GC.out (by decide)) BC.out (by decide) 4 (.slice ag (t + 1) cg))
              have OB2 := Lib.hid (row_set (row_grown OBa.out OEa.out.1 GC.out (by decide)) BC.out (by decide) 4 (.slice ag (t + 1) cg))
              have OX2 := Lib.hid (fun x (hx : x ∈ xs) => row_set (row_grown (OEa.out.2 x hx) OEa.out.1 GC.out (by decide)) BC.out (by decide) 4 (.slice ag (t + 1) cg))
              go_wp2
              go_roundw
              case rel =>
                refine ⟨t + 1, kk3, cc3, .slice ag (t + 1) cg, xs ++ [((⟨f1, f2, f3, bs, f4⟩ : En), .slice zb bs.length cb)], by omega, by go_num, SC.out, OM2.out, ⟨?_, ?_⟩, by rw [List.map_append]; exact HSTE.out, by rw [heap_setCell_same _ _ 4 _ _ _ BC.out]; rfl, SX.out.heap GD.out (by simp), FD.out⟩
                · rw [List.length_append, show encs (xs ++ [((⟨f1, f2, f3, bs, f4⟩ : En), .slice zb bs.length cb)]) = encs xs ++ [.int .i64 f1, .int .i64 f2, .int .i64 f3, .slice zb bs.length cb, .int .i64 f4] by simp [encs, enc1]]
                  exact OC2.out
                · intro x hx
                  rcases List.mem_append.1 hx with hx | hx
                  · exact OX2.out x hx
                  · obtain rfl := List.mem_singleton.1 hx
                    exact OB2.out
              case measure => simp [intOf]; omega
            · clear hgo3
              have qe := row5 BE.out
              have qx := (row5 BXx.out).2.2.2.2
              have FA := Lib.hid (Fr.alloc wr (.cells #[.int .i64 f1, .int .i64 f2, .int .i64 f3, .slice zb bs.length cb, .int .i64 f4] 61) [])
              have NW := Lib.hid (heap_alloc_new wr (.cells #[.int .i64 f1, .int .i64 f2, .int .i64 f3, .slice zb bs.length cb, .int .i64 f4] 61))
              have OEa := Lib.hid (OEx.out.fr FA.out (by simp))
              have BXa := Lib.hid (FA.out.heap BXx.out (by simp))
              have GXa := Lib.hid (FA.out.heap GXx.out (by simp))
              have OMa := Lib.hid (row_fr OMx.out FA.out (by simp))
              have OBa := Lib.hid (row_mono (row_fr OB.out FA.out (by simp)) (B' := w.heap.size) (by have := HWB.out; omega))
              have qa := (row5 BXa.out).2.2.2.2
              have HSZ := Lib.hid (show w.heap.size ≤ wr.heap.size from FXx.out.size)
              go_wp2_with (at_builtin; refine wpList_append_own _ rfl _ _ 25 rfl w.heap.size 61 i1 (.agg #[.int .i64 0, .int .i64 0, .int .i64 0, .slice none 0 0, .int .i64 0]) 5 56 Tryd.underlying25 ii iz0 iz1 iz2 rfl (by decide) ve xs.length (encs xs) rfl OEa.out.1 ⟨wr.heap.size, 0, none⟩ 1 1 [.int .i64 f1, .int .i64 f2, .int .i64 f3, .slice zb bs.length cb, .int .i64 f4] rfl rfl (World.news_of_block (cs := #[.int .i64 f1, .int .i64 f2, .int .i64 f3, .slice zb bs.length cb, .int .i64 f4]) (t := 61) (fr := (0, 0)) NW.out) (by simp [Value.oneCell']) (by rw [HL.out]; unfold maxLen; omega) (by rw [HL.out]; omega) (by have := HSZ.out; simp; omega) ?_; intro v' wc hown hgrow _; have OC := Lib.hid hown; have GC := Lib.hid hgrow; have BC := Lib.hid (row_far hgrow OEa.out.1 BXa.out (by decide)); have GD := Lib.hid (row_far hgrow OEa.out.1 GXa.out (by decide)); obtain ⟨ag, cg, hvg⟩ := row_shape hown; rw [HL.out] at hvg; subst hvg; have hfz := frozen_of_row _ _ 4 _ _ BC.out; have q2 := (row5 BC.out).2.2.2.2; clear hown hgrow)
              have FC := Lib.hid ((FXx.out.trans (FA.out.mono (by simp))).row OEa.out.1 GC.out (Nat.le_refl _))
              have SX := Lib.hid (Fr.setCell wc (w.heap.size + 1) 4 (.slice ag (t + 1) cg) (S := [w.heap.size + 1]) (by simp))
              have FD := Lib.hid (FC.out.new SX.out (by simp))
              have SC := Lib.hid (((S3.out.keep FA.out).row OEa.out.1 GC.out (by have := HP.out; omega) (by decide)).set BC.out (by have := HP.out; omega) (by decide) 4 (.slice ag (t + 1) cg))
              have OC2 := Lib.hid (row_set OC.out BC.out (by decide) 4 (.slice ag (t + 1) cg))
              have OM2 := Lib.hid (row_set (row_grown OMa.out OEa.out.1 GC.out (by decide)) BC.out (by decide) 4 (.slice ag (t + 1) cg))
              have OB2 := Lib.hid (row_set (row_grown OBa.out OEa.out.1 GC.out (by decide)) BC.out (by decide) 4 (.slice ag (t + 1) cg))
              have OX2 := Lib.hid (fun x (hx : x ∈ xs) => row_set (row_grown (OEa.out.2 x hx) OEa.out.1 GC.out (by decide)) BC.out (by decide) 4 (.slice ag (t + 1) cg))
              go_wp2
              go_roundw
              case rel =>
                refine ⟨t + 1, kk3, cc3, .slice ag (t + 1) cg, xs ++ [((⟨f1, f2, f3, bs, f4⟩ : En), .slice zb bs.length cb)], by omega, by go_num, SC.out, OM2.out, ⟨?_, ?_⟩, by rw [List.map_append]; exact HSTE.out, by rw [heap_setCell_same _ _ 4 _ _ _ BC.out]; rfl, SX.out.heap GD.out (by simp), FD.out⟩
                · rw [List.length_append, show encs (xs ++ [((⟨f1, f2, f3, bs, f4⟩ : En), .slice zb bs.length cb)]) = encs xs ++ [.int .i64 f1, .int .i64 f2, .int .i64 f3, .slice zb bs.length cb, .int .i64 f4] by simp [encs, enc1]]
                  exact OC2.out
                · intro x hx
                  rcases List.mem_append.1 hx with hx | hx
                  · exact OX2.out x hx
                  · obtain rfl := List.mem_singleton.1 hx
                    exact OB2.out
              case measure => simp [intOf]; omega
        have DN2 := Lib.hid (RP.out.done (by omega))
        have HEQ : Hid (R = ⟨x1, x2, x3, (rep (Fm.num 0 15) N l k4 c4).1, (rep (rdEn (N : Int)) M l k6 c6).1⟩ ∧ k' = kk2 ∧ c' = cc2) := by
          have h := HN.out
          have e1 := congrArg Prod.fst DN.out.1
          have e2 := congrArg Prod.snd DN.out.1
          have e3 := congrArg Prod.fst DN2.out.1
          have e4 := congrArg Prod.snd DN2.out.1
          simp only at e1 e2 e3 e4
          simp only [rdRg, Fm.bind, H1.out, H2.out, H3.out, H4.out, Int.toNat_natCast, e1, e2, H6.out, Fm.ret, e3, e4] at h
          simp only [Prod.mk.injEq] at h
          exact ⟨h.1.symm, h.2.1.symm, h.2.2.symm⟩
        have HZZ : Hid (c' = 0 → (⟨x1, x2, x3, ms, xs.map (·.1)⟩ : Rg) = R) := by
          intro h0
          have hcc2 : cc2 = 0 := by rw [← HEQ.out.2.2]; exact h0
          have hc6 : c6 = 0 := by
            apply Classical.byContradiction
            intro hne
            have h := ((dead_en (N : Int)).rep M) l k6 c6 hne
            rw [DN2.out.1] at h
            simp only [Prod.mk.injEq] at h
            exact hne (h.2.symm.trans hcc2)
          have hcc : cc = 0 := by
            apply Classical.byContradiction
            intro hne
            exact hne ((H46.out hne).1.symm.trans hc6)
          rw [HEQ.out.1, ← DN.out.2 hcc, ← DN2.out.2 hcc2]
        by_cases hlt2 : t < M
        · have hcc : cc2 ≠ 0 := fun e => hgo2 ⟨hlt2, e⟩
          have HNO := Lib.hid (no hcc)
          clear hgo2 hcc
          obtain ⟨zb, cb, hvb⟩ := OE.out.he.shape
          rw [List.length_map] at hvb
          subst hvb
          have hk := row5 BX.out
          have hg := row5 GX.out
          have z0 := frozen_of_row _ _ 0 _ _ GX.out
          have z1 := frozen_of_row _ _ 1 _ _ GX.out
          have z2 := frozen_of_row _ _ 2 _ _ GX.out
          have z3 := frozen_of_row _ _ 3 _ _ GX.out
          have z4 := frozen_of_row _ _ 4 _ _ GX.out
          go_wp2_with fail
          refine (rok B p l kk2 cc2 _ S.out false HNO.out).mono ?_
          rintro e we ⟨rfl, rfl⟩
          go_wp2
          have Q5 := Lib.hid (set5 wr w.heap.size (.int .i64 x1) (.int .i64 x2) (.int .i64 x3) (.slice zm ms.length cm) (.slice zb xs.length cb))
          have hgt : ∀ r ∈ [w.heap.size], ∃ cs T, wr.heap[r]? = some (.cells cs T (0, 0)) ∧ T ≠ 61 ∧ T ≠ 63 := by
            intro r hr; obtain rfl := List.mem_singleton.1 hr; exact ⟨_, _, GX.out, by decide, by decide⟩
          have HR : Hid (RRing B p l R k' c' w (.agg #[.int .i64 x1, .int .i64 x2, .int .i64 x3, .slice zm ms.length cm, .slice zb xs.length cb]) (((((wr.setCell ⟨w.heap.size, 0, none⟩ (.int .i64 x1)).setCell ⟨w.heap.size, 1, none⟩ (.int .i64 x2)).setCell ⟨w.heap.size, 2, none⟩ (.int .i64 x3)).setCell ⟨w.heap.size, 3, none⟩ (.slice zm ms.length cm)).setCell ⟨w.heap.size, 4, none⟩ (.slice zb xs.length cb))) := by
            refine ⟨⟨x1, x2, x3, ms, xs.map (·.1)⟩, _, _, xs, rfl, ?_, ?_, rfl, HZZ.out, ?_, F.out.new Q5.out (by simp)⟩
            · exact row_fr OM.out Q5.out (by intro r hr; obtain rfl := List.mem_singleton.1 hr; exact row_ne OM.out GX.out (by decide))
            · exact OE.out.fr Q5.out hgt
            · rw [HEQ.out.2.1, HEQ.out.2.2]
              exact S.out.fr Q5.out (by have := HP.out; simp; omega) (by intro r hr; obtain rfl := List.mem_singleton.1 hr; have := HP.out; omega)
          exact bodyPost_ret (v := .agg #[.int .i64 x1, .int .i64 x2, .int .i64 x3, .slice zm ms.length cm, .slice zb xs.length cb]) (by simp [results, Tryd.results45, go_sem, hg]) rfl (gives HR.out)
        · clear hgo2
          obtain ⟨zb, cb, hvb⟩ := OE.out.he.shape
          rw [List.length_map] at hvb
          subst hvb
          have hk := row5 BX.out
          have hg := row5 GX.out
          have z0 := frozen_of_row _ _ 0 _ _ GX.out
          have z1 := frozen_of_row _ _ 1 _ _ GX.out
          have z2 := frozen_of_row _ _ 2 _ _ GX.out
          have z3 := frozen_of_row _ _ 3 _ _ GX.out
          have z4 := frozen_of_row _ _ 4 _ _ GX.out
          go_wp2
          have Q5 := Lib.hid (set5 wr w.heap.size (.int .i64 x1) (.int .i64 x2) (.int .i64 x3) (.slice zm ms.length cm) (.slice zb xs.length cb))
          have hgt : ∀ r ∈ [w.heap.size], ∃ cs T, wr.heap[r]? = some (.cells cs T (0, 0)) ∧ T ≠ 61 ∧ T ≠ 63 := by
            intro r hr; obtain rfl := List.mem_singleton.1 hr; exact ⟨_, _, GX.out, by decide, by decide⟩
          have HR : Hid (RRing B p l R k' c' w (.agg #[.int .i64 x1, .int .i64 x2, .int .i64 x3, .slice zm ms.length cm, .slice zb xs.length cb]) (((((wr.setCell ⟨w.heap.size, 0, none⟩ (.int .i64 x1)).setCell ⟨w.heap.size, 1, none⟩ (.int .i64 x2)).setCell ⟨w.heap.size, 2, none⟩ (.int .i64 x3)).setCell ⟨w.heap.size, 3, none⟩ (.slice zm ms.length cm)).setCell ⟨w.heap.size, 4, none⟩ (.slice zb xs.length cb))) := by
            refine ⟨⟨x1, x2, x3, ms, xs.map (·.1)⟩, _, _, xs, rfl, ?_, ?_, rfl, HZZ.out, ?_, F.out.new Q5.out (by simp)⟩
            · exact row_fr OM.out Q5.out (by intro r hr; obtain rfl := List.mem_singleton.1 hr; exact row_ne OM.out GX.out (by decide))
            · exact OE.out.fr Q5.out hgt
            · rw [HEQ.out.2.1, HEQ.out.2.2]
              exact S.out.fr Q5.out (by have := HP.out; simp; omega) (by intro r hr; obtain rfl := List.mem_singleton.1 hr; have := HP.out; omega)
          exact bodyPost_ret (v := .agg #[.int .i64 x1, .int .i64 x2, .int .i64 x3, .slice zm ms.length cm, .slice zb xs.length cb]) (by simp [results, Tryd.results45, go_sem, hg]) rfl (gives HR.out)
    · clear hgo
      go_wp2_with fail
      refine (rnum B p l kk cc 0 128 _ S.out HBY.out HLL.out _ k6 c6 H6.out).mono ?_
      rintro e w6 ⟨rfl, hs, hf⟩
      have S6 := Lib.hid hs
      have OM6 := Lib.hid (row_fr O.out hf (S.out.row_ne O.out (by decide)))
      have B6 := Lib.hid (hf.heap BX.out (by have := HP.out; simp; omega))
      have G6 := Lib.hid (hf.heap GX.out (by have := HP.out; simp; omega))
      have F6 := Lib.hid (F.out.trans hf)
      clear hs hf S O BX GX F HWB RP
      go_wp2
      go_loopw [8] (fun i wr => ∃ (t : Nat) (kk2 cc2 : Nat) (ve : Value) (xs : List (En × Value)), t ≤ M ∧ i = .int .i64 t ∧ RR wr B p l kk2 cc2 ∧ OwnI wr w.heap.size (.slice zm ms.length cm) ms ∧ OwnE wr w.heap.size ve xs ∧ RepAt (rdEn (N : Int)) M t l k6 c6 (xs.map (·.1)) kk2 cc2 ∧
          wr.heap[w.heap.size + 1]? = some (.cells #[.int .i64 x1, .int .i64 x2, .int .i64 x3, .slice zm ms.length cm, ve] 27 (0, 0)) ∧ wr.heap[w.heap.size]? = some (.cells #[.int .i64 0, .int .i64 0, .int .i64 0, .slice none 0 0, .slice none 0 0] 27 (0, 0)) ∧ Fr w wr [p]) (fun i _ => M - (intOf i).toNat)
      case atStart => exact ⟨0, k6, c6, _, [], by omega, rfl, S6.out, OM6.out, ⟨⟨rfl, .inl ⟨rfl, rfl⟩⟩, by simp⟩, RepAt.zero (dead_en _) _ _ _ _, B6.out, G6.out, F6.out⟩
      case round =>
        clear S6 OM6 B6 G6 F6
        obtain ⟨t, kk2, cc2, ve, xs, ht, rfl, hs, hom, hoe, hrep, hb, hg, hf⟩ := hrel
        have S := Lib.hid hs
        have OM := Lib.hid hom
        have OE := Lib.hid hoe
        have RP := Lib.hid hrep
        have HL := Lib.hid (show xs.length = t by have h := hrep.1; rw [List.length_map] at h; exact h)
        have BX := Lib.hid hb
        have GX := Lib.hid hg
        have F := Lib.hid hf
        have HWB := Lib.hid (show w.heap.size + 1 < wr.heap.size from size_of_row hb)
        clear hs hom hoe hrep hb hg hf
        by_cases hgo2 : t < M ∧ cc2 = 0
        · obtain ⟨hlt2, hc0⟩ := hgo2
          subst hc0
          obtain ⟨f1, a1, b1, n1⟩ : ∃ x k' c', Fm.num 0 63 l kk2 0 = (x, k', c') := ⟨_, _, _, rfl⟩
          have N1 := Lib.hid n1
          obtain ⟨f2, a2, b2, n2⟩ : ∃ x k' c', Fm.num (-1) 1 l a1 b1 = (x, k', c') := ⟨_, _, _, rfl⟩
          have N2 := Lib.hid n2
          obtain ⟨f3, a3, b3, n3⟩ : ∃ x k' c', Fm.num 1 2147483647 l a2 b2 = (x, k', c') := ⟨_, _, _, rfl⟩
          have N3 := Lib.hid n3
          obtain ⟨f4, a4, b4, n4⟩ : ∃ x k' c', Fm.num (-1) 15 l a3 b3 = (x, k', c') := ⟨_, _, _, rfl⟩
          have N4 := Lib.hid n4
          obtain ⟨f5, a5, b5, n5⟩ : ∃ x k' c', Fm.num 0 (N : Int) l a4 b4 = (x, k', c') := ⟨_, _, _, rfl⟩
          have hr5 := range_len n5
          have N5 := Lib.hid n5
          obtain ⟨Kb, rfl⟩ := Int.eq_ofNat_of_zero_le hr5.1
          have hKb : Kb ≤ 16 := by omega
          have HRE : Hid (rdEn (N : Int) l kk2 0 = (⟨f1, f2, f3, (rep rdBid Kb l a5 b5).1, f4⟩, (rep rdBid Kb l a5 b5).2.1, (rep rdBid Kb l a5 b5).2.2)) := by
            show _ = _
            simp only [rdEn, Fm.bind, N1.out, N2.out, N3.out, N4.out, N5.out, Int.toNat_natCast, Fm.ret]
          obtain ⟨wl, hwl⟩ : ∃ wl, wl = wr := ⟨_, rfl⟩
          subst hwl
          have AE := Lib.hid (Fr.alloc wl (.cells #[.int .i64 0, .int .i64 0, .int .i64 0, .slice none 0 0, .int .i64 0] 61) [p])
          have BE := Lib.hid (heap_alloc_new wl (.cells #[.int .i64 0, .int .i64 0, .int .i64 0, .slice none 0 0, .int .i64 0] 61))
          have SE := Lib.hid (S.out.keep (Fr.alloc wl (.cells #[.int .i64 0, .int .i64 0, .int .i64 0, .slice none 0 0, .int .i64 0] 61) []))
          have HNW := Lib.hid (show p < wl.heap.size ∧ B ≤ wl.heap.size from ⟨S.out.lt, by have := HP.out; have := HWB.out; omega⟩)
          clear n1 n2 n3 n4 n5 hr5
          go_wp2_with fail
          refine (rok B p l kk2 0 _ S.out true (yes rfl)).mono ?_
          rintro e we ⟨rfl, rfl⟩
          go_wp2_with fail
          refine (rnum B p l kk2 0 0 63 _ SE.out HBY.out HLL.out f1 a1 b1 N1.out).mono ?_
          rintro e v1 ⟨rfl, hs, hf⟩
          have S1 := Lib.hid hs
          have F1 := Lib.hid (AE.out.trans hf)
          have B1 := Lib.hid (hf.heap BE.out (by have := HNW.out; simp; omega))
          have q1 := row5 B1.out
          have y1 := frozen_of_row _ _ 0 _ _ B1.out
          have X1 := Lib.hid (Fr.setCell v1 wl.heap.size 0 (.int .i64 f1) (S := [wl.heap.size]) (by simp))
          have T1 := Lib.hid (S1.out.set B1.out HNW.out.2 (by decide) 0 (.int .i64 f1))
          have E1 := Lib.hid (F1.out.new X1.out (by simp))
          have C1 : Hid ((v1.setCell ⟨wl.heap.size, 0, none⟩ (.int .i64 f1)).heap[wl.heap.size]? = some (.cells #[.int .i64 f1, .int .i64 0, .int .i64 0, .slice none 0 0, .int .i64 0] 61 (0, 0))) := heap_setCell_same _ wl.heap.size 0 _ _ (.int .i64 f1) B1.out
          clear hs hf
          go_wp2_with fail
          refine (rnum B p l a1 b1 (-1) 1 _ T1.out HBY.out HLL.out f2 a2 b2 N2.out).mono ?_
          rintro e v2 ⟨rfl, hs, hf⟩
          have S2 := Lib.hid hs
          have F2 := Lib.hid (E1.out.trans hf)
          have B2 := Lib.hid (hf.heap C1.out (by have := HNW.out; simp; omega))
          have q2 := row5 B2.out
          have y2 := frozen_of_row _ _ 1 _ _ B2.out
          have X2 := Lib.hid (Fr.setCell v2 wl.heap.size 1 (.int .i64 f2) (S := [wl.heap.size]) (by simp))
          have T2 := Lib.hid (S2.out.set B2.out HNW.out.2 (by decide) 1 (.int .i64 f2))
          have E2 := Lib.hid (F2.out.new X2.out (by simp))
          have C2 : Hid ((v2.setCell ⟨wl.heap.size, 1, none⟩ (.int .i64 f2)).heap[wl.heap.size]? = some (.cells #[.int .i64 f1, .int .i64 f2, .int .i64 0, .slice none 0 0, .int .i64 0] 61 (0, 0))) := heap_setCell_same _ wl.heap.size 1 _ _ (.int .i64 f2) B2.out
          clear hs hf q1 y1
          go_wp2_with fail
          refine (rnum B p l a2 b2 1 2147483647 _ T2.out HBY.out HLL.out f3 a3 b3 N3.out).mono ?_
          rintro e v3 ⟨rfl, hs, hf⟩
          have S3 := Lib.hid hs
          have F3 := Lib.hid (E2.out.trans hf)
          have B3 := Lib.hid (hf.heap C2.out (by have := HNW.out; simp; omega))
          have q3 := row5 B3.out
          have y3 := frozen_of_row _ _ 2 _ _ B3.out
          have X3 := Lib.hid (Fr.setCell v3 wl.heap.size 2 (.int .i64 f3) (S := [wl.heap.size]) (by simp))
          have T3 := Lib.hid (S3.out.set B3.out HNW.out.2 (by decide) 2 (.int .i64 f3))
          have E3 := Lib.hid (F3.out.new X3.out (by simp))
          have C3 : Hid ((v3.setCell ⟨wl.heap.size, 2, none⟩ (.int .i64 f3)).heap[wl.heap.size]? = some (.cells #[.int .i64 f1, .int .i64 f2, .int .i64 f3, .slice none 0 0, .int .i64 0] 61 (0, 0))) := heap_setCell_same _ wl.heap.size 2 _ _ (.int .i64 f3) B3.out
          clear hs hf q2 y2
          go_wp2_with fail
          refine (rnum B p l a3 b3 (-1) 15 _ T3.out HBY.out HLL.out f4 a4 b4 N4.out).mono ?_
          rintro e v4 ⟨rfl, hs, hf⟩
          have S4 := Lib.hid hs
          have F4 := Lib.hid (E3.out.trans hf)
          have B4 := Lib.hid (hf.heap C3.out (by have := HNW.out; simp; omega))
          have q4 := row5 B4.out
          have y4 := frozen_of_row _ _ 4 _ _ B4.out
          have X4 := Lib.hid (Fr.setCell v4 wl.heap.size 4 (.int .i64 f4) (S := [wl.heap.size]) (by simp))
          have T4 := Lib.hid (S4.out.set B4.out HNW.out.2 (by decide) 4 (.int .i64 f4))
          have E4 := Lib.hid (F4.out.new X4.out (by simp))
          have C4 : Hid ((v4.setCell ⟨wl.heap.size, 4, none⟩ (.int .i64 f4)).heap[wl.heap.size]? = some (.cells #[.int .i64 f1, .int .i64 f2, .int .i64 f3, .slice none 0 0, .int .i64 f4] 61 (0, 0))) := heap_setCell_same _ wl.heap.size 4 _ _ (.int .i64 f4) B4.out
          clear hs hf q3 y3
          go_wp2_with fail
          refine (rnum B p l a4 b4 0 (N : Int) _ T4.out HBY.out HLL.out _ a5 b5 N5.out).mono ?_
          rintro e v5 ⟨rfl, hs, hf⟩
          have S5 := Lib.hid hs
          have F5 := Lib.hid (E4.out.trans hf)
          have B5 := Lib.hid (hf.heap C4.out (by have := HNW.out; simp; omega))
          clear hs hf q4 y4 S1 S2 S3 S4 F1 F2 F3 F4 B1 B2 B3 B4 X1 X2 X3 X4 T1 T2 T3 T4 E1 E2 E3 E4 C1 C2 C3 C4 AE BE SE
          go_wp2
          go_loopw [11] (fun i wr => ∃ (j3 : Nat) (bs : List (Int × Int)) (kk3 cc3 : Nat) (vb : Value), j3 ≤ Kb ∧ i = .int .i64 j3 ∧ RR wr B p l kk3 cc3 ∧ OwnB wr (wl.heap.size + 1) vb bs ∧ RepAt rdBid Kb j3 l a5 b5 bs kk3 cc3 ∧
              wr.heap[wl.heap.size]? = some (.cells #[.int .i64 f1, .int .i64 f2, .int .i64 f3, vb, .int .i64 f4] 61 (0, 0)) ∧ Fr wl wr [p]) (fun i _ => Kb - (intOf i).toNat)
          case atStart => exact ⟨0, [], a5, b5, _, by omega, rfl, S5.out, ⟨rfl, .inl ⟨rfl, rfl⟩⟩, RepAt.zero dead_bid _ _ _ _, B5.out, F5.out⟩
          case round =>
            clear S5 F5 B5
            obtain ⟨j3, bs, kk3, cc3, vb, hj3, rfl, hs, ho, hrep, hb, hf⟩ := hrel
            have S3 := Lib.hid hs
            have OB := Lib.hid ho
            have RP3 := Lib.hid hrep
            have LB := Lib.hid hrep.1
            have BE := Lib.hid hb
            have FE := Lib.hid hf
            have HWE := Lib.hid (show wl.heap.size + 1 ≤ wr.heap.size from size_of_row hb)
            clear hs ho hrep hb hf
            by_cases hgo3 : j3 < Kb ∧ cc3 = 0
            · obtain ⟨hlt3, hc0⟩ := hgo3
              subst hc0
              obtain ⟨y1, q1, d1, g1⟩ : ∃ x k' c', Fm.num 0 15 l kk3 0 = (x, k', c') := ⟨_, _, _, rfl⟩
              obtain ⟨y2, q2, d2, g2⟩ : ∃ x k' c', Fm.num 0 1048576 l q1 d1 = (x, k', c') := ⟨_, _, _, rfl⟩
              have Y1 := Lib.hid g1
              have Y2 := Lib.hid g2
              have HST := Lib.hid (RP3.out.step dead_bid hlt3 (y := (y1, y2)) (q := q2) (d := d2) (by rw [rdBid_eq Y1.out Y2.out]) (fun _ => by rw [rdBid_eq Y1.out Y2.out]))
              have HNP := Lib.hid (show wl.heap.size ≠ p by have := HNW.out; omega)
              clear g1 g2
              go_wp2_with fail
              refine (rok B p l kk3 0 _ S3.out true (yes rfl)).mono ?_
              rintro e we ⟨rfl, rfl⟩
              go_wp2_with fail
              refine (rnum B p l kk3 0 0 15 _ S3.out HBY.out HLL.out y1 q1 d1 Y1.out).mono ?_
              rintro e wc ⟨rfl, hs, hf⟩
              have S4 := Lib.hid hs
              have OB4 := Lib.hid (row_fr OB.out hf (S3.out.row_ne OB.out (by decide)))
              have BE4 := Lib.hid (hf.heap BE.out (by simpa using HNP.out))
              have FE4 := Lib.hid (FE.out.trans hf)
              have HWE4 := Lib.hid (show wl.heap.size + 1 ≤ wc.heap.size from size_of_row BE4.out)
              clear hs hf
              have SD := Lib.hid (S4.out.keep (Fr.drew wc []))
              have BD := Lib.hid ((Fr.drew wc []).heap BE4.out (by simp))
              have hbox0 := (row5 BD.out).2.2.2.1
              go_wp2_with fail
              go_region_law (first
                | (go_simp; go_at_call 43; refine (rnum B p l q1 d1 0 1048576 _ SD.out HBY.out HLL.out y2 q2 d2 Y2.out).mono ?_; rintro e wb ⟨rfl, hb, hfb⟩; have SB := Lib.hid hb; have FB := Lib.hid hfb; have BB := Lib.hid (hfb.heap BD.out (by simpa using HNP.out)); have hbox2 := (row5 BB.out).2.2.2.1; have hbox3 := (row5 ((Fr.alloc wb (.cells #[.int .i64 y1, .int .i64 y2] 63) []).heap BB.out (by simp))).2.2.2.1; clear hb hfb)
                | (refine step_append_lies _ (by rfl) _ _ _ (by rfl) (wl.heap.size + 1) 63 i2 _ 2 16 Tryd.underlying59 ji jz0 jz1 jz2 rfl (by omega) vb bs.length (bdc bs) (by rfl) (World.ownsRow.alloc (row_fr (row_fr OB4.out (Fr.drew wc []) (by simp)) FB.out (SD.out.row_ne (row_fr OB4.out (Fr.drew wc []) (by simp)) (by decide))) _) ⟨wb.heap.size, 0, none⟩ 1 1 [.int .i64 y1, .int .i64 y2] (by rfl) (by rfl) (World.news_of_block (cs := #[.int .i64 y1, .int .i64 y2]) (t := 63) (fr := (0, 0)) (heap_alloc_new wb _)) (by simp [Value.oneCell']) (by omega) (by have := LB.out; unfold maxLen; omega) (by have := LB.out; omega) (by have h1 := HWE4.out; have h2 := FB.out.size; simp at h2 ⊢; omega) (wb.heap.size + 1) (by simp) ?_; intro gg cap wd hown hgrow hat hlt'; have OC := Lib.hid hown; have GC := Lib.hid hgrow; have BC := Lib.hid (row_far hgrow (World.ownsRow.alloc (row_fr (row_fr OB4.out (Fr.drew wc []) (by simp)) FB.out (SD.out.row_ne (row_fr OB4.out (Fr.drew wc []) (by simp)) (by decide))) _) ((Fr.alloc wb (.cells #[.int .i64 y1, .int .i64 y2] 63) []).heap BB.out (by simp)) (by decide)); have hbox4 := (row5 BC.out).2.2.2.1; have hfz := frozen_of_row _ _ 3 _ _ BC.out; clear hown hgrow hat hlt'))
              all_goals
                have OA := Lib.hid (World.ownsRow.alloc (row_fr (row_fr OB4.out (Fr.drew wc []) (by simp)) FB.out (SD.out.row_ne (row_fr OB4.out (Fr.drew wc []) (by simp)) (by decide))) (.cells #[.int .i64 y1, .int .i64 y2] 63))
                have FA1 := Lib.hid (Fr.alloc wb (.cells #[.int .i64 y1, .int .i64 y2] 63) [])
                have SC := Lib.hid (((SB.out.keep FA1.out).row OA.out GC.out (by have := HNW.out; omega) (by decide)).set BC.out HNW.out.2 (by decide) 3 (.slice (some ⟨gg, 0, none⟩) (bs.length + 1) cap))
                have OD := Lib.hid (row_set OC.out BC.out (by decide) 3 (.slice (some ⟨gg, 0, none⟩) (bs.length + 1) cap))
                have FD := Lib.hid (((((FE4.out.trans (Fr.drew wc [p])).trans FB.out).trans (FA1.out.mono (by simp))).row OA.out GC.out (by omega)).new (Fr.setCell wd wl.heap.size 3 (.slice (some ⟨gg, 0, none⟩) (bs.length + 1) cap) (S := [wl.heap.size]) (by simp)) (by simp))
                go_wp2
                go_roundw
                case rel =>
                  refine ⟨j3 + 1, bs ++ [(y1, y2)], q2, d2, _, by omega, by go_num, SC.out, ?_, HST.out, by rw [heap_setCell_same _ _ 3 _ _ _ BC.out]; rfl, FD.out⟩
                  unfold OwnB
                  rw [List.length_append, show bdc (bs ++ [(y1, y2)]) = bdc bs ++ [.int .i64 y1, .int .i64 y2] by simp [bdc]]
                  exact OD.out
                case measure => simp [intOf]; omega
            have DN3 := Lib.hid (RP3.out.done (by omega))
            obtain ⟨zb, cb, hvb⟩ := OB.out.hb.shape
            subst hvb
            have OEx := Lib.hid (OE.out.fr FE.out S.out.types)
            have OMx := Lib.hid (row_fr OM.out FE.out (S.out.row_ne OM.out (by decide)))
            have BXx := Lib.hid (FE.out.heap BX.out (by have := HP.out; simp; omega))
            have GXx := Lib.hid (FE.out.heap GX.out (by have := HP.out; simp; omega))
            have FXx := Lib.hid (F.out.trans FE.out)
            have HSTE := Lib.hid (RP.out.step (dead_en _) hlt2 (y := (⟨f1, f2, f3, bs, f4⟩ : En)) (q := kk3) (d := cc3) (by rw [HRE.out]; exact DN3.out.1) (fun h0 => by rw [HRE.out, DN3.out.2 h0]))
            by_cases hlt3 : j3 < Kb
            · have hcc : cc3 ≠ 0 := fun e => hgo3 ⟨hlt3, e⟩
              have HNO := Lib.hid (no hcc)
              clear hgo3 hcc
              go_wp2_with fail
              refine (rok B p l kk3 cc3 _ S3.out false HNO.out).mono ?_
              rintro e we ⟨rfl, rfl⟩
              have qe := row5 BE.out
              have qx := (row5 BXx.out).2.2.2.2
              have FA := Lib.hid (Fr.alloc wr (.cells #[.int .i64 f1, .int .i64 f2, .int .i64 f3, .slice zb bs.length cb, .int .i64 f4] 61) [])
              have NW := Lib.hid (heap_alloc_new wr (.cells #[.int .i64 f1, .int .i64 f2, .int .i64 f3, .slice zb bs.length cb, .int .i64 f4] 61))
              have OEa := Lib.hid (OEx.out.fr FA.out (by simp))
              have BXa := Lib.hid (FA.out.heap BXx.out (by simp))
              have GXa := Lib.hid (FA.out.heap GXx.out (by simp))
              have OMa := Lib.hid (row_fr OMx.out FA.out (by simp))
              have OBa := Lib.hid (row_mono (row_fr OB.out FA.out (by simp)) (B' := w.heap.size) (by have := HWB.out; omega))
              have qa := (row5 BXa.out).2.2.2.2
              have HSZ := Lib.hid (show w.heap.size ≤ wr.heap.size from FXx.out.size)
              go_wp2_with (at_builtin; refine wpList_append_own _ rfl _ _ 25 rfl w.heap.size 61 i1 (.agg #[.int .i64 0, .int .i64 0, .int .i64 0, .slice none 0 0, .int .i64 0]) 5 56 Tryd.underlying25 ii iz0 iz1 iz2 rfl (by decide) ve xs.length (encs xs) rfl OEa.out.1 ⟨wr.heap.size, 0, none⟩ 1 1 [.int .i64 f1, .int .i64 f2, .int .i64 f3, .slice zb bs.length cb, .int .i64 f4] rfl rfl (World.news_of_block (cs := #[.int .i64 f1, .int .i64 f2, .int .i64 f3, .slice zb bs.length cb, .int .i64 f4]) (t := 61) (fr := (0, 0)) NW.out) (by simp [Value.oneCell']) (by rw [HL.out]; unfold maxLen; omega) (by rw [HL.out]; omega) (by have := HSZ.out; simp; omega) ?_; intro v' wc hown hgrow _; have OC := Lib.hid hown; have GC := Lib.hid hgrow; have BC := Lib.hid (row_far hgrow OEa.out.1 BXa.out (by decide)); have GD := Lib.hid (row_far hgrow OEa.out.1 GXa.out (by decide)); obtain ⟨ag, cg, hvg⟩ := row_shape hown; rw [HL.out] at hvg; subst hvg; have hfz := frozen_of_row _ _ 4 _ _ BC.out; have q2 := (row5 BC.out).2.2.2.2; clear hown hgrow)
              have FC := Lib.hid ((FXx.out.trans (FA.out.mono (by simp))).row OEa.out.1 GC.out (Nat.le_refl _))
              have SX := Lib.hid (Fr.setCell wc (w.heap.size + 1) 4 (.slice ag (t + 1) cg) (S := [w.heap.size + 1]) (by simp))
              have FD := Lib.hid (FC.out.new SX.out (by simp))
              have SC := Lib.hid (((S3.out.keep FA.out).row OEa.out.1 GC.out (by have := HP.out; omega) (by decide)).set BC.out (by have := HP.out; omega) (by decide) 4 (.slice ag (t + 1) cg))
              have OC2 := Lib.hid (row_set OC.out BC.out (by decide) 4 (.slice ag (t + 1) cg))
              have OM2 := Lib.hid (row_set (row_grown OMa.out OEa.out.1 GC.out (by decide)) BC.out (by decide) 4 (.slice ag (t + 1) cg))
              have OB2 := Lib.hid (row_set (row_grown OBa.out OEa.out.1 GC.out (by decide)) BC.out (by decide) 4 (.slice ag (t + 1) cg))
              have OX2 := Lib.hid (fun x (hx : x ∈ xs) => row_set (row_grown (OEa.out.2 x hx) OEa.out.1 GC.out (by decide)) BC.out (by decide) 4 (.slice ag (t + 1) cg))
              go_wp2
              go_roundw
              case rel =>
                refine ⟨t + 1, kk3, cc3, .slice ag (t + 1) cg, xs ++ [((⟨f1, f2, f3, bs, f4⟩ : En), .slice zb bs.length cb)], by omega, by go_num, SC.out, OM2.out, ⟨?_, ?_⟩, by rw [List.map_append]; exact HSTE.out, by rw [heap_setCell_same _ _ 4 _ _ _ BC.out]; rfl, SX.out.heap GD.out (by simp), FD.out⟩
                · rw [List.length_append, show encs (xs ++ [((⟨f1, f2, f3, bs, f4⟩ : En), .slice zb bs.length cb)]) = encs xs ++ [.int .i64 f1, .int .i64 f2, .int .i64 f3, .slice zb bs.length cb, .int .i64 f4] by simp [encs, enc1]]
                  exact OC2.out
                · intro x hx
                  rcases List.mem_append.1 hx with hx | hx
                  · exact OX2.out x hx
                  · obtain rfl := List.mem_singleton.1 hx
                    exact OB2.out
              case measure => simp [intOf]; omega
            · clear hgo3
              have qe := row5 BE.out
              have qx := (row5 BXx.out).2.2.2.2
              have FA := Lib.hid (Fr.alloc wr (.cells #[.int .i64 f1, .int .i64 f2, .int .i64 f3, .slice zb bs.length cb, .int .i64 f4] 61) [])
              have NW := Lib.hid (heap_alloc_new wr (.cells #[.int .i64 f1, .int .i64 f2, .int .i64 f3, .slice zb bs.length cb, .int .i64 f4] 61))
              have OEa := Lib.hid (OEx.out.fr FA.out (by simp))
              have BXa := Lib.hid (FA.out.heap BXx.out (by simp))
              have GXa := Lib.hid (FA.out.heap GXx.out (by simp))
              have OMa := Lib.hid (row_fr OMx.out FA.out (by simp))
              have OBa := Lib.hid (row_mono (row_fr OB.out FA.out (by simp)) (B' := w.heap.size) (by have := HWB.out; omega))
              have qa := (row5 BXa.out).2.2.2.2
              have HSZ := Lib.hid (show w.heap.size ≤ wr.heap.size from FXx.out.size)
              go_wp2_with (at_builtin; refine wpList_append_own _ rfl _ _ 25 rfl w.heap.size 61 i1 (.agg #[.int .i64 0, .int .i64 0, .int .i64 0, .slice none 0 0, .int .i64 0]) 5 56 Tryd.underlying25 ii iz0 iz1 iz2 rfl (by decide) ve xs.length (encs xs) rfl OEa.out.1 ⟨wr.heap.size, 0, none⟩ 1 1 [.int .i64 f1, .int .i64 f2, .int .i64 f3, .slice zb bs.length cb, .int .i64 f4] rfl rfl (World.news_of_block (cs := #[.int .i64 f1, .int .i64 f2, .int .i64 f3, .slice zb bs.length cb, .int .i64 f4]) (t := 61) (fr := (0, 0)) NW.out) (by simp [Value.oneCell']) (by rw [HL.out]; unfold maxLen; omega) (by rw [HL.out]; omega) (by have := HSZ.out; simp; omega) ?_; intro v' wc hown hgrow _; have OC := Lib.hid hown; have GC := Lib.hid hgrow; have BC := Lib.hid (row_far hgrow OEa.out.1 BXa.out (by decide)); have GD := Lib.hid (row_far hgrow OEa.out.1 GXa.out (by decide)); obtain ⟨ag, cg, hvg⟩ := row_shape hown; rw [HL.out] at hvg; subst hvg; have hfz := frozen_of_row _ _ 4 _ _ BC.out; have q2 := (row5 BC.out).2.2.2.2; clear hown hgrow)
              have FC := Lib.hid ((FXx.out.trans (FA.out.mono (by simp))).row OEa.out.1 GC.out (Nat.le_refl _))
              have SX := Lib.hid (Fr.setCell wc (w.heap.size + 1) 4 (.slice ag (t + 1) cg) (S := [w.heap.size + 1]) (by simp))
              have FD := Lib.hid (FC.out.new SX.out (by simp))
              have SC := Lib.hid (((S3.out.keep FA.out).row OEa.out.1 GC.out (by have := HP.out; omega) (by decide)).set BC.out (by have := HP.out; omega) (by decide) 4 (.slice ag (t + 1) cg))
              have OC2 := Lib.hid (row_set OC.out BC.out (by decide) 4 (.slice ag (t + 1) cg))
              have OM2 := Lib.hid (row_set (row_grown OMa.out OEa.out.1 GC.out (by decide)) BC.out (by decide) 4 (.slice ag (t + 1) cg))
              have OB2 := Lib.hid (row_set (row_grown OBa.out OEa.out.1 GC.out (by decide)) BC.out (by decide) 4 (.slice ag (t + 1) cg))
              have OX2 := Lib.hid (fun x (hx : x ∈ xs) => row_set (row_grown (OEa.out.2 x hx) OEa.out.1 GC.out (by decide)) BC.out (by decide) 4 (.slice ag (t + 1) cg))
              go_wp2
              go_roundw
              case rel =>
                refine ⟨t + 1, kk3, cc3, .slice ag (t + 1) cg, xs ++ [((⟨f1, f2, f3, bs, f4⟩ : En), .slice zb bs.length cb)], by omega, by go_num, SC.out, OM2.out, ⟨?_, ?_⟩, by rw [List.map_append]; exact HSTE.out, by rw [heap_setCell_same _ _ 4 _ _ _ BC.out]; rfl, SX.out.heap GD.out (by simp), FD.out⟩
                · rw [List.length_append, show encs (xs ++ [((⟨f1, f2, f3, bs, f4⟩ : En), .slice zb bs.length cb)]) = encs xs ++ [.int .i64 f1, .int .i64 f2, .int .i64 f3, .slice zb bs.length cb, .int .i64 f4] by simp [encs, enc1]]
                  exact OC2.out
                · intro x hx
                  rcases List.mem_append.1 hx with hx | hx
                  · exact OX2.out x hx
                  · obtain rfl := List.mem_singleton.1 hx
                    exact OB2.out
              case measure => simp [intOf]; omega
        have DN2 := Lib.hid (RP.out.done (by omega))
        have HEQ : Hid (R = ⟨x1, x2, x3, (rep (Fm.num 0 15) N l k4 c4).1, (rep (rdEn (N : Int)) M l k6 c6).1⟩ ∧ k' = kk2 ∧ c' = cc2) := by
          have h := HN.out
          have e1 := congrArg Prod.fst DN.out.1
          have e2 := congrArg Prod.snd DN.out.1
          have e3 := congrArg Prod.fst DN2.out.1
          have e4 := congrArg Prod.snd DN2.out.1
          simp only at e1 e2 e3 e4
          simp only [rdRg, Fm.bind, H1.out, H2.out, H3.out, H4.out, Int.toNat_natCast, e1, e2, H6.out, Fm.ret, e3, e4] at h
          simp only [Prod.mk.injEq] at h
          exact ⟨h.1.symm, h.2.1.symm, h.2.2.symm⟩
        have HZZ : Hid (c' = 0 → (⟨x1, x2, x3, ms, xs.map (·.1)⟩ : Rg) = R) := by
          intro h0
          have hcc2 : cc2 = 0 := by rw [← HEQ.out.2.2]; exact h0
          have hc6 : c6 = 0 := by
            apply Classical.byContradiction
            intro hne
            have h := ((dead_en (N : Int)).rep M) l k6 c6 hne
            rw [DN2.out.1] at h
            simp only [Prod.mk.injEq] at h
            exact hne (h.2.symm.trans hcc2)
          have hcc : cc = 0 := by
            apply Classical.byContradiction
            intro hne
            exact hne ((H46.out hne).1.symm.trans hc6)
          rw [HEQ.out.1, ← DN.out.2 hcc, ← DN2.out.2 hcc2]
        by_cases hlt2 : t < M
        · have hcc : cc2 ≠ 0 := fun e => hgo2 ⟨hlt2, e⟩
          have HNO := Lib.hid (no hcc)
          clear hgo2 hcc
          obtain ⟨zb, cb, hvb⟩ := OE.out.he.shape
          rw [List.length_map] at hvb
          subst hvb
          have hk := row5 BX.out
          have hg := row5 GX.out
          have z0 := frozen_of_row _ _ 0 _ _ GX.out
          have z1 := frozen_of_row _ _ 1 _ _ GX.out
          have z2 := frozen_of_row _ _ 2 _ _ GX.out
          have z3 := frozen_of_row _ _ 3 _ _ GX.out
          have z4 := frozen_of_row _ _ 4 _ _ GX.out
          go_wp2_with fail
          refine (rok B p l kk2 cc2 _ S.out false HNO.out).mono ?_
          rintro e we ⟨rfl, rfl⟩
          go_wp2
          have Q5 := Lib.hid (set5 wr w.heap.size (.int .i64 x1) (.int .i64 x2) (.int .i64 x3) (.slice zm ms.length cm) (.slice zb xs.length cb))
          have hgt : ∀ r ∈ [w.heap.size], ∃ cs T, wr.heap[r]? = some (.cells cs T (0, 0)) ∧ T ≠ 61 ∧ T ≠ 63 := by
            intro r hr; obtain rfl := List.mem_singleton.1 hr; exact ⟨_, _, GX.out, by decide, by decide⟩
          have HR : Hid (RRing B p l R k' c' w (.agg #[.int .i64 x1, .int .i64 x2, .int .i64 x3, .slice zm ms.length cm, .slice zb xs.length cb]) (((((wr.setCell ⟨w.heap.size, 0, none⟩ (.int .i64 x1)).setCell ⟨w.heap.size, 1, none⟩ (.int .i64 x2)).setCell ⟨w.heap.size, 2, none⟩ (.int .i64 x3)).setCell ⟨w.heap.size, 3, none⟩ (.slice zm ms.length cm)).setCell ⟨w.heap.size, 4, none⟩ (.slice zb xs.length cb))) := by
            refine ⟨⟨x1, x2, x3, ms, xs.map (·.1)⟩, _, _, xs, rfl, ?_, ?_, rfl, HZZ.out, ?_, F.out.new Q5.out (by simp)⟩
            · exact row_fr OM.out Q5.out (by intro r hr; obtain rfl := List.mem_singleton.1 hr; exact row_ne OM.out GX.out (by decide))
            · exact OE.out.fr Q5.out hgt
            · rw [HEQ.out.2.1, HEQ.out.2.2]
              exact S.out.fr Q5.out (by have := HP.out; simp; omega) (by intro r hr; obtain rfl := List.mem_singleton.1 hr; have := HP.out; omega)
          exact bodyPost_ret (v := .agg #[.int .i64 x1, .int .i64 x2, .int .i64 x3, .slice zm ms.length cm, .slice zb xs.length cb]) (by simp [results, Tryd.results45, go_sem, hg]) rfl (gives HR.out)
        · clear hgo2
          obtain ⟨zb, cb, hvb⟩ := OE.out.he.shape
          rw [List.length_map] at hvb
          subst hvb
          have hk := row5 BX.out
          have hg := row5 GX.out
          have z0 := frozen_of_row _ _ 0 _ _ GX.out
          have z1 := frozen_of_row _ _ 1 _ _ GX.out
          have z2 := frozen_of_row _ _ 2 _ _ GX.out
          have z3 := frozen_of_row _ _ 3 _ _ GX.out
          have z4 := frozen_of_row _ _ 4 _ _ GX.out
          go_wp2
          have Q5 := Lib.hid (set5 wr w.heap.size (.int .i64 x1) (.int .i64 x2) (.int .i64 x3) (.slice zm ms.length cm) (.slice zb xs.length cb))
          have hgt : ∀ r ∈ [w.heap.size], ∃ cs T, wr.heap[r]? = some (.cells cs T (0, 0)) ∧ T ≠ 61 ∧ T ≠ 63 := by
            intro r hr; obtain rfl := List.mem_singleton.1 hr; exact ⟨_, _, GX.out, by decide, by decide⟩
          have HR : Hid (RRing B p l R k' c' w (.agg #[.int .i64 x1, .int .i64 x2, .int .i64 x3, .slice zm ms.length cm, .slice zb xs.length cb]) (((((wr.setCell ⟨w.heap.size, 0, none⟩ (.int .i64 x1)).setCell ⟨w.heap.size, 1, none⟩ (.int .i64 x2)).setCell ⟨w.heap.size, 2, none⟩ (.int .i64 x3)).setCell ⟨w.heap.size, 3, none⟩ (.slice zm ms.length cm)).setCell ⟨w.heap.size, 4, none⟩ (.slice zb xs.length cb))) := by
            refine ⟨⟨x1, x2, x3, ms, xs.map (·.1)⟩, _, _, xs, rfl, ?_, ?_, rfl, HZZ.out, ?_, F.out.new Q5.out (by simp)⟩
            · exact row_fr OM.out Q5.out (by intro r hr; obtain rfl := List.mem_singleton.1 hr; exact row_ne OM.out GX.out (by decide))
            · exact OE.out.fr Q5.out hgt
            · rw [HEQ.out.2.1, HEQ.out.2.2]
              exact S.out.fr Q5.out (by have := HP.out; simp; omega) (by intro r hr; obtain rfl := List.mem_singleton.1 hr; have := HP.out; omega)
          exact bodyPost_ret (v := .agg #[.int .i64 x1, .int .i64 x2, .int .i64 x3, .slice zm ms.length cm, .slice zb xs.length cb]) (by simp [results, Tryd.results45, go_sem, hg]) rfl (gives HR.out)
end Go.Proofs.YtpeocdcciecpoaaDoor
