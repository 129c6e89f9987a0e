/- A frame is cloned: what the copy holds is the call's own. -/
import Derived.Test.YtpeocdcciecpoaaDoorFClone
import Derived.Test.YtpeocdcciecpoaaDoorFFirst
namespace Go.Proofs.YtpeocdcciecpoaaDoor
open Go.RowKit Fm

theorem HX.keep {w w' : World} {v : Value} {xs : List (En × Value)} (h : HX w v xs) (hg : Fr w w' []) : HX w' v xs := by
  obtain ⟨a, cap, rfl, h1, h2, h3, h4, h5⟩ := h
  exact ⟨a, cap, rfl, h1, h2, h3, fun x hx j u hj => hg.cell (h4 x hx j u hj) (by simp), fun x hx => (h5 x hx).keep hg⟩
theorem HX.bids {w : World} {v : Value} {xs : List (En × Value)} (h : HX w v xs) : ∀ x ∈ xs, HB w x.2 x.1.bs := by
  obtain ⟨a, cap, rfl, h1, h2, h3, h4, h5⟩ := h
  exact h5
theorem row_shape {w : World} {B sz n : Nat} {T : TypeId} {v : Value} {xs : List Value} (h : w.ownsRow B T sz v n xs) : ∃ a c, v = .slice a n c := by
  rcases h.2 with ⟨rfl, h0⟩ | ⟨g, cap, cur, rfl, _⟩
  · exact ⟨none, 0, by rw [h0]⟩
  · exact ⟨_, _, rfl⟩

theorem row_head {w : World} {B sz n : Nat} {T : TypeId} {v : Value} {xs : List Value} (h : w.ownsRow B T sz v n xs) (h0 : 0 < n) : ∃ g c, v = .slice (some ⟨g, 0, none⟩) n c ∧ n ≤ c ∧ w.heap.size > g := by
  rcases h.2 with ⟨_, h1⟩ | ⟨g, cap, cur, rfl, _, hg, hn, _⟩
  · omega
  · exact ⟨g, cap, rfl, hn, size_of_row hg⟩

theorem encs_set (ys : List (En × Value)) (k : Nat) (x : En × Value) (u : Value) (h : ys[k]? = some x) : encs (ys.set k (x.1, u)) = (encs ys).set (k * 5 + 3) u := by
  induction ys generalizing k with
  | nil => simp at h
  | cons b l ih =>
    have e : encs (b :: l) = .int .i64 b.1.fl :: .int .i64 b.1.di :: .int .i64 b.1.ge :: b.2 :: .int .i64 b.1.aw :: encs l := by simp [encs, enc1]
    cases k with
    | zero =>
      simp at h
      subst h
      simp [encs, enc1]
    | succ k =>
      have h' : l[k]? = some x := by simpa using h
      have := ih k h'
      have e2 : encs (b :: l.set k (x.1, u)) = .int .i64 b.1.fl :: .int .i64 b.1.di :: .int .i64 b.1.ge :: b.2 :: .int .i64 b.1.aw :: encs (l.set k (x.1, u)) := by simp [encs, enc1]
      rw [List.set_cons_succ, e2, this, e, show (k + 1) * 5 + 3 = (k * 5 + 3) + 1 + 1 + 1 + 1 + 1 by omega]
      simp
theorem fst_set (ys : List (En × Value)) (k : Nat) (x : En × Value) (u : Value) (h : ys[k]? = some x) : (ys.set k (x.1, u)).map (·.1) = ys.map (·.1) := by
  rw [List.map_set]
  apply List.ext_getElem?
  intro i
  by_cases e : i = k
  · subst e
    obtain ⟨hl, hv⟩ := List.getElem?_eq_some_iff.1 h
    simp [hl, hv]
  · rw [List.getElem?_set_ne (Ne.symm e)]
/-- What stands in a round of the clone. -/
def ClnS (w0 : World) (f : F) (vm ve : Value) (ys : List (En × Value)) (k : Nat) (a : World) : Prop :=
  a.heap[w0.heap.size]? = some (.cells #[.int .i64 f.ki, .int .i64 f.fr, .int .i64 f.to, .int .i64 f.li, .int .i64 f.se, .bool f.ou, .int .i64 f.rg.co, .int .i64 f.rg.fo, .int .i64 f.rg.ho, vm, ve] 29 (0, 0)) ∧
  a.heap[w0.heap.size + 1]? = some (.cells #[.int .i64 0, .int .i64 0, .int .i64 0, .int .i64 0, .int .i64 0, .bool false, .int .i64 0, .int .i64 0, .int .i64 0, .slice none 0 0, .slice none 0 0] 29 (0, 0)) ∧
  OwnI a w0.heap.size vm f.rg.ms ∧ a.ownsRow w0.heap.size 61 5 ve ys.length (encs ys) ∧ ys.map (·.1) = f.rg.es ∧
  (∀ j x, j < k → ys[j]? = some x → OwnB a w0.heap.size x.2 x.1.bs) ∧ (∀ j x, k ≤ j → ys[j]? = some x → HB w0 x.2 x.1.bs) ∧ Fr w0 a []
/-- A clone of a frame. -/
def ClnP (f : F) (w0 : World) (v : Value) (w' : World) : Prop :=
  ∃ vm ve xs, v = frV f vm ve ∧ OwnI w' w0.heap.size vm f.rg.ms ∧ OwnE w' w0.heap.size ve xs ∧ xs.map (·.1) = f.rg.es ∧ Fr w0 w' []

set_option maxHeartbeats 4000000 in
set_option maxRecDepth 100000 in
theorem clone_frame (f : F) (vm ve : Value) (w : World) (hm : Holds .i64 w vm f.rg.ms) (he : HE w ve f.rg.es) (hn1 : f.rg.ms.length ≤ 1000000) (hn2 : f.rg.es.length ≤ 1000000) (hn3 : ∀ e ∈ f.rg.es, e.bs.length ≤ 1000000) :
    Calls Tryd.prog 16 #[frV f vm ve] w (Gives (ClnP f w)) := by
  obtain ⟨xs, hxs, hx⟩ := he.hx
  have HM := Lib.hid hm
  have HXX := Lib.hid hx
  have HXS := Lib.hid hxs
  have HN1 := Lib.hid hn1
  have HN2 : Hid (xs.length ≤ 1000000) := by show _ ≤ _; rw [← hxs, List.length_map] at hn2; exact hn2
  have HN3 := Lib.hid hn3
  obtain ⟨am, cm, rfl⟩ := hm.shape
  obtain ⟨ae, ce, rfl⟩ := he.shape
  unfold frV
  have HF0 := Lib.hid ((Fr.alloc w (.cells #[.int .i64 f.ki, .int .i64 f.fr, .int .i64 f.to, .int .i64 f.li, .int .i64 f.se, .bool f.ou, .int .i64 f.rg.co, .int .i64 f.rg.fo, .int .i64 f.rg.ho, .slice am f.rg.ms.length cm, .slice ae f.rg.es.length ce] 29) []).trans (Fr.alloc _ (.cells #[.int .i64 0, .int .i64 0, .int .i64 0, .int .i64 0, .int .i64 0, .bool false, .int .i64 0, .int .i64 0, .int .i64 0, .slice none 0 0, .slice none 0 0] 29) []))
  have HZ := Lib.hid (two_boxes w (.cells #[.int .i64 f.ki, .int .i64 f.fr, .int .i64 f.to, .int .i64 f.li, .int .i64 f.se, .bool f.ou, .int .i64 f.rg.co, .int .i64 f.rg.fo, .int .i64 f.rg.ho, .slice am f.rg.ms.length cm, .slice ae f.rg.es.length ce] 29) (.cells #[.int .i64 0, .int .i64 0, .int .i64 0, .int .i64 0, .int .i64 0, .bool false, .int .i64 0, .int .i64 0, .int .i64 0, .slice none 0 0, .slice none 0 0] 29))
  clear hm he hn1 hn2 hn3 hxs hx
  go_enter Tryd.func16, Tryd.ntmps16
  go_wp2_with fail
  refine (clone_ints _ f.rg.ms _ (HM.out.keep HF0.out) HN1.out).mono ?_
  rintro e w1 ⟨u1, rfl, ho1, hf1⟩
  obtain ⟨a1, c1, rfl⟩ := ho1.holds.shape
  have B1 := Lib.hid (hf1.heap HZ.out.1 (by simp))
  have B1' := Lib.hid (hf1.heap HZ.out.2 (by simp))
  have O1 := Lib.hid ho1
  have F1 := Lib.hid (HF0.out.trans hf1)
  have z1 := (row11 B1.out).2.2.2.2.2.2.2.2.2.1
  have y1 := frozen_of_row _ _ 9 _ _ B1.out
  clear hf1 ho1
  have S1 := Lib.hid (Fr.setCell w1 w.heap.size 9 (.slice a1 f.rg.ms.length c1) (S := [w.heap.size]) (by simp))
  have B2 : Hid ((w1.setCell ⟨w.heap.size, 9, none⟩ (.slice a1 f.rg.ms.length c1)).heap[w.heap.size]? = some (.cells #[.int .i64 f.ki, .int .i64 f.fr, .int .i64 f.to, .int .i64 f.li, .int .i64 f.se, .bool f.ou, .int .i64 f.rg.co, .int .i64 f.rg.fo, .int .i64 f.rg.ho, .slice a1 f.rg.ms.length c1, .slice ae f.rg.es.length ce] 29 (0, 0))) := heap_setCell_same _ w.heap.size 9 _ _ (.slice a1 f.rg.ms.length c1) B1.out
  have B2' := Lib.hid (S1.out.heap B1'.out (by simp))
  have F2 := Lib.hid (F1.out.new S1.out (by simp))
  have O2 := Lib.hid (row_fr O1.out S1.out (by intro r hr; obtain rfl := List.mem_singleton.1 hr; exact row_ne O1.out B1.out (by decide)))
  have z2 := (row11 B2.out).2.2.2.2.2.2.2.2.2.2
  have HX2 : Hid (HX (w1.setCell ⟨w.heap.size, 9, none⟩ (.slice a1 f.rg.ms.length c1)) (.slice ae f.rg.es.length ce) xs) := HXX.out.keep F2.out
  go_wp2_with fail
  refine (clone_ents _ xs _ HX2.out HN2.out).mono ?_
  rintro e w2 ⟨u2, rfl, ho2, hf2⟩
  obtain ⟨a2, c2, rfl⟩ := row_shape ho2
  have B3 := Lib.hid (hf2.heap B2.out (by simp))
  have B3' := Lib.hid (hf2.heap B2'.out (by simp))
  have O3 := Lib.hid (row_fr O2.out hf2 (by simp))
  have P3 := Lib.hid ho2
  have F3 := Lib.hid (F2.out.trans hf2)
  have z3 := (row11 B3.out).2.2.2.2.2.2.2.2.2.2
  have y3 := frozen_of_row _ _ 10 _ _ B3.out
  clear z1 y1 z2 hf2 ho2
  have S3 := Lib.hid (Fr.setCell w2 w.heap.size 10 (.slice a2 xs.length c2) (S := [w.heap.size]) (by simp))
  have B4 : Hid ((w2.setCell ⟨w.heap.size, 10, none⟩ (.slice a2 xs.length c2)).heap[w.heap.size]? = some (.cells #[.int .i64 f.ki, .int .i64 f.fr, .int .i64 f.to, .int .i64 f.li, .int .i64 f.se, .bool f.ou, .int .i64 f.rg.co, .int .i64 f.rg.fo, .int .i64 f.rg.ho, .slice a1 f.rg.ms.length c1, .slice a2 xs.length c2] 29 (0, 0))) := heap_setCell_same _ w.heap.size 10 _ _ (.slice a2 xs.length c2) B3.out
  have z4 := (row11 B4.out).2.2.2.2.2.2.2.2.2.2
  have hS : ClnS w f (.slice a1 f.rg.ms.length c1) (.slice a2 xs.length c2) xs 0 (w2.setCell ⟨w.heap.size, 10, none⟩ (.slice a2 xs.length c2)) := by
    refine ⟨B4.out, S3.out.heap B3'.out (by simp), ?_, ?_, HXS.out, fun j x hj => by omega, fun j x _ hx => HXX.out.bids x (List.mem_of_getElem? hx), F3.out.new S3.out (by simp)⟩
    · exact row_mono (row_fr O3.out S3.out (by intro r hr; obtain rfl := List.mem_singleton.1 hr; exact row_ne O3.out B3.out (by decide))) (by simp; omega)
    · exact row_mono (row_fr P3.out S3.out (by intro r hr; obtain rfl := List.mem_singleton.1 hr; exact row_ne P3.out B3.out (by decide))) (by have := F2.out.size; simp at this ⊢; omega)
  have HS := Lib.hid hS
  clear hS
  have HLX := HN2.out
  clear B1 B1' S1 B2 B2' F2 O2 HX2 B3 B3' O3 P3 F3 S3 B4 O1 F1 HF0 HZ
  go_wp2
  clear z3 y3 z4
  go_loopw [21] (fun i wr => ∃ (k : Nat) (ys : List (En × Value)), k ≤ xs.length ∧ ys.length = xs.length ∧ i = .int .i64 k ∧ ClnS w f (.slice a1 f.rg.ms.length c1) (.slice a2 xs.length c2) ys k wr) (fun i _ => xs.length - (intOf i).toNat)
  case atStart => exact ⟨0, xs, Nat.zero_le _, rfl, rfl, HS.out⟩
  case round =>
    obtain ⟨k, ys, hk, hyl, rfl, hst⟩ := hrel
    have HST := Lib.hid hst
    have HYL := Lib.hid hyl
    have kb := row11 HST.out.1
    clear hst hyl
    by_cases hlt : k < xs.length
    · obtain ⟨x, hx⟩ : ∃ x, ys[k]? = some x := ⟨_, List.getElem?_eq_getElem (by rw [HYL.out]; exact hlt)⟩
      have hP := HST.out.2.2.2.1
      rw [HYL.out] at hP
      obtain ⟨g, c', hv, hc', hgs⟩ := row_head hP (by omega)
      simp only [Value.slice.injEq, true_and] at hv
      obtain ⟨rfl, rfl⟩ := hv
      obtain ⟨q0, q1, q2, q3, q4⟩ := encs_get _ k _ hx
      have l3 := (World.ownsRow.cellAt hP (k * 5 + 3) (by omega)).trans q3
      have r3 := World.ownsRow.frozenAt hP (k * 5 + 3)
      have HQ := Lib.hid hx
      have HPP := Lib.hid hP
      have hbx := HST.out.2.2.2.2.2.2.1 k x (Nat.le_refl _) hx
      have HBX := Lib.hid (hbx.keep HST.out.2.2.2.2.2.2.2)
      obtain ⟨ax, cx, hvx⟩ := hbx.shape
      rw [hvx] at l3 HBX
      clear hbx q0 q1 q2 q3 q4 hP
      go_wp2_with fail
      refine (clone_bids _ x.1.bs _ HBX.out (HN3.out x.1 (by rw [← HST.out.2.2.2.2.1]; exact List.mem_map.2 ⟨x, List.mem_of_getElem? HQ.out, rfl⟩))).mono ?_
      rintro e w6 ⟨u6, rfl, ho6, hf6⟩
      obtain ⟨a6, c6, rfl⟩ := row_shape ho6
      have hP6 := row_fr HPP.out hf6 (by simp)
      have l6 := (hf6.cell l3 (by simp))
      have r6 := World.ownsRow.frozenAt hP6 (k * 5 + 3)
      have hst6 : ClnS w f (.slice a1 f.rg.ms.length c1) (.slice (some ⟨g, 0, none⟩) xs.length c2) (ys.set k (x.1, .slice a6 x.1.bs.length c6)) (k + 1) (w6.setCell ⟨g, k * 5 + 3, none⟩ (.slice a6 x.1.bs.length c6)) := by
        obtain ⟨s1, s2, s3, s4, s5, s6, s7, s8⟩ := HST.out
        have S6 := Fr.setCell w6 g (k * 5 + 3) (.slice a6 x.1.bs.length c6) (S := [g]) (by simp)
        obtain ⟨cur, hcur⟩ : ∃ cur, w6.heap[g]? = some (.cells cur 61 (0, 0)) := by
          rcases hP6.2 with ⟨h, _⟩ | ⟨g', cap', cur, h, _, hg, _⟩
          · simp at h
          · simp only [Value.slice.injEq, Option.some.injEq, Addr.mk.injEq, and_true, true_and] at h
            obtain ⟨rfl, _⟩ := h
            exact ⟨cur, hg⟩
        have n1 := row_ne hP6 (hf6.heap s1 (by simp)) (by decide)
        have n2 := row_ne hP6 (hf6.heap s2 (by simp)) (by decide)
        have m1 : w.heap.size ≠ g := fun e => n1 (by rw [e]; rfl)
        have m2 : w.heap.size + 1 ≠ g := fun e => n2 (by rw [e]; rfl)
        have gb := (World.ownsRow.lt HPP.out g rfl).1
        refine ⟨S6.heap (hf6.heap s1 (by simp)) (by simpa using m1), S6.heap (hf6.heap s2 (by simp)) (by simpa using m2), ?_, ?_, ?_, ?_, ?_, (s8.trans hf6).new S6 (by intro r hr; obtain rfl := List.mem_singleton.1 hr; exact gb)⟩
        · have h := row_fr s3 hf6 (by simp)
          exact row_fr h S6 (by intro r hr; obtain rfl := List.mem_singleton.1 hr; exact row_ne h hcur (by decide))
        · have h := (World.ownsRow.stored hP6 (k * 5 + 3) (.slice a6 x.1.bs.length c6)).1
          rw [encs_set ys k x _ HQ.out, List.length_set, HYL.out]
          exact h
        · rw [fst_set ys k x _ HQ.out]; exact s5
        · intro j y hj hy
          by_cases e : j = k
          · subst e
            have hy2 : y = (x.1, .slice a6 x.1.bs.length c6) := by
              rw [List.getElem?_set_self (by rw [HYL.out]; exact hlt)] at hy
              exact (Option.some.inj hy).symm
            subst hy2
            have h : OwnB w6 w.heap.size (.slice a6 x.1.bs.length c6) x.1.bs := row_mono ho6 s8.size
            exact row_fr h S6 (by intro r hr; obtain rfl := List.mem_singleton.1 hr; exact row_ne h hcur (by decide))
          · rw [List.getElem?_set_ne (Ne.symm e)] at hy
            have h := row_fr (s6 j y (by omega) hy) hf6 (by simp)
            exact row_fr h S6 (by intro r hr; obtain rfl := List.mem_singleton.1 hr; exact row_ne h hcur (by decide))
        · intro j y hj hy
          rw [List.getElem?_set_ne (by omega)] at hy
          exact s7 j y (by omega) hy
      have HST6 := Lib.hid hst6
      have HL6 : Hid ((ys.set k (x.1, .slice a6 x.1.bs.length c6)).length = xs.length) := by show _ = _; rw [List.length_set]; exact HYL.out
      clear hst6 hP6 ho6 hf6 kb l3 r3
      go_wp2
      go_roundw
      case rel => exact ⟨k + 1, _, by omega, HL6.out, by go_num, HST6.out⟩
      case measure => simp [intOf]; omega
    · have h2 := row11 HST.out.2.1
      have f0 := frozen_of_row _ _ 0 _ _ HST.out.2.1
      have f1 := frozen_of_row _ _ 1 _ _ HST.out.2.1
      have f2 := frozen_of_row _ _ 2 _ _ HST.out.2.1
      have f3 := frozen_of_row _ _ 3 _ _ HST.out.2.1
      have f4 := frozen_of_row _ _ 4 _ _ HST.out.2.1
      have f5 := frozen_of_row _ _ 5 _ _ HST.out.2.1
      have f6 := frozen_of_row _ _ 6 _ _ HST.out.2.1
      have f7 := frozen_of_row _ _ 7 _ _ HST.out.2.1
      have f8 := frozen_of_row _ _ 8 _ _ HST.out.2.1
      have f9 := frozen_of_row _ _ 9 _ _ HST.out.2.1
      have f10 := frozen_of_row _ _ 10 _ _ HST.out.2.1
      have HKX : Hid (k = xs.length) := by show _ = _; omega
      go_wp2_with fail
      have g0 : (World.setCell wr ⟨w.heap.size + 1, 0, none⟩ (.int .i64 f.ki)).heap[w.heap.size + 1]? = some (.cells #[.int .i64 f.ki, .int .i64 0, .int .i64 0, .int .i64 0, .int .i64 0, .bool false, .int .i64 0, .int .i64 0, .int .i64 0, .slice none 0 0, .slice none 0 0] 29 (0, 0)) := setc HST.out.2.1 0 (.int .i64 f.ki)
      have g1 : (World.setCell (World.setCell wr ⟨w.heap.size + 1, 0, none⟩ (.int .i64 f.ki)) ⟨w.heap.size + 1, 1, none⟩ (.int .i64 f.fr)).heap[w.heap.size + 1]? = some (.cells #[.int .i64 f.ki, .int .i64 f.fr, .int .i64 0, .int .i64 0, .int .i64 0, .bool false, .int .i64 0, .int .i64 0, .int .i64 0, .slice none 0 0, .slice none 0 0] 29 (0, 0)) := setc g0 1 (.int .i64 f.fr)
      have g2 : (World.setCell (World.setCell (World.setCell wr ⟨w.heap.size + 1, 0, none⟩ (.int .i64 f.ki)) ⟨w.heap.size + 1, 1, none⟩ (.int .i64 f.fr)) ⟨w.heap.size + 1, 2, none⟩ (.int .i64 f.to)).heap[w.heap.size + 1]? = some (.cells #[.int .i64 f.ki, .int .i64 f.fr, .int .i64 f.to, .int .i64 0, .int .i64 0, .bool false, .int .i64 0, .int .i64 0, .int .i64 0, .slice none 0 0, .slice none 0 0] 29 (0, 0)) := setc g1 2 (.int .i64 f.to)
      have g3 : (World.setCell (World.setCell (World.setCell (World.setCell wr ⟨w.heap.size + 1, 0, none⟩ (.int .i64 f.ki)) ⟨w.heap.size + 1, 1, none⟩ (.int .i64 f.fr)) ⟨w.heap.size + 1, 2, none⟩ (.int .i64 f.to)) ⟨w.heap.size + 1, 3, none⟩ (.int .i64 f.li)).heap[w.heap.size + 1]? = some (.cells #[.int .i64 f.ki, .int .i64 f.fr, .int .i64 f.to, .int .i64 f.li, .int .i64 0, .bool false, .int .i64 0, .int .i64 0, .int .i64 0, .slice none 0 0, .slice none 0 0] 29 (0, 0)) := setc g2 3 (.int .i64 f.li)
      have g4 : (World.setCell (World.setCell (World.setCell (World.setCell (World.setCell wr ⟨w.heap.size + 1, 0, none⟩ (.int .i64 f.ki)) ⟨w.heap.size + 1, 1, none⟩ (.int .i64 f.fr)) ⟨w.heap.size + 1, 2, none⟩ (.int .i64 f.to)) ⟨w.heap.size + 1, 3, none⟩ (.int .i64 f.li)) ⟨w.heap.size + 1, 4, none⟩ (.int .i64 f.se)).heap[w.heap.size + 1]? = some (.cells #[.int .i64 f.ki, .int .i64 f.fr, .int .i64 f.to, .int .i64 f.li, .int .i64 f.se, .bool false, .int .i64 0, .int .i64 0, .int .i64 0, .slice none 0 0, .slice none 0 0] 29 (0, 0)) := setc g3 4 (.int .i64 f.se)
      have g5 : (World.setCell (World.setCell (World.setCell (World.setCell (World.setCell (World.setCell wr ⟨w.heap.size + 1, 0, none⟩ (.int .i64 f.ki)) ⟨w.heap.size + 1, 1, none⟩ (.int .i64 f.fr)) ⟨w.heap.size + 1, 2, none⟩ (.int .i64 f.to)) ⟨w.heap.size + 1, 3, none⟩ (.int .i64 f.li)) ⟨w.heap.size + 1, 4, none⟩ (.int .i64 f.se)) ⟨w.heap.size + 1, 5, none⟩ (.bool f.ou)).heap[w.heap.size + 1]? = some (.cells #[.int .i64 f.ki, .int .i64 f.fr, .int .i64 f.to, .int .i64 f.li, .int .i64 f.se, .bool f.ou, .int .i64 0, .int .i64 0, .int .i64 0, .slice none 0 0, .slice none 0 0] 29 (0, 0)) := setc g4 5 (.bool f.ou)
      have g6 : (World.setCell (World.setCell (World.setCell (World.setCell (World.setCell (World.setCell (World.setCell wr ⟨w.heap.size + 1, 0, none⟩ (.int .i64 f.ki)) ⟨w.heap.size + 1, 1, none⟩ (.int .i64 f.fr)) ⟨w.heap.size + 1, 2, none⟩ (.int .i64 f.to)) ⟨w.heap.size + 1, 3, none⟩ (.int .i64 f.li)) ⟨w.heap.size + 1, 4, none⟩ (.int .i64 f.se)) ⟨w.heap.size + 1, 5, none⟩ (.bool f.ou)) ⟨w.heap.size + 1, 6, none⟩ (.int .i64 f.rg.co)).heap[w.heap.size + 1]? = some (.cells #[.int .i64 f.ki, .int .i64 f.fr, .int .i64 f.to, .int .i64 f.li, .int .i64 f.se, .bool f.ou, .int .i64 f.rg.co, .int .i64 0, .int .i64 0, .slice none 0 0, .slice none 0 0] 29 (0, 0)) := setc g5 6 (.int .i64 f.rg.co)
      have g7 : (World.setCell (World.setCell (World.setCell (World.setCell (World.setCell (World.setCell (World.setCell (World.setCell wr ⟨w.heap.size + 1, 0, none⟩ (.int .i64 f.ki)) ⟨w.heap.size + 1, 1, none⟩ (.int .i64 f.fr)) ⟨w.heap.size + 1, 2, none⟩ (.int .i64 f.to)) ⟨w.heap.size + 1, 3, none⟩ (.int .i64 f.li)) ⟨w.heap.size + 1, 4, none⟩ (.int .i64 f.se)) ⟨w.heap.size + 1, 5, none⟩ (.bool f.ou)) ⟨w.heap.size + 1, 6, none⟩ (.int .i64 f.rg.co)) ⟨w.heap.size + 1, 7, none⟩ (.int .i64 f.rg.fo)).heap[w.heap.size + 1]? = some (.cells #[.int .i64 f.ki, .int .i64 f.fr, .int .i64 f.to, .int .i64 f.li, .int .i64 f.se, .bool f.ou, .int .i64 f.rg.co, .int .i64 f.rg.fo, .int .i64 0, .slice none 0 0, .slice none 0 0] 29 (0, 0)) := setc g6 7 (.int .i64 f.rg.fo)
      have g8 : (World.setCell (World.setCell (World.setCell (World.setCell (World.setCell (World.setCell (World.setCell (World.setCell (World.setCell wr ⟨w.heap.size + 1, 0, none⟩ (.int .i64 f.ki)) ⟨w.heap.size + 1, 1, none⟩ (.int .i64 f.fr)) ⟨w.heap.size + 1, 2, none⟩ (.int .i64 f.to)) ⟨w.heap.size + 1, 3, none⟩ (.int .i64 f.li)) ⟨w.heap.size + 1, 4, none⟩ (.int .i64 f.se)) ⟨w.heap.size + 1, 5, none⟩ (.bool f.ou)) ⟨w.heap.size + 1, 6, none⟩ (.int .i64 f.rg.co)) ⟨w.heap.size + 1, 7, none⟩ (.int .i64 f.rg.fo)) ⟨w.heap.size + 1, 8, none⟩ (.int .i64 f.rg.ho)).heap[w.heap.size + 1]? = some (.cells #[.int .i64 f.ki, .int .i64 f.fr, .int .i64 f.to, .int .i64 f.li, .int .i64 f.se, .bool f.ou, .int .i64 f.rg.co, .int .i64 f.rg.fo, .int .i64 f.rg.ho, .slice none 0 0, .slice none 0 0] 29 (0, 0)) := setc g7 8 (.int .i64 f.rg.ho)
      have g9 : (World.setCell (World.setCell (World.setCell (World.setCell (World.setCell (World.setCell (World.setCell (World.setCell (World.setCell (World.setCell wr ⟨w.heap.size + 1, 0, none⟩ (.int .i64 f.ki)) ⟨w.heap.size + 1, 1, none⟩ (.int .i64 f.fr)) ⟨w.heap.size + 1, 2, none⟩ (.int .i64 f.to)) ⟨w.heap.size + 1, 3, none⟩ (.int .i64 f.li)) ⟨w.heap.size + 1, 4, none⟩ (.int .i64 f.se)) ⟨w.heap.size + 1, 5, none⟩ (.bool f.ou)) ⟨w.heap.size + 1, 6, none⟩ (.int .i64 f.rg.co)) ⟨w.heap.size + 1, 7, none⟩ (.int .i64 f.rg.fo)) ⟨w.heap.size + 1, 8, none⟩ (.int .i64 f.rg.ho)) ⟨w.heap.size + 1, 9, none⟩ (.slice a1 f.rg.ms.length c1)).heap[w.heap.size + 1]? = some (.cells #[.int .i64 f.ki, .int .i64 f.fr, .int .i64 f.to, .int .i64 f.li, .int .i64 f.se, .bool f.ou, .int .i64 f.rg.co, .int .i64 f.rg.fo, .int .i64 f.rg.ho, .slice a1 f.rg.ms.length c1, .slice none 0 0] 29 (0, 0)) := setc g8 9 (.slice a1 f.rg.ms.length c1)
      have g10 : (World.setCell (World.setCell (World.setCell (World.setCell (World.setCell (World.setCell (World.setCell (World.setCell (World.setCell (World.setCell (World.setCell wr ⟨w.heap.size + 1, 0, none⟩ (.int .i64 f.ki)) ⟨w.heap.size + 1, 1, none⟩ (.int .i64 f.fr)) ⟨w.heap.size + 1, 2, none⟩ (.int .i64 f.to)) ⟨w.heap.size + 1, 3, none⟩ (.int .i64 f.li)) ⟨w.heap.size + 1, 4, none⟩ (.int .i64 f.se)) ⟨w.heap.size + 1, 5, none⟩ (.bool f.ou)) ⟨w.heap.size + 1, 6, none⟩ (.int .i64 f.rg.co)) ⟨w.heap.size + 1, 7, none⟩ (.int .i64 f.rg.fo)) ⟨w.heap.size + 1, 8, none⟩ (.int .i64 f.rg.ho)) ⟨w.heap.size + 1, 9, none⟩ (.slice a1 f.rg.ms.length c1)) ⟨w.heap.size + 1, 10, none⟩ (.slice a2 xs.length c2)).heap[w.heap.size + 1]? = some (.cells #[.int .i64 f.ki, .int .i64 f.fr, .int .i64 f.to, .int .i64 f.li, .int .i64 f.se, .bool f.ou, .int .i64 f.rg.co, .int .i64 f.rg.fo, .int .i64 f.rg.ho, .slice a1 f.rg.ms.length c1, .slice a2 xs.length c2] 29 (0, 0)) := setc g9 10 (.slice a2 xs.length c2)
      have hfr : Fr wr (World.setCell (World.setCell (World.setCell (World.setCell (World.setCell (World.setCell (World.setCell (World.setCell (World.setCell (World.setCell (World.setCell wr ⟨w.heap.size + 1, 0, none⟩ (.int .i64 f.ki)) ⟨w.heap.size + 1, 1, none⟩ (.int .i64 f.fr)) ⟨w.heap.size + 1, 2, none⟩ (.int .i64 f.to)) ⟨w.heap.size + 1, 3, none⟩ (.int .i64 f.li)) ⟨w.heap.size + 1, 4, none⟩ (.int .i64 f.se)) ⟨w.heap.size + 1, 5, none⟩ (.bool f.ou)) ⟨w.heap.size + 1, 6, none⟩ (.int .i64 f.rg.co)) ⟨w.heap.size + 1, 7, none⟩ (.int .i64 f.rg.fo)) ⟨w.heap.size + 1, 8, none⟩ (.int .i64 f.rg.ho)) ⟨w.heap.size + 1, 9, none⟩ (.slice a1 f.rg.ms.length c1)) ⟨w.heap.size + 1, 10, none⟩ (.slice a2 xs.length c2)) [w.heap.size + 1] := (((((((((((Fr.setCell _ _ 0 _ (by simp)).trans (Fr.setCell _ _ 1 _ (by simp))).trans (Fr.setCell _ _ 2 _ (by simp))).trans (Fr.setCell _ _ 3 _ (by simp))).trans (Fr.setCell _ _ 4 _ (by simp))).trans (Fr.setCell _ _ 5 _ (by simp))).trans (Fr.setCell _ _ 6 _ (by simp))).trans (Fr.setCell _ _ 7 _ (by simp))).trans (Fr.setCell _ _ 8 _ (by simp))).trans (Fr.setCell _ _ 9 _ (by simp))).trans (Fr.setCell _ _ 10 _ (by simp)))
      have hrow : (World.setCell (World.setCell (World.setCell (World.setCell (World.setCell (World.setCell (World.setCell (World.setCell (World.setCell (World.setCell (World.setCell wr ⟨w.heap.size + 1, 0, none⟩ (.int .i64 f.ki)) ⟨w.heap.size + 1, 1, none⟩ (.int .i64 f.fr)) ⟨w.heap.size + 1, 2, none⟩ (.int .i64 f.to)) ⟨w.heap.size + 1, 3, none⟩ (.int .i64 f.li)) ⟨w.heap.size + 1, 4, none⟩ (.int .i64 f.se)) ⟨w.heap.size + 1, 5, none⟩ (.bool f.ou)) ⟨w.heap.size + 1, 6, none⟩ (.int .i64 f.rg.co)) ⟨w.heap.size + 1, 7, none⟩ (.int .i64 f.rg.fo)) ⟨w.heap.size + 1, 8, none⟩ (.int .i64 f.rg.ho)) ⟨w.heap.size + 1, 9, none⟩ (.slice a1 f.rg.ms.length c1)) ⟨w.heap.size + 1, 10, none⟩ (.slice a2 xs.length c2)).heap[w.heap.size + 1]? = some (.cells #[.int .i64 f.ki, .int .i64 f.fr, .int .i64 f.to, .int .i64 f.li, .int .i64 f.se, .bool f.ou, .int .i64 f.rg.co, .int .i64 f.rg.fo, .int .i64 f.rg.ho, .slice a1 f.rg.ms.length c1, .slice a2 xs.length c2] 29 (0, 0)) := g10
      have hinfo : (Tryd.prog.info? 29).map (·.size) = some 11 := by kernel_rfl
      (try simp only [Exit.inBlock, Exit.then])
      refine bodyPost_ret (results_cell_row rfl _ _ (w.heap.size + 1) _ _ _ _ rfl hrow Tryd.underlying29 rfl hinfo) rfl ?_
      obtain ⟨s1, s2, s3, s4, s5, s6, s7, s8⟩ := HST.out
      refine gives ⟨_, _, ys, rfl, ?_, ⟨?_, ?_⟩, s5, s8.new hfr (by simp)⟩
      · exact row_fr s3 hfr (by intro r hr; obtain rfl := List.mem_singleton.1 hr; exact row_ne s3 s2 (by decide))
      · exact row_fr s4 hfr (by intro r hr; obtain rfl := List.mem_singleton.1 hr; exact row_ne s4 s2 (by decide))
      · intro x hx
        obtain ⟨j, hj⟩ := List.getElem?_of_mem hx
        have hjl := (List.getElem?_eq_some_iff.1 hj).1
        have h := s6 j x (by rw [HKX.out, ← HYL.out]; exact hjl) hj
        exact row_fr h hfr (by intro r hr; obtain rfl := List.mem_singleton.1 hr; exact row_ne h s2 (by decide))
end Go.Proofs.YtpeocdcciecpoaaDoor
