/- Package ledger: a ring's copy. -/
import Derived.Test.YtldheaamcnmlgaaGLb
import Derived.Test.YtldheaamcnmlgaaGLc
namespace Go.Proofs.Ytldheaamcnmlgaa
open Go.RowKit Fm

theorem encs_put (ys : List (En × Value)) (k : Nat) (y : En × Value) : ((((((encs ys).set (k * 5) (.int .i64 y.1.fl)).set (k * 5 + 1) (.int .i64 y.1.di)).set (k * 5 + 2) (.int .i64 y.1.ge)).set (k * 5 + 3) y.2).set (k * 5 + 4) (.int .i64 y.1.aw)) = encs (ys.set k y) := by
  induction ys generalizing k with
  | nil => rfl
  | cons b l ih =>
    have e : ∀ (b : En × Value) (m : List (En × Value)), encs (b :: m) = .int .i64 b.1.fl :: .int .i64 b.1.di :: .int .i64 b.1.ge :: b.2 :: .int .i64 b.1.aw :: encs m := fun b m => by simp [encs, enc1]
    cases k with
    | zero => rw [List.set_cons_zero, e, e]; simp
    | succ k =>
      rw [List.set_cons_succ, e, e, ← ih k, show (k + 1) * 5 = k * 5 + 1 + 1 + 1 + 1 + 1 by omega]
      simp
/-- An entry stored into a row. -/
def put5 (w : World) (b i : Nat) (e : En) (vb : Value) : World := ((((w.setCell ⟨b, i, none⟩ (.int .i64 e.fl)).setCell ⟨b, i + 1, none⟩ (.int .i64 e.di)).setCell ⟨b, i + 2, none⟩ (.int .i64 e.ge)).setCell ⟨b, i + 3, none⟩ vb).setCell ⟨b, i + 4, none⟩ (.int .i64 e.aw)
theorem put5_fr (w : World) (b i : Nat) (e : En) (vb : Value) : Fr w (put5 w b i e vb) [b] :=
  ((((Fr.setCell w b i _ (S := [b]) (by simp)).trans (Fr.setCell _ b (i + 1) _ (S := [b]) (by simp))).trans (Fr.setCell _ b (i + 2) _ (S := [b]) (by simp))).trans (Fr.setCell _ b (i + 3) _ (S := [b]) (by simp))).trans (Fr.setCell _ b (i + 4) _ (S := [b]) (by simp))
theorem row_put5 {w : World} {B b c n : Nat} {ys : List (En × Value)} (h : w.ownsRow B 40 5 (.slice (some ⟨b, 0, none⟩) n c) ys.length (encs ys)) (k : Nat) (e : En) (vb : Value) :
    (put5 w b (k * 5) e vb).ownsRow B 40 5 (.slice (some ⟨b, 0, none⟩) n c) (ys.set k (e, vb)).length (encs (ys.set k (e, vb))) := by
  obtain ⟨cs, hg, hB, hn, hm, hs, ht⟩ := row_at h
  have hnn := row_n h
  refine ⟨by rw [encs_len], .inr ⟨b, c, _, by rw [hnn, List.length_set], hB, heap_setCell_same _ b _ _ _ _ (heap_setCell_same _ b _ _ _ _ (heap_setCell_same _ b _ _ _ _ (heap_setCell_same _ b _ _ _ _ (heap_setCell_same _ b _ _ _ _ hg)))), by rw [List.length_set]; exact hn, hm, by simpa using hs, ?_⟩⟩
  simp only [Array.toList_setIfInBounds, List.length_set]
  rw [List.take_set, List.take_set, List.take_set, List.take_set, List.take_set, ht]
  exact encs_put ys k (e, vb)
/-- A ring while its entries' bids are copied: as far as k. -/
structure RM (w : World) (g : Nat) (co fo ho : Int) (um ve : Value) (ms : List Int) (xs ys : List (En × Value)) (k : Nat) (a : World) : Prop where
  f : Fr w a []
  hg : w.heap.size ≤ g
  row : a.heap[g]? = some (.cells #[.int .i64 co, .int .i64 fo, .int .i64 ho, um, ve] 27 (0, 0))
  oi : OwnI a w.heap.size um ms
  er : a.ownsRow w.heap.size 40 5 ve ys.length (encs ys)
  own : ∀ i x, i < k → ys[i]? = some x → OwnB a w.heap.size x.2 x.1.bs
  rest : ys.drop k = xs.drop k
  fst : ys.map (·.1) = xs.map (·.1)
theorem RM.fr {w : World} {g : Nat} {co fo ho : Int} {um ve : Value} {ms : List Int} {xs ys : List (En × Value)} {k : Nat} {a a' : World} (h : RM w g co fo ho um ve ms xs ys k a) (q : Fr a a' []) : RM w g co fo ho um ve ms xs ys k a' :=
  ⟨h.f.trans q, h.hg, q.heap h.row (by simp), h.oi.keep q, row_keep h.er q, fun i x hi hx => (h.own i x hi hx).keep q, h.rest, h.fst⟩
theorem RM.len {w : World} {g : Nat} {co fo ho : Int} {um ve : Value} {ms : List Int} {xs ys : List (En × Value)} {k : Nat} {a : World} (h : RM w g co fo ho um ve ms xs ys k a) : ys.length = xs.length := by
  have := congrArg List.length h.fst
  simpa using this
theorem RM.at {w : World} {g : Nat} {co fo ho : Int} {um ve : Value} {ms : List Int} {xs ys : List (En × Value)} {k : Nat} {a : World} (h : RM w g co fo ho um ve ms xs ys k a) : ys[k]? = xs[k]? := by
  have := congrArg (fun l => l[0]?) h.rest
  simpa using this
theorem RM.put {w : World} {g b n c : Nat} {co fo ho : Int} {um : Value} {ms : List Int} {xs ys : List (En × Value)} {k : Nat} {a : World} (h : RM w g co fo ho um (.slice (some ⟨b, 0, none⟩) n c) ms xs ys k a) (e : En) (vb vb' : Value) (hk : xs[k]? = some (e, vb)) (ho' : OwnB a w.heap.size vb' e.bs) :
    RM w g co fo ho um (.slice (some ⟨b, 0, none⟩) n c) ms xs (ys.set k (e, vb')) (k + 1) (put5 a b (k * 5) e vb') := by
  obtain ⟨cs, hgr, hB, _⟩ := row_at h.er
  have hne : b ≠ g := by
    rintro rfl
    exact row_ne h.er h.row (by decide) rfl
  have hf := put5_fr a b (k * 5) e vb'
  have hyk : ys[k]? = some (e, vb) := h.at.trans hk
  have hkl : k < ys.length := (List.getElem?_eq_some_iff.1 hyk).1
  have key : ∀ u l, OwnB a w.heap.size u l → OwnB (put5 a b (k * 5) e vb') w.heap.size u l := fun u l hu => row_fr hu hf (by intro r hr; obtain rfl := List.mem_singleton.1 hr; exact row_ne hu hgr (by decide))
  refine ⟨h.f.new hf (by intro r hr; obtain rfl := List.mem_singleton.1 hr; exact hB), h.hg, hf.heap h.row (by simpa using fun e => hne e.symm), h.oi.far hf hgr (by decide), row_put5 h.er k e vb', fun i x hi hx => ?_, ?_, ?_⟩
  · by_cases q : i = k
    · subst q
      rw [List.getElem?_set_self hkl] at hx
      obtain rfl := Option.some.inj hx
      exact key _ _ ho'
    · rw [List.getElem?_set_ne (Ne.symm q)] at hx
      exact key _ _ (h.own i x (by omega) hx)
  · rw [List.drop_set_of_lt (by omega)]
    have := congrArg (List.drop 1) h.rest
    simpa [List.drop_drop, Nat.add_comm] using this
  · rw [← h.fst]
    exact fst_set ys k (e, vb) vb' hyk
theorem RM.all {w : World} {g : Nat} {co fo ho : Int} {um ve : Value} {ms : List Int} {xs ys : List (En × Value)} {k : Nat} {a : World} (h : RM w g co fo ho um ve ms xs ys k a) (hk : xs.length ≤ k) : RB w g co fo ho um ve ms ys a :=
  ⟨h.f, h.hg, h.row, h.oi, h.er, fun x hx => by
    obtain ⟨i, hi⟩ := List.getElem?_of_mem hx
    exact h.own i x (by have := (List.getElem?_eq_some_iff.1 hi).1; have := h.len; omega) hi⟩
theorem RM.cells {w : World} {g b n c : Nat} {co fo ho : Int} {um : Value} {ms : List Int} {xs ys : List (En × Value)} {k : Nat} {a : World} (h : RM w g co fo ho um (.slice (some ⟨b, 0, none⟩) n c) ms xs ys k a) (j : Nat) (hj : j < ys.length) :
    (∃ v, a.cell? ⟨b, j * 5, none⟩ = some v) ∧ (∃ v, a.cell? ⟨b, j * 5 + 1, none⟩ = some v) ∧ (∃ v, a.cell? ⟨b, j * 5 + 2, none⟩ = some v) ∧ (∃ v, a.cell? ⟨b, j * 5 + 3, none⟩ = some v) ∧ (∃ v, a.cell? ⟨b, j * 5 + 4, none⟩ = some v) ∧
    a.frozen? ⟨b, j * 5, none⟩ = false ∧ a.frozen? ⟨b, j * 5 + 1, none⟩ = false ∧ a.frozen? ⟨b, j * 5 + 2, none⟩ = false ∧ a.frozen? ⟨b, j * 5 + 3, none⟩ = false ∧ a.frozen? ⟨b, j * 5 + 4, none⟩ = false := by
  obtain ⟨cs, hgr, _, hnc, hcm, hcs, htk⟩ := row_at h.er
  have hlt : ∀ o, o < 5 → j * 5 + o < cs.size := fun o ho => by
    rw [hcs]
    have := Nat.mul_le_mul_right 5 (show j + 1 ≤ c by omega)
    omega
  have key : ∀ o, o < 5 → ∃ v, a.cell? ⟨b, j * 5 + o, none⟩ = some v := fun o ho => ⟨_, by rw [cell_of_row a b _ _ _ _ hgr]; exact Array.getElem?_eq_getElem (hlt o ho)⟩
  exact ⟨key 0 (by omega), key 1 (by omega), key 2 (by omega), key 3 (by omega), key 4 (by omega), frozen_of_row _ _ _ _ _ hgr, frozen_of_row _ _ _ _ _ hgr, frozen_of_row _ _ _ _ _ hgr, frozen_of_row _ _ _ _ _ hgr, frozen_of_row _ _ _ _ _ hgr⟩
/-- What a round of the copying reads. -/
def SCl (V : World) (g p : Nat) (co fo ho : Int) (um ve : Value) (e : En) (vb : Value) (a : World) : Prop := Fr V a [] ∧ C5 g (.int .i64 co) (.int .i64 fo) (.int .i64 ho) um ve a ∧ C5 p (.int .i64 e.fl) (.int .i64 e.di) (.int .i64 e.ge) vb (.int .i64 e.aw) a
theorem SCl.fr {V : World} {g p : Nat} {co fo ho : Int} {um ve : Value} {e : En} {vb : Value} {a a' : World} (h : SCl V g p co fo ho um ve e vb a) (k : Fr a a' []) : SCl V g p co fo ho um ve e vb a' := ⟨h.1.trans k, h.2.1.fr k (by simp), h.2.2.fr k (by simp)⟩
set_option maxHeartbeats 4000000 in
set_option maxRecDepth 100000 in
theorem clone_any (r : Rg) (vm ve : Value) (w : World) (hm : HInts w vm r.ms) (he : HE w ve r.es) (hml : r.ms.length ≤ 1000) (hel : r.es.length ≤ 1000) (hbl : ∀ e ∈ r.es, e.bs.length ≤ 1000) :
    Calls Try.prog 29 #[rgV r vm ve] w (Gives (CopyR r w)) := by
  obtain ⟨i0, hi0, hz0, hz1, hz2⟩ := info_parts infoE
  obtain ⟨i1, hi1, hy0, hy1, hy2⟩ := info_parts infoI
  obtain ⟨co, fo, ho, ms, es⟩ := r
  dsimp only at hm he hml hel hbl
  obtain ⟨xs, hxs, hx⟩ := he.hx
  have HXS := Lib.hid hxs
  have HXV := Lib.hid hx
  have HMV := Lib.hid hm
  obtain ⟨am, cm, rfl, pm, qm, rm⟩ := hm
  obtain ⟨ae, ce, he2, pe, qe, re, rc, rb⟩ := hx
  subst he2
  unfold maxLen at qm qe
  have HBL : Hid (∀ x ∈ xs, x.1.bs.length ≤ 1000) := Lib.hid (fun x hx => hbl x.1 (by rw [← hxs]; exact List.mem_map_of_mem hx))
  have hnl : xs.length = es.length := by rw [← hxs]; simp
  obtain ⟨n, hn⟩ : ∃ n, n = xs.length := ⟨_, rfl⟩
  have HN := Lib.hid hn
  have hn6 : n ≤ 1000 := by omega
  obtain ⟨m, hmm⟩ : ∃ m, m = ms.length := ⟨_, rfl⟩
  have HM := Lib.hid hmm
  rw [← hn] at pe
  rw [← hmm] at hml pm
  unfold rgV
  dsimp only
  rw [← hn, ← hmm]
  clear rm re rc rb hbl hn hmm hxs he hnl hel
  obtain ⟨g, hg⟩ : ∃ g, g = w.heap.size := ⟨_, rfl⟩
  have HG := Lib.hid hg
  have HTW := Lib.hid (two_boxes w (.cells #[.int .i64 co, .int .i64 fo, .int .i64 ho, .slice am m cm, .slice ae n ce] 27) (.cells #[.int .i64 0, .int .i64 0, .int .i64 0, .slice none 0 0, .slice none 0 0] 27))
  have HF2 := Lib.hid ((Fr.alloc w (.cells #[.int .i64 co, .int .i64 fo, .int .i64 ho, .slice am m cm, .slice ae n ce] 27) []).trans (Fr.alloc _ (.cells #[.int .i64 0, .int .i64 0, .int .i64 0, .slice none 0 0, .slice none 0 0] 27) []))
  go_enter Try.func29, Try.ntmps29
  go_upto_region 1 with fail
  generalize (w.alloc _).alloc _ = V at HTW HF2 ⊢
  rw [← hg] at HTW ⊢
  clear hg
  obtain ⟨v1, w1, hrun1, hown1, hf1, _⟩ := nil_app 24 3 i1 _ 1 8 Try.underlying24 hi1 hy0 hy1 hy2 rfl (by decide) V am m cm (i64s ms) (by rw [i64s_len, HM.out, Nat.mul_one]) (by omega) (by have := (HMV.out.keep HF2.out); rw [← HM.out] at this; exact HInts.src this)
  obtain ⟨pm1, cm1, rfl⟩ := row_shape hown1
  have HE1 := Lib.hid (hf1.heap HTW.out.1 (by simp))
  have HO1 := Lib.hid (row_mono hown1 HF2.out.size)
  have F1 := Lib.hid (HF2.out.trans hf1)
  have HZ1 := Lib.hid (hf1.heap HTW.out.2 (by simp))
  obtain ⟨y0, y1, y2, y3, y4⟩ := row5 HTW.out.1
  obtain ⟨x0, x1, x2, x3, x4⟩ := row5 HE1.out
  obtain ⟨f0, f1, f2, f3, f4⟩ := fz5 HE1.out
  have hfs : Fr w1 (w1.setCell ⟨g, 3, none⟩ (.slice pm1 m cm1)) [g] := Fr.setCell w1 g 3 _ (by simp)
  have HE2 := Lib.hid (set5_3 HE1.out (.slice pm1 m cm1))
  have HO2 := Lib.hid (row_fr HO1.out hfs (by intro r hr; obtain rfl := List.mem_singleton.1 hr; exact row_ne HO1.out HE1.out (by decide)))
  have F2 := Lib.hid (F1.out.new hfs (by intro r hr; obtain rfl := List.mem_singleton.1 hr; exact Nat.le_of_eq HG.out.symm))
  have HZ2 := Lib.hid (hfs.heap HZ1.out (by simp))
  clear hown1 hf1 hfs
  go_upto_region 2 with (at_builtin; refine Lib.wpList_append_run _ rfl _ _ _ _ rfl _ _ rfl rfl _ _ (hrun1 _) ?_)
  clear y0 y1 y2 y3 y4 x0 x1 x2 x3 x4 f0 f1 f2 f3 f4 hrun1 HE1 HO1 F1 HZ1 HTW HF2
  generalize World.setCell w1 _ _ = w2 at HE2 HO2 F2 HZ2 ⊢
  have hxk := HXV.out.keep F2.out
  obtain ⟨v2, w3, hrun2, hown2, hf2, _⟩ := nil_app 25 40 i0 _ 5 56 Try.underlying25 hi0 hz0 hz1 hz2 rfl (by decide) w2 ae n ce (encs xs) (by rw [encs_len, HN.out]) (by omega) (fun h0 => by
    obtain ⟨a', c', e, k1, k2, k3, k4, k5⟩ := hxk
    simp only [Value.slice.injEq] at e
    obtain ⟨rfl, _, rfl⟩ := e
    cases ae with
    | none => have := k3 rfl; have hn := HN.out; rw [this] at hn; simp at hn; omega
    | some ad => exact ⟨ad, rfl, k4 ad rfl⟩)
  obtain ⟨pe1, ce1, rfl⟩ := row_shape hown2
  have HE3 := Lib.hid (hf2.heap HE2.out (by simp))
  have HO3 := Lib.hid (row_mono hown2 F2.out.size)
  have HOI3 := Lib.hid (row_keep HO2.out hf2)
  have F3 := Lib.hid (F2.out.trans hf2)
  have HZ3 := Lib.hid (hf2.heap HZ2.out (by simp))
  obtain ⟨y0, y1, y2, y3, y4⟩ := row5 HE2.out
  obtain ⟨x0, x1, x2, x3, x4⟩ := row5 HE3.out
  obtain ⟨f0, f1, f2, f3, f4⟩ := fz5 HE3.out
  have hfs : Fr w3 (w3.setCell ⟨g, 4, none⟩ (.slice pe1 n ce1)) [g] := Fr.setCell w3 g 4 _ (by simp)
  have HRM : Hid (RM w g co fo ho (.slice pm1 m cm1) (.slice pe1 n ce1) ms xs xs 0 (w3.setCell ⟨g, 4, none⟩ (.slice pe1 n ce1))) := Lib.hid ⟨F3.out.new hfs (by intro r hr; obtain rfl := List.mem_singleton.1 hr; exact Nat.le_of_eq HG.out.symm), Nat.le_of_eq HG.out.symm, set5_4 HE3.out _,
    by have := row_fr HOI3.out hfs (by intro r hr; obtain rfl := List.mem_singleton.1 hr; exact row_ne HOI3.out HE3.out (by decide)); rw [HM.out] at this ⊢; exact this,
    by have := row_fr HO3.out hfs (by intro r hr; obtain rfl := List.mem_singleton.1 hr; exact row_ne HO3.out HE3.out (by decide)); rw [HN.out] at this ⊢; exact this, fun i x hi => absurd hi (Nat.not_lt_zero _), rfl, rfl⟩
  have HZ4 := Lib.hid (hfs.heap HZ3.out (by simp))
  clear hown2 hf2 hfs hxk
  go_upto_region 3 with (at_builtin; refine Lib.wpList_append_run _ rfl _ _ _ _ rfl _ _ rfl rfl _ _ (hrun2 _) ?_)
  clear y0 y1 y2 y3 y4 x0 x1 x2 x3 x4 f0 f1 f2 f3 f4 hrun2 HE2 HO2 HE3 HO3 HOI3 F2 F3 HZ2 HZ3
  generalize World.setCell w3 _ _ = w4 at HRM HZ4 ⊢
  have HCE := Lib.hid (fun (e : En) (vb : Value) W (hW : Fr w W []) (h : HB w vb e.bs) (hl : e.bs.length ≤ 1000) => cloneE_any e vb W (h.keep hW) hl)
  obtain ⟨y0, y1, y2, y3, y4⟩ := row5 HRM.out.row
  go_wp2_with fail
  go_loopw [16] (fun s16 wx => ∃ (k : Nat) (ys : List (En × Value)), s16 = .int .i64 k ∧ Hid (k ≤ n) ∧ Hid (RM w g co fo ho (.slice pm1 m cm1) (.slice pe1 n ce1) ms xs ys k wx) ∧ Hid (wx.heap[g + 1]? = some (.cells #[.int .i64 0, .int .i64 0, .int .i64 0, .slice none 0 0, .slice none 0 0] 27 (0, 0)))) (fun s16 _ => n - (intOf s16).toNat)
  case atStart => exact ⟨0, xs, rfl, Lib.hid (Nat.zero_le _), HRM, HZ4⟩
  case round =>
    clear HRM HZ4 y0 y1 y2 y3 y4
    obtain ⟨k, ys, rfl, HK, HRM, HZ⟩ := hrel
    have hk := HK.out
    by_cases hlt : k < n
    · have hkx : k < xs.length := by have := HN.out; omega
      obtain ⟨⟨e, vb⟩, hxk⟩ : ∃ x, xs[k]? = some x := ⟨_, List.getElem?_eq_getElem hkx⟩
      have HXK := Lib.hid hxk
      have hyk : ys[k]? = some (e, vb) := HRM.out.at.trans hxk
      have hbv : HB w vb e.bs := HXV.out.bids (e, vb) (List.mem_of_getElem? hxk)
      have CE := Lib.hid (fun W hW => HCE.out e vb W hW hbv (HBL.out (e, vb) (List.mem_of_getElem? hxk)))
      obtain ⟨a3, c3, rfl⟩ := hbv.shape
      obtain ⟨b, ce2, hve, _, _, _⟩ := row_head HRM.out.er (by have := HRM.out.len; omega)
      simp only [Value.slice.injEq] at hve
      obtain ⟨rfl, hq, rfl⟩ := hve
      clear hq
      obtain ⟨cs, hgr, _, hnc, hcm, hcs, htk⟩ := row_at HRM.out.er
      have hyl : k < ys.length := (List.getElem?_eq_some_iff.1 hyk).1
      have key : ∀ j u, (encs ys)[j]? = some u → wr.cell? ⟨b, j, none⟩ = some u := fun j u hj => by
        rw [← htk] at hj
        have hlt : j < ys.length * 5 := by
          have := (List.getElem?_eq_some_iff.1 hj).1
          simp at this; omega
        rw [List.getElem?_take_of_lt hlt] at hj
        rw [cell_of_row wr b j _ _ _ hgr]
        simpa using hj
      obtain ⟨g0, g1, g2, g3, g4⟩ := encs_get ys k _ hyk
      have t0 := key _ _ g0
      have t1 := key _ _ g1
      have t2 := key _ _ g2
      have t3 := key _ _ g3
      have t4 := key _ _ g4
      obtain ⟨p, hp⟩ : ∃ p, p = wr.heap.size := ⟨_, rfl⟩
      have hbg : b < p := by rw [hp]; exact size_of_row hgr
      have hgp : g < p := by rw [hp]; exact size_of_row HRM.out.row
      obtain ⟨fl, di, ge, bs, aw⟩ := e
      dsimp only at t0 t1 t2 t3 t4 CE hbv
      have FB := Lib.hid ((Fr.alloc wr (.cells #[.int .i64 fl, .int .i64 di, .int .i64 ge, .slice a3 bs.length c3, .int .i64 aw] 40) []).trans (Fr.drew _ []))
      have HPB : Hid (C5 p (.int .i64 fl) (.int .i64 di) (.int .i64 ge) (.slice a3 bs.length c3) (.int .i64 aw) ((wr.alloc (.cells #[.int .i64 fl, .int .i64 di, .int .i64 ge, .slice a3 bs.length c3, .int .i64 aw] 40)).drew)) := Lib.hid (by rw [hp]; exact row5 (heap_alloc_new wr _))
      have HRB0 := Lib.hid (HRM.out.fr FB.out)
      have HZB0 := Lib.hid (FB.out.heap HZ.out (by simp))
      have HS0 : Hid (SCl w g p co fo ho (.slice pm1 m cm1) (.slice (some ⟨b, 0, none⟩) n ce1) ⟨fl, di, ge, bs, aw⟩ (.slice a3 bs.length c3) _) := Lib.hid ⟨HRB0.out.f, row5 HRB0.out.row, HPB.out⟩
      unfold enV at CE
      dsimp only at CE
      clear hgr htk hcs key g0 g1 g2 g3 g4 hyk hbv HPB
      go_wp2_with fail
      clear t0 t1 t2 t3 t4
      rw [← hp]
      have HP := Lib.hid hp
      clear hp
      refine wp_region_noPanic ?_
      refine wp_region_held_drew (S := (SCl w g p co fo ho (.slice pm1 m cm1) (.slice (some ⟨b, 0, none⟩) n ce1) ⟨fl, di, ge, bs, aw⟩ (.slice a3 bs.length c3))) (by kernel_rfl) HS0.out (fun hHeld => ?_)
      refine wpAnyH_take (i := 0) (oi := _) (v := ?fv0h1n2) (by simp only [List.getElem?_toArray, List.getElem?_cons_zero]; rfl) (by kernel_rfl) (by kernel_rfl) (by kernel_rfl) (fun _ _ _ h => h) (Or.inl ⟨by rfl, ?fy0h1n2⟩) (by assumption) ?fr0h1n2
      case fy0h1n2 => (intro w hSw; (try dsimp only [SCl, C5] at hSw); go_simp; try with_reducible rfl)
      try simp only [Act.put, List.setIfInBounds_toArray, List.set_cons_zero, List.set_cons_succ]
      refine wpAnyH_take (i := 1) (oi := _) (v := ?fv1h1n2) (by simp only [List.getElem?_toArray, List.getElem?_cons_zero, List.getElem?_cons_succ]; rfl) (by kernel_rfl) (by kernel_rfl) (by kernel_rfl) (fun _ _ _ h => h) (Or.inl ⟨by rfl, ?fy1h1n2⟩) (by assumption) ?fr1h1n2
      case fy1h1n2 => (intro w hSw; (try dsimp only [SCl, C5] at hSw); go_simp; try with_reducible rfl)
      try simp only [Act.put, List.setIfInBounds_toArray, List.set_cons_zero, List.set_cons_succ]
      refine wpAnyH_take (i := 2) (oi := _) (v := ?fv2h1n2) (by simp only [List.getElem?_toArray, List.getElem?_cons_zero, List.getElem?_cons_succ]; rfl) (by kernel_rfl) (by kernel_rfl) (by kernel_rfl) (fun _ _ _ h => h) (Or.inl ⟨by rfl, ?fy2h1n2⟩) (by assumption) ?fr2h1n2
      case fy2h1n2 => (intro w hSw; (try dsimp only [SCl, C5] at hSw); go_simp; try with_reducible rfl)
      try simp only [Act.put, List.setIfInBounds_toArray, List.set_cons_zero, List.set_cons_succ]
      refine wpAnyH_take (i := 3) (oi := _) (v := ?fv3h1n2) (by simp only [List.getElem?_toArray, List.getElem?_cons_zero, List.getElem?_cons_succ]; rfl) (by kernel_rfl) (by kernel_rfl) (by kernel_rfl) (fun _ _ _ h => h) (Or.inl ⟨by rfl, ?fy3h1n2⟩) (by assumption) ?fr3h1n2
      case fy3h1n2 => (intro w hSw; (try dsimp only [SCl, C5] at hSw); go_simp; try with_reducible rfl)
      try simp only [Act.put, List.setIfInBounds_toArray, List.set_cons_zero, List.set_cons_succ]
      generalize World.drew (World.alloc wr _) = W0 at FB HRB0 HZB0 HS0 hHeld ⊢
      refine wpAnyH_ready (rs := [4]) (by kernel_rfl) (by simp) ?_
      refine AllReadyH.cons (o := _) rfl (fun K hK => ?_) AllReadyH.nil
      go_simp
      ((with_reducible refine (CE.out _ HRB0.out.f).mono ?_); rintro e W1 ⟨uu, rfl, ⟨vb2, rfl, ho1, hf⟩⟩; obtain ⟨a4, c4, rfl⟩ := ho1.shape; have HRB1 := Lib.hid (HRB0.out.fr hf); have HZB1 := Lib.hid (hf.heap HZB0.out (by simp)); have HO1 := Lib.hid (OwnB.mono ho1 HRB0.out.f.size); have hS2 := hHeld.fr hf; unfold enV; dsimp only; clear ho1 hf)
      go_wp2_with fail
      refine hK.out _ _ hS2 (fun hHeld => ?_)
      clear hK K
      try simp only [Act.put, List.setIfInBounds_toArray, List.set_cons_zero, List.set_cons_succ]
      clear HRB0 HZB0 HS0 hS2
      refine wpAnyH_take (i := 5) (oi := _) (v := ?fv5h1n3) (by simp only [List.getElem?_toArray, List.getElem?_cons_zero, List.getElem?_cons_succ]; rfl) (by kernel_rfl) (by kernel_rfl) (by kernel_rfl) (fun _ _ _ h => h) (Or.inl ⟨by rfl, ?fy5h1n3⟩) (by assumption) ?fr5h1n3
      case fy5h1n3 => (intro w hSw; (try dsimp only [SCl, C5] at hSw); go_simp; try with_reducible rfl)
      try simp only [Act.put, List.setIfInBounds_toArray, List.set_cons_zero, List.set_cons_succ]
      obtain ⟨⟨v0, t0⟩, ⟨v1, t1⟩, ⟨v2, t2⟩, ⟨v3, t3⟩, ⟨v4, t4⟩, f0, f1, f2, f3, f4⟩ := HRB1.out.cells k (by have := HRB1.out.len; omega)
      have HRN := Lib.hid (HRB1.out.put ⟨fl, di, ge, bs, aw⟩ (.slice a3 bs.length c3) (.slice a4 bs.length c4) HXK.out HO1.out)
      have hf5 := put5_fr W1 b (k * 5) ⟨fl, di, ge, bs, aw⟩ (.slice a4 bs.length c4)
      have hbne : b ≠ g := by
        rintro rfl
        exact row_ne HRB1.out.er HRB1.out.row (by decide) rfl
      have hS3 : SCl w g p co fo ho (.slice pm1 m cm1) (.slice (some ⟨b, 0, none⟩) n ce1) ⟨fl, di, ge, bs, aw⟩ (.slice a3 bs.length c3) (put5 W1 b (k * 5) ⟨fl, di, ge, bs, aw⟩ (.slice a4 bs.length c4)) := ⟨HRN.out.f, hHeld.2.1.fr hf5 (by simpa using fun e => hbne e.symm), hHeld.2.2.fr hf5 (by intro hm; have := List.mem_singleton.1 hm; omega)⟩
      have HZN := Lib.hid (hf5.heap HZB1.out (by
        have := row_ne HRB1.out.er HZB1.out (by decide)
        intro hm
        exact this (by rw [List.mem_singleton.1 hm]; rfl)))
      clear hf5 hbne
      unfold put5 at hS3 HRN HZN
      dsimp only at hS3 HRN HZN
      refine wpAnyH_ready (rs := [6]) (by kernel_rfl) (by simp) ?_
      refine AllReadyH.cons (o := _) rfl (fun K hK => ?_) AllReadyH.nil
      go_simp
      refine hK.out _ _ hS3 (fun hHeld => ?_)
      clear hK K
      try simp only [Act.put, List.setIfInBounds_toArray, List.set_cons_zero, List.set_cons_succ]
      clear t0 t1 t2 t3 t4 f0 f1 f2 f3 f4 hS3 hHeld HRB1 HZB1 HO1
      generalize World.setCell (World.setCell (World.setCell (World.setCell (World.setCell W1 _ _) _ _) _ _) _ _) _ _ = W5 at HRN HZN ⊢
      refine wpAnyH_done (by kernel_rfl) ?_ _
      refine NoPanic.normal ?_
      clear CE FB HXK
      go_wp2_with fail
      go_roundw
      case rel => exact ⟨k + 1, _, by go_num, Lib.hid (by omega), HRN, HZN⟩
      case measure => simp [intOf]; omega
    · obtain rfl : k = n := by omega
      have HRB := Lib.hid (HRM.out.all (Nat.le_of_eq HN.out.symm))
      have HXE : Hid (ys.map (·.1) = es) := Lib.hid (by rw [HRM.out.fst]; exact HXS.out)
      have hyl : ys.length = k := by rw [HRM.out.len]; exact HN.out.symm
      obtain ⟨q0, q1, q2, q3, q4⟩ := row5 HRM.out.row
      obtain ⟨z0, z1, z2, z3, z4⟩ := row5 HZ.out
      obtain ⟨f0, f1, f2, f3, f4⟩ := fz5 HZ.out
      obtain ⟨e0, e1, e2, e3, e4⟩ := row5 (set5 HZ.out (.int .i64 co) (.int .i64 fo) (.int .i64 ho) (.slice pm1 m cm1) (.slice pe1 k ce1))
      have hF := set5_fr wr (g + 1) (.int .i64 co) (.int .i64 fo) (.int .i64 ho) (.slice pm1 m cm1) (.slice pe1 k ce1)
      have HEND := Lib.hid (show OwnI _ w.heap.size (.slice pm1 m cm1) ms ∧ OwnE _ w.heap.size (.slice pe1 k ce1) ys ∧ Fr w _ [] from ⟨HRB.out.oi.far hF HZ.out (by decide), HRB.out.oe.fr hF (by intro r hr; obtain rfl := List.mem_singleton.1 hr; exact ⟨_, _, HZ.out, by decide, by decide⟩), HRB.out.f.new hF (by intro r hr; obtain rfl := List.mem_singleton.1 hr; have := HG.out; omega)⟩)
      clear hF HRB HRM HZ hyl hlt
      go_wp2
      generalize World.setCell (World.setCell (World.setCell (World.setCell (World.setCell wr _ _) _ _) _ _) _ _) _ _ = W at e0 e1 e2 e3 e4 HEND ⊢
      exact bodyPost_ret (v := .agg #[.int .i64 co, .int .i64 fo, .int .i64 ho, .slice pm1 m cm1, .slice pe1 k ce1]) (by simp [results, Try.results29, go_sem, e0, e1, e2, e3, e4]) rfl (gives ⟨_, _, ys, rfl, HEND.out.1, HEND.out.2.1, HXE.out, HEND.out.2.2⟩)
end Go.Proofs.Ytldheaamcnmlgaa
