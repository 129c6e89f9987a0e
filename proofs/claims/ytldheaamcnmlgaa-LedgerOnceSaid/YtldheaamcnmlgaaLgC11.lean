/- slices.Insert of one entry, on a row of the call's own. -/
import Derived.Test.YtldheaamcnmlgaaGLg
import Derived.Lib.Overlaps
import Derived.Lib.AppendZerosOnto
import Derived.Laws.CopyOwn
import Derived.Deep.RegionLaw
namespace Go.Proofs.Ytldheaamcnmlgaa
open Go.RowKit Fm

/-- A row of entries of the call's own, whatever their bids. -/
def RowE (w : World) (B : Nat) (v : Value) (xs : List (En × Value)) : Prop := w.ownsRow B 40 5 v xs.length (encs xs)
theorem RowE.shape {w : World} {B : Nat} {v : Value} {L : List (En × Value)} (h : RowE w B v L) : ∃ a c, v = .slice a L.length c := row_shape h
theorem RowE.some_of {w : World} {B : Nat} {a : Option Addr} {c : Nat} {L : List (En × Value)} (h : RowE w B (.slice a L.length c) L) (h0 : 0 < L.length) : ∃ g, a = some ⟨g, 0, none⟩ ∧ L.length ≤ c ∧ c ≤ maxLen := by
  obtain ⟨g, c', he, h1, h2, _⟩ := row_head h h0
  simp only [Value.slice.injEq] at he
  obtain ⟨rfl, _, rfl⟩ := he
  exact ⟨g, rfl, h1, h2⟩
theorem encs_cons5 (x : En × Value) (l : List (En × Value)) : encs (x :: l) = .int .i64 x.1.fl :: .int .i64 x.1.di :: .int .i64 x.1.ge :: x.2 :: .int .i64 x.1.aw :: encs l := by simp [encs, enc1]
theorem encs_snoc (l : List (En × Value)) (x : En × Value) : encs (l ++ [x]) = encs l ++ enc1 x := by simp [encs]
theorem encs_takeA (L : List (En × Value)) (i : Nat) : encs (L.take i) = (encs L).take (i * 5) := by
  induction L generalizing i with
  | nil => simp [encs]
  | cons x L ih =>
    cases i with
    | zero => simp [encs]
    | succ i => rw [List.take_succ_cons, encs_cons5, encs_cons5, ih, show (i + 1) * 5 = i * 5 + 1 + 1 + 1 + 1 + 1 by omega]; rfl
theorem encs_dropA (L : List (En × Value)) (i : Nat) : encs (L.drop i) = (encs L).drop (i * 5) := by
  induction L generalizing i with
  | nil => simp [encs]
  | cons x L ih =>
    cases i with
    | zero => simp
    | succ i => rw [List.drop_succ_cons, encs_cons5, ih, show (i + 1) * 5 = i * 5 + 1 + 1 + 1 + 1 + 1 by omega]; rfl
theorem enc1_one (x : En × Value) (h : x.2.oneCell' = true) : ∀ u ∈ enc1 x, u.oneCell' = true := by
  intro u hu
  simp only [enc1, List.mem_cons, List.not_mem_nil, or_false] at hu
  rcases hu with rfl | rfl | rfl | rfl | rfl <;> first | rfl | exact h
/-- The row of an entry. -/
def enRow (x : En × Value) : Obj := .cells #[.int .i64 x.1.fl, .int .i64 x.1.di, .int .i64 x.1.ge, x.2, .int .i64 x.1.aw] 40 (0, 0)
theorem enRow_cells {x : En × Value} {w : World} {vb : Nat} (h : w.heap[vb]? = some (enRow x)) : ∀ j u, (enc1 x)[j]? = some u → w.cell? (Addr.add ⟨vb, 0, none⟩ j) = some u := by
  intro j u hu
  rw [Addr.add_lit, Nat.zero_add, cell_of_row _ _ _ _ _ _ h]
  simpa [enc1] using hu
theorem setRow_fr (w : World) (g : Nat) (cs : Array Value) : Fr w (w.setRow g cs) [g] :=
  ⟨rfl, rfl, rfl, by simp [World.setRow], fun k _ hn => setRow_other w g k cs (fun e => hn (by simp [e]))⟩
/-- 'copy' between slices of latches, whose target lies in a row that is known. -/
theorem run_copy5 (w : World) (ty : TypeId) (g o dLen dCap : Nat) (a : Addr) (sLen sCap n : Nat) (cur : List Value) (cs : List Value)
    (hg : w.heap[g]? = some (.cells cur.toArray 40 (0, 0))) (hn : n = Nat.min sLen dLen) (hl : cs.length = n * 5)
    (hsrc : ∀ j v, cs[j]? = some v → w.cell? (a.add j) = some v) (hfit : o + cs.length ≤ cur.length) (h1 : ∀ v ∈ cs, v.oneCell' = true) :
    (Builtin.copy_ #[25, 25] ty #[.slice (some ⟨g, o, none⟩) dLen dCap, .slice (some a) sLen sCap]).run Try.prog w =
      .ok (goInt n) (w.setRow g (splice cur o cs).toArray) := by
  have hst := run_storeCells_at Try.prog g o 40 cs 0 cur.toArray w hg (by simpa using hfit) h1
  have hld := run_firstCells_some (P := Try.prog) w 5 n a sLen sCap cs hl hsrc
  obtain ⟨i0, hi, _, hz1, _⟩ := info_parts infoE
  subst hn
  have e : (cur.toArray.toList.take (o + 0) ++ cs ++ cur.toArray.toList.drop (o + 0 + cs.length)) = splice cur o cs := by simp [splice]
  rw [e] at hst
  simp only [Builtin.copy_]
  simp [run_underlying Try.underlying25, Builtin.lenOf, sizeOf, typeInfo, hi, hz1, hld, hst]
section
variable {w : World} {ops : Array Oper} {rest : List Oper} {o : Oper} {a : Act} {Q : Exit → Act → World → Prop}
theorem wpList_copyR {P : Program} (hgd : o.guard = none) (d s : Operand) (t t' : TypeId) (ho : o.op = .call { callee := .builtin .copy, args := #[d, s], argTypes := #[t, t'] }) (v u : Value) (hd : a.eval d = v) (hs : a.eval s = u)
    {v' : Value} {w' : World} (hr : (Builtin.copy_ #[t, t'] o.type #[v, u]).run P w = .ok v' w') (h : wpList P ops Q rest (a.put o.dst v') w') : wpList P ops Q (o :: rest) a w := by
  refine wpList_plain hgd fun K hK => ?_
  unfold Oper.wp
  simp [execOp, ho, resolve, invoke, builtin, hd, hs, hr, Result.andThen]
  exact hK _ _ h
theorem wpList_copy5 (hgd : o.guard = none) (d s : Operand) (ho : o.op = .call { callee := .builtin .copy, args := #[d, s], argTypes := #[25, 25] })
    (dp sp : Option Addr) (dLen dCap sLen sCap : Nat) (hd : a.eval d = .slice dp dLen dCap) (hs : a.eval s = .slice sp sLen sCap)
    (g off : Nat) (ad : Addr) (hdp : dp = some ⟨g, off, none⟩) (hsp : sp = some ad) (n : Nat) (hn : n = Nat.min sLen dLen) (cur : List Value) (hg : w.heap[g]? = some (.cells cur.toArray 40 (0, 0)))
    (cs : List Value) (hl : cs.length = n * 5) (hsrc : ∀ j v, cs[j]? = some v → w.cell? (ad.add j) = some v) (hfit : off + cs.length ≤ cur.length) (h1 : ∀ v ∈ cs, v.oneCell' = true)
    (h : ∀ w', Hid (w'.heap[g]? = some (.cells (splice cur off cs).toArray 40 (0, 0))) → Hid (Fr w w' [g]) → wpList Try.prog ops Q rest (a.put o.dst (goInt n)) w') : wpList Try.prog ops Q (o :: rest) a w := by
  subst hdp hsp
  exact wpList_copyR hgd d s _ _ ho _ _ hd hs (run_copy5 w o.type g off dLen dCap ad sLen sCap n cur cs hg hn hl hsrc hfit h1) (h _ (setRow_heap w g _ _ _ _ hg) (setRow_fr w g _))
theorem step_copy5 {K : Act → World → Prop} {E : Prop} (hgd : o.guard = none) (d s : Operand) (ho : o.op = .call { callee := .builtin .copy, args := #[d, s], argTypes := #[25, 25] })
    (dp sp : Option Addr) (dLen dCap sLen sCap : Nat) (hd : a.eval d = .slice dp dLen dCap) (hs : a.eval s = .slice sp sLen sCap)
    (g off : Nat) (ad : Addr) (hdp : dp = some ⟨g, off, none⟩) (hsp : sp = some ad) (n : Nat) (hn : n = Nat.min sLen dLen) (cur : List Value) (hg : w.heap[g]? = some (.cells cur.toArray 40 (0, 0)))
    (cs : List Value) (hl : cs.length = n * 5) (hsrc : ∀ j v, cs[j]? = some v → w.cell? (ad.add j) = some v) (hfit : off + cs.length ≤ cur.length) (h1 : ∀ v ∈ cs, v.oneCell' = true)
    (h : ∀ w', Hid (w'.heap[g]? = some (.cells (splice cur off cs).toArray 40 (0, 0))) → Hid (Fr w w' [g]) → K (a.put o.dst (goInt n)) w') :
    if Region.wanted o (yielded ops a.tmps) = true then Oper.wp Try.prog o a w K Q else E := by
  subst hdp hsp
  have hr := run_copy5 w o.type g off dLen dCap ad sLen sCap n cur cs hg hn hl hsrc hfit h1
  have hw : Region.wanted o (yielded ops a.tmps) = true := by simp [Region.wanted, hgd]
  rw [if_pos hw]
  unfold Oper.wp
  simp [execOp, ho, resolve, invoke, builtin, hd, hs, hr, Result.andThen]
  exact h _ (setRow_heap w g _ _ _ _ hg) (setRow_fr w g _)
end
/-- What Insert hands back: the latches in order, in the row itself or in a new one. -/
def InsE (w : World) (B : Nat) (v : Value) (L' : List (En × Value)) (u : Value) (w' : World) : Prop :=
  RowE w' B u L' ∧ Fr w w' v.ownBlock.toList ∧ ∃ g c, u = .slice (some ⟨g, 0, none⟩) L'.length c ∧ (v.ownBlock = some g ∨ w.heap.size ≤ g)
set_option maxRecDepth 100000 in
/-- Insert at the end. -/
theorem eins_end (B : Nat) (v : Value) (L : List (En × Value)) (x : En × Value) (vb : Nat) (w : World) (h : RowE w B v L) (hB : B ≤ w.heap.size) (_h1 : ∀ y ∈ L, y.2.oneCell' = true) (hx1 : x.2.oneCell' = true) (hl : L.length ≤ 1000000) (hx : w.heap[vb]? = some (enRow x)) :
    Calls Try.prog 35 #[v, .int .i64 L.length, .slice (some ⟨vb, 0, none⟩) 1 1] w (Gives (InsE w B v (L ++ [x]))) := by
  obtain ⟨i0, hi, hz0, hz1, hz2⟩ := info_parts infoE
  have HO := Lib.hid (show w.ownsRow B 40 5 v L.length (encs L) from h)
  obtain ⟨n, hn⟩ : ∃ n, n = L.length := ⟨_, rfl⟩
  have HN := Lib.hid hn
  obtain ⟨a, c, rfl⟩ := h.shape
  have hc : L.length ≤ c ∧ c ≤ maxLen := by
    rcases h.2 with ⟨h1, _⟩ | ⟨g, cap, cur, h1, _, _, h2, h3, _⟩
    · simp only [Value.slice.injEq] at h1
      obtain ⟨_, h1, rfl⟩ := h1
      rw [h1]; exact ⟨Nat.le_refl _, by decide⟩
    · simp only [Value.slice.injEq] at h1
      obtain ⟨_, _, rfl⟩ := h1
      exact ⟨h2, h3⟩
  obtain ⟨hc1, hc2⟩ := hc
  unfold maxLen at hc2
  have HC := Lib.hid (enRow_cells hx)
  have HB := Lib.hid hB
  obtain ⟨H, hH⟩ : ∃ H, w.heap.size = H := ⟨_, rfl⟩
  have HH := Lib.hid hH
  rw [← hn] at HO hl hc1 ⊢
  clear h hx hn hB hH
  by_cases hcn : n = c
  · subst hcn
    go_enter Try.func35, Try.ntmps35
    go_wp2_with (at_builtin; refine wpList_append_lies _ rfl _ _ 25 rfl B 40 i0 (.agg #[.int .i64 0, .int .i64 0, .int .i64 0, .slice none 0 0, .int .i64 0]) 5 56 Try.underlying25 hi hz0 hz1 hz2 rfl (by decide) (.slice a n n) n (encs L) rfl HO.out ⟨vb, 0, none⟩ 1 1 (enc1 x) rfl rfl HC.out (enc1_one x hx1) (by decide) (by unfold maxLen; omega) (by omega) HB.out H HH.out ?_; intro g cap w' hown hg hgH _)
    have HW := Lib.hid hown
    have HG := Lib.hid hg
    have HE := Lib.hid hgH
    clear hown hg hgH
    go_ret
    refine gives ⟨?_, ?_, g, cap, by simp [← HN.out], HE.out.imp id (fun e => by rw [e, HH.out]; exact Nat.le_refl _)⟩
    · unfold RowE
      rw [encs_snoc, List.length_append, ← HN.out]
      exact HW.out
    · exact ⟨HG.out.os, HG.out.tape, HG.out.output, HG.out.size, fun k hk hn => HG.out.block k hk (fun e => hn (by rw [← e]; simp))⟩
  · clear hc1
    go_enter Try.func35, Try.ntmps35
    go_wp2_with (at_builtin; refine wpList_append_lies _ rfl _ _ 25 rfl B 40 i0 (.agg #[.int .i64 0, .int .i64 0, .int .i64 0, .slice none 0 0, .int .i64 0]) 5 56 Try.underlying25 hi hz0 hz1 hz2 rfl (by decide) (.slice a n c) n (encs L) rfl HO.out ⟨vb, 0, none⟩ 1 1 (enc1 x) rfl rfl HC.out (enc1_one x hx1) (by decide) (by unfold maxLen; omega) (by omega) HB.out H HH.out ?_; intro g cap w' hown hg hgH _)
    have HW := Lib.hid hown
    have HG := Lib.hid hg
    have HE := Lib.hid hgH
    clear hown hg hgH
    go_ret
    refine gives ⟨?_, ?_, g, cap, by simp [← HN.out], HE.out.imp id (fun e => by rw [e, HH.out]; exact Nat.le_refl _)⟩
    · unfold RowE
      rw [encs_snoc, List.length_append, ← HN.out]
      exact HW.out
    · exact ⟨HG.out.os, HG.out.tape, HG.out.output, HG.out.size, fun k hk hn => HG.out.block k hk (fun e => hn (by rw [← e]; simp))⟩
theorem spl_room5 {α : Type} {cs X D : List α} {p q : Nat} (hX : X.length = 5) (hq : q = p + 5) (hl : q + D.length ≤ cs.length) : (splice (splice cs q D) p X).take (q + D.length) = cs.take p ++ (X ++ D) := by
  have e1 : (splice cs q D).take p = cs.take p := by
    unfold splice
    rw [List.take_append_of_le_length (by simp; omega), List.take_take, Nat.min_eq_left (by omega)]
  have e2 : (splice cs q D).drop (p + X.length) = D ++ cs.drop (q + D.length) := by
    unfold splice
    rw [hX, ← hq, List.drop_left' (by simp; omega)]
  have e : splice (splice cs q D) p X = (cs.take p ++ (X ++ D)) ++ cs.drop (q + D.length) := by
    show List.take p _ ++ (X ++ List.drop (p + X.length) _) = _
    rw [e1, e2]; simp
  rw [e]
  exact List.take_left' (by simp; omega)
theorem spl_grow5 {α : Type} {cs X D : List α} {p q : Nat} (hX : X.length = 5) (hq : q = p + 5) (hl : q + D.length ≤ cs.length) : (splice (splice cs p X) q D).take (q + D.length) = cs.take p ++ (X ++ D) := by
  have e1 : (splice cs p X).take q = cs.take p ++ X := by
    unfold splice
    rw [← List.append_assoc]
    exact List.take_left' (by simp; omega)
  have e : splice (splice cs p X) q D = (cs.take p ++ (X ++ D)) ++ (splice cs p X).drop (q + D.length) := by
    show List.take q _ ++ (D ++ _) = _
    rw [e1]; simp
  rw [e]
  exact List.take_left' (by simp; omega)
theorem rowE_of {w : World} {B g c : Nat} {L' : List (En × Value)} {R : List Value} (hB : B ≤ g) (hg : w.heap[g]? = some (.cells R.toArray 40 (0, 0))) (hn : L'.length ≤ c) (hm : c ≤ maxLen) (hs : R.length = c * 5) (ht : R.take (L'.length * 5) = encs L') : RowE w B (.slice (some ⟨g, 0, none⟩) L'.length c) L' :=
  ⟨by rw [encs_len], .inr ⟨g, c, R.toArray, rfl, hB, hg, hn, hm, by simpa using hs, by simpa using ht⟩⟩
theorem overlaps_no5 (w : World) (x : En × Value) (vb g o : Nat) (cs : Array Value) (lb cb : Nat) (hne : vb ≠ g) (hx : w.heap[vb]? = some (enRow x)) (hg : w.heap[g]? = some (.cells cs 40 (0, 0))) (h0 : cs.size ≠ 0) :
    (callFunc 57 #[.slice (some ⟨vb, 0, none⟩) 1 1, .slice (some ⟨g, o, none⟩) lb cb]).run Try.prog w = .ok (.value (.bool false)) w := by
  rw [run_callFunc_extern Try.func57 (by kernel_rfl) (by kernel_rfl) (by kernel_rfl) (e := Extern.SlicesOverlaps.overlaps #[25, 25] #[4]) (by kernel_rfl),
    Lib.run_overlaps_apart w 25 4 40 Try.underlying25 5 (fun w => by
      obtain ⟨i0, hi, _, hz1, _⟩ := info_parts infoE
      simp [sizeOf, typeInfo, hi, hz1]) ⟨vb, 0, none⟩ ⟨g, o, none⟩ 1 1 lb cb hne 40 40 5 cs.size (by simp [World.shape?, hx, enRow]) (by simp [World.shape?, hg]) h0 (frozen_of_row w vb 0 _ _ hx) (frozen_of_row w vb 5 _ _ hx)]
  rfl

set_option maxHeartbeats 1000000 in
set_option maxRecDepth 100000 in
/-- Insert ahead of some, where there is room. -/
theorem eins_room (B g c i : Nat) (L : List (En × Value)) (x : En × Value) (vb : Nat) (w : World) (h : RowE w B (.slice (some ⟨g, 0, none⟩) L.length c) L) (hi : i < L.length) (hroom : L.length < c) (h1 : ∀ y ∈ L, y.2.oneCell' = true) (hx1 : x.2.oneCell' = true) (hl : L.length ≤ 1000000) (hx : w.heap[vb]? = some (enRow x)) (hne : vb ≠ g) :
    Calls Try.prog 35 #[.slice (some ⟨g, 0, none⟩) L.length c, .int .i64 i, .slice (some ⟨vb, 0, none⟩) 1 1] w (Gives (InsE w B (.slice (some ⟨g, 0, none⟩) L.length c) (L.take i ++ x :: L.drop i))) := by
  obtain ⟨cs, hg, hB, hnc, hcm, hsz, htk⟩ := row_at h
  have hcells := row_cells h
  have hcell0 := Lib.hid hcells
  obtain ⟨n, hn⟩ : ∃ n, n = L.length := ⟨_, rfl⟩
  have HN := Lib.hid hn
  obtain ⟨D, hD⟩ : ∃ D, D = (encs L).drop (i * 5) := ⟨_, rfl⟩
  have HD := Lib.hid hD
  have hDl : D.length = (n - i) * 5 := by rw [hD, List.length_drop, encs_len]; omega
  have HDL := Lib.hid hDl
  have HSZ := Lib.hid hsz
  have HTK := Lib.hid htk
  have HG := Lib.hid hg
  have HX := Lib.hid (enRow_cells hx)
  have HXR := Lib.hid hx
  have hov := fun (W : World) (k : Fr w W []) lb cb => overlaps_no5 W x vb g ((i + 1) * 5) cs lb cb hne (k.heap hx (by simp)) (k.heap hg (by simp)) (by rw [hsz]; omega)
  have hov0 := fun lb cb => hov w (Fr.refl _ _) lb cb
  have HVG := Lib.hid hne
  have HBB := Lib.hid hB
  have HCM := Lib.hid hcm
  unfold maxLen at hcm
  rw [← hn] at hi hroom hl hnc ⊢
  have s1 : Hid (n - i = Nat.min (n + 1 - i) (n + 1 - (i + 1))) := by show _ = _; simp only [Nat.min_def]; split <;> omega
  have s2 : Hid (∀ j v, D[j]? = some v → w.drew.cell? (Addr.add ⟨g, i * 5, none⟩ j) = some v) := by
    intro j v hj
    rw [HD.out, List.getElem?_drop] at hj
    have := hcell0.out _ v hj
    rw [Addr.add_lit, Nat.zero_add] at this
    rw [Addr.add_lit]
    exact this
  have s3 : Hid ((i + 1) * 5 + D.length ≤ cs.toList.length) := by show _ ≤ _; rw [HDL.out, Array.length_toList, HSZ.out]; omega
  have s4 : Hid (∀ v ∈ D, v.oneCell' = true) := fun v hv => encs_one L h1 v (List.mem_of_mem_drop (HD.out ▸ hv))
  have s5 : Hid ((w.drew).heap[g]? = some (.cells cs.toList.toArray 40 (0, 0))) := by show _ = _; rw [Array.toArray_toList]; exact HG.out
  have s6 : Hid (1 = Nat.min 1 (n + 1 - i)) := by show _ = _; simp only [Nat.min_def]; split <;> omega
  have hw1 : IntKind.i64.wrap ((i : Int) + 1) = (i : Int) + 1 := by rw [IntKind.wrap_i64]; omega
  have hb1 : (0 : Int) ≤ (i : Int) + 1 := by omega
  have htn : ((i : Int) + 1).toNat = i + 1 := by omega
  have hb2 : ¬ (c = i + 1) := by omega
  have hb3 : (i : Int) ≤ (n : Int) + 1 := by omega
  have hb4 : ¬ (c = i) := by omega
  have hz2 : ¬ ((i : Int) = (n : Int)) := by omega
  have hin : i ≤ n := by omega
  clear h hn hD hDl hsz htk hg hx hov hne hcells hB
  go_enter Try.func35, Try.ntmps35
  go_wp2_with (simp only [hov0])
  go_region_law (refine step_copy5 rfl (.tmp 73) (.tmp 76) rfl (some ⟨g, (i + 1) * 5, none⟩) (some ⟨g, i * 5, none⟩) (n + 1 - (i + 1)) (c - (i + 1)) (n + 1 - i) (c - i) (by simp [Act.eval, Act.put]) (by simp [Act.eval, Act.put]) g ((i + 1) * 5) ⟨g, i * 5, none⟩ rfl rfl (n - i) s1.out cs.toList s5.out D HDL.out s2.out s3.out s4.out ?_; intro w1 HR1 HF1)
  have HXC : Hid (∀ j u, (enc1 x)[j]? = some u → w1.cell? (Addr.add ⟨vb, 0, none⟩ j) = some u) := enRow_cells (HF1.out.heap HXR.out (by simpa using HVG.out))
  have s7 : Hid (i * 5 + (enc1 x).length ≤ (splice cs.toList ((i + 1) * 5) D).length) := by
    show i * 5 + (enc1 x).length ≤ _
    rw [length_splice _ _ _ s3.out, show cs.toList.length = c * 5 by rw [Array.length_toList, HSZ.out]]
    simp only [enc1, List.length_cons, List.length_nil]
    omega
  go_wp2_with (with_reducible refine wpList_copy5 rfl _ _ rfl _ _ _ _ _ _ rfl rfl g (i * 5) ⟨vb, 0, none⟩ rfl rfl 1 s6.out _ HR1.out (enc1 x) rfl HXC.out s7.out (enc1_one x hx1) ?_; intro w2 HR2 HF2)
  go_ret
  have hlen : (L.take i ++ x :: L.drop i).length = n + 1 := by rw [List.length_append, List.length_take, List.length_cons, List.length_drop, ← HN.out]; omega
  have hX5 : (enc1 x).length = 5 := rfl
  have hown := rowE_of (w := w2) (L' := L.take i ++ x :: L.drop i) HBB.out HR2.out (by rw [hlen]; omega) HCM.out (by rw [length_splice _ _ _ s7.out, length_splice _ _ _ s3.out, Array.length_toList, HSZ.out]) (by
    have e := spl_room5 (cs := cs.toList) (X := (enc1 x)) (D := D) (p := i * 5) (q := (i + 1) * 5) hX5 (by omega) s3.out
    rw [show (i + 1) * 5 + D.length = (n + 1) * 5 by rw [HDL.out]; omega] at e
    rw [hlen, e, encs_app, encs_cons5, encs_takeA, encs_dropA, ← HD.out, ← HTK.out, List.take_take, Nat.min_eq_left (by rw [← HN.out]; omega)]
    rfl)
  rw [hlen] at hown
  exact gives ⟨hown, ((Fr.drew w [g]).trans HF1.out).trans HF2.out, g, c, by rw [hlen]; rfl, .inl rfl⟩

set_option maxHeartbeats 1000000 in
set_option maxRecDepth 100000 in
/-- Insert ahead of some, where there is no room. -/
theorem eins_grow (B g c i : Nat) (L : List (En × Value)) (x : En × Value) (vb : Nat) (w : World) (h : RowE w B (.slice (some ⟨g, 0, none⟩) L.length c) L) (hBw : B ≤ w.heap.size) (hi : i < L.length) (hroom : ¬ L.length < c) (h1 : ∀ y ∈ L, y.2.oneCell' = true) (hx1 : x.2.oneCell' = true) (hl : L.length ≤ 1000000) (hx : w.heap[vb]? = some (enRow x)) :
    Calls Try.prog 35 #[.slice (some ⟨g, 0, none⟩) L.length c, .int .i64 i, .slice (some ⟨vb, 0, none⟩) 1 1] w (Gives (InsE w B (.slice (some ⟨g, 0, none⟩) L.length c) (L.take i ++ x :: L.drop i))) := by
  obtain ⟨i0, hi0, hz0, hzs, hzb⟩ := info_parts infoE
  obtain ⟨cs, hg, hB, hnc, hcm, hsz, htk⟩ := row_at h
  have hcells := Lib.hid (row_cells h)
  have hgw := size_of_row hg
  have hvw := size_of_row hx
  obtain ⟨n, hn⟩ : ∃ n, n = L.length := ⟨_, rfl⟩
  have HN := Lib.hid hn
  obtain ⟨D, hD⟩ : ∃ D, D = (encs L).drop (i * 5) := ⟨_, rfl⟩
  have HD := Lib.hid hD
  have hDl : D.length = (n - i) * 5 := by rw [hD, List.length_drop, encs_len]; omega
  have HDL := Lib.hid hDl
  have HXC := Lib.hid (enRow_cells hx)
  rw [← hn] at hi hroom hl hnc ⊢
  obtain rfl : c = n := by omega
  have hold : (Builtin.firstCells i0.size i (.slice (some ⟨g, 0, none⟩) i c)).run Try.prog w.drew = .ok ((encs L).take (i * 5)).toArray w.drew := by
    rw [hzs]
    refine run_firstCells_some w.drew 5 i ⟨g, 0, none⟩ i c _ (by rw [List.length_take, encs_len]; omega) (fun j v hj => ?_)
    rw [List.getElem?_take] at hj
    split at hj
    · exact hcells.out j v hj
    · cases hj
  have hkk : (c : Int) + 1 - (i : Int) = ((c + 1 - i : Nat) : Int) := by omega
  have hik : i + (c + 1 - i) = c + 1 := by omega
  have hrz : ∀ ty, (Builtin.append_ #[25, 3] ty #[.slice (some ⟨g, 0, none⟩) i c, .int .i64 ((c : Int) + 1 - (i : Int))]).run Try.prog w =
      .ok (.slice (some ⟨w.heap.size, 0, none⟩) (c + 1) (grownCap w (c + 1) c 40)) (w.drew.alloc (.cells (((encs L).take (i * 5)).toArray ++ Builtin.zeroCells (Value.agg #[.int .i64 0, .int .i64 0, .int .i64 0, .slice none 0 0, .int .i64 0]).cells (c + 1 - i) ++ Builtin.zeroCells (Value.agg #[.int .i64 0, .int .i64 0, .int .i64 0, .slice none 0 0, .int .i64 0]).cells (grownCap w (c + 1) c 40 - (c + 1))) 40)) := fun ty => by
    have h := Lib.run_append_grow_zeros w 25 3 ty 40 i0 _ .i64 .i64 Try.underlying25 Try.underlying3 hi0 hz0 (some ⟨g, 0, none⟩) i c ((encs L).take (i * 5)) hold (c + 1 - i) (by omega) (by omega) (by omega) (by omega) (by rw [hzb]; omega) (by rw [hzb, hik]; exact growslice_fits (by omega) (by omega))
    rw [hik] at h
    rw [hkk]
    exact h
  obtain ⟨G, hG⟩ : ∃ G, G = grownCap w (c + 1) c 40 := ⟨_, rfl⟩
  obtain ⟨ROW, hROW⟩ : ∃ ROW : Array Value, ROW = ((encs L).take (i * 5)).toArray ++ Builtin.zeroCells (Value.agg #[.int .i64 0, .int .i64 0, .int .i64 0, .slice none 0 0, .int .i64 0]).cells (c + 1 - i) ++ Builtin.zeroCells (Value.agg #[.int .i64 0, .int .i64 0, .int .i64 0, .slice none 0 0, .int .i64 0]).cells (G - (c + 1)) := ⟨_, rfl⟩
  rw [← hG] at hrz
  rw [← hROW] at hrz
  have hGn : c + 1 ≤ G := by rw [hG]; exact grownCap_ge w _ _ _
  have hGm : G ≤ maxLen := by rw [hG]; exact grownCap_le_maxLen w (c + 1) c 40 (by unfold maxLen; omega)
  have hRl : ROW.toList.length = G * 5 := by
    rw [hROW]
    simp [Builtin.zeroCells, Value.cells, encs_len]
    rw [← hn]
    omega
  have hRt : ROW.toList.take (i * 5) = (encs L).take (i * 5) := by
    rw [hROW]
    simp only [Array.toList_append, List.append_assoc]
    exact List.take_left' (by rw [List.length_take, encs_len]; omega)
  obtain ⟨H, hH⟩ : ∃ H, H = w.heap.size := ⟨_, rfl⟩
  have hvH : ¬ vb = H := by omega
  have hgH : ¬ g = H := by omega
  have hrow1 := heap_alloc_new w.drew (.cells ROW 40)
  rw [show w.drew.heap.size = H from hH.symm] at hrow1
  rw [← hH] at hrz
  obtain ⟨W1, hW1⟩ : ∃ W1, W1 = w.drew.alloc (.cells ROW 40) := ⟨_, rfl⟩
  have hFW : Fr w W1 [] := by rw [hW1]; exact (Fr.drew w []).trans (Fr.alloc _ _ [])
  rw [← hW1] at hrz hrow1
  have t1 : Hid (∀ j u, (enc1 x)[j]? = some u → W1.cell? (Addr.add ⟨vb, 0, none⟩ j) = some u) := enRow_cells (hFW.heap hx (by simp))
  have t2 : Hid (W1.heap[H]? = some (.cells ROW.toList.toArray 40 (0, 0))) := by show _ = _; rw [Array.toArray_toList]; exact hrow1
  have t3 : Hid (i * 5 + (enc1 x).length ≤ ROW.toList.length) := by show i * 5 + 5 ≤ _; rw [hRl]; omega
  have t4 : Hid (1 = Nat.min 1 (c + 1 - i)) := by show _ = _; simp only [Nat.min_def]; split <;> omega
  have t5 : Hid (c - i = Nat.min (c - i) (c + 1 - (i + 1))) := by show _ = _; simp only [Nat.min_def]; split <;> omega
  have t6 : Hid (∀ v ∈ D, v.oneCell' = true) := fun v hv => encs_one L h1 v (List.mem_of_mem_drop (hD ▸ hv))
  have t7 : Hid (∀ j v, D[j]? = some v → W1.cell? (Addr.add ⟨g, i * 5, none⟩ j) = some v) := by
    intro j v hj
    rw [hD, List.getElem?_drop] at hj
    have := hFW.cell (hcells.out _ v hj) (by simp)
    rw [Addr.add_lit, Nat.zero_add] at this
    rw [Addr.add_lit]
    exact this
  have HGM := Lib.hid hGm
  have HRL := Lib.hid hRl
  have HRT := Lib.hid hRt
  have HFW := Lib.hid hFW
  have HH := Lib.hid hH
  have HBW := Lib.hid hBw
  have HGH := Lib.hid hgH
  have hz3 : (c : Int) < (c : Int) + 1 := by omega
  have hG63 : G ≤ 9223372036854775807 := by unfold maxLen at hGm; omega
  have hw1 : IntKind.i64.wrap ((i : Int) + 1) = (i : Int) + 1 := by rw [IntKind.wrap_i64]; omega
  have hb1 : (0 : Int) ≤ (i : Int) + 1 := by omega
  have htn : ((i : Int) + 1).toNat = i + 1 := by omega
  have hb3 : (i : Int) ≤ (c : Int) := by omega
  have hb4 : ¬ (c = i) := by omega
  have hb5 : ¬ (G = i) := by omega
  have hb6 : ¬ (G = i + 1) := by omega
  have hz2 : ¬ ((i : Int) = (c : Int)) := by omega
  have hin : i ≤ c := by omega
  clear h hn hD hDl hsz htk hg hx hB hold hkk hik hG hROW hGm hRl hRt hH hrow1 hFW hBw hgw hvw hgH hW1 hcm hnc hroom
  go_enter Try.func35, Try.ntmps35
  go_wp2_with (first
    | (at_builtin; refine Lib.wpList_append_run _ rfl _ _ _ _ rfl _ _ rfl rfl _ _ (hrz _) ?_)
    | (with_reducible refine wpList_copy5 rfl _ _ rfl _ _ _ _ _ _ rfl rfl H (i * 5) ⟨vb, 0, none⟩ rfl rfl 1 t4.out _ t2.out (enc1 x) rfl t1.out t3.out (enc1_one x hx1) ?_; intro w1 HR1 HF1))
  have t8 : Hid (∀ j v, D[j]? = some v → w1.drew.cell? (Addr.add ⟨g, i * 5, none⟩ j) = some v) := by
    intro j v hj
    refine (HF1.out.trans (Fr.drew _ [H])).cell (t7.out j v hj) ?_
    rw [Addr.add_lit]
    simpa using HGH.out
  have t9 : Hid (w1.drew.heap[H]? = some (.cells (splice ROW.toList (i * 5) (enc1 x)).toArray 40 (0, 0))) := HR1.out
  have u1 : Hid ((i + 1) * 5 + D.length ≤ (splice ROW.toList (i * 5) (enc1 x)).length) := by
    show (i + 1) * 5 + D.length ≤ _
    rw [length_splice _ _ _ t3.out, HRL.out, HDL.out]
    omega
  go_region_law (refine step_copy5 rfl (.tmp 50) (.tmp 53) rfl (some ⟨H, (i + 1) * 5, none⟩) (some ⟨g, i * 5, none⟩) (c + 1 - (i + 1)) (G - (i + 1)) (c - i) (c - i) (by simp [Act.eval, Act.put]) (by simp [Act.eval, Act.put]) H ((i + 1) * 5) ⟨g, i * 5, none⟩ rfl rfl (c - i) t5.out (splice ROW.toList (i * 5) (enc1 x)) t9.out D HDL.out t8.out u1.out t6.out ?_; intro w2 HR2 HF2)
  go_wp2
  go_ret
  have hlen : (L.take i ++ x :: L.drop i).length = c + 1 := by rw [List.length_append, List.length_take, List.length_cons, List.length_drop, ← HN.out]; omega
  have hX5 : (enc1 x).length = 5 := rfl
  have hown := rowE_of (w := w2) (B := B) (c := G) (L' := L.take i ++ x :: L.drop i) (by rw [HH.out]; exact HBW.out) HR2.out (by rw [hlen]; exact hGn) HGM.out (by rw [length_splice _ _ _ u1.out, length_splice _ _ _ t3.out, HRL.out]) (by
    have e := spl_grow5 (cs := ROW.toList) (X := (enc1 x)) (D := D) (p := i * 5) (q := (i + 1) * 5) hX5 (by omega) (by have := u1.out; rwa [length_splice _ _ _ t3.out] at this)
    rw [show (i + 1) * 5 + D.length = (c + 1) * 5 by rw [HDL.out]; omega] at e
    rw [hlen, e, encs_app, encs_cons5, encs_takeA, encs_dropA, ← HD.out, HRT.out]
    rfl)
  rw [hlen] at hown
  have hHm : ∀ r ∈ [H], w.heap.size ≤ r := fun r hr => by obtain rfl := List.mem_singleton.1 hr; exact Nat.le_of_eq HH.out.symm
  have hfr : Fr w w2 [] := (HFW.out.new HF1.out hHm).new ((Fr.drew w1 [H]).trans HF2.out) hHm
  exact gives ⟨hown, hfr.mono (by simp), H, G, by rw [hlen]; rfl, .inr (Nat.le_of_eq HH.out.symm)⟩

/-- Insert wherever it may be. -/
theorem eins_any (B : Nat) (v : Value) (L : List (En × Value)) (x : En × Value) (i vb : Nat) (w : World) (h : RowE w B v L) (hB : B ≤ w.heap.size) (hi : i ≤ L.length) (h1 : ∀ y ∈ L, y.2.oneCell' = true) (hx1 : x.2.oneCell' = true) (hl : L.length ≤ 1000000) (hx : w.heap[vb]? = some (enRow x)) (hne : v.ownBlock ≠ some vb) :
    Calls Try.prog 35 #[v, .int .i64 i, .slice (some ⟨vb, 0, none⟩) 1 1] w (Gives (InsE w B v (L.take i ++ x :: L.drop i))) := by
  by_cases hn : i = L.length
  · subst hn
    rw [List.take_length, List.drop_length]
    exact eins_end B v L x vb w h hB h1 hx1 hl hx
  · obtain ⟨a, c, rfl⟩ := h.shape
    obtain ⟨g, rfl, _, _⟩ := h.some_of (by omega)
    by_cases hr : L.length < c
    · exact eins_room B g c i L x vb w h (by omega) hr h1 hx1 hl hx (fun e => hne (by rw [e]; rfl))
    · exact eins_grow B g c i L x vb w h hB (by omega) hr h1 hx1 hl hx
end Go.Proofs.Ytldheaamcnmlgaa
