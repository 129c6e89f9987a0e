/- The ledger's law of what is purged: walked. -/
import Derived.Test.YtldheaamcnmlgaaLgC15
import Derived.Test.YtldheaamcnmlgaaGLj
import Derived.Test.YtldheaamcnmlgaaGLf
import Derived.Maps.AppendAt
namespace Go.Proofs.Ytldheaamcnmlgaa
open Go.RowKit Fm

def upE (e : En) : En := ⟨e.fl, e.di, e.ge + 1, e.bs, e.aw⟩
/-- What is lit of the first i: all but one; with one lit anew. -/
def litC (es : List En) (c i : Nat) : List La := ((es.take i).eraseIdx c).map laOf
def anewC (es : List En) (c i : Nat) : List La := ((es.take i).set c (upE (es.getD c zeroE))).map laOf
theorem snocE (es : List En) (i : Nat) (h : i < es.length) : es.take (i + 1) = es.take i ++ [es.getD i zeroE] := by rw [List.take_succ_eq_append_getElem h]; simp [h]
theorem litC_ne {es : List En} {c i : Nat} (h : i < es.length) (hn : i ≠ c) : litC es c (i + 1) = litC es c i ++ [laOf (es.getD i zeroE)] := by
  have hl : (es.take i).length = i := by rw [List.length_take]; omega
  unfold litC
  rw [snocE es i h]
  rcases Nat.lt_or_gt_of_ne hn with q | q
  · rw [List.eraseIdx_of_length_le (by rw [List.length_append, hl]; simp; omega), List.eraseIdx_of_length_le (by omega), List.map_append]; rfl
  · rw [List.eraseIdx_append_of_lt_length (by omega), List.map_append]; rfl
theorem litC_eq {es : List En} {i : Nat} (h : i < es.length) : litC es i (i + 1) = litC es i i := by
  have hl : (es.take i).length = i := by rw [List.length_take]; omega
  unfold litC
  rw [snocE es i h, List.eraseIdx_append_of_length_le (by omega), hl, Nat.sub_self, List.eraseIdx_of_length_le (l := es.take i) (by omega)]
  simp
theorem anewC_ne {es : List En} {c i : Nat} (h : i < es.length) (hn : i ≠ c) : anewC es c (i + 1) = anewC es c i ++ [laOf (es.getD i zeroE)] := by
  have hl : (es.take i).length = i := by rw [List.length_take]; omega
  unfold anewC
  rw [snocE es i h]
  rcases Nat.lt_or_gt_of_ne hn with q | q
  · rw [List.set_eq_of_length_le (by rw [List.length_append, hl]; simp; omega), List.set_eq_of_length_le (by omega), List.map_append]; rfl
  · rw [List.set_append_left _ _ (by omega), List.map_append]; rfl
theorem anewC_eq {es : List En} {i : Nat} (h : i < es.length) : anewC es i (i + 1) = anewC es i i ++ [upLa (es.getD i zeroE)] := by
  have hl : (es.take i).length = i := by rw [List.length_take]; omega
  unfold anewC
  rw [snocE es i h, List.set_append_right _ _ (by omega), hl, Nat.sub_self, List.set_eq_of_length_le (l := es.take i) (by omega), List.map_append]; rfl
theorem litC_le (es : List En) (c i : Nat) : (litC es c i).length ≤ i := by
  unfold litC
  rw [List.length_map]
  have := List.length_eraseIdx_le (es.take i) c
  rw [List.length_take] at this
  omega
theorem anewC_le (es : List En) (c i : Nat) : (anewC es c i).length ≤ i := by
  unfold anewC
  rw [List.length_map, List.length_set, List.length_take]
  omega
theorem litC_all (es : List En) (c : Nat) : litC es c es.length = (es.take c ++ es.drop (c + 1)).map laOf := by
  unfold litC
  rw [List.take_length, List.eraseIdx_eq_take_drop_succ]
theorem anewC_all (es : List En) (c : Nat) (h : c < es.length) : anewC es c es.length = (es.take c).map laOf ++ upLa (es.getD c zeroE) :: (es.drop (c + 1)).map laOf := by
  unfold anewC
  rw [List.take_length, List.set_eq_take_append_cons_drop, if_pos h, List.map_append, List.map_cons]; rfl
/-- Two slices of latches of the law's own, apart. -/
structure TwoL (W : World) (a : World) (v6 v7 : Value) (L M : List La) : Prop where
  o6 : OwnL a W.heap.size v6 L
  o7 : OwnL a W.heap.size v7 M
  ap : ∀ r, v6.ownBlock = some r → v7.ownBlock ≠ some r
  f : Fr W a []
theorem TwoL.row6 {W a : World} {v6 v7 : Value} {L M : List La} (h : TwoL W a v6 v7 L M) : a.ownsRow W.heap.size 37 3 v6 L.length (laC L) := h.o6
theorem TwoL.row7 {W a : World} {v6 v7 : Value} {L M : List La} (h : TwoL W a v6 v7 L M) : a.ownsRow W.heap.size 37 3 v7 M.length (laC M) := h.o7
theorem TwoL.fr {W a b : World} {v6 v7 : Value} {L M : List La} (h : TwoL W a v6 v7 L M) (k : Fr a b []) : TwoL W b v6 v7 L M := ⟨h.o6.keep k, h.o7.keep k, h.ap, h.f.trans k⟩
theorem own_past {B : Nat} {a b : World} {v u : Value} {M : List La} (h : OwnL a B u M) (hg : a.grownBy b v.ownBlock) (hn : ∀ r, v.ownBlock = some r → u.ownBlock ≠ some r) : OwnL b B u M := by
  cases e : v.ownBlock with
  | none => rw [e] at hg; exact h.keep (Fr.of_grown hg [])
  | some g => rw [e] at hg; exact h.fr (Fr.of_grown_row hg (S := [g]) (by simp)) (fun r hr => by rw [List.mem_singleton.1 hr]; exact hn g e)
theorem TwoL.push6 {W a b : World} {v6 v7 v' : Value} {L L' M : List La} (h : TwoL W a v6 v7 L M) (hg : a.grownBy b v6.ownBlock) (ho : OwnL b W.heap.size v' L') (hor : v'.ownBlock = v6.ownBlock ∨ v'.ownBlock = some a.heap.size) : TwoL W b v' v7 L' M := by
  refine ⟨ho, own_past h.o7 hg h.ap, fun r hr => ?_, h.f.grown_own hg (fun r hr => .inr (h.o6.block r hr).1)⟩
  rcases hor with q | q
  · exact h.ap r (by rw [← q]; exact hr)
  · rw [q] at hr
    obtain rfl : a.heap.size = r := by simpa using hr
    intro e
    have := (h.o7.block _ e).2
    omega
theorem TwoL.push7 {W a b : World} {v6 v7 v' : Value} {L M M' : List La} (h : TwoL W a v6 v7 L M) (hg : a.grownBy b v7.ownBlock) (ho : OwnL b W.heap.size v' M') (hor : v'.ownBlock = v7.ownBlock ∨ v'.ownBlock = some a.heap.size) : TwoL W b v6 v' L M' := by
  refine ⟨own_past h.o6 hg (fun r hr e => h.ap r e hr), ho, fun r hr => ?_, h.f.grown_own hg (fun r hr => .inr (h.o7.block r hr).1)⟩
  rcases hor with q | q
  · rw [q]; exact h.ap r hr
  · rw [q]
    intro e
    obtain rfl : a.heap.size = r := by simpa using e
    have := (h.o6.block _ hr).2
    omega
theorem heap_past {a b : World} {row : Option Nat} {k : Nat} {o : Obj} (h : a.heap[k]? = some o) (hg : a.grownBy b row) (hn : row ≠ some k) : b.heap[k]? = some o := by
  have hk : k < a.heap.size := by rcases Nat.lt_or_ge k a.heap.size with q | q; exact q; rw [Array.getElem?_eq_none q] at h; cases h
  rw [hg.block k hk (fun q => hn q.symm)]; exact h
/-- An entry in its place. -/
def EnAt (b o : Nat) (e : En) (vb : Value) (a : World) : Prop := a.cell? ⟨b, o, none⟩ = some (.int .i64 e.fl) ∧ a.cell? ⟨b, o + 1, none⟩ = some (.int .i64 e.di) ∧ a.cell? ⟨b, o + 2, none⟩ = some (.int .i64 e.ge) ∧ a.cell? ⟨b, o + 3, none⟩ = some vb ∧ a.cell? ⟨b, o + 4, none⟩ = some (.int .i64 e.aw)
theorem EnAt.keep {b o : Nat} {e : En} {vb : Value} {a c : World} (h : EnAt b o e vb a) (k : Fr a c []) : EnAt b o e vb c := ⟨k.cell h.1 (by simp), k.cell h.2.1 (by simp), k.cell h.2.2.1 (by simp), k.cell h.2.2.2.1 (by simp), k.cell h.2.2.2.2 (by simp)⟩
theorem HE.ent {w : World} {a : Option Addr} {n c : Nat} {es : List En} (h : HE w (.slice a n c) es) {i : Nat} (hi : i < n) : ∃ b off vb, a = some ⟨b, off, none⟩ ∧ EnAt b (off + i * 5) (es.getD i zeroE) vb w ∧ HB w vb (es.getD i zeroE).bs := by
  obtain ⟨a', c', e, _, _, h3⟩ := h
  simp only [Value.slice.injEq] at e
  obtain ⟨rfl, rfl, rfl⟩ := e
  obtain ⟨b, off, rfl, hc⟩ := h3 (by omega)
  obtain ⟨vb, h0, h1, h2, h3, h4, h5⟩ := hc i hi
  exact ⟨b, off, vb, rfl, ⟨h0, h1, h2, h3, h4⟩, h5⟩
/-- Two rings in their boxes, an entry of each. -/
def SP2 (V : World) (g : Nat) (v0 v1 v2 v3 v4 : Value) (h : Nat) (u0 u1 u2 u3 u4 : Value) (b o : Nat) (e : En) (ve : Value) (q p : Nat) (f : En) (vf : Value) (a : World) : Prop := Fr V a [] ∧ C5 g v0 v1 v2 v3 v4 a ∧ C5 h u0 u1 u2 u3 u4 a ∧ EnAt b o e ve a ∧ EnAt q p f vf a
/-- Three. -/
def SP3 (V : World) (g : Nat) (v0 v1 v2 v3 v4 : Value) (h : Nat) (u0 u1 u2 u3 u4 : Value) (k : Nat) (t0 t1 t2 t3 t4 : Value) (b o : Nat) (e : En) (ve : Value) (q p : Nat) (vf : Value) (y z : Nat) (vx : Value) (a : World) : Prop := Fr V a [] ∧ C5 g v0 v1 v2 v3 v4 a ∧ C5 h u0 u1 u2 u3 u4 a ∧ C5 k t0 t1 t2 t3 t4 a ∧ EnAt b o e ve a ∧ EnAt q p e vf a ∧ EnAt y z e vx a
set_option maxHeartbeats 8000000 in
set_option maxRecDepth 100000 in
theorem lpurges_true (r : Rg) (vm ve : Value) (a1 : Int) (w : World) (hm : HInts w vm r.ms) (he : HE w ve r.es) (ha : -9223372036854775808 ≤ a1 ∧ a1 ≤ 9223372036854775807) :
    Calls Try.prog 7 #[rgV r vm ve, .int .i64 a1] w fun e w' => e = .returned (.bool true) ∧ Fr w w' [] := by
  obtain ⟨i1, hi1, hy0, hy1, hy2⟩ := info_parts infoL
  obtain ⟨b, hb⟩ : ∃ b, b = decide (LightR r) := ⟨_, rfl⟩
  have LI := Lib.hid (fun W (hW : Fr w W []) => light_any r vm ve b hb W (hm.keep hW) (he.keep hW))
  have HBL := Lib.hid hb
  have HHE := Lib.hid he
  have HHM := Lib.hid hm
  obtain ⟨co, fo, ho, ms, es⟩ := r
  dsimp only at hm he HHE HHM
  unfold rgV at LI
  dsimp only at LI
  obtain ⟨am, cm, rfl, pm, qm, rm⟩ := hm
  obtain ⟨ae, ce, rfl, pe, qe, re⟩ := he
  unfold maxLen at qm qe
  have HLS := Lib.hid re
  obtain ⟨n, hn⟩ : ∃ n, n = es.length := ⟨_, rfl⟩
  have HN := Lib.hid hn
  obtain ⟨m, hmm⟩ : ∃ m, m = ms.length := ⟨_, rfl⟩
  have HM := Lib.hid hmm
  rw [← hn] at pe HLS HHE
  rw [← hmm] at pm HHM
  rw [← hn, ← hmm] at LI
  unfold rgV
  dsimp only
  rw [← hn, ← hmm]
  clear rm re hb
  have HTW := Lib.hid (heap_alloc_new w (.cells #[.int .i64 co, .int .i64 fo, .int .i64 ho, .slice am m cm, .slice ae n ce] 27))
  have HF2 := Lib.hid (Fr.alloc w (.cells #[.int .i64 co, .int .i64 fo, .int .i64 ho, .slice am m cm, .slice ae n ce] 27) [])
  have FI := Lib.hid (fun W => lfirst_any lg_is W)
  clear hn hmm
  go_enter Try.func7, Try.ntmps7
  go_upto_region 1 with fail
  generalize World.alloc w _ = V at HTW HF2 ⊢
  go_wp2_with fail
  with_reducible refine (FI.out _).mono ?_
  rintro e w1 ⟨rfl, hf1⟩
  have HF3 := Lib.hid (HF2.out.trans hf1)
  have HTX := Lib.hid (hf1.heap HTW.out (by simp))
  clear hf1 FI HF2 HTW
  obtain ⟨y0, y1, y2, y3, y4⟩ := row5 HTX.out
  go_wp2_with fail
  with_reducible refine (LI.out _ HF3.out).mono ?_
  rintro e W ⟨rfl, hf1⟩
  have HF4 := Lib.hid (HF3.out.trans hf1)
  have HTY := Lib.hid (hf1.heap HTX.out (by simp))
  clear hf1 LI HF3 HTX y0 y1 y2 y3 y4
  obtain ⟨y0, y1, y2, y3, y4⟩ := row5 HTY.out
  cases b
  · go_wp2
    go_ret
    exact ⟨rfl, HF4.out⟩
  have HL0 : Hid (LightR ⟨co, fo, ho, ms, es⟩) := Lib.hid (of_decide_eq_true HBL.out.symm)
  have HV := Lib.hid (ring_val HL0.out.2.2.2)
  have HSM := Lib.hid (show Small ⟨co, fo, ho, ms, es⟩ from ⟨by have := HL0.out.2.1; omega, by have := HL0.out.2.2.1; omega, fun e he => by have := HL0.out.1 e he; omega⟩)
  have hm16 : m ≤ 16 := by have := HL0.out.2.1; have := HM.out; dsimp only at *; omega
  have hn30 : n ≤ 30 := by have := HL0.out.2.2.1; have := HN.out; dsimp only at *; omega
  clear HBL
  by_cases hn0 : n = 0
  · subst hn0
    go_wp2
    go_ret
    exact ⟨rfl, HF4.out⟩
  have dn0 : ((n : Int) == 0) = false := by simp; omega
  obtain ⟨c, hc1⟩ := Int.eq_ofNat_of_zero_le (Int.emod_nonneg a1 (show (n : Int) ≠ 0 by omega))
  have hcn : c < n := by have := Int.emod_lt_of_pos a1 (show (0 : Int) < n by omega); omega
  have N1 := Lib.hid (fun W => numberTo_any a1 n W (by omega) (by omega) ha.1 ha.2)
  rw [hc1] at N1
  clear hc1 ha
  go_wp2_with fail
  with_reducible refine (N1.out _).mono ?_
  rintro e w2 ⟨rfl, rfl⟩
  clear N1 y0 y1 y2 y3 y4
  go_wp2_with fail
  go_loopw [6, 7, 8] (fun s6 s7 s8 wx => ∃ i : Nat, i ≤ n ∧ s8 = .int .i64 i ∧ Hid (TwoL W wx s6 s7 (litC es c i) (anewC es c i))) (fun _ _ s8 _ => n - (intOf s8).toNat)
  case atStart => exact ⟨0, Nat.zero_le _, rfl, Lib.hid ⟨(by simp [litC]; exact OwnL.nil _ _), (by simp [anewC]; exact OwnL.nil _ _), (fun r hr => by cases hr), Fr.refl _ _⟩⟩
  case round =>
    obtain ⟨i, hi, rfl, HT⟩ := hrel
    obtain ⟨y0, y1, y2, y3, y4⟩ := row5 (HT.out.f.heap HTY.out (by simp))
    by_cases hlt : i < n
    · have dl : decide ((i : Int) < (n : Int)) = true := decide_eq_true (by omega)
      obtain ⟨bl, off, vb, rfl, hE, _⟩ := HHE.out.ent hlt
      have hile : i < es.length := by have := HN.out; omega
      have HE1 := Lib.hid (hE.keep (HF4.out.trans HT.out.f))
      obtain ⟨d0, d1, d2, _, _⟩ := HE1.out
      obtain ⟨e, hee⟩ : ∃ e, e = es.getD i zeroE := ⟨_, rfl⟩
      have HEE := Lib.hid hee
      rw [← hee] at d0 d1 d2
      have hge : 1 ≤ e.ge ∧ e.ge ≤ 2147483647 := by rw [hee]; exact (HV.out.ent _ (getD_mem hile zeroE)).latch.2.2.2
      obtain ⟨e0, e1, e2, e3, e4⟩ := e
      dsimp only at d0 d1 d2 hge
      have HZ := Lib.hid (heap_alloc_new wr (.cells #[.int .i64 e0, .int .i64 e1, .int .i64 e2] 37))
      have HFV := Lib.hid (Fr.alloc wr (.cells #[.int .i64 e0, .int .i64 e1, .int .i64 e2] 37) [])
      obtain ⟨bx, hbx⟩ : ∃ bx, bx = wr.heap.size := ⟨_, rfl⟩
      have HBQ := Lib.hid hbx
      have HBX := Lib.hid (show W.heap.size ≤ bx by rw [hbx]; exact HT.out.f.size)
      rw [← hbx] at HZ
      clear hE hee
      go_upto_region 12 with fail
      rw [← hbx]
      generalize World.alloc wr _ = V at HZ HFV ⊢
      clear y0 y1 y2 y3 y4 d0 d1 d2 hbx
      have HTV := Lib.hid (HT.out.fr HFV.out)
      obtain ⟨z0, z1, z2⟩ := row3 HZ.out
      obtain ⟨a6, c6, hv6⟩ := HTV.out.o6.shape
      obtain ⟨a7, c7, hv7⟩ := HTV.out.o7.shape
      have hk6' := litC_le es c i
      have hk7' := anewC_le es c i
      obtain ⟨k6, hk6⟩ : ∃ k, k = (litC es c i).length := ⟨_, rfl⟩
      obtain ⟨k7, hk7⟩ : ∃ k, k = (anewC es c i).length := ⟨_, rfl⟩
      have HK6 := Lib.hid hk6
      have HK7 := Lib.hid hk7
      rw [← hk6] at hv6 hk6'
      rw [← hk7] at hv7 hk7'
      subst hv6 hv7
      clear hk6 hk7
      by_cases hic : i = c
      · subst hic
        have dn : ((i : Int) != (i : Int)) = false := by simp
        by_cases hmax : e2 = 2147483647
        · subst hmax
          have HFE := Lib.hid (HF4.out.trans HTV.out.f)
          go_wp2
          go_ret
          exact ⟨rfl, HFE.out⟩
        · have de : (e2 == (2147483647 : Int)) = false := by simp; omega
          have ew : IntKind.i64.wrap (e2 + 1) = e2 + 1 := IntWalk.i64_in _ (by omega)
          have HZ2 : Hid ((V.setCell ⟨bx, 2, none⟩ (.int .i64 (e2 + 1))).heap[bx]? = some (.cells #[.int .i64 e0, .int .i64 e1, .int .i64 (e2 + 1)] 37 (0, 0))) := Lib.hid (by rw [heap_setCell_same _ bx 2 _ _ _ HZ.out]; rfl)
          have HF5 := Lib.hid (HTV.out.f.new (Fr.setCell V bx 2 (.int .i64 (e2 + 1)) (S := [bx]) (by simp)) (fun x hx => by rw [List.mem_singleton.1 hx]; exact HBX.out))
          have HTN : Hid (TwoL W (V.setCell ⟨bx, 2, none⟩ (.int .i64 (e2 + 1))) (.slice a6 k6 c6) (.slice a7 k7 c7) (litC es i i) (anewC es i i)) := Lib.hid ⟨HTV.out.o6.fr (Fr.setCell V bx 2 _ (S := [bx]) (by simp)) (fun r hr e => by have h1 := List.mem_singleton.1 hr; have h2 := (HT.out.o6.block _ e).2; have h3 := HBQ.out; omega), HTV.out.o7.fr (Fr.setCell V bx 2 _ (S := [bx]) (by simp)) (fun r hr e => by have h1 := List.mem_singleton.1 hr; have h2 := (HT.out.o7.block _ e).2; have h3 := HBQ.out; omega), HTV.out.ap, HF5.out⟩
          have fz2 : V.frozen? ⟨bx, 2, none⟩ = false := frozen_of_row _ _ 2 _ _ HZ.out
          go_upto_region 18 with fail
          generalize World.setCell V _ _ = V2 at HZ2 HF5 HTN ⊢
          clear z0 z1 z2 fz2
          obtain ⟨z0, z1, z2⟩ := row3 HZ2.out
          have HCE := Lib.hid (row_newL V2 [.int .i64 e0, .int .i64 e1, .int .i64 (e2 + 1)] 37)
          have HTA := Lib.hid (HTN.out.fr (Fr.alloc V2 (.cells #[.int .i64 e0, .int .i64 e1, .int .i64 (e2 + 1)] 37) []))
          have hsz : W.heap.size ≤ (V2.alloc (.cells #[.int .i64 e0, .int .i64 e1, .int .i64 (e2 + 1)] 37)).heap.size := HTA.out.f.size
          have HRW := Lib.hid (HTA.out.row7)
          rw [← HK7.out] at HRW
          go_upto_region 10 with (at_builtin; refine wpList_append_own_at _ rfl _ _ 47 rfl W.heap.size 37 i1 (.agg #[.int .i64 0, .int .i64 0, .int .i64 0]) 3 24 Try.underlying47 hi1 hy0 hy1 hy2 rfl (by decide) (.slice a7 k7 c7) k7 _ rfl HRW.out ⟨V2.heap.size, 0, none⟩ 1 1 [.int .i64 e0, .int .i64 e1, .int .i64 (e2 + 1)] rfl rfl HCE.out (la_one ⟨e0, e1, (e2 + 1)⟩) (by unfold maxLen; omega) (by omega) hsz ?_; intro v7 w7 hown hgr _ hor)
          have HT7 := Lib.hid (HTA.out.push7 hgr (OwnL.snoc (x := ⟨e0, e1, (e2 + 1)⟩) (by rw [← HK7.out]; exact hown)) hor)
          clear hown hgr hor hsz HRW HTA HCE
          have HTF : Hid (TwoL W w7 (.slice a6 k6 c6) v7 (litC es i (i + 1)) (anewC es i (i + 1))) := Lib.hid (by
            rw [litC_eq hile, anewC_eq hile, ← HEE.out]
            exact HT7.out)
          clear HT7 HTN HT HTV z0 z1 z2
          go_wp2
          go_roundw
          case rel => exact ⟨i + 1, by omega, by go_num, HTF⟩
          case measure => simp [intOf]; omega
      · have dn : ((i : Int) != (c : Int)) = true := by simp; omega
        have HCE := Lib.hid (row_newL V [.int .i64 e0, .int .i64 e1, .int .i64 e2] 37)
        have HTA := Lib.hid (HTV.out.fr (Fr.alloc V (.cells #[.int .i64 e0, .int .i64 e1, .int .i64 e2] 37) []))
        have hsz : W.heap.size ≤ (V.alloc (.cells #[.int .i64 e0, .int .i64 e1, .int .i64 e2] 37)).heap.size := HTA.out.f.size
        have HRW := Lib.hid (HTA.out.row6)
        rw [← HK6.out] at HRW
        go_upto_region 14 with (at_builtin; refine wpList_append_own_at _ rfl _ _ 47 rfl W.heap.size 37 i1 (.agg #[.int .i64 0, .int .i64 0, .int .i64 0]) 3 24 Try.underlying47 hi1 hy0 hy1 hy2 rfl (by decide) (.slice a6 k6 c6) k6 _ rfl HRW.out ⟨V.heap.size, 0, none⟩ 1 1 [.int .i64 e0, .int .i64 e1, .int .i64 e2] rfl rfl HCE.out (la_one ⟨e0, e1, e2⟩) (by unfold maxLen; omega) (by omega) hsz ?_; intro v6 w6 hown hgr _ hor)
        have HT6 := Lib.hid (HTA.out.push6 hgr (OwnL.snoc (x := ⟨e0, e1, e2⟩) (by rw [← HK6.out]; exact hown)) hor)
        have HZ6 := Lib.hid (heap_past ((Fr.alloc V (.cells #[.int .i64 e0, .int .i64 e1, .int .i64 e2] 37) []).heap HZ.out (by simp)) hgr (fun q => by have := (HT.out.o6.block _ q).2; have := HBQ.out; omega))
        clear hown hgr hor hsz HRW HTA HCE
        clear z0 z1 z2
        obtain ⟨z0, z1, z2⟩ := row3 HZ6.out
        have HCE := Lib.hid (row_newL w6 [.int .i64 e0, .int .i64 e1, .int .i64 e2] 37)
        have HTA := Lib.hid (HT6.out.fr (Fr.alloc w6 (.cells #[.int .i64 e0, .int .i64 e1, .int .i64 e2] 37) []))
        have hsz : W.heap.size ≤ (w6.alloc (.cells #[.int .i64 e0, .int .i64 e1, .int .i64 e2] 37)).heap.size := HTA.out.f.size
        have HRW := Lib.hid (HTA.out.row7)
        rw [← HK7.out] at HRW
        go_upto_region 10 with (at_builtin; refine wpList_append_own_at _ rfl _ _ 47 rfl W.heap.size 37 i1 (.agg #[.int .i64 0, .int .i64 0, .int .i64 0]) 3 24 Try.underlying47 hi1 hy0 hy1 hy2 rfl (by decide) (.slice a7 k7 c7) k7 _ rfl HRW.out ⟨w6.heap.size, 0, none⟩ 1 1 [.int .i64 e0, .int .i64 e1, .int .i64 e2] rfl rfl HCE.out (la_one ⟨e0, e1, e2⟩) (by unfold maxLen; omega) (by omega) hsz ?_; intro v7 w7 hown hgr _ hor)
        have HT7 := Lib.hid (HTA.out.push7 hgr (OwnL.snoc (x := ⟨e0, e1, e2⟩) (by rw [← HK7.out]; exact hown)) hor)
        clear hown hgr hor hsz HRW HTA HCE
        have HTF : Hid (TwoL W w7 v6 v7 (litC es c (i + 1)) (anewC es c (i + 1))) := Lib.hid (by
          rw [litC_ne hile hic, anewC_ne hile hic, ← HEE.out]
          exact HT7.out)
        clear HT7 HT6 HT HTV z0 z1 z2
        go_wp2
        go_roundw
        case rel => exact ⟨i + 1, by omega, by go_num, HTF⟩
        case measure => simp [intOf]; omega
    · have dl : decide ((i : Int) < (n : Int)) = false := decide_eq_false (by omega)
      obtain rfl : i = n := by omega
      have hce : c < es.length := by have := HN.out; omega
      obtain ⟨A, hA⟩ : ∃ A, A = es.take c := ⟨_, rfl⟩
      obtain ⟨B, hB⟩ : ∃ B, B = es.drop (c + 1) := ⟨_, rfl⟩
      obtain ⟨e, hee⟩ : ∃ e, e = es.getD c zeroE := ⟨_, rfl⟩
      have HES : Hid (es = A ++ e :: B) := by rw [hA, hB, hee]; exact Lib.hid (split_at hce)
      have HAC := Lib.hid (show A.length = c by rw [hA, List.length_take]; omega)
      have HLEN := Lib.hid (show (A ++ B).length + 1 = i by rw [HN.out, HES.out]; simp; omega)
      have HL6 := Lib.hid HT.out.o6.holds
      rw [show litC es c i = (A ++ B).map laOf by rw [HN.out, litC_all, ← hA, ← hB]] at HL6
      have HL7 := Lib.hid HT.out.o7.holds
      rw [show anewC es c i = A.map laOf ++ upLa e :: B.map laOf by rw [HN.out, anewC_all es c hce, ← hA, ← hB, ← hee]] at HL7
      have HRI : Hid ((A ++ e :: B).Pairwise Less) := by rw [← HES.out]; exact Lib.hid HV.out.rise
      have hgee : 1 ≤ e.ge ∧ e.ge ≤ 2147483647 := by rw [hee]; exact (HV.out.ent _ (getD_mem hce zeroE)).latch.2.2.2
      have HEE := Lib.hid hee
      have HF5 := Lib.hid (HF4.out.trans HT.out.f)
      have HSM2 : Hid (Small ⟨co, fo, ho, ms, A ++ B⟩) := Lib.hid ⟨HSM.out.1, by show (A ++ B).length ≤ 200; have := HLEN.out; omega, fun x hx => HSM.out.2.2 x (by show x ∈ es; rw [HES.out]; rcases List.mem_append.1 hx with q | q <;> simp [q])⟩
      have hab : (A ++ B).length < 128 := by have := HLEN.out; omega
      have hl6 : ((A ++ B).map laOf).length ≤ 200 := by rw [List.length_map]; have := HLEN.out; omega
      have hl7 : (A.map laOf ++ upLa e :: B.map laOf).length ≤ 200 := by rw [List.length_append, List.length_cons, List.length_map, List.length_map]; rw [List.length_append] at hab; omega
      have P6 := Lib.hid (fun W' (hW : Fr wr W' []) => lg_is.purge ⟨co, fo, ho, ms, es⟩ (.slice am m cm) (.slice ae i ce) _ _ W' (HHM.out.keep (HF5.out.trans hW)) (HHE.out.keep (HF5.out.trans hW)) HSM.out (HL6.out.keep hW) hl6)
      have P7 := Lib.hid (fun W' (hW : Fr wr W' []) => lg_is.purge ⟨co, fo, ho, ms, es⟩ (.slice am m cm) (.slice ae i ce) _ _ W' (HHM.out.keep (HF5.out.trans hW)) (HHE.out.keep (HF5.out.trans hW)) HSM.out (HL7.out.keep hW) hl7)
      have AD := Lib.hid (fun W' um ue (hW : Fr wr W' []) (h1 : HInts W' um ms) (h2 : HE W' ue (A ++ B)) => lg_is.add ⟨co, fo, ho, ms, A ++ B⟩ um ue _ _ W' h1 h2 HSM2.out (HL7.out.keep hW) hl7)
      unfold rgV purgeR at P6 P7
      unfold rgV addR at AD
      dsimp only at P6 P7 AD
      rw [add_anew HRI.out hab] at AD
      rw [show purgeE es ((A ++ B).map laOf) = A ++ B by rw [HES.out]; exact purge_cut HRI.out] at P6
      rw [show purgeE es (A.map laOf ++ upLa e :: B.map laOf) = A ++ B by rw [HES.out]; exact purge_anew HRI.out] at P7
      have HG0 := Lib.hid (HT.out.f.heap HTY.out (by simp))
      obtain ⟨y0, y1, y2, y3, y4⟩ := row5 HG0.out
      clear hA hB hee HT HL6 HL7
      go_wp2_with fail
      with_reducible refine (P6.out _ (Fr.refl _ _)).mono ?_
      rintro x w3 ⟨u, rfl, ⟨um, ue, rfl, hum, hue⟩, hf3⟩
      have HUM1 := Lib.hid hum
      have HUE1 := Lib.hid hue
      obtain ⟨au, cu, rfl, _⟩ := hum
      obtain ⟨aw, cw, rfl, _⟩ := hue
      dsimp only at HUM1 HUE1
      obtain ⟨nb, hnb⟩ : ∃ nb, nb = (A ++ B).length := ⟨_, rfl⟩
      unfold rgV
      dsimp only
      rw [HM.out.symm] at HUM1 ⊢
      rw [← hnb] at HLEN HUE1 ⊢
      have HNB := Lib.hid hnb
      clear P6 y0 y1 y2 y3 y4 hl6 hl7 hab hnb
      have HBX := Lib.hid (box_ring w3 (.int .i64 co) (.int .i64 fo) (.int .i64 ho) (.slice au m cu) (.slice aw nb cw))
      obtain ⟨g1, hg1⟩ : ∃ g, g = w3.heap.size := ⟨_, rfl⟩
      rw [← hg1] at HBX
      have HF6 := Lib.hid hf3
      go_upto_region 20 with fail
      rw [← hg1]
      generalize World.alloc w3 _ = W3 at HBX ⊢
      clear hg1 hf3
      have HF7 := Lib.hid (HF6.out.trans HBX.out.2)
      have HG1 := Lib.hid (HF7.out.heap HG0.out (by simp))
      have HUM2 := Lib.hid (HUM1.out.keep HBX.out.2)
      have HUE2 := Lib.hid (HUE1.out.keep HBX.out.2)
      obtain ⟨y0, y1, y2, y3, y4⟩ := row5 HG1.out
      go_wp2_with fail
      with_reducible refine (P7.out _ HF7.out).mono ?_
      rintro x w4 ⟨u, rfl, ⟨um, ue, rfl, hum, hue⟩, hf3⟩
      dsimp only at hum hue
      have HF8 := Lib.hid (HF7.out.trans hf3)
      have AX := Lib.hid (AD.out w4 um ue HF8.out hum hue)
      unfold rgV
      dsimp only
      clear hum hue P7 AD y0 y1 y2 y3 y4
      have HF9 := Lib.hid hf3
      clear hf3
      go_wp2_with fail
      with_reducible refine (AX.out).mono ?_
      rintro x w5 ⟨u, rfl, ⟨um, ue, rfl, hum, hue⟩, hf3⟩
      have HUE3 := Lib.hid hue
      obtain ⟨ax, cx, rfl, _⟩ := hum
      obtain ⟨ay, cy, rfl, _⟩ := hue
      dsimp only at HUE3
      have hlq : (A ++ newOf (upLa e) :: B).length = i := by rw [← HLEN.out, HNB.out]; simp; omega
      unfold rgV
      dsimp only
      rw [hlq] at HUE3 ⊢
      obtain ⟨mq, hmq⟩ : ∃ mq, mq = ms.length := ⟨_, rfl⟩
      rw [← hmq]
      clear AX hmq hlq
      have HBY := Lib.hid (box_ring w5 (.int .i64 co) (.int .i64 fo) (.int .i64 ho) (.slice ax mq cx) (.slice ay i cy))
      obtain ⟨g2, hg2⟩ : ∃ g, g = w5.heap.size := ⟨_, rfl⟩
      rw [← hg2] at HBY
      have HF10 := Lib.hid ((HF9.out.trans hf3).trans HBY.out.2)
      go_upto_region 21 with fail
      rw [← hg2]
      generalize World.alloc w5 _ = W5 at HBY HF10 ⊢
      clear hg2 hf3
      have HSE : Hid (∀ V', Fr W5 V' [] → C5 w.heap.size (.int .i64 co) (.int .i64 fo) (.int .i64 ho) (.slice am m cm) (.slice ae i ce) V' ∧ C5 g1 (.int .i64 co) (.int .i64 fo) (.int .i64 ho) (.slice au m cu) (.slice aw nb cw) V' ∧ C5 g2 (.int .i64 co) (.int .i64 fo) (.int .i64 ho) (.slice ax mq cx) (.slice ay i cy) V') :=
        Lib.hid (fun V' hV => ⟨row5 ((HF10.out.trans hV).heap HG1.out (by simp)), row5 ((HF10.out.trans hV).heap HBX.out.1 (by simp)), row5 (hV.heap HBY.out.1 (by simp))⟩)
      have HRE := Lib.hid (HHE.out.keep ((HF5.out.trans HF7.out).trans HF10.out))
      have HPE := Lib.hid (HUE2.out.keep HF10.out)
      have HQE := Lib.hid (HUE3.out.keep HBY.out.2)
      have HPM := Lib.hid (HUM2.out.keep HF10.out)
      have HRM := Lib.hid (HHM.out.keep ((HF5.out.trans HF7.out).trans HF10.out))
      have HFW := Lib.hid ((HF5.out.trans HF7.out).trans HF10.out)
      clear HUE1 HUE2 HUE3 HUM1 HUM2 HBX HBY HF6 HF8 HF9
      obtain ⟨⟨x0, x1, x2, x3, x4⟩, ⟨y0, y1, y2, y3, y4⟩, ⟨z0, z1, z2, z3, z4⟩⟩ := HSE.out _ (Fr.refl W5 [])
      have dq : ((nb : Int) != (i : Int) - 1) = false := by have := HLEN.out; simp; omega
      go_wp2_with fail
      clear x0 x1 x2 x3 x4 y0 y1 y2 y3 y4 z0 z1 z2 z3 z4
      go_loopw [12] (fun s12 wx => ∃ k : Nat, k ≤ i ∧ s12 = .int .i64 k ∧ Hid (Fr W5 wx [])) (fun s12 _ => i - (intOf s12).toNat)
      case atStart => exact ⟨0, Nat.zero_le _, rfl, Lib.hid (Fr.refl _ _)⟩
      case round =>
        obtain ⟨k, hk, rfl, HF⟩ := hrel
        obtain ⟨⟨x0, x1, x2, x3, x4⟩, ⟨y0, y1, y2, y3, y4⟩, ⟨z0, z1, z2, z3, z4⟩⟩ := HSE.out _ HF.out
        by_cases hlt2 : k < i
        · have dl2 : decide ((k : Int) < (i : Int)) = true := decide_eq_true (by omega)
          obtain ⟨br, or', vr, rfl, hER, hBR⟩ := HRE.out.ent hlt2
          obtain ⟨bq, oq, vq, rfl, hEQ, hBQ⟩ := HQE.out.ent hlt2
          by_cases hkc : k = c
          · subst hkc
            have h1 : (A ++ newOf (upLa e) :: B).getD k zeroE = newOf (upLa e) := by rw [← HAC.out]; simp [List.getD_eq_getElem?_getD]
            rw [h1] at hEQ hBQ
            rw [← HEE.out] at hER
            obtain ⟨az, cz, rfl, _⟩ := hBQ
            have ew : IntKind.i64.wrap (e.ge + 1) = e.ge + 1 := IntWalk.i64_in _ (by omega)
            have HSW : Hid (SP2 wr g2 (.int .i64 co) (.int .i64 fo) (.int .i64 ho) (.slice ax mq cx) (.slice (some ⟨bq, oq, none⟩) i cy) w.heap.size (.int .i64 co) (.int .i64 fo) (.int .i64 ho) (.slice am m cm) (.slice (some ⟨br, or', none⟩) i ce) bq (oq + k * 5) (newOf (upLa e)) (.slice az 0 cz) br (or' + k * 5) e vr wr.drew) :=
              Lib.hid ⟨Fr.drew wr [], (HSE.out _ (HF.out.trans (Fr.drew wr []))).2.2, (HSE.out _ (HF.out.trans (Fr.drew wr []))).1, hEQ.keep (HF.out.trans (Fr.drew wr [])), hER.keep (HF.out.trans (Fr.drew wr []))⟩
            clear h1 hEQ hER hBR
            go_upto_region 27 with fail
            clear x0 x1 x2 x3 x4 y0 y1 y2 y3 y4 z0 z1 z2 z3 z4
            obtain ⟨e0, e1, e2, e3, e4⟩ := e
            dsimp only [newOf, upLa] at HSW ew
            refine wp_region_noPanic ?_
            refine wp_region_held_drew (S := (SP2 wr g2 (.int .i64 co) (.int .i64 fo) (.int .i64 ho) (.slice ax mq cx) (.slice (some ⟨bq, oq, none⟩) i cy) w.heap.size (.int .i64 co) (.int .i64 fo) (.int .i64 ho) (.slice am m cm) (.slice (some ⟨br, or', none⟩) i ce) bq (oq + k * 5) ⟨e0, e1, e2 + 1, [], -1⟩ (.slice az 0 cz) br (or' + k * 5) ⟨e0, e1, e2, e3, e4⟩ vr)) (by kernel_rfl) HSW.out (fun hHeld => ?_)
            refine wpAnyH_take (i := 0) (oi := _) (v := ?fv0h1n2) (by simp only [List.getElem?_toArray, List.getElem?_cons_zero]; rfl) (by kernel_rfl) (by kernel_rfl) (by kernel_rfl) (fun _ _ _ h => h) (Or.inl ⟨by rfl, ?fy0h1n2⟩) (by assumption) ?fr0h1n2
            case fy0h1n2 => (intro w hSw; (try dsimp only [SP2, C5, EnAt] at hSw); go_simp; try with_reducible rfl)
            try simp only [Act.put, List.setIfInBounds_toArray, List.set_cons_zero, List.set_cons_succ]
            refine wpAnyH_take (i := 1) (oi := _) (v := ?fv1h1n2) (by simp only [List.getElem?_toArray, List.getElem?_cons_zero, List.getElem?_cons_succ]; rfl) (by kernel_rfl) (by kernel_rfl) (by kernel_rfl) (fun _ _ _ h => h) (Or.inl ⟨by rfl, ?fy1h1n2⟩) (by assumption) ?fr1h1n2
            case fy1h1n2 => (intro w hSw; (try dsimp only [SP2, C5, EnAt] at hSw); go_simp; try with_reducible rfl)
            try simp only [Act.put, List.setIfInBounds_toArray, List.set_cons_zero, List.set_cons_succ]
            refine wpAnyH_take (i := 2) (oi := _) (v := ?fv2h1n2) (by simp only [List.getElem?_toArray, List.getElem?_cons_zero, List.getElem?_cons_succ]; rfl) (by kernel_rfl) (by kernel_rfl) (by kernel_rfl) (fun _ _ _ h => h) (Or.inl ⟨by rfl, ?fy2h1n2⟩) (by assumption) ?fr2h1n2
            case fy2h1n2 => (intro w hSw; (try dsimp only [SP2, C5, EnAt] at hSw); go_simp; try with_reducible rfl)
            try simp only [Act.put, List.setIfInBounds_toArray, List.set_cons_zero, List.set_cons_succ]
            refine wpAnyH_take (i := 3) (oi := _) (v := ?fv3h1n2) (by simp only [List.getElem?_toArray, List.getElem?_cons_zero, List.getElem?_cons_succ]; rfl) (by kernel_rfl) (by kernel_rfl) (by kernel_rfl) (fun _ _ _ h => h) (Or.inl ⟨by rfl, ?fy3h1n2⟩) (by assumption) ?fr3h1n2
            case fy3h1n2 => (intro w hSw; (try dsimp only [SP2, C5, EnAt] at hSw); go_simp; try with_reducible rfl)
            try simp only [Act.put, List.setIfInBounds_toArray, List.set_cons_zero, List.set_cons_succ]
            refine wpAnyH_take (i := 4) (oi := _) (v := ?fv4h1n2) (by simp only [List.getElem?_toArray, List.getElem?_cons_zero, List.getElem?_cons_succ]; rfl) (by kernel_rfl) (by kernel_rfl) (by kernel_rfl) (fun _ _ _ h => h) (Or.inl ⟨by rfl, ?fy4h1n2⟩) (by assumption) ?fr4h1n2
            case fy4h1n2 => (intro w hSw; (try dsimp only [SP2, C5, EnAt] at hSw); go_simp; try with_reducible rfl)
            try simp only [Act.put, List.setIfInBounds_toArray, List.set_cons_zero, List.set_cons_succ]
            refine wpAnyH_take (i := 5) (oi := _) (v := ?fv5h1n2) (by simp only [List.getElem?_toArray, List.getElem?_cons_zero, List.getElem?_cons_succ]; rfl) (by kernel_rfl) (by kernel_rfl) (by kernel_rfl) (fun _ _ _ h => h) (Or.inl ⟨by rfl, ?fy5h1n2⟩) (by assumption) ?fr5h1n2
            case fy5h1n2 => (intro w hSw; (try dsimp only [SP2, C5, EnAt] at hSw); go_simp; try with_reducible rfl)
            try simp only [Act.put, List.setIfInBounds_toArray, List.set_cons_zero, List.set_cons_succ]
            refine wpAnyH_take (i := 6) (oi := _) (v := ?fv6h1n2) (by simp only [List.getElem?_toArray, List.getElem?_cons_zero, List.getElem?_cons_succ]; rfl) (by kernel_rfl) (by kernel_rfl) (by kernel_rfl) (fun _ _ _ h => h) (Or.inl ⟨by rfl, ?fy6h1n2⟩) (by assumption) ?fr6h1n2
            case fy6h1n2 => (intro w hSw; (try dsimp only [SP2, C5, EnAt] at hSw); go_simp; try with_reducible rfl)
            try simp only [Act.put, List.setIfInBounds_toArray, List.set_cons_zero, List.set_cons_succ]
            refine wpAnyH_take (i := 7) (oi := _) (v := ?fv7h1n2) (by simp only [List.getElem?_toArray, List.getElem?_cons_zero, List.getElem?_cons_succ]; rfl) (by kernel_rfl) (by kernel_rfl) (by kernel_rfl) (fun _ _ _ h => h) (Or.inl ⟨by rfl, ?fy7h1n2⟩) (by assumption) ?fr7h1n2
            case fy7h1n2 => (intro w hSw; (try dsimp only [SP2, C5, EnAt] at hSw); go_simp; try with_reducible rfl)
            try simp only [Act.put, List.setIfInBounds_toArray, List.set_cons_zero, List.set_cons_succ]
            refine wpAnyH_take (i := 8) (oi := _) (v := ?fv8h1n2) (by simp only [List.getElem?_toArray, List.getElem?_cons_zero, List.getElem?_cons_succ]; rfl) (by kernel_rfl) (by kernel_rfl) (by kernel_rfl) (fun _ _ _ h => h) (Or.inl ⟨by rfl, ?fy8h1n2⟩) (by assumption) ?fr8h1n2
            case fy8h1n2 => (intro w hSw; (try dsimp only [SP2, C5, EnAt] at hSw); go_simp; try with_reducible rfl)
            try simp only [Act.put, List.setIfInBounds_toArray, List.set_cons_zero, List.set_cons_succ]
            refine wpAnyH_take (i := 9) (oi := _) (v := ?fv9h1n2) (by simp only [List.getElem?_toArray, List.getElem?_cons_zero, List.getElem?_cons_succ]; rfl) (by kernel_rfl) (by kernel_rfl) (by kernel_rfl) (fun _ _ _ h => h) (Or.inl ⟨by rfl, ?fy9h1n2⟩) (by assumption) ?fr9h1n2
            case fy9h1n2 => (intro w hSw; (try dsimp only [SP2, C5, EnAt] at hSw); go_simp; try with_reducible rfl)
            try simp only [Act.put, List.setIfInBounds_toArray, List.set_cons_zero, List.set_cons_succ]
            refine wpAnyH_take (i := 10) (oi := _) (v := ?fv10h1n2) (by simp only [List.getElem?_toArray, List.getElem?_cons_zero, List.getElem?_cons_succ]; rfl) (by kernel_rfl) (by kernel_rfl) (by kernel_rfl) (fun _ _ _ h => h) (Or.inl ⟨by rfl, ?fy10h1n2⟩) (by assumption) ?fr10h1n2
            case fy10h1n2 => (intro w hSw; (try dsimp only [SP2, C5, EnAt] at hSw); go_simp; try with_reducible rfl)
            try simp only [Act.put, List.setIfInBounds_toArray, List.set_cons_zero, List.set_cons_succ]
            refine wpAnyH_take (i := 11) (oi := _) (v := ?fv11h1n2) (by simp only [List.getElem?_toArray, List.getElem?_cons_zero, List.getElem?_cons_succ]; rfl) (by kernel_rfl) (by kernel_rfl) (by kernel_rfl) (fun _ _ _ h => h) (Or.inl ⟨by rfl, ?fy11h1n2⟩) (by assumption) ?fr11h1n2
            case fy11h1n2 => (intro w hSw; (try dsimp only [SP2, C5, EnAt] at hSw); go_simp; try with_reducible rfl)
            try simp only [Act.put, List.setIfInBounds_toArray, List.set_cons_zero, List.set_cons_succ]
            refine wpAnyH_take (i := 12) (oi := _) (v := ?fv12h1n2) (by simp only [List.getElem?_toArray, List.getElem?_cons_zero, List.getElem?_cons_succ]; rfl) (by kernel_rfl) (by kernel_rfl) (by kernel_rfl) (fun _ _ _ h => h) (Or.inl ⟨by rfl, ?fy12h1n2⟩) (by assumption) ?fr12h1n2
            case fy12h1n2 => (intro w hSw; (try dsimp only [SP2, C5, EnAt] at hSw); go_simp; try with_reducible rfl)
            try simp only [Act.put, List.setIfInBounds_toArray, List.set_cons_zero, List.set_cons_succ]
            refine wpAnyH_take (i := 13) (oi := _) (v := ?fv13h1n2) (by simp only [List.getElem?_toArray, List.getElem?_cons_zero, List.getElem?_cons_succ]; rfl) (by kernel_rfl) (by kernel_rfl) (by kernel_rfl) (fun _ _ _ h => h) (Or.inl ⟨by rfl, ?fy13h1n2⟩) (by assumption) ?fr13h1n2
            case fy13h1n2 => (intro w hSw; (try dsimp only [SP2, C5, EnAt] at hSw); go_simp; try with_reducible rfl)
            try simp only [Act.put, List.setIfInBounds_toArray, List.set_cons_zero, List.set_cons_succ]
            refine wpAnyH_take (i := 14) (oi := _) (v := ?fv14h1n2) (by simp only [List.getElem?_toArray, List.getElem?_cons_zero, List.getElem?_cons_succ]; rfl) (by kernel_rfl) (by kernel_rfl) (by kernel_rfl) (fun _ _ _ h => h) (Or.inl ⟨by rfl, ?fy14h1n2⟩) (by assumption) ?fr14h1n2
            case fy14h1n2 => (intro w hSw; (try dsimp only [SP2, C5, EnAt] at hSw); go_simp; try with_reducible rfl)
            try simp only [Act.put, List.setIfInBounds_toArray, List.set_cons_zero, List.set_cons_succ]
            refine wpAnyH_take (i := 15) (oi := _) (v := ?fv15h1n2) (by simp only [List.getElem?_toArray, List.getElem?_cons_zero, List.getElem?_cons_succ]; rfl) (by kernel_rfl) (by kernel_rfl) (by kernel_rfl) (fun _ _ _ h => h) (Or.inl ⟨by rfl, ?fy15h1n2⟩) (by assumption) ?fr15h1n2
            case fy15h1n2 => (intro w hSw; (try dsimp only [SP2, C5, EnAt] at hSw); go_simp; try with_reducible rfl)
            try simp only [Act.put, List.setIfInBounds_toArray, List.set_cons_zero, List.set_cons_succ]
            refine wpAnyH_take (i := 16) (oi := _) (v := ?fv16h1n2) (by simp only [List.getElem?_toArray, List.getElem?_cons_zero, List.getElem?_cons_succ]; rfl) (by kernel_rfl) (by kernel_rfl) (by kernel_rfl) (fun _ _ _ h => h) (Or.inl ⟨by rfl, ?fy16h1n2⟩) (by assumption) ?fr16h1n2
            case fy16h1n2 => (intro w hSw; (try dsimp only [SP2, C5, EnAt] at hSw); go_simp; try with_reducible rfl)
            try simp only [Act.put, List.setIfInBounds_toArray, List.set_cons_zero, List.set_cons_succ]
            refine wpAnyH_take (i := 17) (oi := _) (v := ?fv17h1n2) (by simp only [List.getElem?_toArray, List.getElem?_cons_zero, List.getElem?_cons_succ]; rfl) (by kernel_rfl) (by kernel_rfl) (by kernel_rfl) (fun _ _ _ h => h) (Or.inl ⟨by rfl, ?fy17h1n2⟩) (by assumption) ?fr17h1n2
            case fy17h1n2 => (intro w hSw; (try dsimp only [SP2, C5, EnAt] at hSw); go_simp; try with_reducible rfl)
            try simp only [Act.put, List.setIfInBounds_toArray, List.set_cons_zero, List.set_cons_succ]
            refine wpAnyH_take (i := 18) (oi := _) (v := ?fv18h1n2) (by simp only [List.getElem?_toArray, List.getElem?_cons_zero, List.getElem?_cons_succ]; rfl) (by kernel_rfl) (by kernel_rfl) (by kernel_rfl) (fun _ _ _ h => h) (Or.inl ⟨by rfl, ?fy18h1n2⟩) (by assumption) ?fr18h1n2
            case fy18h1n2 => (intro w hSw; (try dsimp only [SP2, C5, EnAt] at hSw); go_simp; try with_reducible rfl)
            try simp only [Act.put, List.setIfInBounds_toArray, List.set_cons_zero, List.set_cons_succ]
            refine wpAnyH_take (i := 19) (oi := _) (v := ?fv19h1n2) (by simp only [List.getElem?_toArray, List.getElem?_cons_zero, List.getElem?_cons_succ]; rfl) (by kernel_rfl) (by kernel_rfl) (by kernel_rfl) (fun _ _ _ h => h) (Or.inl ⟨by rfl, ?fy19h1n2⟩) (by assumption) ?fr19h1n2
            case fy19h1n2 => (intro w hSw; (try dsimp only [SP2, C5, EnAt] at hSw); go_simp; try with_reducible rfl)
            try simp only [Act.put, List.setIfInBounds_toArray, List.set_cons_zero, List.set_cons_succ]
            refine wpAnyH_take (i := 20) (oi := _) (v := ?fv20h1n2) (by simp only [List.getElem?_toArray, List.getElem?_cons_zero, List.getElem?_cons_succ]; rfl) (by kernel_rfl) (by kernel_rfl) (by kernel_rfl) (fun _ _ _ h => h) (Or.inl ⟨by rfl, ?fy20h1n2⟩) (by assumption) ?fr20h1n2
            case fy20h1n2 => (intro w hSw; (try dsimp only [SP2, C5, EnAt] at hSw); go_simp; try with_reducible rfl)
            try simp only [Act.put, List.setIfInBounds_toArray, List.set_cons_zero, List.set_cons_succ]
            refine wpAnyH_take (i := 21) (oi := _) (v := ?fv21h1n2) (by simp only [List.getElem?_toArray, List.getElem?_cons_zero, List.getElem?_cons_succ]; rfl) (by kernel_rfl) (by kernel_rfl) (by kernel_rfl) (fun _ _ _ h => h) (Or.inl ⟨by rfl, ?fy21h1n2⟩) (by assumption) ?fr21h1n2
            case fy21h1n2 => (intro w hSw; (try dsimp only [SP2, C5, EnAt] at hSw); go_simp; try with_reducible rfl)
            try simp only [Act.put, List.setIfInBounds_toArray, List.set_cons_zero, List.set_cons_succ]
            refine wpAnyH_take (i := 22) (oi := _) (v := ?fv22h1n2) (by simp only [List.getElem?_toArray, List.getElem?_cons_zero, List.getElem?_cons_succ]; rfl) (by kernel_rfl) (by kernel_rfl) (by kernel_rfl) (fun _ _ _ h => h) (Or.inl ⟨by rfl, ?fy22h1n2⟩) (by assumption) ?fr22h1n2
            case fy22h1n2 => (intro w hSw; (try dsimp only [SP2, C5, EnAt] at hSw); go_simp; try with_reducible rfl)
            try simp only [Act.put, List.setIfInBounds_toArray, List.set_cons_zero, List.set_cons_succ]
            refine wpAnyH_take (i := 23) (oi := _) (v := ?fv23h1n2) (by simp only [List.getElem?_toArray, List.getElem?_cons_zero, List.getElem?_cons_succ]; rfl) (by kernel_rfl) (by kernel_rfl) (by kernel_rfl) (fun _ _ _ h => h) (Or.inl ⟨by rfl, ?fy23h1n2⟩) (by assumption) ?fr23h1n2
            case fy23h1n2 => (intro w hSw; (try dsimp only [SP2, C5, EnAt] at hSw); go_simp; try with_reducible rfl)
            try simp only [Act.put, List.setIfInBounds_toArray, List.set_cons_zero, List.set_cons_succ]
            refine wpAnyH_take (i := 24) (oi := _) (v := ?fv24h1n2) (by simp only [List.getElem?_toArray, List.getElem?_cons_zero, List.getElem?_cons_succ]; rfl) (by kernel_rfl) (by kernel_rfl) (by kernel_rfl) (fun _ _ _ h => h) (Or.inl ⟨by rfl, ?fy24h1n2⟩) (by assumption) ?fr24h1n2
            case fy24h1n2 => (intro w hSw; (try dsimp only [SP2, C5, EnAt] at hSw); go_simp; try with_reducible rfl)
            try simp only [Act.put, List.setIfInBounds_toArray, List.set_cons_zero, List.set_cons_succ]
            refine wpAnyH_take (i := 25) (oi := _) (v := ?fv25h1n2) (by simp only [List.getElem?_toArray, List.getElem?_cons_zero, List.getElem?_cons_succ]; rfl) (by kernel_rfl) (by kernel_rfl) (by kernel_rfl) (fun _ _ _ h => h) (Or.inl ⟨by rfl, ?fy25h1n2⟩) (by assumption) ?fr25h1n2
            case fy25h1n2 => (intro w hSw; (try dsimp only [SP2, C5, EnAt] at hSw); go_simp; try with_reducible rfl)
            try simp only [Act.put, List.setIfInBounds_toArray, List.set_cons_zero, List.set_cons_succ]
            refine wpAnyH_take (i := 26) (oi := _) (v := ?fv26h1n2) (by simp only [List.getElem?_toArray, List.getElem?_cons_zero, List.getElem?_cons_succ]; rfl) (by kernel_rfl) (by kernel_rfl) (by kernel_rfl) (fun _ _ _ h => h) (Or.inl ⟨by rfl, ?fy26h1n2⟩) (by assumption) ?fr26h1n2
            case fy26h1n2 => (intro w hSw; (try dsimp only [SP2, C5, EnAt] at hSw); go_simp; try with_reducible rfl)
            try simp only [Act.put, List.setIfInBounds_toArray, List.set_cons_zero, List.set_cons_succ]
            refine wpAnyH_take (i := 27) (oi := _) (v := ?fv27h1n2) (by simp only [List.getElem?_toArray, List.getElem?_cons_zero, List.getElem?_cons_succ]; rfl) (by kernel_rfl) (by kernel_rfl) (by kernel_rfl) (fun _ _ _ h => h) (Or.inl ⟨by rfl, ?fy27h1n2⟩) (by assumption) ?fr27h1n2
            case fy27h1n2 => (intro w hSw; (try dsimp only [SP2, C5, EnAt] at hSw); go_simp; try with_reducible rfl)
            try simp only [Act.put, List.setIfInBounds_toArray, List.set_cons_zero, List.set_cons_succ]
            refine wpAnyH_take (i := 28) (oi := _) (v := ?fv28h1n2) (by simp only [List.getElem?_toArray, List.getElem?_cons_zero, List.getElem?_cons_succ]; rfl) (by kernel_rfl) (by kernel_rfl) (by kernel_rfl) (fun _ _ _ h => h) (Or.inl ⟨by rfl, ?fy28h1n2⟩) (by assumption) ?fr28h1n2
            case fy28h1n2 => (intro w hSw; (try dsimp only [SP2, C5, EnAt] at hSw); go_simp; try with_reducible rfl)
            try simp only [Act.put, List.setIfInBounds_toArray, List.set_cons_zero, List.set_cons_succ]
            refine wpAnyH_take (i := 29) (oi := _) (v := ?fv29h1n2) (by simp only [List.getElem?_toArray, List.getElem?_cons_zero, List.getElem?_cons_succ]; rfl) (by kernel_rfl) (by kernel_rfl) (by kernel_rfl) (fun _ _ _ h => h) (Or.inl ⟨by rfl, ?fy29h1n2⟩) (by assumption) ?fr29h1n2
            case fy29h1n2 => (intro w hSw; (try dsimp only [SP2, C5, EnAt] at hSw); go_simp; try with_reducible rfl)
            try simp only [Act.put, List.setIfInBounds_toArray, List.set_cons_zero, List.set_cons_succ]
            refine wpAnyH_take (i := 30) (oi := _) (v := ?fv30h1n2) (by simp only [List.getElem?_toArray, List.getElem?_cons_zero, List.getElem?_cons_succ]; rfl) (by kernel_rfl) (by kernel_rfl) (by kernel_rfl) (fun _ _ _ h => h) (Or.inl ⟨by rfl, ?fy30h1n2⟩) (by assumption) ?fr30h1n2
            case fy30h1n2 => (intro w hSw; (try dsimp only [SP2, C5, EnAt] at hSw); go_simp; try with_reducible rfl)
            try simp only [Act.put, List.setIfInBounds_toArray, List.set_cons_zero, List.set_cons_succ]
            refine wpAnyH_take (i := 31) (oi := _) (v := ?fv31h1n2) (by simp only [List.getElem?_toArray, List.getElem?_cons_zero, List.getElem?_cons_succ]; rfl) (by kernel_rfl) (by kernel_rfl) (by kernel_rfl) (fun _ _ _ h => h) (Or.inl ⟨by rfl, ?fy31h1n2⟩) (by assumption) ?fr31h1n2
            case fy31h1n2 => (intro w hSw; (try dsimp only [SP2, C5, EnAt] at hSw); go_simp; try with_reducible rfl)
            try simp only [Act.put, List.setIfInBounds_toArray, List.set_cons_zero, List.set_cons_succ]
            refine wpAnyH_take (i := 32) (oi := _) (v := ?fv32h1n2) (by simp only [List.getElem?_toArray, List.getElem?_cons_zero, List.getElem?_cons_succ]; rfl) (by kernel_rfl) (by kernel_rfl) (by kernel_rfl) (fun _ _ _ h => h) (Or.inl ⟨by rfl, ?fy32h1n2⟩) (by assumption) ?fr32h1n2
            case fy32h1n2 => (intro w hSw; (try dsimp only [SP2, C5, EnAt] at hSw); go_simp; try with_reducible rfl)
            try simp only [Act.put, List.setIfInBounds_toArray, List.set_cons_zero, List.set_cons_succ]
            refine wpAnyH_take (i := 33) (oi := _) (v := ?fv33h1n2) (by simp only [List.getElem?_toArray, List.getElem?_cons_zero, List.getElem?_cons_succ]; rfl) (by kernel_rfl) (by kernel_rfl) (by kernel_rfl) (fun _ _ _ h => h) (Or.inl ⟨by rfl, ?fy33h1n2⟩) (by assumption) ?fr33h1n2
            case fy33h1n2 => (intro w hSw; (try dsimp only [SP2, C5, EnAt] at hSw); go_simp; try with_reducible rfl)
            try simp only [Act.put, List.setIfInBounds_toArray, List.set_cons_zero, List.set_cons_succ]
            refine wpAnyH_take (i := 34) (oi := _) (v := ?fv34h1n2) (by simp only [List.getElem?_toArray, List.getElem?_cons_zero, List.getElem?_cons_succ]; rfl) (by kernel_rfl) (by kernel_rfl) (by kernel_rfl) (fun _ _ _ h => h) (Or.inl ⟨by rfl, ?fy34h1n2⟩) (by assumption) ?fr34h1n2
            case fy34h1n2 => (intro w hSw; (try dsimp only [SP2, C5, EnAt] at hSw); go_simp; try with_reducible rfl)
            try simp only [Act.put, List.setIfInBounds_toArray, List.set_cons_zero, List.set_cons_succ]
            refine wpAnyH_done (by kernel_rfl) ?_ _
            refine NoPanic.normal ?_
            have HFn := Lib.hid (HF.out.trans hHeld.1)
            clear hHeld HSW
            go_wp2
            go_roundw
            case rel => exact ⟨k + 1, by omega, by go_num, HFn⟩
            case measure => simp [intOf]; omega
          · have dk : ((k : Int) == (c : Int)) = false := by simp; omega
            obtain ⟨kk, hkk⟩ : ∃ kk, kk = if A.length < k then k - 1 else k := ⟨_, rfl⟩
            have hkn : kk < nb := by rw [hkk]; have := HLEN.out; have := HAC.out; split <;> omega
            obtain ⟨bp, op', vp, rfl, hEP, hBP⟩ := HPE.out.ent hkn
            rw [hkk, getD_split (e := e) k (by rw [← HES.out, ← HN.out]; exact hlt2) (by rw [HAC.out]; exact hkc), ← HES.out, ← hkk] at hEP
            rw [hkk, getD_split (e := e) k (by rw [← HES.out, ← HN.out]; exact hlt2) (by rw [HAC.out]; exact hkc), ← HES.out] at hBP
            rw [getD_other (e := e) k (by rw [HAC.out]; exact hkc), ← HES.out] at hEQ hBQ
            obtain ⟨f, hff⟩ : ∃ f, f = es.getD k zeroE := ⟨_, rfl⟩
            rw [← hff] at hEP hBP hEQ hBQ hER hBR
            have HBP := Lib.hid hBP
            have HBQ := Lib.hid hBQ
            have HBR := Lib.hid hBR
            have HKK := Lib.hid hkk
            have HSW : Hid (∀ V', Fr wr V' [] → SP3 wr w.heap.size (.int .i64 co) (.int .i64 fo) (.int .i64 ho) (.slice am m cm) (.slice (some ⟨br, or', none⟩) i ce) g1 (.int .i64 co) (.int .i64 fo) (.int .i64 ho) (.slice au m cu) (.slice (some ⟨bp, op', none⟩) nb cw) g2 (.int .i64 co) (.int .i64 fo) (.int .i64 ho) (.slice ax mq cx) (.slice (some ⟨bq, oq, none⟩) i cy) bp (op' + kk * 5) f vp br (or' + k * 5) vr bq (oq + k * 5) vq V') :=
              Lib.hid (fun V' hV => ⟨hV, (HSE.out _ (HF.out.trans hV)).1, (HSE.out _ (HF.out.trans hV)).2.1, (HSE.out _ (HF.out.trans hV)).2.2, hEP.keep (HF.out.trans hV), hER.keep (HF.out.trans hV), hEQ.keep (HF.out.trans hV)⟩)
            obtain ⟨f0, f1, f2, f3, f4⟩ := f
            clear hff hkk hBP hBQ hBR hEP hEQ hER
            dsimp only at HBP HBQ HBR
            have SE := Lib.hid (fun v1 v2 W h1 h2 => rsameEntry_any ⟨f0, f1, f2, f3, f4⟩ ⟨f0, f1, f2, f3, f4⟩ v1 v2 true (by simp) W h1 h2)
            unfold enV at SE
            dsimp only at SE
            go_upto_region 30 with fail
            clear x0 x1 x2 x3 x4 y0 y1 y2 y3 y4 z0 z1 z2 z3 z4
            obtain ⟨bc, hbc⟩ : ∃ bc, bc = decide ((c : Int) < (k : Int)) := ⟨_, rfl⟩
            have HBC := Lib.hid hbc
            go_cut [141] (fun s141 wx => s141 = .bool bc ∧ wr = wx)
            case first =>
              have dg : decide ((c : Int) < (k : Int)) = bc := hbc.symm
              clear hbc
              go_wp2
              go_meet
              exact ⟨congrArg _ (by rw [HBC.out, decide_eq_decide]; omega), rfl⟩
            case rest =>
            obtain ⟨rfl, hcut⟩ := hcut
            subst hcut
            clear hbc
            cases bc
            · have hck : ¬ c < k := fun q => by have := of_decide_eq_false HBC.out.symm; omega
              have HKQ : Hid (k = kk) := Lib.hid (by have := HKK.out; rw [HAC.out, if_neg hck] at this; exact this.symm)
              clear hck
              go_upto_region 32 with fail
              have HSW2 := HSW
              rw [← HKQ.out] at HSW2
              have hkn2 : (0 : Int) ≤ (k : Int) ∧ (k : Int) < (nb : Int) := by have := HKQ.out; omega
              refine wp_region_noPanic ?_
              refine wp_region_held_drew (S := (SP3 wr w.heap.size (.int .i64 co) (.int .i64 fo) (.int .i64 ho) (.slice am m cm) (.slice (some ⟨br, or', none⟩) i ce) g1 (.int .i64 co) (.int .i64 fo) (.int .i64 ho) (.slice au m cu) (.slice (some ⟨bp, op', none⟩) nb cw) g2 (.int .i64 co) (.int .i64 fo) (.int .i64 ho) (.slice ax mq cx) (.slice (some ⟨bq, oq, none⟩) i cy) bp (op' + k * 5) ⟨f0, f1, f2, f3, f4⟩ vp br (or' + k * 5) vr bq (oq + k * 5) vq)) (by kernel_rfl) (HSW2.out _ (Fr.drew wr [])) (fun hHeld => ?_)
              refine wpAnyH_take (i := 0) (oi := _) (v := ?fv0h3n4) (by simp only [List.getElem?_toArray, List.getElem?_cons_zero]; rfl) (by kernel_rfl) (by kernel_rfl) (by kernel_rfl) (fun _ _ _ h => h) (Or.inl ⟨by rfl, ?fy0h3n4⟩) (by assumption) ?fr0h3n4
              case fy0h3n4 => (intro w hSw; (try dsimp only [SP3, C5, EnAt] at hSw); go_simp; try with_reducible rfl)
              try simp only [Act.put, List.setIfInBounds_toArray, List.set_cons_zero, List.set_cons_succ]
              refine wpAnyH_take (i := 1) (oi := _) (v := ?fv1h3n4) (by simp only [List.getElem?_toArray, List.getElem?_cons_zero, List.getElem?_cons_succ]; rfl) (by kernel_rfl) (by kernel_rfl) (by kernel_rfl) (fun _ _ _ h => h) (Or.inl ⟨by rfl, ?fy1h3n4⟩) (by assumption) ?fr1h3n4
              case fy1h3n4 => (intro w hSw; (try dsimp only [SP3, C5, EnAt] at hSw); go_simp; try with_reducible rfl)
              try simp only [Act.put, List.setIfInBounds_toArray, List.set_cons_zero, List.set_cons_succ]
              refine wpAnyH_take (i := 2) (oi := _) (v := ?fv2h3n4) (by simp only [List.getElem?_toArray, List.getElem?_cons_zero, List.getElem?_cons_succ]; rfl) (by kernel_rfl) (by kernel_rfl) (by kernel_rfl) (fun _ _ _ h => h) (Or.inl ⟨by rfl, ?fy2h3n4⟩) (by assumption) ?fr2h3n4
              case fy2h3n4 => (intro w hSw; (try dsimp only [SP3, C5, EnAt] at hSw); go_simp; try with_reducible rfl)
              try simp only [Act.put, List.setIfInBounds_toArray, List.set_cons_zero, List.set_cons_succ]
              refine wpAnyH_take (i := 3) (oi := _) (v := ?fv3h3n4) (by simp only [List.getElem?_toArray, List.getElem?_cons_zero, List.getElem?_cons_succ]; rfl) (by kernel_rfl) (by kernel_rfl) (by kernel_rfl) (fun _ _ _ h => h) (Or.inl ⟨by rfl, ?fy3h3n4⟩) (by assumption) ?fr3h3n4
              case fy3h3n4 => (intro w hSw; (try dsimp only [SP3, C5, EnAt] at hSw); go_simp; try with_reducible rfl)
              try simp only [Act.put, List.setIfInBounds_toArray, List.set_cons_zero, List.set_cons_succ]
              refine wpAnyH_take (i := 4) (oi := _) (v := ?fv4h3n4) (by simp only [List.getElem?_toArray, List.getElem?_cons_zero, List.getElem?_cons_succ]; rfl) (by kernel_rfl) (by kernel_rfl) (by kernel_rfl) (fun _ _ _ h => h) (Or.inl ⟨by rfl, ?fy4h3n4⟩) (by assumption) ?fr4h3n4
              case fy4h3n4 => (intro w hSw; (try dsimp only [SP3, C5, EnAt] at hSw); go_simp; try with_reducible rfl)
              try simp only [Act.put, List.setIfInBounds_toArray, List.set_cons_zero, List.set_cons_succ]
              refine wpAnyH_take (i := 5) (oi := _) (v := ?fv5h3n4) (by simp only [List.getElem?_toArray, List.getElem?_cons_zero, List.getElem?_cons_succ]; rfl) (by kernel_rfl) (by kernel_rfl) (by kernel_rfl) (fun _ _ _ h => h) (Or.inl ⟨by rfl, ?fy5h3n4⟩) (by assumption) ?fr5h3n4
              case fy5h3n4 => (intro w hSw; (try dsimp only [SP3, C5, EnAt] at hSw); go_simp; try with_reducible rfl)
              try simp only [Act.put, List.setIfInBounds_toArray, List.set_cons_zero, List.set_cons_succ]
              refine wpAnyH_take (i := 6) (oi := _) (v := ?fv6h3n4) (by simp only [List.getElem?_toArray, List.getElem?_cons_zero, List.getElem?_cons_succ]; rfl) (by kernel_rfl) (by kernel_rfl) (by kernel_rfl) (fun _ _ _ h => h) (Or.inl ⟨by rfl, ?fy6h3n4⟩) (by assumption) ?fr6h3n4
              case fy6h3n4 => (intro w hSw; (try dsimp only [SP3, C5, EnAt] at hSw); go_simp; try with_reducible rfl)
              try simp only [Act.put, List.setIfInBounds_toArray, List.set_cons_zero, List.set_cons_succ]
              refine wpAnyH_take (i := 7) (oi := _) (v := ?fv7h3n4) (by simp only [List.getElem?_toArray, List.getElem?_cons_zero, List.getElem?_cons_succ]; rfl) (by kernel_rfl) (by kernel_rfl) (by kernel_rfl) (fun _ _ _ h => h) (Or.inl ⟨by rfl, ?fy7h3n4⟩) (by assumption) ?fr7h3n4
              case fy7h3n4 => (intro w hSw; (try dsimp only [SP3, C5, EnAt] at hSw); go_simp; try with_reducible rfl)
              try simp only [Act.put, List.setIfInBounds_toArray, List.set_cons_zero, List.set_cons_succ]
              refine wpAnyH_take (i := 8) (oi := _) (v := ?fv8h3n4) (by simp only [List.getElem?_toArray, List.getElem?_cons_zero, List.getElem?_cons_succ]; rfl) (by kernel_rfl) (by kernel_rfl) (by kernel_rfl) (fun _ _ _ h => h) (Or.inl ⟨by rfl, ?fy8h3n4⟩) (by assumption) ?fr8h3n4
              case fy8h3n4 => (intro w hSw; (try dsimp only [SP3, C5, EnAt] at hSw); go_simp; try with_reducible rfl)
              try simp only [Act.put, List.setIfInBounds_toArray, List.set_cons_zero, List.set_cons_succ]
              refine wpAnyH_take (i := 9) (oi := _) (v := ?fv9h3n4) (by simp only [List.getElem?_toArray, List.getElem?_cons_zero, List.getElem?_cons_succ]; rfl) (by kernel_rfl) (by kernel_rfl) (by kernel_rfl) (fun _ _ _ h => h) (Or.inl ⟨by rfl, ?fy9h3n4⟩) (by assumption) ?fr9h3n4
              case fy9h3n4 => (intro w hSw; (try dsimp only [SP3, C5, EnAt] at hSw); go_simp; try with_reducible rfl)
              try simp only [Act.put, List.setIfInBounds_toArray, List.set_cons_zero, List.set_cons_succ]
              refine wpAnyH_ready (rs := [10]) (by kernel_rfl) (by simp) ?_
              refine AllReadyH.cons (o := _) rfl (fun K hK => ?_) AllReadyH.nil
              go_simp
              ((with_reducible refine (SE.out vp vr _ (HBP.out.keep (HF.out.trans (Fr.drew wr []))) (HBR.out.keep (HF.out.trans (Fr.drew wr [])))).mono ?_); rintro x w6 ⟨rfl, hf⟩; have HF11 := Lib.hid ((Fr.drew wr []).trans hf); have hS := HSW2.out _ HF11.out; clear hf)
              go_wp2_with fail
              refine hK.out _ _ hS (fun hHeld => ?_)
              clear hK K
              try simp only [Act.put, List.setIfInBounds_toArray, List.set_cons_zero, List.set_cons_succ]
              refine wpAnyH_take (i := 11) (oi := _) (v := ?fv11h3n5) (by simp only [List.getElem?_toArray, List.getElem?_cons_zero, List.getElem?_cons_succ]; rfl) (by kernel_rfl) (by kernel_rfl) (by kernel_rfl) (fun _ _ _ h => h) (Or.inl ⟨by rfl, ?fy11h3n5⟩) (by assumption) ?fr11h3n5
              case fy11h3n5 => (intro w hSw; (try dsimp only [SP3, C5, EnAt] at hSw); go_simp; try with_reducible rfl)
              try simp only [Act.put, List.setIfInBounds_toArray, List.set_cons_zero, List.set_cons_succ]
              refine wpAnyH_take (i := 12) (oi := _) (v := ?fv12h3n5) (by simp only [List.getElem?_toArray, List.getElem?_cons_zero, List.getElem?_cons_succ]; rfl) (by kernel_rfl) (by kernel_rfl) (by kernel_rfl) (fun _ _ _ h => h) (Or.inl ⟨by rfl, ?fy12h3n5⟩) (by assumption) ?fr12h3n5
              case fy12h3n5 => (intro w hSw; (try dsimp only [SP3, C5, EnAt] at hSw); go_simp; try with_reducible rfl)
              try simp only [Act.put, List.setIfInBounds_toArray, List.set_cons_zero, List.set_cons_succ]
              refine wpAnyH_take (i := 13) (oi := _) (v := ?fv13h3n5) (by simp only [List.getElem?_toArray, List.getElem?_cons_zero, List.getElem?_cons_succ]; rfl) (by kernel_rfl) (by kernel_rfl) (by kernel_rfl) (fun _ _ _ h => h) (Or.inl ⟨by rfl, ?fy13h3n5⟩) (by assumption) ?fr13h3n5
              case fy13h3n5 => (intro w hSw; (try dsimp only [SP3, C5, EnAt] at hSw); go_simp; try with_reducible rfl)
              try simp only [Act.put, List.setIfInBounds_toArray, List.set_cons_zero, List.set_cons_succ]
              refine wpAnyH_take (i := 14) (oi := _) (v := ?fv14h3n5) (by simp only [List.getElem?_toArray, List.getElem?_cons_zero, List.getElem?_cons_succ]; rfl) (by kernel_rfl) (by kernel_rfl) (by kernel_rfl) (fun _ _ _ h => h) (Or.inl ⟨by rfl, ?fy14h3n5⟩) (by assumption) ?fr14h3n5
              case fy14h3n5 => (intro w hSw; (try dsimp only [SP3, C5, EnAt] at hSw); go_simp; try with_reducible rfl)
              try simp only [Act.put, List.setIfInBounds_toArray, List.set_cons_zero, List.set_cons_succ]
              refine wpAnyH_take (i := 15) (oi := _) (v := ?fv15h3n5) (by simp only [List.getElem?_toArray, List.getElem?_cons_zero, List.getElem?_cons_succ]; rfl) (by kernel_rfl) (by kernel_rfl) (by kernel_rfl) (fun _ _ _ h => h) (Or.inl ⟨by rfl, ?fy15h3n5⟩) (by assumption) ?fr15h3n5
              case fy15h3n5 => (intro w hSw; (try dsimp only [SP3, C5, EnAt] at hSw); go_simp; try with_reducible rfl)
              try simp only [Act.put, List.setIfInBounds_toArray, List.set_cons_zero, List.set_cons_succ]
              refine wpAnyH_take (i := 16) (oi := _) (v := ?fv16h3n5) (by simp only [List.getElem?_toArray, List.getElem?_cons_zero, List.getElem?_cons_succ]; rfl) (by kernel_rfl) (by kernel_rfl) (by kernel_rfl) (fun _ _ _ h => h) (Or.inl ⟨by rfl, ?fy16h3n5⟩) (by assumption) ?fr16h3n5
              case fy16h3n5 => (intro w hSw; (try dsimp only [SP3, C5, EnAt] at hSw); go_simp; try with_reducible rfl)
              try simp only [Act.put, List.setIfInBounds_toArray, List.set_cons_zero, List.set_cons_succ]
              refine wpAnyH_take (i := 17) (oi := _) (v := ?fv17h3n5) (by simp only [List.getElem?_toArray, List.getElem?_cons_zero, List.getElem?_cons_succ]; rfl) (by kernel_rfl) (by kernel_rfl) (by kernel_rfl) (fun _ _ _ h => h) (Or.inl ⟨by rfl, ?fy17h3n5⟩) (by assumption) ?fr17h3n5
              case fy17h3n5 => (intro w hSw; (try dsimp only [SP3, C5, EnAt] at hSw); go_simp; try with_reducible rfl)
              try simp only [Act.put, List.setIfInBounds_toArray, List.set_cons_zero, List.set_cons_succ]
              refine wpAnyH_take (i := 18) (oi := _) (v := ?fv18h3n5) (by simp only [List.getElem?_toArray, List.getElem?_cons_zero, List.getElem?_cons_succ]; rfl) (by kernel_rfl) (by kernel_rfl) (by kernel_rfl) (fun _ _ _ h => h) (Or.inl ⟨by rfl, ?fy18h3n5⟩) (by assumption) ?fr18h3n5
              case fy18h3n5 => (intro w hSw; (try dsimp only [SP3, C5, EnAt] at hSw); go_simp; try with_reducible rfl)
              try simp only [Act.put, List.setIfInBounds_toArray, List.set_cons_zero, List.set_cons_succ]
              refine wpAnyH_take (i := 19) (oi := _) (v := ?fv19h3n5) (by simp only [List.getElem?_toArray, List.getElem?_cons_zero, List.getElem?_cons_succ]; rfl) (by kernel_rfl) (by kernel_rfl) (by kernel_rfl) (fun _ _ _ h => h) (Or.inl ⟨by rfl, ?fy19h3n5⟩) (by assumption) ?fr19h3n5
              case fy19h3n5 => (intro w hSw; (try dsimp only [SP3, C5, EnAt] at hSw); go_simp; try with_reducible rfl)
              try simp only [Act.put, List.setIfInBounds_toArray, List.set_cons_zero, List.set_cons_succ]
              refine wpAnyH_take (i := 20) (oi := _) (v := ?fv20h3n5) (by simp only [List.getElem?_toArray, List.getElem?_cons_zero, List.getElem?_cons_succ]; rfl) (by kernel_rfl) (by kernel_rfl) (by kernel_rfl) (fun _ _ _ h => h) (Or.inl ⟨by rfl, ?fy20h3n5⟩) (by assumption) ?fr20h3n5
              case fy20h3n5 => (intro w hSw; (try dsimp only [SP3, C5, EnAt] at hSw); go_simp; try with_reducible rfl)
              try simp only [Act.put, List.setIfInBounds_toArray, List.set_cons_zero, List.set_cons_succ]
              refine wpAnyH_take (i := 21) (oi := _) (v := ?fv21h3n5) (by simp only [List.getElem?_toArray, List.getElem?_cons_zero, List.getElem?_cons_succ]; rfl) (by kernel_rfl) (by kernel_rfl) (by kernel_rfl) (fun _ _ _ h => h) (Or.inl ⟨by rfl, ?fy21h3n5⟩) (by assumption) ?fr21h3n5
              case fy21h3n5 => (intro w hSw; (try dsimp only [SP3, C5, EnAt] at hSw); go_simp; try with_reducible rfl)
              try simp only [Act.put, List.setIfInBounds_toArray, List.set_cons_zero, List.set_cons_succ]
              refine wpAnyH_take (i := 22) (oi := _) (v := ?fv22h3n5) (by simp only [List.getElem?_toArray, List.getElem?_cons_zero, List.getElem?_cons_succ]; rfl) (by kernel_rfl) (by kernel_rfl) (by kernel_rfl) (fun _ _ _ h => h) (Or.inl ⟨by rfl, ?fy22h3n5⟩) (by assumption) ?fr22h3n5
              case fy22h3n5 => (intro w hSw; (try dsimp only [SP3, C5, EnAt] at hSw); go_simp; try with_reducible rfl)
              try simp only [Act.put, List.setIfInBounds_toArray, List.set_cons_zero, List.set_cons_succ]
              refine wpAnyH_ready (rs := [23]) (by kernel_rfl) (by simp) ?_
              refine AllReadyH.cons (o := _) rfl (fun K hK => ?_) AllReadyH.nil
              go_simp
              ((with_reducible refine (SE.out vq vr _ (HBQ.out.keep (HF.out.trans HF11.out)) (HBR.out.keep (HF.out.trans HF11.out))).mono ?_); rintro x w7 ⟨rfl, hf⟩; have HF12 := Lib.hid (HF11.out.trans hf); have hS := HSW2.out _ HF12.out; clear hf)
              go_wp2_with fail
              refine hK.out _ _ hS (fun hHeld => ?_)
              clear hK K
              try simp only [Act.put, List.setIfInBounds_toArray, List.set_cons_zero, List.set_cons_succ]
              refine wpAnyH_take (i := 24) (oi := _) (v := ?fv24h3n6) (by simp only [List.getElem?_toArray, List.getElem?_cons_zero, List.getElem?_cons_succ]; rfl) (by kernel_rfl) (by kernel_rfl) (by kernel_rfl) (fun _ _ _ h => h) (Or.inl ⟨by rfl, ?fy24h3n6⟩) (by assumption) ?fr24h3n6
              case fy24h3n6 => (intro w hSw; (try dsimp only [SP3, C5, EnAt] at hSw); go_simp; try with_reducible rfl)
              try simp only [Act.put, List.setIfInBounds_toArray, List.set_cons_zero, List.set_cons_succ]
              refine wpAnyH_take (i := 25) (oi := _) (v := ?fv25h3n6) (by simp only [List.getElem?_toArray, List.getElem?_cons_zero, List.getElem?_cons_succ]; rfl) (by kernel_rfl) (by kernel_rfl) (by kernel_rfl) (fun _ _ _ h => h) (Or.inl ⟨by rfl, ?fy25h3n6⟩) (by assumption) ?fr25h3n6
              case fy25h3n6 => (intro w hSw; (try dsimp only [SP3, C5, EnAt] at hSw); go_simp; try with_reducible rfl)
              try simp only [Act.put, List.setIfInBounds_toArray, List.set_cons_zero, List.set_cons_succ]
              refine wpAnyH_done (by kernel_rfl) ?_ _
              refine NoPanic.normal ?_
              have HFn := Lib.hid (HF.out.trans HF12.out)
              clear hHeld hS HSW HSW2
              go_wp2
              go_roundw
              case rel => exact ⟨k + 1, by omega, by go_num, HFn⟩
              case measure => simp [intOf]; omega
            · have hck : c < k := by have := of_decide_eq_true HBC.out.symm; omega
              have HKQ : Hid ((k : Int) - 1 = (kk : Int)) := Lib.hid (by have := HKK.out; rw [HAC.out, if_pos hck] at this; omega)
              have hk1 : 1 ≤ k := by omega
              clear hck
              go_upto_region 32 with fail
              rw [HKQ.out]
              have hkn2 : (0 : Int) ≤ (kk : Int) ∧ (kk : Int) < (nb : Int) := by omega
              refine wp_region_noPanic ?_
              refine wp_region_held_drew (S := (SP3 wr w.heap.size (.int .i64 co) (.int .i64 fo) (.int .i64 ho) (.slice am m cm) (.slice (some ⟨br, or', none⟩) i ce) g1 (.int .i64 co) (.int .i64 fo) (.int .i64 ho) (.slice au m cu) (.slice (some ⟨bp, op', none⟩) nb cw) g2 (.int .i64 co) (.int .i64 fo) (.int .i64 ho) (.slice ax mq cx) (.slice (some ⟨bq, oq, none⟩) i cy) bp (op' + kk * 5) ⟨f0, f1, f2, f3, f4⟩ vp br (or' + k * 5) vr bq (oq + k * 5) vq)) (by kernel_rfl) (HSW.out _ (Fr.drew wr [])) (fun hHeld => ?_)
              refine wpAnyH_take (i := 0) (oi := _) (v := ?fv0h7n8) (by simp only [List.getElem?_toArray, List.getElem?_cons_zero]; rfl) (by kernel_rfl) (by kernel_rfl) (by kernel_rfl) (fun _ _ _ h => h) (Or.inl ⟨by rfl, ?fy0h7n8⟩) (by assumption) ?fr0h7n8
              case fy0h7n8 => (intro w hSw; (try dsimp only [SP3, C5, EnAt] at hSw); go_simp; try with_reducible rfl)
              try simp only [Act.put, List.setIfInBounds_toArray, List.set_cons_zero, List.set_cons_succ]
              refine wpAnyH_take (i := 1) (oi := _) (v := ?fv1h7n8) (by simp only [List.getElem?_toArray, List.getElem?_cons_zero, List.getElem?_cons_succ]; rfl) (by kernel_rfl) (by kernel_rfl) (by kernel_rfl) (fun _ _ _ h => h) (Or.inl ⟨by rfl, ?fy1h7n8⟩) (by assumption) ?fr1h7n8
              case fy1h7n8 => (intro w hSw; (try dsimp only [SP3, C5, EnAt] at hSw); go_simp; try with_reducible rfl)
              try simp only [Act.put, List.setIfInBounds_toArray, List.set_cons_zero, List.set_cons_succ]
              refine wpAnyH_take (i := 2) (oi := _) (v := ?fv2h7n8) (by simp only [List.getElem?_toArray, List.getElem?_cons_zero, List.getElem?_cons_succ]; rfl) (by kernel_rfl) (by kernel_rfl) (by kernel_rfl) (fun _ _ _ h => h) (Or.inl ⟨by rfl, ?fy2h7n8⟩) (by assumption) ?fr2h7n8
              case fy2h7n8 => (intro w hSw; (try dsimp only [SP3, C5, EnAt] at hSw); go_simp; try with_reducible rfl)
              try simp only [Act.put, List.setIfInBounds_toArray, List.set_cons_zero, List.set_cons_succ]
              refine wpAnyH_take (i := 3) (oi := _) (v := ?fv3h7n8) (by simp only [List.getElem?_toArray, List.getElem?_cons_zero, List.getElem?_cons_succ]; rfl) (by kernel_rfl) (by kernel_rfl) (by kernel_rfl) (fun _ _ _ h => h) (Or.inl ⟨by rfl, ?fy3h7n8⟩) (by assumption) ?fr3h7n8
              case fy3h7n8 => (intro w hSw; (try dsimp only [SP3, C5, EnAt] at hSw); go_simp; try with_reducible rfl)
              try simp only [Act.put, List.setIfInBounds_toArray, List.set_cons_zero, List.set_cons_succ]
              refine wpAnyH_take (i := 4) (oi := _) (v := ?fv4h7n8) (by simp only [List.getElem?_toArray, List.getElem?_cons_zero, List.getElem?_cons_succ]; rfl) (by kernel_rfl) (by kernel_rfl) (by kernel_rfl) (fun _ _ _ h => h) (Or.inl ⟨by rfl, ?fy4h7n8⟩) (by assumption) ?fr4h7n8
              case fy4h7n8 => (intro w hSw; (try dsimp only [SP3, C5, EnAt] at hSw); go_simp; try with_reducible rfl)
              try simp only [Act.put, List.setIfInBounds_toArray, List.set_cons_zero, List.set_cons_succ]
              refine wpAnyH_take (i := 5) (oi := _) (v := ?fv5h7n8) (by simp only [List.getElem?_toArray, List.getElem?_cons_zero, List.getElem?_cons_succ]; rfl) (by kernel_rfl) (by kernel_rfl) (by kernel_rfl) (fun _ _ _ h => h) (Or.inl ⟨by rfl, ?fy5h7n8⟩) (by assumption) ?fr5h7n8
              case fy5h7n8 => (intro w hSw; (try dsimp only [SP3, C5, EnAt] at hSw); go_simp; try with_reducible rfl)
              try simp only [Act.put, List.setIfInBounds_toArray, List.set_cons_zero, List.set_cons_succ]
              refine wpAnyH_take (i := 6) (oi := _) (v := ?fv6h7n8) (by simp only [List.getElem?_toArray, List.getElem?_cons_zero, List.getElem?_cons_succ]; rfl) (by kernel_rfl) (by kernel_rfl) (by kernel_rfl) (fun _ _ _ h => h) (Or.inl ⟨by rfl, ?fy6h7n8⟩) (by assumption) ?fr6h7n8
              case fy6h7n8 => (intro w hSw; (try dsimp only [SP3, C5, EnAt] at hSw); go_simp; try with_reducible rfl)
              try simp only [Act.put, List.setIfInBounds_toArray, List.set_cons_zero, List.set_cons_succ]
              refine wpAnyH_take (i := 7) (oi := _) (v := ?fv7h7n8) (by simp only [List.getElem?_toArray, List.getElem?_cons_zero, List.getElem?_cons_succ]; rfl) (by kernel_rfl) (by kernel_rfl) (by kernel_rfl) (fun _ _ _ h => h) (Or.inl ⟨by rfl, ?fy7h7n8⟩) (by assumption) ?fr7h7n8
              case fy7h7n8 => (intro w hSw; (try dsimp only [SP3, C5, EnAt] at hSw); go_simp; try with_reducible rfl)
              try simp only [Act.put, List.setIfInBounds_toArray, List.set_cons_zero, List.set_cons_succ]
              refine wpAnyH_take (i := 8) (oi := _) (v := ?fv8h7n8) (by simp only [List.getElem?_toArray, List.getElem?_cons_zero, List.getElem?_cons_succ]; rfl) (by kernel_rfl) (by kernel_rfl) (by kernel_rfl) (fun _ _ _ h => h) (Or.inl ⟨by rfl, ?fy8h7n8⟩) (by assumption) ?fr8h7n8
              case fy8h7n8 => (intro w hSw; (try dsimp only [SP3, C5, EnAt] at hSw); go_simp; try with_reducible rfl)
              try simp only [Act.put, List.setIfInBounds_toArray, List.set_cons_zero, List.set_cons_succ]
              refine wpAnyH_take (i := 9) (oi := _) (v := ?fv9h7n8) (by simp only [List.getElem?_toArray, List.getElem?_cons_zero, List.getElem?_cons_succ]; rfl) (by kernel_rfl) (by kernel_rfl) (by kernel_rfl) (fun _ _ _ h => h) (Or.inl ⟨by rfl, ?fy9h7n8⟩) (by assumption) ?fr9h7n8
              case fy9h7n8 => (intro w hSw; (try dsimp only [SP3, C5, EnAt] at hSw); go_simp; try with_reducible rfl)
              try simp only [Act.put, List.setIfInBounds_toArray, List.set_cons_zero, List.set_cons_succ]
              refine wpAnyH_ready (rs := [10]) (by kernel_rfl) (by simp) ?_
              refine AllReadyH.cons (o := _) rfl (fun K hK => ?_) AllReadyH.nil
              go_simp
              ((with_reducible refine (SE.out vp vr _ (HBP.out.keep (HF.out.trans (Fr.drew wr []))) (HBR.out.keep (HF.out.trans (Fr.drew wr [])))).mono ?_); rintro x w6 ⟨rfl, hf⟩; have HF11 := Lib.hid ((Fr.drew wr []).trans hf); have hS := HSW.out _ HF11.out; clear hf)
              go_wp2_with fail
              refine hK.out _ _ hS (fun hHeld => ?_)
              clear hK K
              try simp only [Act.put, List.setIfInBounds_toArray, List.set_cons_zero, List.set_cons_succ]
              refine wpAnyH_take (i := 11) (oi := _) (v := ?fv11h7n9) (by simp only [List.getElem?_toArray, List.getElem?_cons_zero, List.getElem?_cons_succ]; rfl) (by kernel_rfl) (by kernel_rfl) (by kernel_rfl) (fun _ _ _ h => h) (Or.inl ⟨by rfl, ?fy11h7n9⟩) (by assumption) ?fr11h7n9
              case fy11h7n9 => (intro w hSw; (try dsimp only [SP3, C5, EnAt] at hSw); go_simp; try with_reducible rfl)
              try simp only [Act.put, List.setIfInBounds_toArray, List.set_cons_zero, List.set_cons_succ]
              refine wpAnyH_take (i := 12) (oi := _) (v := ?fv12h7n9) (by simp only [List.getElem?_toArray, List.getElem?_cons_zero, List.getElem?_cons_succ]; rfl) (by kernel_rfl) (by kernel_rfl) (by kernel_rfl) (fun _ _ _ h => h) (Or.inl ⟨by rfl, ?fy12h7n9⟩) (by assumption) ?fr12h7n9
              case fy12h7n9 => (intro w hSw; (try dsimp only [SP3, C5, EnAt] at hSw); go_simp; try with_reducible rfl)
              try simp only [Act.put, List.setIfInBounds_toArray, List.set_cons_zero, List.set_cons_succ]
              refine wpAnyH_take (i := 13) (oi := _) (v := ?fv13h7n9) (by simp only [List.getElem?_toArray, List.getElem?_cons_zero, List.getElem?_cons_succ]; rfl) (by kernel_rfl) (by kernel_rfl) (by kernel_rfl) (fun _ _ _ h => h) (Or.inl ⟨by rfl, ?fy13h7n9⟩) (by assumption) ?fr13h7n9
              case fy13h7n9 => (intro w hSw; (try dsimp only [SP3, C5, EnAt] at hSw); go_simp; try with_reducible rfl)
              try simp only [Act.put, List.setIfInBounds_toArray, List.set_cons_zero, List.set_cons_succ]
              refine wpAnyH_take (i := 14) (oi := _) (v := ?fv14h7n9) (by simp only [List.getElem?_toArray, List.getElem?_cons_zero, List.getElem?_cons_succ]; rfl) (by kernel_rfl) (by kernel_rfl) (by kernel_rfl) (fun _ _ _ h => h) (Or.inl ⟨by rfl, ?fy14h7n9⟩) (by assumption) ?fr14h7n9
              case fy14h7n9 => (intro w hSw; (try dsimp only [SP3, C5, EnAt] at hSw); go_simp; try with_reducible rfl)
              try simp only [Act.put, List.setIfInBounds_toArray, List.set_cons_zero, List.set_cons_succ]
              refine wpAnyH_take (i := 15) (oi := _) (v := ?fv15h7n9) (by simp only [List.getElem?_toArray, List.getElem?_cons_zero, List.getElem?_cons_succ]; rfl) (by kernel_rfl) (by kernel_rfl) (by kernel_rfl) (fun _ _ _ h => h) (Or.inl ⟨by rfl, ?fy15h7n9⟩) (by assumption) ?fr15h7n9
              case fy15h7n9 => (intro w hSw; (try dsimp only [SP3, C5, EnAt] at hSw); go_simp; try with_reducible rfl)
              try simp only [Act.put, List.setIfInBounds_toArray, List.set_cons_zero, List.set_cons_succ]
              refine wpAnyH_take (i := 16) (oi := _) (v := ?fv16h7n9) (by simp only [List.getElem?_toArray, List.getElem?_cons_zero, List.getElem?_cons_succ]; rfl) (by kernel_rfl) (by kernel_rfl) (by kernel_rfl) (fun _ _ _ h => h) (Or.inl ⟨by rfl, ?fy16h7n9⟩) (by assumption) ?fr16h7n9
              case fy16h7n9 => (intro w hSw; (try dsimp only [SP3, C5, EnAt] at hSw); go_simp; try with_reducible rfl)
              try simp only [Act.put, List.setIfInBounds_toArray, List.set_cons_zero, List.set_cons_succ]
              refine wpAnyH_take (i := 17) (oi := _) (v := ?fv17h7n9) (by simp only [List.getElem?_toArray, List.getElem?_cons_zero, List.getElem?_cons_succ]; rfl) (by kernel_rfl) (by kernel_rfl) (by kernel_rfl) (fun _ _ _ h => h) (Or.inl ⟨by rfl, ?fy17h7n9⟩) (by assumption) ?fr17h7n9
              case fy17h7n9 => (intro w hSw; (try dsimp only [SP3, C5, EnAt] at hSw); go_simp; try with_reducible rfl)
              try simp only [Act.put, List.setIfInBounds_toArray, List.set_cons_zero, List.set_cons_succ]
              refine wpAnyH_take (i := 18) (oi := _) (v := ?fv18h7n9) (by simp only [List.getElem?_toArray, List.getElem?_cons_zero, List.getElem?_cons_succ]; rfl) (by kernel_rfl) (by kernel_rfl) (by kernel_rfl) (fun _ _ _ h => h) (Or.inl ⟨by rfl, ?fy18h7n9⟩) (by assumption) ?fr18h7n9
              case fy18h7n9 => (intro w hSw; (try dsimp only [SP3, C5, EnAt] at hSw); go_simp; try with_reducible rfl)
              try simp only [Act.put, List.setIfInBounds_toArray, List.set_cons_zero, List.set_cons_succ]
              refine wpAnyH_take (i := 19) (oi := _) (v := ?fv19h7n9) (by simp only [List.getElem?_toArray, List.getElem?_cons_zero, List.getElem?_cons_succ]; rfl) (by kernel_rfl) (by kernel_rfl) (by kernel_rfl) (fun _ _ _ h => h) (Or.inl ⟨by rfl, ?fy19h7n9⟩) (by assumption) ?fr19h7n9
              case fy19h7n9 => (intro w hSw; (try dsimp only [SP3, C5, EnAt] at hSw); go_simp; try with_reducible rfl)
              try simp only [Act.put, List.setIfInBounds_toArray, List.set_cons_zero, List.set_cons_succ]
              refine wpAnyH_take (i := 20) (oi := _) (v := ?fv20h7n9) (by simp only [List.getElem?_toArray, List.getElem?_cons_zero, List.getElem?_cons_succ]; rfl) (by kernel_rfl) (by kernel_rfl) (by kernel_rfl) (fun _ _ _ h => h) (Or.inl ⟨by rfl, ?fy20h7n9⟩) (by assumption) ?fr20h7n9
              case fy20h7n9 => (intro w hSw; (try dsimp only [SP3, C5, EnAt] at hSw); go_simp; try with_reducible rfl)
              try simp only [Act.put, List.setIfInBounds_toArray, List.set_cons_zero, List.set_cons_succ]
              refine wpAnyH_take (i := 21) (oi := _) (v := ?fv21h7n9) (by simp only [List.getElem?_toArray, List.getElem?_cons_zero, List.getElem?_cons_succ]; rfl) (by kernel_rfl) (by kernel_rfl) (by kernel_rfl) (fun _ _ _ h => h) (Or.inl ⟨by rfl, ?fy21h7n9⟩) (by assumption) ?fr21h7n9
              case fy21h7n9 => (intro w hSw; (try dsimp only [SP3, C5, EnAt] at hSw); go_simp; try with_reducible rfl)
              try simp only [Act.put, List.setIfInBounds_toArray, List.set_cons_zero, List.set_cons_succ]
              refine wpAnyH_take (i := 22) (oi := _) (v := ?fv22h7n9) (by simp only [List.getElem?_toArray, List.getElem?_cons_zero, List.getElem?_cons_succ]; rfl) (by kernel_rfl) (by kernel_rfl) (by kernel_rfl) (fun _ _ _ h => h) (Or.inl ⟨by rfl, ?fy22h7n9⟩) (by assumption) ?fr22h7n9
              case fy22h7n9 => (intro w hSw; (try dsimp only [SP3, C5, EnAt] at hSw); go_simp; try with_reducible rfl)
              try simp only [Act.put, List.setIfInBounds_toArray, List.set_cons_zero, List.set_cons_succ]
              refine wpAnyH_ready (rs := [23]) (by kernel_rfl) (by simp) ?_
              refine AllReadyH.cons (o := _) rfl (fun K hK => ?_) AllReadyH.nil
              go_simp
              ((with_reducible refine (SE.out vq vr _ (HBQ.out.keep (HF.out.trans HF11.out)) (HBR.out.keep (HF.out.trans HF11.out))).mono ?_); rintro x w7 ⟨rfl, hf⟩; have HF12 := Lib.hid (HF11.out.trans hf); have hS := HSW.out _ HF12.out; clear hf)
              go_wp2_with fail
              refine hK.out _ _ hS (fun hHeld => ?_)
              clear hK K
              try simp only [Act.put, List.setIfInBounds_toArray, List.set_cons_zero, List.set_cons_succ]
              refine wpAnyH_take (i := 24) (oi := _) (v := ?fv24h7n10) (by simp only [List.getElem?_toArray, List.getElem?_cons_zero, List.getElem?_cons_succ]; rfl) (by kernel_rfl) (by kernel_rfl) (by kernel_rfl) (fun _ _ _ h => h) (Or.inl ⟨by rfl, ?fy24h7n10⟩) (by assumption) ?fr24h7n10
              case fy24h7n10 => (intro w hSw; (try dsimp only [SP3, C5, EnAt] at hSw); go_simp; try with_reducible rfl)
              try simp only [Act.put, List.setIfInBounds_toArray, List.set_cons_zero, List.set_cons_succ]
              refine wpAnyH_take (i := 25) (oi := _) (v := ?fv25h7n10) (by simp only [List.getElem?_toArray, List.getElem?_cons_zero, List.getElem?_cons_succ]; rfl) (by kernel_rfl) (by kernel_rfl) (by kernel_rfl) (fun _ _ _ h => h) (Or.inl ⟨by rfl, ?fy25h7n10⟩) (by assumption) ?fr25h7n10
              case fy25h7n10 => (intro w hSw; (try dsimp only [SP3, C5, EnAt] at hSw); go_simp; try with_reducible rfl)
              try simp only [Act.put, List.setIfInBounds_toArray, List.set_cons_zero, List.set_cons_succ]
              refine wpAnyH_done (by kernel_rfl) ?_ _
              refine NoPanic.normal ?_
              have HFn := Lib.hid (HF.out.trans HF12.out)
              clear hHeld hS HSW
              go_wp2
              go_roundw
              case rel => exact ⟨k + 1, by omega, by go_num, HFn⟩
              case measure => simp [intOf]; omega
        · have dl2 : decide ((k : Int) < (i : Int)) = false := decide_eq_false (by omega)
          have SI := Lib.hid (rsameInts_any _ ms _ ms wr (HPM.out.keep HF.out) (HRM.out.keep HF.out) true (by simp))
          have HFn := Lib.hid (HFW.out.trans HF.out)
          go_wp2_with fail
          with_reducible refine (SI.out).mono ?_
          rintro x w6 ⟨rfl, hf⟩
          have HFz := Lib.hid (HFn.out.trans hf)
          clear hf
          go_wp2
          go_ret
          exact ⟨rfl, HFz.out⟩
theorem lpurges_walk (r : Rg) (vm ve : Value) (k1 : Int) (W : World) (hm : HInts W vm r.ms) (he : HE W ve r.es) (hb : -9223372036854775808 ≤ k1 ∧ k1 ≤ 9223372036854775807) :
    Calls Try.prog 7 #[rgV r vm ve, .int .i64 k1] W fun x w' => x = .returned (.bool true) ∧ W.grownBy w' none :=
  (lpurges_true r vm ve k1 W hm he hb).mono fun _ _ ⟨he, hf⟩ => ⟨he, hf.grown (by simp)⟩
end Go.Proofs.Ytldheaamcnmlgaa
