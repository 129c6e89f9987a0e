/- The bytes of a ring. -/
import Derived.Test.YtpeocdcciecpoaaDoorFBytes2
namespace Go.Proofs.YtpeocdcciecpoaaDoor
open Go.RowKit Fm

def EnLen (e : En) : Nat := 50 + 20 * e.bs.length
theorem encE_len (e : En) : (encE e).length ≤ EnLen e := by
  have h1 := flat5 [e.fl, e.di, e.ge, e.aw, (e.bs.length : Int)]
  have h2 := encB_len e.bs e.bs.length
  rw [List.take_length] at h2
  rw [encE_put, List.length_append]
  unfold EnLen
  simp only [List.length_cons, List.length_nil] at h1
  omega
theorem encEs_len (es : List En) (h : ∀ e ∈ es, e.bs.length ≤ 1000) (k : Nat) : ((es.take k).flatMap encE).length ≤ 21000 * k := by
  have key : ∀ l : List En, (∀ e ∈ l, e.bs.length ≤ 1000) → (l.flatMap encE).length ≤ 21000 * l.length := by
    intro l
    induction l with
    | nil => simp
    | cons x xs ih =>
      intro hl
      have := encE_len x
      have h1 := hl x (by simp)
      have h2 := ih (fun e he => hl e (by simp [he]))
      unfold EnLen at this
      simp only [List.flatMap_cons, List.length_append, List.length_cons]
      omega
  have := key (es.take k) (fun e he => h e (List.mem_of_mem_take he))
  have h2 : (es.take k).length ≤ k := List.length_take_le _ _
  omega
structure RgR (r : Rg) : Prop where
  co : I64 r.co
  fo : I64 r.fo
  ho : I64 r.ho
  ms : ∀ m ∈ r.ms, I64 m
  es : ∀ e ∈ r.es, EnR e
  ml : r.ms.length ≤ 1000
  el : r.es.length ≤ 1000
  bl : ∀ e ∈ r.es, e.bs.length ≤ 1000
theorem HE.at {w : World} {v : Value} {l : List En} (h : HE w v l) {k : Nat} (hk : k < l.length) : ∃ b off cap vb, v = .slice (some ⟨b, off, none⟩) l.length cap ∧ l.length ≤ cap ∧ cap ≤ maxLen ∧
    w.cell? ⟨b, off + k * 5, none⟩ = some (.int .i64 (l.getD k zeroE).fl) ∧ w.cell? ⟨b, off + k * 5 + 1, none⟩ = some (.int .i64 (l.getD k zeroE).di) ∧
    w.cell? ⟨b, off + k * 5 + 2, none⟩ = some (.int .i64 (l.getD k zeroE).ge) ∧ w.cell? ⟨b, off + k * 5 + 3, none⟩ = some vb ∧
    w.cell? ⟨b, off + k * 5 + 4, none⟩ = some (.int .i64 (l.getD k zeroE).aw) ∧ HB w vb (l.getD k zeroE).bs := by
  obtain ⟨a, cap, rfl, h1, h2, h3⟩ := h
  obtain ⟨b, off, rfl, hc⟩ := h3 (by omega)
  obtain ⟨vb, c⟩ := hc k hk
  exact ⟨b, off, cap, vb, rfl, h1, h2, c⟩

set_option maxHeartbeats 4000000 in
set_option maxRecDepth 100000 in
theorem putRing_any (r : Rg) (vm ve : Value) (v : Value) (l : List Int) (w0 w : World) (B : Nat) (h0 : Fr w0 w []) (hB0 : w0.heap.size ≤ B) (ho : Own w B v l) (hB : B ≤ w.heap.size) (hm : Holds .i64 w0 vm r.ms) (he : HE w0 ve r.es) (hl : l.length ≤ 1000) (hr : RgR r) :
    Calls Tryd.prog 29 #[v, rgV r vm ve] w (Gives fun u w' => Own w' B u (l ++ encR r) ∧ Fr w0 w' []) := by
  obtain ⟨co, fo, ho', ms, es⟩ := r
  obtain ⟨r1, r2, r3, r4, r5, r6, r7, r8⟩ := hr
  simp only at hm he r1 r2 r3 r4 r5 r6 r7 r8
  unfold rgV
  simp only
  have HM := Lib.hid hm
  have HE0 := Lib.hid he
  obtain ⟨am, cm, rfl⟩ := hm.shape
  obtain ⟨ae, ce, rfl⟩ := he.shape
  have R1 := Lib.hid r1
  have R2 := Lib.hid r2
  have R3 := Lib.hid r3
  have R4 := Lib.hid r4
  have R5 := Lib.hid r5
  have R8 := Lib.hid r8
  have H0 := Lib.hid h0
  have HB0 := Lib.hid hB0
  have HBB := Lib.hid hB
  have HO := Lib.hid ho
  have HZ := Lib.hid (heap_alloc_new w (.cells #[.int .i64 co, .int .i64 fo, .int .i64 ho', .slice am ms.length cm, .slice ae es.length ce] 27))
  have HF0 := Lib.hid (FrB.of_fr (B := B) (Fr.alloc w (.cells #[.int .i64 co, .int .i64 fo, .int .i64 ho', .slice am ms.length cm, .slice ae es.length ce] 27) []))
  have f1 := flat5 [co]
  have f2 := flat5 [fo]
  have f3 := flat5 [ho']
  have f4 := flat5 [(ms.length : Int)]
  have f5 := flat5 ms
  have f6 := flat5 [(es.length : Int)]
  simp only [List.length_cons, List.length_nil] at f1 f2 f3 f4 f6
  have f1' := Lib.hid f1
  have f2' := Lib.hid f2
  have f3' := Lib.hid f3
  have f4' := Lib.hid f4
  have f5' := Lib.hid f5
  have f6' := Lib.hid f6
  have HO0 := Lib.hid (HO.out.kept (World.grownBy_alloc w (.cells #[.int .i64 co, .int .i64 fo, .int .i64 ho', .slice am ms.length cm, .slice ae es.length ce] 27) none) (fun r e => by cases e))
  clear ho hm he r1 r2 r3 r4 r5 r8 h0 hB0 hB f1 f2 f3 f4 f5 f6
  go_enter Tryd.func29, Tryd.ntmps29
  have HA1 := Lib.hid (Fr.alloc (w.alloc (.cells #[.int .i64 co, .int .i64 fo, .int .i64 ho', .slice am ms.length cm, .slice ae es.length ce] 27)) (.cells (i64s [co]).toArray 2) [])
  have HC1 := Lib.hid ((two_boxes w (.cells #[.int .i64 co, .int .i64 fo, .int .i64 ho', .slice am ms.length cm, .slice ae es.length ce] 27) (.cells (i64s [co]).toArray 2)).2)
  go_wp2_with fail
  refine (putInt64s_any _ (l) _ [co] _ B (HO0.out.kept (Fr.grown HA1.out (by simp)) (fun r e => by cases e)) (by have h1 := HBB.out; have h2 := HF0.out.size; have h3 := HA1.out.size; omega) (lit_ints _ 2 HC1.out (by decide) (by simp [maxLen]) B 1 rfl) (by have := f1'.out; have := f2'.out; have := f3'.out; have := f4'.out; have := f5'.out; have := f6'.out; simp only [List.length_append, List.length_cons, List.length_nil]; omega) ?_).mono ?_
  · intro x hx
    simp only [List.mem_cons, List.not_mem_nil, or_false] at hx
    subst hx
    exact R1.out
  rintro e w1 ⟨u1, rfl, hu, hf⟩
  have HO1 := Lib.hid hu
  have HF1 := Lib.hid ((HF0.out.trans (FrB.of_fr HA1.out)).trans hf)
  have HZ1 := Lib.hid (hf.box (HA1.out.heap HZ.out (by simp)) (by decide))
  clear hu hf
  have HA2 := Lib.hid (Fr.alloc w1 (.cells (i64s [fo]).toArray 3) [])
  have HC2 := Lib.hid (heap_alloc_new w1 (.cells (i64s [fo]).toArray 3))
  have hk2 := row5 HZ1.out
  go_wp2_with fail
  refine (putInts_any _ (l ++ [co].flatMap Wm.enc) _ [fo] _ B (HO1.out.kept (Fr.grown HA2.out (by simp)) (fun r e => by cases e)) (by have h1 := HBB.out; have h2 := HF1.out.size; have h3 := HA2.out.size; omega) (lit_ints _ 3 HC2.out (by decide) (by simp [maxLen]) B 1 rfl) (by have := f1'.out; have := f2'.out; have := f3'.out; have := f4'.out; have := f5'.out; have := f6'.out; simp only [List.length_append, List.length_cons, List.length_nil]; omega) ?_).mono ?_
  · intro x hx
    simp only [List.mem_cons, List.not_mem_nil, or_false] at hx
    subst hx
    exact R2.out
  rintro e w2 ⟨u2, rfl, hu, hf⟩
  have HO2 := Lib.hid hu
  have HF2 := Lib.hid ((HF1.out.trans (FrB.of_fr HA2.out)).trans hf)
  have HZ2 := Lib.hid (hf.box (HA2.out.heap HZ1.out (by simp)) (by decide))
  clear hu hf hk2
  have HA3 := Lib.hid (Fr.alloc w2 (.cells (i64s [ho']).toArray 2) [])
  have HC3 := Lib.hid (heap_alloc_new w2 (.cells (i64s [ho']).toArray 2))
  have hk3 := row5 HZ2.out
  go_wp2_with fail
  refine (putInt64s_any _ ((l ++ [co].flatMap Wm.enc) ++ [fo].flatMap Wm.enc) _ [ho'] _ B (HO2.out.kept (Fr.grown HA3.out (by simp)) (fun r e => by cases e)) (by have h1 := HBB.out; have h2 := HF2.out.size; have h3 := HA3.out.size; omega) (lit_ints _ 2 HC3.out (by decide) (by simp [maxLen]) B 1 rfl) (by have := f1'.out; have := f2'.out; have := f3'.out; have := f4'.out; have := f5'.out; have := f6'.out; simp only [List.length_append, List.length_cons, List.length_nil]; omega) ?_).mono ?_
  · intro x hx
    simp only [List.mem_cons, List.not_mem_nil, or_false] at hx
    subst hx
    exact R3.out
  rintro e w3 ⟨u3, rfl, hu, hf⟩
  have HO3 := Lib.hid hu
  have HF3 := Lib.hid ((HF2.out.trans (FrB.of_fr HA3.out)).trans hf)
  have HZ3 := Lib.hid (hf.box (HA3.out.heap HZ2.out (by simp)) (by decide))
  clear hu hf hk3
  have HA4 := Lib.hid (Fr.alloc w3 (.cells (i64s [(ms.length : Int)]).toArray 3) [])
  have HC4 := Lib.hid (heap_alloc_new w3 (.cells (i64s [(ms.length : Int)]).toArray 3))
  have hk4 := row5 HZ3.out
  go_wp2_with fail
  refine (putInts_any _ (((l ++ [co].flatMap Wm.enc) ++ [fo].flatMap Wm.enc) ++ [ho'].flatMap Wm.enc) _ [(ms.length : Int)] _ B (HO3.out.kept (Fr.grown HA4.out (by simp)) (fun r e => by cases e)) (by have h1 := HBB.out; have h2 := HF3.out.size; have h3 := HA4.out.size; omega) (lit_ints _ 3 HC4.out (by decide) (by simp [maxLen]) B 1 rfl) (by have := f1'.out; have := f2'.out; have := f3'.out; have := f4'.out; have := f5'.out; have := f6'.out; simp only [List.length_append, List.length_cons, List.length_nil]; omega) ?_).mono ?_
  · intro x hx
    simp only [List.mem_cons, List.not_mem_nil, or_false] at hx
    subst hx
    exact ⟨by omega, by omega⟩
  rintro e w4 ⟨u4, rfl, hu, hf⟩
  have HO4 := Lib.hid hu
  have HF4 := Lib.hid ((HF3.out.trans (FrB.of_fr HA4.out)).trans hf)
  have HZ4 := Lib.hid (hf.box (HA4.out.heap HZ3.out (by simp)) (by decide))
  clear hu hf hk4
  have hk5 := row5 HZ4.out
  go_wp2_with fail
  refine (putInts_any _ ((((l ++ [co].flatMap Wm.enc) ++ [fo].flatMap Wm.enc) ++ [ho'].flatMap Wm.enc) ++ [(ms.length : Int)].flatMap Wm.enc) _ ms _ B HO4.out (by have h1 := HBB.out; have h2 := HF4.out.size; omega) (fun wr hf => HM.out.keep ((HF4.out.trans hf).fr H0.out HB0.out)) (by have := f1'.out; have := f2'.out; have := f3'.out; have := f4'.out; have := f5'.out; have := f6'.out; simp only [List.length_append, List.length_cons, List.length_nil]; omega) (fun x hx => R4.out x hx)).mono ?_
  rintro e w5 ⟨u5, rfl, hu, hf⟩
  have HO5 := Lib.hid hu
  have HF5 := Lib.hid (HF4.out.trans hf)
  have HZ5 := Lib.hid (hf.box HZ4.out (by decide))
  clear hu hf hk5
  have HA6 := Lib.hid (Fr.alloc w5 (.cells (i64s [(es.length : Int)]).toArray 3) [])
  have HC6 := Lib.hid (heap_alloc_new w5 (.cells (i64s [(es.length : Int)]).toArray 3))
  have hk6 := row5 HZ5.out
  go_wp2_with fail
  refine (putInts_any _ (((((l ++ [co].flatMap Wm.enc) ++ [fo].flatMap Wm.enc) ++ [ho'].flatMap Wm.enc) ++ [(ms.length : Int)].flatMap Wm.enc) ++ ms.flatMap Wm.enc) _ [(es.length : Int)] _ B (HO5.out.kept (Fr.grown HA6.out (by simp)) (fun r e => by cases e)) (by have h1 := HBB.out; have h2 := HF5.out.size; have h3 := HA6.out.size; omega) (lit_ints _ 3 HC6.out (by decide) (by simp [maxLen]) B 1 rfl) (by have := f1'.out; have := f2'.out; have := f3'.out; have := f4'.out; have := f5'.out; have := f6'.out; simp only [List.length_append, List.length_cons, List.length_nil]; omega) ?_).mono ?_
  · intro x hx
    simp only [List.mem_cons, List.not_mem_nil, or_false] at hx
    subst hx
    exact ⟨by omega, by omega⟩
  rintro e w6 ⟨u6, rfl, hu, hf⟩
  have HO6 := Lib.hid hu
  have HF6 := Lib.hid ((HF5.out.trans (FrB.of_fr HA6.out)).trans hf)
  have HZ6 := Lib.hid (hf.box (HA6.out.heap HZ5.out (by simp)) (by decide))
  clear hu hf hk6
  have HL6 := Lib.hid (show (((((((l ++ [co].flatMap Wm.enc) ++ [fo].flatMap Wm.enc) ++ [ho'].flatMap Wm.enc) ++ [(ms.length : Int)].flatMap Wm.enc) ++ ms.flatMap Wm.enc) ++ [(es.length : Int)].flatMap Wm.enc).length ≤ 100000) by
    have := f1'.out; have := f2'.out; have := f3'.out; have := f4'.out; have := f5'.out; have := f6'.out
    simp only [List.length_append]; omega)
  obtain ⟨L, hL⟩ : ∃ L, L = ((((((l ++ [co].flatMap Wm.enc) ++ [fo].flatMap Wm.enc) ++ [ho'].flatMap Wm.enc) ++ [(ms.length : Int)].flatMap Wm.enc) ++ ms.flatMap Wm.enc) ++ [(es.length : Int)].flatMap Wm.enc) := ⟨_, rfl⟩
  have HO7 := HO6.out
  have HL7 := HL6.out
  rw [← hL] at HO7 HL7
  have HO8 := Lib.hid HO7
  have HL8 := Lib.hid HL7
  have HLE := Lib.hid hL
  clear HO7 HL7 hL HL6 HO6
  have hk := row5 HZ6.out
  go_wp2
  clear hk
  go_loopw [0, 43] (fun u i wr => ∃ k : Nat, k ≤ es.length ∧ i = .int .i64 k ∧ Own wr B u (L ++ (es.take k).flatMap encE) ∧ FrB B w wr) (fun _ i _ => es.length - (intOf i).toNat)
  case atStart => exact ⟨0, Nat.zero_le _, rfl, by simpa using HO8.out, HF6.out⟩
  case round =>
    obtain ⟨k, hk, rfl, hown, hf⟩ := hrel
    have HOW := Lib.hid hown
    have HF := Lib.hid hf
    clear hown hf
    by_cases hlt : k < es.length
    · have HFR := Lib.hid (HF.out.fr H0.out HB0.out)
      obtain ⟨bl, off, cap', vb, he, h1, h2, x0, x1, x2, x3, x4, hb⟩ := HE0.out.at hlt
      simp only [Value.slice.injEq, true_and] at he
      obtain ⟨rfl, rfl⟩ := he
      unfold maxLen at h2
      obtain ⟨e, he⟩ : ∃ e, e = es.getD k zeroE := ⟨_, rfl⟩
      rw [← he] at x0 x1 x2 x4 hb
      replace x0 := HFR.out.cell x0 (by simp)
      replace x1 := HFR.out.cell x1 (by simp)
      replace x2 := HFR.out.cell x2 (by simp)
      replace x3 := HFR.out.cell x3 (by simp)
      replace x4 := HFR.out.cell x4 (by simp)
      have HRE := Lib.hid (show EnR e from R5.out e (by rw [he]; exact getD_mem hlt zeroE))
      have HRB := Lib.hid (show e.bs.length ≤ 1000 from R8.out e (by rw [he]; exact getD_mem hlt zeroE))
      have HST : Hid ((es.take (k + 1)).flatMap encE = (es.take k).flatMap encE ++ encE e) := by show _ = _; rw [tk_snoc es k hlt zeroE, he]; simp
      have HWL : Hid ((L ++ (es.take k).flatMap encE).length ≤ 100000 + 21000 * k) := by
        have := encEs_len es R8.out k
        have := HL8.out
        show _ ≤ _
        rw [List.length_append]; omega
      obtain ⟨z1, d1, rfl⟩ := hb.shape
      have HBD := Lib.hid hb
      obtain ⟨e0, e1, e2, el, e4⟩ := e
      simp only at x0 x1 x2 x4
      have HFX := Lib.hid (Fr.alloc wr (.cells #[.int .i64 e0, .int .i64 e1, .int .i64 e2, .slice z1 el.length d1, .int .i64 e4] 61) [])
      clear he hb
      go_wp2_with fail
      refine (putEntry_any ⟨e0, e1, e2, el, e4⟩ _ _ _ _ B (HOW.out.kept (World.grownBy_alloc wr (.cells #[.int .i64 e0, .int .i64 e1, .int .i64 e2, .slice z1 el.length d1, .int .i64 e4] 61) none) (fun r e => by cases e)) (by have h1 := HBB.out; have h2 := HF.out.size; have h3 := HFX.out.size; omega) (fun wr' hf' => HBD.out.keep (((HF.out.trans (FrB.of_fr HFX.out)).trans hf').fr H0.out HB0.out)) (by have h1 := HWL.out; have h2 := HRB.out; simp only at h2 ⊢; omega) HRE.out).mono ?_
      rintro e w2 ⟨u, rfl, hu, hf2⟩
      have HN2 : Hid (Own w2 B u (L ++ (es.take (k + 1)).flatMap encE)) := by
        show Own _ _ _ _
        rw [HST.out, ← List.append_assoc]; exact hu
      have HF2 := Lib.hid ((HF.out.trans (FrB.of_fr HFX.out)).trans hf2)
      clear hu hf2
      go_wp2
      go_roundw
      case rel => exact ⟨k + 1, by omega, by go_num, HN2.out, HF2.out⟩
      case measure => simp [intOf]; omega
    · obtain rfl : k = es.length := by omega
      have HN2 := Lib.hid (show Own wr B u0 (l ++ encR ⟨co, fo, ho', ms, es⟩) by
        have := HOW.out
        rw [List.take_length, HLE.out] at this
        have e : l ++ encR ⟨co, fo, ho', ms, es⟩ = ((((((l ++ [co].flatMap Wm.enc) ++ [fo].flatMap Wm.enc) ++ [ho'].flatMap Wm.enc) ++ [(ms.length : Int)].flatMap Wm.enc) ++ ms.flatMap Wm.enc) ++ [(es.length : Int)].flatMap Wm.enc) ++ es.flatMap encE := by
          unfold encR; simp
        rw [e]; exact this)
      go_wp2
      go_ret
      exact gives ⟨HN2.out, HF.out.fr H0.out HB0.out⟩
end Go.Proofs.YtpeocdcciecpoaaDoor
