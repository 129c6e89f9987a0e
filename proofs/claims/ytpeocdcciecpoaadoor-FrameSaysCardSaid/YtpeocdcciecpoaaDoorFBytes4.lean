/- The bytes of a beat, of a frame. -/
import Derived.Test.YtpeocdcciecpoaaDoorFBytes3
namespace Go.Proofs.YtpeocdcciecpoaaDoor
open Go.RowKit Fm

set_option maxHeartbeats 1000000 in
set_option maxRecDepth 100000 in
theorem putBeat_any (ki fr to li se co fo ho : Int) (ou : Bool) (vm ve : Value) (v : Value) (l : List Int) (w : World) (B : Nat) (ho' : Own w B v l) (hB : B ≤ w.heap.size) (hl : l.length ≤ 1000) (h1 : I64 li) (h2 : I64 se) :
    Calls Tryd.prog 28 #[v, .agg #[.int .i64 ki, .int .i64 fr, .int .i64 to, .int .i64 li, .int .i64 se, .bool ou, .int .i64 co, .int .i64 fo, .int .i64 ho, vm, ve]] w (Gives fun u w' => Own w' B u (l ++ (Wm.enc li ++ (Wm.enc se ++ Wm.enc (bit ou)))) ∧ FrB B w w') := by
  have HO := Lib.hid ho'
  have HBB := Lib.hid hB
  have R1 := Lib.hid h1
  have R2 := Lib.hid h2
  have HC := Lib.hid (two_boxes w (.cells #[.int .i64 ki, .int .i64 fr, .int .i64 to, .int .i64 li, .int .i64 se, .bool ou, .int .i64 co, .int .i64 fo, .int .i64 ho, vm, ve] 29) (.cells (i64s [li, se]).toArray 2))
  have HA := Lib.hid ((Fr.alloc w (.cells #[.int .i64 ki, .int .i64 fr, .int .i64 to, .int .i64 li, .int .i64 se, .bool ou, .int .i64 co, .int .i64 fo, .int .i64 ho, vm, ve] 29) []).trans (Fr.alloc _ (.cells (i64s [li, se]).toArray 2) []))
  have HLN := Lib.hid (show (l ++ [li, se].flatMap Wm.enc).length ≤ 2000 from by
    have := flat5 [li, se]
    simp only [List.length_cons, List.length_nil] at this
    rw [List.length_append]; omega)
  have HLE := Lib.hid hl
  clear ho' hB hl h1 h2
  cases ou
  · go_enter Tryd.func28, Tryd.ntmps28
    go_wp2_with fail
    refine (putInt64s_any _ l _ [li, se] _ B (HO.out.kept (Fr.grown HA.out (by simp)) (fun r e => by cases e)) (by have h1 := HBB.out; have h2 := HA.out.size; omega) (lit_ints _ 2 HC.out.2 (by decide) (by simp [maxLen]) B 2 rfl) (by have := HLE.out; simp only [List.length_cons, List.length_nil]; omega) ?_).mono ?_
    · intro z hz
      simp only [List.mem_cons, List.not_mem_nil, or_false] at hz
      rcases hz with rfl | rfl
      · exact R1.out
      · exact R2.out
    rintro e w1 ⟨u, rfl, hu, hf⟩
    have HU := Lib.hid hu
    have HF := Lib.hid ((FrB.of_fr HA.out).trans hf)
    have hk := row11 (hf.box HC.out.1 (by decide))
    have HA2 := Lib.hid (Fr.alloc w1 (.cells (i64s [0]).toArray 3) [])
    have HC2 := Lib.hid (heap_alloc_new w1 (.cells (i64s [0]).toArray 3))
    clear hu hf
    go_wp2_with fail
    refine (putInts_any _ (l ++ [li, se].flatMap Wm.enc) _ [0] _ B (HU.out.kept (Fr.grown HA2.out (by simp)) (fun r e => by cases e)) (by have h1 := HBB.out; have h2 := HF.out.size; have h3 := HA2.out.size; omega) (lit_ints _ 3 HC2.out (by decide) (by simp [maxLen]) B 1 rfl) (by have := HLN.out; simp only [List.length_cons, List.length_nil]; omega) ?_).mono ?_
    · intro z hz
      simp only [List.mem_cons, List.not_mem_nil, or_false] at hz
      subst hz
      exact ⟨by omega, by omega⟩
    rintro e w2 ⟨u2, rfl, hu2, hf2⟩
    have HU2 := Lib.hid hu2
    have HF2 := Lib.hid ((HF.out.trans (FrB.of_fr HA2.out)).trans hf2)
    clear hu2 hf2 hk
    go_wp2
    go_ret
    refine gives ⟨?_, HF2.out⟩
    have := HU2.out
    simpa [bit] using this
  · go_enter Tryd.func28, Tryd.ntmps28
    go_wp2_with fail
    refine (putInt64s_any _ l _ [li, se] _ B (HO.out.kept (Fr.grown HA.out (by simp)) (fun r e => by cases e)) (by have h1 := HBB.out; have h2 := HA.out.size; omega) (lit_ints _ 2 HC.out.2 (by decide) (by simp [maxLen]) B 2 rfl) (by have := HLE.out; simp only [List.length_cons, List.length_nil]; omega) ?_).mono ?_
    · intro z hz
      simp only [List.mem_cons, List.not_mem_nil, or_false] at hz
      rcases hz with rfl | rfl
      · exact R1.out
      · exact R2.out
    rintro e w1 ⟨u, rfl, hu, hf⟩
    have HU := Lib.hid hu
    have HF := Lib.hid ((FrB.of_fr HA.out).trans hf)
    have hk := row11 (hf.box HC.out.1 (by decide))
    have HA2 := Lib.hid (Fr.alloc w1 (.cells (i64s [1]).toArray 3) [])
    have HC2 := Lib.hid (heap_alloc_new w1 (.cells (i64s [1]).toArray 3))
    clear hu hf
    go_wp2_with fail
    refine (putInts_any _ (l ++ [li, se].flatMap Wm.enc) _ [1] _ B (HU.out.kept (Fr.grown HA2.out (by simp)) (fun r e => by cases e)) (by have h1 := HBB.out; have h2 := HF.out.size; have h3 := HA2.out.size; omega) (lit_ints _ 3 HC2.out (by decide) (by simp [maxLen]) B 1 rfl) (by have := HLN.out; simp only [List.length_cons, List.length_nil]; omega) ?_).mono ?_
    · intro z hz
      simp only [List.mem_cons, List.not_mem_nil, or_false] at hz
      subst hz
      exact ⟨by omega, by omega⟩
    rintro e w2 ⟨u2, rfl, hu2, hf2⟩
    have HU2 := Lib.hid hu2
    have HF2 := Lib.hid ((HF.out.trans (FrB.of_fr HA2.out)).trans hf2)
    clear hu2 hf2 hk
    go_wp2
    go_ret
    refine gives ⟨?_, HF2.out⟩
    have := HU2.out
    simpa [bit] using this

/-- What Bytes hands back. -/
def BytesE (A : Nat → Addr) (f : F) (w0 : World) (e : Ending) (w' : World) : Prop :=
  (frameC f = 0 ∧ ∃ u, e = .returned (.tuple #[u, .nilIface]) ∧ Own w' w0.heap.size u (bytesF f) ∧ Fr w0 w' []) ∨
  (frameC f ≠ 0 ∧ e = .returned (.tuple #[.slice none 0 0, ev A (frameC f)]) ∧ Fr w0 w' [])

theorem rgR_of {r : Rg} (h : RgOk r) : RgR r := by
  obtain ⟨h1, h2, h3, h4, h5, h6, h7⟩ := h
  exact ⟨⟨by omega, by omega⟩, ⟨by omega, by omega⟩, ⟨by omega, by omega⟩, fun m hm => by have := h5 m hm; exact ⟨by omega, by omega⟩, fun e he => by
    obtain ⟨g1, g2, g3, g4, g5, g6⟩ := h7 e he
    exact ⟨⟨by omega, by omega⟩, ⟨by omega, by omega⟩, ⟨by omega, by omega⟩, ⟨by omega, by omega⟩, fun b hb => by have := g6 b hb; exact ⟨⟨by omega, by omega⟩, by omega, by omega⟩⟩,
    by omega, by omega, fun e he => by have := (h7 e he).2.2.2.2.1; omega⟩

set_option maxHeartbeats 2000000 in
set_option maxRecDepth 100000 in
theorem bytes_frame (f : F) (vm ve : Value) (w : World) (A : Nat → Addr) (B : Nat) (is : List Nat) (hE : EV is w A B) (hm : Holds .i64 w vm f.rg.ms) (he : HE w ve f.rg.es) (hs : ∀ i ∈ [2, 3, 6, 10], i ∈ is := by decide) :
    Calls Tryd.prog 11 #[frV f vm ve] w (BytesE A f w) := by
  obtain ⟨ki, fr, to, li, se, ou, ⟨co, fo, ho, ms, es⟩⟩ := f
  unfold frV
  simp only at hm he ⊢
  have HM := Lib.hid hm
  have HX := Lib.hid he
  have HF0 := Lib.hid (Fr.alloc w (.cells #[.int .i64 ki, .int .i64 fr, .int .i64 to, .int .i64 li, .int .i64 se, .bool ou, .int .i64 co, .int .i64 fo, .int .i64 ho, vm, ve] 29) [])
  have HZ := Lib.hid (heap_alloc_new w (.cells #[.int .i64 ki, .int .i64 fr, .int .i64 to, .int .i64 li, .int .i64 se, .bool ou, .int .i64 co, .int .i64 fo, .int .i64 ho, vm, ve] 29))
  have HEV := Lib.hid (hE.keep HF0.out)
  have HS := Lib.hid hs
  clear hE hs hm he
  obtain ⟨f, hf⟩ : ∃ f, f = (⟨ki, fr, to, li, se, ou, ⟨co, fo, ho, ms, es⟩⟩ : F) := ⟨_, rfl⟩
  rw [← hf]
  have HFE := Lib.hid hf
  clear hf
  by_cases hc : frameC f = 0
  rotate_left
  · have HC := Lib.hid hc
    have HEN := Lib.hid (ev_ne A hc)
    clear hc
    go_enter Tryd.func11, Tryd.ntmps11
    go_wp2_with fail
    refine (valid_frame ⟨ki, fr, to, li, se, ou, ⟨co, fo, ho, ms, es⟩⟩ vm ve _ A B is HEV.out (HM.out.keep HF0.out) (HX.out.keep HF0.out) HS.out).mono ?_
    rintro e w1 ⟨rfl, hf1⟩
    rw [← HFE.out, HEN.out]
    go_wp2
    go_ret2
    exact .inr ⟨HC.out, by rw [HEN.out]; rfl, HF0.out.trans hf1⟩
  have HCZ := Lib.hid hc
  have hcs := frameC_cases hc
  rw [HFE.out] at hcs
  simp only at hcs
  obtain ⟨⟨hfr, hto⟩, hcs⟩ := hcs
  have HFR := Lib.hid (show I64 fr from ⟨by unfold Car at hfr; omega, by unfold Car at hfr; omega⟩)
  have HTO := Lib.hid (show I64 to from ⟨by unfold Car at hto; omega, by unfold Car at hto; omega⟩)
  clear hc hfr hto
  have hL0 : ∀ k : Int, ([80, k] ++ [fr, to].flatMap Wm.enc).length ≤ 100 := fun k => by
    have := flat5 [fr, to]
    simp only [List.length_cons, List.length_nil] at this
    rw [List.length_append]; simp only [List.length_cons, List.length_nil]; omega
  have HL0 := Lib.hid hL0
  clear hL0
  rcases hcs with ⟨hk, hl, hse, hz⟩ | ⟨hk, hl, hse, ho', hr⟩
  · have RL := Lib.hid (show I64 li from ⟨by unfold Kept at hl; omega, by unfold Kept at hl; omega⟩)
    have RS := Lib.hid (show I64 se from ⟨by unfold Kept at hse; omega, by unfold Kept at hse; omega⟩)
    subst hk
    have HBY : Hid (bytesF f = ([80, 1] ++ [fr, to].flatMap Wm.enc) ++ (Wm.enc li ++ (Wm.enc se ++ Wm.enc (bit ou)))) := by
      show _ = _
      rw [HFE.out]
      simp [bytesF, encBody]
    clear hl hse hz
    go_enter Tryd.func11, Tryd.ntmps11
    go_wp2_with fail
    refine (valid_frame ⟨1, fr, to, li, se, ou, ⟨co, fo, ho, ms, es⟩⟩ vm ve _ A B is HEV.out (HM.out.keep HF0.out) (HX.out.keep HF0.out) HS.out).mono ?_
    rintro e w1 ⟨rfl, hf1⟩
    rw [← HFE.out, HCZ.out, show ev A 0 = .nilIface from rfl]
    have hk := row11 (hf1.heap HZ.out (by simp))
    have HF1 := Lib.hid (HF0.out.trans hf1)
    have HA := Lib.hid ((Fr.alloc w1 (.cells (u8s [80, 1]).toArray 5) []).trans (Fr.alloc _ (.cells (i64s [fr, to]).toArray 3) []))
    have HAB := Lib.hid (FrB.of_fr (B := w1.heap.size) HA.out)
    have HC := Lib.hid (two_boxes w1 (.cells (u8s [80, 1]).toArray 5) (.cells (i64s [fr, to]).toArray 3))
    have HK1 := Lib.hid (hf1.heap HZ.out (by simp))
    have hk' := row11 ((Fr.alloc w1 (.cells #[.int .u8 80, .int .u8 1] 5) []).heap HK1.out (by simp))
    clear hf1
    go_wp2_with fail
    refine (putInts_any _ [80, 1] _ [fr, to] _ w1.heap.size (own_of_heap (cur := u8s [80, 1]) HC.out.1 (Nat.le_refl _) rfl (by simp) (Nat.le_refl 2) (by decide) (by simp [u8s])) (by have h2 := HA.out.size; omega) (lit_ints _ 3 HC.out.2 (by decide) (by simp [maxLen]) w1.heap.size 2 rfl) (by simp only [List.length_cons, List.length_nil]; omega) ?_).mono ?_
    · intro z hz
      simp only [List.mem_cons, List.not_mem_nil, or_false] at hz
      rcases hz with rfl | rfl
      · exact HFR.out
      · exact HTO.out
    rintro e w2 ⟨u, rfl, hu, hf⟩
    have HU := Lib.hid hu
    have HF := Lib.hid hf
    clear hk hk'
    have hk := row11 (hf.box (HA.out.heap HK1.out (by simp)) (by decide))
    clear hu hf
    go_wp2_with fail
    refine (putBeat_any _ _ _ _ _ _ _ _ _ _ _ _ ([80, 1] ++ [fr, to].flatMap Wm.enc) _ w1.heap.size HU.out (by have h1 := HF.out.size; have h2 := HA.out.size; omega) (by have := HL0.out 1; omega) RL.out RS.out).mono ?_
    rintro e w3 ⟨u3, rfl, hu3, hf3⟩
    have HU3 := Lib.hid hu3
    have HF3 := Lib.hid (HF.out.trans hf3)
    clear hu3 hf3 hk
    go_wp2
    go_ret2
    exact .inl ⟨HCZ.out, _, rfl, by rw [HBY.out]; exact HU3.out.mono HF1.out.size, (HAB.out.trans HF3.out).fr HF1.out HF1.out.size⟩
  · have RR := Lib.hid (rgR_of (ringC_ok hr))
    subst hk
    have HBY : Hid (bytesF f = ([80, 2] ++ [fr, to].flatMap Wm.enc) ++ encR ⟨co, fo, ho, ms, es⟩) := by
      show _ = _
      rw [HFE.out]
      simp [bytesF, encBody]
    clear hl hse ho' hr
    go_enter Tryd.func11, Tryd.ntmps11
    go_wp2_with fail
    refine (valid_frame ⟨2, fr, to, li, se, ou, ⟨co, fo, ho, ms, es⟩⟩ vm ve _ A B is HEV.out (HM.out.keep HF0.out) (HX.out.keep HF0.out) HS.out).mono ?_
    rintro e w1 ⟨rfl, hf1⟩
    rw [← HFE.out, HCZ.out, show ev A 0 = .nilIface from rfl]
    have hk := row11 (hf1.heap HZ.out (by simp))
    have HF1 := Lib.hid (HF0.out.trans hf1)
    have HA := Lib.hid ((Fr.alloc w1 (.cells (u8s [80, 2]).toArray 5) []).trans (Fr.alloc _ (.cells (i64s [fr, to]).toArray 3) []))
    have HAB := Lib.hid (FrB.of_fr (B := w1.heap.size) HA.out)
    have HC := Lib.hid (two_boxes w1 (.cells (u8s [80, 2]).toArray 5) (.cells (i64s [fr, to]).toArray 3))
    have HK1 := Lib.hid (hf1.heap HZ.out (by simp))
    have hk' := row11 ((Fr.alloc w1 (.cells #[.int .u8 80, .int .u8 2] 5) []).heap HK1.out (by simp))
    clear hf1
    go_wp2_with fail
    refine (putInts_any _ [80, 2] _ [fr, to] _ w1.heap.size (own_of_heap (cur := u8s [80, 2]) HC.out.1 (Nat.le_refl _) rfl (by simp) (Nat.le_refl 2) (by decide) (by simp [u8s])) (by have h2 := HA.out.size; omega) (lit_ints _ 3 HC.out.2 (by decide) (by simp [maxLen]) w1.heap.size 2 rfl) (by simp only [List.length_cons, List.length_nil]; omega) ?_).mono ?_
    · intro z hz
      simp only [List.mem_cons, List.not_mem_nil, or_false] at hz
      rcases hz with rfl | rfl
      · exact HFR.out
      · exact HTO.out
    rintro e w2 ⟨u, rfl, hu, hf⟩
    have HU := Lib.hid hu
    have HF := Lib.hid hf
    clear hk hk'
    have hk := row11 (hf.box (HA.out.heap HK1.out (by simp)) (by decide))
    clear hu hf
    go_wp2_with fail
    refine (putRing_any ⟨co, fo, ho, ms, es⟩ vm ve _ ([80, 2] ++ [fr, to].flatMap Wm.enc) w _ w1.heap.size ((HAB.out.trans HF.out).fr HF1.out HF1.out.size) HF1.out.size HU.out (by have h1 := HF.out.size; have h2 := HA.out.size; omega) HM.out HX.out (by have := HL0.out 2; omega) RR.out).mono ?_
    rintro e w3 ⟨u3, rfl, hu3, hf3⟩
    have HU3 := Lib.hid hu3
    have HF3 := Lib.hid hf3
    clear hu3 hf3 hk
    go_wp2
    go_ret2
    exact .inl ⟨HCZ.out, _, rfl, by rw [HBY.out]; exact HU3.out.mono HF1.out.size, HF3.out⟩
end Go.Proofs.YtpeocdcciecpoaaDoor
