/- The walk of the frame's law of says: whether any frame may be, or why not; its bytes; any bytes as a frame, or why not; whether two are the same: are what the chapter says. -/
import Derived.Test.YtpeocdcciecpoaaDoorFRRead
import Derived.Test.YtpeocdcciecpoaaDoorSee3
namespace Go.Proofs.YtpeocdcciecpoaaDoor
open Go.RowKit Fm

theorem bidsC_le (ms : List Int) (bs : List (Int × Int)) : bidsC ms bs ≤ 13 := by
  unfold bidsC
  split
  · decide
  · split
    · decide
    · split <;> decide
theorem entC_le (ms : List Int) (p : Option En) (e : En) : entC ms p e ≤ 13 := by
  unfold entC
  split
  · decide
  · split
    · decide
    · exact bidsC_le _ _
theorem entsC_le (ms : List Int) : ∀ (p : Option En) (es : List En), entsC ms p es ≤ 13
  | _, [] => by simp [entsC]
  | p, e :: es => by
    unfold entsC
    split
    · exact entsC_le ms _ es
    · exact entC_le _ _ _
theorem ringC_le (r : Rg) : ringC r ≤ 13 := by
  unfold ringC
  split
  · decide
  · split
    · decide
    · split
      · exact entsC_le _ _ _
      · unfold membC
        split
        · decide
        · split <;> decide
theorem frameC_le (f : F) : frameC f ≤ 13 := by
  unfold frameC
  split
  · decide
  · split
    · decide
    · split
      · split <;> decide
      · split
        · exact ringC_le _
        · decide
theorem numF_le : ∀ (l : List Int) (i u : Nat), (Wm.numF i u l).2.2 ≤ 3
  | [], i, u => by simp [Wm.numF]
  | x :: xs, i, u => by
    unfold Wm.numF
    split
    · simp
    · split
      · simp
      · exact numF_le xs _ _
def Small {α : Type} (p : P α) : Prop := ∀ l k c, c ≤ 3 → (p l k c).2.2 ≤ 3
theorem Small.num (lo hi : Int) : Small (Fm.num lo hi) := fun l k c h => by
  unfold Fm.num
  split
  · unfold Wm.numS
    split
    · exact numF_le _ _ _
    · split <;> simp
  · exact h
theorem Small.ret {α : Type} (a : α) : Small (Fm.ret a) := fun _ _ _ h => h
theorem Small.bind {α β : Type} {p : P α} {q : α → P β} (hp : Small p) (hq : ∀ a, Small (q a)) : Small (Fm.bind p q) := fun l k c h => hq _ _ _ _ (hp l k c h)
theorem Small.rep {α : Type} {p : P α} (hp : Small p) : ∀ n, Small (Fm.rep p n)
  | 0 => Small.ret _
  | n + 1 => (Small.rep hp n).bind fun _ => hp.bind fun _ => Small.ret _
theorem small_bid : Small rdBid := (Small.num _ _).bind fun _ => (Small.num _ _).bind fun _ => Small.ret _
theorem small_en (m : Int) : Small (rdEn m) := (Small.num _ _).bind fun _ => (Small.num _ _).bind fun _ => (Small.num _ _).bind fun _ => (Small.num _ _).bind fun _ => (Small.num _ _).bind fun _ => (small_bid.rep _).bind fun _ => Small.ret _
theorem small_rg : Small rdRg := (Small.num _ _).bind fun _ => (Small.num _ _).bind fun _ => (Small.num _ _).bind fun _ => (Small.num _ _).bind fun n => ((Small.num _ _).rep _).bind fun _ => (Small.num _ _).bind fun _ => ((small_en n).rep _).bind fun _ => Small.ret _
theorem small_tail (k a b : Int) : Small (if k = 1 then rdBeat k a b else rdToken k a b) := by
  split
  · exact (Small.num _ _).bind fun _ => (Small.num _ _).bind fun _ => (Small.num _ _).bind fun _ => Small.ret _
  · exact small_rg.bind fun _ => Small.ret _
theorem small_body (k : Int) : Small (rdBody k) := (Small.num _ _).bind fun _ => (Small.num _ _).bind fun _ => small_tail _ _ _
theorem readF_le (l : List Int) : (readF l).2.1 ≤ 13 := by
  unfold readF
  split
  · decide
  · split
    · decide
    · split
      · have := small_body (l.getD 1 0) l 2 0 (by decide); simp only; omega
      · split
        · decide
        · split
          · exact frameC_le _
          · simp
theorem readF_placed {l : List Int} (h : (readF l).2.2.1 = true) : (readF l).2.1 ≠ 0 := by
  unfold readF at h ⊢
  split at h
  · cases h
  · next h1 =>
    split at h
    · cases h
    · next h2 =>
      split at h
      · next h3 => rw [if_neg h1, if_neg h2, if_pos h3]; exact h3
      · split at h
        · cases h
        · split at h <;> cases h
theorem same_read (A : Nat → Addr) (B : Nat) (r : F × Nat × Bool × Nat) (hle : r.2.1 ≤ 13) (hpl : r.2.2.1 = true → r.2.1 ≠ 0) (u : Value) (w : World) (hE : E13 w A B) (h1 : r.2.2.1 = false → u = ev A r.2.1) (h2 : r.2.2.1 = true → AtErr w A u r.2.2.2 r.2.1) :
    Calls Tryd.prog 21 #[u, flt (dcode r.2.1) r.2.2.1 (if r.2.2.1 then (r.2.2.2 : Int) else 0)] w fun e w' => e = .returned (.bool true) ∧ Fr w w' [] := by
  obtain ⟨x, c, p, k⟩ := r
  simp only at hle hpl h1 h2 ⊢
  cases p with
  | false =>
    rw [h1 rfl]
    refine (same_of (ev A c) (dcode c) false 0 w (fun W hW => ?_)).mono fun e w' ⟨he, hg⟩ => ⟨he, Fr.of_grown hg []⟩
    cases c with
    | zero => exact fault_nil W
    | succ c =>
      rw [show dcode (c + 1) = 101 + (c : Int) by unfold dcode; rw [if_neg (by omega)]; omega]
      exact fault_sent A B c W (hE.kept hW (fun r e => by cases e)) (by omega)
  | true =>
    have hc := hpl rfl
    obtain ⟨d, rfl⟩ : ∃ d, c = d + 1 := ⟨c - 1, by omega⟩
    exact (same_code A B k d u w hE (by omega) (h2 rfl) (dcode (d + 1)) (k : Int) (by unfold dcode; rw [if_neg (by omega)]; omega) rfl).mono fun e w' ⟨he, hg⟩ => ⟨he, Fr.of_grown hg []⟩
theorem EVs {w : World} {A : Nat → Addr} {B : Nat} (h : E13 w A B) : EV [2, 3, 6, 10] w A B := h.evs [2, 3, 6, 10]
theorem EVq {w : World} {A : Nat → Addr} {B : Nat} (h : E13 w A B) : EV [1, 2, 3, 6, 10] w A B := h.evs [1, 2, 3, 6, 10]
theorem bytes_len {f : F} (hc : frameC f = 0) : (bytesF f).length ≤ 10000000 := by
  have hk := frameC_cases hc
  have a1 := Wm.enc_len f.fr
  have a2 := Wm.enc_len f.to
  unfold bytesF encBody
  rcases hk.2 with ⟨hk, _⟩ | ⟨hk, _, _, _, hr⟩
  · rw [if_pos hk]
    have a3 := Wm.enc_len f.li
    have a4 := Wm.enc_len f.se
    have a5 := Wm.enc_len (bit f.ou)
    simp only [List.length_cons, List.length_append]
    omega
  · rw [if_neg (by omega)]
    have hR := rgR_of (ringC_ok hr)
    have ho := ringC_ok hr
    have b1 := Wm.enc_len f.rg.co
    have b2 := Wm.enc_len f.rg.fo
    have b3 := Wm.enc_len f.rg.ho
    have b4 := Wm.enc_len (f.rg.ms.length : Int)
    have b5 := flat5 f.rg.ms
    have b6 := Wm.enc_len (f.rg.es.length : Int)
    have b7 := encEs_len f.rg.es hR.bl f.rg.es.length
    rw [List.take_length] at b7
    have c1 := ho.2.2.2.1
    have c2 := ho.2.2.2.2.2.1
    simp only [encR, List.length_cons, List.length_append]
    omega

set_option maxHeartbeats 16000000 in
set_option maxRecDepth 100000 in
theorem fsays_walk (f g : F) (vm ve vm' ve' vb : Value) (l : List Int) (hl : ∀ x ∈ l, 0 ≤ x ∧ x ≤ 255) (w : World) (A : Nat → Addr) (hE : E13 w A w.heap.size)
    (hm : Holds .i64 w vm f.rg.ms) (he : HE w ve f.rg.es) (hm' : Holds .i64 w vm' g.rg.ms) (he' : HE w ve' g.rg.es) (hb : Holds .u8 w vb l) :
    Calls Tryd.prog 3 #[frV f vm ve, frV g vm' ve', vb] w fun e w' => e = .returned (.bool true) ∧ w.grownBy w' none := by
  have HEV := Lib.hid hE
  have HM := Lib.hid hm
  have HX := Lib.hid he
  have HM' := Lib.hid hm'
  have HX' := Lib.hid he'
  have HVB := Lib.hid hb
  have HL := Lib.hid hl
  obtain ⟨ab, cb, rfl⟩ := hb.shape
  have hlm : l.length ≤ 9223372036854775807 := by have := bytes_size HVB.out; unfold maxLen at this; omega
  unfold frV
  have HF0 := Lib.hid ((Fr.alloc w (.cells #[.int .i64 f.ki, .int .i64 f.fr, .int .i64 f.to, .int .i64 f.li, .int .i64 f.se, .bool f.ou, .int .i64 f.rg.co, .int .i64 f.rg.fo, .int .i64 f.rg.ho, vm, ve] 29) []).trans (Fr.alloc _ (.cells #[.int .i64 g.ki, .int .i64 g.fr, .int .i64 g.to, .int .i64 g.li, .int .i64 g.se, .bool g.ou, .int .i64 g.rg.co, .int .i64 g.rg.fo, .int .i64 g.rg.ho, vm', ve'] 29) []))
  have HZ := Lib.hid (two_boxes w (.cells #[.int .i64 f.ki, .int .i64 f.fr, .int .i64 f.to, .int .i64 f.li, .int .i64 f.se, .bool f.ou, .int .i64 f.rg.co, .int .i64 f.rg.fo, .int .i64 f.rg.ho, vm, ve] 29) (.cells #[.int .i64 g.ki, .int .i64 g.fr, .int .i64 g.to, .int .i64 g.li, .int .i64 g.se, .bool g.ou, .int .i64 g.rg.co, .int .i64 g.rg.fo, .int .i64 g.rg.ho, vm', ve'] 29))
  clear hE hm he hm' he' hb hl
  by_cases hlen : 600 < l.length
  · have q1 : 600 < (l.length : Int) := by omega
    go_enter Tryd.func3, Tryd.ntmps3
    go_wp2_with fail
    refine (first5_any _ A _ _ (EVs (HEV.out.fr HF0.out (by simp)))).mono ?_
    rintro e w1 ⟨rfl, hf1⟩
    go_wp2
    go_ret
    exact ⟨rfl, (HF0.out.trans hf1).grown (by simp)⟩
  have q1 : ¬ 600 < (l.length : Int) := by omega
  by_cases hLf : Light f
  rotate_left
  · have HD := Lib.hid (no hLf)
    clear hLf
    go_enter Tryd.func3, Tryd.ntmps3
    go_wp2_with fail
    refine (first5_any _ A _ _ (EVs (HEV.out.fr HF0.out (by simp)))).mono ?_
    rintro e w1 ⟨rfl, hf1⟩
    have k1 := row11 (hf1.heap HZ.out.1 (by simp))
    have F1 := Lib.hid (HF0.out.trans hf1)
    clear hf1
    go_wp2_with fail
    refine (light_any f vm ve _ HD.out _ (HM.out.keep F1.out) (HX.out.keep F1.out)).mono ?_
    rintro e w2 ⟨rfl, hf2⟩
    go_wp2
    go_ret
    exact ⟨rfl, (F1.out.trans hf2).grown (by simp)⟩
  have HD := Lib.hid (yes hLf)
  have HLT := Lib.hid hLf
  clear hLf
  by_cases hLg : Light g
  rotate_left
  · have HD' := Lib.hid (no hLg)
    clear hLg
    go_enter Tryd.func3, Tryd.ntmps3
    go_wp2_with fail
    refine (first5_any _ A _ _ (EVs (HEV.out.fr HF0.out (by simp)))).mono ?_
    rintro e w1 ⟨rfl, hf1⟩
    have k1 := row11 (hf1.heap HZ.out.1 (by simp))
    have F1 := Lib.hid (HF0.out.trans hf1)
    have G1 := Lib.hid hf1
    clear hf1
    go_wp2_with fail
    refine (light_any f vm ve _ HD.out _ (HM.out.keep F1.out) (HX.out.keep F1.out)).mono ?_
    rintro e w2 ⟨rfl, hf2⟩
    have k2 := row11 ((G1.out.trans hf2).heap HZ.out.2 (by simp))
    have F2 := Lib.hid (F1.out.trans hf2)
    clear hf2 k1
    go_wp2_with fail
    refine (light_any g vm' ve' _ HD'.out _ (HM'.out.keep F2.out) (HX'.out.keep F2.out)).mono ?_
    rintro e w3 ⟨rfl, hf3⟩
    go_wp2
    go_ret
    exact ⟨rfl, (F2.out.trans hf3).grown (by simp)⟩
  have HD' := Lib.hid (yes hLg)
  have HLN := Lib.hid (show l.length ≤ 600 by omega)
  clear hLg hlen
  go_enter Tryd.func3, Tryd.ntmps3
  go_wp2_with fail
  refine (first5_any _ A _ _ (EVs (HEV.out.fr HF0.out (by simp)))).mono ?_
  rintro e w1 ⟨rfl, hf1⟩
  have k1 := row11 (hf1.heap HZ.out.1 (by simp))
  have F1 := Lib.hid (HF0.out.trans hf1)
  have G1 := Lib.hid hf1
  clear hf1
  go_wp2_with fail
  refine (light_any f vm ve _ HD.out _ (HM.out.keep F1.out) (HX.out.keep F1.out)).mono ?_
  rintro e w2 ⟨rfl, hf2⟩
  have k2 := row11 ((G1.out.trans hf2).heap HZ.out.2 (by simp))
  have F2 := Lib.hid (F1.out.trans hf2)
  have G2 := Lib.hid (G1.out.trans hf2)
  clear hf2 k1
  go_wp2_with fail
  refine (light_any g vm' ve' _ HD'.out _ (HM'.out.keep F2.out) (HX'.out.keep F2.out)).mono ?_
  rintro e w3 ⟨rfl, hf3⟩
  have F3 := Lib.hid (F2.out.trans hf3)
  have G3 := Lib.hid (G2.out.trans hf3)
  have k3 := row11 (G3.out.heap HZ.out.1 (by simp))
  clear hf3 k2 F1 F2 G1 G2
  go_wp2_with fail
  refine (rvalid_frame f vm ve _ (HM.out.keep F3.out) (HX.out.keep F3.out)).mono ?_
  rintro e w4 ⟨rfl, hf4⟩
  have F4 := Lib.hid (F3.out.trans hf4)
  have G4 := Lib.hid (G3.out.trans hf4)
  have k4 := row11 (G4.out.heap HZ.out.1 (by simp))
  obtain ⟨c, hc⟩ : ∃ c, c = frameC f := ⟨_, rfl⟩
  rw [← hc]
  have HC := Lib.hid hc
  have HCL := Lib.hid (show c ≤ 13 by rw [hc]; exact frameC_le f)
  obtain ⟨dc, hdc⟩ : ∃ dc, dc = dcode c := ⟨_, rfl⟩
  rw [← hdc]
  have HDC := Lib.hid hdc
  obtain ⟨xe, hxe⟩ : ∃ xe, xe = ev A c := ⟨_, rfl⟩
  have HXE := Lib.hid hxe
  clear hf4 k3 hc hdc hxe
  go_wp2_with fail
  refine (bytes_frame f vm ve _ A _ _ (EVs (HEV.out.fr F4.out (by simp))) (HM.out.keep F4.out) (HX.out.keep F4.out)).mono ?_
  rintro e w5 hb5
  have HB5 : Hid (∃ u, e = .returned (.tuple #[u, xe]) ∧ Fr w4 w5 [] ∧ (c = 0 → Own w5 w4.heap.size u (bytesF f)) ∧ (c ≠ 0 → u = .slice none 0 0)) := by
    rcases hb5 with ⟨h0, u, he, ho, hf⟩ | ⟨h0, he, hf⟩
    · refine ⟨u, ?_, hf, fun _ => ho, fun h => absurd (HC.out.trans h0) h⟩
      rw [he, HXE.out, HC.out, h0]; rfl
    · refine ⟨_, ?_, hf, fun h => absurd (HC.out.symm.trans h) h0, fun _ => rfl⟩
      rw [he, HXE.out, HC.out]
  clear hb5
  obtain ⟨u5, rfl, hf5, hu0, hu1⟩ := HB5.out
  clear HB5
  have F5 := Lib.hid (F4.out.trans hf5)
  have G5 := Lib.hid (G4.out.trans hf5)
  have HU0 := Lib.hid hu0
  have HU1 := Lib.hid hu1
  clear hf5 hu0 hu1 k4
  obtain ⟨bb, HFG⟩ : ∃ bb : Bool, Hid (bb = true ↔ f = g) := by
    by_cases h : f = g
    · exact ⟨true, iyes h⟩
    · exact ⟨false, ino h⟩
  have HVAL := Lib.hid (fun W (hW : Fr w W []) => (show Calls Tryd.prog 13 #[.agg #[.int .i64 f.ki, .int .i64 f.fr, .int .i64 f.to, .int .i64 f.li, .int .i64 f.se, .bool f.ou, .int .i64 f.rg.co, .int .i64 f.rg.fo, .int .i64 f.rg.ho, vm, ve]] W fun e w' => e = .returned xe ∧ Fr W w' [] from (by have h := valid_frame f vm ve W A _ _ (EVs (HEV.out.fr hW (by simp))) (HM.out.keep hW) (HX.out.keep hW); rw [← HC.out, ← HXE.out] at h; exact h)))
  have HIS := Lib.hid (fun W (hW : Fr w W []) => (show Calls Tryd.prog 12 #[xe, .int .i64 dc] W fun e w' => e = .returned (.bool true) ∧ Fr W w' [] from (by rw [HXE.out]; exact (is_any A _ c dc W (HEV.out.fr hW (by simp)) HCL.out HDC.out).mono fun e w' ⟨he, hg⟩ => ⟨he, Fr.of_grown hg []⟩)))
  have HSM := Lib.hid (fun W (hW : Fr w W []) => (show Calls Tryd.prog 14 #[.agg #[.int .i64 f.ki, .int .i64 f.fr, .int .i64 f.to, .int .i64 f.li, .int .i64 f.se, .bool f.ou, .int .i64 f.rg.co, .int .i64 f.rg.fo, .int .i64 f.rg.ho, vm, ve], .agg #[.int .i64 g.ki, .int .i64 g.fr, .int .i64 g.to, .int .i64 g.li, .int .i64 g.se, .bool g.ou, .int .i64 g.rg.co, .int .i64 g.rg.fo, .int .i64 g.rg.ho, vm', ve']] W fun e w' => e = .returned (.bool bb) ∧ Fr W w' [] from same_frame f g vm ve vm' ve' bb HFG.out W (HM.out.keep hW) (HX.out.keep hW) (HM'.out.keep hW) (HX'.out.keep hW)))
  have HRS := Lib.hid (fun W (hW : Fr w W []) => (show Calls Tryd.prog 15 #[.agg #[.int .i64 f.ki, .int .i64 f.fr, .int .i64 f.to, .int .i64 f.li, .int .i64 f.se, .bool f.ou, .int .i64 f.rg.co, .int .i64 f.rg.fo, .int .i64 f.rg.ho, vm, ve], .agg #[.int .i64 g.ki, .int .i64 g.fr, .int .i64 g.to, .int .i64 g.li, .int .i64 g.se, .bool g.ou, .int .i64 g.rg.co, .int .i64 g.rg.fo, .int .i64 g.rg.ho, vm', ve']] W fun e w' => e = .returned (.bool bb) ∧ Fr W w' [] from rsame_frame f g vm ve vm' ve' bb HFG.out W (HM.out.keep hW) (HX.out.keep hW) (HM'.out.keep hW) (HX'.out.keep hW)))
  have HCLN := Lib.hid (fun W (hW : Fr w W []) => (show Calls Tryd.prog 16 #[.agg #[.int .i64 f.ki, .int .i64 f.fr, .int .i64 f.to, .int .i64 f.li, .int .i64 f.se, .bool f.ou, .int .i64 f.rg.co, .int .i64 f.rg.fo, .int .i64 f.rg.ho, vm, ve]] W (Gives (ClnP f W)) from clone_frame f vm ve W (HM.out.keep hW) (HX.out.keep hW) (by have := HLT.out.2.1; omega) (by have := HLT.out.2.2; omega) (fun e he => by have := HLT.out.1 e he; omega)))
  have HRC := Lib.hid (fun W um ue (hW : Fr w W []) (h1 : Holds .i64 W um f.rg.ms) (h2 : HE W ue f.rg.es) => (show Calls Tryd.prog 15 #[.agg #[.int .i64 f.ki, .int .i64 f.fr, .int .i64 f.to, .int .i64 f.li, .int .i64 f.se, .bool f.ou, .int .i64 f.rg.co, .int .i64 f.rg.fo, .int .i64 f.rg.ho, um, ue], .agg #[.int .i64 f.ki, .int .i64 f.fr, .int .i64 f.to, .int .i64 f.li, .int .i64 f.se, .bool f.ou, .int .i64 f.rg.co, .int .i64 f.rg.fo, .int .i64 f.rg.ho, vm, ve]] W fun e w' => e = .returned (.bool true) ∧ Fr W w' [] from rsame_frame f f um ue vm ve true (iyes rfl) W h1 h2 (HM.out.keep hW) (HX.out.keep hW)))
  have HS0 := Lib.hid (show OwnS w.heap.size (w.heap.size + 1) f g vm ve vm' ve' w5 from ⟨C11.of (G5.out.heap HZ.out.1 (by simp)), C11.of (G5.out.heap HZ.out.2 (by simp))⟩)
  go_wp2_with fail
  refine wp_region_noPanic ?_
  refine wp_region_held_drew (S := OwnS w.heap.size (w.heap.size + 1) f g vm ve vm' ve') (by kernel_rfl) (HS0.out.keep (Fr.drew _ [])) (fun hHeld => ?_)
  have s0 := HS0.out.keep (Fr.drew w5 [])
  have E0 := Lib.hid (Fr.drew w5 [])
  refine wpAnyH_take (i := 0) (oi := _) (v := ?fv0z) (by simp only [List.getElem?_toArray, List.getElem?_cons_zero]; rfl) (by kernel_rfl) (by kernel_rfl) (by kernel_rfl) (fun _ _ _ h => h) (Or.inl ⟨by rfl, ?fy0z⟩) (by assumption) ?fr0z
  case fy0z => (intro w hSw; (try dsimp only [OwnS, C11] at hSw); go_simp; try with_reducible rfl)
  try simp only [Act.put, List.setIfInBounds_toArray, List.set_cons_zero, List.set_cons_succ]
  refine wpAnyH_take (i := 2) (oi := _) (v := ?fv2z) (by simp only [List.getElem?_toArray, List.getElem?_cons_zero, List.getElem?_cons_succ]; rfl) (by kernel_rfl) (by kernel_rfl) (by kernel_rfl) (fun _ _ _ h => h) (Or.inl ⟨by rfl, ?fy2z⟩) (by assumption) ?fr2z
  case fy2z => (intro w hSw; (try dsimp only [OwnS, C11] at hSw); go_simp; try with_reducible rfl)
  try simp only [Act.put, List.setIfInBounds_toArray, List.set_cons_zero, List.set_cons_succ]
  refine wpAnyH_ready (rs := [1]) (by kernel_rfl) (by simp) ?_
  refine AllReadyH.cons (o := _) rfl (fun K hK => ?_) AllReadyH.nil
  go_simp
  with_reducible refine (HVAL.out _ (F5.out.trans E0.out)).mono ?_
  rintro e x1 ⟨rfl, hh⟩
  have E1 := Lib.hid (E0.out.trans hh)
  have s1 := s0.keep hh
  have D1 := Lib.hid hh
  clear hh
  go_wp2_with fail
  refine hK.out _ _ s1 (fun hHeld => ?_)
  clear hK K
  try simp only [Act.put, List.setIfInBounds_toArray, List.set_cons_zero, List.set_cons_succ]
  refine wpAnyH_ready (rs := [3]) (by kernel_rfl) (by simp) ?_
  refine AllReadyH.cons (o := _) rfl (fun K hK => ?_) AllReadyH.nil
  go_simp
  with_reducible refine (HIS.out _ (F5.out.trans E1.out)).mono ?_
  rintro e x2 ⟨rfl, hh⟩
  have E2 := Lib.hid (E1.out.trans hh)
  have s2 := s1.keep hh
  have D2 := Lib.hid hh
  clear hh
  go_wp2_with fail
  refine hK.out _ _ s2 (fun hHeld => ?_)
  clear hK K
  try simp only [Act.put, List.setIfInBounds_toArray, List.set_cons_zero, List.set_cons_succ]
  refine wpAnyH_take (i := 4) (oi := _) (v := ?fv4z) (by simp only [List.getElem?_toArray, List.getElem?_cons_zero, List.getElem?_cons_succ]; rfl) (by kernel_rfl) (by kernel_rfl) (by kernel_rfl) (fun _ _ _ h => h) (Or.inl ⟨by rfl, ?fy4z⟩) (by assumption) ?fr4z
  case fy4z => (intro w hSw; (try dsimp only [OwnS, C11] at hSw); go_simp; try with_reducible rfl)
  try simp only [Act.put, List.setIfInBounds_toArray, List.set_cons_zero, List.set_cons_succ]
  refine wpAnyH_take (i := 5) (oi := _) (v := ?fv5z) (by simp only [List.getElem?_toArray, List.getElem?_cons_zero, List.getElem?_cons_succ]; rfl) (by kernel_rfl) (by kernel_rfl) (by kernel_rfl) (fun _ _ _ h => h) (Or.inl ⟨by rfl, ?fy5z⟩) (by assumption) ?fr5z
  case fy5z => (intro w hSw; (try dsimp only [OwnS, C11] at hSw); go_simp; try with_reducible rfl)
  try simp only [Act.put, List.setIfInBounds_toArray, List.set_cons_zero, List.set_cons_succ]
  refine wpAnyH_take (i := 6) (oi := _) (v := ?fv6z) (by simp only [List.getElem?_toArray, List.getElem?_cons_zero, List.getElem?_cons_succ]; rfl) (by kernel_rfl) (by kernel_rfl) (by kernel_rfl) (fun _ _ _ h => h) (Or.inl ⟨by rfl, ?fy6z⟩) (by assumption) ?fr6z
  case fy6z => (intro w hSw; (try dsimp only [OwnS, C11] at hSw); go_simp; try with_reducible rfl)
  try simp only [Act.put, List.setIfInBounds_toArray, List.set_cons_zero, List.set_cons_succ]
  refine wpAnyH_take (i := 7) (oi := _) (v := ?fv7z) (by simp only [List.getElem?_toArray, List.getElem?_cons_zero, List.getElem?_cons_succ]; rfl) (by kernel_rfl) (by kernel_rfl) (by kernel_rfl) (fun _ _ _ h => h) (Or.inl ⟨by rfl, ?fy7z⟩) (by assumption) ?fr7z
  case fy7z => (intro w hSw; (try dsimp only [OwnS, C11] at hSw); go_simp; try with_reducible rfl)
  try simp only [Act.put, List.setIfInBounds_toArray, List.set_cons_zero, List.set_cons_succ]
  refine wpAnyH_ready (rs := [8]) (by kernel_rfl) (by simp) ?_
  refine AllReadyH.cons (o := _) rfl (fun K hK => ?_) AllReadyH.nil
  go_simp
  with_reducible refine (HIS.out _ (F5.out.trans E2.out)).mono ?_
  rintro e x3 ⟨rfl, hh⟩
  have E3 := Lib.hid (E2.out.trans hh)
  have s3 := s2.keep hh
  have D3 := Lib.hid hh
  clear hh
  go_wp2_with fail
  refine hK.out _ _ s3 (fun hHeld => ?_)
  clear hK K
  try simp only [Act.put, List.setIfInBounds_toArray, List.set_cons_zero, List.set_cons_succ]
  refine wpAnyH_take (i := 9) (oi := _) (v := ?fv9z) (by simp only [List.getElem?_toArray, List.getElem?_cons_zero, List.getElem?_cons_succ]; rfl) (by kernel_rfl) (by kernel_rfl) (by kernel_rfl) (fun _ _ _ h => h) (Or.inl ⟨by rfl, ?fy9z⟩) (by assumption) ?fr9z
  case fy9z => (intro w hSw; (try dsimp only [OwnS, C11] at hSw); go_simp; try with_reducible rfl)
  try simp only [Act.put, List.setIfInBounds_toArray, List.set_cons_zero, List.set_cons_succ]
  refine wpAnyH_take (i := 10) (oi := _) (v := ?fv10z) (by simp only [List.getElem?_toArray, List.getElem?_cons_zero, List.getElem?_cons_succ]; rfl) (by kernel_rfl) (by kernel_rfl) (by kernel_rfl) (fun _ _ _ h => h) (Or.inl ⟨by rfl, ?fy10z⟩) (by assumption) ?fr10z
  case fy10z => (intro w hSw; (try dsimp only [OwnS, C11] at hSw); go_simp; try with_reducible rfl)
  try simp only [Act.put, List.setIfInBounds_toArray, List.set_cons_zero, List.set_cons_succ]
  refine wpAnyH_take (i := 11) (oi := _) (v := ?fv11z) (by simp only [List.getElem?_toArray, List.getElem?_cons_zero, List.getElem?_cons_succ]; rfl) (by kernel_rfl) (by kernel_rfl) (by kernel_rfl) (fun _ _ _ h => h) (Or.inl ⟨by rfl, ?fy11z⟩) (by assumption) ?fr11z
  case fy11z => (intro w hSw; (try dsimp only [OwnS, C11] at hSw); go_simp; try with_reducible rfl)
  try simp only [Act.put, List.setIfInBounds_toArray, List.set_cons_zero, List.set_cons_succ]
  refine wpAnyH_take (i := 12) (oi := _) (v := ?fv12z) (by simp only [List.getElem?_toArray, List.getElem?_cons_zero, List.getElem?_cons_succ]; rfl) (by kernel_rfl) (by kernel_rfl) (by kernel_rfl) (fun _ _ _ h => h) (Or.inl ⟨by rfl, ?fy12z⟩) (by assumption) ?fr12z
  case fy12z => (intro w hSw; (try dsimp only [OwnS, C11] at hSw); go_simp; try with_reducible rfl)
  try simp only [Act.put, List.setIfInBounds_toArray, List.set_cons_zero, List.set_cons_succ]
  refine wpAnyH_take (i := 13) (oi := _) (v := ?fv13z) (by simp only [List.getElem?_toArray, List.getElem?_cons_zero, List.getElem?_cons_succ]; rfl) (by kernel_rfl) (by kernel_rfl) (by kernel_rfl) (fun _ _ _ h => h) (Or.inl ⟨by rfl, ?fy13z⟩) (by assumption) ?fr13z
  case fy13z => (intro w hSw; (try dsimp only [OwnS, C11] at hSw); go_simp; try with_reducible rfl)
  try simp only [Act.put, List.setIfInBounds_toArray, List.set_cons_zero, List.set_cons_succ]
  refine wpAnyH_take (i := 15) (oi := _) (v := ?fv15z) (by simp only [List.getElem?_toArray, List.getElem?_cons_zero, List.getElem?_cons_succ]; rfl) (by kernel_rfl) (by kernel_rfl) (by kernel_rfl) (fun _ _ _ h => h) (Or.inl ⟨by rfl, ?fy15z⟩) (by assumption) ?fr15z
  case fy15z => (intro w hSw; (try dsimp only [OwnS, C11] at hSw); go_simp; try with_reducible rfl)
  try simp only [Act.put, List.setIfInBounds_toArray, List.set_cons_zero, List.set_cons_succ]
  refine wpAnyH_take (i := 16) (oi := _) (v := ?fv16z) (by simp only [List.getElem?_toArray, List.getElem?_cons_zero, List.getElem?_cons_succ]; rfl) (by kernel_rfl) (by kernel_rfl) (by kernel_rfl) (fun _ _ _ h => h) (Or.inl ⟨by rfl, ?fy16z⟩) (by assumption) ?fr16z
  case fy16z => (intro w hSw; (try dsimp only [OwnS, C11] at hSw); go_simp; try with_reducible rfl)
  try simp only [Act.put, List.setIfInBounds_toArray, List.set_cons_zero, List.set_cons_succ]
  refine wpAnyH_ready (rs := [14]) (by kernel_rfl) (by simp) ?_
  refine AllReadyH.cons (o := _) rfl (fun K hK => ?_) AllReadyH.nil
  go_simp
  with_reducible refine (HSM.out _ (F5.out.trans E3.out)).mono ?_
  rintro e x4 ⟨rfl, hh⟩
  have E4 := Lib.hid (E3.out.trans hh)
  have s4 := s3.keep hh
  have D4 := Lib.hid hh
  clear hh
  go_wp2_with fail
  refine hK.out _ _ s4 (fun hHeld => ?_)
  clear hK K
  try simp only [Act.put, List.setIfInBounds_toArray, List.set_cons_zero, List.set_cons_succ]
  refine wpAnyH_ready (rs := [17]) (by kernel_rfl) (by simp) ?_
  refine AllReadyH.cons (o := _) rfl (fun K hK => ?_) AllReadyH.nil
  go_simp
  with_reducible refine (HRS.out _ (F5.out.trans E4.out)).mono ?_
  rintro e x5 ⟨rfl, hh⟩
  have E5 := Lib.hid (E4.out.trans hh)
  have s5 := s4.keep hh
  have D5 := Lib.hid hh
  clear hh
  go_wp2_with fail
  refine hK.out _ _ s5 (fun hHeld => ?_)
  clear hK K
  try simp only [Act.put, List.setIfInBounds_toArray, List.set_cons_zero, List.set_cons_succ]
  refine wpAnyH_take (i := 18) (oi := _) (v := ?fv18z) (by simp only [List.getElem?_toArray, List.getElem?_cons_zero, List.getElem?_cons_succ]; rfl) (by kernel_rfl) (by kernel_rfl) (by kernel_rfl) (fun _ _ _ h => h) (Or.inl ⟨by rfl, ?fy18z⟩) (by assumption) ?fr18z
  case fy18z => (intro w hSw; (try dsimp only [OwnS, C11] at hSw); go_simp; try with_reducible rfl)
  try simp only [Act.put, List.setIfInBounds_toArray, List.set_cons_zero, List.set_cons_succ]
  refine wpAnyH_take (i := 19) (oi := _) (v := ?fv19z) (by simp only [List.getElem?_toArray, List.getElem?_cons_zero, List.getElem?_cons_succ]; rfl) (by kernel_rfl) (by kernel_rfl) (by kernel_rfl) (fun _ _ _ h => h) (Or.inl ⟨by rfl, ?fy19z⟩) (by assumption) ?fr19z
  case fy19z => (intro w hSw; (try dsimp only [OwnS, C11] at hSw); go_simp; try with_reducible rfl)
  try simp only [Act.put, List.setIfInBounds_toArray, List.set_cons_zero, List.set_cons_succ]
  refine wpAnyH_take (i := 20) (oi := _) (v := ?fv20z) (by simp only [List.getElem?_toArray, List.getElem?_cons_zero, List.getElem?_cons_succ]; rfl) (by kernel_rfl) (by kernel_rfl) (by kernel_rfl) (fun _ _ _ h => h) (Or.inl ⟨by rfl, ?fy20z⟩) (by assumption) ?fr20z
  case fy20z => (intro w hSw; (try dsimp only [OwnS, C11] at hSw); go_simp; try with_reducible rfl)
  try simp only [Act.put, List.setIfInBounds_toArray, List.set_cons_zero, List.set_cons_succ]
  refine wpAnyH_take (i := 21) (oi := _) (v := ?fv21z) (by simp only [List.getElem?_toArray, List.getElem?_cons_zero, List.getElem?_cons_succ]; rfl) (by kernel_rfl) (by kernel_rfl) (by kernel_rfl) (fun _ _ _ h => h) (Or.inl ⟨by rfl, ?fy21z⟩) (by assumption) ?fr21z
  case fy21z => (intro w hSw; (try dsimp only [OwnS, C11] at hSw); go_simp; try with_reducible rfl)
  try simp only [Act.put, List.setIfInBounds_toArray, List.set_cons_zero, List.set_cons_succ]
  refine wpAnyH_take (i := 23) (oi := _) (v := ?fv23z) (by simp only [List.getElem?_toArray, List.getElem?_cons_zero, List.getElem?_cons_succ]; rfl) (by kernel_rfl) (by kernel_rfl) (by kernel_rfl) (fun _ _ _ h => h) (Or.inl ⟨by rfl, ?fy23z⟩) (by assumption) ?fr23z
  case fy23z => (intro w hSw; (try dsimp only [OwnS, C11] at hSw); go_simp; try with_reducible rfl)
  try simp only [Act.put, List.setIfInBounds_toArray, List.set_cons_zero, List.set_cons_succ]
  refine wpAnyH_ready (rs := [22]) (by kernel_rfl) (by simp) ?_
  refine AllReadyH.cons (o := _) rfl (fun K hK => ?_) AllReadyH.nil
  go_simp
  with_reducible refine (HCLN.out _ (F5.out.trans E5.out)).mono ?_
  rintro e x6 ⟨u, rfl, um, ue, ys, rfl, o1, o2, hys, hh⟩
  have UM := Lib.hid o1.holds
  have UE := Lib.hid (show HE x6 ue f.rg.es from hys ▸ o2.he)
  clear o1 o2 hys
  unfold frV
  have E6 := Lib.hid (E5.out.trans hh)
  have s6 := s5.keep hh
  have D6 := Lib.hid hh
  clear hh
  go_wp2_with fail
  refine hK.out _ _ s6 (fun hHeld => ?_)
  clear hK K
  try simp only [Act.put, List.setIfInBounds_toArray, List.set_cons_zero, List.set_cons_succ]
  refine wpAnyH_ready (rs := [24]) (by kernel_rfl) (by simp) ?_
  refine AllReadyH.cons (o := _) rfl (fun K hK => ?_) AllReadyH.nil
  go_simp
  with_reducible refine (HRC.out _ um ue (F5.out.trans E6.out) UM.out UE.out).mono ?_
  rintro e x7 ⟨rfl, hh⟩
  have E7 := Lib.hid (E6.out.trans hh)
  have s7 := s6.keep hh
  have D7 := Lib.hid hh
  clear hh
  go_wp2_with fail
  refine hK.out _ _ s7 (fun hHeld => ?_)
  clear hK K
  try simp only [Act.put, List.setIfInBounds_toArray, List.set_cons_zero, List.set_cons_succ]
  refine wpAnyH_take (i := 25) (oi := _) (v := ?fv25z) (by simp only [List.getElem?_toArray, List.getElem?_cons_zero, List.getElem?_cons_succ]; rfl) (by kernel_rfl) (by kernel_rfl) (by kernel_rfl) (fun _ _ _ h => h) (Or.inl ⟨by rfl, ?fy25z⟩) (by assumption) ?fr25z
  case fy25z => (intro w hSw; (try dsimp only [OwnS, C11] at hSw); go_simp; try with_reducible rfl)
  try simp only [Act.put, List.setIfInBounds_toArray, List.set_cons_zero, List.set_cons_succ]
  refine wpAnyH_take (i := 26) (oi := _) (v := ?fv26z) (by simp only [List.getElem?_toArray, List.getElem?_cons_zero, List.getElem?_cons_succ]; rfl) (by kernel_rfl) (by kernel_rfl) (by kernel_rfl) (fun _ _ _ h => h) (Or.inl ⟨by rfl, ?fy26z⟩) (by assumption) ?fr26z
  case fy26z => (intro w hSw; (try dsimp only [OwnS, C11] at hSw); go_simp; try with_reducible rfl)
  try simp only [Act.put, List.setIfInBounds_toArray, List.set_cons_zero, List.set_cons_succ]
  refine wpAnyH_done (by kernel_rfl) ?_ _
  refine NoPanic.normal ?_
  have F8 := Lib.hid (F5.out.trans E7.out)
  have E8 := Lib.hid E7.out
  have G8 := Lib.hid (G5.out.trans E7.out)
  clear s0 s1 s2 s3 s4 s5 s6 s7 HVAL HIS HSM HRS HCLN HRC HS0
  have k8 := row11 (G8.out.heap HZ.out.1 (by simp))
  by_cases hc0 : c = 0
  · subst hc0
    obtain rfl : dc = 0 := HDC.out
    have ho := HU0.out rfl
    obtain ⟨au, cu, hus⟩ := ho.shape
    subst hus
    have HO8 := Lib.hid (ho.bytes.keep E8.out)
    have HLB := Lib.hid (bytes_len HC.out.symm)
    clear ho
    go_wp2_with fail
    refine (rframe_bytes f vm ve _ HC.out.symm (HM.out.keep F8.out) (HX.out.keep F8.out)).mono ?_
    rintro e wa ⟨ub, rfl, hub, hfa⟩
    obtain ⟨ag, cg, rfl⟩ := hub.shape
    have FA0 := Lib.hid (F8.out.trans hfa)
    have HU8 := Lib.hid hub
    have HO9 := Lib.hid (HO8.out.keep hfa)
    clear hub hfa k8
    go_wp2_with fail
    refine (same_any _ (bytesF f) _ (bytesF f) _ HO9.out HU8.out (by have := HLB.out; omega) true (by simp)).mono ?_
    rintro e wq ⟨rfl, hgq⟩
    have FQ := Lib.hid (FA0.out.trans (Fr.of_grown hgq []))
    clear hgq
    have HV9 := Lib.hid (HVB.out.keep FQ.out)
    have E9 := Lib.hid (HEV.out.fr FQ.out (by simp))
    go_wp2_with fail
    refine (read_frame _ l _ A _ [1, 2, 3, 6, 10] HV9.out HL.out (by have := HLN.out; omega) E9.out.three (EVq E9.out) FQ.out.size).mono ?_
    rintro e wr hr
    obtain ⟨hfr, um, ue, uu, rfl, hum, hue, hu1, hu2⟩ := hr
    obtain ⟨r, hrr⟩ : ∃ r, r = readF l := ⟨_, rfl⟩
    rw [← hrr] at hum hue hu1 hu2 ⊢
    have HR := Lib.hid hrr
    obtain ⟨za, zc, rfl⟩ := hum.shape
    obtain ⟨ya, yc, rfl⟩ := hue.shape
    unfold frV
    have FR := Lib.hid (FQ.out.trans hfr)
    have AR := Lib.hid (Fr.alloc wr (.cells #[.int .i64 r.1.ki, .int .i64 r.1.fr, .int .i64 r.1.to, .int .i64 r.1.li, .int .i64 r.1.se, .bool r.1.ou, .int .i64 r.1.rg.co, .int .i64 r.1.rg.fo, .int .i64 r.1.rg.ho, (.slice za r.1.rg.ms.length zc), (.slice ya r.1.rg.es.length yc)] 29) [])
    have BR := Lib.hid (heap_alloc_new wr (.cells #[.int .i64 r.1.ki, .int .i64 r.1.fr, .int .i64 r.1.to, .int .i64 r.1.li, .int .i64 r.1.se, .bool r.1.ou, .int .i64 r.1.rg.co, .int .i64 r.1.rg.fo, .int .i64 r.1.rg.ho, (.slice za r.1.rg.ms.length zc), (.slice ya r.1.rg.es.length yc)] 29))
    have FA := Lib.hid (FR.out.trans AR.out)
    have UMr := Lib.hid (hum.keep AR.out)
    have UEr := Lib.hid (hue.keep AR.out)
    have HSM := Lib.hid (fun W (hW : Fr wr W []) (hEW : E13 W A w.heap.size) => (show Calls Tryd.prog 21 #[uu, flt (dcode r.2.1) r.2.2.1 (if r.2.2.1 = true then (r.2.2.2 : Int) else 0)] W fun e w' => e = .returned (.bool true) ∧ Fr W w' [] from same_read A w.heap.size r (by rw [HR.out]; exact readF_le l) (by rw [HR.out]; exact readF_placed) uu W hEW hu1 (fun hp => (hu2 hp).fr hW (by simp))))
    clear hum hue hu1 hu2 hfr hrr
    go_wp2_with fail
    refine (rread_frame _ l _ (HVB.out.keep FA.out) HL.out (by have := HLN.out; omega)).mono ?_
    rintro e wt ⟨hft, tm, te, rfl, htm, hte⟩
    rw [← HR.out] at htm hte ⊢
    obtain ⟨za2, zc2, rfl⟩ := htm.shape
    obtain ⟨ya2, yc2, rfl⟩ := hte.shape
    generalize (if r.2.2.1 = true then (r.2.2.2 : Int) else 0) = fp at HSM ⊢
    generalize r.2.2.1 = fb at HSM ⊢
    generalize dcode r.2.1 = fc at HSM ⊢
    unfold flt at HSM
    unfold frV flt
    have FT := Lib.hid (FA.out.trans hft)
    have TB := Lib.hid (two_boxes wt (.cells #[.int .i64 r.1.ki, .int .i64 r.1.fr, .int .i64 r.1.to, .int .i64 r.1.li, .int .i64 r.1.se, .bool r.1.ou, .int .i64 r.1.rg.co, .int .i64 r.1.rg.fo, .int .i64 r.1.rg.ho, (.slice za2 r.1.rg.ms.length zc2), (.slice ya2 r.1.rg.es.length yc2)] 29) (.cells #[.int .i64 fc, .bool fb, .int .i64 fp] 47))
    have AT := Lib.hid ((Fr.alloc wt (.cells #[.int .i64 r.1.ki, .int .i64 r.1.fr, .int .i64 r.1.to, .int .i64 r.1.li, .int .i64 r.1.se, .bool r.1.ou, .int .i64 r.1.rg.co, .int .i64 r.1.rg.fo, .int .i64 r.1.rg.ho, (.slice za2 r.1.rg.ms.length zc2), (.slice ya2 r.1.rg.es.length yc2)] 29) []).trans (Fr.alloc _ (.cells #[.int .i64 fc, .bool fb, .int .i64 fp] 47) []))
    have BR2 := Lib.hid (AT.out.heap (hft.heap BR.out (by simp)) (by simp))
    have FW2 := Lib.hid (FT.out.trans AT.out)
    have FRW := Lib.hid ((AR.out.trans hft).trans AT.out)
    have UM2 := Lib.hid ((UMr.out.keep hft).keep AT.out)
    have UE2 := Lib.hid ((UEr.out.keep hft).keep AT.out)
    have TM2 := Lib.hid (htm.keep AT.out)
    have TE2 := Lib.hid (hte.keep AT.out)
    have k9 := row3 TB.out.2
    clear hft htm hte
    go_wp2_with fail
    refine (HSM.out _ FRW.out (HEV.out.fr FW2.out (by simp))).mono ?_
    rintro e wv ⟨rfl, hfv⟩
    have B1 := row11 (hfv.heap BR2.out (by simp))
    have B2 := row11 (hfv.heap TB.out.1 (by simp))
    have FV := Lib.hid (FW2.out.trans hfv)
    have HSF := Lib.hid (show Calls Tryd.prog 15 #[.agg #[.int .i64 r.1.ki, .int .i64 r.1.fr, .int .i64 r.1.to, .int .i64 r.1.li, .int .i64 r.1.se, .bool r.1.ou, .int .i64 r.1.rg.co, .int .i64 r.1.rg.fo, .int .i64 r.1.rg.ho, (.slice za r.1.rg.ms.length zc), (.slice ya r.1.rg.es.length yc)], .agg #[.int .i64 r.1.ki, .int .i64 r.1.fr, .int .i64 r.1.to, .int .i64 r.1.li, .int .i64 r.1.se, .bool r.1.ou, .int .i64 r.1.rg.co, .int .i64 r.1.rg.fo, .int .i64 r.1.rg.ho, (.slice za2 r.1.rg.ms.length zc2), (.slice ya2 r.1.rg.es.length yc2)]] wv fun e w' => e = .returned (.bool true) ∧ Fr wv w' [] from rsame_frame r.1 r.1 (.slice za r.1.rg.ms.length zc) (.slice ya r.1.rg.es.length yc) (.slice za2 r.1.rg.ms.length zc2) (.slice ya2 r.1.rg.es.length yc2) true (iyes rfl) wv (UM2.out.keep hfv) (UE2.out.keep hfv) (TM2.out.keep hfv) (TE2.out.keep hfv))
    clear hfv k9
    go_wp2_with fail
    refine HSF.out.mono ?_
    rintro e wx ⟨rfl, hfx⟩
    have FX := Lib.hid (FV.out.trans hfx)
    clear hfx B1 B2
    go_wp2
    go_ret
    exact ⟨rfl, FX.out.grown (by simp)⟩
  · obtain rfl := HU1.out hc0
    have hd1 := dcode_ne hc0
    rw [← HDC.out] at hd1
    have hd2 : (dc == 0) = false := by simpa using hd1
    clear hc0
    have HV9 := Lib.hid (HVB.out.keep F8.out)
    have E9 := Lib.hid (HEV.out.fr F8.out (by simp))
    go_wp2_with fail
    refine (read_frame _ l _ A _ [1, 2, 3, 6, 10] HV9.out HL.out (by have := HLN.out; omega) E9.out.three (EVq E9.out) F8.out.size).mono ?_
    rintro e wr hr
    obtain ⟨hfr, um, ue, uu, rfl, hum, hue, hu1, hu2⟩ := hr
    obtain ⟨r, hrr⟩ : ∃ r, r = readF l := ⟨_, rfl⟩
    rw [← hrr] at hum hue hu1 hu2 ⊢
    have HR := Lib.hid hrr
    obtain ⟨za, zc, rfl⟩ := hum.shape
    obtain ⟨ya, yc, rfl⟩ := hue.shape
    unfold frV
    have FR := Lib.hid (F8.out.trans hfr)
    have AR := Lib.hid (Fr.alloc wr (.cells #[.int .i64 r.1.ki, .int .i64 r.1.fr, .int .i64 r.1.to, .int .i64 r.1.li, .int .i64 r.1.se, .bool r.1.ou, .int .i64 r.1.rg.co, .int .i64 r.1.rg.fo, .int .i64 r.1.rg.ho, (.slice za r.1.rg.ms.length zc), (.slice ya r.1.rg.es.length yc)] 29) [])
    have BR := Lib.hid (heap_alloc_new wr (.cells #[.int .i64 r.1.ki, .int .i64 r.1.fr, .int .i64 r.1.to, .int .i64 r.1.li, .int .i64 r.1.se, .bool r.1.ou, .int .i64 r.1.rg.co, .int .i64 r.1.rg.fo, .int .i64 r.1.rg.ho, (.slice za r.1.rg.ms.length zc), (.slice ya r.1.rg.es.length yc)] 29))
    have FA := Lib.hid (FR.out.trans AR.out)
    have UMr := Lib.hid (hum.keep AR.out)
    have UEr := Lib.hid (hue.keep AR.out)
    have HSM := Lib.hid (fun W (hW : Fr wr W []) (hEW : E13 W A w.heap.size) => (show Calls Tryd.prog 21 #[uu, flt (dcode r.2.1) r.2.2.1 (if r.2.2.1 = true then (r.2.2.2 : Int) else 0)] W fun e w' => e = .returned (.bool true) ∧ Fr W w' [] from same_read A w.heap.size r (by rw [HR.out]; exact readF_le l) (by rw [HR.out]; exact readF_placed) uu W hEW hu1 (fun hp => (hu2 hp).fr hW (by simp))))
    clear hum hue hu1 hu2 hfr hrr
    go_wp2_with fail
    refine (rread_frame _ l _ (HVB.out.keep FA.out) HL.out (by have := HLN.out; omega)).mono ?_
    rintro e wt ⟨hft, tm, te, rfl, htm, hte⟩
    rw [← HR.out] at htm hte ⊢
    obtain ⟨za2, zc2, rfl⟩ := htm.shape
    obtain ⟨ya2, yc2, rfl⟩ := hte.shape
    generalize (if r.2.2.1 = true then (r.2.2.2 : Int) else 0) = fp at HSM ⊢
    generalize r.2.2.1 = fb at HSM ⊢
    generalize dcode r.2.1 = fc at HSM ⊢
    unfold flt at HSM
    unfold frV flt
    have FT := Lib.hid (FA.out.trans hft)
    have TB := Lib.hid (two_boxes wt (.cells #[.int .i64 r.1.ki, .int .i64 r.1.fr, .int .i64 r.1.to, .int .i64 r.1.li, .int .i64 r.1.se, .bool r.1.ou, .int .i64 r.1.rg.co, .int .i64 r.1.rg.fo, .int .i64 r.1.rg.ho, (.slice za2 r.1.rg.ms.length zc2), (.slice ya2 r.1.rg.es.length yc2)] 29) (.cells #[.int .i64 fc, .bool fb, .int .i64 fp] 47))
    have AT := Lib.hid ((Fr.alloc wt (.cells #[.int .i64 r.1.ki, .int .i64 r.1.fr, .int .i64 r.1.to, .int .i64 r.1.li, .int .i64 r.1.se, .bool r.1.ou, .int .i64 r.1.rg.co, .int .i64 r.1.rg.fo, .int .i64 r.1.rg.ho, (.slice za2 r.1.rg.ms.length zc2), (.slice ya2 r.1.rg.es.length yc2)] 29) []).trans (Fr.alloc _ (.cells #[.int .i64 fc, .bool fb, .int .i64 fp] 47) []))
    have BR2 := Lib.hid (AT.out.heap (hft.heap BR.out (by simp)) (by simp))
    have FW2 := Lib.hid (FT.out.trans AT.out)
    have FRW := Lib.hid ((AR.out.trans hft).trans AT.out)
    have UM2 := Lib.hid ((UMr.out.keep hft).keep AT.out)
    have UE2 := Lib.hid ((UEr.out.keep hft).keep AT.out)
    have TM2 := Lib.hid (htm.keep AT.out)
    have TE2 := Lib.hid (hte.keep AT.out)
    have k9 := row3 TB.out.2
    clear hft htm hte
    go_wp2_with fail
    refine (HSM.out _ FRW.out (HEV.out.fr FW2.out (by simp))).mono ?_
    rintro e wv ⟨rfl, hfv⟩
    have B1 := row11 (hfv.heap BR2.out (by simp))
    have B2 := row11 (hfv.heap TB.out.1 (by simp))
    have FV := Lib.hid (FW2.out.trans hfv)
    have HSF := Lib.hid (show Calls Tryd.prog 15 #[.agg #[.int .i64 r.1.ki, .int .i64 r.1.fr, .int .i64 r.1.to, .int .i64 r.1.li, .int .i64 r.1.se, .bool r.1.ou, .int .i64 r.1.rg.co, .int .i64 r.1.rg.fo, .int .i64 r.1.rg.ho, (.slice za r.1.rg.ms.length zc), (.slice ya r.1.rg.es.length yc)], .agg #[.int .i64 r.1.ki, .int .i64 r.1.fr, .int .i64 r.1.to, .int .i64 r.1.li, .int .i64 r.1.se, .bool r.1.ou, .int .i64 r.1.rg.co, .int .i64 r.1.rg.fo, .int .i64 r.1.rg.ho, (.slice za2 r.1.rg.ms.length zc2), (.slice ya2 r.1.rg.es.length yc2)]] wv fun e w' => e = .returned (.bool true) ∧ Fr wv w' [] from rsame_frame r.1 r.1 (.slice za r.1.rg.ms.length zc) (.slice ya r.1.rg.es.length yc) (.slice za2 r.1.rg.ms.length zc2) (.slice ya2 r.1.rg.es.length yc2) true (iyes rfl) wv (UM2.out.keep hfv) (UE2.out.keep hfv) (TM2.out.keep hfv) (TE2.out.keep hfv))
    clear hfv k9
    go_wp2_with fail
    refine HSF.out.mono ?_
    rintro e wx ⟨rfl, hfx⟩
    have FX := Lib.hid (FV.out.trans hfx)
    clear hfx B1 B2
    go_wp2
    go_ret
    exact ⟨rfl, FX.out.grown (by simp)⟩
end Go.Proofs.YtpeocdcciecpoaaDoor
