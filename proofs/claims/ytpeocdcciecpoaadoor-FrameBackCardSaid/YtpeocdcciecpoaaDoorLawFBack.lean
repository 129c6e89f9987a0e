/- The walk of the frame's law of the way back: a frame is read from its bytes as it is; cut off, or longer, it is not; what is read has just these bytes; unlike frames have unlike ones. -/
import Derived.Test.YtpeocdcciecpoaaDoorLawFBeats
namespace Go.Proofs.YtpeocdcciecpoaaDoor
open Go.RowKit Fm

/-- Six errors are enough for all that reads and writes frames. -/
theorem EV.three {is : List Nat} {w : World} {A : Nat → Addr} {B : Nat} (h : EV is w A B) (hs : ∀ i ∈ [0, 1, 2], i ∈ is := by decide) : E3 w A B :=
  ⟨h.cell 0 (hs 0 (by decide)), h.cell 1 (hs 1 (by decide)), h.cell 2 (hs 2 (by decide))⟩
theorem ReadE.not {A : Nat → Addr} {r : F × Nat × Bool × Nat} {w0 w' : World} {e : Ending} (h : ReadE A r w0 e w') (hr : r.2.1 ≠ 0) : Fr w0 w' [] ∧ ∃ vm ve t p, e = .returned (.tuple #[frV r.1 vm ve, .iface t (.pointer (some p))]) ∧ (t = 137 ∨ t = 112) ∧ Holds .i64 w' vm r.1.rg.ms ∧ HE w' ve r.1.rg.es := by
  obtain ⟨h0, vm, ve, u, rfl, h1, h2, h3, h4⟩ := h
  refine ⟨h0, vm, ve, ?_⟩
  cases hp : r.2.2.1 with
  | false =>
    obtain rfl := h3 hp
    exact ⟨_, A r.2.1, by rw [ev_ne A hr], .inl rfl, h1, h2⟩
  | true =>
    obtain ⟨q, rfl, _⟩ := h4 hp
    exact ⟨_, _, rfl, .inr rfl, h1, h2⟩
theorem bytes_len {f : F} (hc : frameC f = 0) : (bytesF f).length ≤ 10000000 := by
  have hk := frameC_cases hc
  have a1 := Wm.enc_len f.fr
  have a2 := Wm.enc_len f.to
  unfold bytesF encBody
  rcases hk.2 with ⟨hk, _⟩ | ⟨hk, _, _, _, hr⟩
  · rw [if_pos hk]
    have a3 := Wm.enc_len f.li
    have a4 := Wm.enc_len f.se
    have a5 := Wm.enc_len (bit f.ou)
    simp only [List.length_cons, List.length_append]
    omega
  · rw [if_neg (by omega)]
    have hR := rgR_of (ringC_ok hr)
    have ho := ringC_ok hr
    have b1 := Wm.enc_len f.rg.co
    have b2 := Wm.enc_len f.rg.fo
    have b3 := Wm.enc_len f.rg.ho
    have b4 := Wm.enc_len (f.rg.ms.length : Int)
    have b5 := flat5 f.rg.ms
    have b6 := Wm.enc_len (f.rg.es.length : Int)
    have b7 := encEs_len f.rg.es hR.bl f.rg.es.length
    rw [List.take_length] at b7
    have c1 := ho.2.2.2.1
    have c2 := ho.2.2.2.2.2.1
    simp only [encR, List.length_cons, List.length_append]
    omega

theorem readF_eq {l : List Int} (h : (readF l).2.1 = 0) : readF l = ((readF l).1, 0, false, 0) := by
  unfold readF at h ⊢
  split at h
  · cases h
  · next h1 =>
    split at h
    · cases h
    · next h2 =>
      split at h
      · next h3 => exact absurd h h3
      · next h3 =>
        split at h
        · cases h
        · next h4 =>
          split at h
          · next h5 => exact absurd h h5
          · next h5 => rw [if_neg h1, if_neg h2, if_neg h3, if_neg h4, if_neg h5]
theorem BytesE.some {A : Nat → Addr} {f : F} {w0 : World} {e : Ending} {w' : World} (h : BytesE A f w0 e w') : Fr w0 w' [] ∧ ∃ u x, e = .returned (.tuple #[u, x]) := by
  rcases h with ⟨_, u, h1, _, h2⟩ | ⟨_, h1, h2⟩
  · exact ⟨h2, _, _, h1⟩
  · exact ⟨h2, _, _, h1⟩
theorem BytesE.both {A : Nat → Addr} {f : F} {w0 : World} {e : Ending} {w' : World} (h : BytesE A f w0 e w') : Fr w0 w' [] ∧ ∃ u x, e = .returned (.tuple #[u, x]) ∧ (frameC f = 0 → x = .nilIface ∧ Bytes w' u (bytesF f)) ∧ (frameC f ≠ 0 → x = ev A (frameC f)) := by
  rcases h with ⟨h0, u, h1, h3, h2⟩ | ⟨h0, h1, h2⟩
  · exact ⟨h2, _, _, h1, fun _ => ⟨rfl, h3.bytes⟩, fun h => absurd h0 h⟩
  · exact ⟨h2, _, _, h1, fun h => absurd h h0, fun _ => rfl⟩
theorem own_head {w : World} {B : Nat} {v : Value} {l : List Int} (h : Own w B v l) (h0 : 0 < l.length) : ∃ g cap, v = .slice (some ⟨g, 0, none⟩) l.length cap ∧ l.length ≤ cap := by
  rcases h.2 with ⟨_, h1⟩ | ⟨g, cap, cur, rfl, _, _, hn, _⟩
  · omega
  · exact ⟨g, cap, rfl, hn⟩
theorem len_light {f : F} (hc : frameC f = 0) (hL : Light f) : (bytesF f).length ≤ 100000 := by
  have key : ∀ l : List En, (∀ e ∈ l, e.bs.length ≤ 20) → (l.flatMap encE).length ≤ 450 * l.length := by
    intro l
    induction l with
    | nil => simp
    | cons x xs ih =>
      intro hl
      have := encE_len x
      have h1 := hl x (by simp)
      have h2 := ih (fun e he => hl e (by simp [he]))
      unfold EnLen at this
      simp only [List.flatMap_cons, List.length_append, List.length_cons]
      omega
  have hk := frameC_cases hc
  have a1 := Wm.enc_len f.fr
  have a2 := Wm.enc_len f.to
  unfold bytesF encBody
  rcases hk.2 with ⟨hk, _⟩ | ⟨hk, _, _, _, hr⟩
  · rw [if_pos hk]
    have a3 := Wm.enc_len f.li
    have a4 := Wm.enc_len f.se
    have a5 := Wm.enc_len (bit f.ou)
    simp only [List.length_cons, List.length_append]
    omega
  · rw [if_neg (by omega)]
    have b1 := Wm.enc_len f.rg.co
    have b2 := Wm.enc_len f.rg.fo
    have b3 := Wm.enc_len f.rg.ho
    have b4 := Wm.enc_len (f.rg.ms.length : Int)
    have b5 := flat5 f.rg.ms
    have b6 := Wm.enc_len (f.rg.es.length : Int)
    have b7 := key f.rg.es hL.1
    have c1 := hL.2.1
    have c2 := hL.2.2
    simp only [encR, List.length_cons, List.length_append]
    omega

/-- A frame by its cells. -/
def C11 (a : World) (b : Nat) (f : F) (vm ve : Value) : Prop :=
  a.cell? ⟨b, 0, none⟩ = some (.int .i64 f.ki) ∧ a.cell? ⟨b, 1, none⟩ = some (.int .i64 f.fr) ∧ a.cell? ⟨b, 2, none⟩ = some (.int .i64 f.to) ∧ a.cell? ⟨b, 3, none⟩ = some (.int .i64 f.li) ∧ a.cell? ⟨b, 4, none⟩ = some (.int .i64 f.se) ∧ a.cell? ⟨b, 5, none⟩ = some (.bool f.ou) ∧
  a.cell? ⟨b, 6, none⟩ = some (.int .i64 f.rg.co) ∧ a.cell? ⟨b, 7, none⟩ = some (.int .i64 f.rg.fo) ∧ a.cell? ⟨b, 8, none⟩ = some (.int .i64 f.rg.ho) ∧ a.cell? ⟨b, 9, none⟩ = some vm ∧ a.cell? ⟨b, 10, none⟩ = some ve
theorem C11.keep {a c : World} {b : Nat} {f : F} {vm ve : Value} (h : C11 a b f vm ve) (k : Fr a c []) : C11 c b f vm ve := by
  obtain ⟨h0, h1, h2, h3, h4, h5, h6, h7, h8, h9, h10⟩ := h
  exact ⟨k.cell h0 (by simp), k.cell h1 (by simp), k.cell h2 (by simp), k.cell h3 (by simp), k.cell h4 (by simp), k.cell h5 (by simp), k.cell h6 (by simp), k.cell h7 (by simp), k.cell h8 (by simp), k.cell h9 (by simp), k.cell h10 (by simp)⟩
theorem C11.of {a : World} {b : Nat} {f : F} {vm ve : Value} (h : a.heap[b]? = some (.cells #[.int .i64 f.ki, .int .i64 f.fr, .int .i64 f.to, .int .i64 f.li, .int .i64 f.se, .bool f.ou, .int .i64 f.rg.co, .int .i64 f.rg.fo, .int .i64 f.rg.ho, vm, ve] 29 (0, 0))) : C11 a b f vm ve := row11 h
/-- What stands at the law's end: three frames in boxes. -/
def BackS (w0 : World) (b1 b2 b3 : Nat) (f1 f2 f3 : F) (m1 e1 m2 e2 m3 e3 : Value) (a : World) : Prop := Fr w0 a [] ∧ C11 a b1 f1 m1 e1 ∧ C11 a b2 f2 m2 e2 ∧ C11 a b3 f3 m3 e3
theorem BackS.keep {w0 : World} {b1 b2 b3 : Nat} {f1 f2 f3 : F} {m1 e1 m2 e2 m3 e3 : Value} {a c : World} (h : BackS w0 b1 b2 b3 f1 f2 f3 m1 e1 m2 e2 m3 e3 a) (k : Fr a c []) : BackS w0 b1 b2 b3 f1 f2 f3 m1 e1 m2 e2 m3 e3 c :=
  ⟨h.1.trans k, h.2.1.keep k, h.2.2.1.keep k, h.2.2.2.keep k⟩

set_option maxHeartbeats 8000000 in
set_option maxRecDepth 100000 in
theorem fback_walk (f g : F) (vm ve vm' ve' vb : Value) (l : List Int) (cut : Int) (hl : ∀ x ∈ l, 0 ≤ x ∧ x ≤ 255) (hcut : -9223372036854775808 ≤ cut ∧ cut ≤ 9223372036854775807) (w : World) (A : Nat → Addr) (hE : EV [0, 1, 2, 3, 6, 10] w A w.heap.size)
    (hm : Holds .i64 w vm f.rg.ms) (he : HE w ve f.rg.es) (hm' : Holds .i64 w vm' g.rg.ms) (he' : HE w ve' g.rg.es) (hb : Holds .u8 w vb l) :
    Calls Tryd.prog 4 #[frV f vm ve, frV g vm' ve', vb, .int .i64 cut] w fun e w' => e = .returned (.bool true) ∧ w.grownBy w' none := by
  have HEV := Lib.hid hE
  have HM := Lib.hid hm
  have HX := Lib.hid he
  have HM' := Lib.hid hm'
  have HX' := Lib.hid he'
  have HVB := Lib.hid hb
  have HL := Lib.hid hl
  have HCUT := Lib.hid hcut
  obtain ⟨ab, cb, rfl⟩ := hb.shape
  have hlm : l.length ≤ 9223372036854775807 := by have := bytes_size HVB.out; unfold maxLen at this; omega
  unfold frV
  have HF0 := Lib.hid ((Fr.alloc w (.cells #[.int .i64 f.ki, .int .i64 f.fr, .int .i64 f.to, .int .i64 f.li, .int .i64 f.se, .bool f.ou, .int .i64 f.rg.co, .int .i64 f.rg.fo, .int .i64 f.rg.ho, vm, ve] 29) []).trans (Fr.alloc _ (.cells #[.int .i64 g.ki, .int .i64 g.fr, .int .i64 g.to, .int .i64 g.li, .int .i64 g.se, .bool g.ou, .int .i64 g.rg.co, .int .i64 g.rg.fo, .int .i64 g.rg.ho, vm', ve'] 29) []))
  have HZ := Lib.hid (two_boxes w (.cells #[.int .i64 f.ki, .int .i64 f.fr, .int .i64 f.to, .int .i64 f.li, .int .i64 f.se, .bool f.ou, .int .i64 f.rg.co, .int .i64 f.rg.fo, .int .i64 f.rg.ho, vm, ve] 29) (.cells #[.int .i64 g.ki, .int .i64 g.fr, .int .i64 g.to, .int .i64 g.li, .int .i64 g.se, .bool g.ou, .int .i64 g.rg.co, .int .i64 g.rg.fo, .int .i64 g.rg.ho, vm', ve'] 29))
  clear hE hm he hm' he' hb hl hcut
  by_cases hlen : 600 < l.length
  · have q1 : 600 < (l.length : Int) := by omega
    go_enter Tryd.func4, Tryd.ntmps4
    go_wp2_with fail
    refine (first5_any _ A _ _ (HEV.out.keep HF0.out)).mono ?_
    rintro e w1 ⟨rfl, hf1⟩
    go_wp2
    go_ret
    exact ⟨rfl, (HF0.out.trans hf1).grown (by simp)⟩
  have q1 : ¬ 600 < (l.length : Int) := by omega
  by_cases hLf : Light f
  rotate_left
  · have HD := Lib.hid (no hLf)
    clear hLf
    go_enter Tryd.func4, Tryd.ntmps4
    go_wp2_with fail
    refine (first5_any _ A _ _ (HEV.out.keep HF0.out)).mono ?_
    rintro e w1 ⟨rfl, hf1⟩
    have k1 := row11 (hf1.heap HZ.out.1 (by simp))
    have F1 := Lib.hid (HF0.out.trans hf1)
    clear hf1
    go_wp2_with fail
    refine (light_any f vm ve _ HD.out _ (HM.out.keep F1.out) (HX.out.keep F1.out)).mono ?_
    rintro e w2 ⟨rfl, hf2⟩
    go_wp2
    go_ret
    exact ⟨rfl, (F1.out.trans hf2).grown (by simp)⟩
  have HD := Lib.hid (yes hLf)
  have hLf' := hLf
  clear hLf
  by_cases hLg : Light g
  rotate_left
  · have HD' := Lib.hid (no hLg)
    clear hLg
    go_enter Tryd.func4, Tryd.ntmps4
    go_wp2_with fail
    refine (first5_any _ A _ _ (HEV.out.keep HF0.out)).mono ?_
    rintro e w1 ⟨rfl, hf1⟩
    have k1 := row11 (hf1.heap HZ.out.1 (by simp))
    have F1 := Lib.hid (HF0.out.trans hf1)
    have G1 := Lib.hid hf1
    clear hf1
    go_wp2_with fail
    refine (light_any f vm ve _ HD.out _ (HM.out.keep F1.out) (HX.out.keep F1.out)).mono ?_
    rintro e w2 ⟨rfl, hf2⟩
    have k2 := row11 ((G1.out.trans hf2).heap HZ.out.2 (by simp))
    have F2 := Lib.hid (F1.out.trans hf2)
    clear hf2 k1
    go_wp2_with fail
    refine (light_any g vm' ve' _ HD'.out _ (HM'.out.keep F2.out) (HX'.out.keep F2.out)).mono ?_
    rintro e w3 ⟨rfl, hf3⟩
    go_wp2
    go_ret
    exact ⟨rfl, (F2.out.trans hf3).grown (by simp)⟩
  have HD' := Lib.hid (yes hLg)
  have HLN := Lib.hid hlen
  have HLT := Lib.hid hLf'
  clear hLg hlen hLf'
  go_enter Tryd.func4, Tryd.ntmps4
  go_wp2_with fail
  refine (first5_any _ A _ _ (HEV.out.keep HF0.out)).mono ?_
  rintro e w1 ⟨rfl, hf1⟩
  have k1 := row11 (hf1.heap HZ.out.1 (by simp))
  have F1 := Lib.hid (HF0.out.trans hf1)
  have G1 := Lib.hid hf1
  clear hf1
  go_wp2_with fail
  refine (light_any f vm ve _ HD.out _ (HM.out.keep F1.out) (HX.out.keep F1.out)).mono ?_
  rintro e w2 ⟨rfl, hf2⟩
  have k2 := row11 ((G1.out.trans hf2).heap HZ.out.2 (by simp))
  have F2 := Lib.hid (F1.out.trans hf2)
  have G2 := Lib.hid (G1.out.trans hf2)
  clear hf2 k1
  go_wp2_with fail
  refine (light_any g vm' ve' _ HD'.out _ (HM'.out.keep F2.out) (HX'.out.keep F2.out)).mono ?_
  rintro e w3 ⟨rfl, hf3⟩
  have F3 := Lib.hid (F2.out.trans hf3)
  have BF := Lib.hid ((G2.out.trans hf3).heap HZ.out.1 (by simp))
  have BG := Lib.hid ((G2.out.trans hf3).heap HZ.out.2 (by simp))
  have EV3 := Lib.hid (HEV.out.keep F3.out)
  have HV3 := Lib.hid (HVB.out.keep F3.out)
  clear hf3 k2 F1 G1 F2 G2
  go_wp2_with fail
  refine (read_frame _ l _ A _ _ HV3.out HL.out (by have := HLN.out; omega) EV3.out.three EV3.out (by have := F3.out.size; omega)).mono ?_
  rintro e w4 hr
  have HRD := Lib.hid hr
  clear hr
  by_cases hrd : (readF l).2.1 = 0
  · have hx := readF_eq hrd
    have hbr := bytes_read HL.out hrd
    obtain ⟨x, hxx⟩ : ∃ x, x = (readF l).1 := ⟨_, rfl⟩
    rw [← hxx] at hx hbr
    have HBR := Lib.hid hbr
    obtain ⟨hf4, um, ue, rfl, hum, hue⟩ := HRD.out.of hx
    obtain ⟨sm, cm', rfl⟩ := hum.shape
    obtain ⟨se', ce', rfl⟩ := hue.shape
    have UM := Lib.hid hum
    have UE := Lib.hid hue
    have F4 := Lib.hid (F3.out.trans hf4)
    unfold frV
    have XA := Lib.hid (Fr.alloc w4 (.cells #[.int .i64 x.ki, .int .i64 x.fr, .int .i64 x.to, .int .i64 x.li, .int .i64 x.se, .bool x.ou, .int .i64 x.rg.co, .int .i64 x.rg.fo, .int .i64 x.rg.ho, .slice sm x.rg.ms.length cm', .slice se' x.rg.es.length ce'] 29) [])
    have BX5 := Lib.hid (heap_alloc_new w4 (.cells #[.int .i64 x.ki, .int .i64 x.fr, .int .i64 x.to, .int .i64 x.li, .int .i64 x.se, .bool x.ou, .int .i64 x.rg.co, .int .i64 x.rg.fo, .int .i64 x.rg.ho, .slice sm x.rg.ms.length cm', .slice se' x.rg.es.length ce'] 29))
    have F5 := Lib.hid (F4.out.trans XA.out)
    have BF5 := Lib.hid (XA.out.heap (hf4.heap BF.out (by simp)) (by simp))
    have BG5 := Lib.hid (XA.out.heap (hf4.heap BG.out (by simp)) (by simp))
    clear hum hue hf4 hx hbr hxx hrd
    go_wp2_with fail
    refine (bytes_frame x _ _ _ A _ _ (HEV.out.keep F5.out) (UM.out.keep XA.out) (UE.out.keep XA.out)).mono ?_
    rintro e w6 hb6
    obtain ⟨u6, rfl, ho6, hf6⟩ := hb6.ok HBR.out.1
    rw [HBR.out.2] at ho6
    have O6 := Lib.hid ho6
    have F6 := Lib.hid (F5.out.trans hf6)
    have X6 := Lib.hid (XA.out.trans hf6)
    have BF6 := Lib.hid (hf6.heap BF5.out (by simp))
    have BG6 := Lib.hid (hf6.heap BG5.out (by simp))
    have k6 := row11 (hf6.heap BX5.out (by simp))
    clear ho6 hf6 hb6
    go_wp2_with fail
    refine (valid_frame x _ _ _ A _ _ (HEV.out.keep F6.out) (UM.out.keep X6.out) (UE.out.keep X6.out)).mono ?_
    rintro e w7 ⟨rfl, hf7⟩
    rw [HBR.out.1, show ev A 0 = .nilIface from rfl]
    have F7 := Lib.hid (F6.out.trans hf7)
    have BF7 := Lib.hid (hf7.heap BF6.out (by simp))
    have BG7 := Lib.hid (hf7.heap BG6.out (by simp))
    have O7 := Lib.hid (O6.out.bytes.keep hf7)
    clear hf7 k6
    go_wp2_with fail
    refine (same_any _ l _ l _ (HVB.out.keep F7.out) O7.out (by have := HLN.out; omega) true (by simp)).mono ?_
    rintro e w8 ⟨rfl, hg8⟩
    have F8 := Lib.hid (F7.out.trans (Fr.of_grown hg8 []))
    have BF8 := Lib.hid ((Fr.of_grown hg8 []).heap BF7.out (by simp))
    have BG8 := Lib.hid ((Fr.of_grown hg8 []).heap BG7.out (by simp))
    clear hg8
    have kf := row11 BF8.out
    go_wp2_with fail
    refine (bytes_frame f vm ve _ A _ _ (HEV.out.keep F8.out) (HM.out.keep F8.out) (HX.out.keep F8.out)).mono ?_
    rintro e wa hba
    have HBA := Lib.hid hba
    clear hba kf
    by_cases hcf : frameC f = 0
    rotate_left
    · obtain ⟨rfl, hfa⟩ := HBA.out.bad hcf
      rw [ev_ne A hcf]
      have HCF := Lib.hid hcf
      have FA := Lib.hid ((F8.out).trans hfa)
      have BFA := Lib.hid (hfa.heap (BF8.out) (by simp))
      have kg := row11 (hfa.heap (BG8.out) (by simp))
      clear hfa hcf
      go_wp2_with fail
      refine (bytes_frame g vm' ve' _ A _ _ (HEV.out.keep FA.out) (HM'.out.keep FA.out) (HX'.out.keep FA.out)).mono ?_
      rintro e wg hbg
      obtain ⟨hfg, ug, xg, rfl⟩ := hbg.some
      have FG := Lib.hid (FA.out.trans hfg)
      have kf := row11 (hfg.heap BFA.out (by simp))
      clear hfg hbg kg
      go_wp2_with fail
      refine (valid_frame f vm ve _ A _ _ (HEV.out.keep FG.out) (HM.out.keep FG.out) (HX.out.keep FG.out)).mono ?_
      rintro e wv ⟨rfl, hfv⟩
      rw [ev_ne A HCF.out]
      have FV := Lib.hid (FG.out.trans hfv)
      clear hfv kf
      go_wp2
      go_ret
      exact ⟨rfl, FV.out.grown (by simp)⟩
    obtain ⟨u, rfl, ho, hfa⟩ := HBA.out.ok hcf
    have HCF := Lib.hid hcf
    have FA := Lib.hid ((F8.out).trans hfa)
    have BFA := Lib.hid (hfa.heap (BF8.out) (by simp))
    have BGA := Lib.hid (hfa.heap (BG8.out) (by simp))
    obtain ⟨au, cu, hu⟩ := ho.shape
    obtain ⟨LL, hLL⟩ : ∃ LL, LL = (bytesF f).length := ⟨_, rfl⟩
    rw [← hLL] at hu
    subst hu
    have HPA := Lib.hid ho.bytes
    have HLL := Lib.hid hLL
    have HLB := Lib.hid (show LL ≤ 100000 by rw [hLL]; exact len_light hcf HLT.out)
    have HLP := Lib.hid (show 0 < LL by rw [hLL]; simp [bytesF])
    have kg := row11 BGA.out
    clear hfa hcf ho hLL
    go_wp2_with fail
    refine (bytes_frame g vm' ve' _ A _ _ (HEV.out.keep FA.out) (HM'.out.keep FA.out) (HX'.out.keep FA.out)).mono ?_
    rintro e wg hbg
    obtain ⟨hfg, uq, xq, rfl, hok, hbad⟩ := hbg.both
    have HOK := Lib.hid hok
    have HBAD := Lib.hid hbad
    have FG := Lib.hid (FA.out.trans hfg)
    have GA := Lib.hid hfg
    have E5 := Lib.hid (HEV.out.keep FG.out)
    have HP5 := Lib.hid (HPA.out.keep hfg)
    clear hbg kg hok hbad hfg
    go_wp2_with fail
    refine (read_frame _ (bytesF f) _ A _ _ HP5.out (byte_frame HCF.out) (by rw [← HLL.out]; have := HLB.out; omega) E5.out.three E5.out (by have := FG.out.size; omega)).mono ?_
    rintro e w10 hr10
    obtain ⟨hf10, ym, ye, rfl, hym, hye⟩ := hr10.of (read_bytes HCF.out)
    obtain ⟨sy, cy, rfl⟩ := hym.shape
    obtain ⟨sz, cz, rfl⟩ := hye.shape
    unfold frV
    dsimp only
    have Y1 := Lib.hid (Fr.alloc w10 (.cells #[.int .i64 f.ki, .int .i64 f.fr, .int .i64 f.to, .int .i64 f.li, .int .i64 f.se, .bool f.ou, .int .i64 f.rg.co, .int .i64 f.rg.fo, .int .i64 f.rg.ho, .slice sy f.rg.ms.length cy, .slice sz f.rg.es.length cz] 29) [])
    have YB1 := Lib.hid (heap_alloc_new w10 (.cells #[.int .i64 f.ki, .int .i64 f.fr, .int .i64 f.to, .int .i64 f.li, .int .i64 f.se, .bool f.ou, .int .i64 f.rg.co, .int .i64 f.rg.fo, .int .i64 f.rg.ho, .slice sy f.rg.ms.length cy, .slice sz f.rg.es.length cz] 29))
    have YH := Lib.hid (hf10.trans Y1.out)
    have GB := Lib.hid (GA.out.trans YH.out)
    have FB := Lib.hid (FA.out.trans GB.out)
    have HYM1 := Lib.hid (hym.keep Y1.out)
    have HYE1 := Lib.hid (hye.keep Y1.out)
    have E6 := Lib.hid (HEV.out.keep FB.out)
    have HP6 := Lib.hid (HPA.out.keep GB.out)
    clear hym hye hf10 hr10 E5 HP5
    obtain ⟨K, hK⟩ := Int.eq_ofNat_of_zero_le (Int.emod_nonneg cut (show (LL : Int) ≠ 0 by have := HLP.out; omega))
    have hKl : K < LL := by have := Int.emod_lt_of_pos cut (show (0 : Int) < (LL : Int) by have := HLP.out; omega); omega
    have hnum := fun W => numberTo_any cut (LL : Int) W (by have := HLP.out; omega) (by have := HLB.out; omega) HCUT.out.1 HCUT.out.2
    rw [hK] at hnum
    have HNUM := Lib.hid hnum
    have hcap : LL ≤ cu := by
      obtain ⟨_, c', he, h1, _⟩ := HP6.out
      simp at he; have := HLL.out; omega
    have hkc : K ≤ cu := by omega
    have HCB := Lib.hid (Holds.cut (l := bytesF f) (by rw [← HLL.out]; exact HP6.out) K (by rw [← HLL.out]; omega))
    have HKL := Lib.hid hKl
    clear hnum hK hKl
    go_wp2_with fail
    refine (HNUM.out _).mono ?_
    rintro e w11 ⟨rfl, rfl⟩
    go_wp2_with fail
    refine (read_frame _ ((bytesF f).take K) _ A _ _ HCB.out (fun x hx => byte_frame HCF.out x (List.mem_of_mem_take hx)) (by rw [List.length_take, ← HLL.out]; have := HLB.out; omega) E6.out.three E6.out (by have := FB.out.size; omega)).mono ?_
    rintro e w12 hr12
    obtain ⟨hf12, cm, ce, t12, p12, rfl, ht12, hcm, hce⟩ := hr12.not (read_cut HCF.out K (by have := HKL.out; have := HLL.out; omega))
    obtain ⟨s12, c12, rfl⟩ := hcm.shape
    obtain ⟨s13, c13, rfl⟩ := hce.shape
    obtain ⟨x12, hx12⟩ : ∃ x, x = (readF ((bytesF f).take K)).1 := ⟨_, rfl⟩
    rw [← hx12]
    unfold frV
    dsimp only
    have Y2 := Lib.hid (Fr.alloc w12 (.cells #[.int .i64 x12.ki, .int .i64 x12.fr, .int .i64 x12.to, .int .i64 x12.li, .int .i64 x12.se, .bool x12.ou, .int .i64 x12.rg.co, .int .i64 x12.rg.fo, .int .i64 x12.rg.ho, .slice s12 x12.rg.ms.length c12, .slice s13 x12.rg.es.length c13] 29) [])
    have YK2 := Lib.hid (hf12.trans Y2.out)
    have GC := Lib.hid (GB.out.trans YK2.out)
    have FC := Lib.hid (FB.out.trans YK2.out)
    have HP7 := Lib.hid (HPA.out.keep GC.out)
    have HT12 := Lib.hid ht12
    clear hf12 hcm hce hx12 hr12 ht12 hkc hcap
    go_wp2_with fail
    refine (bytes_any _ (bytesF f) _ HP7.out (by rw [← HLL.out]; have := HLB.out; omega)).mono ?_
    rintro e w13 ⟨zb, rfl, hoz, hg13⟩
    have G13 := Lib.hid (Fr.of_grown hg13 [])
    have HOZ := Lib.hid hoz
    obtain ⟨gz, cgz, hzz, kz⟩ := own_head hoz (by rw [← HLL.out]; exact HLP.out)
    rw [← HLL.out] at hzz kz
    subst hzz
    obtain ⟨i0, hi, hz0, hz1, hz2⟩ := info_parts infoU8
    have HO13 : Hid (w13.ownsRow (w12.alloc (.cells #[.int .i64 x12.ki, .int .i64 x12.fr, .int .i64 x12.to, .int .i64 x12.li, .int .i64 x12.se, .bool x12.ou, .int .i64 x12.rg.co, .int .i64 x12.rg.fo, .int .i64 x12.rg.ho, .slice s12 x12.rg.ms.length c12, .slice s13 x12.rg.es.length c13] 29)).heap.size 5 1 (.slice (some ⟨gz, 0, none⟩) LL cgz) LL (u8s (bytesF f))) := by
      have := hoz
      unfold Own at this
      rwa [← HLL.out] at this
    have HNEW := Lib.hid (cell_one_new w13 (.int .u8 0) 5)
    have HKZ := Lib.hid kz
    have hLB := HLB.out
    have hsz13 : w12.heap.size + 1 ≤ w13.heap.size := by have := G13.out.size; simpa using this
    clear hoz hg13 kz
    go_wp2_with ((at_builtin; refine wpList_append_own _ rfl _ _ 30 rfl _ 5 i0 (.int .u8 0) 1 1 Tryd.underlying30 hi hz0 hz1 hz2 rfl (by decide) (.slice (some ⟨gz, 0, none⟩) LL cgz) LL (u8s (bytesF f)) rfl (World.ownsRow.alloc HO13.out _) ⟨w13.heap.size, 0, none⟩ 1 1 [.int .u8 0] rfl rfl HNEW.out (one_cell _ _) (by unfold maxLen; omega) (by omega) (by simp; omega) ?_; intro v' w14 hown14 hg14 _))
    have hfr14 : Fr (w12.alloc (.cells #[.int .i64 x12.ki, .int .i64 x12.fr, .int .i64 x12.to, .int .i64 x12.li, .int .i64 x12.se, .bool x12.ou, .int .i64 x12.rg.co, .int .i64 x12.rg.fo, .int .i64 x12.rg.ho, .slice s12 x12.rg.ms.length c12, .slice s13 x12.rg.es.length c13] 29)) w14 [] := Fr.of_grown (grown_new (G13.out.grown (by simp)) (grown_trans (World.grownBy_alloc _ _ (some gz)) hg14) (fun r hr => by cases hr; exact (HOZ.out.block gz rfl).1)) []
    have ho14 : Own w14 (w12.alloc (.cells #[.int .i64 x12.ki, .int .i64 x12.fr, .int .i64 x12.to, .int .i64 x12.li, .int .i64 x12.se, .bool x12.ou, .int .i64 x12.rg.co, .int .i64 x12.rg.fo, .int .i64 x12.rg.ho, .slice s12 x12.rg.ms.length c12, .slice s13 x12.rg.es.length c13] 29)).heap.size v' (bytesF f ++ [0]) := by
      rw [HLL.out] at hown14
      exact own_one hown14
    have GD := Lib.hid (GC.out.trans hfr14)
    have FD := Lib.hid (FC.out.trans hfr14)
    have YK3 := Lib.hid (YK2.out.trans hfr14)
    have E8 := Lib.hid (HEV.out.keep FD.out)
    have HO14 := Lib.hid ho14.bytes
    clear hfr14 ho14 hown14 hg14 hi hz0 hz1 hz2 HNEW
    go_wp2_with fail
    refine (read_frame _ (bytesF f ++ [0]) _ A _ _ HO14.out (fun x hx => by rcases List.mem_append.1 hx with h | h; exact byte_frame HCF.out x h; simp at h; omega) (by rw [List.length_append, ← HLL.out]; have := HLB.out; simp; omega) E8.out.three E8.out (by have := FD.out.size; omega)).mono ?_
    rintro e w15 hr15
    rw [read_longer HCF.out [0] (by simp)] at hr15
    obtain ⟨hf15, dm, de, t15, p15, rfl, ht15, hdm, hde⟩ := hr15.not (by simp)
    obtain ⟨s15, c15, rfl⟩ := hdm.shape
    obtain ⟨s16, c16, rfl⟩ := hde.shape
    unfold frV zeroF zeroR
    dsimp only
    have Y3 := Lib.hid (Fr.alloc w15 (.cells #[.int .i64 0, .int .i64 0, .int .i64 0, .int .i64 0, .int .i64 0, .bool false, .int .i64 0, .int .i64 0, .int .i64 0, .slice s15 0 c15, .slice s16 0 c16] 29) [])
    have GE := Lib.hid ((GD.out.trans hf15).trans Y3.out)
    have FQ := Lib.hid ((FD.out.trans hf15).trans Y3.out)
    have YK := Lib.hid ((YK3.out.trans hf15).trans Y3.out)
    have HT15 := Lib.hid ht15
    clear hf15 hdm hde hr15 ht15
    go_wp2
    have HYM := Lib.hid (HYM1.out.keep YK.out)
    have HYE := Lib.hid (HYE1.out.keep YK.out)
    have HPB := Lib.hid (HPA.out.keep GE.out)
    have HPL : Hid ((bytesF f).length ≤ 140737488355328) := by show _ ≤ _; rw [← HLL.out]; have := HLB.out; omega
    obtain ⟨bb, HFG⟩ : ∃ bb : Bool, Hid (bb = true ↔ f = g) := by
      by_cases h : f = g
      · exact ⟨true, iyes h⟩
      · exact ⟨false, ino h⟩
    have keep := @BackS.keep (w15.alloc (.cells #[.int .i64 0, .int .i64 0, .int .i64 0, .int .i64 0, .int .i64 0, .bool false, .int .i64 0, .int .i64 0, .int .i64 0, .slice s15 0 c15, .slice s16 0 c16] 29)) w.heap.size (w.heap.size + 1) w10.heap.size f g f vm ve vm' ve' (.slice sy f.rg.ms.length cy) (.slice sz f.rg.es.length cz)
    have HS := Lib.hid (keep ⟨Fr.refl _ _, C11.of (GE.out.heap BFA.out (by simp)), C11.of (GE.out.heap BGA.out (by simp)), C11.of (YK.out.heap YB1.out (by simp))⟩ (Fr.drew _ _))
    clear keep
    by_cases hcg : frameC g = 0
    · obtain ⟨rfl, hqb⟩ := HOK.out hcg
      have HQB := Lib.hid ((hqb.keep YH.out).keep YK.out)
      have HBB : Hid (bb = decide (bytesF f = bytesF g)) := by
        have h := HFG.out
        rw [← bytes_inj HCF.out hcg] at h
        show _ = _
        cases bb <;> simp_all
      clear hqb
      refine wp_region_det (S := BackS (w15.alloc (.cells #[.int .i64 0, .int .i64 0, .int .i64 0, .int .i64 0, .int .i64 0, .bool false, .int .i64 0, .int .i64 0, .int .i64 0, .slice s15 0 c15, .slice s16 0 c16] 29)) w.heap.size (w.heap.size + 1) w10.heap.size f g f vm ve vm' ve' (.slice sy f.rg.ms.length cy) (.slice sz f.rg.es.length cz)) (by kernel_rfl) HS.out ?_
      refine wpDet_take (i := 0) (oi := _) (v := ?dv1) (by simp only [List.getElem?_toArray, List.getElem?_cons_zero]; rfl) (by kernel_rfl) (by kernel_rfl) (by kernel_rfl) (Or.inl ⟨by rfl, ?dy1⟩) ?dr1
      case dy1 => (intro w hSw; have hS0 := hSw; (try dsimp only [BackS,C11] at hSw); go_simp; refine Came.value ?_ hS0; with_reducible rfl)
      try simp only [Act.put, List.setIfInBounds_toArray, List.set_cons_zero, List.set_cons_succ]
      refine wpDet_take (i := 1) (oi := _) (v := ?dv2) (by simp only [List.getElem?_toArray, List.getElem?_cons_zero, List.getElem?_cons_succ]; rfl) (by kernel_rfl) (by kernel_rfl) (by kernel_rfl) (Or.inl ⟨by rfl, ?dy2⟩) ?dr2
      case dy2 => (intro w hSw; have hS0 := hSw; (try dsimp only [BackS,C11] at hSw); go_simp; refine Came.value ?_ hS0; with_reducible rfl)
      try simp only [Act.put, List.setIfInBounds_toArray, List.set_cons_zero, List.set_cons_succ]
      refine wpDet_take (i := 2) (oi := _) (v := ?dv3) (by simp only [List.getElem?_toArray, List.getElem?_cons_zero, List.getElem?_cons_succ]; rfl) (by kernel_rfl) (by kernel_rfl) (by kernel_rfl) (Or.inl ⟨by rfl, ?dy3⟩) ?dr3
      case dy3 => (intro w hSw; have hS0 := hSw; (try dsimp only [BackS,C11] at hSw); go_simp; refine Came.value ?_ hS0; with_reducible rfl)
      try simp only [Act.put, List.setIfInBounds_toArray, List.set_cons_zero, List.set_cons_succ]
      refine wpDet_take (i := 3) (oi := _) (v := ?dv4) (by simp only [List.getElem?_toArray, List.getElem?_cons_zero, List.getElem?_cons_succ]; rfl) (by kernel_rfl) (by kernel_rfl) (by kernel_rfl) (Or.inl ⟨by rfl, ?dy4⟩) ?dr4
      case dy4 => (intro w hSw; have hS0 := hSw; (try dsimp only [BackS,C11] at hSw); go_simp; refine Came.value ?_ hS0; with_reducible rfl)
      try simp only [Act.put, List.setIfInBounds_toArray, List.set_cons_zero, List.set_cons_succ]
      refine wpDet_take (i := 4) (oi := _) (v := ?dv5) (by simp only [List.getElem?_toArray, List.getElem?_cons_zero, List.getElem?_cons_succ]; rfl) (by kernel_rfl) (by kernel_rfl) (by kernel_rfl) (Or.inl ⟨by rfl, ?dy5⟩) ?dr5
      case dy5 => (intro w hSw; have hS0 := hSw; (try dsimp only [BackS,C11] at hSw); go_simp; refine Came.value ?_ hS0; with_reducible rfl)
      try simp only [Act.put, List.setIfInBounds_toArray, List.set_cons_zero, List.set_cons_succ]
      refine wpDet_take (i := 5) (oi := _) (v := ?dv6) (by simp only [List.getElem?_toArray, List.getElem?_cons_zero, List.getElem?_cons_succ]; rfl) (by kernel_rfl) (by kernel_rfl) (by kernel_rfl) (Or.inl ⟨by rfl, ?dy6⟩) ?dr6
      case dy6 => (intro w hSw; have hS0 := hSw; (try dsimp only [BackS,C11] at hSw); go_simp; refine Came.value ?_ hS0; with_reducible rfl)
      try simp only [Act.put, List.setIfInBounds_toArray, List.set_cons_zero, List.set_cons_succ]
      refine wpDet_take (i := 6) (oi := _) (v := ?dv7) (by simp only [List.getElem?_toArray, List.getElem?_cons_zero, List.getElem?_cons_succ]; rfl) (by kernel_rfl) (by kernel_rfl) (by kernel_rfl) (Or.inl ⟨by rfl, ?dy7⟩) ?dr7
      case dy7 => (intro w hSw; have hS0 := hSw; (try dsimp only [BackS,C11] at hSw); go_simp; refine Came.value ?_ hS0; with_reducible rfl)
      try simp only [Act.put, List.setIfInBounds_toArray, List.set_cons_zero, List.set_cons_succ]
      refine wpDet_take (i := 7) (oi := _) (v := ?dv8) (by simp only [List.getElem?_toArray, List.getElem?_cons_zero, List.getElem?_cons_succ]; rfl) (by kernel_rfl) (by kernel_rfl) (by kernel_rfl) (Or.inl ⟨by rfl, ?dy8⟩) ?dr8
      case dy8 => (intro w hSw; have hS0 := hSw; (try dsimp only [BackS,C11] at hSw); go_simp; refine Came.value ?_ hS0; with_reducible rfl)
      try simp only [Act.put, List.setIfInBounds_toArray, List.set_cons_zero, List.set_cons_succ]
      refine wpDet_take (i := 8) (oi := _) (v := ?dv9) (by simp only [List.getElem?_toArray, List.getElem?_cons_zero, List.getElem?_cons_succ]; rfl) (by kernel_rfl) (by kernel_rfl) (by kernel_rfl) (Or.inl ⟨by rfl, ?dy9⟩) ?dr9
      case dy9 => (intro w hSw; go_simp; exact Came.call ((same_frame f f _ _ _ _ true (iyes rfl) w (HYM.out.keep hSw.1) (HYE.out.keep hSw.1) (HM.out.keep (FQ.out.trans hSw.1)) (HX.out.keep (FQ.out.trans hSw.1))).mono fun e w' ⟨he, hf⟩ => ⟨he, hSw.keep hf⟩) (by with_reducible rfl))
      try simp only [Act.put, List.setIfInBounds_toArray, List.set_cons_zero, List.set_cons_succ]
      refine wpDet_take (i := 9) (oi := _) (v := ?dv10) (by simp only [List.getElem?_toArray, List.getElem?_cons_zero, List.getElem?_cons_succ]; rfl) (by kernel_rfl) (by kernel_rfl) (by kernel_rfl) (Or.inl ⟨by rfl, ?dy10⟩) ?dr10
      case dy10 => (intro w hSw; have hS0 := hSw; (try dsimp only [BackS,C11] at hSw); go_simp; refine Came.value ?_ hS0; with_reducible rfl)
      try simp only [Act.put, List.setIfInBounds_toArray, List.set_cons_zero, List.set_cons_succ]
      refine wpDet_take (i := 10) (oi := _) (v := ?dv11) (by simp only [List.getElem?_toArray, List.getElem?_cons_zero, List.getElem?_cons_succ]; rfl) (by kernel_rfl) (by kernel_rfl) (by kernel_rfl) (Or.inl ⟨by rfl, ?dy11⟩) ?dr11
      case dy11 => (intro w hSw; have hS0 := hSw; (try dsimp only [BackS,C11] at hSw); go_simp; refine Came.value ?_ hS0; with_reducible rfl)
      try simp only [Act.put, List.setIfInBounds_toArray, List.set_cons_zero, List.set_cons_succ]
      refine wpDet_take (i := 11) (oi := _) (v := ?dv12) (by simp only [List.getElem?_toArray, List.getElem?_cons_zero, List.getElem?_cons_succ]; rfl) (by kernel_rfl) (by kernel_rfl) (by kernel_rfl) (Or.inl ⟨by rfl, ?dy12⟩) ?dr12
      case dy12 => (intro w hSw; have hS0 := hSw; (try dsimp only [BackS,C11] at hSw); go_simp; refine Came.value ?_ hS0; with_reducible rfl)
      try simp only [Act.put, List.setIfInBounds_toArray, List.set_cons_zero, List.set_cons_succ]
      refine wpDet_take (i := 12) (oi := _) (v := ?dv13) (by simp only [List.getElem?_toArray, List.getElem?_cons_zero, List.getElem?_cons_succ]; rfl) (by kernel_rfl) (by kernel_rfl) (by kernel_rfl) (Or.inl ⟨by rfl, ?dy13⟩) ?dr13
      case dy13 => (intro w hSw; have hS0 := hSw; (try dsimp only [BackS,C11] at hSw); go_simp; refine Came.value ?_ hS0; with_reducible rfl)
      try simp only [Act.put, List.setIfInBounds_toArray, List.set_cons_zero, List.set_cons_succ]
      refine wpDet_take (i := 13) (oi := _) (v := ?dv14) (by simp only [List.getElem?_toArray, List.getElem?_cons_zero, List.getElem?_cons_succ]; rfl) (by kernel_rfl) (by kernel_rfl) (by kernel_rfl) (Or.inl ⟨by rfl, ?dy14⟩) ?dr14
      case dy14 => (intro w hSw; have hS0 := hSw; (try dsimp only [BackS,C11] at hSw); go_simp; refine Came.value ?_ hS0; with_reducible rfl)
      try simp only [Act.put, List.setIfInBounds_toArray, List.set_cons_zero, List.set_cons_succ]
      refine wpDet_take (i := 14) (oi := _) (v := ?dv15) (by simp only [List.getElem?_toArray, List.getElem?_cons_zero, List.getElem?_cons_succ]; rfl) (by kernel_rfl) (by kernel_rfl) (by kernel_rfl) (Or.inl ⟨by rfl, ?dy15⟩) ?dr15
      case dy15 => (intro w hSw; have hS0 := hSw; (try dsimp only [BackS,C11] at hSw); go_simp; refine Came.value ?_ hS0; with_reducible rfl)
      try simp only [Act.put, List.setIfInBounds_toArray, List.set_cons_zero, List.set_cons_succ]
      refine wpDet_take (i := 15) (oi := _) (v := ?dv16) (by simp only [List.getElem?_toArray, List.getElem?_cons_zero, List.getElem?_cons_succ]; rfl) (by kernel_rfl) (by kernel_rfl) (by kernel_rfl) (Or.inl ⟨by rfl, ?dy16⟩) ?dr16
      case dy16 => (intro w hSw; have hS0 := hSw; (try dsimp only [BackS,C11] at hSw); go_simp; refine Came.value ?_ hS0; with_reducible rfl)
      try simp only [Act.put, List.setIfInBounds_toArray, List.set_cons_zero, List.set_cons_succ]
      refine wpDet_take (i := 16) (oi := _) (v := ?dv17) (by simp only [List.getElem?_toArray, List.getElem?_cons_zero, List.getElem?_cons_succ]; rfl) (by kernel_rfl) (by kernel_rfl) (by kernel_rfl) (Or.inl ⟨by rfl, ?dy17⟩) ?dr17
      case dy17 => (intro w hSw; have hS0 := hSw; (try dsimp only [BackS,C11] at hSw); go_simp; refine Came.value ?_ hS0; with_reducible rfl)
      try simp only [Act.put, List.setIfInBounds_toArray, List.set_cons_zero, List.set_cons_succ]
      refine wpDet_take (i := 17) (oi := _) (v := ?dv18) (by simp only [List.getElem?_toArray, List.getElem?_cons_zero, List.getElem?_cons_succ]; rfl) (by kernel_rfl) (by kernel_rfl) (by kernel_rfl) (Or.inl ⟨by rfl, ?dy18⟩) ?dr18
      case dy18 => (intro w hSw; have hS0 := hSw; (try dsimp only [BackS,C11] at hSw); go_simp; refine Came.value ?_ hS0; with_reducible rfl)
      try simp only [Act.put, List.setIfInBounds_toArray, List.set_cons_zero, List.set_cons_succ]
      refine wpDet_take (i := 18) (oi := _) (v := ?dv19) (by simp only [List.getElem?_toArray, List.getElem?_cons_zero, List.getElem?_cons_succ]; rfl) (by kernel_rfl) (by kernel_rfl) (by kernel_rfl) (Or.inl ⟨by rfl, ?dy19⟩) ?dr19
      case dy19 => (intro w hSw; have hS0 := hSw; (try dsimp only [BackS,C11] at hSw); go_simp; refine Came.value ?_ hS0; with_reducible rfl)
      try simp only [Act.put, List.setIfInBounds_toArray, List.set_cons_zero, List.set_cons_succ]
      refine wpDet_take (i := 19) (oi := _) (v := ?dv20) (by simp only [List.getElem?_toArray, List.getElem?_cons_zero, List.getElem?_cons_succ]; rfl) (by kernel_rfl) (by kernel_rfl) (by kernel_rfl) (Or.inl ⟨by rfl, ?dy20⟩) ?dr20
      case dy20 => (intro w hSw; have hS0 := hSw; (try dsimp only [BackS,C11] at hSw); go_simp; refine Came.value ?_ hS0; with_reducible rfl)
      try simp only [Act.put, List.setIfInBounds_toArray, List.set_cons_zero, List.set_cons_succ]
      refine wpDet_take (i := 20) (oi := _) (v := ?dv21) (by simp only [List.getElem?_toArray, List.getElem?_cons_zero, List.getElem?_cons_succ]; rfl) (by kernel_rfl) (by kernel_rfl) (by kernel_rfl) (Or.inl ⟨by rfl, ?dy21⟩) ?dr21
      case dy21 => (intro w hSw; have hS0 := hSw; (try dsimp only [BackS,C11] at hSw); go_simp; refine Came.value ?_ hS0; with_reducible rfl)
      try simp only [Act.put, List.setIfInBounds_toArray, List.set_cons_zero, List.set_cons_succ]
      refine wpDet_take (i := 21) (oi := _) (v := ?dv22) (by simp only [List.getElem?_toArray, List.getElem?_cons_zero, List.getElem?_cons_succ]; rfl) (by kernel_rfl) (by kernel_rfl) (by kernel_rfl) (Or.inl ⟨by rfl, ?dy22⟩) ?dr22
      case dy22 => (intro w hSw; have hS0 := hSw; (try dsimp only [BackS,C11] at hSw); go_simp; refine Came.value ?_ hS0; with_reducible rfl)
      try simp only [Act.put, List.setIfInBounds_toArray, List.set_cons_zero, List.set_cons_succ]
      refine wpDet_take (i := 22) (oi := _) (v := ?dv23) (by simp only [List.getElem?_toArray, List.getElem?_cons_zero, List.getElem?_cons_succ]; rfl) (by kernel_rfl) (by kernel_rfl) (by kernel_rfl) (Or.inl ⟨by rfl, ?dy23⟩) ?dr23
      case dy23 => (intro w hSw; have hS0 := hSw; (try dsimp only [BackS,C11] at hSw); go_simp; refine Came.value ?_ hS0; with_reducible rfl)
      try simp only [Act.put, List.setIfInBounds_toArray, List.set_cons_zero, List.set_cons_succ]
      refine wpDet_take (i := 23) (oi := _) (v := ?dv24) (by simp only [List.getElem?_toArray, List.getElem?_cons_zero, List.getElem?_cons_succ]; rfl) (by kernel_rfl) (by kernel_rfl) (by kernel_rfl) (Or.inl ⟨by rfl, ?dy24⟩) ?dr24
      case dy24 => (intro w hSw; have hS0 := hSw; (try dsimp only [BackS,C11] at hSw); go_simp; refine Came.value ?_ hS0; with_reducible rfl)
      try simp only [Act.put, List.setIfInBounds_toArray, List.set_cons_zero, List.set_cons_succ]
      refine wpDet_take (i := 24) (oi := _) (v := ?dv25) (by simp only [List.getElem?_toArray, List.getElem?_cons_zero, List.getElem?_cons_succ]; rfl) (by kernel_rfl) (by kernel_rfl) (by kernel_rfl) (Or.inl ⟨by rfl, ?dy25⟩) ?dr25
      case dy25 => (intro w hSw; go_simp; exact Came.call ((same_any _ (bytesF f) _ (bytesF g) w (HPB.out.keep hSw.1) (HQB.out.keep hSw.1) HPL.out bb HBB.out).mono fun e w' ⟨he, hf⟩ => ⟨he, hSw.keep (Fr.of_grown hf [])⟩) (by with_reducible rfl))
      try simp only [Act.put, List.setIfInBounds_toArray, List.set_cons_zero, List.set_cons_succ]
      refine wpDet_take (i := 25) (oi := _) (v := ?dv26) (by simp only [List.getElem?_toArray, List.getElem?_cons_zero, List.getElem?_cons_succ]; rfl) (by kernel_rfl) (by kernel_rfl) (by kernel_rfl) (Or.inl ⟨by rfl, ?dy26⟩) ?dr26
      case dy26 => (intro w hSw; have hS0 := hSw; (try dsimp only [BackS,C11] at hSw); go_simp; refine Came.value ?_ hS0; with_reducible rfl)
      try simp only [Act.put, List.setIfInBounds_toArray, List.set_cons_zero, List.set_cons_succ]
      refine wpDet_take (i := 26) (oi := _) (v := ?dv27) (by simp only [List.getElem?_toArray, List.getElem?_cons_zero, List.getElem?_cons_succ]; rfl) (by kernel_rfl) (by kernel_rfl) (by kernel_rfl) (Or.inl ⟨by rfl, ?dy27⟩) ?dr27
      case dy27 => (intro w hSw; have hS0 := hSw; (try dsimp only [BackS,C11] at hSw); go_simp; refine Came.value ?_ hS0; with_reducible rfl)
      try simp only [Act.put, List.setIfInBounds_toArray, List.set_cons_zero, List.set_cons_succ]
      refine wpDet_take (i := 27) (oi := _) (v := ?dv28) (by simp only [List.getElem?_toArray, List.getElem?_cons_zero, List.getElem?_cons_succ]; rfl) (by kernel_rfl) (by kernel_rfl) (by kernel_rfl) (Or.inl ⟨by rfl, ?dy28⟩) ?dr28
      case dy28 => (intro w hSw; go_simp; exact Came.call ((same_frame f g _ _ _ _ bb HFG.out w (HM.out.keep (FQ.out.trans hSw.1)) (HX.out.keep (FQ.out.trans hSw.1)) (HM'.out.keep (FQ.out.trans hSw.1)) (HX'.out.keep (FQ.out.trans hSw.1))).mono fun e w' ⟨he, hf⟩ => ⟨he, hSw.keep hf⟩) (by with_reducible rfl))
      try simp only [Act.put, List.setIfInBounds_toArray, List.set_cons_zero, List.set_cons_succ]
      refine wpDet_take (i := 28) (oi := _) (v := ?dv29) (by simp only [List.getElem?_toArray, List.getElem?_cons_zero, List.getElem?_cons_succ]; rfl) (by kernel_rfl) (by kernel_rfl) (by kernel_rfl) (Or.inl ⟨by rfl, ?dy29⟩) ?dr29
      case dy29 => (intro w hSw; have hS0 := hSw; (try dsimp only [BackS,C11] at hSw); go_simp; refine Came.value ?_ hS0; with_reducible rfl)
      try simp only [Act.put, List.setIfInBounds_toArray, List.set_cons_zero, List.set_cons_succ]
      refine wpDet_take (i := 29) (oi := _) (v := ?dv30) (by simp only [List.getElem?_toArray, List.getElem?_cons_zero, List.getElem?_cons_succ]; rfl) (by kernel_rfl) (by kernel_rfl) (by kernel_rfl) (Or.inl ⟨by rfl, ?dy30⟩) ?dr30
      case dy30 => (intro w hSw; have hS0 := hSw; (try dsimp only [BackS,C11] at hSw); go_simp; refine Came.value ?_ hS0; with_reducible rfl)
      try simp only [Act.put, List.setIfInBounds_toArray, List.set_cons_zero, List.set_cons_succ]
      refine wpDet_take (i := 30) (oi := _) (v := ?dv31) (by simp only [List.getElem?_toArray, List.getElem?_cons_zero, List.getElem?_cons_succ]; rfl) (by kernel_rfl) (by kernel_rfl) (by kernel_rfl) (Or.inl ⟨by rfl, ?dy31⟩) ?dr31
      case dy31 => (intro w hSw; have hS0 := hSw; (try dsimp only [BackS,C11] at hSw); go_simp; refine Came.value ?_ hS0; with_reducible rfl)
      try simp only [Act.put, List.setIfInBounds_toArray, List.set_cons_zero, List.set_cons_succ]
      refine wpDet_take (i := 31) (oi := _) (v := ?dv32) (by simp only [List.getElem?_toArray, List.getElem?_cons_zero, List.getElem?_cons_succ]; rfl) (by kernel_rfl) (by kernel_rfl) (by kernel_rfl) (Or.inl ⟨by rfl, ?dy32⟩) ?dr32
      case dy32 => (intro w hSw; have hS0 := hSw; (try dsimp only [BackS,C11] at hSw); go_simp; refine Came.value ?_ hS0; with_reducible rfl)
      try simp only [Act.put, List.setIfInBounds_toArray, List.set_cons_zero, List.set_cons_succ]
      refine wpDet_done (by kernel_rfl) ?_ _
      rintro w20 hS
      have HF20 := Lib.hid (FQ.out.trans hS.1)
      clear hS
      go_wp2
      go_ret
      exact ⟨rfl, HF20.out.grown (by simp)⟩
    · obtain rfl := HBAD.out hcg
      rw [ev_ne A hcg]
      refine wp_region_det (S := BackS (w15.alloc (.cells #[.int .i64 0, .int .i64 0, .int .i64 0, .int .i64 0, .int .i64 0, .bool false, .int .i64 0, .int .i64 0, .int .i64 0, .slice s15 0 c15, .slice s16 0 c16] 29)) w.heap.size (w.heap.size + 1) w10.heap.size f g f vm ve vm' ve' (.slice sy f.rg.ms.length cy) (.slice sz f.rg.es.length cz)) (by kernel_rfl) HS.out ?_
      refine wpDet_take (i := 0) (oi := _) (v := ?dv33) (by simp only [List.getElem?_toArray, List.getElem?_cons_zero]; rfl) (by kernel_rfl) (by kernel_rfl) (by kernel_rfl) (Or.inl ⟨by rfl, ?dy33⟩) ?dr33
      case dy33 => (intro w hSw; have hS0 := hSw; (try dsimp only [BackS,C11] at hSw); go_simp; refine Came.value ?_ hS0; with_reducible rfl)
      try simp only [Act.put, List.setIfInBounds_toArray, List.set_cons_zero, List.set_cons_succ]
      refine wpDet_take (i := 1) (oi := _) (v := ?dv34) (by simp only [List.getElem?_toArray, List.getElem?_cons_zero, List.getElem?_cons_succ]; rfl) (by kernel_rfl) (by kernel_rfl) (by kernel_rfl) (Or.inl ⟨by rfl, ?dy34⟩) ?dr34
      case dy34 => (intro w hSw; have hS0 := hSw; (try dsimp only [BackS,C11] at hSw); go_simp; refine Came.value ?_ hS0; with_reducible rfl)
      try simp only [Act.put, List.setIfInBounds_toArray, List.set_cons_zero, List.set_cons_succ]
      refine wpDet_take (i := 2) (oi := _) (v := ?dv35) (by simp only [List.getElem?_toArray, List.getElem?_cons_zero, List.getElem?_cons_succ]; rfl) (by kernel_rfl) (by kernel_rfl) (by kernel_rfl) (Or.inl ⟨by rfl, ?dy35⟩) ?dr35
      case dy35 => (intro w hSw; have hS0 := hSw; (try dsimp only [BackS,C11] at hSw); go_simp; refine Came.value ?_ hS0; with_reducible rfl)
      try simp only [Act.put, List.setIfInBounds_toArray, List.set_cons_zero, List.set_cons_succ]
      refine wpDet_take (i := 3) (oi := _) (v := ?dv36) (by simp only [List.getElem?_toArray, List.getElem?_cons_zero, List.getElem?_cons_succ]; rfl) (by kernel_rfl) (by kernel_rfl) (by kernel_rfl) (Or.inl ⟨by rfl, ?dy36⟩) ?dr36
      case dy36 => (intro w hSw; have hS0 := hSw; (try dsimp only [BackS,C11] at hSw); go_simp; refine Came.value ?_ hS0; with_reducible rfl)
      try simp only [Act.put, List.setIfInBounds_toArray, List.set_cons_zero, List.set_cons_succ]
      refine wpDet_take (i := 4) (oi := _) (v := ?dv37) (by simp only [List.getElem?_toArray, List.getElem?_cons_zero, List.getElem?_cons_succ]; rfl) (by kernel_rfl) (by kernel_rfl) (by kernel_rfl) (Or.inl ⟨by rfl, ?dy37⟩) ?dr37
      case dy37 => (intro w hSw; have hS0 := hSw; (try dsimp only [BackS,C11] at hSw); go_simp; refine Came.value ?_ hS0; with_reducible rfl)
      try simp only [Act.put, List.setIfInBounds_toArray, List.set_cons_zero, List.set_cons_succ]
      refine wpDet_take (i := 5) (oi := _) (v := ?dv38) (by simp only [List.getElem?_toArray, List.getElem?_cons_zero, List.getElem?_cons_succ]; rfl) (by kernel_rfl) (by kernel_rfl) (by kernel_rfl) (Or.inl ⟨by rfl, ?dy38⟩) ?dr38
      case dy38 => (intro w hSw; have hS0 := hSw; (try dsimp only [BackS,C11] at hSw); go_simp; refine Came.value ?_ hS0; with_reducible rfl)
      try simp only [Act.put, List.setIfInBounds_toArray, List.set_cons_zero, List.set_cons_succ]
      refine wpDet_take (i := 6) (oi := _) (v := ?dv39) (by simp only [List.getElem?_toArray, List.getElem?_cons_zero, List.getElem?_cons_succ]; rfl) (by kernel_rfl) (by kernel_rfl) (by kernel_rfl) (Or.inl ⟨by rfl, ?dy39⟩) ?dr39
      case dy39 => (intro w hSw; have hS0 := hSw; (try dsimp only [BackS,C11] at hSw); go_simp; refine Came.value ?_ hS0; with_reducible rfl)
      try simp only [Act.put, List.setIfInBounds_toArray, List.set_cons_zero, List.set_cons_succ]
      refine wpDet_take (i := 7) (oi := _) (v := ?dv40) (by simp only [List.getElem?_toArray, List.getElem?_cons_zero, List.getElem?_cons_succ]; rfl) (by kernel_rfl) (by kernel_rfl) (by kernel_rfl) (Or.inl ⟨by rfl, ?dy40⟩) ?dr40
      case dy40 => (intro w hSw; have hS0 := hSw; (try dsimp only [BackS,C11] at hSw); go_simp; refine Came.value ?_ hS0; with_reducible rfl)
      try simp only [Act.put, List.setIfInBounds_toArray, List.set_cons_zero, List.set_cons_succ]
      refine wpDet_take (i := 8) (oi := _) (v := ?dv41) (by simp only [List.getElem?_toArray, List.getElem?_cons_zero, List.getElem?_cons_succ]; rfl) (by kernel_rfl) (by kernel_rfl) (by kernel_rfl) (Or.inl ⟨by rfl, ?dy41⟩) ?dr41
      case dy41 => (intro w hSw; go_simp; exact Came.call ((same_frame f f _ _ _ _ true (iyes rfl) w (HYM.out.keep hSw.1) (HYE.out.keep hSw.1) (HM.out.keep (FQ.out.trans hSw.1)) (HX.out.keep (FQ.out.trans hSw.1))).mono fun e w' ⟨he, hf⟩ => ⟨he, hSw.keep hf⟩) (by with_reducible rfl))
      try simp only [Act.put, List.setIfInBounds_toArray, List.set_cons_zero, List.set_cons_succ]
      refine wpDet_take (i := 9) (oi := _) (v := ?dv42) (by simp only [List.getElem?_toArray, List.getElem?_cons_zero, List.getElem?_cons_succ]; rfl) (by kernel_rfl) (by kernel_rfl) (by kernel_rfl) (Or.inl ⟨by rfl, ?dy42⟩) ?dr42
      case dy42 => (intro w hSw; have hS0 := hSw; (try dsimp only [BackS,C11] at hSw); go_simp; refine Came.value ?_ hS0; with_reducible rfl)
      try simp only [Act.put, List.setIfInBounds_toArray, List.set_cons_zero, List.set_cons_succ]
      refine wpDet_take (i := 10) (oi := _) (v := ?dv43) (by simp only [List.getElem?_toArray, List.getElem?_cons_zero, List.getElem?_cons_succ]; rfl) (by kernel_rfl) (by kernel_rfl) (by kernel_rfl) (Or.inl ⟨by rfl, ?dy43⟩) ?dr43
      case dy43 => (intro w hSw; have hS0 := hSw; (try dsimp only [BackS,C11] at hSw); go_simp; refine Came.value ?_ hS0; with_reducible rfl)
      try simp only [Act.put, List.setIfInBounds_toArray, List.set_cons_zero, List.set_cons_succ]
      refine wpDet_take (i := 11) (oi := _) (v := ?dv44) (by simp only [List.getElem?_toArray, List.getElem?_cons_zero, List.getElem?_cons_succ]; rfl) (by kernel_rfl) (by kernel_rfl) (by kernel_rfl) (Or.inl ⟨by rfl, ?dy44⟩) ?dr44
      case dy44 => (intro w hSw; have hS0 := hSw; (try dsimp only [BackS,C11] at hSw); go_simp; refine Came.value ?_ hS0; with_reducible rfl)
      try simp only [Act.put, List.setIfInBounds_toArray, List.set_cons_zero, List.set_cons_succ]
      refine wpDet_take (i := 12) (oi := _) (v := ?dv45) (by simp only [List.getElem?_toArray, List.getElem?_cons_zero, List.getElem?_cons_succ]; rfl) (by kernel_rfl) (by kernel_rfl) (by kernel_rfl) (Or.inl ⟨by rfl, ?dy45⟩) ?dr45
      case dy45 => (intro w hSw; have hS0 := hSw; (try dsimp only [BackS,C11] at hSw); go_simp; refine Came.value ?_ hS0; with_reducible rfl)
      try simp only [Act.put, List.setIfInBounds_toArray, List.set_cons_zero, List.set_cons_succ]
      refine wpDet_take (i := 13) (oi := _) (v := ?dv46) (by simp only [List.getElem?_toArray, List.getElem?_cons_zero, List.getElem?_cons_succ]; rfl) (by kernel_rfl) (by kernel_rfl) (by kernel_rfl) (Or.inl ⟨by rfl, ?dy46⟩) ?dr46
      case dy46 => (intro w hSw; have hS0 := hSw; (try dsimp only [BackS,C11] at hSw); go_simp; refine Came.value ?_ hS0; with_reducible rfl)
      try simp only [Act.put, List.setIfInBounds_toArray, List.set_cons_zero, List.set_cons_succ]
      refine wpDet_take (i := 14) (oi := _) (v := ?dv47) (by simp only [List.getElem?_toArray, List.getElem?_cons_zero, List.getElem?_cons_succ]; rfl) (by kernel_rfl) (by kernel_rfl) (by kernel_rfl) (Or.inl ⟨by rfl, ?dy47⟩) ?dr47
      case dy47 => (intro w hSw; have hS0 := hSw; (try dsimp only [BackS,C11] at hSw); go_simp; refine Came.value ?_ hS0; with_reducible rfl)
      try simp only [Act.put, List.setIfInBounds_toArray, List.set_cons_zero, List.set_cons_succ]
      refine wpDet_take (i := 15) (oi := _) (v := ?dv48) (by simp only [List.getElem?_toArray, List.getElem?_cons_zero, List.getElem?_cons_succ]; rfl) (by kernel_rfl) (by kernel_rfl) (by kernel_rfl) (Or.inl ⟨by rfl, ?dy48⟩) ?dr48
      case dy48 => (intro w hSw; have hS0 := hSw; (try dsimp only [BackS,C11] at hSw); go_simp; refine Came.value ?_ hS0; with_reducible rfl)
      try simp only [Act.put, List.setIfInBounds_toArray, List.set_cons_zero, List.set_cons_succ]
      refine wpDet_take (i := 16) (oi := _) (v := ?dv49) (by simp only [List.getElem?_toArray, List.getElem?_cons_zero, List.getElem?_cons_succ]; rfl) (by kernel_rfl) (by kernel_rfl) (by kernel_rfl) (Or.inl ⟨by rfl, ?dy49⟩) ?dr49
      case dy49 => (intro w hSw; have hS0 := hSw; (try dsimp only [BackS,C11] at hSw); go_simp; refine Came.value ?_ hS0; with_reducible rfl)
      try simp only [Act.put, List.setIfInBounds_toArray, List.set_cons_zero, List.set_cons_succ]
      refine wpDet_take (i := 17) (oi := _) (v := ?dv50) (by simp only [List.getElem?_toArray, List.getElem?_cons_zero, List.getElem?_cons_succ]; rfl) (by kernel_rfl) (by kernel_rfl) (by kernel_rfl) (Or.inl ⟨by rfl, ?dy50⟩) ?dr50
      case dy50 => (intro w hSw; have hS0 := hSw; (try dsimp only [BackS,C11] at hSw); go_simp; refine Came.value ?_ hS0; with_reducible rfl)
      try simp only [Act.put, List.setIfInBounds_toArray, List.set_cons_zero, List.set_cons_succ]
      refine wpDet_take (i := 18) (oi := _) (v := ?dv51) (by simp only [List.getElem?_toArray, List.getElem?_cons_zero, List.getElem?_cons_succ]; rfl) (by kernel_rfl) (by kernel_rfl) (by kernel_rfl) (Or.inl ⟨by rfl, ?dy51⟩) ?dr51
      case dy51 => (intro w hSw; have hS0 := hSw; (try dsimp only [BackS,C11] at hSw); go_simp; refine Came.value ?_ hS0; with_reducible rfl)
      try simp only [Act.put, List.setIfInBounds_toArray, List.set_cons_zero, List.set_cons_succ]
      refine wpDet_take (i := 19) (oi := _) (v := ?dv52) (by simp only [List.getElem?_toArray, List.getElem?_cons_zero, List.getElem?_cons_succ]; rfl) (by kernel_rfl) (by kernel_rfl) (by kernel_rfl) (Or.inl ⟨by rfl, ?dy52⟩) ?dr52
      case dy52 => (intro w hSw; have hS0 := hSw; (try dsimp only [BackS,C11] at hSw); go_simp; refine Came.value ?_ hS0; with_reducible rfl)
      try simp only [Act.put, List.setIfInBounds_toArray, List.set_cons_zero, List.set_cons_succ]
      refine wpDet_take (i := 20) (oi := _) (v := ?dv53) (by simp only [List.getElem?_toArray, List.getElem?_cons_zero, List.getElem?_cons_succ]; rfl) (by kernel_rfl) (by kernel_rfl) (by kernel_rfl) (Or.inl ⟨by rfl, ?dy53⟩) ?dr53
      case dy53 => (intro w hSw; have hS0 := hSw; (try dsimp only [BackS,C11] at hSw); go_simp; refine Came.value ?_ hS0; with_reducible rfl)
      try simp only [Act.put, List.setIfInBounds_toArray, List.set_cons_zero, List.set_cons_succ]
      refine wpDet_take (i := 21) (oi := _) (v := ?dv54) (by simp only [List.getElem?_toArray, List.getElem?_cons_zero, List.getElem?_cons_succ]; rfl) (by kernel_rfl) (by kernel_rfl) (by kernel_rfl) (Or.inl ⟨by rfl, ?dy54⟩) ?dr54
      case dy54 => (intro w hSw; have hS0 := hSw; (try dsimp only [BackS,C11] at hSw); go_simp; refine Came.value ?_ hS0; with_reducible rfl)
      try simp only [Act.put, List.setIfInBounds_toArray, List.set_cons_zero, List.set_cons_succ]
      refine wpDet_take (i := 22) (oi := _) (v := undef) (by simp only [List.getElem?_toArray, List.getElem?_cons_zero, List.getElem?_cons_succ]; rfl) (by kernel_rfl) (by kernel_rfl) (by kernel_rfl) (Or.inr ⟨by rfl, rfl⟩) ?_
      try simp only [Act.put, List.setIfInBounds_toArray, List.set_cons_zero, List.set_cons_succ]
      refine wpDet_take (i := 23) (oi := _) (v := undef) (by simp only [List.getElem?_toArray, List.getElem?_cons_zero, List.getElem?_cons_succ]; rfl) (by kernel_rfl) (by kernel_rfl) (by kernel_rfl) (Or.inr ⟨by rfl, rfl⟩) ?_
      try simp only [Act.put, List.setIfInBounds_toArray, List.set_cons_zero, List.set_cons_succ]
      refine wpDet_take (i := 24) (oi := _) (v := undef) (by simp only [List.getElem?_toArray, List.getElem?_cons_zero, List.getElem?_cons_succ]; rfl) (by kernel_rfl) (by kernel_rfl) (by kernel_rfl) (Or.inr ⟨by rfl, rfl⟩) ?_
      try simp only [Act.put, List.setIfInBounds_toArray, List.set_cons_zero, List.set_cons_succ]
      refine wpDet_take (i := 25) (oi := _) (v := undef) (by simp only [List.getElem?_toArray, List.getElem?_cons_zero, List.getElem?_cons_succ]; rfl) (by kernel_rfl) (by kernel_rfl) (by kernel_rfl) (Or.inr ⟨by rfl, rfl⟩) ?_
      try simp only [Act.put, List.setIfInBounds_toArray, List.set_cons_zero, List.set_cons_succ]
      refine wpDet_take (i := 26) (oi := _) (v := undef) (by simp only [List.getElem?_toArray, List.getElem?_cons_zero, List.getElem?_cons_succ]; rfl) (by kernel_rfl) (by kernel_rfl) (by kernel_rfl) (Or.inr ⟨by rfl, rfl⟩) ?_
      try simp only [Act.put, List.setIfInBounds_toArray, List.set_cons_zero, List.set_cons_succ]
      refine wpDet_take (i := 27) (oi := _) (v := undef) (by simp only [List.getElem?_toArray, List.getElem?_cons_zero, List.getElem?_cons_succ]; rfl) (by kernel_rfl) (by kernel_rfl) (by kernel_rfl) (Or.inr ⟨by rfl, rfl⟩) ?_
      try simp only [Act.put, List.setIfInBounds_toArray, List.set_cons_zero, List.set_cons_succ]
      refine wpDet_take (i := 28) (oi := _) (v := undef) (by simp only [List.getElem?_toArray, List.getElem?_cons_zero, List.getElem?_cons_succ]; rfl) (by kernel_rfl) (by kernel_rfl) (by kernel_rfl) (Or.inr ⟨by rfl, rfl⟩) ?_
      try simp only [Act.put, List.setIfInBounds_toArray, List.set_cons_zero, List.set_cons_succ]
      refine wpDet_take (i := 29) (oi := _) (v := ?dv62) (by simp only [List.getElem?_toArray, List.getElem?_cons_zero, List.getElem?_cons_succ]; rfl) (by kernel_rfl) (by kernel_rfl) (by kernel_rfl) (Or.inl ⟨by rfl, ?dy62⟩) ?dr62
      case dy62 => (intro w hSw; have hS0 := hSw; (try dsimp only [BackS,C11] at hSw); go_simp; refine Came.value ?_ hS0; with_reducible rfl)
      try simp only [Act.put, List.setIfInBounds_toArray, List.set_cons_zero, List.set_cons_succ]
      refine wpDet_take (i := 30) (oi := _) (v := ?dv63) (by simp only [List.getElem?_toArray, List.getElem?_cons_zero, List.getElem?_cons_succ]; rfl) (by kernel_rfl) (by kernel_rfl) (by kernel_rfl) (Or.inl ⟨by rfl, ?dy63⟩) ?dr63
      case dy63 => (intro w hSw; have hS0 := hSw; (try dsimp only [BackS,C11] at hSw); go_simp; refine Came.value ?_ hS0; with_reducible rfl)
      try simp only [Act.put, List.setIfInBounds_toArray, List.set_cons_zero, List.set_cons_succ]
      refine wpDet_take (i := 31) (oi := _) (v := ?dv64) (by simp only [List.getElem?_toArray, List.getElem?_cons_zero, List.getElem?_cons_succ]; rfl) (by kernel_rfl) (by kernel_rfl) (by kernel_rfl) (Or.inl ⟨by rfl, ?dy64⟩) ?dr64
      case dy64 => (intro w hSw; have hS0 := hSw; (try dsimp only [BackS,C11] at hSw); go_simp; refine Came.value ?_ hS0; with_reducible rfl)
      try simp only [Act.put, List.setIfInBounds_toArray, List.set_cons_zero, List.set_cons_succ]
      refine wpDet_done (by kernel_rfl) ?_ _
      rintro w20 hS
      have HF20 := Lib.hid (FQ.out.trans hS.1)
      clear hS
      go_wp2
      go_ret
      exact ⟨rfl, HF20.out.grown (by simp)⟩
  · obtain ⟨hf4, um, ue, t, p, rfl, ht, hum, hue⟩ := HRD.out.not hrd
    obtain ⟨sm, cm', rfl⟩ := hum.shape
    obtain ⟨se', ce', rfl⟩ := hue.shape
    obtain ⟨x, hxx⟩ : ∃ x, x = (readF l).1 := ⟨_, rfl⟩
    rw [← hxx]
    unfold frV
    have XA := Lib.hid (Fr.alloc w4 (.cells #[.int .i64 x.ki, .int .i64 x.fr, .int .i64 x.to, .int .i64 x.li, .int .i64 x.se, .bool x.ou, .int .i64 x.rg.co, .int .i64 x.rg.fo, .int .i64 x.rg.ho, .slice sm x.rg.ms.length cm', .slice se' x.rg.es.length ce'] 29) [])
    have F5 := Lib.hid ((F3.out.trans hf4).trans XA.out)
    have BF5 := Lib.hid (XA.out.heap (hf4.heap BF.out (by simp)) (by simp))
    have BG5 := Lib.hid (XA.out.heap (hf4.heap BG.out (by simp)) (by simp))
    clear hum hue hf4 hxx hrd
    have kf := row11 BF5.out
    go_wp2_with fail
    refine (bytes_frame f vm ve _ A _ _ (HEV.out.keep F5.out) (HM.out.keep F5.out) (HX.out.keep F5.out)).mono ?_
    rintro e wa hba
    have HBA := Lib.hid hba
    clear hba kf
    by_cases hcf : frameC f = 0
    rotate_left
    · obtain ⟨rfl, hfa⟩ := HBA.out.bad hcf
      rw [ev_ne A hcf]
      have HCF := Lib.hid hcf
      have FA := Lib.hid ((F5.out).trans hfa)
      have BFA := Lib.hid (hfa.heap (BF5.out) (by simp))
      have kg := row11 (hfa.heap (BG5.out) (by simp))
      clear hfa hcf
      go_wp2_with fail
      refine (bytes_frame g vm' ve' _ A _ _ (HEV.out.keep FA.out) (HM'.out.keep FA.out) (HX'.out.keep FA.out)).mono ?_
      rintro e wg hbg
      obtain ⟨hfg, ug, xg, rfl⟩ := hbg.some
      have FG := Lib.hid (FA.out.trans hfg)
      have kf := row11 (hfg.heap BFA.out (by simp))
      clear hfg hbg kg
      go_wp2_with fail
      refine (valid_frame f vm ve _ A _ _ (HEV.out.keep FG.out) (HM.out.keep FG.out) (HX.out.keep FG.out)).mono ?_
      rintro e wv ⟨rfl, hfv⟩
      rw [ev_ne A HCF.out]
      have FV := Lib.hid (FG.out.trans hfv)
      clear hfv kf
      go_wp2
      go_ret
      exact ⟨rfl, FV.out.grown (by simp)⟩
    obtain ⟨u, rfl, ho, hfa⟩ := HBA.out.ok hcf
    have HCF := Lib.hid hcf
    have FA := Lib.hid ((F5.out).trans hfa)
    have BFA := Lib.hid (hfa.heap (BF5.out) (by simp))
    have BGA := Lib.hid (hfa.heap (BG5.out) (by simp))
    obtain ⟨au, cu, hu⟩ := ho.shape
    obtain ⟨LL, hLL⟩ : ∃ LL, LL = (bytesF f).length := ⟨_, rfl⟩
    rw [← hLL] at hu
    subst hu
    have HPA := Lib.hid ho.bytes
    have HLL := Lib.hid hLL
    have HLB := Lib.hid (show LL ≤ 100000 by rw [hLL]; exact len_light hcf HLT.out)
    have HLP := Lib.hid (show 0 < LL by rw [hLL]; simp [bytesF])
    have kg := row11 BGA.out
    clear hfa hcf ho hLL
    go_wp2_with fail
    refine (bytes_frame g vm' ve' _ A _ _ (HEV.out.keep FA.out) (HM'.out.keep FA.out) (HX'.out.keep FA.out)).mono ?_
    rintro e wg hbg
    obtain ⟨hfg, uq, xq, rfl, hok, hbad⟩ := hbg.both
    have HOK := Lib.hid hok
    have HBAD := Lib.hid hbad
    have FG := Lib.hid (FA.out.trans hfg)
    have GA := Lib.hid hfg
    have E5 := Lib.hid (HEV.out.keep FG.out)
    have HP5 := Lib.hid (HPA.out.keep hfg)
    clear hbg kg hok hbad hfg
    go_wp2_with fail
    refine (read_frame _ (bytesF f) _ A _ _ HP5.out (byte_frame HCF.out) (by rw [← HLL.out]; have := HLB.out; omega) E5.out.three E5.out (by have := FG.out.size; omega)).mono ?_
    rintro e w10 hr10
    obtain ⟨hf10, ym, ye, rfl, hym, hye⟩ := hr10.of (read_bytes HCF.out)
    obtain ⟨sy, cy, rfl⟩ := hym.shape
    obtain ⟨sz, cz, rfl⟩ := hye.shape
    unfold frV
    dsimp only
    have Y1 := Lib.hid (Fr.alloc w10 (.cells #[.int .i64 f.ki, .int .i64 f.fr, .int .i64 f.to, .int .i64 f.li, .int .i64 f.se, .bool f.ou, .int .i64 f.rg.co, .int .i64 f.rg.fo, .int .i64 f.rg.ho, .slice sy f.rg.ms.length cy, .slice sz f.rg.es.length cz] 29) [])
    have YB1 := Lib.hid (heap_alloc_new w10 (.cells #[.int .i64 f.ki, .int .i64 f.fr, .int .i64 f.to, .int .i64 f.li, .int .i64 f.se, .bool f.ou, .int .i64 f.rg.co, .int .i64 f.rg.fo, .int .i64 f.rg.ho, .slice sy f.rg.ms.length cy, .slice sz f.rg.es.length cz] 29))
    have YH := Lib.hid (hf10.trans Y1.out)
    have GB := Lib.hid (GA.out.trans YH.out)
    have FB := Lib.hid (FA.out.trans GB.out)
    have HYM1 := Lib.hid (hym.keep Y1.out)
    have HYE1 := Lib.hid (hye.keep Y1.out)
    have E6 := Lib.hid (HEV.out.keep FB.out)
    have HP6 := Lib.hid (HPA.out.keep GB.out)
    clear hym hye hf10 hr10 E5 HP5
    obtain ⟨K, hK⟩ := Int.eq_ofNat_of_zero_le (Int.emod_nonneg cut (show (LL : Int) ≠ 0 by have := HLP.out; omega))
    have hKl : K < LL := by have := Int.emod_lt_of_pos cut (show (0 : Int) < (LL : Int) by have := HLP.out; omega); omega
    have hnum := fun W => numberTo_any cut (LL : Int) W (by have := HLP.out; omega) (by have := HLB.out; omega) HCUT.out.1 HCUT.out.2
    rw [hK] at hnum
    have HNUM := Lib.hid hnum
    have hcap : LL ≤ cu := by
      obtain ⟨_, c', he, h1, _⟩ := HP6.out
      simp at he; have := HLL.out; omega
    have hkc : K ≤ cu := by omega
    have HCB := Lib.hid (Holds.cut (l := bytesF f) (by rw [← HLL.out]; exact HP6.out) K (by rw [← HLL.out]; omega))
    have HKL := Lib.hid hKl
    clear hnum hK hKl
    go_wp2_with fail
    refine (HNUM.out _).mono ?_
    rintro e w11 ⟨rfl, rfl⟩
    go_wp2_with fail
    refine (read_frame _ ((bytesF f).take K) _ A _ _ HCB.out (fun x hx => byte_frame HCF.out x (List.mem_of_mem_take hx)) (by rw [List.length_take, ← HLL.out]; have := HLB.out; omega) E6.out.three E6.out (by have := FB.out.size; omega)).mono ?_
    rintro e w12 hr12
    obtain ⟨hf12, cm, ce, t12, p12, rfl, ht12, hcm, hce⟩ := hr12.not (read_cut HCF.out K (by have := HKL.out; have := HLL.out; omega))
    obtain ⟨s12, c12, rfl⟩ := hcm.shape
    obtain ⟨s13, c13, rfl⟩ := hce.shape
    obtain ⟨x12, hx12⟩ : ∃ x, x = (readF ((bytesF f).take K)).1 := ⟨_, rfl⟩
    rw [← hx12]
    unfold frV
    dsimp only
    have Y2 := Lib.hid (Fr.alloc w12 (.cells #[.int .i64 x12.ki, .int .i64 x12.fr, .int .i64 x12.to, .int .i64 x12.li, .int .i64 x12.se, .bool x12.ou, .int .i64 x12.rg.co, .int .i64 x12.rg.fo, .int .i64 x12.rg.ho, .slice s12 x12.rg.ms.length c12, .slice s13 x12.rg.es.length c13] 29) [])
    have YK2 := Lib.hid (hf12.trans Y2.out)
    have GC := Lib.hid (GB.out.trans YK2.out)
    have FC := Lib.hid (FB.out.trans YK2.out)
    have HP7 := Lib.hid (HPA.out.keep GC.out)
    have HT12 := Lib.hid ht12
    clear hf12 hcm hce hx12 hr12 ht12 hkc hcap
    go_wp2_with fail
    refine (bytes_any _ (bytesF f) _ HP7.out (by rw [← HLL.out]; have := HLB.out; omega)).mono ?_
    rintro e w13 ⟨zb, rfl, hoz, hg13⟩
    have G13 := Lib.hid (Fr.of_grown hg13 [])
    have HOZ := Lib.hid hoz
    obtain ⟨gz, cgz, hzz, kz⟩ := own_head hoz (by rw [← HLL.out]; exact HLP.out)
    rw [← HLL.out] at hzz kz
    subst hzz
    obtain ⟨i0, hi, hz0, hz1, hz2⟩ := info_parts infoU8
    have HO13 : Hid (w13.ownsRow (w12.alloc (.cells #[.int .i64 x12.ki, .int .i64 x12.fr, .int .i64 x12.to, .int .i64 x12.li, .int .i64 x12.se, .bool x12.ou, .int .i64 x12.rg.co, .int .i64 x12.rg.fo, .int .i64 x12.rg.ho, .slice s12 x12.rg.ms.length c12, .slice s13 x12.rg.es.length c13] 29)).heap.size 5 1 (.slice (some ⟨gz, 0, none⟩) LL cgz) LL (u8s (bytesF f))) := by
      have := hoz
      unfold Own at this
      rwa [← HLL.out] at this
    have HNEW := Lib.hid (cell_one_new w13 (.int .u8 0) 5)
    have HKZ := Lib.hid kz
    have hLB := HLB.out
    have hsz13 : w12.heap.size + 1 ≤ w13.heap.size := by have := G13.out.size; simpa using this
    clear hoz hg13 kz
    go_wp2_with ((at_builtin; refine wpList_append_own _ rfl _ _ 30 rfl _ 5 i0 (.int .u8 0) 1 1 Tryd.underlying30 hi hz0 hz1 hz2 rfl (by decide) (.slice (some ⟨gz, 0, none⟩) LL cgz) LL (u8s (bytesF f)) rfl (World.ownsRow.alloc HO13.out _) ⟨w13.heap.size, 0, none⟩ 1 1 [.int .u8 0] rfl rfl HNEW.out (one_cell _ _) (by unfold maxLen; omega) (by omega) (by simp; omega) ?_; intro v' w14 hown14 hg14 _))
    have hfr14 : Fr (w12.alloc (.cells #[.int .i64 x12.ki, .int .i64 x12.fr, .int .i64 x12.to, .int .i64 x12.li, .int .i64 x12.se, .bool x12.ou, .int .i64 x12.rg.co, .int .i64 x12.rg.fo, .int .i64 x12.rg.ho, .slice s12 x12.rg.ms.length c12, .slice s13 x12.rg.es.length c13] 29)) w14 [] := Fr.of_grown (grown_new (G13.out.grown (by simp)) (grown_trans (World.grownBy_alloc _ _ (some gz)) hg14) (fun r hr => by cases hr; exact (HOZ.out.block gz rfl).1)) []
    have ho14 : Own w14 (w12.alloc (.cells #[.int .i64 x12.ki, .int .i64 x12.fr, .int .i64 x12.to, .int .i64 x12.li, .int .i64 x12.se, .bool x12.ou, .int .i64 x12.rg.co, .int .i64 x12.rg.fo, .int .i64 x12.rg.ho, .slice s12 x12.rg.ms.length c12, .slice s13 x12.rg.es.length c13] 29)).heap.size v' (bytesF f ++ [0]) := by
      rw [HLL.out] at hown14
      exact own_one hown14
    have GD := Lib.hid (GC.out.trans hfr14)
    have FD := Lib.hid (FC.out.trans hfr14)
    have YK3 := Lib.hid (YK2.out.trans hfr14)
    have E8 := Lib.hid (HEV.out.keep FD.out)
    have HO14 := Lib.hid ho14.bytes
    clear hfr14 ho14 hown14 hg14 hi hz0 hz1 hz2 HNEW
    go_wp2_with fail
    refine (read_frame _ (bytesF f ++ [0]) _ A _ _ HO14.out (fun x hx => by rcases List.mem_append.1 hx with h | h; exact byte_frame HCF.out x h; simp at h; omega) (by rw [List.length_append, ← HLL.out]; have := HLB.out; simp; omega) E8.out.three E8.out (by have := FD.out.size; omega)).mono ?_
    rintro e w15 hr15
    rw [read_longer HCF.out [0] (by simp)] at hr15
    obtain ⟨hf15, dm, de, t15, p15, rfl, ht15, hdm, hde⟩ := hr15.not (by simp)
    obtain ⟨s15, c15, rfl⟩ := hdm.shape
    obtain ⟨s16, c16, rfl⟩ := hde.shape
    unfold frV zeroF zeroR
    dsimp only
    have Y3 := Lib.hid (Fr.alloc w15 (.cells #[.int .i64 0, .int .i64 0, .int .i64 0, .int .i64 0, .int .i64 0, .bool false, .int .i64 0, .int .i64 0, .int .i64 0, .slice s15 0 c15, .slice s16 0 c16] 29) [])
    have GE := Lib.hid ((GD.out.trans hf15).trans Y3.out)
    have FQ := Lib.hid ((FD.out.trans hf15).trans Y3.out)
    have YK := Lib.hid ((YK3.out.trans hf15).trans Y3.out)
    have HT15 := Lib.hid ht15
    clear hf15 hdm hde hr15 ht15
    go_wp2
    have HYM := Lib.hid (HYM1.out.keep YK.out)
    have HYE := Lib.hid (HYE1.out.keep YK.out)
    have HPB := Lib.hid (HPA.out.keep GE.out)
    have HPL : Hid ((bytesF f).length ≤ 140737488355328) := by show _ ≤ _; rw [← HLL.out]; have := HLB.out; omega
    obtain ⟨bb, HFG⟩ : ∃ bb : Bool, Hid (bb = true ↔ f = g) := by
      by_cases h : f = g
      · exact ⟨true, iyes h⟩
      · exact ⟨false, ino h⟩
    have keep := @BackS.keep (w15.alloc (.cells #[.int .i64 0, .int .i64 0, .int .i64 0, .int .i64 0, .int .i64 0, .bool false, .int .i64 0, .int .i64 0, .int .i64 0, .slice s15 0 c15, .slice s16 0 c16] 29)) w.heap.size (w.heap.size + 1) w10.heap.size f g f vm ve vm' ve' (.slice sy f.rg.ms.length cy) (.slice sz f.rg.es.length cz)
    have HS := Lib.hid (keep ⟨Fr.refl _ _, C11.of (GE.out.heap BFA.out (by simp)), C11.of (GE.out.heap BGA.out (by simp)), C11.of (YK.out.heap YB1.out (by simp))⟩ (Fr.drew _ _))
    clear keep
    by_cases hcg : frameC g = 0
    · obtain ⟨rfl, hqb⟩ := HOK.out hcg
      have HQB := Lib.hid ((hqb.keep YH.out).keep YK.out)
      have HBB : Hid (bb = decide (bytesF f = bytesF g)) := by
        have h := HFG.out
        rw [← bytes_inj HCF.out hcg] at h
        show _ = _
        cases bb <;> simp_all
      clear hqb
      refine wp_region_det (S := BackS (w15.alloc (.cells #[.int .i64 0, .int .i64 0, .int .i64 0, .int .i64 0, .int .i64 0, .bool false, .int .i64 0, .int .i64 0, .int .i64 0, .slice s15 0 c15, .slice s16 0 c16] 29)) w.heap.size (w.heap.size + 1) w10.heap.size f g f vm ve vm' ve' (.slice sy f.rg.ms.length cy) (.slice sz f.rg.es.length cz)) (by kernel_rfl) HS.out ?_
      refine wpDet_take (i := 0) (oi := _) (v := ?dv65) (by simp only [List.getElem?_toArray, List.getElem?_cons_zero]; rfl) (by kernel_rfl) (by kernel_rfl) (by kernel_rfl) (Or.inl ⟨by rfl, ?dy65⟩) ?dr65
      case dy65 => (intro w hSw; have hS0 := hSw; (try dsimp only [BackS,C11] at hSw); go_simp; refine Came.value ?_ hS0; with_reducible rfl)
      try simp only [Act.put, List.setIfInBounds_toArray, List.set_cons_zero, List.set_cons_succ]
      refine wpDet_take (i := 1) (oi := _) (v := ?dv66) (by simp only [List.getElem?_toArray, List.getElem?_cons_zero, List.getElem?_cons_succ]; rfl) (by kernel_rfl) (by kernel_rfl) (by kernel_rfl) (Or.inl ⟨by rfl, ?dy66⟩) ?dr66
      case dy66 => (intro w hSw; have hS0 := hSw; (try dsimp only [BackS,C11] at hSw); go_simp; refine Came.value ?_ hS0; with_reducible rfl)
      try simp only [Act.put, List.setIfInBounds_toArray, List.set_cons_zero, List.set_cons_succ]
      refine wpDet_take (i := 2) (oi := _) (v := ?dv67) (by simp only [List.getElem?_toArray, List.getElem?_cons_zero, List.getElem?_cons_succ]; rfl) (by kernel_rfl) (by kernel_rfl) (by kernel_rfl) (Or.inl ⟨by rfl, ?dy67⟩) ?dr67
      case dy67 => (intro w hSw; have hS0 := hSw; (try dsimp only [BackS,C11] at hSw); go_simp; refine Came.value ?_ hS0; with_reducible rfl)
      try simp only [Act.put, List.setIfInBounds_toArray, List.set_cons_zero, List.set_cons_succ]
      refine wpDet_take (i := 3) (oi := _) (v := ?dv68) (by simp only [List.getElem?_toArray, List.getElem?_cons_zero, List.getElem?_cons_succ]; rfl) (by kernel_rfl) (by kernel_rfl) (by kernel_rfl) (Or.inl ⟨by rfl, ?dy68⟩) ?dr68
      case dy68 => (intro w hSw; have hS0 := hSw; (try dsimp only [BackS,C11] at hSw); go_simp; refine Came.value ?_ hS0; with_reducible rfl)
      try simp only [Act.put, List.setIfInBounds_toArray, List.set_cons_zero, List.set_cons_succ]
      refine wpDet_take (i := 4) (oi := _) (v := ?dv69) (by simp only [List.getElem?_toArray, List.getElem?_cons_zero, List.getElem?_cons_succ]; rfl) (by kernel_rfl) (by kernel_rfl) (by kernel_rfl) (Or.inl ⟨by rfl, ?dy69⟩) ?dr69
      case dy69 => (intro w hSw; have hS0 := hSw; (try dsimp only [BackS,C11] at hSw); go_simp; refine Came.value ?_ hS0; with_reducible rfl)
      try simp only [Act.put, List.setIfInBounds_toArray, List.set_cons_zero, List.set_cons_succ]
      refine wpDet_take (i := 5) (oi := _) (v := ?dv70) (by simp only [List.getElem?_toArray, List.getElem?_cons_zero, List.getElem?_cons_succ]; rfl) (by kernel_rfl) (by kernel_rfl) (by kernel_rfl) (Or.inl ⟨by rfl, ?dy70⟩) ?dr70
      case dy70 => (intro w hSw; have hS0 := hSw; (try dsimp only [BackS,C11] at hSw); go_simp; refine Came.value ?_ hS0; with_reducible rfl)
      try simp only [Act.put, List.setIfInBounds_toArray, List.set_cons_zero, List.set_cons_succ]
      refine wpDet_take (i := 6) (oi := _) (v := ?dv71) (by simp only [List.getElem?_toArray, List.getElem?_cons_zero, List.getElem?_cons_succ]; rfl) (by kernel_rfl) (by kernel_rfl) (by kernel_rfl) (Or.inl ⟨by rfl, ?dy71⟩) ?dr71
      case dy71 => (intro w hSw; have hS0 := hSw; (try dsimp only [BackS,C11] at hSw); go_simp; refine Came.value ?_ hS0; with_reducible rfl)
      try simp only [Act.put, List.setIfInBounds_toArray, List.set_cons_zero, List.set_cons_succ]
      refine wpDet_take (i := 7) (oi := _) (v := ?dv72) (by simp only [List.getElem?_toArray, List.getElem?_cons_zero, List.getElem?_cons_succ]; rfl) (by kernel_rfl) (by kernel_rfl) (by kernel_rfl) (Or.inl ⟨by rfl, ?dy72⟩) ?dr72
      case dy72 => (intro w hSw; have hS0 := hSw; (try dsimp only [BackS,C11] at hSw); go_simp; refine Came.value ?_ hS0; with_reducible rfl)
      try simp only [Act.put, List.setIfInBounds_toArray, List.set_cons_zero, List.set_cons_succ]
      refine wpDet_take (i := 8) (oi := _) (v := ?dv73) (by simp only [List.getElem?_toArray, List.getElem?_cons_zero, List.getElem?_cons_succ]; rfl) (by kernel_rfl) (by kernel_rfl) (by kernel_rfl) (Or.inl ⟨by rfl, ?dy73⟩) ?dr73
      case dy73 => (intro w hSw; go_simp; exact Came.call ((same_frame f f _ _ _ _ true (iyes rfl) w (HYM.out.keep hSw.1) (HYE.out.keep hSw.1) (HM.out.keep (FQ.out.trans hSw.1)) (HX.out.keep (FQ.out.trans hSw.1))).mono fun e w' ⟨he, hf⟩ => ⟨he, hSw.keep hf⟩) (by with_reducible rfl))
      try simp only [Act.put, List.setIfInBounds_toArray, List.set_cons_zero, List.set_cons_succ]
      refine wpDet_take (i := 9) (oi := _) (v := ?dv74) (by simp only [List.getElem?_toArray, List.getElem?_cons_zero, List.getElem?_cons_succ]; rfl) (by kernel_rfl) (by kernel_rfl) (by kernel_rfl) (Or.inl ⟨by rfl, ?dy74⟩) ?dr74
      case dy74 => (intro w hSw; have hS0 := hSw; (try dsimp only [BackS,C11] at hSw); go_simp; refine Came.value ?_ hS0; with_reducible rfl)
      try simp only [Act.put, List.setIfInBounds_toArray, List.set_cons_zero, List.set_cons_succ]
      refine wpDet_take (i := 10) (oi := _) (v := ?dv75) (by simp only [List.getElem?_toArray, List.getElem?_cons_zero, List.getElem?_cons_succ]; rfl) (by kernel_rfl) (by kernel_rfl) (by kernel_rfl) (Or.inl ⟨by rfl, ?dy75⟩) ?dr75
      case dy75 => (intro w hSw; have hS0 := hSw; (try dsimp only [BackS,C11] at hSw); go_simp; refine Came.value ?_ hS0; with_reducible rfl)
      try simp only [Act.put, List.setIfInBounds_toArray, List.set_cons_zero, List.set_cons_succ]
      refine wpDet_take (i := 11) (oi := _) (v := ?dv76) (by simp only [List.getElem?_toArray, List.getElem?_cons_zero, List.getElem?_cons_succ]; rfl) (by kernel_rfl) (by kernel_rfl) (by kernel_rfl) (Or.inl ⟨by rfl, ?dy76⟩) ?dr76
      case dy76 => (intro w hSw; have hS0 := hSw; (try dsimp only [BackS,C11] at hSw); go_simp; refine Came.value ?_ hS0; with_reducible rfl)
      try simp only [Act.put, List.setIfInBounds_toArray, List.set_cons_zero, List.set_cons_succ]
      refine wpDet_take (i := 12) (oi := _) (v := ?dv77) (by simp only [List.getElem?_toArray, List.getElem?_cons_zero, List.getElem?_cons_succ]; rfl) (by kernel_rfl) (by kernel_rfl) (by kernel_rfl) (Or.inl ⟨by rfl, ?dy77⟩) ?dr77
      case dy77 => (intro w hSw; have hS0 := hSw; (try dsimp only [BackS,C11] at hSw); go_simp; refine Came.value ?_ hS0; with_reducible rfl)
      try simp only [Act.put, List.setIfInBounds_toArray, List.set_cons_zero, List.set_cons_succ]
      refine wpDet_take (i := 13) (oi := _) (v := ?dv78) (by simp only [List.getElem?_toArray, List.getElem?_cons_zero, List.getElem?_cons_succ]; rfl) (by kernel_rfl) (by kernel_rfl) (by kernel_rfl) (Or.inl ⟨by rfl, ?dy78⟩) ?dr78
      case dy78 => (intro w hSw; have hS0 := hSw; (try dsimp only [BackS,C11] at hSw); go_simp; refine Came.value ?_ hS0; with_reducible rfl)
      try simp only [Act.put, List.setIfInBounds_toArray, List.set_cons_zero, List.set_cons_succ]
      refine wpDet_take (i := 14) (oi := _) (v := ?dv79) (by simp only [List.getElem?_toArray, List.getElem?_cons_zero, List.getElem?_cons_succ]; rfl) (by kernel_rfl) (by kernel_rfl) (by kernel_rfl) (Or.inl ⟨by rfl, ?dy79⟩) ?dr79
      case dy79 => (intro w hSw; have hS0 := hSw; (try dsimp only [BackS,C11] at hSw); go_simp; refine Came.value ?_ hS0; with_reducible rfl)
      try simp only [Act.put, List.setIfInBounds_toArray, List.set_cons_zero, List.set_cons_succ]
      refine wpDet_take (i := 15) (oi := _) (v := ?dv80) (by simp only [List.getElem?_toArray, List.getElem?_cons_zero, List.getElem?_cons_succ]; rfl) (by kernel_rfl) (by kernel_rfl) (by kernel_rfl) (Or.inl ⟨by rfl, ?dy80⟩) ?dr80
      case dy80 => (intro w hSw; have hS0 := hSw; (try dsimp only [BackS,C11] at hSw); go_simp; refine Came.value ?_ hS0; with_reducible rfl)
      try simp only [Act.put, List.setIfInBounds_toArray, List.set_cons_zero, List.set_cons_succ]
      refine wpDet_take (i := 16) (oi := _) (v := ?dv81) (by simp only [List.getElem?_toArray, List.getElem?_cons_zero, List.getElem?_cons_succ]; rfl) (by kernel_rfl) (by kernel_rfl) (by kernel_rfl) (Or.inl ⟨by rfl, ?dy81⟩) ?dr81
      case dy81 => (intro w hSw; have hS0 := hSw; (try dsimp only [BackS,C11] at hSw); go_simp; refine Came.value ?_ hS0; with_reducible rfl)
      try simp only [Act.put, List.setIfInBounds_toArray, List.set_cons_zero, List.set_cons_succ]
      refine wpDet_take (i := 17) (oi := _) (v := ?dv82) (by simp only [List.getElem?_toArray, List.getElem?_cons_zero, List.getElem?_cons_succ]; rfl) (by kernel_rfl) (by kernel_rfl) (by kernel_rfl) (Or.inl ⟨by rfl, ?dy82⟩) ?dr82
      case dy82 => (intro w hSw; have hS0 := hSw; (try dsimp only [BackS,C11] at hSw); go_simp; refine Came.value ?_ hS0; with_reducible rfl)
      try simp only [Act.put, List.setIfInBounds_toArray, List.set_cons_zero, List.set_cons_succ]
      refine wpDet_take (i := 18) (oi := _) (v := ?dv83) (by simp only [List.getElem?_toArray, List.getElem?_cons_zero, List.getElem?_cons_succ]; rfl) (by kernel_rfl) (by kernel_rfl) (by kernel_rfl) (Or.inl ⟨by rfl, ?dy83⟩) ?dr83
      case dy83 => (intro w hSw; have hS0 := hSw; (try dsimp only [BackS,C11] at hSw); go_simp; refine Came.value ?_ hS0; with_reducible rfl)
      try simp only [Act.put, List.setIfInBounds_toArray, List.set_cons_zero, List.set_cons_succ]
      refine wpDet_take (i := 19) (oi := _) (v := ?dv84) (by simp only [List.getElem?_toArray, List.getElem?_cons_zero, List.getElem?_cons_succ]; rfl) (by kernel_rfl) (by kernel_rfl) (by kernel_rfl) (Or.inl ⟨by rfl, ?dy84⟩) ?dr84
      case dy84 => (intro w hSw; have hS0 := hSw; (try dsimp only [BackS,C11] at hSw); go_simp; refine Came.value ?_ hS0; with_reducible rfl)
      try simp only [Act.put, List.setIfInBounds_toArray, List.set_cons_zero, List.set_cons_succ]
      refine wpDet_take (i := 20) (oi := _) (v := ?dv85) (by simp only [List.getElem?_toArray, List.getElem?_cons_zero, List.getElem?_cons_succ]; rfl) (by kernel_rfl) (by kernel_rfl) (by kernel_rfl) (Or.inl ⟨by rfl, ?dy85⟩) ?dr85
      case dy85 => (intro w hSw; have hS0 := hSw; (try dsimp only [BackS,C11] at hSw); go_simp; refine Came.value ?_ hS0; with_reducible rfl)
      try simp only [Act.put, List.setIfInBounds_toArray, List.set_cons_zero, List.set_cons_succ]
      refine wpDet_take (i := 21) (oi := _) (v := ?dv86) (by simp only [List.getElem?_toArray, List.getElem?_cons_zero, List.getElem?_cons_succ]; rfl) (by kernel_rfl) (by kernel_rfl) (by kernel_rfl) (Or.inl ⟨by rfl, ?dy86⟩) ?dr86
      case dy86 => (intro w hSw; have hS0 := hSw; (try dsimp only [BackS,C11] at hSw); go_simp; refine Came.value ?_ hS0; with_reducible rfl)
      try simp only [Act.put, List.setIfInBounds_toArray, List.set_cons_zero, List.set_cons_succ]
      refine wpDet_take (i := 22) (oi := _) (v := ?dv87) (by simp only [List.getElem?_toArray, List.getElem?_cons_zero, List.getElem?_cons_succ]; rfl) (by kernel_rfl) (by kernel_rfl) (by kernel_rfl) (Or.inl ⟨by rfl, ?dy87⟩) ?dr87
      case dy87 => (intro w hSw; have hS0 := hSw; (try dsimp only [BackS,C11] at hSw); go_simp; refine Came.value ?_ hS0; with_reducible rfl)
      try simp only [Act.put, List.setIfInBounds_toArray, List.set_cons_zero, List.set_cons_succ]
      refine wpDet_take (i := 23) (oi := _) (v := ?dv88) (by simp only [List.getElem?_toArray, List.getElem?_cons_zero, List.getElem?_cons_succ]; rfl) (by kernel_rfl) (by kernel_rfl) (by kernel_rfl) (Or.inl ⟨by rfl, ?dy88⟩) ?dr88
      case dy88 => (intro w hSw; have hS0 := hSw; (try dsimp only [BackS,C11] at hSw); go_simp; refine Came.value ?_ hS0; with_reducible rfl)
      try simp only [Act.put, List.setIfInBounds_toArray, List.set_cons_zero, List.set_cons_succ]
      refine wpDet_take (i := 24) (oi := _) (v := ?dv89) (by simp only [List.getElem?_toArray, List.getElem?_cons_zero, List.getElem?_cons_succ]; rfl) (by kernel_rfl) (by kernel_rfl) (by kernel_rfl) (Or.inl ⟨by rfl, ?dy89⟩) ?dr89
      case dy89 => (intro w hSw; go_simp; exact Came.call ((same_any _ (bytesF f) _ (bytesF g) w (HPB.out.keep hSw.1) (HQB.out.keep hSw.1) HPL.out bb HBB.out).mono fun e w' ⟨he, hf⟩ => ⟨he, hSw.keep (Fr.of_grown hf [])⟩) (by with_reducible rfl))
      try simp only [Act.put, List.setIfInBounds_toArray, List.set_cons_zero, List.set_cons_succ]
      refine wpDet_take (i := 25) (oi := _) (v := ?dv90) (by simp only [List.getElem?_toArray, List.getElem?_cons_zero, List.getElem?_cons_succ]; rfl) (by kernel_rfl) (by kernel_rfl) (by kernel_rfl) (Or.inl ⟨by rfl, ?dy90⟩) ?dr90
      case dy90 => (intro w hSw; have hS0 := hSw; (try dsimp only [BackS,C11] at hSw); go_simp; refine Came.value ?_ hS0; with_reducible rfl)
      try simp only [Act.put, List.setIfInBounds_toArray, List.set_cons_zero, List.set_cons_succ]
      refine wpDet_take (i := 26) (oi := _) (v := ?dv91) (by simp only [List.getElem?_toArray, List.getElem?_cons_zero, List.getElem?_cons_succ]; rfl) (by kernel_rfl) (by kernel_rfl) (by kernel_rfl) (Or.inl ⟨by rfl, ?dy91⟩) ?dr91
      case dy91 => (intro w hSw; have hS0 := hSw; (try dsimp only [BackS,C11] at hSw); go_simp; refine Came.value ?_ hS0; with_reducible rfl)
      try simp only [Act.put, List.setIfInBounds_toArray, List.set_cons_zero, List.set_cons_succ]
      refine wpDet_take (i := 27) (oi := _) (v := ?dv92) (by simp only [List.getElem?_toArray, List.getElem?_cons_zero, List.getElem?_cons_succ]; rfl) (by kernel_rfl) (by kernel_rfl) (by kernel_rfl) (Or.inl ⟨by rfl, ?dy92⟩) ?dr92
      case dy92 => (intro w hSw; go_simp; exact Came.call ((same_frame f g _ _ _ _ bb HFG.out w (HM.out.keep (FQ.out.trans hSw.1)) (HX.out.keep (FQ.out.trans hSw.1)) (HM'.out.keep (FQ.out.trans hSw.1)) (HX'.out.keep (FQ.out.trans hSw.1))).mono fun e w' ⟨he, hf⟩ => ⟨he, hSw.keep hf⟩) (by with_reducible rfl))
      try simp only [Act.put, List.setIfInBounds_toArray, List.set_cons_zero, List.set_cons_succ]
      refine wpDet_take (i := 28) (oi := _) (v := ?dv93) (by simp only [List.getElem?_toArray, List.getElem?_cons_zero, List.getElem?_cons_succ]; rfl) (by kernel_rfl) (by kernel_rfl) (by kernel_rfl) (Or.inl ⟨by rfl, ?dy93⟩) ?dr93
      case dy93 => (intro w hSw; have hS0 := hSw; (try dsimp only [BackS,C11] at hSw); go_simp; refine Came.value ?_ hS0; with_reducible rfl)
      try simp only [Act.put, List.setIfInBounds_toArray, List.set_cons_zero, List.set_cons_succ]
      refine wpDet_take (i := 29) (oi := _) (v := ?dv94) (by simp only [List.getElem?_toArray, List.getElem?_cons_zero, List.getElem?_cons_succ]; rfl) (by kernel_rfl) (by kernel_rfl) (by kernel_rfl) (Or.inl ⟨by rfl, ?dy94⟩) ?dr94
      case dy94 => (intro w hSw; have hS0 := hSw; (try dsimp only [BackS,C11] at hSw); go_simp; refine Came.value ?_ hS0; with_reducible rfl)
      try simp only [Act.put, List.setIfInBounds_toArray, List.set_cons_zero, List.set_cons_succ]
      refine wpDet_take (i := 30) (oi := _) (v := ?dv95) (by simp only [List.getElem?_toArray, List.getElem?_cons_zero, List.getElem?_cons_succ]; rfl) (by kernel_rfl) (by kernel_rfl) (by kernel_rfl) (Or.inl ⟨by rfl, ?dy95⟩) ?dr95
      case dy95 => (intro w hSw; have hS0 := hSw; (try dsimp only [BackS,C11] at hSw); go_simp; refine Came.value ?_ hS0; with_reducible rfl)
      try simp only [Act.put, List.setIfInBounds_toArray, List.set_cons_zero, List.set_cons_succ]
      refine wpDet_take (i := 31) (oi := _) (v := ?dv96) (by simp only [List.getElem?_toArray, List.getElem?_cons_zero, List.getElem?_cons_succ]; rfl) (by kernel_rfl) (by kernel_rfl) (by kernel_rfl) (Or.inl ⟨by rfl, ?dy96⟩) ?dr96
      case dy96 => (intro w hSw; have hS0 := hSw; (try dsimp only [BackS,C11] at hSw); go_simp; refine Came.value ?_ hS0; with_reducible rfl)
      try simp only [Act.put, List.setIfInBounds_toArray, List.set_cons_zero, List.set_cons_succ]
      refine wpDet_done (by kernel_rfl) ?_ _
      rintro w20 hS
      have HF20 := Lib.hid (FQ.out.trans hS.1)
      clear hS
      go_wp2
      go_ret
      exact ⟨rfl, HF20.out.grown (by simp)⟩
    · obtain rfl := HBAD.out hcg
      rw [ev_ne A hcg]
      refine wp_region_det (S := BackS (w15.alloc (.cells #[.int .i64 0, .int .i64 0, .int .i64 0, .int .i64 0, .int .i64 0, .bool false, .int .i64 0, .int .i64 0, .int .i64 0, .slice s15 0 c15, .slice s16 0 c16] 29)) w.heap.size (w.heap.size + 1) w10.heap.size f g f vm ve vm' ve' (.slice sy f.rg.ms.length cy) (.slice sz f.rg.es.length cz)) (by kernel_rfl) HS.out ?_
      refine wpDet_take (i := 0) (oi := _) (v := ?dv97) (by simp only [List.getElem?_toArray, List.getElem?_cons_zero]; rfl) (by kernel_rfl) (by kernel_rfl) (by kernel_rfl) (Or.inl ⟨by rfl, ?dy97⟩) ?dr97
      case dy97 => (intro w hSw; have hS0 := hSw; (try dsimp only [BackS,C11] at hSw); go_simp; refine Came.value ?_ hS0; with_reducible rfl)
      try simp only [Act.put, List.setIfInBounds_toArray, List.set_cons_zero, List.set_cons_succ]
      refine wpDet_take (i := 1) (oi := _) (v := ?dv98) (by simp only [List.getElem?_toArray, List.getElem?_cons_zero, List.getElem?_cons_succ]; rfl) (by kernel_rfl) (by kernel_rfl) (by kernel_rfl) (Or.inl ⟨by rfl, ?dy98⟩) ?dr98
      case dy98 => (intro w hSw; have hS0 := hSw; (try dsimp only [BackS,C11] at hSw); go_simp; refine Came.value ?_ hS0; with_reducible rfl)
      try simp only [Act.put, List.setIfInBounds_toArray, List.set_cons_zero, List.set_cons_succ]
      refine wpDet_take (i := 2) (oi := _) (v := ?dv99) (by simp only [List.getElem?_toArray, List.getElem?_cons_zero, List.getElem?_cons_succ]; rfl) (by kernel_rfl) (by kernel_rfl) (by kernel_rfl) (Or.inl ⟨by rfl, ?dy99⟩) ?dr99
      case dy99 => (intro w hSw; have hS0 := hSw; (try dsimp only [BackS,C11] at hSw); go_simp; refine Came.value ?_ hS0; with_reducible rfl)
      try simp only [Act.put, List.setIfInBounds_toArray, List.set_cons_zero, List.set_cons_succ]
      refine wpDet_take (i := 3) (oi := _) (v := ?dv100) (by simp only [List.getElem?_toArray, List.getElem?_cons_zero, List.getElem?_cons_succ]; rfl) (by kernel_rfl) (by kernel_rfl) (by kernel_rfl) (Or.inl ⟨by rfl, ?dy100⟩) ?dr100
      case dy100 => (intro w hSw; have hS0 := hSw; (try dsimp only [BackS,C11] at hSw); go_simp; refine Came.value ?_ hS0; with_reducible rfl)
      try simp only [Act.put, List.setIfInBounds_toArray, List.set_cons_zero, List.set_cons_succ]
      refine wpDet_take (i := 4) (oi := _) (v := ?dv101) (by simp only [List.getElem?_toArray, List.getElem?_cons_zero, List.getElem?_cons_succ]; rfl) (by kernel_rfl) (by kernel_rfl) (by kernel_rfl) (Or.inl ⟨by rfl, ?dy101⟩) ?dr101
      case dy101 => (intro w hSw; have hS0 := hSw; (try dsimp only [BackS,C11] at hSw); go_simp; refine Came.value ?_ hS0; with_reducible rfl)
      try simp only [Act.put, List.setIfInBounds_toArray, List.set_cons_zero, List.set_cons_succ]
      refine wpDet_take (i := 5) (oi := _) (v := ?dv102) (by simp only [List.getElem?_toArray, List.getElem?_cons_zero, List.getElem?_cons_succ]; rfl) (by kernel_rfl) (by kernel_rfl) (by kernel_rfl) (Or.inl ⟨by rfl, ?dy102⟩) ?dr102
      case dy102 => (intro w hSw; have hS0 := hSw; (try dsimp only [BackS,C11] at hSw); go_simp; refine Came.value ?_ hS0; with_reducible rfl)
      try simp only [Act.put, List.setIfInBounds_toArray, List.set_cons_zero, List.set_cons_succ]
      refine wpDet_take (i := 6) (oi := _) (v := ?dv103) (by simp only [List.getElem?_toArray, List.getElem?_cons_zero, List.getElem?_cons_succ]; rfl) (by kernel_rfl) (by kernel_rfl) (by kernel_rfl) (Or.inl ⟨by rfl, ?dy103⟩) ?dr103
      case dy103 => (intro w hSw; have hS0 := hSw; (try dsimp only [BackS,C11] at hSw); go_simp; refine Came.value ?_ hS0; with_reducible rfl)
      try simp only [Act.put, List.setIfInBounds_toArray, List.set_cons_zero, List.set_cons_succ]
      refine wpDet_take (i := 7) (oi := _) (v := ?dv104) (by simp only [List.getElem?_toArray, List.getElem?_cons_zero, List.getElem?_cons_succ]; rfl) (by kernel_rfl) (by kernel_rfl) (by kernel_rfl) (Or.inl ⟨by rfl, ?dy104⟩) ?dr104
      case dy104 => (intro w hSw; have hS0 := hSw; (try dsimp only [BackS,C11] at hSw); go_simp; refine Came.value ?_ hS0; with_reducible rfl)
      try simp only [Act.put, List.setIfInBounds_toArray, List.set_cons_zero, List.set_cons_succ]
      refine wpDet_take (i := 8) (oi := _) (v := ?dv105) (by simp only [List.getElem?_toArray, List.getElem?_cons_zero, List.getElem?_cons_succ]; rfl) (by kernel_rfl) (by kernel_rfl) (by kernel_rfl) (Or.inl ⟨by rfl, ?dy105⟩) ?dr105
      case dy105 => (intro w hSw; go_simp; exact Came.call ((same_frame f f _ _ _ _ true (iyes rfl) w (HYM.out.keep hSw.1) (HYE.out.keep hSw.1) (HM.out.keep (FQ.out.trans hSw.1)) (HX.out.keep (FQ.out.trans hSw.1))).mono fun e w' ⟨he, hf⟩ => ⟨he, hSw.keep hf⟩) (by with_reducible rfl))
      try simp only [Act.put, List.setIfInBounds_toArray, List.set_cons_zero, List.set_cons_succ]
      refine wpDet_take (i := 9) (oi := _) (v := ?dv106) (by simp only [List.getElem?_toArray, List.getElem?_cons_zero, List.getElem?_cons_succ]; rfl) (by kernel_rfl) (by kernel_rfl) (by kernel_rfl) (Or.inl ⟨by rfl, ?dy106⟩) ?dr106
      case dy106 => (intro w hSw; have hS0 := hSw; (try dsimp only [BackS,C11] at hSw); go_simp; refine Came.value ?_ hS0; with_reducible rfl)
      try simp only [Act.put, List.setIfInBounds_toArray, List.set_cons_zero, List.set_cons_succ]
      refine wpDet_take (i := 10) (oi := _) (v := ?dv107) (by simp only [List.getElem?_toArray, List.getElem?_cons_zero, List.getElem?_cons_succ]; rfl) (by kernel_rfl) (by kernel_rfl) (by kernel_rfl) (Or.inl ⟨by rfl, ?dy107⟩) ?dr107
      case dy107 => (intro w hSw; have hS0 := hSw; (try dsimp only [BackS,C11] at hSw); go_simp; refine Came.value ?_ hS0; with_reducible rfl)
      try simp only [Act.put, List.setIfInBounds_toArray, List.set_cons_zero, List.set_cons_succ]
      refine wpDet_take (i := 11) (oi := _) (v := ?dv108) (by simp only [List.getElem?_toArray, List.getElem?_cons_zero, List.getElem?_cons_succ]; rfl) (by kernel_rfl) (by kernel_rfl) (by kernel_rfl) (Or.inl ⟨by rfl, ?dy108⟩) ?dr108
      case dy108 => (intro w hSw; have hS0 := hSw; (try dsimp only [BackS,C11] at hSw); go_simp; refine Came.value ?_ hS0; with_reducible rfl)
      try simp only [Act.put, List.setIfInBounds_toArray, List.set_cons_zero, List.set_cons_succ]
      refine wpDet_take (i := 12) (oi := _) (v := ?dv109) (by simp only [List.getElem?_toArray, List.getElem?_cons_zero, List.getElem?_cons_succ]; rfl) (by kernel_rfl) (by kernel_rfl) (by kernel_rfl) (Or.inl ⟨by rfl, ?dy109⟩) ?dr109
      case dy109 => (intro w hSw; have hS0 := hSw; (try dsimp only [BackS,C11] at hSw); go_simp; refine Came.value ?_ hS0; with_reducible rfl)
      try simp only [Act.put, List.setIfInBounds_toArray, List.set_cons_zero, List.set_cons_succ]
      refine wpDet_take (i := 13) (oi := _) (v := ?dv110) (by simp only [List.getElem?_toArray, List.getElem?_cons_zero, List.getElem?_cons_succ]; rfl) (by kernel_rfl) (by kernel_rfl) (by kernel_rfl) (Or.inl ⟨by rfl, ?dy110⟩) ?dr110
      case dy110 => (intro w hSw; have hS0 := hSw; (try dsimp only [BackS,C11] at hSw); go_simp; refine Came.value ?_ hS0; with_reducible rfl)
      try simp only [Act.put, List.setIfInBounds_toArray, List.set_cons_zero, List.set_cons_succ]
      refine wpDet_take (i := 14) (oi := _) (v := ?dv111) (by simp only [List.getElem?_toArray, List.getElem?_cons_zero, List.getElem?_cons_succ]; rfl) (by kernel_rfl) (by kernel_rfl) (by kernel_rfl) (Or.inl ⟨by rfl, ?dy111⟩) ?dr111
      case dy111 => (intro w hSw; have hS0 := hSw; (try dsimp only [BackS,C11] at hSw); go_simp; refine Came.value ?_ hS0; with_reducible rfl)
      try simp only [Act.put, List.setIfInBounds_toArray, List.set_cons_zero, List.set_cons_succ]
      refine wpDet_take (i := 15) (oi := _) (v := ?dv112) (by simp only [List.getElem?_toArray, List.getElem?_cons_zero, List.getElem?_cons_succ]; rfl) (by kernel_rfl) (by kernel_rfl) (by kernel_rfl) (Or.inl ⟨by rfl, ?dy112⟩) ?dr112
      case dy112 => (intro w hSw; have hS0 := hSw; (try dsimp only [BackS,C11] at hSw); go_simp; refine Came.value ?_ hS0; with_reducible rfl)
      try simp only [Act.put, List.setIfInBounds_toArray, List.set_cons_zero, List.set_cons_succ]
      refine wpDet_take (i := 16) (oi := _) (v := ?dv113) (by simp only [List.getElem?_toArray, List.getElem?_cons_zero, List.getElem?_cons_succ]; rfl) (by kernel_rfl) (by kernel_rfl) (by kernel_rfl) (Or.inl ⟨by rfl, ?dy113⟩) ?dr113
      case dy113 => (intro w hSw; have hS0 := hSw; (try dsimp only [BackS,C11] at hSw); go_simp; refine Came.value ?_ hS0; with_reducible rfl)
      try simp only [Act.put, List.setIfInBounds_toArray, List.set_cons_zero, List.set_cons_succ]
      refine wpDet_take (i := 17) (oi := _) (v := ?dv114) (by simp only [List.getElem?_toArray, List.getElem?_cons_zero, List.getElem?_cons_succ]; rfl) (by kernel_rfl) (by kernel_rfl) (by kernel_rfl) (Or.inl ⟨by rfl, ?dy114⟩) ?dr114
      case dy114 => (intro w hSw; have hS0 := hSw; (try dsimp only [BackS,C11] at hSw); go_simp; refine Came.value ?_ hS0; with_reducible rfl)
      try simp only [Act.put, List.setIfInBounds_toArray, List.set_cons_zero, List.set_cons_succ]
      refine wpDet_take (i := 18) (oi := _) (v := ?dv115) (by simp only [List.getElem?_toArray, List.getElem?_cons_zero, List.getElem?_cons_succ]; rfl) (by kernel_rfl) (by kernel_rfl) (by kernel_rfl) (Or.inl ⟨by rfl, ?dy115⟩) ?dr115
      case dy115 => (intro w hSw; have hS0 := hSw; (try dsimp only [BackS,C11] at hSw); go_simp; refine Came.value ?_ hS0; with_reducible rfl)
      try simp only [Act.put, List.setIfInBounds_toArray, List.set_cons_zero, List.set_cons_succ]
      refine wpDet_take (i := 19) (oi := _) (v := ?dv116) (by simp only [List.getElem?_toArray, List.getElem?_cons_zero, List.getElem?_cons_succ]; rfl) (by kernel_rfl) (by kernel_rfl) (by kernel_rfl) (Or.inl ⟨by rfl, ?dy116⟩) ?dr116
      case dy116 => (intro w hSw; have hS0 := hSw; (try dsimp only [BackS,C11] at hSw); go_simp; refine Came.value ?_ hS0; with_reducible rfl)
      try simp only [Act.put, List.setIfInBounds_toArray, List.set_cons_zero, List.set_cons_succ]
      refine wpDet_take (i := 20) (oi := _) (v := ?dv117) (by simp only [List.getElem?_toArray, List.getElem?_cons_zero, List.getElem?_cons_succ]; rfl) (by kernel_rfl) (by kernel_rfl) (by kernel_rfl) (Or.inl ⟨by rfl, ?dy117⟩) ?dr117
      case dy117 => (intro w hSw; have hS0 := hSw; (try dsimp only [BackS,C11] at hSw); go_simp; refine Came.value ?_ hS0; with_reducible rfl)
      try simp only [Act.put, List.setIfInBounds_toArray, List.set_cons_zero, List.set_cons_succ]
      refine wpDet_take (i := 21) (oi := _) (v := ?dv118) (by simp only [List.getElem?_toArray, List.getElem?_cons_zero, List.getElem?_cons_succ]; rfl) (by kernel_rfl) (by kernel_rfl) (by kernel_rfl) (Or.inl ⟨by rfl, ?dy118⟩) ?dr118
      case dy118 => (intro w hSw; have hS0 := hSw; (try dsimp only [BackS,C11] at hSw); go_simp; refine Came.value ?_ hS0; with_reducible rfl)
      try simp only [Act.put, List.setIfInBounds_toArray, List.set_cons_zero, List.set_cons_succ]
      refine wpDet_take (i := 22) (oi := _) (v := undef) (by simp only [List.getElem?_toArray, List.getElem?_cons_zero, List.getElem?_cons_succ]; rfl) (by kernel_rfl) (by kernel_rfl) (by kernel_rfl) (Or.inr ⟨by rfl, rfl⟩) ?_
      try simp only [Act.put, List.setIfInBounds_toArray, List.set_cons_zero, List.set_cons_succ]
      refine wpDet_take (i := 23) (oi := _) (v := undef) (by simp only [List.getElem?_toArray, List.getElem?_cons_zero, List.getElem?_cons_succ]; rfl) (by kernel_rfl) (by kernel_rfl) (by kernel_rfl) (Or.inr ⟨by rfl, rfl⟩) ?_
      try simp only [Act.put, List.setIfInBounds_toArray, List.set_cons_zero, List.set_cons_succ]
      refine wpDet_take (i := 24) (oi := _) (v := undef) (by simp only [List.getElem?_toArray, List.getElem?_cons_zero, List.getElem?_cons_succ]; rfl) (by kernel_rfl) (by kernel_rfl) (by kernel_rfl) (Or.inr ⟨by rfl, rfl⟩) ?_
      try simp only [Act.put, List.setIfInBounds_toArray, List.set_cons_zero, List.set_cons_succ]
      refine wpDet_take (i := 25) (oi := _) (v := undef) (by simp only [List.getElem?_toArray, List.getElem?_cons_zero, List.getElem?_cons_succ]; rfl) (by kernel_rfl) (by kernel_rfl) (by kernel_rfl) (Or.inr ⟨by rfl, rfl⟩) ?_
      try simp only [Act.put, List.setIfInBounds_toArray, List.set_cons_zero, List.set_cons_succ]
      refine wpDet_take (i := 26) (oi := _) (v := undef) (by simp only [List.getElem?_toArray, List.getElem?_cons_zero, List.getElem?_cons_succ]; rfl) (by kernel_rfl) (by kernel_rfl) (by kernel_rfl) (Or.inr ⟨by rfl, rfl⟩) ?_
      try simp only [Act.put, List.setIfInBounds_toArray, List.set_cons_zero, List.set_cons_succ]
      refine wpDet_take (i := 27) (oi := _) (v := undef) (by simp only [List.getElem?_toArray, List.getElem?_cons_zero, List.getElem?_cons_succ]; rfl) (by kernel_rfl) (by kernel_rfl) (by kernel_rfl) (Or.inr ⟨by rfl, rfl⟩) ?_
      try simp only [Act.put, List.setIfInBounds_toArray, List.set_cons_zero, List.set_cons_succ]
      refine wpDet_take (i := 28) (oi := _) (v := undef) (by simp only [List.getElem?_toArray, List.getElem?_cons_zero, List.getElem?_cons_succ]; rfl) (by kernel_rfl) (by kernel_rfl) (by kernel_rfl) (Or.inr ⟨by rfl, rfl⟩) ?_
      try simp only [Act.put, List.setIfInBounds_toArray, List.set_cons_zero, List.set_cons_succ]
      refine wpDet_take (i := 29) (oi := _) (v := ?dv126) (by simp only [List.getElem?_toArray, List.getElem?_cons_zero, List.getElem?_cons_succ]; rfl) (by kernel_rfl) (by kernel_rfl) (by kernel_rfl) (Or.inl ⟨by rfl, ?dy126⟩) ?dr126
      case dy126 => (intro w hSw; have hS0 := hSw; (try dsimp only [BackS,C11] at hSw); go_simp; refine Came.value ?_ hS0; with_reducible rfl)
      try simp only [Act.put, List.setIfInBounds_toArray, List.set_cons_zero, List.set_cons_succ]
      refine wpDet_take (i := 30) (oi := _) (v := ?dv127) (by simp only [List.getElem?_toArray, List.getElem?_cons_zero, List.getElem?_cons_succ]; rfl) (by kernel_rfl) (by kernel_rfl) (by kernel_rfl) (Or.inl ⟨by rfl, ?dy127⟩) ?dr127
      case dy127 => (intro w hSw; have hS0 := hSw; (try dsimp only [BackS,C11] at hSw); go_simp; refine Came.value ?_ hS0; with_reducible rfl)
      try simp only [Act.put, List.setIfInBounds_toArray, List.set_cons_zero, List.set_cons_succ]
      refine wpDet_take (i := 31) (oi := _) (v := ?dv128) (by simp only [List.getElem?_toArray, List.getElem?_cons_zero, List.getElem?_cons_succ]; rfl) (by kernel_rfl) (by kernel_rfl) (by kernel_rfl) (Or.inl ⟨by rfl, ?dy128⟩) ?dr128
      case dy128 => (intro w hSw; have hS0 := hSw; (try dsimp only [BackS,C11] at hSw); go_simp; refine Came.value ?_ hS0; with_reducible rfl)
      try simp only [Act.put, List.setIfInBounds_toArray, List.set_cons_zero, List.set_cons_succ]
      refine wpDet_done (by kernel_rfl) ?_ _
      rintro w20 hS
      have HF20 := Lib.hid (FQ.out.trans hS.1)
      clear hS
      go_wp2
      go_ret
      exact ⟨rfl, HF20.out.grown (by simp)⟩
end Go.Proofs.YtpeocdcciecpoaaDoor
