/- The ledger's stage law: walked. -/
import Derived.Test.YtldheaamcnmlgaaGreatLgS1
import Derived.Test.YtldheaamcnmlgaaGreatLgC15
import Derived.Test.YtldheaamcnmlgaaGreatGLc
import Derived.Test.YtldheaamcnmlgaaGreatGLg
import Derived.Test.YtldheaamcnmlgaaGreatGLj
namespace Go.Proofs.YtldheaamcnmlgaaGreat
open Go.RowKit Fm

theorem hi_any {w : World} {v : Value} {l : List Int} (h : HInts w v l) : ∃ a n c, v = .slice a n c := by
  obtain ⟨a, c, rfl, _⟩ := h; exact ⟨_, _, _, rfl⟩
theorem he_any {w : World} {v : Value} {l : List En} (h : HE w v l) : ∃ a n c, v = .slice a n c := by
  obtain ⟨a, c, rfl, _⟩ := h; exact ⟨_, _, _, rfl⟩
/-- A ring in its box. -/
structure BX (w : World) (g : Nat) (R : Rg) (vm ve : Value) : Prop where
  box : w.heap[g]? = some (.cells #[.int .i64 R.co, .int .i64 R.fo, .int .i64 R.ho, vm, ve] 27 (0, 0))
  hm : HInts w vm R.ms
  he : HE w ve R.es
theorem BX.keep {w w' : World} {g : Nat} {R : Rg} {vm ve : Value} (h : BX w g R vm ve) (k : Fr w w' []) : BX w' g R vm ve := ⟨k.heap h.box (by simp), h.hm.keep k, h.he.keep k⟩
theorem BX.c5 {w : World} {g : Nat} {R : Rg} {vm ve : Value} (h : BX w g R vm ve) : C5 g (.int .i64 R.co) (.int .i64 R.fo) (.int .i64 R.ho) vm ve w := row5 h.box
/-- Three rings in their boxes. -/
def SSy (V : World) (g : Nat) (r : Rg) (vm ve : Value) (h : Nat) (q : Rg) (vm' ve' : Value) (k : Nat) (s : Rg) (um ue : Value) (a : World) : Prop :=
  Fr V a [] ∧ C5 g (.int .i64 r.co) (.int .i64 r.fo) (.int .i64 r.ho) vm ve a ∧ C5 h (.int .i64 q.co) (.int .i64 q.fo) (.int .i64 q.ho) vm' ve' a ∧ C5 k (.int .i64 s.co) (.int .i64 s.fo) (.int .i64 s.ho) um ue a
theorem lsmall {r : Rg} (h : LightR r) : Small r := ⟨by have := h.2.1; omega, by have := h.2.2.1; omega, fun e he => by have := h.1 e he; omega⟩
theorem says_aw {r : Rg} (h : LightR r) : ∀ e ∈ r.es, -1 ≤ e.aw := fun e he => by
  have hv := ring_val h.2.2.2
  rcases (hv.ent e he).aw with q | q
  · omega
  · have := hv.cars _ q; unfold Car at this; omega
set_option maxHeartbeats 8000000 in
set_option maxRecDepth 100000 in
theorem lsays_true (r : Rg) (vm ve : Value) (q : Rg) (vm' ve' : Value) (v2 : Value) (L : List La) (car : Int) (b c : Int × Int) (v6 : Value) (l6 : List Int) (w : World) (hm : HInts w vm r.ms) (he : HE w ve r.es) (hh : -9223372036854775808 ≤ r.ho ∧ r.ho ≤ 9223372036854775807) (hm' : HInts w vm' q.ms) (he' : HE w ve' q.es) (h2 : HLs w v2 L) (h6 : HInts w v6 l6) :
    Calls Tryz.prog 3 #[rgV r vm ve, rgV q vm' ve', v2, .int .i64 car, bidV b, .agg #[.int .i64 c.1, .int .i64 c.2], v6] w fun e w' => e = .returned (.bool true) ∧ Fr w w' [] := by
  obtain ⟨lb, hlb⟩ : ∃ b, b = decide (LightR r) := ⟨_, rfl⟩
  obtain ⟨lq, hlq⟩ : ∃ b, b = decide (LightR q) := ⟨_, rfl⟩
  have HLB := Lib.hid hlb
  have HLQ := Lib.hid hlq
  obtain ⟨b1, b2⟩ := b
  obtain ⟨f, d⟩ := c
  have HH := Lib.hid hh
  have H2 := Lib.hid h2
  have H6 := Lib.hid h6
  obtain ⟨p2, c2, rfl, _, q2, _⟩ := h2
  obtain ⟨p6, c6, rfl, _, q6, _⟩ := h6
  obtain ⟨n2, hn2⟩ : ∃ n, n = L.length := ⟨_, rfl⟩
  obtain ⟨n6, hn6⟩ : ∃ n, n = l6.length := ⟨_, rfl⟩
  have HN2 := Lib.hid hn2
  have HN6 := Lib.hid hn6
  rw [← hn2] at H2 ⊢
  rw [← hn6] at H6 ⊢
  have HKW := Lib.hid (show ∀ W, Fr w W [] → (HInts W vm r.ms ∧ HE W ve r.es) ∧ (HInts W vm' q.ms ∧ HE W ve' q.es) ∧ HLs W (.slice p2 n2 c2) L ∧ HInts W (.slice p6 n6 c6) l6 from fun W hW => ⟨⟨hm.keep hW, he.keep hW⟩, ⟨hm'.keep hW, he'.keep hW⟩, H2.out.keep hW, H6.out.keep hW⟩)
  clear hn2 hn6 q2 q6 hm he hm' he' hh hlb hlq H2 H6
  have FI := Lib.hid (fun W => lfirst_any lg_is W)
  have H4 := Lib.hid (four_boxes w (.cells #[.int .i64 r.co, .int .i64 r.fo, .int .i64 r.ho, vm, ve] 27) (.cells #[.int .i64 q.co, .int .i64 q.fo, .int .i64 q.ho, vm', ve'] 27) (.cells #[.int .i64 b1, .int .i64 b2] 30) (.cells #[.int .i64 f, .int .i64 d] 32))
  unfold rgV bidV
  dsimp only
  go_enter Tryz.func3, Tryz.ntmps3
  go_upto_region 1 with fail
  generalize (((w.alloc _).alloc _).alloc _).alloc _ = V at H4 ⊢
  obtain ⟨g, hg⟩ : ∃ g, g = w.heap.size := ⟨_, rfl⟩
  rw [← hg] at H4 ⊢
  clear hg
  have HF0 := Lib.hid H4.out.1
  have HK := Lib.hid (fun W (hW : Fr V W []) => HKW.out W (HF0.out.trans hW))
  have HB7 := Lib.hid (fun W (hW : Fr V W []) => (show BX W g r vm ve from ⟨hW.heap H4.out.2.2.1 (by simp), (HK.out W hW).1.1, (HK.out W hW).1.2⟩))
  have HB8 := Lib.hid (fun W (hW : Fr V W []) => (show BX W (g + 1) q vm' ve' from ⟨hW.heap H4.out.2.2.2.1 (by simp), (HK.out W hW).2.1.1, (HK.out W hW).2.1.2⟩))
  have HBC := Lib.hid (fun W (hW : Fr V W []) => And.intro (brow (hW.heap H4.out.2.2.2.2.1 (by simp))) (brow (hW.heap H4.out.2.2.2.2.2 (by simp))))
  clear H4 HKW
  go_wp2_with fail
  with_reducible refine (FI.out _).mono ?_
  rintro e w1 ⟨rfl, hf⟩
  have HV := Lib.hid hf
  clear hf FI
  obtain ⟨y0, y1, y2, y3, y4⟩ := (HB7.out w1 HV.out).c5
  have LI := Lib.hid (light_any r vm ve lb HLB.out w1 (HK.out w1 HV.out).1.1 (HK.out w1 HV.out).1.2)
  unfold rgV at LI
  go_wp2_with fail
  with_reducible refine (LI.out).mono ?_
  rintro e w2 ⟨rfl, hf⟩
  replace HV := Lib.hid (HV.out.trans hf)
  clear hf LI y0 y1 y2 y3 y4
  cases lb
  · go_wp2
    go_ret
    exact ⟨rfl, HF0.out.trans HV.out⟩
  obtain ⟨y0, y1, y2, y3, y4⟩ := (HB8.out w2 HV.out).c5
  have LI := Lib.hid (light_any q vm' ve' lq HLQ.out w2 (HK.out w2 HV.out).2.1.1 (HK.out w2 HV.out).2.1.2)
  unfold rgV at LI
  go_wp2_with fail
  with_reducible refine (LI.out).mono ?_
  rintro e w3 ⟨rfl, hf⟩
  replace HV := Lib.hid (HV.out.trans hf)
  clear hf LI y0 y1 y2 y3 y4
  cases lq
  · go_wp2
    go_ret
    exact ⟨rfl, HF0.out.trans HV.out⟩
  by_cases z2 : 30 < n2
  · have d2 : decide ((30 : Int) < (n2 : Int)) = true := decide_eq_true (by omega)
    go_wp2
    go_ret
    exact ⟨rfl, HF0.out.trans HV.out⟩
  have d2 : decide ((30 : Int) < (n2 : Int)) = false := decide_eq_false (by omega)
  by_cases z6 : 16 < n6
  · have d6 : decide ((16 : Int) < (n6 : Int)) = true := decide_eq_true (by omega)
    go_wp2
    go_ret
    exact ⟨rfl, HF0.out.trans HV.out⟩
  have d6 : decide ((16 : Int) < (n6 : Int)) = false := decide_eq_false (by omega)
  have HLR := Lib.hid (of_decide_eq_true HLB.out.symm : LightR r)
  have HLL := Lib.hid (of_decide_eq_true HLQ.out.symm : LightR q)
  have HS := Lib.hid (lsmall HLR.out)
  have HSB := Lib.hid (small_bs HS.out)
  have HL30 : Hid (L.length ≤ 30) := Lib.hid (by rw [← HN2.out]; omega)
  have HM16 : Hid (l6.length ≤ 16) := Lib.hid (by rw [← HN6.out]; omega)
  clear HLB HLQ z2 z6
  obtain ⟨X, hX⟩ : ∃ x, x = bidR r (b1, b2) (placeE r.es f d) := ⟨_, rfl⟩
  obtain ⟨xb, hxb⟩ : ∃ x, x = bidRB r (b1, b2) (placeE r.es f d) := ⟨_, rfl⟩
  have BD := Lib.hid (fun W (hW : Fr V W []) => lg_is.bid r vm ve (b1, b2) f d W (HK.out W hW).1.1 (HK.out W hW).1.2 HS.out)
  have RB' := Lib.hid (fun W (hW : Fr V W []) => rbid_any r vm ve (b1, b2) f d W (HK.out W hW).1.1 (HK.out W hW).1.2 HSB.out.1 HSB.out.2.1 HSB.out.2.2)
  rw [← hX, ← hxb] at BD RB'
  unfold rgV bidV at BD RB'
  dsimp only at BD RB'
  clear hX hxb
  obtain ⟨Y, hY⟩ : ∃ x, x = awardR r := ⟨_, rfl⟩
  obtain ⟨yw, hyw⟩ : ∃ x, x = wonR r := ⟨_, rfl⟩
  have AW := Lib.hid (fun W (hW : Fr V W []) => lg_is.award r vm ve W (HK.out W hW).1.1 (HK.out W hW).1.2 HS.out)
  have RA := Lib.hid (fun W (hW : Fr V W []) => raward_any r vm ve W (HK.out W hW).1.1 (HK.out W hW).1.2 HSB.out.1 HSB.out.2.1 HSB.out.2.2)
  unfold GAward at AW
  unfold AwardP at RA
  rw [← hY, ← hyw] at AW RA
  unfold rgV at AW RA
  clear hY hyw
  obtain ⟨Z, hZ⟩ : ∃ x, x = passR r := ⟨_, rfl⟩
  obtain ⟨zb, hzb⟩ : ∃ x, x = passB r := ⟨_, rfl⟩
  have PS := Lib.hid (fun W (hW : Fr V W []) => lg_is.pass r vm ve W (HK.out W hW).1.1 (HK.out W hW).1.2 HS.out HH.out)
  have RP' := Lib.hid (fun W (hW : Fr V W []) => rpass_any r vm ve W (HK.out W hW).1.1 (HK.out W hW).1.2 HSB.out.1 HSB.out.2.1 HSB.out.2.2 HH.out)
  rw [← hZ, ← hzb] at PS RP'
  unfold rgV at PS RP'
  clear hZ hzb
  have CR := Lib.hid (fun W (hW : Fr V W []) => copyR_any r vm ve W (HK.out W hW).1.1 (HK.out W hW).1.2 HSB.out.1 HSB.out.2.1 HSB.out.2.2)
  unfold rgV at CR
  obtain ⟨y0, y1, y2, y3, y4⟩ := (HB7.out w3 HV.out).c5
  go_wp2_with fail
  with_reducible refine (CR.out _ HV.out).mono ?_
  rintro e w12 ⟨u, rfl, hu⟩
  have hf : Fr w3 w12 [] := by obtain ⟨_, _, _, _, _, _, _, h⟩ := hu; exact h
  obtain ⟨um, ue, rfl, h1, h2⟩ := hu.hr
  clear hu
  have HC1 := Lib.hid h1
  have HC2 := Lib.hid h2
  obtain ⟨sa1, sa2, sa3, rfl⟩ := hi_any h1
  obtain ⟨ta1, ta2, ta3, rfl⟩ := he_any h2
  unfold rgV
  have HBX := Lib.hid (box_ring w12 (.int .i64 r.co) (.int .i64 r.fo) (.int .i64 r.ho) (.slice sa1 sa2 sa3) (.slice ta1 ta2 ta3))
  obtain ⟨ga, hg⟩ : ∃ g, g = w12.heap.size := ⟨_, rfl⟩
  rw [← hg] at HBX
  clear h1 h2 y0 y1 y2 y3 y4
  go_upto_region 7 with fail
  rw [← hg]
  generalize World.alloc w12 _ = W6 at HBX ⊢
  clear hg
  have HGga := Lib.hid (BX.mk HBX.out.1 (HC1.out.keep HBX.out.2) (HC2.out.keep HBX.out.2))
  replace HV := Lib.hid (HV.out.trans (hf.trans HBX.out.2))
  clear HC1 HC2 HBX hf CR
  obtain ⟨y0, y1, y2, y3, y4⟩ := (HB7.out W6 HV.out).c5
  obtain ⟨⟨k0, k1⟩, ⟨k2, k3⟩⟩ := HBC.out W6 HV.out
  go_wp2_with fail
  with_reducible refine (BD.out _ HV.out).mono ?_
  rintro e w14 ⟨u, rfl, x, rfl, ⟨um, ue, rfl, h1, h2⟩, hf⟩
  have HC1 := Lib.hid h1
  have HC2 := Lib.hid h2
  obtain ⟨sb1, sb2, sb3, rfl⟩ := hi_any h1
  obtain ⟨tb1, tb2, tb3, rfl⟩ := he_any h2
  unfold rgV
  have HBX := Lib.hid (box_ring w14 (.int .i64 X.co) (.int .i64 X.fo) (.int .i64 X.ho) (.slice sb1 sb2 sb3) (.slice tb1 tb2 tb3))
  obtain ⟨gb, hg⟩ : ∃ g, g = w14.heap.size := ⟨_, rfl⟩
  rw [← hg] at HBX
  clear h1 h2 y0 y1 y2 y3 y4 k0 k1 k2 k3
  go_upto_region 8 with fail
  rw [← hg]
  generalize World.alloc w14 _ = W7 at HBX ⊢
  clear hg
  have HGgb := Lib.hid (BX.mk HBX.out.1 (HC1.out.keep HBX.out.2) (HC2.out.keep HBX.out.2))
  replace HV := Lib.hid (HV.out.trans (hf.trans HBX.out.2))
  replace HGga := Lib.hid (HGga.out.keep (hf.trans HBX.out.2))
  clear HC1 HC2 HBX hf BD
  obtain ⟨y0, y1, y2, y3, y4⟩ := (HB7.out W7 HV.out).c5
  obtain ⟨⟨k0, k1⟩, ⟨k2, k3⟩⟩ := HBC.out W7 HV.out
  go_wp2_with fail
  with_reducible refine (RB'.out _ HV.out).mono ?_
  rintro e w16 ⟨u, rfl, x, rfl, ⟨um, ue, rfl, h1, h2⟩, hf⟩
  have HC1 := Lib.hid h1
  have HC2 := Lib.hid h2
  obtain ⟨sc1, sc2, sc3, rfl⟩ := hi_any h1
  obtain ⟨tc1, tc2, tc3, rfl⟩ := he_any h2
  unfold rgV
  have HBX := Lib.hid (box_ring w16 (.int .i64 X.co) (.int .i64 X.fo) (.int .i64 X.ho) (.slice sc1 sc2 sc3) (.slice tc1 tc2 tc3))
  obtain ⟨gc, hg⟩ : ∃ g, g = w16.heap.size := ⟨_, rfl⟩
  rw [← hg] at HBX
  clear h1 h2 y0 y1 y2 y3 y4 k0 k1 k2 k3
  go_upto_region 9 with fail
  rw [← hg]
  generalize World.alloc w16 _ = W8 at HBX ⊢
  clear hg
  have HGgc := Lib.hid (BX.mk HBX.out.1 (HC1.out.keep HBX.out.2) (HC2.out.keep HBX.out.2))
  replace HV := Lib.hid (HV.out.trans (hf.trans HBX.out.2))
  replace HGga := Lib.hid (HGga.out.keep (hf.trans HBX.out.2))
  replace HGgb := Lib.hid (HGgb.out.keep (hf.trans HBX.out.2))
  clear HC1 HC2 HBX hf RB'
  obtain ⟨y0, y1, y2, y3, y4⟩ := (HB7.out W8 HV.out).c5
  go_wp2_with fail
  with_reducible refine (AW.out _ HV.out).mono ?_
  rintro e w18 ⟨u, rfl, x, v, rfl, ⟨um, ue, rfl, h1, h2⟩, hv, hf⟩
  have HC1 := Lib.hid h1
  have HC2 := Lib.hid h2
  obtain ⟨sd1, sd2, sd3, rfl⟩ := hi_any h1
  obtain ⟨td1, td2, td3, rfl⟩ := he_any h2
  have HVgd := Lib.hid hv
  obtain ⟨gdv1, gdv2, gdv3, rfl⟩ := he_any hv
  clear hv
  unfold rgV
  have HBX := Lib.hid (box_ring w18 (.int .i64 Y.co) (.int .i64 Y.fo) (.int .i64 Y.ho) (.slice sd1 sd2 sd3) (.slice td1 td2 td3))
  obtain ⟨gd, hg⟩ : ∃ g, g = w18.heap.size := ⟨_, rfl⟩
  rw [← hg] at HBX
  clear h1 h2 y0 y1 y2 y3 y4
  go_upto_region 10 with fail
  rw [← hg]
  generalize World.alloc w18 _ = W9 at HBX ⊢
  clear hg
  have HGgd := Lib.hid (BX.mk HBX.out.1 (HC1.out.keep HBX.out.2) (HC2.out.keep HBX.out.2))
  replace HV := Lib.hid (HV.out.trans (hf.trans HBX.out.2))
  replace HGga := Lib.hid (HGga.out.keep (hf.trans HBX.out.2))
  replace HGgb := Lib.hid (HGgb.out.keep (hf.trans HBX.out.2))
  replace HGgc := Lib.hid (HGgc.out.keep (hf.trans HBX.out.2))
  replace HVgd := Lib.hid (HVgd.out.keep HBX.out.2)
  clear HC1 HC2 HBX hf AW
  obtain ⟨y0, y1, y2, y3, y4⟩ := (HB7.out W9 HV.out).c5
  go_wp2_with fail
  with_reducible refine (RA.out _ HV.out).mono ?_
  rintro e w20 ⟨u, rfl, x, v, rfl, ⟨um, ue, rfl, h1, h2⟩, hv, hf⟩
  have HC1 := Lib.hid h1
  have HC2 := Lib.hid h2
  obtain ⟨se1, se2, se3, rfl⟩ := hi_any h1
  obtain ⟨te1, te2, te3, rfl⟩ := he_any h2
  have HVge := Lib.hid hv
  obtain ⟨gev1, gev2, gev3, rfl⟩ := he_any hv
  clear hv
  unfold rgV
  have HBX := Lib.hid (box_ring w20 (.int .i64 Y.co) (.int .i64 Y.fo) (.int .i64 Y.ho) (.slice se1 se2 se3) (.slice te1 te2 te3))
  obtain ⟨ge, hg⟩ : ∃ g, g = w20.heap.size := ⟨_, rfl⟩
  rw [← hg] at HBX
  clear h1 h2 y0 y1 y2 y3 y4
  go_upto_region 11 with fail
  rw [← hg]
  generalize World.alloc w20 _ = W10 at HBX ⊢
  clear hg
  have HGge := Lib.hid (BX.mk HBX.out.1 (HC1.out.keep HBX.out.2) (HC2.out.keep HBX.out.2))
  replace HV := Lib.hid (HV.out.trans (hf.trans HBX.out.2))
  replace HGga := Lib.hid (HGga.out.keep (hf.trans HBX.out.2))
  replace HGgb := Lib.hid (HGgb.out.keep (hf.trans HBX.out.2))
  replace HGgc := Lib.hid (HGgc.out.keep (hf.trans HBX.out.2))
  replace HGgd := Lib.hid (HGgd.out.keep (hf.trans HBX.out.2))
  replace HVgd := Lib.hid (HVgd.out.keep (hf.trans HBX.out.2))
  replace HVge := Lib.hid (HVge.out.keep HBX.out.2)
  clear HC1 HC2 HBX hf RA
  obtain ⟨y0, y1, y2, y3, y4⟩ := (HB7.out W10 HV.out).c5
  go_wp2_with fail
  with_reducible refine (PS.out _ HV.out).mono ?_
  rintro e w22 ⟨u, rfl, x, rfl, ⟨um, ue, rfl, h1, h2⟩, hf⟩
  have HC1 := Lib.hid h1
  have HC2 := Lib.hid h2
  obtain ⟨sf1, sf2, sf3, rfl⟩ := hi_any h1
  obtain ⟨tf1, tf2, tf3, rfl⟩ := he_any h2
  unfold rgV
  have HBX := Lib.hid (box_ring w22 (.int .i64 Z.co) (.int .i64 Z.fo) (.int .i64 Z.ho) (.slice sf1 sf2 sf3) (.slice tf1 tf2 tf3))
  obtain ⟨gf, hg⟩ : ∃ g, g = w22.heap.size := ⟨_, rfl⟩
  rw [← hg] at HBX
  clear h1 h2 y0 y1 y2 y3 y4
  go_upto_region 12 with fail
  rw [← hg]
  generalize World.alloc w22 _ = W11 at HBX ⊢
  clear hg
  have HGgf := Lib.hid (BX.mk HBX.out.1 (HC1.out.keep HBX.out.2) (HC2.out.keep HBX.out.2))
  replace HV := Lib.hid (HV.out.trans (hf.trans HBX.out.2))
  replace HGga := Lib.hid (HGga.out.keep (hf.trans HBX.out.2))
  replace HGgb := Lib.hid (HGgb.out.keep (hf.trans HBX.out.2))
  replace HGgc := Lib.hid (HGgc.out.keep (hf.trans HBX.out.2))
  replace HGgd := Lib.hid (HGgd.out.keep (hf.trans HBX.out.2))
  replace HGge := Lib.hid (HGge.out.keep (hf.trans HBX.out.2))
  replace HVgd := Lib.hid (HVgd.out.keep (hf.trans HBX.out.2))
  replace HVge := Lib.hid (HVge.out.keep (hf.trans HBX.out.2))
  clear HC1 HC2 HBX hf PS
  obtain ⟨y0, y1, y2, y3, y4⟩ := (HB7.out W11 HV.out).c5
  go_wp2_with fail
  with_reducible refine (RP'.out _ HV.out).mono ?_
  rintro e w24 ⟨u, rfl, x, rfl, ⟨um, ue, rfl, h1, h2⟩, hf⟩
  have HC1 := Lib.hid h1
  have HC2 := Lib.hid h2
  obtain ⟨sh1, sh2, sh3, rfl⟩ := hi_any h1
  obtain ⟨th1, th2, th3, rfl⟩ := he_any h2
  unfold rgV
  have HBX := Lib.hid (box_ring w24 (.int .i64 Z.co) (.int .i64 Z.fo) (.int .i64 Z.ho) (.slice sh1 sh2 sh3) (.slice th1 th2 th3))
  obtain ⟨gh, hg⟩ : ∃ g, g = w24.heap.size := ⟨_, rfl⟩
  rw [← hg] at HBX
  clear h1 h2 y0 y1 y2 y3 y4
  go_upto_region 13 with fail
  rw [← hg]
  generalize World.alloc w24 _ = W12 at HBX ⊢
  clear hg
  have HGgh := Lib.hid (BX.mk HBX.out.1 (HC1.out.keep HBX.out.2) (HC2.out.keep HBX.out.2))
  replace HV := Lib.hid (HV.out.trans (hf.trans HBX.out.2))
  replace HGga := Lib.hid (HGga.out.keep (hf.trans HBX.out.2))
  replace HGgb := Lib.hid (HGgb.out.keep (hf.trans HBX.out.2))
  replace HGgc := Lib.hid (HGgc.out.keep (hf.trans HBX.out.2))
  replace HGgd := Lib.hid (HGgd.out.keep (hf.trans HBX.out.2))
  replace HGge := Lib.hid (HGge.out.keep (hf.trans HBX.out.2))
  replace HGgf := Lib.hid (HGgf.out.keep (hf.trans HBX.out.2))
  replace HVgd := Lib.hid (HVgd.out.keep (hf.trans HBX.out.2))
  replace HVge := Lib.hid (HVge.out.keep (hf.trans HBX.out.2))
  clear HC1 HC2 HBX hf RP'
  have dxb : (xb != xb) = false := by simp
  have dzb : (zb != zb) = false := by simp
  obtain ⟨y0, y1, y2, y3, y4⟩ := HGgb.out.c5
  obtain ⟨x0, x1, x2, x3, x4⟩ := HGgc.out.c5
  have SR := Lib.hid (rsameRing_any X X _ _ _ _ true (iyes rfl) W12 HGgb.out.hm HGgb.out.he HGgc.out.hm HGgc.out.he)
  unfold rgV at SR
  go_wp2_with fail
  with_reducible refine (SR.out).mono ?_
  rintro e Wu1 ⟨rfl, hf⟩
  clear SR y0 y1 y2 y3 y4 x0 x1 x2 x3 x4
  replace HV := Lib.hid (HV.out.trans hf)
  replace HGga := Lib.hid (HGga.out.keep hf)
  replace HGgb := Lib.hid (HGgb.out.keep hf)
  replace HGgc := Lib.hid (HGgc.out.keep hf)
  replace HGgd := Lib.hid (HGgd.out.keep hf)
  replace HGge := Lib.hid (HGge.out.keep hf)
  replace HGgf := Lib.hid (HGgf.out.keep hf)
  replace HGgh := Lib.hid (HGgh.out.keep hf)
  replace HVgd := Lib.hid (HVgd.out.keep hf)
  replace HVge := Lib.hid (HVge.out.keep hf)
  clear hf
  obtain ⟨y0, y1, y2, y3, y4⟩ := HGgd.out.c5
  obtain ⟨x0, x1, x2, x3, x4⟩ := HGge.out.c5
  have SR := Lib.hid (rsameRing_any Y Y _ _ _ _ true (iyes rfl) Wu1 HGgd.out.hm HGgd.out.he HGge.out.hm HGge.out.he)
  unfold rgV at SR
  go_wp2_with fail
  with_reducible refine (SR.out).mono ?_
  rintro e Wu2 ⟨rfl, hf⟩
  clear SR y0 y1 y2 y3 y4 x0 x1 x2 x3 x4
  replace HV := Lib.hid (HV.out.trans hf)
  replace HGga := Lib.hid (HGga.out.keep hf)
  replace HGgb := Lib.hid (HGgb.out.keep hf)
  replace HGgc := Lib.hid (HGgc.out.keep hf)
  replace HGgd := Lib.hid (HGgd.out.keep hf)
  replace HGge := Lib.hid (HGge.out.keep hf)
  replace HGgf := Lib.hid (HGgf.out.keep hf)
  replace HGgh := Lib.hid (HGgh.out.keep hf)
  replace HVgd := Lib.hid (HVgd.out.keep hf)
  replace HVge := Lib.hid (HVge.out.keep hf)
  clear hf
  have SE := Lib.hid (rsameEnts_any _ yw _ yw Wu2 HVgd.out HVge.out true (iyes rfl))
  go_wp2_with fail
  with_reducible refine (SE.out).mono ?_
  rintro e WuE ⟨rfl, hf⟩
  clear SE
  replace HV := Lib.hid (HV.out.trans hf)
  replace HGga := Lib.hid (HGga.out.keep hf)
  replace HGgb := Lib.hid (HGgb.out.keep hf)
  replace HGgc := Lib.hid (HGgc.out.keep hf)
  replace HGgd := Lib.hid (HGgd.out.keep hf)
  replace HGge := Lib.hid (HGge.out.keep hf)
  replace HGgf := Lib.hid (HGgf.out.keep hf)
  replace HGgh := Lib.hid (HGgh.out.keep hf)
  replace HVgd := Lib.hid (HVgd.out.keep hf)
  replace HVge := Lib.hid (HVge.out.keep hf)
  clear hf
  obtain ⟨y0, y1, y2, y3, y4⟩ := HGgf.out.c5
  obtain ⟨x0, x1, x2, x3, x4⟩ := HGgh.out.c5
  have SR := Lib.hid (rsameRing_any Z Z _ _ _ _ true (iyes rfl) WuE HGgf.out.hm HGgf.out.he HGgh.out.hm HGgh.out.he)
  unfold rgV at SR
  go_wp2_with fail
  with_reducible refine (SR.out).mono ?_
  rintro e Wu3 ⟨rfl, hf⟩
  clear SR y0 y1 y2 y3 y4 x0 x1 x2 x3 x4
  replace HV := Lib.hid (HV.out.trans hf)
  replace HGga := Lib.hid (HGga.out.keep hf)
  replace HGgb := Lib.hid (HGgb.out.keep hf)
  replace HGgc := Lib.hid (HGgc.out.keep hf)
  replace HGgd := Lib.hid (HGgd.out.keep hf)
  replace HGge := Lib.hid (HGge.out.keep hf)
  replace HGgf := Lib.hid (HGgf.out.keep hf)
  replace HGgh := Lib.hid (HGgh.out.keep hf)
  replace HVgd := Lib.hid (HVgd.out.keep hf)
  replace HVge := Lib.hid (HVge.out.keep hf)
  clear hf
  clear dxb dzb
  have HSX := Lib.hid (fun W (hW : Fr V W []) (hg : BX W ga r (.slice sa1 sa2 sa3) (.slice ta1 ta2 ta3)) => (show SSy V g r vm ve (g + 1) q vm' ve' ga r (.slice sa1 sa2 sa3) (.slice ta1 ta2 ta3) W from ⟨hW, (HB7.out W hW).c5, (HB8.out W hW).c5, hg.c5⟩))
  have PG := Lib.hid (fun W (hW : Fr V W []) => lg_is.purge r vm ve _ L W (HK.out W hW).1.1 (HK.out W hW).1.2 HS.out (HK.out W hW).2.2.1 (by have := HL30.out; omega))
  have RPG := Lib.hid (fun W (hW : Fr V W []) => rpurge_any r vm ve _ L W (HK.out W hW).1.1 (HK.out W hW).1.2 HSB.out.1 HSB.out.2.1 HSB.out.2.2 (HK.out W hW).2.2.1)
  have AD := Lib.hid (fun W (hW : Fr V W []) => lg_is.add r vm ve _ L W (HK.out W hW).1.1 (HK.out W hW).1.2 HS.out (HK.out W hW).2.2.1 (by have := HL30.out; omega))
  have RAD := Lib.hid (fun W (hW : Fr V W []) => radd_any r vm ve _ L W (HK.out W hW).1.1 (HK.out W hW).1.2 HSB.out.1 (by have := HLR.out.2.2.1; omega) HSB.out.2.2 (HK.out W hW).2.2.1 (by have := HL30.out; omega))
  have WN := Lib.hid (fun W (hW : Fr V W []) => lg_is.wants r vm ve car W (HK.out W hW).1.1 (HK.out W hW).1.2 HS.out)
  have RWN := Lib.hid (fun W (hW : Fr V W []) => rwants_any r vm ve car W (HK.out W hW).1.1 (HK.out W hW).1.2 HSB.out.1 HSB.out.2.1 HSB.out.2.2)
  have MN := Lib.hid (fun W (hW : Fr V W []) => lg_is.mine r vm ve car W (HK.out W hW).1.1 (HK.out W hW).1.2 HS.out (says_aw HLR.out))
  have RMN := Lib.hid (fun W (hW : Fr V W []) => rmine_any r vm ve car W (HK.out W hW).1.1 (HK.out W hW).1.2 HSB.out.1 HSB.out.2.1 HSB.out.2.2)
  have NW := Lib.hid (fun W (hW : Fr V W []) => lg_is.new r.co r.fo _ l6 W (HK.out W hW).2.2.2 (by have := HM16.out; omega))
  have RNW := Lib.hid (fun W (hW : Fr V W []) => rnew_any r.co r.fo _ l6 W (HK.out W hW).2.2.2 (by have := HM16.out; omega))
  obtain ⟨sb, hsb⟩ : ∃ b : Bool, b = true ↔ r = q := by
    by_cases h : r = q
    · exact ⟨true, iyes h⟩
    · exact ⟨false, ino h⟩
  have HSQ := Lib.hid hsb
  have dss : (sb == sb) = true := by simp
  have LS := Lib.hid (fun W (hW : Fr V W []) => lsame_any r q vm ve vm' ve' sb HSQ.out W (HK.out W hW).1.1 (HK.out W hW).1.2 (HK.out W hW).2.1.1 (HK.out W hW).2.1.2)
  have SQ := Lib.hid (fun W (hW : Fr V W []) => rsameRing_any r q vm ve vm' ve' sb HSQ.out W (HK.out W hW).1.1 (HK.out W hW).1.2 (HK.out W hW).2.1.1 (HK.out W hW).2.1.2)
  have SW := Lib.hid (fun W (hW : Fr V W []) (hg : BX W ga r (.slice sa1 sa2 sa3) (.slice ta1 ta2 ta3)) => rsameRing_any r r vm ve _ _ true (iyes rfl) W (HK.out W hW).1.1 (HK.out W hW).1.2 hg.hm hg.he)
  clear hsb
  generalize purgeR r L = P1 at PG RPG
  generalize addR r L = P2 at AD RAD
  generalize wantsR r car = P3 at WN RWN
  generalize mineR r car = P4 at MN RMN
  generalize newR r.co r.fo l6 = P5 at NW RNW
  unfold rgV at PG RPG AD RAD WN RWN MN RMN LS SQ SW
  go_upto_region 15 with fail
  replace HV := Lib.hid (HV.out.trans (Fr.drew Wu3 []))
  have HGA := Lib.hid (HGga.out.keep (Fr.drew Wu3 []))
  have hS0 := HSX.out _ HV.out HGA.out
  clear HGga HGgb HGgc HGgd HGge HGgf HGgh HVgd HVge
  refine wp_region_noPanic ?_
  refine wp_region_held_drew (S := (SSy V g r vm ve (g + 1) q vm' ve' ga r (.slice sa1 sa2 sa3) (.slice ta1 ta2 ta3))) (by kernel_rfl) hS0 (fun hHeld => ?_)
  clear hS0
  refine wpAnyH_take (i := 0) (oi := _) (v := ?fv0h1n2) (by simp only [List.getElem?_toArray, List.getElem?_cons_zero]; rfl) (by kernel_rfl) (by kernel_rfl) (by kernel_rfl) (fun _ _ _ h => h) (Or.inl ⟨by rfl, ?fy0h1n2⟩) (by assumption) ?fr0h1n2
  case fy0h1n2 => (intro w hSw; (try dsimp only [SSy, C5] at hSw); go_simp; try with_reducible rfl)
  try simp only [Act.put, List.setIfInBounds_toArray, List.set_cons_zero, List.set_cons_succ]
  refine wpAnyH_take (i := 1) (oi := _) (v := ?fv1h1n2) (by simp only [List.getElem?_toArray, List.getElem?_cons_zero, List.getElem?_cons_succ]; rfl) (by kernel_rfl) (by kernel_rfl) (by kernel_rfl) (fun _ _ _ h => h) (Or.inl ⟨by rfl, ?fy1h1n2⟩) (by assumption) ?fr1h1n2
  case fy1h1n2 => (intro w hSw; (try dsimp only [SSy, C5] at hSw); go_simp; try with_reducible rfl)
  try simp only [Act.put, List.setIfInBounds_toArray, List.set_cons_zero, List.set_cons_succ]
  refine wpAnyH_take (i := 2) (oi := _) (v := ?fv2h1n2) (by simp only [List.getElem?_toArray, List.getElem?_cons_zero, List.getElem?_cons_succ]; rfl) (by kernel_rfl) (by kernel_rfl) (by kernel_rfl) (fun _ _ _ h => h) (Or.inl ⟨by rfl, ?fy2h1n2⟩) (by assumption) ?fr2h1n2
  case fy2h1n2 => (intro w hSw; (try dsimp only [SSy, C5] at hSw); go_simp; try with_reducible rfl)
  try simp only [Act.put, List.setIfInBounds_toArray, List.set_cons_zero, List.set_cons_succ]
  refine wpAnyH_take (i := 3) (oi := _) (v := ?fv3h1n2) (by simp only [List.getElem?_toArray, List.getElem?_cons_zero, List.getElem?_cons_succ]; rfl) (by kernel_rfl) (by kernel_rfl) (by kernel_rfl) (fun _ _ _ h => h) (Or.inl ⟨by rfl, ?fy3h1n2⟩) (by assumption) ?fr3h1n2
  case fy3h1n2 => (intro w hSw; (try dsimp only [SSy, C5] at hSw); go_simp; try with_reducible rfl)
  try simp only [Act.put, List.setIfInBounds_toArray, List.set_cons_zero, List.set_cons_succ]
  refine wpAnyH_take (i := 5) (oi := _) (v := ?fv5h1n2) (by simp only [List.getElem?_toArray, List.getElem?_cons_zero, List.getElem?_cons_succ]; rfl) (by kernel_rfl) (by kernel_rfl) (by kernel_rfl) (fun _ _ _ h => h) (Or.inl ⟨by rfl, ?fy5h1n2⟩) (by assumption) ?fr5h1n2
  case fy5h1n2 => (intro w hSw; (try dsimp only [SSy, C5] at hSw); go_simp; try with_reducible rfl)
  try simp only [Act.put, List.setIfInBounds_toArray, List.set_cons_zero, List.set_cons_succ]
  refine wpAnyH_take (i := 6) (oi := _) (v := ?fv6h1n2) (by simp only [List.getElem?_toArray, List.getElem?_cons_zero, List.getElem?_cons_succ]; rfl) (by kernel_rfl) (by kernel_rfl) (by kernel_rfl) (fun _ _ _ h => h) (Or.inl ⟨by rfl, ?fy6h1n2⟩) (by assumption) ?fr6h1n2
  case fy6h1n2 => (intro w hSw; (try dsimp only [SSy, C5] at hSw); go_simp; try with_reducible rfl)
  try simp only [Act.put, List.setIfInBounds_toArray, List.set_cons_zero, List.set_cons_succ]
  refine wpAnyH_ready (rs := [4]) (by kernel_rfl) (by simp) ?_
  refine AllReadyH.cons (o := _) rfl (fun K hK => ?_) AllReadyH.nil
  go_simp
  ((with_reducible refine (PG.out _ HV.out).mono ?_); rintro e v1 ⟨u, rfl, ⟨um1, ue1, rfl, h1, h2⟩, hf⟩; have HV1 := Lib.hid (HV.out.trans hf); have HGA1 := Lib.hid (HGA.out.keep hf); have K1 := Lib.hid (And.intro h1 h2); clear h1 h2; have hS := HSX.out _ HV1.out HGA1.out; have HF1 := Lib.hid hf; clear hf)
  go_wp2_with fail
  refine hK.out _ _ hS (fun hHeld => ?_)
  clear hK K
  try simp only [Act.put, List.setIfInBounds_toArray, List.set_cons_zero, List.set_cons_succ]
  clear hS
  refine wpAnyH_ready (rs := [7]) (by kernel_rfl) (by simp) ?_
  refine AllReadyH.cons (o := _) rfl (fun K hK => ?_) AllReadyH.nil
  go_simp
  ((with_reducible refine (RPG.out _ HV1.out).mono ?_); rintro e v2 ⟨u, rfl, ⟨um2, ue2, rfl, h1, h2⟩, hf⟩; have HV2 := Lib.hid (HV1.out.trans hf); have HGA2 := Lib.hid (HGA1.out.keep hf); have K2 := Lib.hid (And.intro h1 h2); clear h1 h2; have hS := HSX.out _ HV2.out HGA2.out; have HF2 := Lib.hid hf; clear hf)
  go_wp2_with fail
  refine hK.out _ _ hS (fun hHeld => ?_)
  clear hK K
  try simp only [Act.put, List.setIfInBounds_toArray, List.set_cons_zero, List.set_cons_succ]
  clear hS
  refine wpAnyH_ready (rs := [8]) (by kernel_rfl) (by simp) ?_
  refine AllReadyH.cons (o := _) rfl (fun K hK => ?_) AllReadyH.nil
  go_simp
  ((with_reducible refine (rsameRing_any _ _ _ _ _ _ true (iyes rfl) _ (K1.out.1.keep HF2.out) (K1.out.2.keep HF2.out) K2.out.1 K2.out.2).mono ?_); rintro e v3 ⟨rfl, hf⟩; have HV3 := Lib.hid (HV2.out.trans hf); have HGA3 := Lib.hid (HGA2.out.keep hf); have hS := HSX.out _ HV3.out HGA3.out; have HF3 := Lib.hid hf; clear hf)
  go_wp2_with fail
  refine hK.out _ _ hS (fun hHeld => ?_)
  clear hK K
  try simp only [Act.put, List.setIfInBounds_toArray, List.set_cons_zero, List.set_cons_succ]
  clear hS
  refine wpAnyH_take (i := 9) (oi := _) (v := ?fv9h1n3) (by simp only [List.getElem?_toArray, List.getElem?_cons_zero, List.getElem?_cons_succ]; rfl) (by kernel_rfl) (by kernel_rfl) (by kernel_rfl) (fun _ _ _ h => h) (Or.inl ⟨by rfl, ?fy9h1n3⟩) (by assumption) ?fr9h1n3
  case fy9h1n3 => (intro w hSw; (try dsimp only [SSy, C5] at hSw); go_simp; try with_reducible rfl)
  try simp only [Act.put, List.setIfInBounds_toArray, List.set_cons_zero, List.set_cons_succ]
  refine wpAnyH_take (i := 10) (oi := _) (v := ?fv10h1n3) (by simp only [List.getElem?_toArray, List.getElem?_cons_zero, List.getElem?_cons_succ]; rfl) (by kernel_rfl) (by kernel_rfl) (by kernel_rfl) (fun _ _ _ h => h) (Or.inl ⟨by rfl, ?fy10h1n3⟩) (by assumption) ?fr10h1n3
  case fy10h1n3 => (intro w hSw; (try dsimp only [SSy, C5] at hSw); go_simp; try with_reducible rfl)
  try simp only [Act.put, List.setIfInBounds_toArray, List.set_cons_zero, List.set_cons_succ]
  refine wpAnyH_take (i := 11) (oi := _) (v := ?fv11h1n3) (by simp only [List.getElem?_toArray, List.getElem?_cons_zero, List.getElem?_cons_succ]; rfl) (by kernel_rfl) (by kernel_rfl) (by kernel_rfl) (fun _ _ _ h => h) (Or.inl ⟨by rfl, ?fy11h1n3⟩) (by assumption) ?fr11h1n3
  case fy11h1n3 => (intro w hSw; (try dsimp only [SSy, C5] at hSw); go_simp; try with_reducible rfl)
  try simp only [Act.put, List.setIfInBounds_toArray, List.set_cons_zero, List.set_cons_succ]
  refine wpAnyH_take (i := 12) (oi := _) (v := ?fv12h1n3) (by simp only [List.getElem?_toArray, List.getElem?_cons_zero, List.getElem?_cons_succ]; rfl) (by kernel_rfl) (by kernel_rfl) (by kernel_rfl) (fun _ _ _ h => h) (Or.inl ⟨by rfl, ?fy12h1n3⟩) (by assumption) ?fr12h1n3
  case fy12h1n3 => (intro w hSw; (try dsimp only [SSy, C5] at hSw); go_simp; try with_reducible rfl)
  try simp only [Act.put, List.setIfInBounds_toArray, List.set_cons_zero, List.set_cons_succ]
  refine wpAnyH_take (i := 14) (oi := _) (v := ?fv14h1n3) (by simp only [List.getElem?_toArray, List.getElem?_cons_zero, List.getElem?_cons_succ]; rfl) (by kernel_rfl) (by kernel_rfl) (by kernel_rfl) (fun _ _ _ h => h) (Or.inl ⟨by rfl, ?fy14h1n3⟩) (by assumption) ?fr14h1n3
  case fy14h1n3 => (intro w hSw; (try dsimp only [SSy, C5] at hSw); go_simp; try with_reducible rfl)
  try simp only [Act.put, List.setIfInBounds_toArray, List.set_cons_zero, List.set_cons_succ]
  refine wpAnyH_take (i := 15) (oi := _) (v := ?fv15h1n3) (by simp only [List.getElem?_toArray, List.getElem?_cons_zero, List.getElem?_cons_succ]; rfl) (by kernel_rfl) (by kernel_rfl) (by kernel_rfl) (fun _ _ _ h => h) (Or.inl ⟨by rfl, ?fy15h1n3⟩) (by assumption) ?fr15h1n3
  case fy15h1n3 => (intro w hSw; (try dsimp only [SSy, C5] at hSw); go_simp; try with_reducible rfl)
  try simp only [Act.put, List.setIfInBounds_toArray, List.set_cons_zero, List.set_cons_succ]
  refine wpAnyH_ready (rs := [13]) (by kernel_rfl) (by simp) ?_
  refine AllReadyH.cons (o := _) rfl (fun K hK => ?_) AllReadyH.nil
  go_simp
  ((with_reducible refine (AD.out _ HV3.out).mono ?_); rintro e v4 ⟨u, rfl, ⟨um4, ue4, rfl, h1, h2⟩, hf⟩; have HV4 := Lib.hid (HV3.out.trans hf); have HGA4 := Lib.hid (HGA3.out.keep hf); have K4 := Lib.hid (And.intro h1 h2); clear h1 h2; have hS := HSX.out _ HV4.out HGA4.out; have HF4 := Lib.hid hf; clear hf)
  go_wp2_with fail
  refine hK.out _ _ hS (fun hHeld => ?_)
  clear hK K
  try simp only [Act.put, List.setIfInBounds_toArray, List.set_cons_zero, List.set_cons_succ]
  clear hS
  refine wpAnyH_ready (rs := [16]) (by kernel_rfl) (by simp) ?_
  refine AllReadyH.cons (o := _) rfl (fun K hK => ?_) AllReadyH.nil
  go_simp
  ((with_reducible refine (RAD.out _ HV4.out).mono ?_); rintro e v5 ⟨u, rfl, ⟨um5, ue5, rfl, h1, h2⟩, hf⟩; have HV5 := Lib.hid (HV4.out.trans hf); have HGA5 := Lib.hid (HGA4.out.keep hf); have K5 := Lib.hid (And.intro h1 h2); clear h1 h2; have hS := HSX.out _ HV5.out HGA5.out; have HF5 := Lib.hid hf; clear hf)
  go_wp2_with fail
  refine hK.out _ _ hS (fun hHeld => ?_)
  clear hK K
  try simp only [Act.put, List.setIfInBounds_toArray, List.set_cons_zero, List.set_cons_succ]
  clear hS
  refine wpAnyH_ready (rs := [17]) (by kernel_rfl) (by simp) ?_
  refine AllReadyH.cons (o := _) rfl (fun K hK => ?_) AllReadyH.nil
  go_simp
  ((with_reducible refine (rsameRing_any _ _ _ _ _ _ true (iyes rfl) _ (K4.out.1.keep HF5.out) (K4.out.2.keep HF5.out) K5.out.1 K5.out.2).mono ?_); rintro e v6 ⟨rfl, hf⟩; have HV6 := Lib.hid (HV5.out.trans hf); have HGA6 := Lib.hid (HGA5.out.keep hf); have hS := HSX.out _ HV6.out HGA6.out; have HF6 := Lib.hid hf; clear hf)
  go_wp2_with fail
  refine hK.out _ _ hS (fun hHeld => ?_)
  clear hK K
  try simp only [Act.put, List.setIfInBounds_toArray, List.set_cons_zero, List.set_cons_succ]
  clear hS
  refine wpAnyH_take (i := 18) (oi := _) (v := ?fv18h1n4) (by simp only [List.getElem?_toArray, List.getElem?_cons_zero, List.getElem?_cons_succ]; rfl) (by kernel_rfl) (by kernel_rfl) (by kernel_rfl) (fun _ _ _ h => h) (Or.inl ⟨by rfl, ?fy18h1n4⟩) (by assumption) ?fr18h1n4
  case fy18h1n4 => (intro w hSw; (try dsimp only [SSy, C5] at hSw); go_simp; try with_reducible rfl)
  try simp only [Act.put, List.setIfInBounds_toArray, List.set_cons_zero, List.set_cons_succ]
  refine wpAnyH_take (i := 19) (oi := _) (v := ?fv19h1n4) (by simp only [List.getElem?_toArray, List.getElem?_cons_zero, List.getElem?_cons_succ]; rfl) (by kernel_rfl) (by kernel_rfl) (by kernel_rfl) (fun _ _ _ h => h) (Or.inl ⟨by rfl, ?fy19h1n4⟩) (by assumption) ?fr19h1n4
  case fy19h1n4 => (intro w hSw; (try dsimp only [SSy, C5] at hSw); go_simp; try with_reducible rfl)
  try simp only [Act.put, List.setIfInBounds_toArray, List.set_cons_zero, List.set_cons_succ]
  refine wpAnyH_take (i := 20) (oi := _) (v := ?fv20h1n4) (by simp only [List.getElem?_toArray, List.getElem?_cons_zero, List.getElem?_cons_succ]; rfl) (by kernel_rfl) (by kernel_rfl) (by kernel_rfl) (fun _ _ _ h => h) (Or.inl ⟨by rfl, ?fy20h1n4⟩) (by assumption) ?fr20h1n4
  case fy20h1n4 => (intro w hSw; (try dsimp only [SSy, C5] at hSw); go_simp; try with_reducible rfl)
  try simp only [Act.put, List.setIfInBounds_toArray, List.set_cons_zero, List.set_cons_succ]
  refine wpAnyH_take (i := 21) (oi := _) (v := ?fv21h1n4) (by simp only [List.getElem?_toArray, List.getElem?_cons_zero, List.getElem?_cons_succ]; rfl) (by kernel_rfl) (by kernel_rfl) (by kernel_rfl) (fun _ _ _ h => h) (Or.inl ⟨by rfl, ?fy21h1n4⟩) (by assumption) ?fr21h1n4
  case fy21h1n4 => (intro w hSw; (try dsimp only [SSy, C5] at hSw); go_simp; try with_reducible rfl)
  try simp only [Act.put, List.setIfInBounds_toArray, List.set_cons_zero, List.set_cons_succ]
  refine wpAnyH_take (i := 23) (oi := _) (v := ?fv23h1n4) (by simp only [List.getElem?_toArray, List.getElem?_cons_zero, List.getElem?_cons_succ]; rfl) (by kernel_rfl) (by kernel_rfl) (by kernel_rfl) (fun _ _ _ h => h) (Or.inl ⟨by rfl, ?fy23h1n4⟩) (by assumption) ?fr23h1n4
  case fy23h1n4 => (intro w hSw; (try dsimp only [SSy, C5] at hSw); go_simp; try with_reducible rfl)
  try simp only [Act.put, List.setIfInBounds_toArray, List.set_cons_zero, List.set_cons_succ]
  refine wpAnyH_take (i := 24) (oi := _) (v := ?fv24h1n4) (by simp only [List.getElem?_toArray, List.getElem?_cons_zero, List.getElem?_cons_succ]; rfl) (by kernel_rfl) (by kernel_rfl) (by kernel_rfl) (fun _ _ _ h => h) (Or.inl ⟨by rfl, ?fy24h1n4⟩) (by assumption) ?fr24h1n4
  case fy24h1n4 => (intro w hSw; (try dsimp only [SSy, C5] at hSw); go_simp; try with_reducible rfl)
  try simp only [Act.put, List.setIfInBounds_toArray, List.set_cons_zero, List.set_cons_succ]
  refine wpAnyH_ready (rs := [22]) (by kernel_rfl) (by simp) ?_
  refine AllReadyH.cons (o := _) rfl (fun K hK => ?_) AllReadyH.nil
  go_simp
  ((with_reducible refine (WN.out _ HV6.out).mono ?_); rintro e v7 ⟨u7, rfl, h1, hf⟩; have HV7 := Lib.hid (HV6.out.trans hf); have HGA7 := Lib.hid (HGA6.out.keep hf); have K7 := Lib.hid h1; clear h1; have hS := HSX.out _ HV7.out HGA7.out; have HF7 := Lib.hid hf; clear hf)
  go_wp2_with fail
  refine hK.out _ _ hS (fun hHeld => ?_)
  clear hK K
  try simp only [Act.put, List.setIfInBounds_toArray, List.set_cons_zero, List.set_cons_succ]
  clear hS
  refine wpAnyH_ready (rs := [25]) (by kernel_rfl) (by simp) ?_
  refine AllReadyH.cons (o := _) rfl (fun K hK => ?_) AllReadyH.nil
  go_simp
  ((with_reducible refine (RWN.out _ HV7.out).mono ?_); rintro e v8 ⟨u8, rfl, h1, hf⟩; have HV8 := Lib.hid (HV7.out.trans hf); have HGA8 := Lib.hid (HGA7.out.keep hf); have K8 := Lib.hid h1; clear h1; have hS := HSX.out _ HV8.out HGA8.out; have HF8 := Lib.hid hf; clear hf)
  go_wp2_with fail
  refine hK.out _ _ hS (fun hHeld => ?_)
  clear hK K
  try simp only [Act.put, List.setIfInBounds_toArray, List.set_cons_zero, List.set_cons_succ]
  clear hS
  refine wpAnyH_ready (rs := [26]) (by kernel_rfl) (by simp) ?_
  refine AllReadyH.cons (o := _) rfl (fun K hK => ?_) AllReadyH.nil
  go_simp
  ((with_reducible refine (rsameCalls_any _ _ _ _ _ (K7.out.keep HF8.out) K8.out true (iyes rfl)).mono ?_); rintro e v9 ⟨rfl, hf⟩; have HV9 := Lib.hid (HV8.out.trans hf); have HGA9 := Lib.hid (HGA8.out.keep hf); have hS := HSX.out _ HV9.out HGA9.out; have HF9 := Lib.hid hf; clear hf)
  go_wp2_with fail
  refine hK.out _ _ hS (fun hHeld => ?_)
  clear hK K
  try simp only [Act.put, List.setIfInBounds_toArray, List.set_cons_zero, List.set_cons_succ]
  clear hS
  refine wpAnyH_take (i := 27) (oi := _) (v := ?fv27h1n5) (by simp only [List.getElem?_toArray, List.getElem?_cons_zero, List.getElem?_cons_succ]; rfl) (by kernel_rfl) (by kernel_rfl) (by kernel_rfl) (fun _ _ _ h => h) (Or.inl ⟨by rfl, ?fy27h1n5⟩) (by assumption) ?fr27h1n5
  case fy27h1n5 => (intro w hSw; (try dsimp only [SSy, C5] at hSw); go_simp; try with_reducible rfl)
  try simp only [Act.put, List.setIfInBounds_toArray, List.set_cons_zero, List.set_cons_succ]
  refine wpAnyH_take (i := 28) (oi := _) (v := ?fv28h1n5) (by simp only [List.getElem?_toArray, List.getElem?_cons_zero, List.getElem?_cons_succ]; rfl) (by kernel_rfl) (by kernel_rfl) (by kernel_rfl) (fun _ _ _ h => h) (Or.inl ⟨by rfl, ?fy28h1n5⟩) (by assumption) ?fr28h1n5
  case fy28h1n5 => (intro w hSw; (try dsimp only [SSy, C5] at hSw); go_simp; try with_reducible rfl)
  try simp only [Act.put, List.setIfInBounds_toArray, List.set_cons_zero, List.set_cons_succ]
  refine wpAnyH_take (i := 29) (oi := _) (v := ?fv29h1n5) (by simp only [List.getElem?_toArray, List.getElem?_cons_zero, List.getElem?_cons_succ]; rfl) (by kernel_rfl) (by kernel_rfl) (by kernel_rfl) (fun _ _ _ h => h) (Or.inl ⟨by rfl, ?fy29h1n5⟩) (by assumption) ?fr29h1n5
  case fy29h1n5 => (intro w hSw; (try dsimp only [SSy, C5] at hSw); go_simp; try with_reducible rfl)
  try simp only [Act.put, List.setIfInBounds_toArray, List.set_cons_zero, List.set_cons_succ]
  refine wpAnyH_take (i := 30) (oi := _) (v := ?fv30h1n5) (by simp only [List.getElem?_toArray, List.getElem?_cons_zero, List.getElem?_cons_succ]; rfl) (by kernel_rfl) (by kernel_rfl) (by kernel_rfl) (fun _ _ _ h => h) (Or.inl ⟨by rfl, ?fy30h1n5⟩) (by assumption) ?fr30h1n5
  case fy30h1n5 => (intro w hSw; (try dsimp only [SSy, C5] at hSw); go_simp; try with_reducible rfl)
  try simp only [Act.put, List.setIfInBounds_toArray, List.set_cons_zero, List.set_cons_succ]
  refine wpAnyH_take (i := 32) (oi := _) (v := ?fv32h1n5) (by simp only [List.getElem?_toArray, List.getElem?_cons_zero, List.getElem?_cons_succ]; rfl) (by kernel_rfl) (by kernel_rfl) (by kernel_rfl) (fun _ _ _ h => h) (Or.inl ⟨by rfl, ?fy32h1n5⟩) (by assumption) ?fr32h1n5
  case fy32h1n5 => (intro w hSw; (try dsimp only [SSy, C5] at hSw); go_simp; try with_reducible rfl)
  try simp only [Act.put, List.setIfInBounds_toArray, List.set_cons_zero, List.set_cons_succ]
  refine wpAnyH_take (i := 33) (oi := _) (v := ?fv33h1n5) (by simp only [List.getElem?_toArray, List.getElem?_cons_zero, List.getElem?_cons_succ]; rfl) (by kernel_rfl) (by kernel_rfl) (by kernel_rfl) (fun _ _ _ h => h) (Or.inl ⟨by rfl, ?fy33h1n5⟩) (by assumption) ?fr33h1n5
  case fy33h1n5 => (intro w hSw; (try dsimp only [SSy, C5] at hSw); go_simp; try with_reducible rfl)
  try simp only [Act.put, List.setIfInBounds_toArray, List.set_cons_zero, List.set_cons_succ]
  refine wpAnyH_ready (rs := [31]) (by kernel_rfl) (by simp) ?_
  refine AllReadyH.cons (o := _) rfl (fun K hK => ?_) AllReadyH.nil
  go_simp
  ((with_reducible refine (MN.out _ HV9.out).mono ?_); rintro e v10 ⟨u10, rfl, h1, hf⟩; have HV10 := Lib.hid (HV9.out.trans hf); have HGA10 := Lib.hid (HGA9.out.keep hf); have K10 := Lib.hid h1; clear h1; have hS := HSX.out _ HV10.out HGA10.out; have HF10 := Lib.hid hf; clear hf)
  go_wp2_with fail
  refine hK.out _ _ hS (fun hHeld => ?_)
  clear hK K
  try simp only [Act.put, List.setIfInBounds_toArray, List.set_cons_zero, List.set_cons_succ]
  clear hS
  refine wpAnyH_ready (rs := [34]) (by kernel_rfl) (by simp) ?_
  refine AllReadyH.cons (o := _) rfl (fun K hK => ?_) AllReadyH.nil
  go_simp
  ((with_reducible refine (RMN.out _ HV10.out).mono ?_); rintro e v11 ⟨u11, rfl, h1, hf⟩; have HV11 := Lib.hid (HV10.out.trans hf); have HGA11 := Lib.hid (HGA10.out.keep hf); have K11 := Lib.hid h1; clear h1; have hS := HSX.out _ HV11.out HGA11.out; have HF11 := Lib.hid hf; clear hf)
  go_wp2_with fail
  refine hK.out _ _ hS (fun hHeld => ?_)
  clear hK K
  try simp only [Act.put, List.setIfInBounds_toArray, List.set_cons_zero, List.set_cons_succ]
  clear hS
  refine wpAnyH_ready (rs := [35]) (by kernel_rfl) (by simp) ?_
  refine AllReadyH.cons (o := _) rfl (fun K hK => ?_) AllReadyH.nil
  go_simp
  ((with_reducible refine (latchs_same _ _ _ _ _ (K10.out.keep HF11.out) K11.out true (yes rfl)).mono ?_); rintro e v12 ⟨rfl, hf⟩; have HV12 := Lib.hid (HV11.out.trans hf); have HGA12 := Lib.hid (HGA11.out.keep hf); have hS := HSX.out _ HV12.out HGA12.out; have HF12 := Lib.hid hf; clear hf)
  go_wp2_with fail
  refine hK.out _ _ hS (fun hHeld => ?_)
  clear hK K
  try simp only [Act.put, List.setIfInBounds_toArray, List.set_cons_zero, List.set_cons_succ]
  clear hS
  refine wpAnyH_take (i := 36) (oi := _) (v := ?fv36h1n6) (by simp only [List.getElem?_toArray, List.getElem?_cons_zero, List.getElem?_cons_succ]; rfl) (by kernel_rfl) (by kernel_rfl) (by kernel_rfl) (fun _ _ _ h => h) (Or.inl ⟨by rfl, ?fy36h1n6⟩) (by assumption) ?fr36h1n6
  case fy36h1n6 => (intro w hSw; (try dsimp only [SSy, C5] at hSw); go_simp; try with_reducible rfl)
  try simp only [Act.put, List.setIfInBounds_toArray, List.set_cons_zero, List.set_cons_succ]
  refine wpAnyH_take (i := 37) (oi := _) (v := ?fv37h1n6) (by simp only [List.getElem?_toArray, List.getElem?_cons_zero, List.getElem?_cons_succ]; rfl) (by kernel_rfl) (by kernel_rfl) (by kernel_rfl) (fun _ _ _ h => h) (Or.inl ⟨by rfl, ?fy37h1n6⟩) (by assumption) ?fr37h1n6
  case fy37h1n6 => (intro w hSw; (try dsimp only [SSy, C5] at hSw); go_simp; try with_reducible rfl)
  try simp only [Act.put, List.setIfInBounds_toArray, List.set_cons_zero, List.set_cons_succ]
  refine wpAnyH_take (i := 38) (oi := _) (v := ?fv38h1n6) (by simp only [List.getElem?_toArray, List.getElem?_cons_zero, List.getElem?_cons_succ]; rfl) (by kernel_rfl) (by kernel_rfl) (by kernel_rfl) (fun _ _ _ h => h) (Or.inl ⟨by rfl, ?fy38h1n6⟩) (by assumption) ?fr38h1n6
  case fy38h1n6 => (intro w hSw; (try dsimp only [SSy, C5] at hSw); go_simp; try with_reducible rfl)
  try simp only [Act.put, List.setIfInBounds_toArray, List.set_cons_zero, List.set_cons_succ]
  refine wpAnyH_take (i := 39) (oi := _) (v := ?fv39h1n6) (by simp only [List.getElem?_toArray, List.getElem?_cons_zero, List.getElem?_cons_succ]; rfl) (by kernel_rfl) (by kernel_rfl) (by kernel_rfl) (fun _ _ _ h => h) (Or.inl ⟨by rfl, ?fy39h1n6⟩) (by assumption) ?fr39h1n6
  case fy39h1n6 => (intro w hSw; (try dsimp only [SSy, C5] at hSw); go_simp; try with_reducible rfl)
  try simp only [Act.put, List.setIfInBounds_toArray, List.set_cons_zero, List.set_cons_succ]
  refine wpAnyH_take (i := 40) (oi := _) (v := ?fv40h1n6) (by simp only [List.getElem?_toArray, List.getElem?_cons_zero, List.getElem?_cons_succ]; rfl) (by kernel_rfl) (by kernel_rfl) (by kernel_rfl) (fun _ _ _ h => h) (Or.inl ⟨by rfl, ?fy40h1n6⟩) (by assumption) ?fr40h1n6
  case fy40h1n6 => (intro w hSw; (try dsimp only [SSy, C5] at hSw); go_simp; try with_reducible rfl)
  try simp only [Act.put, List.setIfInBounds_toArray, List.set_cons_zero, List.set_cons_succ]
  refine wpAnyH_take (i := 42) (oi := _) (v := ?fv42h1n6) (by simp only [List.getElem?_toArray, List.getElem?_cons_zero, List.getElem?_cons_succ]; rfl) (by kernel_rfl) (by kernel_rfl) (by kernel_rfl) (fun _ _ _ h => h) (Or.inl ⟨by rfl, ?fy42h1n6⟩) (by assumption) ?fr42h1n6
  case fy42h1n6 => (intro w hSw; (try dsimp only [SSy, C5] at hSw); go_simp; try with_reducible rfl)
  try simp only [Act.put, List.setIfInBounds_toArray, List.set_cons_zero, List.set_cons_succ]
  refine wpAnyH_take (i := 43) (oi := _) (v := ?fv43h1n6) (by simp only [List.getElem?_toArray, List.getElem?_cons_zero, List.getElem?_cons_succ]; rfl) (by kernel_rfl) (by kernel_rfl) (by kernel_rfl) (fun _ _ _ h => h) (Or.inl ⟨by rfl, ?fy43h1n6⟩) (by assumption) ?fr43h1n6
  case fy43h1n6 => (intro w hSw; (try dsimp only [SSy, C5] at hSw); go_simp; try with_reducible rfl)
  try simp only [Act.put, List.setIfInBounds_toArray, List.set_cons_zero, List.set_cons_succ]
  refine wpAnyH_take (i := 44) (oi := _) (v := ?fv44h1n6) (by simp only [List.getElem?_toArray, List.getElem?_cons_zero, List.getElem?_cons_succ]; rfl) (by kernel_rfl) (by kernel_rfl) (by kernel_rfl) (fun _ _ _ h => h) (Or.inl ⟨by rfl, ?fy44h1n6⟩) (by assumption) ?fr44h1n6
  case fy44h1n6 => (intro w hSw; (try dsimp only [SSy, C5] at hSw); go_simp; try with_reducible rfl)
  try simp only [Act.put, List.setIfInBounds_toArray, List.set_cons_zero, List.set_cons_succ]
  refine wpAnyH_ready (rs := [41]) (by kernel_rfl) (by simp) ?_
  refine AllReadyH.cons (o := _) rfl (fun K hK => ?_) AllReadyH.nil
  go_simp
  ((with_reducible refine (NW.out _ HV12.out).mono ?_); rintro e v13 ⟨u, rfl, ⟨um13, ue13, rfl, h1, h2⟩, hf⟩; have HV13 := Lib.hid (HV12.out.trans hf); have HGA13 := Lib.hid (HGA12.out.keep hf); have K13 := Lib.hid (And.intro h1 h2); clear h1 h2; have hS := HSX.out _ HV13.out HGA13.out; have HF13 := Lib.hid hf; clear hf)
  go_wp2_with fail
  refine hK.out _ _ hS (fun hHeld => ?_)
  clear hK K
  try simp only [Act.put, List.setIfInBounds_toArray, List.set_cons_zero, List.set_cons_succ]
  clear hS
  refine wpAnyH_ready (rs := [45]) (by kernel_rfl) (by simp) ?_
  refine AllReadyH.cons (o := _) rfl (fun K hK => ?_) AllReadyH.nil
  go_simp
  ((with_reducible refine (RNW.out _ HV13.out).mono ?_); rintro e v14 ⟨u, rfl, ⟨um14, ue14, rfl, h1, h2⟩, hf⟩; have HV14 := Lib.hid (HV13.out.trans hf); have HGA14 := Lib.hid (HGA13.out.keep hf); have K14 := Lib.hid (And.intro h1 h2); clear h1 h2; have hS := HSX.out _ HV14.out HGA14.out; have HF14 := Lib.hid hf; clear hf)
  go_wp2_with fail
  refine hK.out _ _ hS (fun hHeld => ?_)
  clear hK K
  try simp only [Act.put, List.setIfInBounds_toArray, List.set_cons_zero, List.set_cons_succ]
  clear hS
  refine wpAnyH_ready (rs := [46]) (by kernel_rfl) (by simp) ?_
  refine AllReadyH.cons (o := _) rfl (fun K hK => ?_) AllReadyH.nil
  go_simp
  ((with_reducible refine (rsameRing_any _ _ _ _ _ _ true (iyes rfl) _ (K13.out.1.keep HF14.out) (K13.out.2.keep HF14.out) K14.out.1 K14.out.2).mono ?_); rintro e v15 ⟨rfl, hf⟩; have HV15 := Lib.hid (HV14.out.trans hf); have HGA15 := Lib.hid (HGA14.out.keep hf); have hS := HSX.out _ HV15.out HGA15.out; have HF15 := Lib.hid hf; clear hf)
  go_wp2_with fail
  refine hK.out _ _ hS (fun hHeld => ?_)
  clear hK K
  try simp only [Act.put, List.setIfInBounds_toArray, List.set_cons_zero, List.set_cons_succ]
  clear hS
  refine wpAnyH_take (i := 47) (oi := _) (v := ?fv47h1n7) (by simp only [List.getElem?_toArray, List.getElem?_cons_zero, List.getElem?_cons_succ]; rfl) (by kernel_rfl) (by kernel_rfl) (by kernel_rfl) (fun _ _ _ h => h) (Or.inl ⟨by rfl, ?fy47h1n7⟩) (by assumption) ?fr47h1n7
  case fy47h1n7 => (intro w hSw; (try dsimp only [SSy, C5] at hSw); go_simp; try with_reducible rfl)
  try simp only [Act.put, List.setIfInBounds_toArray, List.set_cons_zero, List.set_cons_succ]
  refine wpAnyH_take (i := 48) (oi := _) (v := ?fv48h1n7) (by simp only [List.getElem?_toArray, List.getElem?_cons_zero, List.getElem?_cons_succ]; rfl) (by kernel_rfl) (by kernel_rfl) (by kernel_rfl) (fun _ _ _ h => h) (Or.inl ⟨by rfl, ?fy48h1n7⟩) (by assumption) ?fr48h1n7
  case fy48h1n7 => (intro w hSw; (try dsimp only [SSy, C5] at hSw); go_simp; try with_reducible rfl)
  try simp only [Act.put, List.setIfInBounds_toArray, List.set_cons_zero, List.set_cons_succ]
  refine wpAnyH_take (i := 49) (oi := _) (v := ?fv49h1n7) (by simp only [List.getElem?_toArray, List.getElem?_cons_zero, List.getElem?_cons_succ]; rfl) (by kernel_rfl) (by kernel_rfl) (by kernel_rfl) (fun _ _ _ h => h) (Or.inl ⟨by rfl, ?fy49h1n7⟩) (by assumption) ?fr49h1n7
  case fy49h1n7 => (intro w hSw; (try dsimp only [SSy, C5] at hSw); go_simp; try with_reducible rfl)
  try simp only [Act.put, List.setIfInBounds_toArray, List.set_cons_zero, List.set_cons_succ]
  refine wpAnyH_take (i := 50) (oi := _) (v := ?fv50h1n7) (by simp only [List.getElem?_toArray, List.getElem?_cons_zero, List.getElem?_cons_succ]; rfl) (by kernel_rfl) (by kernel_rfl) (by kernel_rfl) (fun _ _ _ h => h) (Or.inl ⟨by rfl, ?fy50h1n7⟩) (by assumption) ?fr50h1n7
  case fy50h1n7 => (intro w hSw; (try dsimp only [SSy, C5] at hSw); go_simp; try with_reducible rfl)
  try simp only [Act.put, List.setIfInBounds_toArray, List.set_cons_zero, List.set_cons_succ]
  refine wpAnyH_take (i := 52) (oi := _) (v := ?fv52h1n7) (by simp only [List.getElem?_toArray, List.getElem?_cons_zero, List.getElem?_cons_succ]; rfl) (by kernel_rfl) (by kernel_rfl) (by kernel_rfl) (fun _ _ _ h => h) (Or.inl ⟨by rfl, ?fy52h1n7⟩) (by assumption) ?fr52h1n7
  case fy52h1n7 => (intro w hSw; (try dsimp only [SSy, C5] at hSw); go_simp; try with_reducible rfl)
  try simp only [Act.put, List.setIfInBounds_toArray, List.set_cons_zero, List.set_cons_succ]
  refine wpAnyH_take (i := 53) (oi := _) (v := ?fv53h1n7) (by simp only [List.getElem?_toArray, List.getElem?_cons_zero, List.getElem?_cons_succ]; rfl) (by kernel_rfl) (by kernel_rfl) (by kernel_rfl) (fun _ _ _ h => h) (Or.inl ⟨by rfl, ?fy53h1n7⟩) (by assumption) ?fr53h1n7
  case fy53h1n7 => (intro w hSw; (try dsimp only [SSy, C5] at hSw); go_simp; try with_reducible rfl)
  try simp only [Act.put, List.setIfInBounds_toArray, List.set_cons_zero, List.set_cons_succ]
  refine wpAnyH_ready (rs := [51]) (by kernel_rfl) (by simp) ?_
  refine AllReadyH.cons (o := _) rfl (fun K hK => ?_) AllReadyH.nil
  go_simp
  ((with_reducible refine (LS.out _ HV15.out).mono ?_); rintro e v16 ⟨rfl, hf⟩; have HV16 := Lib.hid (HV15.out.trans hf); have HGA16 := Lib.hid (HGA15.out.keep hf); have hS := HSX.out _ HV16.out HGA16.out; have HF16 := Lib.hid hf; clear hf)
  go_wp2_with fail
  refine hK.out _ _ hS (fun hHeld => ?_)
  clear hK K
  try simp only [Act.put, List.setIfInBounds_toArray, List.set_cons_zero, List.set_cons_succ]
  clear hS
  refine wpAnyH_ready (rs := [54]) (by kernel_rfl) (by simp) ?_
  refine AllReadyH.cons (o := _) rfl (fun K hK => ?_) AllReadyH.nil
  go_simp
  ((with_reducible refine (SQ.out _ HV16.out).mono ?_); rintro e v17 ⟨rfl, hf⟩; have HV17 := Lib.hid (HV16.out.trans hf); have HGA17 := Lib.hid (HGA16.out.keep hf); have hS := HSX.out _ HV17.out HGA17.out; have HF17 := Lib.hid hf; clear hf)
  go_wp2_with fail
  refine hK.out _ _ hS (fun hHeld => ?_)
  clear hK K
  try simp only [Act.put, List.setIfInBounds_toArray, List.set_cons_zero, List.set_cons_succ]
  clear hS
  refine wpAnyH_take (i := 55) (oi := _) (v := ?fv55h1n8) (by simp only [List.getElem?_toArray, List.getElem?_cons_zero, List.getElem?_cons_succ]; rfl) (by kernel_rfl) (by kernel_rfl) (by kernel_rfl) (fun _ _ _ h => h) (Or.inl ⟨by rfl, ?fy55h1n8⟩) (by assumption) ?fr55h1n8
  case fy55h1n8 => (intro w hSw; (try dsimp only [SSy, C5] at hSw); go_simp; try with_reducible rfl)
  try simp only [Act.put, List.setIfInBounds_toArray, List.set_cons_zero, List.set_cons_succ]
  refine wpAnyH_take (i := 56) (oi := _) (v := ?fv56h1n8) (by simp only [List.getElem?_toArray, List.getElem?_cons_zero, List.getElem?_cons_succ]; rfl) (by kernel_rfl) (by kernel_rfl) (by kernel_rfl) (fun _ _ _ h => h) (Or.inl ⟨by rfl, ?fy56h1n8⟩) (by assumption) ?fr56h1n8
  case fy56h1n8 => (intro w hSw; (try dsimp only [SSy, C5] at hSw); go_simp; try with_reducible rfl)
  try simp only [Act.put, List.setIfInBounds_toArray, List.set_cons_zero, List.set_cons_succ]
  refine wpAnyH_take (i := 57) (oi := _) (v := ?fv57h1n8) (by simp only [List.getElem?_toArray, List.getElem?_cons_zero, List.getElem?_cons_succ]; rfl) (by kernel_rfl) (by kernel_rfl) (by kernel_rfl) (fun _ _ _ h => h) (Or.inl ⟨by rfl, ?fy57h1n8⟩) (by assumption) ?fr57h1n8
  case fy57h1n8 => (intro w hSw; (try dsimp only [SSy, C5] at hSw); go_simp; try with_reducible rfl)
  try simp only [Act.put, List.setIfInBounds_toArray, List.set_cons_zero, List.set_cons_succ]
  refine wpAnyH_take (i := 58) (oi := _) (v := ?fv58h1n8) (by simp only [List.getElem?_toArray, List.getElem?_cons_zero, List.getElem?_cons_succ]; rfl) (by kernel_rfl) (by kernel_rfl) (by kernel_rfl) (fun _ _ _ h => h) (Or.inl ⟨by rfl, ?fy58h1n8⟩) (by assumption) ?fr58h1n8
  case fy58h1n8 => (intro w hSw; (try dsimp only [SSy, C5] at hSw); go_simp; try with_reducible rfl)
  try simp only [Act.put, List.setIfInBounds_toArray, List.set_cons_zero, List.set_cons_succ]
  refine wpAnyH_take (i := 59) (oi := _) (v := ?fv59h1n8) (by simp only [List.getElem?_toArray, List.getElem?_cons_zero, List.getElem?_cons_succ]; rfl) (by kernel_rfl) (by kernel_rfl) (by kernel_rfl) (fun _ _ _ h => h) (Or.inl ⟨by rfl, ?fy59h1n8⟩) (by assumption) ?fr59h1n8
  case fy59h1n8 => (intro w hSw; (try dsimp only [SSy, C5] at hSw); go_simp; try with_reducible rfl)
  try simp only [Act.put, List.setIfInBounds_toArray, List.set_cons_zero, List.set_cons_succ]
  refine wpAnyH_ready (rs := [60]) (by kernel_rfl) (by simp) ?_
  refine AllReadyH.cons (o := _) rfl (fun K hK => ?_) AllReadyH.nil
  go_simp
  ((with_reducible refine (SW.out _ HV17.out HGA17.out).mono ?_); rintro e v18 ⟨rfl, hf⟩; have HV18 := Lib.hid (HV17.out.trans hf); have HGA18 := Lib.hid (HGA17.out.keep hf); have hS := HSX.out _ HV18.out HGA18.out; have HF18 := Lib.hid hf; clear hf)
  go_wp2_with fail
  refine hK.out _ _ hS (fun hHeld => ?_)
  clear hK K
  try simp only [Act.put, List.setIfInBounds_toArray, List.set_cons_zero, List.set_cons_succ]
  clear hS
  refine wpAnyH_take (i := 61) (oi := _) (v := ?fv61h1n9) (by simp only [List.getElem?_toArray, List.getElem?_cons_zero, List.getElem?_cons_succ]; rfl) (by kernel_rfl) (by kernel_rfl) (by kernel_rfl) (fun _ _ _ h => h) (Or.inl ⟨by rfl, ?fy61h1n9⟩) (by assumption) ?fr61h1n9
  case fy61h1n9 => (intro w hSw; (try dsimp only [SSy, C5] at hSw); go_simp; try with_reducible rfl)
  try simp only [Act.put, List.setIfInBounds_toArray, List.set_cons_zero, List.set_cons_succ]
  refine wpAnyH_take (i := 62) (oi := _) (v := ?fv62h1n9) (by simp only [List.getElem?_toArray, List.getElem?_cons_zero, List.getElem?_cons_succ]; rfl) (by kernel_rfl) (by kernel_rfl) (by kernel_rfl) (fun _ _ _ h => h) (Or.inl ⟨by rfl, ?fy62h1n9⟩) (by assumption) ?fr62h1n9
  case fy62h1n9 => (intro w hSw; (try dsimp only [SSy, C5] at hSw); go_simp; try with_reducible rfl)
  try simp only [Act.put, List.setIfInBounds_toArray, List.set_cons_zero, List.set_cons_succ]
  refine wpAnyH_done (by kernel_rfl) ?_ _
  refine NoPanic.normal ?_
  clear hHeld
  go_wp2
  go_ret
  exact ⟨rfl, HF0.out.trans HV18.out⟩
theorem lsays_walk (r : Rg) (vm ve : Value) (q : Rg) (vm' ve' : Value) (v2 : Value) (L : List La) (car : Int) (b c : Int × Int) (v6 : Value) (l6 : List Int) (W : World) (hm : HInts W vm r.ms) (he : HE W ve r.es) (hh : -9223372036854775808 ≤ r.ho ∧ r.ho ≤ 9223372036854775807) (hm' : HInts W vm' q.ms) (he' : HE W ve' q.es) (_ : -9223372036854775808 ≤ q.ho ∧ q.ho ≤ 9223372036854775807) (h2 : HLs W v2 L) (h6 : HInts W v6 l6) :
    Calls Tryz.prog 3 #[rgV r vm ve, rgV q vm' ve', v2, .int .i64 car, bidV b, .agg #[.int .i64 c.1, .int .i64 c.2], v6] W fun x w' => x = .returned (.bool true) ∧ W.grownBy w' none :=
  (lsays_true r vm ve q vm' ve' v2 L car b c v6 l6 W hm he hh hm' he' h2 h6).mono fun _ _ ⟨he, hf⟩ => ⟨he, hf.grown (by simp)⟩
end Go.Proofs.YtldheaamcnmlgaaGreat
