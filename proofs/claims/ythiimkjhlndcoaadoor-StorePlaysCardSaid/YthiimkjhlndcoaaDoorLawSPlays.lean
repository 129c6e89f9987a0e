/- The walk of the store's law of plays: whatever is saved: each answer, each byte of the memory, what is there when it is opened anew, are what the chapter says. -/
import Derived.Test.YthiimkjhlndcoaaDoorSFirst
import Derived.Test.YthiimkjhlndcoaaDoorRStore2
import Derived.Deep.RegionHeld3
import Derived.Deep.DeepCutAuto
import Derived.Deep.CutBlock
namespace Go.Proofs.YthiimkjhlndcoaaDoor
open Go.RowKit

/-- The slice v holds n records. -/
def HoldsRec (w : World) (v : Value) (n : Nat) (C N : Nat → Int) : Prop :=
  ∃ a cap, v = .slice a n cap ∧ n ≤ cap ∧ cap ≤ maxLen ∧ (0 < n → ∃ b off, a = some ⟨b, off, none⟩ ∧ ∀ i, i < n →
    w.cell? ⟨b, off + i * 2, none⟩ = some (.int .i64 (C i)) ∧ w.cell? ⟨b, off + i * 2 + 1, none⟩ = some (.int .i64 (N i)))
/-- The program's memory and the document's, side by side, apart. -/
structure SPair (w : World) (p g q h : Nat) (s : CS) : Prop where
  c : Cl w p g s
  x : RCl w q h s
  a : p ≠ q ∧ p ≠ h ∧ g ≠ q ∧ g ≠ h
theorem SPair.fr {w w' : World} {p g q h : Nat} {s : CS} {S : List Nat} (hp : SPair w p g q h s) (hf : Fr w w' S) (hS : p ∉ S ∧ g ∉ S ∧ q ∉ S ∧ h ∉ S) : SPair w' p g q h s :=
  ⟨hp.c.fr hf hS.1 hS.2.1, hp.x.fr hf hS.2.2.1 hS.2.2.2, hp.a⟩
def PlayI (k : Nat) (s : CS) : Prop := s.d = false ∧ s.a = 0 ∧ s.l.length = 30 ∧ s.n ≤ (k : Int) ∧ By8 s.l
theorem play_put (k : Nat) (s : CS) (h : PlayI k s) (i : Nat) (hi : i < 30) (x : Int) (hx : 0 ≤ x ∧ x ≤ 255) : ∃ s', s.put (i : Int) x = (s', 0) ∧ PlayI (k + 1) s' := by
  obtain ⟨hd, ha, hl, hn, hb⟩ := h
  refine ⟨_, s.put_fine i x hd (by omega) (by omega), ⟨hd, ?_, ?_, ?_, ?_⟩⟩
  · simp only; rw [if_pos ha]
  · simpa using hl
  · simp only; omega
  · exact hb.set _ _ hx
theorem play_save (k : Nat) (R : SR) (s : CS) (h : PlayI k s) (c n : Int) : PlayI (k + 14) (R.save s c n).1 := by
  obtain ⟨hd, ha, hl, hn, hb⟩ := h
  have h1 := R.save_l s c n
  have h2 := R.save_n s c n
  have h3 := R.save_by hb c n
  refine ⟨?_, ?_, by rw [h1]; exact hl, by omega, h3⟩
  · by_cases hc : R.code c n = 0
    · rw [R.save_ok s c n hd (by omega) ha hc]; exact hd
    · unfold SR.save; rw [if_neg hc]; exact hd
  · by_cases hc : R.code c n = 0
    · rw [R.save_ok s c n hd (by omega) ha hc]; exact ha
    · unfold SR.save; rw [if_neg hc]; exact ha

set_option maxHeartbeats 8000000 in
set_option maxRecDepth 100000 in
theorem splays_walk (v u : Value) (n : Nat) (C N : Nat → Int) (l : List Int) (hl : ∀ x ∈ l, 0 ≤ x ∧ x ≤ 255) (w : World) (A : Nat → Addr) (hE : E13 w A w.heap.size) (hv : HoldsRec w v n C N) (hu : Holds .u8 w u l) :
    Calls Tryd.prog 4 #[v, u] w fun e w' => e = .returned (.bool true) ∧ w.grownBy w' none := by
  have HE := Lib.hid hE
  obtain ⟨a, cap, rfl, hcap, hcm, hcell⟩ := hv
  obtain ⟨a2, cap2, rfl, hcap2, hcm2, hcell2⟩ := hu
  unfold maxLen at hcm hcm2
  have HCELL := Lib.hid hcell
  have HCELL2 := Lib.hid hcell2
  have HL := Lib.hid hl
  clear hE hcell hcell2 hl
  by_cases hbig : 30 < n ∨ 40 < l.length
  · have hcase : 30 < n ∨ (¬ 30 < n ∧ 40 < l.length) := by omega
    clear hbig
    rcases hcase with h | ⟨h, h'⟩
    all_goals
      go_enter Tryd.func4, Tryd.ntmps4
      go_wp2_with fail
      refine (first3_any _ A (HE.out.evs [2, 4, 5, 7])).mono ?_
      rintro e w1 ⟨rfl, hg1⟩
      go_wp2
      go_ret
      exact ⟨rfl, hg1⟩
  · have h1 : ¬ 30 < n := by omega
    have h2 : ¬ 40 < l.length := by omega
    clear hbig
    go_enter Tryd.func4, Tryd.ntmps4
    go_wp2_with fail
    refine (first3_any _ A (HE.out.evs [2, 4, 5, 7])).mono ?_
    rintro e w1 ⟨rfl, hg1⟩
    have HF1 := Lib.hid (Fr.of_grown hg1 [])
    clear hg1
    go_wp2_with fail
    refine (cellNew_ok 30 _ (by omega) (by omega)).mono ?_
    rintro e w2 ⟨u, rfl, p, g, rfl, h2, hp, hg, hf2⟩
    have hlt := h2.lt
    have HF2 := Lib.hid (HF1.out.trans hf2)
    have HPG := Lib.hid (show w.heap.size ≤ p ∧ w.heap.size ≤ g from ⟨Nat.le_trans HF1.out.size hp, Nat.le_trans HF1.out.size hg⟩)
    have H2 := Lib.hid h2
    have hmk := make_zero w2 30 (by omega) 30 rfl
    obtain ⟨Z, hZ⟩ : ∃ Z, Z = (u8s (List.replicate 30 0)).toArray := ⟨_, rfl⟩
    rw [← hZ] at hmk
    have HZ := Lib.hid hZ
    clear h2 hf2 hp hg hZ
    go_wp2
    generalize hW : World.alloc (World.alloc w2 _) _ = W3
    have hf3 : Fr w2 W3 [] := by rw [← hW]; exact (Fr.alloc _ _ _).trans (Fr.alloc _ _ _)
    have hx3 : RCl W3 (w2.heap.size + 1) w2.heap.size (CS.new 30) := by
      rw [← hW]
      refine ⟨?_, ?_, ?_⟩
      · simp only [CS.new, List.length_replicate]
        have := heap_alloc_new (w2.alloc (.cells Z 5)) (.cells #[.slice (some ⟨w2.heap.size, 0, none⟩) 30 30, .int .i64 0, .int .i64 0, .bool false] 44)
        simpa using this
      · rw [Below.heap_alloc _ _ _ (by simp), heap_alloc_new, HZ.out]; rfl
      · simp [CS.ok, CS.new]
    have hP3 : SPair W3 p g (w2.heap.size + 1) w2.heap.size (CS.new 30) := ⟨H2.out.fr hf3 (by simp) (by simp), hx3, by omega⟩
    have hq0 : w.heap.size ≤ w2.heap.size + 1 ∧ w.heap.size ≤ w2.heap.size := by have := HF2.out.size; omega
    have HF3 := Lib.hid (HF2.out.trans hf3)
    obtain ⟨q, hq⟩ : ∃ q, q = w2.heap.size + 1 := ⟨_, rfl⟩
    obtain ⟨h, hh⟩ : ∃ h, h = w2.heap.size := ⟨_, rfl⟩
    rw [← hq, ← hh] at hP3 hq0
    have HP3 := Lib.hid hP3
    have HQ0 := Lib.hid hq0
    rw [← hq]
    clear hx3 hf3 hP3 hW hmk hlt hq hh hq0
    go_loopw [9] (fun x wr => ∃ (k : Nat) (s : CS), k ≤ l.length ∧ k ≤ 30 ∧ x = .int .i64 k ∧ PlayI k s ∧ SPair wr p g q h s ∧ Fr w wr []) (fun x _ => 30 - (intOf x).toNat)
    case atStart => exact ⟨0, CS.new 30, Nat.zero_le _, by omega, rfl, ⟨rfl, rfl, by simp [CS.new], by simp [CS.new], new_by 30⟩, HP3.out, HF3.out⟩
    case round =>
      obtain ⟨k, s, hk, hk30, rfl, hI, hp, hf⟩ := hrel
      have HI := Lib.hid hI
      have HP := Lib.hid hp
      have HF := Lib.hid hf
      clear hI hp hf HP3 HF3
      have hways : (k < l.length ∧ (k : Int) < 30) ∨ (¬ k < l.length) ∨ (k < l.length ∧ ¬ (k : Int) < 30) := by omega
      rcases hways with ⟨hlt, hlt2⟩ | hrest
      · obtain ⟨bb, off, rfl, hcl⟩ := HCELL2.out (by omega)
        have hcell := HF.out.cell (hcl k hlt) (by simp)
        have hbb := World.block_lt_of_cell? w _ (hcl k hlt)
        simp at hbb
        have hx := HL.out (l.getD k 0) (by simp [hlt])
        obtain ⟨x, hxx⟩ : ∃ x, x = l.getD k 0 := ⟨_, rfl⟩
        rw [← hxx] at hcell hx
        obtain ⟨s', hput, hI'⟩ := play_put k s HI.out k (by omega) x hx
        have hcc := cellPut_any p g s k x wr A w.heap.size HP.out.c (by have := HI.out.2.2.2.1; omega) ((HE.out.evs [4, 5]).fr HF.out (by simp)) HPG.out.1 HPG.out.2
        have hcx := fun W (hW : RCl W q h s) => refPut_cell q h s k x W hW (by have := HI.out.2.2.2.1; omega)
        rw [hput, show ev A 0 = .nilIface from rfl] at hcc
        rw [hput, show fcode 0 = 0 from rfl] at hcx
        have HCC := Lib.hid hcc
        have HCX := Lib.hid hcx
        have HI' := Lib.hid hI'
        have HBB := Lib.hid (show bb ∉ [p, g] by have := HPG.out; simp; omega)
        clear hxx hcl hput hcc hcx hI' hx hbb
        go_wp2_with fail
        refine HCC.out.mono ?_
        rintro e w3 ⟨rfl, h3, hf3⟩
        have hcell3 := hf3.cell hcell HBB.out
        have H3 := Lib.hid h3
        have HX3 := Lib.hid (HP.out.x.fr hf3 (by have := HP.out.a; simp; omega) (by have := HP.out.a; simp; omega))
        have HF3 := Lib.hid (HF.out.new hf3 (by have := HPG.out; simp; omega))
        clear h3 hf3 hcell
        go_wp2_with fail
        refine (HCX.out _ HX3.out).mono ?_
        rintro e w4 ⟨rfl, h4, hf4⟩
        have HP4 := Lib.hid (show SPair w4 p g q h s' from ⟨H3.out.fr hf4 (by have := HP.out.a; simp; omega) (by have := HP.out.a; simp; omega), h4, HP.out.a⟩)
        have HF4 := Lib.hid (HF3.out.new hf4 (by have := HQ0.out; simp; omega))
        clear h4 hf4 hcell3
        go_wp2
        go_roundw
        case rel => exact ⟨k + 1, s', by omega, by omega, by go_num, HI'.out, HP4.out, HF4.out⟩
        case measure => simp [intOf]; omega
      · have hrest2 := hrest
        clear hrest
        have hopc := open_any p g s wr A w.heap.size HP.out.c HI.out.1 (by rw [HI.out.2.2.1]; omega) HI.out.2.2.2.2 ((HE.out.evs [4, 5]).fr HF.out (by simp)) HF.out.size
        have hopx := fun W (hW : RCl W q h s) => refOpen_any q h s W hW HI.out.1 (by rw [HI.out.2.2.1]; omega) HI.out.2.2.2.2
        have HOC := Lib.hid hopc
        have HOX := Lib.hid hopx
        clear hopc hopx
        rcases hrest2 with hz | ⟨hz, hz2⟩
        all_goals
          go_wp2_with fail
          refine HOC.out.mono ?_
          rintro e w3 ⟨u, rfl, sp, rfl, hs3, hsp, hf3⟩
          have HS3 := Lib.hid hs3
          have HP3 := Lib.hid (HP.out.fr hf3 (by simp))
          have HF3 := Lib.hid (HF.out.trans hf3)
          have HSP := Lib.hid (show w.heap.size ≤ sp ∧ sp < w3.heap.size from ⟨Nat.le_trans HF.out.size hsp, hs3.lt⟩)
          clear hs3 hsp hf3
          go_wp2_with fail
          refine (HOX.out _ HP3.out.x).mono ?_
          rintro e w4 ⟨u, rfl, tq, rfl, ht4, htq, hf4⟩
          have HT4 := Lib.hid ht4
          have HS4 := Lib.hid (HS3.out.fr hf4 (by simp))
          have HP4 := Lib.hid (HP3.out.fr hf4 (by simp))
          have HF4 := Lib.hid (HF3.out.trans hf4)
          have HAP := Lib.hid (show w.heap.size ≤ tq ∧ sp ≠ tq ∧ (sp ≠ q ∧ sp ≠ h) ∧ (tq ≠ p ∧ tq ≠ g) by
            have h1 := HSP.out
            have h2 := HP3.out.x.lt
            have h3 := HP3.out.c.lt
            have h4 := HF3.out.size
            refine ⟨by omega, by omega, ⟨fun e => ?_, fun e => ?_⟩, by omega, by omega⟩
            · subst e; have := HS3.out.symm.trans HP3.out.x.1; simp at this
            · subst e; have := HS3.out.symm.trans HP3.out.x.2.1; simp at this)
          clear ht4 htq hf4
          go_wp2
          go_loopw [14] (fun x wq => ∃ (j : Nat) (R : SR) (s : CS), j ≤ n ∧ x = .int .i64 j ∧ PlayI (30 + 14 * j) s ∧ R.in ∧ SPair wq p g q h s ∧ Sr wq sp p R ∧ RSr wq tq q R ∧ Fr w wq []) (fun x _ => n - (intOf x).toNat)
          case atStart => exact ⟨0, _, s, by omega, rfl, ⟨HI.out.1, HI.out.2.1, HI.out.2.2.1, by have := HI.out.2.2.2.1; omega, HI.out.2.2.2.2⟩, openOf_in HI.out.2.2.2.2, HP4.out, HS4.out, HT4.out, HF4.out⟩
          case round =>
            obtain ⟨j, R, s, hj, rfl, hI, hR, hp, hs, ht, hf⟩ := hrel
            have HI2 := Lib.hid hI
            have HR2 := Lib.hid hR
            have HP := Lib.hid hp
            have HS := Lib.hid hs
            have HT := Lib.hid ht
            have HF := Lib.hid hf
            clear hI hR hp hs ht hf HP3 HF3 HP4 HF4 HS3 HS4 HT4 HI HOC HOX
            by_cases hlt : j < n
            · obtain ⟨bb, off, rfl, hcl⟩ := HCELL.out (by omega)
              obtain ⟨c0, c1⟩ := hcl j hlt
              have d0 := HF.out.cell c0 (by simp)
              have d1 := HF.out.cell c1 (by simp)
              have hbb := World.block_lt_of_cell? w _ c0
              simp at hbb
              obtain ⟨c, hc⟩ : ∃ x, x = C j := ⟨_, rfl⟩
              obtain ⟨m, hm⟩ : ∃ x, x = N j := ⟨_, rfl⟩
              rw [← hc] at d0
              rw [← hm] at d1
              have hns : s.n < 9223372036854770000 := by have := HI2.out.2.2.2.1; omega
              have hnpq : p ≠ tq ∧ g ≠ tq := ⟨fun e => HAP.out.2.2.2.1 e.symm, fun e => HAP.out.2.2.2.2 e.symm⟩
              have HX := Lib.hid (show (p ≠ q ∧ p ≠ h ∧ g ≠ q ∧ g ≠ h) ∧ (p ≠ tq ∧ g ≠ tq) ∧ (sp ≠ tq ∧ sp ≠ q ∧ sp ≠ h) from ⟨HP.out.a, hnpq, HAP.out.2.1, HAP.out.2.2.1.1, HAP.out.2.2.1.2⟩)
              have HBB := Lib.hid (show bb ≠ sp ∧ bb ≠ p ∧ bb ≠ g ∧ bb ≠ tq ∧ bb ≠ q ∧ bb ≠ h by have := HPG.out; have := HQ0.out; have := HSP.out; have := HAP.out; omega)
              have HGE := Lib.hid (show ∀ r ∈ [sp, p, g, tq, q, h], w.heap.size ≤ r by have := HPG.out; have := HQ0.out; have := HSP.out; have := HAP.out; simp; omega)
              have hcs := fun W (hW : Fr wr W [tq, q, h]) => save_any sp p g R s c m W A w.heap.size (HS.out.fr hW (by have := HX.out; simp; omega)) (HP.out.c.fr hW (by have := HX.out; simp; omega) (by have := HX.out; simp; omega)) HR2.out hns ((HE.out.evs [2, 4, 5, 7]).fr (HF.out.new hW (fun r hr => HGE.out r (by simp at hr ⊢; omega))) (by simp)) HPG.out.1 HPG.out.2
              have hcx := fun W (hW : Fr wr W [sp, p, g]) => refSave_any tq q h R s c m W (HT.out.fr hW (by have := HX.out; simp; omega)) (HP.out.x.fr hW (by have := HX.out; simp; omega) (by have := HX.out; simp; omega)) HR2.out hns
              have hcode : (R.save s c m).2.2 ≤ 13 := by have := R.save_code s c m; omega
              have his := fun W (hW : Fr wr W [sp, p, g, tq, q, h]) => is_any A w.heap.size (R.save s c m).2.2 _ W (HE.out.fr (HF.out.new hW HGE.out) (by simp)) hcode rfl
              have hPI := play_save _ R s HI2.out c m
              have hRin := SR.save_in HR2.out s c m
              obtain ⟨T, hT⟩ : ∃ T, T = R.save s c m := ⟨_, rfl⟩
              rw [← hT] at hcs hcx his hPI hRin
              obtain ⟨s', R', cd⟩ := T
              simp only at hcs hcx his hPI hRin
              have HCS := Lib.hid hcs
              have HCX := Lib.hid hcx
              have HIS := Lib.hid his
              have HPI := Lib.hid hPI
              have HRI := Lib.hid hRin
              clear hc hm c0 c1 hcl hcs hcx his hcode hPI hRin hT hns hnpq hbb
              go_wp2_with fail
              go_region_held3 (fun w' => w'.cell? ⟨bb, off + j * 2, none⟩ = some (.int .i64 c) ∧ w'.cell? ⟨bb, off + j * 2 + 1, none⟩ = some (.int .i64 m)) (first | exact ⟨d0, d1⟩ | exact ⟨dd0, dd1⟩)
                (first
                  | (go_at_call 17; refine (HCS.out _ hfx0).mono ?_; rintro e wc ⟨rfl, hc1, hs1, hfc⟩; have hall : Fr wr wc [sp, p, g, tq, q, h] := hfx0.comb hfc (by simp) (by simp); have hx2 := hx1.fr hfc (by have := HX.out; simp; omega) (by have := HX.out; simp; omega); have ht2 := ht1.fr hfc (by have := HX.out; simp; omega); have dd0 := hall.cell d0 (by have := HBB.out; simp; omega); have dd1 := hall.cell d1 (by have := HBB.out; simp; omega))
                  | (go_at_call 17; refine (HCS.out _ (Fr.drew _ _)).mono ?_; rintro e wc ⟨rfl, hc1, hs1, hfc⟩; have hfc0 := (Fr.drew wr [sp, p, g]).trans hfc; have dd0 := hfc0.cell d0 (by have := HBB.out; simp; omega); have dd1 := hfc0.cell d1 (by have := HBB.out; simp; omega))
                  | (go_at_call 22; refine (HCX.out _ hfc0).mono ?_; rintro e wx ⟨rfl, hx1, ht1, hfx⟩; have hall : Fr wr wx [sp, p, g, tq, q, h] := hfc0.comb hfx (by simp) (by simp); have hc2 := hc1.fr hfx (by have := HX.out; simp; omega) (by have := HX.out; simp; omega); have hs2 := hs1.fr hfx (by have := HX.out; simp; omega); have dd0 := hall.cell d0 (by have := HBB.out; simp; omega); have dd1 := hall.cell d1 (by have := HBB.out; simp; omega))
                  | (go_at_call 22; refine (HCX.out _ (Fr.drew _ _)).mono ?_; rintro e wx ⟨rfl, hx1, ht1, hfx⟩; have hfx0 := (Fr.drew wr [tq, q, h]).trans hfx; have dd0 := hfx0.cell d0 (by have := HBB.out; simp; omega); have dd1 := hfx0.cell d1 (by have := HBB.out; simp; omega))
                  | (go_at_call 21; refine (HIS.out _ hall).mono ?_; rintro e wi ⟨rfl, hgi⟩; have hdone := Fr.of_grown hgi []; have dd0 := hdone.cell dd0 (by simp); have dd1 := hdone.cell dd1 (by simp)))
              all_goals
                have HPD : Hid (SPair wi p g q h s') := SPair.fr ⟨hc2, hx1, HP.out.a⟩ hdone (by simp)
                have HSD := Lib.hid (hs2.fr hdone (by simp))
                have HTD := Lib.hid (ht1.fr hdone (by simp))
                have HFD := Lib.hid ((HF.out.new hall HGE.out).trans hdone)
                clear hc2 hs2 hx1 ht1 hdone hall hfc0 hc1 hs1 hfx hfc hgi dd0 dd1
                have hopc := open_any p g s' wi A w.heap.size HPD.out.c HPI.out.1 (by rw [HPI.out.2.2.1]; omega) HPI.out.2.2.2.2 ((HE.out.evs [4, 5]).fr HFD.out (by simp)) HFD.out.size
                have hopx := fun W (hW : RCl W q h s') => refOpen_any q h s' W hW HPI.out.1 (by rw [HPI.out.2.2.1]; omega) HPI.out.2.2.2.2
                obtain ⟨R2, hR2⟩ : ∃ x, x = openOf s'.l := ⟨_, rfl⟩
                rw [← hR2] at hopc hopx
                have HOC2 := Lib.hid hopc
                have HOX2 := Lib.hid hopx
                clear hopc hopx hR2 d0 d1
                go_wp2_with fail
                refine HOC2.out.mono ?_
                rintro e w5 ⟨u, rfl, t1, rfl, ht1, ht1p, hf5⟩
                have HT1 := Lib.hid ht1
                have HP5 := Lib.hid (HPD.out.fr hf5 (by simp))
                have HS5 := Lib.hid (HSD.out.fr hf5 (by simp))
                have HTT5 := Lib.hid (HTD.out.fr hf5 (by simp))
                have HF5 := Lib.hid (HFD.out.trans hf5)
                clear ht1 ht1p hf5
                go_wp2_with fail
                refine (HOX2.out _ HP5.out.x).mono ?_
                rintro e w6 ⟨u, rfl, z1, rfl, hz1, hz1p, hf6⟩
                have HZ1 := Lib.hid hz1
                have HT16 := Lib.hid (HT1.out.fr hf6 (by simp))
                have HP6 := Lib.hid (HP5.out.fr hf6 (by simp))
                have HS6 := Lib.hid (HS5.out.fr hf6 (by simp))
                have HTT6 := Lib.hid (HTT5.out.fr hf6 (by simp))
                have HF6 := Lib.hid (HF5.out.trans hf6)
                obtain ⟨_, y0, y1, _⟩ := HTT6.out.cells
                obtain ⟨_, z0, z1', _⟩ := hz1.cells
                have HRS := Lib.hid (fun W (hW : Fr w6 W []) => record_any sp p R' W (HS6.out.fr hW (by simp)))
                have HRT := Lib.hid (fun W (hW : Fr w6 W []) => record_any t1 p R2 W (HT16.out.fr hW (by simp)))
                clear hz1 hz1p hf6
                have hx0 := fun W => fld0 R'.c R'.n W
                have hx1 := fun W => fld1 R'.c R'.n W
                have hx2 := fun W => fld0 R2.c R2.n W
                have hx3 := fun W => fld1 R2.c R2.n W
                have n0 : (R'.c != R'.c) = false := by simp
                have n1 : (R'.n != R'.n) = false := by simp
                have n2 : (R2.c != R2.c) = false := by simp
                have n3 : (R2.n != R2.n) = false := by simp
                go_upto_region 26 with fail
                go_region_held3 (fun w' => w'.cell? ⟨tq, 1, none⟩ = some (.int .i64 R'.c) ∧ w'.cell? ⟨tq, 2, none⟩ = some (.int .i64 R'.n) ∧ w'.cell? ⟨z1, 1, none⟩ = some (.int .i64 R2.c) ∧ w'.cell? ⟨z1, 2, none⟩ = some (.int .i64 R2.n))
                  (first | exact ⟨y0, y1, z0, z1'⟩ | exact ⟨ya0, ya1, za0, za1⟩)
                  (first
                    | (go_at_call 14; ((with_reducible refine (HRT.out _ hc0).mono ?_); rintro e wd ⟨rfl, hd⟩; have hd0 := hc0.trans hd; have ya0 := hd0.cell y0 (by simp); have ya1 := hd0.cell y1 (by simp); have za0 := hd0.cell z0 (by simp); have za1 := hd0.cell z1' (by simp)))
                    | (go_at_call 14; ((with_reducible refine (HRT.out _ hb0).mono ?_); rintro e wc ⟨rfl, hc⟩; have hc0 := hb0.trans hc; have ya0 := hc0.cell y0 (by simp); have ya1 := hc0.cell y1 (by simp); have za0 := hc0.cell z0 (by simp); have za1 := hc0.cell z1' (by simp)))
                    | (go_at_call 14; ((with_reducible refine (HRS.out _ ha0).mono ?_); rintro e wb ⟨rfl, hb⟩; have hb0 := ha0.trans hb; have ya0 := hb0.cell y0 (by simp); have ya1 := hb0.cell y1 (by simp); have za0 := hb0.cell z0 (by simp); have za1 := hb0.cell z1' (by simp)))
                    | (go_at_call 14; ((with_reducible refine (HRS.out _ (Fr.drew w6 [])).mono ?_); rintro e wa ⟨rfl, ha⟩; have ha0 := (Fr.drew w6 []).trans ha; have ya0 := ha0.cell y0 (by simp); have ya1 := ha0.cell y1 (by simp); have za0 := ha0.cell z0 (by simp); have za1 := ha0.cell z1' (by simp))))
                all_goals
                  have HPE := Lib.hid (HP6.out.fr hd0 (by simp))
                  have HSE := Lib.hid (HS6.out.fr hd0 (by simp))
                  have HTE := Lib.hid (HTT6.out.fr hd0 (by simp))
                  have HFE := Lib.hid (HF6.out.trans hd0)
                  clear ha hb hc hd ha0 hb0 hc0 hd0 ya0 ya1 za0 za1 y0 y1 z0 z1' hx0 hx1 hx2 hx3 n0 n1 n2 n3
                  go_wp2
                  go_loopw [19] (fun x wr => ∃ (i : Nat), i ≤ 30 ∧ x = .int .i64 i ∧ SPair wr p g q h s' ∧ Sr wr sp p R' ∧ RSr wr tq q R' ∧ Fr w wr []) (fun x _ => 30 - (intOf x).toNat)
                  case atStart => exact ⟨0, by omega, rfl, HPE.out, HSE.out, HTE.out, HFE.out⟩
                  case round =>
                    obtain ⟨i, hi, rfl, hp7, hs7, ht7, hf7⟩ := hrel
                    have HP7 := Lib.hid hp7
                    have HS7 := Lib.hid hs7
                    have HT7 := Lib.hid ht7
                    have HF7 := Lib.hid hf7
                    clear hp7 hs7 ht7 hf7
                    by_cases hlt3 : i < 30
                    · have hget := cellGet_any p g s' i wr A w.heap.size HP7.out.c ((HE.out.evs [4, 5]).fr HF7.out (by simp))
                      rw [s'.get_ok i HPI.out.1 (by rw [HPI.out.2.2.1]; exact hlt3), show ev A 0 = .nilIface from rfl] at hget
                      obtain ⟨r0, _, _, _⟩ := HP7.out.x.cells
                      obtain ⟨rb, _⟩ := HP7.out.x.byte i (by rw [HPI.out.2.2.1]; exact hlt3)
                      rw [HPI.out.2.2.1] at r0
                      obtain ⟨y, hy⟩ : ∃ y, y = s'.l.getD i 0 := ⟨_, rfl⟩
                      rw [← hy] at hget rb
                      have HG := Lib.hid hget
                      have hne : (y != y) = false := by simp
                      clear hget hy
                      go_wp2_with fail
                      refine HG.out.mono ?_
                      rintro e w8 ⟨rfl, hd8⟩
                      have r0b := (hd8.fr []).cell r0 (by simp)
                      have rbb := (hd8.fr []).cell rb (by simp)
                      have HD8 := Lib.hid (hd8.fr [])
                      clear hd8 r0 rb
                      go_wp2
                      go_roundw
                      case rel => exact ⟨i + 1, by omega, by go_num, HP7.out.fr HD8.out (by simp), HS7.out.fr HD8.out (by simp), HT7.out.fr HD8.out (by simp), HF7.out.trans HD8.out⟩
                      case measure => simp [intOf]; omega
                    · obtain rfl : i = 30 := by omega
                      go_wp2
                      go_roundw
                      case rel => exact ⟨j + 1, R', s', by omega, by go_num, ⟨HPI.out.1, HPI.out.2.1, HPI.out.2.2.1, by have := HPI.out.2.2.2.1; omega, HPI.out.2.2.2.2⟩, HRI.out, HP7.out, HS7.out, HT7.out, HF7.out⟩
                      case measure => simp [intOf]; omega
            · obtain rfl : j = n := by omega
              go_wp2
              go_ret
              exact ⟨rfl, HF.out.grown (by simp)⟩
end Go.Proofs.YthiimkjhlndcoaaDoor
