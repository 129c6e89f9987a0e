/- The walk of the frame's law of what is its own: a copy is its own, deep down; what was read hangs on the bytes alone. -/
import Derived.Test.YtpeocdcciecpoaaDoorFOwn
import Derived.IntWalk
namespace Go.Proofs.YtpeocdcciecpoaaDoor
open Go.RowKit Fm

set_option maxHeartbeats 8000000 in
set_option maxRecDepth 100000 in
theorem fown_case0 (f : F) (vm ve : Value) (n : Int) (hn0 : -9223372036854775808 ≤ n) (hn1 : n ≤ 9223372036854775807) (hK : n % 4 = 0) (w : World) (A : Nat → Addr) (hE : EV [2, 3, 6, 10] w A w.heap.size)
    (hm : Holds .i64 w vm f.rg.ms) (he : HE w ve f.rg.es) (hL : Light f) (hc : frameC f = 0) (hki : f.ki = 2) :
    Calls Tryd.prog 5 #[frV f vm ve, .int .i64 n] w fun e w' => e = .returned (.bool true) ∧ w.grownBy w' none := by
  have HEV := Lib.hid hE
  have HM := Lib.hid hm
  have HX := Lib.hid he
  have N1 := Lib.hid (fun W => (show Calls Tryd.prog 22 #[.int .i64 n, .int .i64 4] W fun e w' => e = .returned (.int .i64 0) ∧ W = w' from hK ▸ numberTo_any n 4 W (by omega) (by omega) hn0 hn1))
  obtain ⟨hrg, hms⟩ := token_ok hc hki
  have HRG := Lib.hid hrg
  have HMS := Lib.hid hms
  have HC := Lib.hid hc
  have HKI := Lib.hid hki
  have HLT := Lib.hid hL
  have HD := Lib.hid (yes hL)
  have hk2 : (f.ki == 2) = true := by simp [hki]
  unfold frV
  have HF0 := Lib.hid (Fr.alloc w (.cells #[.int .i64 f.ki, .int .i64 f.fr, .int .i64 f.to, .int .i64 f.li, .int .i64 f.se, .bool f.ou, .int .i64 f.rg.co, .int .i64 f.rg.fo, .int .i64 f.rg.ho, vm, ve] 29) [])
  have HZ := Lib.hid (heap_alloc_new w (.cells #[.int .i64 f.ki, .int .i64 f.fr, .int .i64 f.to, .int .i64 f.li, .int .i64 f.se, .bool f.ou, .int .i64 f.rg.co, .int .i64 f.rg.fo, .int .i64 f.rg.ho, vm, ve] 29))
  clear hE hm he hrg hms hc hki hL hK hn0 hn1
  go_enter Tryd.func5, Tryd.ntmps5
  go_wp2_with fail
  refine (first5_any _ A _ _ (HEV.out.keep HF0.out)).mono ?_
  rintro e w1 ⟨rfl, hf1⟩
  have k1 := row11 (hf1.heap HZ.out (by simp))
  have F1 := Lib.hid (HF0.out.trans hf1)
  have G1 := Lib.hid hf1
  clear hf1
  go_wp2_with fail
  refine (light_any f vm ve _ HD.out _ (HM.out.keep F1.out) (HX.out.keep F1.out)).mono ?_
  rintro e w2 ⟨rfl, hf2⟩
  have G2 := Lib.hid (G1.out.trans hf2)
  have k2 := row11 (G2.out.heap HZ.out (by simp))
  have F2 := Lib.hid (F1.out.trans hf2)
  clear hf2 k1
  go_wp2_with fail
  refine (valid_frame f vm ve _ A _ _ (HEV.out.keep F2.out) (HM.out.keep F2.out) (HX.out.keep F2.out)).mono ?_
  rintro e w3 ⟨rfl, hf3⟩
  rw [HC.out, show ev A 0 = Value.nilIface from rfl]
  have G3 := Lib.hid (G2.out.trans hf3)
  have k3 := row11 (G3.out.heap HZ.out (by simp))
  have F3 := Lib.hid (F2.out.trans hf3)
  clear hf3 k2
  go_wp2_with fail
  refine (clone_frame f vm ve _ (HM.out.keep F3.out) (HX.out.keep F3.out) (by have := HLT.out.2.1; omega) (by have := HLT.out.2.2; omega) (fun e he => by have := HLT.out.1 e he; omega)).mono ?_
  rintro e w4 ⟨u4, rfl, vm4, ve4, xs, rfl, hm4, he4, hxs, hf4⟩
  obtain ⟨a1, c1, rfl⟩ := hm4.holds.shape
  obtain ⟨a2, c2, rfl⟩ := row_shape he4.1
  unfold frV
  have HXS := Lib.hid hxs
  have M4 := Lib.hid (row_mono hm4 (B' := w.heap.size) F3.out.size)
  have E4 := Lib.hid (he4.mono (B' := w.heap.size) F3.out.size)
  have XA := Lib.hid (Fr.alloc w4 (.cells #[.int .i64 f.ki, .int .i64 f.fr, .int .i64 f.to, .int .i64 f.li, .int .i64 f.se, .bool f.ou, .int .i64 f.rg.co, .int .i64 f.rg.fo, .int .i64 f.rg.ho, (.slice a1 f.rg.ms.length c1), (.slice a2 xs.length c2)] 29) [])
  have XB := Lib.hid (heap_alloc_new w4 (.cells #[.int .i64 f.ki, .int .i64 f.fr, .int .i64 f.to, .int .i64 f.li, .int .i64 f.se, .bool f.ou, .int .i64 f.rg.co, .int .i64 f.rg.fo, .int .i64 f.rg.ho, (.slice a1 f.rg.ms.length c1), (.slice a2 xs.length c2)] 29))
  have F4 := Lib.hid ((F3.out.trans hf4).trans XA.out)
  have G4 := Lib.hid ((G3.out.trans hf4).trans XA.out)
  have k4 := row11 (G4.out.heap HZ.out (by simp))
  have q4 := row11 XB.out
  have b6 := Lib.hid (show w.heap.size < w4.heap.size from size_of_row ((G3.out.trans hf4).heap HZ.out (by simp)))
  clear hm4 he4 hxs hf4 k3
  go_wp2_with fail
  have HSF := same_frame f f (.slice a1 f.rg.ms.length c1) (.slice a2 xs.length c2) vm ve true (iyes rfl) _ (OwnI.holds (row_fr M4.out XA.out (by simp))) (by have h := (E4.out.fr XA.out (by simp)).he; rw [HXS.out] at h; exact h) (HM.out.keep F4.out) (HX.out.keep F4.out)
  unfold frV at HSF
  refine HSF.mono ?_
  clear HSF
  rintro e w5 ⟨rfl, hf5⟩
  have F5 := Lib.hid (F4.out.trans hf5)
  have B5 := Lib.hid ((G4.out.trans hf5).heap HZ.out (by simp))
  have B6 := Lib.hid (hf5.heap XB.out (by simp))
  have M5 := Lib.hid (row_fr M4.out (XA.out.trans hf5) (by simp))
  have E5 := Lib.hid (E4.out.fr (XA.out.trans hf5) (by simp))
  have q5 := row11 B6.out
  have hml : ((f.rg.ms.length : Int) == 0) = false := by have := HMS.out; rw [beq_eq_false_iff_ne]; omega
  have hml1 : (0 : Int) < (f.rg.ms.length : Int) := by have := HMS.out; omega
  clear hf5 k4 q4
  go_wp2_with fail
  refine (N1.out _).mono ?_
  rintro e w6 ⟨rfl, rfl⟩
  obtain ⟨g1, c1', he1, hc1, hg1⟩ := row_head M5.out HMS.out
  simp only [Value.slice.injEq, true_and] at he1
  obtain ⟨rfl, rfl⟩ := he1
  have l0 := (World.ownsRow.cellAt M5.out 0 (by have := HMS.out; omega)).trans (show (i64s f.rg.ms)[0]? = some (.int .i64 (f.rg.ms.getD 0 0)) by have := HMS.out; simp [i64s, this])
  have r0 := World.ownsRow.frozenAt M5.out 0
  obtain ⟨x, hx⟩ : ∃ x, x = f.rg.ms.getD 0 0 := ⟨_, rfl⟩
  rw [← hx] at l0
  have hxr : 0 ≤ x ∧ x ≤ 15 := by rw [hx]; exact HRG.out.2.2.2.2.1 _ (getD_mem HMS.out 0)
  have hwr : IntKind.i64.wrap (x + 1) = x + 1 := IntWalk.i64_in _ (by omega)
  have HXX := Lib.hid hx
  have S6 := Lib.hid (Fr.setCell w5 g1 0 (.int .i64 (x + 1)) (S := [g1]) (by simp))
  have gb := Lib.hid ((World.ownsRow.lt M5.out g1 rfl).1)
  have n5 : w.heap.size ≠ g1 := fun e => row_ne M5.out B5.out (by decide) (by rw [e]; rfl)
  have n6 : w4.heap.size ≠ g1 := fun e => row_ne M5.out B6.out (by decide) (by rw [e]; rfl)
  have FQ := Lib.hid (F5.out.new S6.out (by intro r hr; obtain rfl := List.mem_singleton.1 hr; exact gb.out))
  have HNE : Hid (({ f with rg := { f.rg with ms := f.rg.ms.set 0 (x + 1) } } : F) ≠ f) := ms_ne f _ (set_ne _ HMS.out _ (by rw [← HXX.out]; omega))
  have HS0 : Hid (OwnS w.heap.size w4.heap.size f ({ f with rg := { f.rg with ms := f.rg.ms.set 0 (x + 1) } } : F) vm ve (.slice (some ⟨g1, 0, none⟩) f.rg.ms.length c1) (.slice a2 xs.length c2) (w5.setCell ⟨g1, 0, none⟩ (.int .i64 (x + 1)))) :=
    ⟨C11.of (S6.out.heap B5.out (by simpa using n5)), C11.of (f := { f with rg := { f.rg with ms := f.rg.ms.set 0 (x + 1) } }) (S6.out.heap B6.out (by simpa using n6))⟩
  have HMg := Lib.hid (OwnI.put M5.out 0 (x + 1)).holds
  have HEg : Hid (HE (w5.setCell ⟨g1, 0, none⟩ (.int .i64 (x + 1))) (.slice a2 xs.length c2) f.rg.es) := by
    obtain ⟨cs, hcs⟩ := row_at M5.out
    have h := (E5.out.fr S6.out (by intro r hr; obtain rfl := List.mem_singleton.1 hr; exact ⟨cs, _, hcs, by decide, by decide⟩)).he
    rw [HXS.out] at h
    exact h
  clear hx hxr n5 n6 hc1 hg1
  go_wp2_with fail
  have HSAME := Lib.hid (fun W (hW : Fr w W []) (h1 : Holds .i64 W (.slice (some ⟨g1, 0, none⟩) f.rg.ms.length c1) ({ f with rg := { f.rg with ms := f.rg.ms.set 0 (x + 1) } } : F).rg.ms) (h2 : HE W (.slice a2 xs.length c2) ({ f with rg := { f.rg with ms := f.rg.ms.set 0 (x + 1) } } : F).rg.es) => (show Calls Tryd.prog 14 #[.agg #[.int .i64 f.ki, .int .i64 f.fr, .int .i64 f.to, .int .i64 f.li, .int .i64 f.se, .bool f.ou, .int .i64 f.rg.co, .int .i64 f.rg.fo, .int .i64 f.rg.ho, (.slice (some ⟨g1, 0, none⟩) f.rg.ms.length c1), (.slice a2 xs.length c2)], .agg #[.int .i64 f.ki, .int .i64 f.fr, .int .i64 f.to, .int .i64 f.li, .int .i64 f.se, .bool f.ou, .int .i64 f.rg.co, .int .i64 f.rg.fo, .int .i64 f.rg.ho, vm, ve]] W fun e w' => e = .returned (.bool false) ∧ Fr W w' [] from same_frame ({ f with rg := { f.rg with ms := f.rg.ms.set 0 (x + 1) } } : F) f (.slice (some ⟨g1, 0, none⟩) f.rg.ms.length c1) (.slice a2 xs.length c2) vm ve false (ino HNE.out) W h1 h2 (HM.out.keep hW) (HX.out.keep hW)))
  have HVAL := Lib.hid (fun W (hW : Fr w W []) => (show Calls Tryd.prog 13 #[.agg #[.int .i64 f.ki, .int .i64 f.fr, .int .i64 f.to, .int .i64 f.li, .int .i64 f.se, .bool f.ou, .int .i64 f.rg.co, .int .i64 f.rg.fo, .int .i64 f.rg.ho, vm, ve]] W fun e w' => e = .returned .nilIface ∧ Fr W w' [] from (by have h := valid_frame f vm ve W A _ _ (HEV.out.keep hW) (HM.out.keep hW) (HX.out.keep hW); rw [HC.out] at h; exact h)))
  have HCLN := Lib.hid (fun W (hW : Fr w W []) => (show Calls Tryd.prog 16 #[.agg #[.int .i64 f.ki, .int .i64 f.fr, .int .i64 f.to, .int .i64 f.li, .int .i64 f.se, .bool f.ou, .int .i64 f.rg.co, .int .i64 f.rg.fo, .int .i64 f.rg.ho, vm, ve]] W (Gives (ClnP f W)) from clone_frame f vm ve W (HM.out.keep hW) (HX.out.keep hW) (by have := HLT.out.2.1; omega) (by have := HLT.out.2.2; omega) (fun e he => by have := HLT.out.1 e he; omega)))
  have HRS := Lib.hid (fun W um ue (hW : Fr w W []) (h1 : Holds .i64 W um f.rg.ms) (h2 : HE W ue f.rg.es) => (show Calls Tryd.prog 15 #[.agg #[.int .i64 f.ki, .int .i64 f.fr, .int .i64 f.to, .int .i64 f.li, .int .i64 f.se, .bool f.ou, .int .i64 f.rg.co, .int .i64 f.rg.fo, .int .i64 f.rg.ho, vm, ve], .agg #[.int .i64 f.ki, .int .i64 f.fr, .int .i64 f.to, .int .i64 f.li, .int .i64 f.se, .bool f.ou, .int .i64 f.rg.co, .int .i64 f.rg.fo, .int .i64 f.rg.ho, um, ue]] W fun e w' => e = .returned (.bool true) ∧ Fr W w' [] from rsame_frame f f vm ve um ue true (iyes rfl) W (HM.out.keep hW) (HX.out.keep hW) h1 h2))
  refine wp_region_noPanic ?_
  refine wp_region_held_drew (S := OwnS w.heap.size w4.heap.size f ({ f with rg := { f.rg with ms := f.rg.ms.set 0 (x + 1) } } : F) vm ve (.slice (some ⟨g1, 0, none⟩) f.rg.ms.length c1) (.slice a2 xs.length c2)) (by kernel_rfl) (HS0.out.keep (Fr.drew _ [])) (fun hHeld => ?_)
  refine wpAnyH_take (i := 0) (oi := _) (v := ?fv0x) (by simp only [List.getElem?_toArray, List.getElem?_cons_zero]; rfl) (by kernel_rfl) (by kernel_rfl) (by kernel_rfl) (fun _ _ _ h => h) (Or.inl ⟨by rfl, ?fy0x⟩) (by assumption) ?fr0x
  case fy0x => (intro w hSw; (try dsimp only [OwnS, C11] at hSw); go_simp; try with_reducible rfl)
  try simp only [Act.put, List.setIfInBounds_toArray, List.set_cons_zero, List.set_cons_succ]
  refine wpAnyH_take (i := 1) (oi := _) (v := ?fv1x) (by simp only [List.getElem?_toArray, List.getElem?_cons_zero, List.getElem?_cons_succ]; rfl) (by kernel_rfl) (by kernel_rfl) (by kernel_rfl) (fun _ _ _ h => h) (Or.inl ⟨by rfl, ?fy1x⟩) (by assumption) ?fr1x
  case fy1x => (intro w hSw; (try dsimp only [OwnS, C11] at hSw); go_simp; try with_reducible rfl)
  try simp only [Act.put, List.setIfInBounds_toArray, List.set_cons_zero, List.set_cons_succ]
  refine wpAnyH_take (i := 2) (oi := _) (v := ?fv2x) (by simp only [List.getElem?_toArray, List.getElem?_cons_zero, List.getElem?_cons_succ]; rfl) (by kernel_rfl) (by kernel_rfl) (by kernel_rfl) (fun _ _ _ h => h) (Or.inl ⟨by rfl, ?fy2x⟩) (by assumption) ?fr2x
  case fy2x => (intro w hSw; (try dsimp only [OwnS, C11] at hSw); go_simp; try with_reducible rfl)
  try simp only [Act.put, List.setIfInBounds_toArray, List.set_cons_zero, List.set_cons_succ]
  refine wpAnyH_take (i := 3) (oi := _) (v := ?fv3x) (by simp only [List.getElem?_toArray, List.getElem?_cons_zero, List.getElem?_cons_succ]; rfl) (by kernel_rfl) (by kernel_rfl) (by kernel_rfl) (fun _ _ _ h => h) (Or.inl ⟨by rfl, ?fy3x⟩) (by assumption) ?fr3x
  case fy3x => (intro w hSw; (try dsimp only [OwnS, C11] at hSw); go_simp; try with_reducible rfl)
  try simp only [Act.put, List.setIfInBounds_toArray, List.set_cons_zero, List.set_cons_succ]
  refine wpAnyH_ready (rs := [4]) (by kernel_rfl) (by simp) ?_
  refine AllReadyH.cons (o := _) rfl (fun K hK => ?_) AllReadyH.nil
  go_simp
  with_reducible refine (HSAME.out _ (FQ.out.trans (Fr.drew _ [])) (HMg.out.keep (Fr.drew _ [])) (HEg.out.keep (Fr.drew _ []))).mono ?_
  rintro e wa ⟨rfl, hfa⟩
  have FA := Lib.hid ((Fr.drew _ []).trans hfa)
  have hsa := (HS0.out.keep (Fr.drew _ [])).keep hfa
  clear hfa
  go_wp2_with fail
  refine hK.out _ _ hsa (fun hHeld => ?_)
  clear hK K
  try simp only [Act.put, List.setIfInBounds_toArray, List.set_cons_zero, List.set_cons_succ]
  refine wpAnyH_take (i := 5) (oi := _) (v := ?fv5x) (by simp only [List.getElem?_toArray, List.getElem?_cons_zero, List.getElem?_cons_succ]; rfl) (by kernel_rfl) (by kernel_rfl) (by kernel_rfl) (fun _ _ _ h => h) (Or.inl ⟨by rfl, ?fy5x⟩) (by assumption) ?fr5x
  case fy5x => (intro w hSw; (try dsimp only [OwnS, C11] at hSw); go_simp; try with_reducible rfl)
  try simp only [Act.put, List.setIfInBounds_toArray, List.set_cons_zero, List.set_cons_succ]
  refine wpAnyH_take (i := 6) (oi := _) (v := ?fv6x) (by simp only [List.getElem?_toArray, List.getElem?_cons_zero, List.getElem?_cons_succ]; rfl) (by kernel_rfl) (by kernel_rfl) (by kernel_rfl) (fun _ _ _ h => h) (Or.inl ⟨by rfl, ?fy6x⟩) (by assumption) ?fr6x
  case fy6x => (intro w hSw; (try dsimp only [OwnS, C11] at hSw); go_simp; try with_reducible rfl)
  try simp only [Act.put, List.setIfInBounds_toArray, List.set_cons_zero, List.set_cons_succ]
  refine wpAnyH_take (i := 7) (oi := _) (v := ?fv7x) (by simp only [List.getElem?_toArray, List.getElem?_cons_zero, List.getElem?_cons_succ]; rfl) (by kernel_rfl) (by kernel_rfl) (by kernel_rfl) (fun _ _ _ h => h) (Or.inl ⟨by rfl, ?fy7x⟩) (by assumption) ?fr7x
  case fy7x => (intro w hSw; (try dsimp only [OwnS, C11] at hSw); go_simp; try with_reducible rfl)
  try simp only [Act.put, List.setIfInBounds_toArray, List.set_cons_zero, List.set_cons_succ]
  refine wpAnyH_take (i := 8) (oi := _) (v := ?fv8x) (by simp only [List.getElem?_toArray, List.getElem?_cons_zero, List.getElem?_cons_succ]; rfl) (by kernel_rfl) (by kernel_rfl) (by kernel_rfl) (fun _ _ _ h => h) (Or.inl ⟨by rfl, ?fy8x⟩) (by assumption) ?fr8x
  case fy8x => (intro w hSw; (try dsimp only [OwnS, C11] at hSw); go_simp; try with_reducible rfl)
  try simp only [Act.put, List.setIfInBounds_toArray, List.set_cons_zero, List.set_cons_succ]
  refine wpAnyH_ready (rs := [9]) (by kernel_rfl) (by simp) ?_
  refine AllReadyH.cons (o := _) rfl (fun K hK => ?_) AllReadyH.nil
  go_simp
  with_reducible refine (HVAL.out _ (FQ.out.trans FA.out)).mono ?_
  rintro e wb ⟨rfl, hfb⟩
  have FB' := Lib.hid (FA.out.trans hfb)
  have hsb := hsa.keep hfb
  clear hfb
  go_wp2_with fail
  refine hK.out _ _ hsb (fun hHeld => ?_)
  clear hK K
  try simp only [Act.put, List.setIfInBounds_toArray, List.set_cons_zero, List.set_cons_succ]
  refine wpAnyH_take (i := 10) (oi := _) (v := ?fv10x) (by simp only [List.getElem?_toArray, List.getElem?_cons_zero, List.getElem?_cons_succ]; rfl) (by kernel_rfl) (by kernel_rfl) (by kernel_rfl) (fun _ _ _ h => h) (Or.inl ⟨by rfl, ?fy10x⟩) (by assumption) ?fr10x
  case fy10x => (intro w hSw; (try dsimp only [OwnS, C11] at hSw); go_simp; try with_reducible rfl)
  try simp only [Act.put, List.setIfInBounds_toArray, List.set_cons_zero, List.set_cons_succ]
  refine wpAnyH_take (i := 11) (oi := _) (v := ?fv11x) (by simp only [List.getElem?_toArray, List.getElem?_cons_zero, List.getElem?_cons_succ]; rfl) (by kernel_rfl) (by kernel_rfl) (by kernel_rfl) (fun _ _ _ h => h) (Or.inl ⟨by rfl, ?fy11x⟩) (by assumption) ?fr11x
  case fy11x => (intro w hSw; (try dsimp only [OwnS, C11] at hSw); go_simp; try with_reducible rfl)
  try simp only [Act.put, List.setIfInBounds_toArray, List.set_cons_zero, List.set_cons_succ]
  refine wpAnyH_take (i := 12) (oi := _) (v := ?fv12x) (by simp only [List.getElem?_toArray, List.getElem?_cons_zero, List.getElem?_cons_succ]; rfl) (by kernel_rfl) (by kernel_rfl) (by kernel_rfl) (fun _ _ _ h => h) (Or.inl ⟨by rfl, ?fy12x⟩) (by assumption) ?fr12x
  case fy12x => (intro w hSw; (try dsimp only [OwnS, C11] at hSw); go_simp; try with_reducible rfl)
  try simp only [Act.put, List.setIfInBounds_toArray, List.set_cons_zero, List.set_cons_succ]
  refine wpAnyH_take (i := 13) (oi := _) (v := ?fv13x) (by simp only [List.getElem?_toArray, List.getElem?_cons_zero, List.getElem?_cons_succ]; rfl) (by kernel_rfl) (by kernel_rfl) (by kernel_rfl) (fun _ _ _ h => h) (Or.inl ⟨by rfl, ?fy13x⟩) (by assumption) ?fr13x
  case fy13x => (intro w hSw; (try dsimp only [OwnS, C11] at hSw); go_simp; try with_reducible rfl)
  try simp only [Act.put, List.setIfInBounds_toArray, List.set_cons_zero, List.set_cons_succ]
  refine wpAnyH_take (i := 14) (oi := _) (v := ?fv14x) (by simp only [List.getElem?_toArray, List.getElem?_cons_zero, List.getElem?_cons_succ]; rfl) (by kernel_rfl) (by kernel_rfl) (by kernel_rfl) (fun _ _ _ h => h) (Or.inl ⟨by rfl, ?fy14x⟩) (by assumption) ?fr14x
  case fy14x => (intro w hSw; (try dsimp only [OwnS, C11] at hSw); go_simp; try with_reducible rfl)
  try simp only [Act.put, List.setIfInBounds_toArray, List.set_cons_zero, List.set_cons_succ]
  refine wpAnyH_ready (rs := [15]) (by kernel_rfl) (by simp) ?_
  refine AllReadyH.cons (o := _) rfl (fun K hK => ?_) AllReadyH.nil
  go_simp
  with_reducible refine (HCLN.out _ (FQ.out.trans FB'.out)).mono ?_
  rintro e wc ⟨u, rfl, um, ue, ys, rfl, o1, o2, hys, hfc⟩
  have UM := Lib.hid o1.holds
  have UE := Lib.hid (show HE wc ue f.rg.es from hys ▸ o2.he)
  have FC := Lib.hid (FB'.out.trans hfc)
  have hsc := hsb.keep hfc
  clear o1 o2 hys hfc
  unfold frV
  go_wp2_with fail
  refine hK.out _ _ hsc (fun hHeld => ?_)
  clear hK K
  try simp only [Act.put, List.setIfInBounds_toArray, List.set_cons_zero, List.set_cons_succ]
  refine wpAnyH_ready (rs := [16]) (by kernel_rfl) (by simp) ?_
  refine AllReadyH.cons (o := _) rfl (fun K hK => ?_) AllReadyH.nil
  go_simp
  with_reducible refine (HRS.out _ um ue (FQ.out.trans FC.out) UM.out UE.out).mono ?_
  rintro e wd ⟨rfl, hfd⟩
  have FD := Lib.hid (FQ.out.trans (FC.out.trans hfd))
  have hsd := hsc.keep hfd
  clear hfd
  go_wp2_with fail
  refine hK.out _ _ hsd (fun hHeld => ?_)
  clear hK K
  try simp only [Act.put, List.setIfInBounds_toArray, List.set_cons_zero, List.set_cons_succ]
  refine wpAnyH_take (i := 17) (oi := _) (v := ?fv17x) (by simp only [List.getElem?_toArray, List.getElem?_cons_zero, List.getElem?_cons_succ]; rfl) (by kernel_rfl) (by kernel_rfl) (by kernel_rfl) (fun _ _ _ h => h) (Or.inl ⟨by rfl, ?fy17x⟩) (by assumption) ?fr17x
  case fy17x => (intro w hSw; (try dsimp only [OwnS, C11] at hSw); go_simp; try with_reducible rfl)
  try simp only [Act.put, List.setIfInBounds_toArray, List.set_cons_zero, List.set_cons_succ]
  refine wpAnyH_take (i := 18) (oi := _) (v := ?fv18x) (by simp only [List.getElem?_toArray, List.getElem?_cons_zero, List.getElem?_cons_succ]; rfl) (by kernel_rfl) (by kernel_rfl) (by kernel_rfl) (fun _ _ _ h => h) (Or.inl ⟨by rfl, ?fy18x⟩) (by assumption) ?fr18x
  case fy18x => (intro w hSw; (try dsimp only [OwnS, C11] at hSw); go_simp; try with_reducible rfl)
  try simp only [Act.put, List.setIfInBounds_toArray, List.set_cons_zero, List.set_cons_succ]
  refine wpAnyH_done (by kernel_rfl) ?_ _
  refine NoPanic.normal ?_
  clear hsa hsb hsc hsd
  go_wp2
  go_ret
  exact ⟨rfl, FD.out.grown (by simp)⟩
set_option maxHeartbeats 8000000 in
set_option maxRecDepth 100000 in
theorem fown_case1 (f : F) (vm ve : Value) (n : Int) (hn0 : -9223372036854775808 ≤ n) (hn1 : n ≤ 9223372036854775807) (hK : n % 4 = 1) (w : World) (A : Nat → Addr) (hE : EV [2, 3, 6, 10] w A w.heap.size)
    (hm : Holds .i64 w vm f.rg.ms) (he : HE w ve f.rg.es) (hL : Light f) (hc : frameC f = 0) (hki : f.ki = 2) :
    Calls Tryd.prog 5 #[frV f vm ve, .int .i64 n] w fun e w' => e = .returned (.bool true) ∧ w.grownBy w' none := by
  have HEV := Lib.hid hE
  have HM := Lib.hid hm
  have HX := Lib.hid he
  have N1 := Lib.hid (fun W => (show Calls Tryd.prog 22 #[.int .i64 n, .int .i64 4] W fun e w' => e = .returned (.int .i64 1) ∧ W = w' from hK ▸ numberTo_any n 4 W (by omega) (by omega) hn0 hn1))
  obtain ⟨hrg, hms⟩ := token_ok hc hki
  have HRG := Lib.hid hrg
  have HMS := Lib.hid hms
  have HC := Lib.hid hc
  have HKI := Lib.hid hki
  have HLT := Lib.hid hL
  have HD := Lib.hid (yes hL)
  have hk2 : (f.ki == 2) = true := by simp [hki]
  unfold frV
  have HF0 := Lib.hid (Fr.alloc w (.cells #[.int .i64 f.ki, .int .i64 f.fr, .int .i64 f.to, .int .i64 f.li, .int .i64 f.se, .bool f.ou, .int .i64 f.rg.co, .int .i64 f.rg.fo, .int .i64 f.rg.ho, vm, ve] 29) [])
  have HZ := Lib.hid (heap_alloc_new w (.cells #[.int .i64 f.ki, .int .i64 f.fr, .int .i64 f.to, .int .i64 f.li, .int .i64 f.se, .bool f.ou, .int .i64 f.rg.co, .int .i64 f.rg.fo, .int .i64 f.rg.ho, vm, ve] 29))
  clear hE hm he hrg hms hc hki hL hK hn0 hn1
  go_enter Tryd.func5, Tryd.ntmps5
  go_wp2_with fail
  refine (first5_any _ A _ _ (HEV.out.keep HF0.out)).mono ?_
  rintro e w1 ⟨rfl, hf1⟩
  have k1 := row11 (hf1.heap HZ.out (by simp))
  have F1 := Lib.hid (HF0.out.trans hf1)
  have G1 := Lib.hid hf1
  clear hf1
  go_wp2_with fail
  refine (light_any f vm ve _ HD.out _ (HM.out.keep F1.out) (HX.out.keep F1.out)).mono ?_
  rintro e w2 ⟨rfl, hf2⟩
  have G2 := Lib.hid (G1.out.trans hf2)
  have k2 := row11 (G2.out.heap HZ.out (by simp))
  have F2 := Lib.hid (F1.out.trans hf2)
  clear hf2 k1
  go_wp2_with fail
  refine (valid_frame f vm ve _ A _ _ (HEV.out.keep F2.out) (HM.out.keep F2.out) (HX.out.keep F2.out)).mono ?_
  rintro e w3 ⟨rfl, hf3⟩
  rw [HC.out, show ev A 0 = Value.nilIface from rfl]
  have G3 := Lib.hid (G2.out.trans hf3)
  have k3 := row11 (G3.out.heap HZ.out (by simp))
  have F3 := Lib.hid (F2.out.trans hf3)
  clear hf3 k2
  go_wp2_with fail
  refine (clone_frame f vm ve _ (HM.out.keep F3.out) (HX.out.keep F3.out) (by have := HLT.out.2.1; omega) (by have := HLT.out.2.2; omega) (fun e he => by have := HLT.out.1 e he; omega)).mono ?_
  rintro e w4 ⟨u4, rfl, vm4, ve4, xs, rfl, hm4, he4, hxs, hf4⟩
  obtain ⟨a1, c1, rfl⟩ := hm4.holds.shape
  obtain ⟨a2, c2, rfl⟩ := row_shape he4.1
  unfold frV
  have HXS := Lib.hid hxs
  have M4 := Lib.hid (row_mono hm4 (B' := w.heap.size) F3.out.size)
  have E4 := Lib.hid (he4.mono (B' := w.heap.size) F3.out.size)
  have XA := Lib.hid (Fr.alloc w4 (.cells #[.int .i64 f.ki, .int .i64 f.fr, .int .i64 f.to, .int .i64 f.li, .int .i64 f.se, .bool f.ou, .int .i64 f.rg.co, .int .i64 f.rg.fo, .int .i64 f.rg.ho, (.slice a1 f.rg.ms.length c1), (.slice a2 xs.length c2)] 29) [])
  have XB := Lib.hid (heap_alloc_new w4 (.cells #[.int .i64 f.ki, .int .i64 f.fr, .int .i64 f.to, .int .i64 f.li, .int .i64 f.se, .bool f.ou, .int .i64 f.rg.co, .int .i64 f.rg.fo, .int .i64 f.rg.ho, (.slice a1 f.rg.ms.length c1), (.slice a2 xs.length c2)] 29))
  have F4 := Lib.hid ((F3.out.trans hf4).trans XA.out)
  have G4 := Lib.hid ((G3.out.trans hf4).trans XA.out)
  have k4 := row11 (G4.out.heap HZ.out (by simp))
  have q4 := row11 XB.out
  have b6 := Lib.hid (show w.heap.size < w4.heap.size from size_of_row ((G3.out.trans hf4).heap HZ.out (by simp)))
  clear hm4 he4 hxs hf4 k3
  go_wp2_with fail
  have HSF := same_frame f f (.slice a1 f.rg.ms.length c1) (.slice a2 xs.length c2) vm ve true (iyes rfl) _ (OwnI.holds (row_fr M4.out XA.out (by simp))) (by have h := (E4.out.fr XA.out (by simp)).he; rw [HXS.out] at h; exact h) (HM.out.keep F4.out) (HX.out.keep F4.out)
  unfold frV at HSF
  refine HSF.mono ?_
  clear HSF
  rintro e w5 ⟨rfl, hf5⟩
  have F5 := Lib.hid (F4.out.trans hf5)
  have B5 := Lib.hid ((G4.out.trans hf5).heap HZ.out (by simp))
  have B6 := Lib.hid (hf5.heap XB.out (by simp))
  have M5 := Lib.hid (row_fr M4.out (XA.out.trans hf5) (by simp))
  have E5 := Lib.hid (E4.out.fr (XA.out.trans hf5) (by simp))
  have q5 := row11 B6.out
  have hml : ((f.rg.ms.length : Int) == 0) = false := by have := HMS.out; rw [beq_eq_false_iff_ne]; omega
  have hml1 : (0 : Int) < (f.rg.ms.length : Int) := by have := HMS.out; omega
  clear hf5 k4 q4
  go_wp2_with fail
  refine (N1.out _).mono ?_
  rintro e w6 ⟨rfl, rfl⟩
  obtain ⟨x, hx⟩ : ∃ x, x = f.rg.ho + 1 := ⟨_, rfl⟩
  have hwr : IntKind.i64.wrap (f.rg.ho + 1) = x := by rw [hx]; exact IntWalk.i64_in _ (by have := HRG.out.2.2.1; omega)
  have HXX := Lib.hid hx
  have S6 := Lib.hid (Fr.setCell w5 w4.heap.size 8 (.int .i64 x) (S := [w4.heap.size]) (by simp))
  have z8 := frozen_of_row _ _ 8 _ _ B6.out
  have FQ := Lib.hid (F5.out.new S6.out (by intro r hr; obtain rfl := List.mem_singleton.1 hr; have := b6.out; omega))
  have HNE : Hid (({ f with rg := { f.rg with ho := x } } : F) ≠ f) := ho_ne f _ (by rw [HXX.out]; omega)
  have BQ : Hid ((w5.setCell ⟨w4.heap.size, 8, none⟩ (.int .i64 x)).heap[w4.heap.size]? = some (.cells #[.int .i64 f.ki, .int .i64 f.fr, .int .i64 f.to, .int .i64 f.li, .int .i64 f.se, .bool f.ou, .int .i64 f.rg.co, .int .i64 f.rg.fo, .int .i64 x, (.slice a1 f.rg.ms.length c1), (.slice a2 xs.length c2)] 29 (0, 0))) := heap_setCell_same _ w4.heap.size 8 _ _ (.int .i64 x) B6.out
  have HS0 : Hid (OwnS w.heap.size w4.heap.size f ({ f with rg := { f.rg with ho := x } } : F) vm ve (.slice a1 f.rg.ms.length c1) (.slice a2 xs.length c2) (w5.setCell ⟨w4.heap.size, 8, none⟩ (.int .i64 x))) :=
    ⟨C11.of (S6.out.heap B5.out (by have := b6.out; simp; omega)), C11.of (f := { f with rg := { f.rg with ho := x } }) BQ.out⟩
  have HMg := Lib.hid (OwnI.holds (B := w.heap.size) (row_fr M5.out S6.out (by intro r hr; obtain rfl := List.mem_singleton.1 hr; exact row_ne M5.out B6.out (by decide))))
  have HEg : Hid (HE (w5.setCell ⟨w4.heap.size, 8, none⟩ (.int .i64 x)) (.slice a2 xs.length c2) f.rg.es) := by
    have h := (E5.out.fr S6.out (by intro r hr; obtain rfl := List.mem_singleton.1 hr; exact ⟨_, _, B6.out, by decide, by decide⟩)).he
    rw [HXS.out] at h
    exact h
  clear hx
  go_wp2_with fail
  have HSAME := Lib.hid (fun W (hW : Fr w W []) (h1 : Holds .i64 W (.slice a1 f.rg.ms.length c1) ({ f with rg := { f.rg with ho := x } } : F).rg.ms) (h2 : HE W (.slice a2 xs.length c2) ({ f with rg := { f.rg with ho := x } } : F).rg.es) => (show Calls Tryd.prog 14 #[.agg #[.int .i64 f.ki, .int .i64 f.fr, .int .i64 f.to, .int .i64 f.li, .int .i64 f.se, .bool f.ou, .int .i64 f.rg.co, .int .i64 f.rg.fo, .int .i64 x, (.slice a1 f.rg.ms.length c1), (.slice a2 xs.length c2)], .agg #[.int .i64 f.ki, .int .i64 f.fr, .int .i64 f.to, .int .i64 f.li, .int .i64 f.se, .bool f.ou, .int .i64 f.rg.co, .int .i64 f.rg.fo, .int .i64 f.rg.ho, vm, ve]] W fun e w' => e = .returned (.bool false) ∧ Fr W w' [] from same_frame ({ f with rg := { f.rg with ho := x } } : F) f (.slice a1 f.rg.ms.length c1) (.slice a2 xs.length c2) vm ve false (ino HNE.out) W h1 h2 (HM.out.keep hW) (HX.out.keep hW)))
  have HVAL := Lib.hid (fun W (hW : Fr w W []) => (show Calls Tryd.prog 13 #[.agg #[.int .i64 f.ki, .int .i64 f.fr, .int .i64 f.to, .int .i64 f.li, .int .i64 f.se, .bool f.ou, .int .i64 f.rg.co, .int .i64 f.rg.fo, .int .i64 f.rg.ho, vm, ve]] W fun e w' => e = .returned .nilIface ∧ Fr W w' [] from (by have h := valid_frame f vm ve W A _ _ (HEV.out.keep hW) (HM.out.keep hW) (HX.out.keep hW); rw [HC.out] at h; exact h)))
  have HCLN := Lib.hid (fun W (hW : Fr w W []) => (show Calls Tryd.prog 16 #[.agg #[.int .i64 f.ki, .int .i64 f.fr, .int .i64 f.to, .int .i64 f.li, .int .i64 f.se, .bool f.ou, .int .i64 f.rg.co, .int .i64 f.rg.fo, .int .i64 f.rg.ho, vm, ve]] W (Gives (ClnP f W)) from clone_frame f vm ve W (HM.out.keep hW) (HX.out.keep hW) (by have := HLT.out.2.1; omega) (by have := HLT.out.2.2; omega) (fun e he => by have := HLT.out.1 e he; omega)))
  have HRS := Lib.hid (fun W um ue (hW : Fr w W []) (h1 : Holds .i64 W um f.rg.ms) (h2 : HE W ue f.rg.es) => (show Calls Tryd.prog 15 #[.agg #[.int .i64 f.ki, .int .i64 f.fr, .int .i64 f.to, .int .i64 f.li, .int .i64 f.se, .bool f.ou, .int .i64 f.rg.co, .int .i64 f.rg.fo, .int .i64 f.rg.ho, vm, ve], .agg #[.int .i64 f.ki, .int .i64 f.fr, .int .i64 f.to, .int .i64 f.li, .int .i64 f.se, .bool f.ou, .int .i64 f.rg.co, .int .i64 f.rg.fo, .int .i64 f.rg.ho, um, ue]] W fun e w' => e = .returned (.bool true) ∧ Fr W w' [] from rsame_frame f f vm ve um ue true (iyes rfl) W (HM.out.keep hW) (HX.out.keep hW) h1 h2))
  refine wp_region_noPanic ?_
  refine wp_region_held_drew (S := OwnS w.heap.size w4.heap.size f ({ f with rg := { f.rg with ho := x } } : F) vm ve (.slice a1 f.rg.ms.length c1) (.slice a2 xs.length c2)) (by kernel_rfl) (HS0.out.keep (Fr.drew _ [])) (fun hHeld => ?_)
  refine wpAnyH_take (i := 0) (oi := _) (v := ?fv0x) (by simp only [List.getElem?_toArray, List.getElem?_cons_zero]; rfl) (by kernel_rfl) (by kernel_rfl) (by kernel_rfl) (fun _ _ _ h => h) (Or.inl ⟨by rfl, ?fy0x⟩) (by assumption) ?fr0x
  case fy0x => (intro w hSw; (try dsimp only [OwnS, C11] at hSw); go_simp; try with_reducible rfl)
  try simp only [Act.put, List.setIfInBounds_toArray, List.set_cons_zero, List.set_cons_succ]
  refine wpAnyH_take (i := 1) (oi := _) (v := ?fv1x) (by simp only [List.getElem?_toArray, List.getElem?_cons_zero, List.getElem?_cons_succ]; rfl) (by kernel_rfl) (by kernel_rfl) (by kernel_rfl) (fun _ _ _ h => h) (Or.inl ⟨by rfl, ?fy1x⟩) (by assumption) ?fr1x
  case fy1x => (intro w hSw; (try dsimp only [OwnS, C11] at hSw); go_simp; try with_reducible rfl)
  try simp only [Act.put, List.setIfInBounds_toArray, List.set_cons_zero, List.set_cons_succ]
  refine wpAnyH_take (i := 2) (oi := _) (v := ?fv2x) (by simp only [List.getElem?_toArray, List.getElem?_cons_zero, List.getElem?_cons_succ]; rfl) (by kernel_rfl) (by kernel_rfl) (by kernel_rfl) (fun _ _ _ h => h) (Or.inl ⟨by rfl, ?fy2x⟩) (by assumption) ?fr2x
  case fy2x => (intro w hSw; (try dsimp only [OwnS, C11] at hSw); go_simp; try with_reducible rfl)
  try simp only [Act.put, List.setIfInBounds_toArray, List.set_cons_zero, List.set_cons_succ]
  refine wpAnyH_take (i := 3) (oi := _) (v := ?fv3x) (by simp only [List.getElem?_toArray, List.getElem?_cons_zero, List.getElem?_cons_succ]; rfl) (by kernel_rfl) (by kernel_rfl) (by kernel_rfl) (fun _ _ _ h => h) (Or.inl ⟨by rfl, ?fy3x⟩) (by assumption) ?fr3x
  case fy3x => (intro w hSw; (try dsimp only [OwnS, C11] at hSw); go_simp; try with_reducible rfl)
  try simp only [Act.put, List.setIfInBounds_toArray, List.set_cons_zero, List.set_cons_succ]
  refine wpAnyH_ready (rs := [4]) (by kernel_rfl) (by simp) ?_
  refine AllReadyH.cons (o := _) rfl (fun K hK => ?_) AllReadyH.nil
  go_simp
  with_reducible refine (HSAME.out _ (FQ.out.trans (Fr.drew _ [])) (HMg.out.keep (Fr.drew _ [])) (HEg.out.keep (Fr.drew _ []))).mono ?_
  rintro e wa ⟨rfl, hfa⟩
  have FA := Lib.hid ((Fr.drew _ []).trans hfa)
  have hsa := (HS0.out.keep (Fr.drew _ [])).keep hfa
  clear hfa
  go_wp2_with fail
  refine hK.out _ _ hsa (fun hHeld => ?_)
  clear hK K
  try simp only [Act.put, List.setIfInBounds_toArray, List.set_cons_zero, List.set_cons_succ]
  refine wpAnyH_take (i := 5) (oi := _) (v := ?fv5x) (by simp only [List.getElem?_toArray, List.getElem?_cons_zero, List.getElem?_cons_succ]; rfl) (by kernel_rfl) (by kernel_rfl) (by kernel_rfl) (fun _ _ _ h => h) (Or.inl ⟨by rfl, ?fy5x⟩) (by assumption) ?fr5x
  case fy5x => (intro w hSw; (try dsimp only [OwnS, C11] at hSw); go_simp; try with_reducible rfl)
  try simp only [Act.put, List.setIfInBounds_toArray, List.set_cons_zero, List.set_cons_succ]
  refine wpAnyH_take (i := 6) (oi := _) (v := ?fv6x) (by simp only [List.getElem?_toArray, List.getElem?_cons_zero, List.getElem?_cons_succ]; rfl) (by kernel_rfl) (by kernel_rfl) (by kernel_rfl) (fun _ _ _ h => h) (Or.inl ⟨by rfl, ?fy6x⟩) (by assumption) ?fr6x
  case fy6x => (intro w hSw; (try dsimp only [OwnS, C11] at hSw); go_simp; try with_reducible rfl)
  try simp only [Act.put, List.setIfInBounds_toArray, List.set_cons_zero, List.set_cons_succ]
  refine wpAnyH_take (i := 7) (oi := _) (v := ?fv7x) (by simp only [List.getElem?_toArray, List.getElem?_cons_zero, List.getElem?_cons_succ]; rfl) (by kernel_rfl) (by kernel_rfl) (by kernel_rfl) (fun _ _ _ h => h) (Or.inl ⟨by rfl, ?fy7x⟩) (by assumption) ?fr7x
  case fy7x => (intro w hSw; (try dsimp only [OwnS, C11] at hSw); go_simp; try with_reducible rfl)
  try simp only [Act.put, List.setIfInBounds_toArray, List.set_cons_zero, List.set_cons_succ]
  refine wpAnyH_take (i := 8) (oi := _) (v := ?fv8x) (by simp only [List.getElem?_toArray, List.getElem?_cons_zero, List.getElem?_cons_succ]; rfl) (by kernel_rfl) (by kernel_rfl) (by kernel_rfl) (fun _ _ _ h => h) (Or.inl ⟨by rfl, ?fy8x⟩) (by assumption) ?fr8x
  case fy8x => (intro w hSw; (try dsimp only [OwnS, C11] at hSw); go_simp; try with_reducible rfl)
  try simp only [Act.put, List.setIfInBounds_toArray, List.set_cons_zero, List.set_cons_succ]
  refine wpAnyH_ready (rs := [9]) (by kernel_rfl) (by simp) ?_
  refine AllReadyH.cons (o := _) rfl (fun K hK => ?_) AllReadyH.nil
  go_simp
  with_reducible refine (HVAL.out _ (FQ.out.trans FA.out)).mono ?_
  rintro e wb ⟨rfl, hfb⟩
  have FB' := Lib.hid (FA.out.trans hfb)
  have hsb := hsa.keep hfb
  clear hfb
  go_wp2_with fail
  refine hK.out _ _ hsb (fun hHeld => ?_)
  clear hK K
  try simp only [Act.put, List.setIfInBounds_toArray, List.set_cons_zero, List.set_cons_succ]
  refine wpAnyH_take (i := 10) (oi := _) (v := ?fv10x) (by simp only [List.getElem?_toArray, List.getElem?_cons_zero, List.getElem?_cons_succ]; rfl) (by kernel_rfl) (by kernel_rfl) (by kernel_rfl) (fun _ _ _ h => h) (Or.inl ⟨by rfl, ?fy10x⟩) (by assumption) ?fr10x
  case fy10x => (intro w hSw; (try dsimp only [OwnS, C11] at hSw); go_simp; try with_reducible rfl)
  try simp only [Act.put, List.setIfInBounds_toArray, List.set_cons_zero, List.set_cons_succ]
  refine wpAnyH_take (i := 11) (oi := _) (v := ?fv11x) (by simp only [List.getElem?_toArray, List.getElem?_cons_zero, List.getElem?_cons_succ]; rfl) (by kernel_rfl) (by kernel_rfl) (by kernel_rfl) (fun _ _ _ h => h) (Or.inl ⟨by rfl, ?fy11x⟩) (by assumption) ?fr11x
  case fy11x => (intro w hSw; (try dsimp only [OwnS, C11] at hSw); go_simp; try with_reducible rfl)
  try simp only [Act.put, List.setIfInBounds_toArray, List.set_cons_zero, List.set_cons_succ]
  refine wpAnyH_take (i := 12) (oi := _) (v := ?fv12x) (by simp only [List.getElem?_toArray, List.getElem?_cons_zero, List.getElem?_cons_succ]; rfl) (by kernel_rfl) (by kernel_rfl) (by kernel_rfl) (fun _ _ _ h => h) (Or.inl ⟨by rfl, ?fy12x⟩) (by assumption) ?fr12x
  case fy12x => (intro w hSw; (try dsimp only [OwnS, C11] at hSw); go_simp; try with_reducible rfl)
  try simp only [Act.put, List.setIfInBounds_toArray, List.set_cons_zero, List.set_cons_succ]
  refine wpAnyH_take (i := 13) (oi := _) (v := ?fv13x) (by simp only [List.getElem?_toArray, List.getElem?_cons_zero, List.getElem?_cons_succ]; rfl) (by kernel_rfl) (by kernel_rfl) (by kernel_rfl) (fun _ _ _ h => h) (Or.inl ⟨by rfl, ?fy13x⟩) (by assumption) ?fr13x
  case fy13x => (intro w hSw; (try dsimp only [OwnS, C11] at hSw); go_simp; try with_reducible rfl)
  try simp only [Act.put, List.setIfInBounds_toArray, List.set_cons_zero, List.set_cons_succ]
  refine wpAnyH_take (i := 14) (oi := _) (v := ?fv14x) (by simp only [List.getElem?_toArray, List.getElem?_cons_zero, List.getElem?_cons_succ]; rfl) (by kernel_rfl) (by kernel_rfl) (by kernel_rfl) (fun _ _ _ h => h) (Or.inl ⟨by rfl, ?fy14x⟩) (by assumption) ?fr14x
  case fy14x => (intro w hSw; (try dsimp only [OwnS, C11] at hSw); go_simp; try with_reducible rfl)
  try simp only [Act.put, List.setIfInBounds_toArray, List.set_cons_zero, List.set_cons_succ]
  refine wpAnyH_ready (rs := [15]) (by kernel_rfl) (by simp) ?_
  refine AllReadyH.cons (o := _) rfl (fun K hK => ?_) AllReadyH.nil
  go_simp
  with_reducible refine (HCLN.out _ (FQ.out.trans FB'.out)).mono ?_
  rintro e wc ⟨u, rfl, um, ue, ys, rfl, o1, o2, hys, hfc⟩
  have UM := Lib.hid o1.holds
  have UE := Lib.hid (show HE wc ue f.rg.es from hys ▸ o2.he)
  have FC := Lib.hid (FB'.out.trans hfc)
  have hsc := hsb.keep hfc
  clear o1 o2 hys hfc
  unfold frV
  go_wp2_with fail
  refine hK.out _ _ hsc (fun hHeld => ?_)
  clear hK K
  try simp only [Act.put, List.setIfInBounds_toArray, List.set_cons_zero, List.set_cons_succ]
  refine wpAnyH_ready (rs := [16]) (by kernel_rfl) (by simp) ?_
  refine AllReadyH.cons (o := _) rfl (fun K hK => ?_) AllReadyH.nil
  go_simp
  with_reducible refine (HRS.out _ um ue (FQ.out.trans FC.out) UM.out UE.out).mono ?_
  rintro e wd ⟨rfl, hfd⟩
  have FD := Lib.hid (FQ.out.trans (FC.out.trans hfd))
  have hsd := hsc.keep hfd
  clear hfd
  go_wp2_with fail
  refine hK.out _ _ hsd (fun hHeld => ?_)
  clear hK K
  try simp only [Act.put, List.setIfInBounds_toArray, List.set_cons_zero, List.set_cons_succ]
  refine wpAnyH_take (i := 17) (oi := _) (v := ?fv17x) (by simp only [List.getElem?_toArray, List.getElem?_cons_zero, List.getElem?_cons_succ]; rfl) (by kernel_rfl) (by kernel_rfl) (by kernel_rfl) (fun _ _ _ h => h) (Or.inl ⟨by rfl, ?fy17x⟩) (by assumption) ?fr17x
  case fy17x => (intro w hSw; (try dsimp only [OwnS, C11] at hSw); go_simp; try with_reducible rfl)
  try simp only [Act.put, List.setIfInBounds_toArray, List.set_cons_zero, List.set_cons_succ]
  refine wpAnyH_take (i := 18) (oi := _) (v := ?fv18x) (by simp only [List.getElem?_toArray, List.getElem?_cons_zero, List.getElem?_cons_succ]; rfl) (by kernel_rfl) (by kernel_rfl) (by kernel_rfl) (fun _ _ _ h => h) (Or.inl ⟨by rfl, ?fy18x⟩) (by assumption) ?fr18x
  case fy18x => (intro w hSw; (try dsimp only [OwnS, C11] at hSw); go_simp; try with_reducible rfl)
  try simp only [Act.put, List.setIfInBounds_toArray, List.set_cons_zero, List.set_cons_succ]
  refine wpAnyH_done (by kernel_rfl) ?_ _
  refine NoPanic.normal ?_
  clear hsa hsb hsc hsd
  go_wp2
  go_ret
  exact ⟨rfl, FD.out.grown (by simp)⟩
set_option maxHeartbeats 8000000 in
set_option maxRecDepth 100000 in
theorem fown_case2 (f : F) (vm ve : Value) (n : Int) (hn0 : -9223372036854775808 ≤ n) (hn1 : n ≤ 9223372036854775807) (hK : n % 4 = 2) (w : World) (A : Nat → Addr) (hE : EV [2, 3, 6, 10] w A w.heap.size)
    (hm : Holds .i64 w vm f.rg.ms) (he : HE w ve f.rg.es) (hL : Light f) (hc : frameC f = 0) (hki : f.ki = 2) :
    Calls Tryd.prog 5 #[frV f vm ve, .int .i64 n] w fun e w' => e = .returned (.bool true) ∧ w.grownBy w' none := by
  have HEV := Lib.hid hE
  have HM := Lib.hid hm
  have HX := Lib.hid he
  have N1 := Lib.hid (fun W => (show Calls Tryd.prog 22 #[.int .i64 n, .int .i64 4] W fun e w' => e = .returned (.int .i64 2) ∧ W = w' from hK ▸ numberTo_any n 4 W (by omega) (by omega) hn0 hn1))
  obtain ⟨hrg, hms⟩ := token_ok hc hki
  have HRG := Lib.hid hrg
  have HMS := Lib.hid hms
  have HC := Lib.hid hc
  have HKI := Lib.hid hki
  have HLT := Lib.hid hL
  have HD := Lib.hid (yes hL)
  have hk2 : (f.ki == 2) = true := by simp [hki]
  unfold frV
  have HF0 := Lib.hid (Fr.alloc w (.cells #[.int .i64 f.ki, .int .i64 f.fr, .int .i64 f.to, .int .i64 f.li, .int .i64 f.se, .bool f.ou, .int .i64 f.rg.co, .int .i64 f.rg.fo, .int .i64 f.rg.ho, vm, ve] 29) [])
  have HZ := Lib.hid (heap_alloc_new w (.cells #[.int .i64 f.ki, .int .i64 f.fr, .int .i64 f.to, .int .i64 f.li, .int .i64 f.se, .bool f.ou, .int .i64 f.rg.co, .int .i64 f.rg.fo, .int .i64 f.rg.ho, vm, ve] 29))
  clear hE hm he hrg hms hc hki hL hK hn0 hn1
  go_enter Tryd.func5, Tryd.ntmps5
  go_wp2_with fail
  refine (first5_any _ A _ _ (HEV.out.keep HF0.out)).mono ?_
  rintro e w1 ⟨rfl, hf1⟩
  have k1 := row11 (hf1.heap HZ.out (by simp))
  have F1 := Lib.hid (HF0.out.trans hf1)
  have G1 := Lib.hid hf1
  clear hf1
  go_wp2_with fail
  refine (light_any f vm ve _ HD.out _ (HM.out.keep F1.out) (HX.out.keep F1.out)).mono ?_
  rintro e w2 ⟨rfl, hf2⟩
  have G2 := Lib.hid (G1.out.trans hf2)
  have k2 := row11 (G2.out.heap HZ.out (by simp))
  have F2 := Lib.hid (F1.out.trans hf2)
  clear hf2 k1
  go_wp2_with fail
  refine (valid_frame f vm ve _ A _ _ (HEV.out.keep F2.out) (HM.out.keep F2.out) (HX.out.keep F2.out)).mono ?_
  rintro e w3 ⟨rfl, hf3⟩
  rw [HC.out, show ev A 0 = Value.nilIface from rfl]
  have G3 := Lib.hid (G2.out.trans hf3)
  have k3 := row11 (G3.out.heap HZ.out (by simp))
  have F3 := Lib.hid (F2.out.trans hf3)
  clear hf3 k2
  go_wp2_with fail
  refine (clone_frame f vm ve _ (HM.out.keep F3.out) (HX.out.keep F3.out) (by have := HLT.out.2.1; omega) (by have := HLT.out.2.2; omega) (fun e he => by have := HLT.out.1 e he; omega)).mono ?_
  rintro e w4 ⟨u4, rfl, vm4, ve4, xs, rfl, hm4, he4, hxs, hf4⟩
  obtain ⟨a1, c1, rfl⟩ := hm4.holds.shape
  obtain ⟨a2, c2, rfl⟩ := row_shape he4.1
  unfold frV
  have HXS := Lib.hid hxs
  have M4 := Lib.hid (row_mono hm4 (B' := w.heap.size) F3.out.size)
  have E4 := Lib.hid (he4.mono (B' := w.heap.size) F3.out.size)
  have XA := Lib.hid (Fr.alloc w4 (.cells #[.int .i64 f.ki, .int .i64 f.fr, .int .i64 f.to, .int .i64 f.li, .int .i64 f.se, .bool f.ou, .int .i64 f.rg.co, .int .i64 f.rg.fo, .int .i64 f.rg.ho, (.slice a1 f.rg.ms.length c1), (.slice a2 xs.length c2)] 29) [])
  have XB := Lib.hid (heap_alloc_new w4 (.cells #[.int .i64 f.ki, .int .i64 f.fr, .int .i64 f.to, .int .i64 f.li, .int .i64 f.se, .bool f.ou, .int .i64 f.rg.co, .int .i64 f.rg.fo, .int .i64 f.rg.ho, (.slice a1 f.rg.ms.length c1), (.slice a2 xs.length c2)] 29))
  have F4 := Lib.hid ((F3.out.trans hf4).trans XA.out)
  have G4 := Lib.hid ((G3.out.trans hf4).trans XA.out)
  have k4 := row11 (G4.out.heap HZ.out (by simp))
  have q4 := row11 XB.out
  have b6 := Lib.hid (show w.heap.size < w4.heap.size from size_of_row ((G3.out.trans hf4).heap HZ.out (by simp)))
  clear hm4 he4 hxs hf4 k3
  go_wp2_with fail
  have HSF := same_frame f f (.slice a1 f.rg.ms.length c1) (.slice a2 xs.length c2) vm ve true (iyes rfl) _ (OwnI.holds (row_fr M4.out XA.out (by simp))) (by have h := (E4.out.fr XA.out (by simp)).he; rw [HXS.out] at h; exact h) (HM.out.keep F4.out) (HX.out.keep F4.out)
  unfold frV at HSF
  refine HSF.mono ?_
  clear HSF
  rintro e w5 ⟨rfl, hf5⟩
  have F5 := Lib.hid (F4.out.trans hf5)
  have B5 := Lib.hid ((G4.out.trans hf5).heap HZ.out (by simp))
  have B6 := Lib.hid (hf5.heap XB.out (by simp))
  have M5 := Lib.hid (row_fr M4.out (XA.out.trans hf5) (by simp))
  have E5 := Lib.hid (E4.out.fr (XA.out.trans hf5) (by simp))
  have q5 := row11 B6.out
  have hml : ((f.rg.ms.length : Int) == 0) = false := by have := HMS.out; rw [beq_eq_false_iff_ne]; omega
  have hml1 : (0 : Int) < (f.rg.ms.length : Int) := by have := HMS.out; omega
  clear hf5 k4 q4
  go_wp2_with fail
  refine (N1.out _).mono ?_
  rintro e w6 ⟨rfl, rfl⟩
  by_cases h0 : xs.length = 0
  · have hxl : ((xs.length : Int) == 0) = true := by simp [h0]
    clear h0
    go_wp2
    go_ret
    exact ⟨rfl, F5.out.grown (by simp)⟩
  have hxl : ((xs.length : Int) == 0) = false := by rw [beq_eq_false_iff_ne]; omega
  have hxl1 : (0 : Int) < (xs.length : Int) := by omega
  have HX0 := Lib.hid (show 0 < xs.length by omega)
  clear h0
  obtain ⟨g1, c2', he1, hc1, hg1⟩ := row_head E5.out.1 HX0.out
  simp only [Value.slice.injEq, true_and] at he1
  obtain ⟨rfl, rfl⟩ := he1
  obtain ⟨y, hy⟩ : ∃ y, xs[0]? = some y := ⟨_, List.getElem?_eq_getElem HX0.out⟩
  have hymem : y.1 ∈ f.rg.es := by rw [← HXS.out]; exact List.mem_map.2 ⟨y, List.mem_of_getElem? hy, rfl⟩
  obtain ⟨_, _, _, _, e4⟩ := encs_get xs 0 y hy
  have l0 := (World.ownsRow.cellAt E5.out.1 4 (by have := HX0.out; omega)).trans e4
  have r0 := World.ownsRow.frozenAt E5.out.1 4
  have hxr := (HRG.out.2.2.2.2.2.2 _ hymem).2.2.2.1
  have hwr : IntKind.i64.wrap (y.1.aw + 3) = y.1.aw + 3 := IntWalk.i64_in _ (by omega)
  have HYY := Lib.hid hy
  have S6 := Lib.hid (Fr.setCell w5 g1 4 (.int .i64 (y.1.aw + 3)) (S := [g1]) (by simp))
  have gb := Lib.hid ((World.ownsRow.lt E5.out.1 g1 rfl).1)
  have n5 : w.heap.size ≠ g1 := fun e => row_ne E5.out.1 B5.out (by decide) (by rw [e]; rfl)
  have n6 : w4.heap.size ≠ g1 := fun e => row_ne E5.out.1 B6.out (by decide) (by rw [e]; rfl)
  have FQ := Lib.hid (F5.out.new S6.out (by intro r hr; obtain rfl := List.mem_singleton.1 hr; exact gb.out))
  have HNE : Hid (({ f with rg := { f.rg with es := (awardOf (y.1.aw + 3) xs).map (·.1) } } : F) ≠ f) := es_ne f _ (by rw [← HXS.out]; exact award_ne xs HX0.out _ (fun z hz => by rw [HYY.out] at hz; obtain rfl := Option.some.inj hz; omega))
  have HS0 : Hid (OwnS w.heap.size w4.heap.size f ({ f with rg := { f.rg with es := (awardOf (y.1.aw + 3) xs).map (·.1) } } : F) vm ve (.slice a1 f.rg.ms.length c1) (.slice (some ⟨g1, 0, none⟩) xs.length c2) (w5.setCell ⟨g1, 4, none⟩ (.int .i64 (y.1.aw + 3)))) :=
    ⟨C11.of (S6.out.heap B5.out (by simpa using n5)), C11.of (f := { f with rg := { f.rg with es := (awardOf (y.1.aw + 3) xs).map (·.1) } }) (S6.out.heap B6.out (by simpa using n6))⟩
  have HMg : Hid (Holds .i64 (w5.setCell ⟨g1, 4, none⟩ (.int .i64 (y.1.aw + 3))) (.slice a1 f.rg.ms.length c1) f.rg.ms) := by
    obtain ⟨cs, hcs⟩ := row_at E5.out.1
    exact OwnI.holds (B := w.heap.size) (row_fr M5.out S6.out (by intro r hr; obtain rfl := List.mem_singleton.1 hr; exact row_ne M5.out hcs (by decide)))
  have HEg := Lib.hid (OwnE.award E5.out (y.1.aw + 3) HX0.out).he
  clear hy hymem hxr n5 n6 hc1 hg1 e4
  go_wp2_with fail
  have HSAME := Lib.hid (fun W (hW : Fr w W []) (h1 : Holds .i64 W (.slice a1 f.rg.ms.length c1) ({ f with rg := { f.rg with es := (awardOf (y.1.aw + 3) xs).map (·.1) } } : F).rg.ms) (h2 : HE W (.slice (some ⟨g1, 0, none⟩) xs.length c2) ({ f with rg := { f.rg with es := (awardOf (y.1.aw + 3) xs).map (·.1) } } : F).rg.es) => (show Calls Tryd.prog 14 #[.agg #[.int .i64 f.ki, .int .i64 f.fr, .int .i64 f.to, .int .i64 f.li, .int .i64 f.se, .bool f.ou, .int .i64 f.rg.co, .int .i64 f.rg.fo, .int .i64 f.rg.ho, (.slice a1 f.rg.ms.length c1), (.slice (some ⟨g1, 0, none⟩) xs.length c2)], .agg #[.int .i64 f.ki, .int .i64 f.fr, .int .i64 f.to, .int .i64 f.li, .int .i64 f.se, .bool f.ou, .int .i64 f.rg.co, .int .i64 f.rg.fo, .int .i64 f.rg.ho, vm, ve]] W fun e w' => e = .returned (.bool false) ∧ Fr W w' [] from same_frame ({ f with rg := { f.rg with es := (awardOf (y.1.aw + 3) xs).map (·.1) } } : F) f (.slice a1 f.rg.ms.length c1) (.slice (some ⟨g1, 0, none⟩) xs.length c2) vm ve false (ino HNE.out) W h1 h2 (HM.out.keep hW) (HX.out.keep hW)))
  have HVAL := Lib.hid (fun W (hW : Fr w W []) => (show Calls Tryd.prog 13 #[.agg #[.int .i64 f.ki, .int .i64 f.fr, .int .i64 f.to, .int .i64 f.li, .int .i64 f.se, .bool f.ou, .int .i64 f.rg.co, .int .i64 f.rg.fo, .int .i64 f.rg.ho, vm, ve]] W fun e w' => e = .returned .nilIface ∧ Fr W w' [] from (by have h := valid_frame f vm ve W A _ _ (HEV.out.keep hW) (HM.out.keep hW) (HX.out.keep hW); rw [HC.out] at h; exact h)))
  have HCLN := Lib.hid (fun W (hW : Fr w W []) => (show Calls Tryd.prog 16 #[.agg #[.int .i64 f.ki, .int .i64 f.fr, .int .i64 f.to, .int .i64 f.li, .int .i64 f.se, .bool f.ou, .int .i64 f.rg.co, .int .i64 f.rg.fo, .int .i64 f.rg.ho, vm, ve]] W (Gives (ClnP f W)) from clone_frame f vm ve W (HM.out.keep hW) (HX.out.keep hW) (by have := HLT.out.2.1; omega) (by have := HLT.out.2.2; omega) (fun e he => by have := HLT.out.1 e he; omega)))
  have HRS := Lib.hid (fun W um ue (hW : Fr w W []) (h1 : Holds .i64 W um f.rg.ms) (h2 : HE W ue f.rg.es) => (show Calls Tryd.prog 15 #[.agg #[.int .i64 f.ki, .int .i64 f.fr, .int .i64 f.to, .int .i64 f.li, .int .i64 f.se, .bool f.ou, .int .i64 f.rg.co, .int .i64 f.rg.fo, .int .i64 f.rg.ho, vm, ve], .agg #[.int .i64 f.ki, .int .i64 f.fr, .int .i64 f.to, .int .i64 f.li, .int .i64 f.se, .bool f.ou, .int .i64 f.rg.co, .int .i64 f.rg.fo, .int .i64 f.rg.ho, um, ue]] W fun e w' => e = .returned (.bool true) ∧ Fr W w' [] from rsame_frame f f vm ve um ue true (iyes rfl) W (HM.out.keep hW) (HX.out.keep hW) h1 h2))
  refine wp_region_noPanic ?_
  refine wp_region_held_drew (S := OwnS w.heap.size w4.heap.size f ({ f with rg := { f.rg with es := (awardOf (y.1.aw + 3) xs).map (·.1) } } : F) vm ve (.slice a1 f.rg.ms.length c1) (.slice (some ⟨g1, 0, none⟩) xs.length c2)) (by kernel_rfl) (HS0.out.keep (Fr.drew _ [])) (fun hHeld => ?_)
  refine wpAnyH_take (i := 0) (oi := _) (v := ?fv0x) (by simp only [List.getElem?_toArray, List.getElem?_cons_zero]; rfl) (by kernel_rfl) (by kernel_rfl) (by kernel_rfl) (fun _ _ _ h => h) (Or.inl ⟨by rfl, ?fy0x⟩) (by assumption) ?fr0x
  case fy0x => (intro w hSw; (try dsimp only [OwnS, C11] at hSw); go_simp; try with_reducible rfl)
  try simp only [Act.put, List.setIfInBounds_toArray, List.set_cons_zero, List.set_cons_succ]
  refine wpAnyH_take (i := 1) (oi := _) (v := ?fv1x) (by simp only [List.getElem?_toArray, List.getElem?_cons_zero, List.getElem?_cons_succ]; rfl) (by kernel_rfl) (by kernel_rfl) (by kernel_rfl) (fun _ _ _ h => h) (Or.inl ⟨by rfl, ?fy1x⟩) (by assumption) ?fr1x
  case fy1x => (intro w hSw; (try dsimp only [OwnS, C11] at hSw); go_simp; try with_reducible rfl)
  try simp only [Act.put, List.setIfInBounds_toArray, List.set_cons_zero, List.set_cons_succ]
  refine wpAnyH_take (i := 2) (oi := _) (v := ?fv2x) (by simp only [List.getElem?_toArray, List.getElem?_cons_zero, List.getElem?_cons_succ]; rfl) (by kernel_rfl) (by kernel_rfl) (by kernel_rfl) (fun _ _ _ h => h) (Or.inl ⟨by rfl, ?fy2x⟩) (by assumption) ?fr2x
  case fy2x => (intro w hSw; (try dsimp only [OwnS, C11] at hSw); go_simp; try with_reducible rfl)
  try simp only [Act.put, List.setIfInBounds_toArray, List.set_cons_zero, List.set_cons_succ]
  refine wpAnyH_take (i := 3) (oi := _) (v := ?fv3x) (by simp only [List.getElem?_toArray, List.getElem?_cons_zero, List.getElem?_cons_succ]; rfl) (by kernel_rfl) (by kernel_rfl) (by kernel_rfl) (fun _ _ _ h => h) (Or.inl ⟨by rfl, ?fy3x⟩) (by assumption) ?fr3x
  case fy3x => (intro w hSw; (try dsimp only [OwnS, C11] at hSw); go_simp; try with_reducible rfl)
  try simp only [Act.put, List.setIfInBounds_toArray, List.set_cons_zero, List.set_cons_succ]
  refine wpAnyH_ready (rs := [4]) (by kernel_rfl) (by simp) ?_
  refine AllReadyH.cons (o := _) rfl (fun K hK => ?_) AllReadyH.nil
  go_simp
  with_reducible refine (HSAME.out _ (FQ.out.trans (Fr.drew _ [])) (HMg.out.keep (Fr.drew _ [])) (HEg.out.keep (Fr.drew _ []))).mono ?_
  rintro e wa ⟨rfl, hfa⟩
  have FA := Lib.hid ((Fr.drew _ []).trans hfa)
  have hsa := (HS0.out.keep (Fr.drew _ [])).keep hfa
  clear hfa
  go_wp2_with fail
  refine hK.out _ _ hsa (fun hHeld => ?_)
  clear hK K
  try simp only [Act.put, List.setIfInBounds_toArray, List.set_cons_zero, List.set_cons_succ]
  refine wpAnyH_take (i := 5) (oi := _) (v := ?fv5x) (by simp only [List.getElem?_toArray, List.getElem?_cons_zero, List.getElem?_cons_succ]; rfl) (by kernel_rfl) (by kernel_rfl) (by kernel_rfl) (fun _ _ _ h => h) (Or.inl ⟨by rfl, ?fy5x⟩) (by assumption) ?fr5x
  case fy5x => (intro w hSw; (try dsimp only [OwnS, C11] at hSw); go_simp; try with_reducible rfl)
  try simp only [Act.put, List.setIfInBounds_toArray, List.set_cons_zero, List.set_cons_succ]
  refine wpAnyH_take (i := 6) (oi := _) (v := ?fv6x) (by simp only [List.getElem?_toArray, List.getElem?_cons_zero, List.getElem?_cons_succ]; rfl) (by kernel_rfl) (by kernel_rfl) (by kernel_rfl) (fun _ _ _ h => h) (Or.inl ⟨by rfl, ?fy6x⟩) (by assumption) ?fr6x
  case fy6x => (intro w hSw; (try dsimp only [OwnS, C11] at hSw); go_simp; try with_reducible rfl)
  try simp only [Act.put, List.setIfInBounds_toArray, List.set_cons_zero, List.set_cons_succ]
  refine wpAnyH_take (i := 7) (oi := _) (v := ?fv7x) (by simp only [List.getElem?_toArray, List.getElem?_cons_zero, List.getElem?_cons_succ]; rfl) (by kernel_rfl) (by kernel_rfl) (by kernel_rfl) (fun _ _ _ h => h) (Or.inl ⟨by rfl, ?fy7x⟩) (by assumption) ?fr7x
  case fy7x => (intro w hSw; (try dsimp only [OwnS, C11] at hSw); go_simp; try with_reducible rfl)
  try simp only [Act.put, List.setIfInBounds_toArray, List.set_cons_zero, List.set_cons_succ]
  refine wpAnyH_take (i := 8) (oi := _) (v := ?fv8x) (by simp only [List.getElem?_toArray, List.getElem?_cons_zero, List.getElem?_cons_succ]; rfl) (by kernel_rfl) (by kernel_rfl) (by kernel_rfl) (fun _ _ _ h => h) (Or.inl ⟨by rfl, ?fy8x⟩) (by assumption) ?fr8x
  case fy8x => (intro w hSw; (try dsimp only [OwnS, C11] at hSw); go_simp; try with_reducible rfl)
  try simp only [Act.put, List.setIfInBounds_toArray, List.set_cons_zero, List.set_cons_succ]
  refine wpAnyH_ready (rs := [9]) (by kernel_rfl) (by simp) ?_
  refine AllReadyH.cons (o := _) rfl (fun K hK => ?_) AllReadyH.nil
  go_simp
  with_reducible refine (HVAL.out _ (FQ.out.trans FA.out)).mono ?_
  rintro e wb ⟨rfl, hfb⟩
  have FB' := Lib.hid (FA.out.trans hfb)
  have hsb := hsa.keep hfb
  clear hfb
  go_wp2_with fail
  refine hK.out _ _ hsb (fun hHeld => ?_)
  clear hK K
  try simp only [Act.put, List.setIfInBounds_toArray, List.set_cons_zero, List.set_cons_succ]
  refine wpAnyH_take (i := 10) (oi := _) (v := ?fv10x) (by simp only [List.getElem?_toArray, List.getElem?_cons_zero, List.getElem?_cons_succ]; rfl) (by kernel_rfl) (by kernel_rfl) (by kernel_rfl) (fun _ _ _ h => h) (Or.inl ⟨by rfl, ?fy10x⟩) (by assumption) ?fr10x
  case fy10x => (intro w hSw; (try dsimp only [OwnS, C11] at hSw); go_simp; try with_reducible rfl)
  try simp only [Act.put, List.setIfInBounds_toArray, List.set_cons_zero, List.set_cons_succ]
  refine wpAnyH_take (i := 11) (oi := _) (v := ?fv11x) (by simp only [List.getElem?_toArray, List.getElem?_cons_zero, List.getElem?_cons_succ]; rfl) (by kernel_rfl) (by kernel_rfl) (by kernel_rfl) (fun _ _ _ h => h) (Or.inl ⟨by rfl, ?fy11x⟩) (by assumption) ?fr11x
  case fy11x => (intro w hSw; (try dsimp only [OwnS, C11] at hSw); go_simp; try with_reducible rfl)
  try simp only [Act.put, List.setIfInBounds_toArray, List.set_cons_zero, List.set_cons_succ]
  refine wpAnyH_take (i := 12) (oi := _) (v := ?fv12x) (by simp only [List.getElem?_toArray, List.getElem?_cons_zero, List.getElem?_cons_succ]; rfl) (by kernel_rfl) (by kernel_rfl) (by kernel_rfl) (fun _ _ _ h => h) (Or.inl ⟨by rfl, ?fy12x⟩) (by assumption) ?fr12x
  case fy12x => (intro w hSw; (try dsimp only [OwnS, C11] at hSw); go_simp; try with_reducible rfl)
  try simp only [Act.put, List.setIfInBounds_toArray, List.set_cons_zero, List.set_cons_succ]
  refine wpAnyH_take (i := 13) (oi := _) (v := ?fv13x) (by simp only [List.getElem?_toArray, List.getElem?_cons_zero, List.getElem?_cons_succ]; rfl) (by kernel_rfl) (by kernel_rfl) (by kernel_rfl) (fun _ _ _ h => h) (Or.inl ⟨by rfl, ?fy13x⟩) (by assumption) ?fr13x
  case fy13x => (intro w hSw; (try dsimp only [OwnS, C11] at hSw); go_simp; try with_reducible rfl)
  try simp only [Act.put, List.setIfInBounds_toArray, List.set_cons_zero, List.set_cons_succ]
  refine wpAnyH_take (i := 14) (oi := _) (v := ?fv14x) (by simp only [List.getElem?_toArray, List.getElem?_cons_zero, List.getElem?_cons_succ]; rfl) (by kernel_rfl) (by kernel_rfl) (by kernel_rfl) (fun _ _ _ h => h) (Or.inl ⟨by rfl, ?fy14x⟩) (by assumption) ?fr14x
  case fy14x => (intro w hSw; (try dsimp only [OwnS, C11] at hSw); go_simp; try with_reducible rfl)
  try simp only [Act.put, List.setIfInBounds_toArray, List.set_cons_zero, List.set_cons_succ]
  refine wpAnyH_ready (rs := [15]) (by kernel_rfl) (by simp) ?_
  refine AllReadyH.cons (o := _) rfl (fun K hK => ?_) AllReadyH.nil
  go_simp
  with_reducible refine (HCLN.out _ (FQ.out.trans FB'.out)).mono ?_
  rintro e wc ⟨u, rfl, um, ue, ys, rfl, o1, o2, hys, hfc⟩
  have UM := Lib.hid o1.holds
  have UE := Lib.hid (show HE wc ue f.rg.es from hys ▸ o2.he)
  have FC := Lib.hid (FB'.out.trans hfc)
  have hsc := hsb.keep hfc
  clear o1 o2 hys hfc
  unfold frV
  go_wp2_with fail
  refine hK.out _ _ hsc (fun hHeld => ?_)
  clear hK K
  try simp only [Act.put, List.setIfInBounds_toArray, List.set_cons_zero, List.set_cons_succ]
  refine wpAnyH_ready (rs := [16]) (by kernel_rfl) (by simp) ?_
  refine AllReadyH.cons (o := _) rfl (fun K hK => ?_) AllReadyH.nil
  go_simp
  with_reducible refine (HRS.out _ um ue (FQ.out.trans FC.out) UM.out UE.out).mono ?_
  rintro e wd ⟨rfl, hfd⟩
  have FD := Lib.hid (FQ.out.trans (FC.out.trans hfd))
  have hsd := hsc.keep hfd
  clear hfd
  go_wp2_with fail
  refine hK.out _ _ hsd (fun hHeld => ?_)
  clear hK K
  try simp only [Act.put, List.setIfInBounds_toArray, List.set_cons_zero, List.set_cons_succ]
  refine wpAnyH_take (i := 17) (oi := _) (v := ?fv17x) (by simp only [List.getElem?_toArray, List.getElem?_cons_zero, List.getElem?_cons_succ]; rfl) (by kernel_rfl) (by kernel_rfl) (by kernel_rfl) (fun _ _ _ h => h) (Or.inl ⟨by rfl, ?fy17x⟩) (by assumption) ?fr17x
  case fy17x => (intro w hSw; (try dsimp only [OwnS, C11] at hSw); go_simp; try with_reducible rfl)
  try simp only [Act.put, List.setIfInBounds_toArray, List.set_cons_zero, List.set_cons_succ]
  refine wpAnyH_take (i := 18) (oi := _) (v := ?fv18x) (by simp only [List.getElem?_toArray, List.getElem?_cons_zero, List.getElem?_cons_succ]; rfl) (by kernel_rfl) (by kernel_rfl) (by kernel_rfl) (fun _ _ _ h => h) (Or.inl ⟨by rfl, ?fy18x⟩) (by assumption) ?fr18x
  case fy18x => (intro w hSw; (try dsimp only [OwnS, C11] at hSw); go_simp; try with_reducible rfl)
  try simp only [Act.put, List.setIfInBounds_toArray, List.set_cons_zero, List.set_cons_succ]
  refine wpAnyH_done (by kernel_rfl) ?_ _
  refine NoPanic.normal ?_
  clear hsa hsb hsc hsd
  go_wp2
  go_ret
  exact ⟨rfl, FD.out.grown (by simp)⟩
set_option maxHeartbeats 8000000 in
set_option maxRecDepth 100000 in
theorem fown_case3 (f : F) (vm ve : Value) (n : Int) (hn0 : -9223372036854775808 ≤ n) (hn1 : n ≤ 9223372036854775807) (hK : n % 4 = 3) (w : World) (A : Nat → Addr) (hE : EV [2, 3, 6, 10] w A w.heap.size)
    (hm : Holds .i64 w vm f.rg.ms) (he : HE w ve f.rg.es) (hL : Light f) (hc : frameC f = 0) (hki : f.ki = 2) :
    Calls Tryd.prog 5 #[frV f vm ve, .int .i64 n] w fun e w' => e = .returned (.bool true) ∧ w.grownBy w' none := by
  have HEV := Lib.hid hE
  have HM := Lib.hid hm
  have HX := Lib.hid he
  have N1 := Lib.hid (fun W => (show Calls Tryd.prog 22 #[.int .i64 n, .int .i64 4] W fun e w' => e = .returned (.int .i64 3) ∧ W = w' from hK ▸ numberTo_any n 4 W (by omega) (by omega) hn0 hn1))
  obtain ⟨hrg, hms⟩ := token_ok hc hki
  have HRG := Lib.hid hrg
  have HMS := Lib.hid hms
  have HC := Lib.hid hc
  have HKI := Lib.hid hki
  have HLT := Lib.hid hL
  have HD := Lib.hid (yes hL)
  have hk2 : (f.ki == 2) = true := by simp [hki]
  unfold frV
  have HF0 := Lib.hid (Fr.alloc w (.cells #[.int .i64 f.ki, .int .i64 f.fr, .int .i64 f.to, .int .i64 f.li, .int .i64 f.se, .bool f.ou, .int .i64 f.rg.co, .int .i64 f.rg.fo, .int .i64 f.rg.ho, vm, ve] 29) [])
  have HZ := Lib.hid (heap_alloc_new w (.cells #[.int .i64 f.ki, .int .i64 f.fr, .int .i64 f.to, .int .i64 f.li, .int .i64 f.se, .bool f.ou, .int .i64 f.rg.co, .int .i64 f.rg.fo, .int .i64 f.rg.ho, vm, ve] 29))
  clear hE hm he hrg hms hc hki hL hK hn0 hn1
  go_enter Tryd.func5, Tryd.ntmps5
  go_wp2_with fail
  refine (first5_any _ A _ _ (HEV.out.keep HF0.out)).mono ?_
  rintro e w1 ⟨rfl, hf1⟩
  have k1 := row11 (hf1.heap HZ.out (by simp))
  have F1 := Lib.hid (HF0.out.trans hf1)
  have G1 := Lib.hid hf1
  clear hf1
  go_wp2_with fail
  refine (light_any f vm ve _ HD.out _ (HM.out.keep F1.out) (HX.out.keep F1.out)).mono ?_
  rintro e w2 ⟨rfl, hf2⟩
  have G2 := Lib.hid (G1.out.trans hf2)
  have k2 := row11 (G2.out.heap HZ.out (by simp))
  have F2 := Lib.hid (F1.out.trans hf2)
  clear hf2 k1
  go_wp2_with fail
  refine (valid_frame f vm ve _ A _ _ (HEV.out.keep F2.out) (HM.out.keep F2.out) (HX.out.keep F2.out)).mono ?_
  rintro e w3 ⟨rfl, hf3⟩
  rw [HC.out, show ev A 0 = Value.nilIface from rfl]
  have G3 := Lib.hid (G2.out.trans hf3)
  have k3 := row11 (G3.out.heap HZ.out (by simp))
  have F3 := Lib.hid (F2.out.trans hf3)
  clear hf3 k2
  go_wp2_with fail
  refine (clone_frame f vm ve _ (HM.out.keep F3.out) (HX.out.keep F3.out) (by have := HLT.out.2.1; omega) (by have := HLT.out.2.2; omega) (fun e he => by have := HLT.out.1 e he; omega)).mono ?_
  rintro e w4 ⟨u4, rfl, vm4, ve4, xs, rfl, hm4, he4, hxs, hf4⟩
  obtain ⟨a1, c1, rfl⟩ := hm4.holds.shape
  obtain ⟨a2, c2, rfl⟩ := row_shape he4.1
  unfold frV
  have HXS := Lib.hid hxs
  have M4 := Lib.hid (row_mono hm4 (B' := w.heap.size) F3.out.size)
  have E4 := Lib.hid (he4.mono (B' := w.heap.size) F3.out.size)
  have XA := Lib.hid (Fr.alloc w4 (.cells #[.int .i64 f.ki, .int .i64 f.fr, .int .i64 f.to, .int .i64 f.li, .int .i64 f.se, .bool f.ou, .int .i64 f.rg.co, .int .i64 f.rg.fo, .int .i64 f.rg.ho, (.slice a1 f.rg.ms.length c1), (.slice a2 xs.length c2)] 29) [])
  have XB := Lib.hid (heap_alloc_new w4 (.cells #[.int .i64 f.ki, .int .i64 f.fr, .int .i64 f.to, .int .i64 f.li, .int .i64 f.se, .bool f.ou, .int .i64 f.rg.co, .int .i64 f.rg.fo, .int .i64 f.rg.ho, (.slice a1 f.rg.ms.length c1), (.slice a2 xs.length c2)] 29))
  have F4 := Lib.hid ((F3.out.trans hf4).trans XA.out)
  have G4 := Lib.hid ((G3.out.trans hf4).trans XA.out)
  have k4 := row11 (G4.out.heap HZ.out (by simp))
  have q4 := row11 XB.out
  have b6 := Lib.hid (show w.heap.size < w4.heap.size from size_of_row ((G3.out.trans hf4).heap HZ.out (by simp)))
  clear hm4 he4 hxs hf4 k3
  go_wp2_with fail
  have HSF := same_frame f f (.slice a1 f.rg.ms.length c1) (.slice a2 xs.length c2) vm ve true (iyes rfl) _ (OwnI.holds (row_fr M4.out XA.out (by simp))) (by have h := (E4.out.fr XA.out (by simp)).he; rw [HXS.out] at h; exact h) (HM.out.keep F4.out) (HX.out.keep F4.out)
  unfold frV at HSF
  refine HSF.mono ?_
  clear HSF
  rintro e w5 ⟨rfl, hf5⟩
  have F5 := Lib.hid (F4.out.trans hf5)
  have B5 := Lib.hid ((G4.out.trans hf5).heap HZ.out (by simp))
  have B6 := Lib.hid (hf5.heap XB.out (by simp))
  have M5 := Lib.hid (row_fr M4.out (XA.out.trans hf5) (by simp))
  have E5 := Lib.hid (E4.out.fr (XA.out.trans hf5) (by simp))
  have q5 := row11 B6.out
  have hml : ((f.rg.ms.length : Int) == 0) = false := by have := HMS.out; rw [beq_eq_false_iff_ne]; omega
  have hml1 : (0 : Int) < (f.rg.ms.length : Int) := by have := HMS.out; omega
  clear hf5 k4 q4
  go_wp2_with fail
  refine (N1.out _).mono ?_
  rintro e w6 ⟨rfl, rfl⟩
  by_cases h0 : xs.length = 0
  · have hxl : ((xs.length : Int) == 0) = true := by simp [h0]
    clear h0
    go_wp2
    go_ret
    exact ⟨rfl, F5.out.grown (by simp)⟩
  have hxl : ((xs.length : Int) == 0) = false := by rw [beq_eq_false_iff_ne]; omega
  have hxl1 : (0 : Int) < (xs.length : Int) := by omega
  have HX0 := Lib.hid (show 0 < xs.length by omega)
  clear h0
  obtain ⟨g1, c2', he1, hc1, hg1⟩ := row_head E5.out.1 HX0.out
  simp only [Value.slice.injEq, true_and] at he1
  obtain ⟨rfl, rfl⟩ := he1
  obtain ⟨y, hy⟩ : ∃ y, xs[0]? = some y := ⟨_, List.getElem?_eq_getElem HX0.out⟩
  have hymem : y.1 ∈ f.rg.es := by rw [← HXS.out]; exact List.mem_map.2 ⟨y, List.mem_of_getElem? hy, rfl⟩
  obtain ⟨_, _, _, e3, _⟩ := encs_get xs 0 y hy
  have l0 := (World.ownsRow.cellAt E5.out.1 3 (by have := HX0.out; omega)).trans e3
  have hob := E5.out.2 y (List.mem_of_getElem? hy)
  obtain ⟨a3, c3, hv3⟩ := row_shape hob
  rw [hv3] at l0 hob
  have HYV := Lib.hid hv3
  have HOB := Lib.hid hob
  have HYY := Lib.hid hy
  have HMEM := Lib.hid hymem
  clear hy hymem hob hv3 hc1 hg1 e3
  by_cases h1 : y.1.bs.length = 0
  · have hbl : ((y.1.bs.length : Int) == 0) = true := by simp [h1]
    clear h1
    go_wp2
    go_ret
    exact ⟨rfl, F5.out.grown (by simp)⟩
  have hbl : ((y.1.bs.length : Int) == 0) = false := by rw [beq_eq_false_iff_ne]; omega
  have hbl1 : (0 : Int) < (y.1.bs.length : Int) := by omega
  have HB0 := Lib.hid (show 0 < y.1.bs.length by omega)
  clear h1
  obtain ⟨g2, c3', he2, hc2, hg2⟩ := row_head HOB.out HB0.out
  simp only [Value.slice.injEq, true_and] at he2
  obtain ⟨rfl, rfl⟩ := he2
  obtain ⟨b, hb⟩ : ∃ b, b = y.1.bs.getD 0 (0, 0) := ⟨_, rfl⟩
  have hbm : b ∈ y.1.bs := by rw [hb]; exact getD_mem HB0.out (0, 0)
  have m0 := (World.ownsRow.cellAt HOB.out 1 (by have := HB0.out; omega)).trans (show (bdc y.1.bs)[1]? = some (.int .i64 b.2) by rw [hb]; exact (bdc_get y.1.bs 0 HB0.out).2)
  have r0 := World.ownsRow.frozenAt HOB.out 1
  have hxr := ((HRG.out.2.2.2.2.2.2 _ HMEM.out).2.2.2.2.2 b hbm).2
  have hwr : IntKind.i64.wrap (b.2 + 1) = b.2 + 1 := IntWalk.i64_in _ (by omega)
  have hbs : ∃ l, y.1.bs = b :: l := by
    cases hbb : y.1.bs with
    | nil => have := HB0.out; rw [hbb] at this; simp at this
    | cons c l => exact ⟨l, by rw [hb, hbb]; rfl⟩
  have HBS := Lib.hid hbs
  have S6 := Lib.hid (Fr.setCell w5 g2 1 (.int .i64 (b.2 + 1)) (S := [g2]) (by simp))
  have gb := Lib.hid ((World.ownsRow.lt HOB.out g2 rfl).1)
  have n5 : w.heap.size ≠ g2 := fun e => row_ne HOB.out B5.out (by decide) (by rw [e]; rfl)
  have n6 : w4.heap.size ≠ g2 := fun e => row_ne HOB.out B6.out (by decide) (by rw [e]; rfl)
  have FQ := Lib.hid (F5.out.new S6.out (by intro r hr; obtain rfl := List.mem_singleton.1 hr; exact gb.out))
  have HNE : Hid (({ f with rg := { f.rg with es := (xs.map (bumpX g2 (b.2 + 1))).map (·.1) } } : F) ≠ f) := es_ne f _ (by rw [← HXS.out]; obtain ⟨l, hl⟩ := HBS.out; exact bump_ne xs g2 _ y b l HYY.out hl (by rw [HYV.out]; rfl) (by omega))
  have HS0 : Hid (OwnS w.heap.size w4.heap.size f ({ f with rg := { f.rg with es := (xs.map (bumpX g2 (b.2 + 1))).map (·.1) } } : F) vm ve (.slice a1 f.rg.ms.length c1) (.slice (some ⟨g1, 0, none⟩) xs.length c2) (w5.setCell ⟨g2, 1, none⟩ (.int .i64 (b.2 + 1)))) :=
    ⟨C11.of (S6.out.heap B5.out (by simpa using n5)), C11.of (f := { f with rg := { f.rg with es := (xs.map (bumpX g2 (b.2 + 1))).map (·.1) } }) (S6.out.heap B6.out (by simpa using n6))⟩
  have HMg : Hid (Holds .i64 (w5.setCell ⟨g2, 1, none⟩ (.int .i64 (b.2 + 1))) (.slice a1 f.rg.ms.length c1) f.rg.ms) := by
    obtain ⟨cs, hcs⟩ := row_at HOB.out
    exact OwnI.holds (B := w.heap.size) (row_fr M5.out S6.out (by intro r hr; obtain rfl := List.mem_singleton.1 hr; exact row_ne M5.out hcs (by decide)))
  have HEg : Hid (HE (w5.setCell ⟨g2, 1, none⟩ (.int .i64 (b.2 + 1))) (.slice (some ⟨g1, 0, none⟩) xs.length c2) ((xs.map (bumpX g2 (b.2 + 1))).map (·.1))) := by
    obtain ⟨cs, hcs⟩ := row_at HOB.out
    exact (OwnE.bump E5.out hcs (b.2 + 1)).he
  clear hb hbm hxr n5 n6 hc2 hg2 hbs
  go_wp2_with fail
  have HSAME := Lib.hid (fun W (hW : Fr w W []) (h1 : Holds .i64 W (.slice a1 f.rg.ms.length c1) ({ f with rg := { f.rg with es := (xs.map (bumpX g2 (b.2 + 1))).map (·.1) } } : F).rg.ms) (h2 : HE W (.slice (some ⟨g1, 0, none⟩) xs.length c2) ({ f with rg := { f.rg with es := (xs.map (bumpX g2 (b.2 + 1))).map (·.1) } } : F).rg.es) => (show Calls Tryd.prog 14 #[.agg #[.int .i64 f.ki, .int .i64 f.fr, .int .i64 f.to, .int .i64 f.li, .int .i64 f.se, .bool f.ou, .int .i64 f.rg.co, .int .i64 f.rg.fo, .int .i64 f.rg.ho, (.slice a1 f.rg.ms.length c1), (.slice (some ⟨g1, 0, none⟩) xs.length c2)], .agg #[.int .i64 f.ki, .int .i64 f.fr, .int .i64 f.to, .int .i64 f.li, .int .i64 f.se, .bool f.ou, .int .i64 f.rg.co, .int .i64 f.rg.fo, .int .i64 f.rg.ho, vm, ve]] W fun e w' => e = .returned (.bool false) ∧ Fr W w' [] from same_frame ({ f with rg := { f.rg with es := (xs.map (bumpX g2 (b.2 + 1))).map (·.1) } } : F) f (.slice a1 f.rg.ms.length c1) (.slice (some ⟨g1, 0, none⟩) xs.length c2) vm ve false (ino HNE.out) W h1 h2 (HM.out.keep hW) (HX.out.keep hW)))
  have HVAL := Lib.hid (fun W (hW : Fr w W []) => (show Calls Tryd.prog 13 #[.agg #[.int .i64 f.ki, .int .i64 f.fr, .int .i64 f.to, .int .i64 f.li, .int .i64 f.se, .bool f.ou, .int .i64 f.rg.co, .int .i64 f.rg.fo, .int .i64 f.rg.ho, vm, ve]] W fun e w' => e = .returned .nilIface ∧ Fr W w' [] from (by have h := valid_frame f vm ve W A _ _ (HEV.out.keep hW) (HM.out.keep hW) (HX.out.keep hW); rw [HC.out] at h; exact h)))
  have HCLN := Lib.hid (fun W (hW : Fr w W []) => (show Calls Tryd.prog 16 #[.agg #[.int .i64 f.ki, .int .i64 f.fr, .int .i64 f.to, .int .i64 f.li, .int .i64 f.se, .bool f.ou, .int .i64 f.rg.co, .int .i64 f.rg.fo, .int .i64 f.rg.ho, vm, ve]] W (Gives (ClnP f W)) from clone_frame f vm ve W (HM.out.keep hW) (HX.out.keep hW) (by have := HLT.out.2.1; omega) (by have := HLT.out.2.2; omega) (fun e he => by have := HLT.out.1 e he; omega)))
  have HRS := Lib.hid (fun W um ue (hW : Fr w W []) (h1 : Holds .i64 W um f.rg.ms) (h2 : HE W ue f.rg.es) => (show Calls Tryd.prog 15 #[.agg #[.int .i64 f.ki, .int .i64 f.fr, .int .i64 f.to, .int .i64 f.li, .int .i64 f.se, .bool f.ou, .int .i64 f.rg.co, .int .i64 f.rg.fo, .int .i64 f.rg.ho, vm, ve], .agg #[.int .i64 f.ki, .int .i64 f.fr, .int .i64 f.to, .int .i64 f.li, .int .i64 f.se, .bool f.ou, .int .i64 f.rg.co, .int .i64 f.rg.fo, .int .i64 f.rg.ho, um, ue]] W fun e w' => e = .returned (.bool true) ∧ Fr W w' [] from rsame_frame f f vm ve um ue true (iyes rfl) W (HM.out.keep hW) (HX.out.keep hW) h1 h2))
  refine wp_region_noPanic ?_
  refine wp_region_held_drew (S := OwnS w.heap.size w4.heap.size f ({ f with rg := { f.rg with es := (xs.map (bumpX g2 (b.2 + 1))).map (·.1) } } : F) vm ve (.slice a1 f.rg.ms.length c1) (.slice (some ⟨g1, 0, none⟩) xs.length c2)) (by kernel_rfl) (HS0.out.keep (Fr.drew _ [])) (fun hHeld => ?_)
  refine wpAnyH_take (i := 0) (oi := _) (v := ?fv0x) (by simp only [List.getElem?_toArray, List.getElem?_cons_zero]; rfl) (by kernel_rfl) (by kernel_rfl) (by kernel_rfl) (fun _ _ _ h => h) (Or.inl ⟨by rfl, ?fy0x⟩) (by assumption) ?fr0x
  case fy0x => (intro w hSw; (try dsimp only [OwnS, C11] at hSw); go_simp; try with_reducible rfl)
  try simp only [Act.put, List.setIfInBounds_toArray, List.set_cons_zero, List.set_cons_succ]
  refine wpAnyH_take (i := 1) (oi := _) (v := ?fv1x) (by simp only [List.getElem?_toArray, List.getElem?_cons_zero, List.getElem?_cons_succ]; rfl) (by kernel_rfl) (by kernel_rfl) (by kernel_rfl) (fun _ _ _ h => h) (Or.inl ⟨by rfl, ?fy1x⟩) (by assumption) ?fr1x
  case fy1x => (intro w hSw; (try dsimp only [OwnS, C11] at hSw); go_simp; try with_reducible rfl)
  try simp only [Act.put, List.setIfInBounds_toArray, List.set_cons_zero, List.set_cons_succ]
  refine wpAnyH_take (i := 2) (oi := _) (v := ?fv2x) (by simp only [List.getElem?_toArray, List.getElem?_cons_zero, List.getElem?_cons_succ]; rfl) (by kernel_rfl) (by kernel_rfl) (by kernel_rfl) (fun _ _ _ h => h) (Or.inl ⟨by rfl, ?fy2x⟩) (by assumption) ?fr2x
  case fy2x => (intro w hSw; (try dsimp only [OwnS, C11] at hSw); go_simp; try with_reducible rfl)
  try simp only [Act.put, List.setIfInBounds_toArray, List.set_cons_zero, List.set_cons_succ]
  refine wpAnyH_take (i := 3) (oi := _) (v := ?fv3x) (by simp only [List.getElem?_toArray, List.getElem?_cons_zero, List.getElem?_cons_succ]; rfl) (by kernel_rfl) (by kernel_rfl) (by kernel_rfl) (fun _ _ _ h => h) (Or.inl ⟨by rfl, ?fy3x⟩) (by assumption) ?fr3x
  case fy3x => (intro w hSw; (try dsimp only [OwnS, C11] at hSw); go_simp; try with_reducible rfl)
  try simp only [Act.put, List.setIfInBounds_toArray, List.set_cons_zero, List.set_cons_succ]
  refine wpAnyH_ready (rs := [4]) (by kernel_rfl) (by simp) ?_
  refine AllReadyH.cons (o := _) rfl (fun K hK => ?_) AllReadyH.nil
  go_simp
  with_reducible refine (HSAME.out _ (FQ.out.trans (Fr.drew _ [])) (HMg.out.keep (Fr.drew _ [])) (HEg.out.keep (Fr.drew _ []))).mono ?_
  rintro e wa ⟨rfl, hfa⟩
  have FA := Lib.hid ((Fr.drew _ []).trans hfa)
  have hsa := (HS0.out.keep (Fr.drew _ [])).keep hfa
  clear hfa
  go_wp2_with fail
  refine hK.out _ _ hsa (fun hHeld => ?_)
  clear hK K
  try simp only [Act.put, List.setIfInBounds_toArray, List.set_cons_zero, List.set_cons_succ]
  refine wpAnyH_take (i := 5) (oi := _) (v := ?fv5x) (by simp only [List.getElem?_toArray, List.getElem?_cons_zero, List.getElem?_cons_succ]; rfl) (by kernel_rfl) (by kernel_rfl) (by kernel_rfl) (fun _ _ _ h => h) (Or.inl ⟨by rfl, ?fy5x⟩) (by assumption) ?fr5x
  case fy5x => (intro w hSw; (try dsimp only [OwnS, C11] at hSw); go_simp; try with_reducible rfl)
  try simp only [Act.put, List.setIfInBounds_toArray, List.set_cons_zero, List.set_cons_succ]
  refine wpAnyH_take (i := 6) (oi := _) (v := ?fv6x) (by simp only [List.getElem?_toArray, List.getElem?_cons_zero, List.getElem?_cons_succ]; rfl) (by kernel_rfl) (by kernel_rfl) (by kernel_rfl) (fun _ _ _ h => h) (Or.inl ⟨by rfl, ?fy6x⟩) (by assumption) ?fr6x
  case fy6x => (intro w hSw; (try dsimp only [OwnS, C11] at hSw); go_simp; try with_reducible rfl)
  try simp only [Act.put, List.setIfInBounds_toArray, List.set_cons_zero, List.set_cons_succ]
  refine wpAnyH_take (i := 7) (oi := _) (v := ?fv7x) (by simp only [List.getElem?_toArray, List.getElem?_cons_zero, List.getElem?_cons_succ]; rfl) (by kernel_rfl) (by kernel_rfl) (by kernel_rfl) (fun _ _ _ h => h) (Or.inl ⟨by rfl, ?fy7x⟩) (by assumption) ?fr7x
  case fy7x => (intro w hSw; (try dsimp only [OwnS, C11] at hSw); go_simp; try with_reducible rfl)
  try simp only [Act.put, List.setIfInBounds_toArray, List.set_cons_zero, List.set_cons_succ]
  refine wpAnyH_take (i := 8) (oi := _) (v := ?fv8x) (by simp only [List.getElem?_toArray, List.getElem?_cons_zero, List.getElem?_cons_succ]; rfl) (by kernel_rfl) (by kernel_rfl) (by kernel_rfl) (fun _ _ _ h => h) (Or.inl ⟨by rfl, ?fy8x⟩) (by assumption) ?fr8x
  case fy8x => (intro w hSw; (try dsimp only [OwnS, C11] at hSw); go_simp; try with_reducible rfl)
  try simp only [Act.put, List.setIfInBounds_toArray, List.set_cons_zero, List.set_cons_succ]
  refine wpAnyH_ready (rs := [9]) (by kernel_rfl) (by simp) ?_
  refine AllReadyH.cons (o := _) rfl (fun K hK => ?_) AllReadyH.nil
  go_simp
  with_reducible refine (HVAL.out _ (FQ.out.trans FA.out)).mono ?_
  rintro e wb ⟨rfl, hfb⟩
  have FB' := Lib.hid (FA.out.trans hfb)
  have hsb := hsa.keep hfb
  clear hfb
  go_wp2_with fail
  refine hK.out _ _ hsb (fun hHeld => ?_)
  clear hK K
  try simp only [Act.put, List.setIfInBounds_toArray, List.set_cons_zero, List.set_cons_succ]
  refine wpAnyH_take (i := 10) (oi := _) (v := ?fv10x) (by simp only [List.getElem?_toArray, List.getElem?_cons_zero, List.getElem?_cons_succ]; rfl) (by kernel_rfl) (by kernel_rfl) (by kernel_rfl) (fun _ _ _ h => h) (Or.inl ⟨by rfl, ?fy10x⟩) (by assumption) ?fr10x
  case fy10x => (intro w hSw; (try dsimp only [OwnS, C11] at hSw); go_simp; try with_reducible rfl)
  try simp only [Act.put, List.setIfInBounds_toArray, List.set_cons_zero, List.set_cons_succ]
  refine wpAnyH_take (i := 11) (oi := _) (v := ?fv11x) (by simp only [List.getElem?_toArray, List.getElem?_cons_zero, List.getElem?_cons_succ]; rfl) (by kernel_rfl) (by kernel_rfl) (by kernel_rfl) (fun _ _ _ h => h) (Or.inl ⟨by rfl, ?fy11x⟩) (by assumption) ?fr11x
  case fy11x => (intro w hSw; (try dsimp only [OwnS, C11] at hSw); go_simp; try with_reducible rfl)
  try simp only [Act.put, List.setIfInBounds_toArray, List.set_cons_zero, List.set_cons_succ]
  refine wpAnyH_take (i := 12) (oi := _) (v := ?fv12x) (by simp only [List.getElem?_toArray, List.getElem?_cons_zero, List.getElem?_cons_succ]; rfl) (by kernel_rfl) (by kernel_rfl) (by kernel_rfl) (fun _ _ _ h => h) (Or.inl ⟨by rfl, ?fy12x⟩) (by assumption) ?fr12x
  case fy12x => (intro w hSw; (try dsimp only [OwnS, C11] at hSw); go_simp; try with_reducible rfl)
  try simp only [Act.put, List.setIfInBounds_toArray, List.set_cons_zero, List.set_cons_succ]
  refine wpAnyH_take (i := 13) (oi := _) (v := ?fv13x) (by simp only [List.getElem?_toArray, List.getElem?_cons_zero, List.getElem?_cons_succ]; rfl) (by kernel_rfl) (by kernel_rfl) (by kernel_rfl) (fun _ _ _ h => h) (Or.inl ⟨by rfl, ?fy13x⟩) (by assumption) ?fr13x
  case fy13x => (intro w hSw; (try dsimp only [OwnS, C11] at hSw); go_simp; try with_reducible rfl)
  try simp only [Act.put, List.setIfInBounds_toArray, List.set_cons_zero, List.set_cons_succ]
  refine wpAnyH_take (i := 14) (oi := _) (v := ?fv14x) (by simp only [List.getElem?_toArray, List.getElem?_cons_zero, List.getElem?_cons_succ]; rfl) (by kernel_rfl) (by kernel_rfl) (by kernel_rfl) (fun _ _ _ h => h) (Or.inl ⟨by rfl, ?fy14x⟩) (by assumption) ?fr14x
  case fy14x => (intro w hSw; (try dsimp only [OwnS, C11] at hSw); go_simp; try with_reducible rfl)
  try simp only [Act.put, List.setIfInBounds_toArray, List.set_cons_zero, List.set_cons_succ]
  refine wpAnyH_ready (rs := [15]) (by kernel_rfl) (by simp) ?_
  refine AllReadyH.cons (o := _) rfl (fun K hK => ?_) AllReadyH.nil
  go_simp
  with_reducible refine (HCLN.out _ (FQ.out.trans FB'.out)).mono ?_
  rintro e wc ⟨u, rfl, um, ue, ys, rfl, o1, o2, hys, hfc⟩
  have UM := Lib.hid o1.holds
  have UE := Lib.hid (show HE wc ue f.rg.es from hys ▸ o2.he)
  have FC := Lib.hid (FB'.out.trans hfc)
  have hsc := hsb.keep hfc
  clear o1 o2 hys hfc
  unfold frV
  go_wp2_with fail
  refine hK.out _ _ hsc (fun hHeld => ?_)
  clear hK K
  try simp only [Act.put, List.setIfInBounds_toArray, List.set_cons_zero, List.set_cons_succ]
  refine wpAnyH_ready (rs := [16]) (by kernel_rfl) (by simp) ?_
  refine AllReadyH.cons (o := _) rfl (fun K hK => ?_) AllReadyH.nil
  go_simp
  with_reducible refine (HRS.out _ um ue (FQ.out.trans FC.out) UM.out UE.out).mono ?_
  rintro e wd ⟨rfl, hfd⟩
  have FD := Lib.hid (FQ.out.trans (FC.out.trans hfd))
  have hsd := hsc.keep hfd
  clear hfd
  go_wp2_with fail
  refine hK.out _ _ hsd (fun hHeld => ?_)
  clear hK K
  try simp only [Act.put, List.setIfInBounds_toArray, List.set_cons_zero, List.set_cons_succ]
  refine wpAnyH_take (i := 17) (oi := _) (v := ?fv17x) (by simp only [List.getElem?_toArray, List.getElem?_cons_zero, List.getElem?_cons_succ]; rfl) (by kernel_rfl) (by kernel_rfl) (by kernel_rfl) (fun _ _ _ h => h) (Or.inl ⟨by rfl, ?fy17x⟩) (by assumption) ?fr17x
  case fy17x => (intro w hSw; (try dsimp only [OwnS, C11] at hSw); go_simp; try with_reducible rfl)
  try simp only [Act.put, List.setIfInBounds_toArray, List.set_cons_zero, List.set_cons_succ]
  refine wpAnyH_take (i := 18) (oi := _) (v := ?fv18x) (by simp only [List.getElem?_toArray, List.getElem?_cons_zero, List.getElem?_cons_succ]; rfl) (by kernel_rfl) (by kernel_rfl) (by kernel_rfl) (fun _ _ _ h => h) (Or.inl ⟨by rfl, ?fy18x⟩) (by assumption) ?fr18x
  case fy18x => (intro w hSw; (try dsimp only [OwnS, C11] at hSw); go_simp; try with_reducible rfl)
  try simp only [Act.put, List.setIfInBounds_toArray, List.set_cons_zero, List.set_cons_succ]
  refine wpAnyH_done (by kernel_rfl) ?_ _
  refine NoPanic.normal ?_
  clear hsa hsb hsc hsd
  go_wp2
  go_ret
  exact ⟨rfl, FD.out.grown (by simp)⟩
set_option maxHeartbeats 8000000 in
set_option maxRecDepth 100000 in
theorem fown_walk (f : F) (vm ve : Value) (n : Int) (hn : (Lit.int .i64 n).wf = true) (w : World) (A : Nat → Addr) (hE : EV [2, 3, 6, 10] w A w.heap.size)
    (hm : Holds .i64 w vm f.rg.ms) (he : HE w ve f.rg.es) :
    Calls Tryd.prog 5 #[frV f vm ve, .int .i64 n] w fun e w' => e = .returned (.bool true) ∧ w.grownBy w' none := by
  obtain ⟨hn0, hn1⟩ := bounds_i64 hn
  by_cases hL : Light f
  rotate_left
  · have HEV := Lib.hid hE
    have HM := Lib.hid hm
    have HX := Lib.hid he
    have HD := Lib.hid (no hL)
    unfold frV
    have HF0 := Lib.hid (Fr.alloc w (.cells #[.int .i64 f.ki, .int .i64 f.fr, .int .i64 f.to, .int .i64 f.li, .int .i64 f.se, .bool f.ou, .int .i64 f.rg.co, .int .i64 f.rg.fo, .int .i64 f.rg.ho, vm, ve] 29) [])
    have HZ := Lib.hid (heap_alloc_new w (.cells #[.int .i64 f.ki, .int .i64 f.fr, .int .i64 f.to, .int .i64 f.li, .int .i64 f.se, .bool f.ou, .int .i64 f.rg.co, .int .i64 f.rg.fo, .int .i64 f.rg.ho, vm, ve] 29))
    clear hE hm he hL hn0 hn1 hn
    go_enter Tryd.func5, Tryd.ntmps5
    go_wp2_with fail
    refine (first5_any _ A _ _ (HEV.out.keep HF0.out)).mono ?_
    rintro e w1 ⟨rfl, hf1⟩
    have k1 := row11 (hf1.heap HZ.out (by simp))
    have F1 := Lib.hid (HF0.out.trans hf1)
    clear hf1
    go_wp2_with fail
    refine (light_any f vm ve _ HD.out _ (HM.out.keep F1.out) (HX.out.keep F1.out)).mono ?_
    rintro e w2 ⟨rfl, hf2⟩
    go_wp2
    go_ret
    exact ⟨rfl, (F1.out.trans hf2).grown (by simp)⟩
  by_cases hc : frameC f = 0
  rotate_left
  · have HEV := Lib.hid hE
    have HM := Lib.hid hm
    have HX := Lib.hid he
    have HD := Lib.hid (yes hL)
    have HC := Lib.hid hc
    unfold frV
    have HF0 := Lib.hid (Fr.alloc w (.cells #[.int .i64 f.ki, .int .i64 f.fr, .int .i64 f.to, .int .i64 f.li, .int .i64 f.se, .bool f.ou, .int .i64 f.rg.co, .int .i64 f.rg.fo, .int .i64 f.rg.ho, vm, ve] 29) [])
    have HZ := Lib.hid (heap_alloc_new w (.cells #[.int .i64 f.ki, .int .i64 f.fr, .int .i64 f.to, .int .i64 f.li, .int .i64 f.se, .bool f.ou, .int .i64 f.rg.co, .int .i64 f.rg.fo, .int .i64 f.rg.ho, vm, ve] 29))
    clear hE hm he hL hc hn0 hn1 hn
    go_enter Tryd.func5, Tryd.ntmps5
    go_wp2_with fail
    refine (first5_any _ A _ _ (HEV.out.keep HF0.out)).mono ?_
    rintro e w1 ⟨rfl, hf1⟩
    have k1 := row11 (hf1.heap HZ.out (by simp))
    have F1 := Lib.hid (HF0.out.trans hf1)
    have G1 := Lib.hid hf1
    clear hf1
    go_wp2_with fail
    refine (light_any f vm ve _ HD.out _ (HM.out.keep F1.out) (HX.out.keep F1.out)).mono ?_
    rintro e w2 ⟨rfl, hf2⟩
    have k2 := row11 ((G1.out.trans hf2).heap HZ.out (by simp))
    have F2 := Lib.hid (F1.out.trans hf2)
    clear hf2 k1
    go_wp2_with fail
    refine (valid_frame f vm ve _ A _ _ (HEV.out.keep F2.out) (HM.out.keep F2.out) (HX.out.keep F2.out)).mono ?_
    rintro e w3 ⟨rfl, hf3⟩
    rw [ev_ne A HC.out]
    go_wp2
    go_ret
    exact ⟨rfl, (F2.out.trans hf3).grown (by simp)⟩
  by_cases hki : f.ki = 2
  rotate_left
  · have HEV := Lib.hid hE
    have HM := Lib.hid hm
    have HX := Lib.hid he
    have HD := Lib.hid (yes hL)
    have HC := Lib.hid hc
    have hk2 : (f.ki == 2) = false := by simp [hki]
    unfold frV
    have HF0 := Lib.hid (Fr.alloc w (.cells #[.int .i64 f.ki, .int .i64 f.fr, .int .i64 f.to, .int .i64 f.li, .int .i64 f.se, .bool f.ou, .int .i64 f.rg.co, .int .i64 f.rg.fo, .int .i64 f.rg.ho, vm, ve] 29) [])
    have HZ := Lib.hid (heap_alloc_new w (.cells #[.int .i64 f.ki, .int .i64 f.fr, .int .i64 f.to, .int .i64 f.li, .int .i64 f.se, .bool f.ou, .int .i64 f.rg.co, .int .i64 f.rg.fo, .int .i64 f.rg.ho, vm, ve] 29))
    clear hE hm he hL hc hn0 hn1 hn hki
    go_enter Tryd.func5, Tryd.ntmps5
    go_wp2_with fail
    refine (first5_any _ A _ _ (HEV.out.keep HF0.out)).mono ?_
    rintro e w1 ⟨rfl, hf1⟩
    have k1 := row11 (hf1.heap HZ.out (by simp))
    have F1 := Lib.hid (HF0.out.trans hf1)
    have G1 := Lib.hid hf1
    clear hf1
    go_wp2_with fail
    refine (light_any f vm ve _ HD.out _ (HM.out.keep F1.out) (HX.out.keep F1.out)).mono ?_
    rintro e w2 ⟨rfl, hf2⟩
    have k2 := row11 ((G1.out.trans hf2).heap HZ.out (by simp))
    have G2 := Lib.hid (G1.out.trans hf2)
    have F2 := Lib.hid (F1.out.trans hf2)
    clear hf2 k1
    go_wp2_with fail
    refine (valid_frame f vm ve _ A _ _ (HEV.out.keep F2.out) (HM.out.keep F2.out) (HX.out.keep F2.out)).mono ?_
    rintro e w3 ⟨rfl, hf3⟩
    rw [HC.out, show ev A 0 = Value.nilIface from rfl]
    have k3 := row11 ((G2.out.trans hf3).heap HZ.out (by simp))
    have F3 := Lib.hid (F2.out.trans hf3)
    clear hf3 k2
    go_wp2
    go_ret
    exact ⟨rfl, F3.out.grown (by simp)⟩
  have h4 : n % 4 = 0 ∨ n % 4 = 1 ∨ n % 4 = 2 ∨ n % 4 = 3 := by omega
  rcases h4 with h | h | h | h
  · exact fown_case0 f vm ve n hn0 hn1 h w A hE hm he hL hc hki
  · exact fown_case1 f vm ve n hn0 hn1 h w A hE hm he hL hc hki
  · exact fown_case2 f vm ve n hn0 hn1 h w A hE hm he hL hc hki
  · exact fown_case3 f vm ve n hn0 hn1 h w A hE hm he hL hc hki
end Go.Proofs.YtpeocdcciecpoaaDoor
