/- The document's FrameBytes, of a right frame. -/
import Derived.Test.YtpeocdcciecpoaaDoorFOwn
import Derived.Test.YtpeocdcciecpoaaDoorFFirst
import Derived.Test.YtpeocdcciecpoaaDoorFMath2
namespace Go.Proofs.YtpeocdcciecpoaaDoor
open Go.RowKit Fm

theorem rput (v : Value) (l : List Int) (n : Int) (w : World) (h : Bytes w v l) (hr : l.length ≤ 70368744177664) (hn : I64 n) :
    Calls Tryd.prog 39 #[v, .int .i64 n] w (Gives fun u w' => Bytes w' u (l ++ Wm.enc n) ∧ Fr w w' []) :=
  (refPut_any v l n w h hr hn.1 hn.2).mono fun _ _ ⟨u, he, ho, hg⟩ => ⟨u, he, ho.bytes, Fr.of_grown hg []⟩
theorem rbit (b : Bool) (w : World) : Calls Tryd.prog 40 #[.bool b] w fun e w' => e = .returned (.int .i64 (bit b)) ∧ w = w' := by
  cases b
  all_goals
    go_enter Tryd.func40, Tryd.ntmps40
    go_wp2
    go_ret
    exact ⟨rfl, rfl⟩
/-- A ring, an entry by its cells. -/
def C5 (a : World) (b : Nat) (v0 v1 v2 v3 v4 : Value) : Prop :=
  a.cell? ⟨b, 0, none⟩ = some v0 ∧ a.cell? ⟨b, 1, none⟩ = some v1 ∧ a.cell? ⟨b, 2, none⟩ = some v2 ∧ a.cell? ⟨b, 3, none⟩ = some v3 ∧ a.cell? ⟨b, 4, none⟩ = some v4
theorem C5.keep {a c : World} {b : Nat} {v0 v1 v2 v3 v4 : Value} (h : C5 a b v0 v1 v2 v3 v4) (k : Fr a c []) : C5 c b v0 v1 v2 v3 v4 := by
  obtain ⟨h0, h1, h2, h3, h4⟩ := h
  exact ⟨k.cell h0 (by simp), k.cell h1 (by simp), k.cell h2 (by simp), k.cell h3 (by simp), k.cell h4 (by simp)⟩
/-- What a round of the bids reads. -/
def BidRd (be bb ob j : Nat) (n c : Nat) (x y : Int) (a : World) : Prop :=
  a.cell? ⟨be, 3, none⟩ = some (.slice (some ⟨bb, ob, none⟩) n c) ∧ a.cell? ⟨bb, ob + j * 2, none⟩ = some (.int .i64 x) ∧ a.cell? ⟨bb, ob + j * 2 + 1, none⟩ = some (.int .i64 y)
theorem BidRd.keep {be bb ob j n c : Nat} {x y : Int} {a d : World} (h : BidRd be bb ob j n c x y a) (k : Fr a d []) : BidRd be bb ob j n c x y d :=
  ⟨k.cell h.1 (by simp), k.cell h.2.1 (by simp), k.cell h.2.2 (by simp)⟩
theorem HB.at {w : World} {v : Value} {l : List (Int × Int)} (h : HB w v l) {k : Nat} (hk : k < l.length) : ∃ b off cap, v = .slice (some ⟨b, off, none⟩) l.length cap ∧ l.length ≤ cap ∧ cap ≤ maxLen ∧
    w.cell? ⟨b, off + k * 2, none⟩ = some (.int .i64 (l.getD k (0, 0)).1) ∧ w.cell? ⟨b, off + k * 2 + 1, none⟩ = some (.int .i64 (l.getD k (0, 0)).2) := by
  obtain ⟨a, cap, rfl, h1, h2, h3⟩ := h
  obtain ⟨b, off, rfl, hc⟩ := h3 (by omega)
  exact ⟨b, off, cap, rfl, h1, h2, hc k hk⟩
theorem i64_of {n : Int} (h : -1 ≤ n) (h2 : n ≤ 281474976710656) : I64 n := ⟨by omega, by omega⟩
theorem i64_len {α : Type} (l : List α) (h : l.length ≤ 1000) : I64 (l.length : Int) := ⟨by omega, by omega⟩
theorem i64_bit (b : Bool) : I64 (bit b) := by cases b <;> exact ⟨by decide, by decide⟩

set_option maxHeartbeats 8000000 in
set_option maxRecDepth 100000 in
theorem rframe_beat (f : F) (vm ve : Value) (w : World) (hc : frameC f = 0) (hki : f.ki = 1) (hm : Holds .i64 w vm f.rg.ms) (he : HE w ve f.rg.es) :
    Calls Tryd.prog 18 #[frV f vm ve] w (Gives fun u w' => Bytes w' u (bytesF f) ∧ Fr w w' []) := by
  have hli : Kept f.li ∧ Kept f.se := by
    obtain ⟨_, h⟩ := frameC_cases hc
    rcases h with h | h
    · exact ⟨h.2.1, h.2.2.1⟩
    · omega
  have R3 := Lib.hid (i64_of (n := f.li) (by have := hli.1.1; omega) (by have := hli.1.2; omega))
  have R4 := Lib.hid (i64_of (n := f.se) (by have := hli.2.1; omega) (by have := hli.2.2; omega))
  have HFIN : Hid (((([80, f.ki] ++ Wm.enc f.fr) ++ Wm.enc f.to) ++ Wm.enc f.li ++ Wm.enc f.se) ++ Wm.enc (bit f.ou) = bytesF f) := by
    show _ = _
    simp [bytesF, encBody, hki]
  have e1 : (f.ki == 1) = true := by simp [hki]
  have hwk : IntKind.u8.wrap f.ki = f.ki := by rw [hki]; rfl
  clear hli hki
  obtain ⟨⟨hfr, hto⟩, hkk⟩ := frameC_cases hc
  unfold Car at hfr hto
  have R1 := Lib.hid (i64_of (n := f.fr) (by omega) (by omega))
  have R2 := Lib.hid (i64_of (n := f.to) (by omega) (by omega))
  have HM := Lib.hid hm
  have HX := Lib.hid he
  unfold frV
  have HF0 := Lib.hid (Fr.alloc w (.cells #[.int .i64 f.ki, .int .i64 f.fr, .int .i64 f.to, .int .i64 f.li, .int .i64 f.se, .bool f.ou, .int .i64 f.rg.co, .int .i64 f.rg.fo, .int .i64 f.rg.ho, vm, ve] 29) [])
  have HC := Lib.hid (C11.of (heap_alloc_new w (.cells #[.int .i64 f.ki, .int .i64 f.fr, .int .i64 f.to, .int .i64 f.li, .int .i64 f.se, .bool f.ou, .int .i64 f.rg.co, .int .i64 f.rg.fo, .int .i64 f.rg.ho, vm, ve] 29)))
  have Fa := Lib.hid (HF0.out.trans (Fr.alloc (w.alloc (.cells #[.int .i64 f.ki, .int .i64 f.fr, .int .i64 f.to, .int .i64 f.li, .int .i64 f.se, .bool f.ou, .int .i64 f.rg.co, .int .i64 f.rg.fo, .int .i64 f.rg.ho, vm, ve] 29)) (.cells #[.int .u8 80, .int .u8 f.ki] 5) []))
  have Ba : Hid (Bytes ((w.alloc (.cells #[.int .i64 f.ki, .int .i64 f.fr, .int .i64 f.to, .int .i64 f.li, .int .i64 f.se, .bool f.ou, .int .i64 f.rg.co, .int .i64 f.rg.fo, .int .i64 f.rg.ho, vm, ve] 29)).alloc (.cells #[.int .u8 80, .int .u8 f.ki] 5)) (.slice (some ⟨w.heap.size + 1, 0, none⟩) 2 2) [80, f.ki]) := by
    have h := lit_bytes (w.alloc (.cells #[.int .i64 f.ki, .int .i64 f.fr, .int .i64 f.to, .int .i64 f.li, .int .i64 f.se, .bool f.ou, .int .i64 f.rg.co, .int .i64 f.rg.fo, .int .i64 f.rg.ho, vm, ve] 29)) [80, f.ki] (by simp [maxLen])
    rw [show (w.alloc (.cells #[.int .i64 f.ki, .int .i64 f.fr, .int .i64 f.to, .int .i64 f.li, .int .i64 f.se, .bool f.ou, .int .i64 f.rg.co, .int .i64 f.rg.fo, .int .i64 f.rg.ho, vm, ve] 29)).heap.size = w.heap.size + 1 by simp] at h
    exact h
  have HCA := Lib.hid (HC.out.keep (Fr.alloc (w.alloc (.cells #[.int .i64 f.ki, .int .i64 f.fr, .int .i64 f.to, .int .i64 f.li, .int .i64 f.se, .bool f.ou, .int .i64 f.rg.co, .int .i64 f.rg.fo, .int .i64 f.rg.ho, vm, ve] 29)) (.cells #[.int .u8 80, .int .u8 f.ki] 5) []))
  clear hm he
  go_enter Tryd.func18, Tryd.ntmps18
  go_wp2_with fail
  refine wp_region_noPanic ?_
  refine wp_region_held_drew (S := (fun a => C11 a w.heap.size f vm ve)) (by kernel_rfl) (HC.out.keep (Fr.drew _ [])) (fun hHeld => ?_)
  refine wpAnyH_take (i := 0) (oi := _) (v := ?fv0r1) (by simp only [List.getElem?_toArray, List.getElem?_cons_zero]; rfl) (by kernel_rfl) (by kernel_rfl) (by kernel_rfl) (fun _ _ _ h => h) (Or.inl ⟨by rfl, ?fy0r1⟩) (by assumption) ?fr0r1
  case fy0r1 => (intro w hSw; (try dsimp only [C11] at hSw); go_simp; try with_reducible rfl)
  try simp only [Act.put, List.setIfInBounds_toArray, List.set_cons_zero, List.set_cons_succ]
  refine wpAnyH_take (i := 1) (oi := _) (v := ?fv1r1) (by simp only [List.getElem?_toArray, List.getElem?_cons_zero, List.getElem?_cons_succ]; rfl) (by kernel_rfl) (by kernel_rfl) (by kernel_rfl) (fun _ _ _ h => h) (Or.inl ⟨by rfl, ?fy1r1⟩) (by assumption) ?fr1r1
  case fy1r1 => (intro w hSw; (try dsimp only [C11] at hSw); go_simp; try with_reducible rfl)
  try simp only [Act.put, List.setIfInBounds_toArray, List.set_cons_zero, List.set_cons_succ]
  refine wpAnyH_take (i := 2) (oi := _) (v := ?fv2r1) (by simp only [List.getElem?_toArray, List.getElem?_cons_zero, List.getElem?_cons_succ]; rfl) (by kernel_rfl) (by kernel_rfl) (by kernel_rfl) (fun _ _ _ h => h) (Or.inl ⟨by rfl, ?fy2r1⟩) (by assumption) ?fr2r1
  case fy2r1 => (intro w hSw; (try dsimp only [C11] at hSw); go_simp; try with_reducible rfl)
  try simp only [Act.put, List.setIfInBounds_toArray, List.set_cons_zero, List.set_cons_succ]
  refine wpAnyH_take (i := 4) (oi := _) (v := ?fv4r1) (by simp only [List.getElem?_toArray, List.getElem?_cons_zero, List.getElem?_cons_succ]; rfl) (by kernel_rfl) (by kernel_rfl) (by kernel_rfl) (fun _ _ _ h => h) (Or.inl ⟨by rfl, ?fy4r1⟩) (by assumption) ?fr4r1
  case fy4r1 => (intro w hSw; (try dsimp only [C11] at hSw); go_simp; try with_reducible rfl)
  try simp only [Act.put, List.setIfInBounds_toArray, List.set_cons_zero, List.set_cons_succ]
  refine wpAnyH_take (i := 5) (oi := _) (v := ?fv5r1) (by simp only [List.getElem?_toArray, List.getElem?_cons_zero, List.getElem?_cons_succ]; rfl) (by kernel_rfl) (by kernel_rfl) (by kernel_rfl) (fun _ _ _ h => h) (Or.inl ⟨by rfl, ?fy5r1⟩) (by assumption) ?fr5r1
  case fy5r1 => (intro w hSw; (try dsimp only [C11] at hSw); go_simp; try with_reducible rfl)
  try simp only [Act.put, List.setIfInBounds_toArray, List.set_cons_zero, List.set_cons_succ]
  refine wpAnyH_take (i := 7) (oi := _) (v := ?fv7r1) (by simp only [List.getElem?_toArray, List.getElem?_cons_zero, List.getElem?_cons_succ]; rfl) (by kernel_rfl) (by kernel_rfl) (by kernel_rfl) (fun _ _ _ h => h) (Or.inl ⟨by rfl, ?fy7r1⟩) (by assumption) ?fr7r1
  case fy7r1 => (intro w hSw; (try dsimp only [C11] at hSw); go_simp; try with_reducible rfl)
  try simp only [Act.put, List.setIfInBounds_toArray, List.set_cons_zero, List.set_cons_succ]
  refine wpAnyH_take (i := 8) (oi := _) (v := ?fv8r1) (by simp only [List.getElem?_toArray, List.getElem?_cons_zero, List.getElem?_cons_succ]; rfl) (by kernel_rfl) (by kernel_rfl) (by kernel_rfl) (fun _ _ _ h => h) (Or.inl ⟨by rfl, ?fy8r1⟩) (by assumption) ?fr8r1
  case fy8r1 => (intro w hSw; (try dsimp only [C11] at hSw); go_simp; try with_reducible rfl)
  try simp only [Act.put, List.setIfInBounds_toArray, List.set_cons_zero, List.set_cons_succ]
  refine wpAnyH_ready (rs := [3]) (by kernel_rfl) (by simp) ?_
  refine AllReadyH.cons (o := _) rfl (fun K hK => ?_) AllReadyH.nil
  go_simp
  refine hK.out _ _ (HCA.out.keep (Fr.drew _ [])) (fun hHeld => ?_)
  clear hK K
  try simp only [Act.put, List.setIfInBounds_toArray, List.set_cons_zero, List.set_cons_succ]
  refine wpAnyH_ready (rs := [6]) (by kernel_rfl) (by simp) ?_
  refine AllReadyH.cons (o := _) rfl (fun K hK => ?_) AllReadyH.nil
  go_simp
  with_reducible refine (rput _ [80, f.ki] f.fr _ (Ba.out.keep (Fr.drew _ [])) (by simp) R1.out).mono ?_
  rintro e wb ⟨ub, rfl, hbb, hfb⟩
  have Bb := Lib.hid hbb
  have Fb := Lib.hid ((Fa.out.trans (Fr.drew _ [])).trans hfb)
  have Gb := Lib.hid hfb
  have sb := (HCA.out.keep (Fr.drew _ [])).keep hfb
  clear hbb hfb
  go_wp2_with fail
  refine hK.out _ _ sb (fun hHeld => ?_)
  clear hK K
  try simp only [Act.put, List.setIfInBounds_toArray, List.set_cons_zero, List.set_cons_succ]
  refine wpAnyH_ready (rs := [9]) (by kernel_rfl) (by simp) ?_
  refine AllReadyH.cons (o := _) rfl (fun K hK => ?_) AllReadyH.nil
  go_simp
  with_reducible refine (rput _ ([80, f.ki] ++ Wm.enc f.fr) f.to _ Bb.out (by have := Wm.enc_len f.fr; simp; omega) R2.out).mono ?_
  rintro e wc ⟨uc, rfl, hbc, hfc⟩
  have Bc := Lib.hid hbc
  have Fc := Lib.hid (Fb.out.trans hfc)
  have Gc := Lib.hid hfc
  have sc := sb.keep hfc
  clear hbc hfc
  go_wp2_with fail
  refine hK.out _ _ sc (fun hHeld => ?_)
  clear hK K
  try simp only [Act.put, List.setIfInBounds_toArray, List.set_cons_zero, List.set_cons_succ]
  refine wpAnyH_take (i := 10) (oi := _) (v := ?fv10r1) (by simp only [List.getElem?_toArray, List.getElem?_cons_zero, List.getElem?_cons_succ]; rfl) (by kernel_rfl) (by kernel_rfl) (by kernel_rfl) (fun _ _ _ h => h) (Or.inl ⟨by rfl, ?fy10r1⟩) (by assumption) ?fr10r1
  case fy10r1 => (intro w hSw; (try dsimp only [C11] at hSw); go_simp; try with_reducible rfl)
  try simp only [Act.put, List.setIfInBounds_toArray, List.set_cons_zero, List.set_cons_succ]
  refine wpAnyH_done (by kernel_rfl) ?_ _
  refine NoPanic.normal ?_
  clear hkk hwk
  have HCc := Lib.hid sc
  have hk1 := sc.1
  have FP := Lib.hid Fc.out
  obtain ⟨P, hP⟩ : ∃ P, P = ([80, f.ki] ++ Wm.enc f.fr) ++ Wm.enc f.to := ⟨_, rfl⟩
  have BP0 := Bc.out
  rw [← hP] at BP0
  have BP := Lib.hid BP0
  have LP : Hid (P.length ≤ 22) := by show _ ≤ _; have h1 := Wm.enc_len f.fr; have h2 := Wm.enc_len f.to; rw [hP]; simp; omega
  have HPP := Lib.hid hP
  clear sb sc BP0 hP
  go_wp2_with fail
  refine wp_region_noPanic ?_
  refine wp_region_held_drew (S := (fun a => C11 a w.heap.size f vm ve)) (by kernel_rfl) (HCc.out.keep (Fr.drew _ [])) (fun hHeld => ?_)
  refine wpAnyH_take (i := 0) (oi := _) (v := ?fv0r2) (by simp only [List.getElem?_toArray, List.getElem?_cons_zero]; rfl) (by kernel_rfl) (by kernel_rfl) (by kernel_rfl) (fun _ _ _ h => h) (Or.inl ⟨by rfl, ?fy0r2⟩) (by assumption) ?fr0r2
  case fy0r2 => (intro w hSw; (try dsimp only [C11] at hSw); go_simp; try with_reducible rfl)
  try simp only [Act.put, List.setIfInBounds_toArray, List.set_cons_zero, List.set_cons_succ]
  refine wpAnyH_take (i := 1) (oi := _) (v := ?fv1r2) (by simp only [List.getElem?_toArray, List.getElem?_cons_zero, List.getElem?_cons_succ]; rfl) (by kernel_rfl) (by kernel_rfl) (by kernel_rfl) (fun _ _ _ h => h) (Or.inl ⟨by rfl, ?fy1r2⟩) (by assumption) ?fr1r2
  case fy1r2 => (intro w hSw; (try dsimp only [C11] at hSw); go_simp; try with_reducible rfl)
  try simp only [Act.put, List.setIfInBounds_toArray, List.set_cons_zero, List.set_cons_succ]
  refine wpAnyH_take (i := 2) (oi := _) (v := ?fv2r2) (by simp only [List.getElem?_toArray, List.getElem?_cons_zero, List.getElem?_cons_succ]; rfl) (by kernel_rfl) (by kernel_rfl) (by kernel_rfl) (fun _ _ _ h => h) (Or.inl ⟨by rfl, ?fy2r2⟩) (by assumption) ?fr2r2
  case fy2r2 => (intro w hSw; (try dsimp only [C11] at hSw); go_simp; try with_reducible rfl)
  try simp only [Act.put, List.setIfInBounds_toArray, List.set_cons_zero, List.set_cons_succ]
  refine wpAnyH_take (i := 4) (oi := _) (v := ?fv4r2) (by simp only [List.getElem?_toArray, List.getElem?_cons_zero, List.getElem?_cons_succ]; rfl) (by kernel_rfl) (by kernel_rfl) (by kernel_rfl) (fun _ _ _ h => h) (Or.inl ⟨by rfl, ?fy4r2⟩) (by assumption) ?fr4r2
  case fy4r2 => (intro w hSw; (try dsimp only [C11] at hSw); go_simp; try with_reducible rfl)
  try simp only [Act.put, List.setIfInBounds_toArray, List.set_cons_zero, List.set_cons_succ]
  refine wpAnyH_take (i := 5) (oi := _) (v := ?fv5r2) (by simp only [List.getElem?_toArray, List.getElem?_cons_zero, List.getElem?_cons_succ]; rfl) (by kernel_rfl) (by kernel_rfl) (by kernel_rfl) (fun _ _ _ h => h) (Or.inl ⟨by rfl, ?fy5r2⟩) (by assumption) ?fr5r2
  case fy5r2 => (intro w hSw; (try dsimp only [C11] at hSw); go_simp; try with_reducible rfl)
  try simp only [Act.put, List.setIfInBounds_toArray, List.set_cons_zero, List.set_cons_succ]
  refine wpAnyH_take (i := 7) (oi := _) (v := ?fv7r2) (by simp only [List.getElem?_toArray, List.getElem?_cons_zero, List.getElem?_cons_succ]; rfl) (by kernel_rfl) (by kernel_rfl) (by kernel_rfl) (fun _ _ _ h => h) (Or.inl ⟨by rfl, ?fy7r2⟩) (by assumption) ?fr7r2
  case fy7r2 => (intro w hSw; (try dsimp only [C11] at hSw); go_simp; try with_reducible rfl)
  try simp only [Act.put, List.setIfInBounds_toArray, List.set_cons_zero, List.set_cons_succ]
  refine wpAnyH_take (i := 8) (oi := _) (v := ?fv8r2) (by simp only [List.getElem?_toArray, List.getElem?_cons_zero, List.getElem?_cons_succ]; rfl) (by kernel_rfl) (by kernel_rfl) (by kernel_rfl) (fun _ _ _ h => h) (Or.inl ⟨by rfl, ?fy8r2⟩) (by assumption) ?fr8r2
  case fy8r2 => (intro w hSw; (try dsimp only [C11] at hSw); go_simp; try with_reducible rfl)
  try simp only [Act.put, List.setIfInBounds_toArray, List.set_cons_zero, List.set_cons_succ]
  refine wpAnyH_ready (rs := [3]) (by kernel_rfl) (by simp) ?_
  refine AllReadyH.cons (o := _) rfl (fun K hK => ?_) AllReadyH.nil
  go_simp
  with_reducible refine (rput _ (P) (f.li) _ (BP.out.keep (Fr.drew _ [])) (by have := LP.out; omega) R3.out).mono ?_
  rintro e wd ⟨ud, rfl, hbd, hfd⟩
  have Bd := Lib.hid hbd
  have Fd := Lib.hid ((FP.out.trans (Fr.drew _ [])).trans hfd)
  have Gd := Lib.hid hfd
  have sd := (HCc.out.keep (Fr.drew _ [])).keep hfd
  clear hbd hfd
  go_wp2_with fail
  refine hK.out _ _ sd (fun hHeld => ?_)
  clear hK K
  try simp only [Act.put, List.setIfInBounds_toArray, List.set_cons_zero, List.set_cons_succ]
  refine wpAnyH_ready (rs := [6]) (by kernel_rfl) (by simp) ?_
  refine AllReadyH.cons (o := _) rfl (fun K hK => ?_) AllReadyH.nil
  go_simp
  with_reducible refine (rput _ (P ++ Wm.enc f.li) (f.se) _ Bd.out (by have := LP.out; have := Wm.enc_len (f.li); simp only [List.length_append]; omega) R4.out).mono ?_
  rintro e we ⟨ue, rfl, hbe, hfe⟩
  have Be := Lib.hid hbe
  have Fe := Lib.hid (Fd.out.trans hfe)
  have Ge := Lib.hid hfe
  have se := sd.keep hfe
  clear hbe hfe
  go_wp2_with fail
  refine hK.out _ _ se (fun hHeld => ?_)
  clear hK K
  try simp only [Act.put, List.setIfInBounds_toArray, List.set_cons_zero, List.set_cons_succ]
  refine wpAnyH_ready (rs := [9]) (by kernel_rfl) (by simp) ?_
  refine AllReadyH.cons (o := _) rfl (fun K hK => ?_) AllReadyH.nil
  go_simp
  with_reducible refine (rbit f.ou _).mono ?_
  rintro e wg ⟨rfl, rfl⟩
  go_wp2_with fail
  refine hK.out _ _ se (fun hHeld => ?_)
  clear hK K
  try simp only [Act.put, List.setIfInBounds_toArray, List.set_cons_zero, List.set_cons_succ]
  refine wpAnyH_ready (rs := [10]) (by kernel_rfl) (by simp) ?_
  refine AllReadyH.cons (o := _) rfl (fun K hK => ?_) AllReadyH.nil
  go_simp
  with_reducible refine (rput _ ((P ++ Wm.enc f.li) ++ Wm.enc f.se) (bit f.ou) _ Be.out (by have := LP.out; have := Wm.enc_len (f.li); have := Wm.enc_len (f.se); simp only [List.length_append]; omega) (i64_bit f.ou)).mono ?_
  rintro e wh ⟨uh, rfl, hbh, hfh⟩
  have Bh := Lib.hid hbh
  have Fh := Lib.hid (Fe.out.trans hfh)
  have Gh := Lib.hid hfh
  have sh := se.keep hfh
  clear hbh hfh
  go_wp2_with fail
  refine hK.out _ _ sh (fun hHeld => ?_)
  clear hK K
  try simp only [Act.put, List.setIfInBounds_toArray, List.set_cons_zero, List.set_cons_succ]
  refine wpAnyH_take (i := 11) (oi := _) (v := ?fv11r2) (by simp only [List.getElem?_toArray, List.getElem?_cons_zero, List.getElem?_cons_succ]; rfl) (by kernel_rfl) (by kernel_rfl) (by kernel_rfl) (fun _ _ _ h => h) (Or.inl ⟨by rfl, ?fy11r2⟩) (by assumption) ?fr11r2
  case fy11r2 => (intro w hSw; (try dsimp only [C11] at hSw); go_simp; try with_reducible rfl)
  try simp only [Act.put, List.setIfInBounds_toArray, List.set_cons_zero, List.set_cons_succ]
  refine wpAnyH_done (by kernel_rfl) ?_ _
  refine NoPanic.normal ?_
  clear sd se sh hk1
  go_wp2
  go_ret
  have := Bh.out
  rw [HPP.out, HFIN.out] at this
  exact gives ⟨this, Fh.out⟩

theorem Holds.at {kd : IntKind} {w : World} {v : Value} {l : List Int} (h : Holds kd w v l) {k : Nat} (hk : k < l.length) : ∃ b off cap, v = .slice (some ⟨b, off, none⟩) l.length cap ∧ l.length ≤ cap ∧ cap ≤ maxLen ∧
    w.cell? ⟨b, off + k, none⟩ = some (.int kd (l.getD k 0)) := by
  obtain ⟨a, cap, rfl, h1, h2, h3⟩ := h
  obtain ⟨b, off, rfl, hc⟩ := h3 (by omega)
  exact ⟨b, off, cap, rfl, h1, h2, hc k hk⟩
theorem C5.of {a : World} {b : Nat} {T : TypeId} {v0 v1 v2 v3 v4 : Value} (h : a.heap[b]? = some (.cells #[v0, v1, v2, v3, v4] T (0, 0))) : C5 a b v0 v1 v2 v3 v4 := row5 h
theorem flat_snoc {α : Type} (f : α → List Int) (l : List α) (k : Nat) (h : k < l.length) (d : α) : (l.take (k + 1)).flatMap f = (l.take k).flatMap f ++ f (l.getD k d) := by
  rw [tk_snoc l k h d]; simp
theorem flat_enc_len (l : List Int) (k : Nat) : ((l.take k).flatMap Wm.enc).length ≤ 10 * k := by
  have h := flat5 (l.take k)
  have h2 : (l.take k).length ≤ k := List.length_take_le _ _
  omega
set_option maxHeartbeats 16000000 in
set_option maxRecDepth 100000 in
theorem rframe_token (f : F) (vm ve : Value) (w : World) (hc : frameC f = 0) (hki : f.ki = 2) (hm : Holds .i64 w vm f.rg.ms) (he : HE w ve f.rg.es) :
    Calls Tryd.prog 18 #[frV f vm ve] w (Gives fun u w' => Bytes w' u (bytesF f) ∧ Fr w w' []) := by
  have hr := (token_ok hc hki).1
  have HRG := Lib.hid hr
  have R3 := Lib.hid (i64_of (n := f.rg.co) (by have := hr.1; omega) (by have := hr.1; omega))
  have R4 := Lib.hid (i64_of (n := f.rg.fo) (by have := hr.2.1; omega) (by have := hr.2.1; omega))
  have R5 := Lib.hid (i64_of (n := f.rg.ho) (by have := hr.2.2.1; omega) (by have := hr.2.2.1; omega))
  have R6 := Lib.hid (i64_len f.rg.ms (by have := hr.2.2.2.1; omega))
  have R7 := Lib.hid (i64_len f.rg.es (by have := hr.2.2.2.2.2.1; omega))
  have HFIN : Hid ([80, f.ki] ++ Wm.enc f.fr ++ Wm.enc f.to ++ Wm.enc f.rg.co ++ Wm.enc f.rg.fo ++ Wm.enc f.rg.ho ++ Wm.enc (f.rg.ms.length : Int) ++ f.rg.ms.flatMap Wm.enc ++ Wm.enc (f.rg.es.length : Int) ++ f.rg.es.flatMap encE = bytesF f) := by
    show _ = _
    simp [bytesF, encBody, encR, hki]
  have e1 : (f.ki == 1) = false := by simp [hki]
  have hwk : IntKind.u8.wrap f.ki = f.ki := by rw [hki]; rfl
  obtain ⟨am, cm, rfl⟩ := hm.shape
  obtain ⟨ae, ce, rfl⟩ := he.shape
  clear hr hki
  obtain ⟨⟨hfr, hto⟩, hkk⟩ := frameC_cases hc
  unfold Car at hfr hto
  have R1 := Lib.hid (i64_of (n := f.fr) (by omega) (by omega))
  have R2 := Lib.hid (i64_of (n := f.to) (by omega) (by omega))
  have HM := Lib.hid hm
  have HX := Lib.hid he
  unfold frV
  have HF0 := Lib.hid (Fr.alloc w (.cells #[.int .i64 f.ki, .int .i64 f.fr, .int .i64 f.to, .int .i64 f.li, .int .i64 f.se, .bool f.ou, .int .i64 f.rg.co, .int .i64 f.rg.fo, .int .i64 f.rg.ho, .slice am f.rg.ms.length cm, .slice ae f.rg.es.length ce] 29) [])
  have HC := Lib.hid (C11.of (heap_alloc_new w (.cells #[.int .i64 f.ki, .int .i64 f.fr, .int .i64 f.to, .int .i64 f.li, .int .i64 f.se, .bool f.ou, .int .i64 f.rg.co, .int .i64 f.rg.fo, .int .i64 f.rg.ho, .slice am f.rg.ms.length cm, .slice ae f.rg.es.length ce] 29)))
  have Fa := Lib.hid (HF0.out.trans (Fr.alloc (w.alloc (.cells #[.int .i64 f.ki, .int .i64 f.fr, .int .i64 f.to, .int .i64 f.li, .int .i64 f.se, .bool f.ou, .int .i64 f.rg.co, .int .i64 f.rg.fo, .int .i64 f.rg.ho, .slice am f.rg.ms.length cm, .slice ae f.rg.es.length ce] 29)) (.cells #[.int .u8 80, .int .u8 f.ki] 5) []))
  have Ba : Hid (Bytes ((w.alloc (.cells #[.int .i64 f.ki, .int .i64 f.fr, .int .i64 f.to, .int .i64 f.li, .int .i64 f.se, .bool f.ou, .int .i64 f.rg.co, .int .i64 f.rg.fo, .int .i64 f.rg.ho, .slice am f.rg.ms.length cm, .slice ae f.rg.es.length ce] 29)).alloc (.cells #[.int .u8 80, .int .u8 f.ki] 5)) (.slice (some ⟨w.heap.size + 1, 0, none⟩) 2 2) [80, f.ki]) := by
    have h := lit_bytes (w.alloc (.cells #[.int .i64 f.ki, .int .i64 f.fr, .int .i64 f.to, .int .i64 f.li, .int .i64 f.se, .bool f.ou, .int .i64 f.rg.co, .int .i64 f.rg.fo, .int .i64 f.rg.ho, .slice am f.rg.ms.length cm, .slice ae f.rg.es.length ce] 29)) [80, f.ki] (by simp [maxLen])
    rw [show (w.alloc (.cells #[.int .i64 f.ki, .int .i64 f.fr, .int .i64 f.to, .int .i64 f.li, .int .i64 f.se, .bool f.ou, .int .i64 f.rg.co, .int .i64 f.rg.fo, .int .i64 f.rg.ho, .slice am f.rg.ms.length cm, .slice ae f.rg.es.length ce] 29)).heap.size = w.heap.size + 1 by simp] at h
    exact h
  have HCA := Lib.hid (HC.out.keep (Fr.alloc (w.alloc (.cells #[.int .i64 f.ki, .int .i64 f.fr, .int .i64 f.to, .int .i64 f.li, .int .i64 f.se, .bool f.ou, .int .i64 f.rg.co, .int .i64 f.rg.fo, .int .i64 f.rg.ho, .slice am f.rg.ms.length cm, .slice ae f.rg.es.length ce] 29)) (.cells #[.int .u8 80, .int .u8 f.ki] 5) []))
  clear hm he
  go_enter Tryd.func18, Tryd.ntmps18
  go_wp2_with fail
  refine wp_region_noPanic ?_
  refine wp_region_held_drew (S := (fun a => C11 a w.heap.size f (.slice am f.rg.ms.length cm) (.slice ae f.rg.es.length ce))) (by kernel_rfl) (HC.out.keep (Fr.drew _ [])) (fun hHeld => ?_)
  refine wpAnyH_take (i := 0) (oi := _) (v := ?fv0r1) (by simp only [List.getElem?_toArray, List.getElem?_cons_zero]; rfl) (by kernel_rfl) (by kernel_rfl) (by kernel_rfl) (fun _ _ _ h => h) (Or.inl ⟨by rfl, ?fy0r1⟩) (by assumption) ?fr0r1
  case fy0r1 => (intro w hSw; (try dsimp only [C11] at hSw); go_simp; try with_reducible rfl)
  try simp only [Act.put, List.setIfInBounds_toArray, List.set_cons_zero, List.set_cons_succ]
  refine wpAnyH_take (i := 1) (oi := _) (v := ?fv1r1) (by simp only [List.getElem?_toArray, List.getElem?_cons_zero, List.getElem?_cons_succ]; rfl) (by kernel_rfl) (by kernel_rfl) (by kernel_rfl) (fun _ _ _ h => h) (Or.inl ⟨by rfl, ?fy1r1⟩) (by assumption) ?fr1r1
  case fy1r1 => (intro w hSw; (try dsimp only [C11] at hSw); go_simp; try with_reducible rfl)
  try simp only [Act.put, List.setIfInBounds_toArray, List.set_cons_zero, List.set_cons_succ]
  refine wpAnyH_take (i := 2) (oi := _) (v := ?fv2r1) (by simp only [List.getElem?_toArray, List.getElem?_cons_zero, List.getElem?_cons_succ]; rfl) (by kernel_rfl) (by kernel_rfl) (by kernel_rfl) (fun _ _ _ h => h) (Or.inl ⟨by rfl, ?fy2r1⟩) (by assumption) ?fr2r1
  case fy2r1 => (intro w hSw; (try dsimp only [C11] at hSw); go_simp; try with_reducible rfl)
  try simp only [Act.put, List.setIfInBounds_toArray, List.set_cons_zero, List.set_cons_succ]
  refine wpAnyH_take (i := 4) (oi := _) (v := ?fv4r1) (by simp only [List.getElem?_toArray, List.getElem?_cons_zero, List.getElem?_cons_succ]; rfl) (by kernel_rfl) (by kernel_rfl) (by kernel_rfl) (fun _ _ _ h => h) (Or.inl ⟨by rfl, ?fy4r1⟩) (by assumption) ?fr4r1
  case fy4r1 => (intro w hSw; (try dsimp only [C11] at hSw); go_simp; try with_reducible rfl)
  try simp only [Act.put, List.setIfInBounds_toArray, List.set_cons_zero, List.set_cons_succ]
  refine wpAnyH_take (i := 5) (oi := _) (v := ?fv5r1) (by simp only [List.getElem?_toArray, List.getElem?_cons_zero, List.getElem?_cons_succ]; rfl) (by kernel_rfl) (by kernel_rfl) (by kernel_rfl) (fun _ _ _ h => h) (Or.inl ⟨by rfl, ?fy5r1⟩) (by assumption) ?fr5r1
  case fy5r1 => (intro w hSw; (try dsimp only [C11] at hSw); go_simp; try with_reducible rfl)
  try simp only [Act.put, List.setIfInBounds_toArray, List.set_cons_zero, List.set_cons_succ]
  refine wpAnyH_take (i := 7) (oi := _) (v := ?fv7r1) (by simp only [List.getElem?_toArray, List.getElem?_cons_zero, List.getElem?_cons_succ]; rfl) (by kernel_rfl) (by kernel_rfl) (by kernel_rfl) (fun _ _ _ h => h) (Or.inl ⟨by rfl, ?fy7r1⟩) (by assumption) ?fr7r1
  case fy7r1 => (intro w hSw; (try dsimp only [C11] at hSw); go_simp; try with_reducible rfl)
  try simp only [Act.put, List.setIfInBounds_toArray, List.set_cons_zero, List.set_cons_succ]
  refine wpAnyH_take (i := 8) (oi := _) (v := ?fv8r1) (by simp only [List.getElem?_toArray, List.getElem?_cons_zero, List.getElem?_cons_succ]; rfl) (by kernel_rfl) (by kernel_rfl) (by kernel_rfl) (fun _ _ _ h => h) (Or.inl ⟨by rfl, ?fy8r1⟩) (by assumption) ?fr8r1
  case fy8r1 => (intro w hSw; (try dsimp only [C11] at hSw); go_simp; try with_reducible rfl)
  try simp only [Act.put, List.setIfInBounds_toArray, List.set_cons_zero, List.set_cons_succ]
  refine wpAnyH_ready (rs := [3]) (by kernel_rfl) (by simp) ?_
  refine AllReadyH.cons (o := _) rfl (fun K hK => ?_) AllReadyH.nil
  go_simp
  refine hK.out _ _ (HCA.out.keep (Fr.drew _ [])) (fun hHeld => ?_)
  clear hK K
  try simp only [Act.put, List.setIfInBounds_toArray, List.set_cons_zero, List.set_cons_succ]
  refine wpAnyH_ready (rs := [6]) (by kernel_rfl) (by simp) ?_
  refine AllReadyH.cons (o := _) rfl (fun K hK => ?_) AllReadyH.nil
  go_simp
  with_reducible refine (rput _ [80, f.ki] f.fr _ (Ba.out.keep (Fr.drew _ [])) (by simp) R1.out).mono ?_
  rintro e wb ⟨ub, rfl, hbb, hfb⟩
  have Bb := Lib.hid hbb
  have Fb := Lib.hid ((Fa.out.trans (Fr.drew _ [])).trans hfb)
  have Gb := Lib.hid hfb
  have sb := (HCA.out.keep (Fr.drew _ [])).keep hfb
  clear hbb hfb
  go_wp2_with fail
  refine hK.out _ _ sb (fun hHeld => ?_)
  clear hK K
  try simp only [Act.put, List.setIfInBounds_toArray, List.set_cons_zero, List.set_cons_succ]
  refine wpAnyH_ready (rs := [9]) (by kernel_rfl) (by simp) ?_
  refine AllReadyH.cons (o := _) rfl (fun K hK => ?_) AllReadyH.nil
  go_simp
  with_reducible refine (rput _ ([80, f.ki] ++ Wm.enc f.fr) f.to _ Bb.out (by have := Wm.enc_len f.fr; simp; omega) R2.out).mono ?_
  rintro e wc ⟨uc, rfl, hbc, hfc⟩
  have Bc := Lib.hid hbc
  have Fc := Lib.hid (Fb.out.trans hfc)
  have Gc := Lib.hid hfc
  have sc := sb.keep hfc
  clear hbc hfc
  go_wp2_with fail
  refine hK.out _ _ sc (fun hHeld => ?_)
  clear hK K
  try simp only [Act.put, List.setIfInBounds_toArray, List.set_cons_zero, List.set_cons_succ]
  refine wpAnyH_take (i := 10) (oi := _) (v := ?fv10r1) (by simp only [List.getElem?_toArray, List.getElem?_cons_zero, List.getElem?_cons_succ]; rfl) (by kernel_rfl) (by kernel_rfl) (by kernel_rfl) (fun _ _ _ h => h) (Or.inl ⟨by rfl, ?fy10r1⟩) (by assumption) ?fr10r1
  case fy10r1 => (intro w hSw; (try dsimp only [C11] at hSw); go_simp; try with_reducible rfl)
  try simp only [Act.put, List.setIfInBounds_toArray, List.set_cons_zero, List.set_cons_succ]
  refine wpAnyH_done (by kernel_rfl) ?_ _
  refine NoPanic.normal ?_
  clear hkk hwk
  have HCc := Lib.hid sc
  have hk1 := sc.1
  have FP := Lib.hid Fc.out
  obtain ⟨P, hP⟩ : ∃ P, P = ([80, f.ki] ++ Wm.enc f.fr) ++ Wm.enc f.to := ⟨_, rfl⟩
  have BP0 := Bc.out
  rw [← hP] at BP0
  have BP := Lib.hid BP0
  have LP : Hid (P.length ≤ 22) := by show _ ≤ _; have h1 := Wm.enc_len f.fr; have h2 := Wm.enc_len f.to; rw [hP]; simp; omega
  have HPP := Lib.hid hP
  clear sb sc BP0 hP
  have hk2 := HCc.out.2.2.2.2.2.2
  have AX := Lib.hid (Fr.alloc wc (.cells #[.int .i64 f.rg.co, .int .i64 f.rg.fo, .int .i64 f.rg.ho, .slice am f.rg.ms.length cm, .slice ae f.rg.es.length ce] 27) [])
  have HCx := Lib.hid (C5.of (heap_alloc_new wc (.cells #[.int .i64 f.rg.co, .int .i64 f.rg.fo, .int .i64 f.rg.ho, .slice am f.rg.ms.length cm, .slice ae f.rg.es.length ce] 27)))
  have FX := Lib.hid (FP.out.trans AX.out)
  have BX := Lib.hid (BP.out.keep AX.out)
  go_wp2_with fail
  refine wp_region_noPanic ?_
  refine wp_region_held_drew (S := (fun a => C5 a wc.heap.size (.int .i64 f.rg.co) (.int .i64 f.rg.fo) (.int .i64 f.rg.ho) (.slice am f.rg.ms.length cm) (.slice ae f.rg.es.length ce))) (by kernel_rfl) (HCx.out.keep (Fr.drew _ [])) (fun hHeld => ?_)
  refine wpAnyH_take (i := 0) (oi := _) (v := ?fv0r3) (by simp only [List.getElem?_toArray, List.getElem?_cons_zero]; rfl) (by kernel_rfl) (by kernel_rfl) (by kernel_rfl) (fun _ _ _ h => h) (Or.inl ⟨by rfl, ?fy0r3⟩) (by assumption) ?fr0r3
  case fy0r3 => (intro w hSw; (try dsimp only [C5] at hSw); go_simp; try with_reducible rfl)
  try simp only [Act.put, List.setIfInBounds_toArray, List.set_cons_zero, List.set_cons_succ]
  refine wpAnyH_take (i := 1) (oi := _) (v := ?fv1r3) (by simp only [List.getElem?_toArray, List.getElem?_cons_zero, List.getElem?_cons_succ]; rfl) (by kernel_rfl) (by kernel_rfl) (by kernel_rfl) (fun _ _ _ h => h) (Or.inl ⟨by rfl, ?fy1r3⟩) (by assumption) ?fr1r3
  case fy1r3 => (intro w hSw; (try dsimp only [C5] at hSw); go_simp; try with_reducible rfl)
  try simp only [Act.put, List.setIfInBounds_toArray, List.set_cons_zero, List.set_cons_succ]
  refine wpAnyH_take (i := 2) (oi := _) (v := ?fv2r3) (by simp only [List.getElem?_toArray, List.getElem?_cons_zero, List.getElem?_cons_succ]; rfl) (by kernel_rfl) (by kernel_rfl) (by kernel_rfl) (fun _ _ _ h => h) (Or.inl ⟨by rfl, ?fy2r3⟩) (by assumption) ?fr2r3
  case fy2r3 => (intro w hSw; (try dsimp only [C5] at hSw); go_simp; try with_reducible rfl)
  try simp only [Act.put, List.setIfInBounds_toArray, List.set_cons_zero, List.set_cons_succ]
  refine wpAnyH_take (i := 3) (oi := _) (v := ?fv3r3) (by simp only [List.getElem?_toArray, List.getElem?_cons_zero, List.getElem?_cons_succ]; rfl) (by kernel_rfl) (by kernel_rfl) (by kernel_rfl) (fun _ _ _ h => h) (Or.inl ⟨by rfl, ?fy3r3⟩) (by assumption) ?fr3r3
  case fy3r3 => (intro w hSw; (try dsimp only [C5] at hSw); go_simp; try with_reducible rfl)
  try simp only [Act.put, List.setIfInBounds_toArray, List.set_cons_zero, List.set_cons_succ]
  refine wpAnyH_take (i := 5) (oi := _) (v := ?fv5r3) (by simp only [List.getElem?_toArray, List.getElem?_cons_zero, List.getElem?_cons_succ]; rfl) (by kernel_rfl) (by kernel_rfl) (by kernel_rfl) (fun _ _ _ h => h) (Or.inl ⟨by rfl, ?fy5r3⟩) (by assumption) ?fr5r3
  case fy5r3 => (intro w hSw; (try dsimp only [C5] at hSw); go_simp; try with_reducible rfl)
  try simp only [Act.put, List.setIfInBounds_toArray, List.set_cons_zero, List.set_cons_succ]
  refine wpAnyH_take (i := 6) (oi := _) (v := ?fv6r3) (by simp only [List.getElem?_toArray, List.getElem?_cons_zero, List.getElem?_cons_succ]; rfl) (by kernel_rfl) (by kernel_rfl) (by kernel_rfl) (fun _ _ _ h => h) (Or.inl ⟨by rfl, ?fy6r3⟩) (by assumption) ?fr6r3
  case fy6r3 => (intro w hSw; (try dsimp only [C5] at hSw); go_simp; try with_reducible rfl)
  try simp only [Act.put, List.setIfInBounds_toArray, List.set_cons_zero, List.set_cons_succ]
  refine wpAnyH_take (i := 7) (oi := _) (v := ?fv7r3) (by simp only [List.getElem?_toArray, List.getElem?_cons_zero, List.getElem?_cons_succ]; rfl) (by kernel_rfl) (by kernel_rfl) (by kernel_rfl) (fun _ _ _ h => h) (Or.inl ⟨by rfl, ?fy7r3⟩) (by assumption) ?fr7r3
  case fy7r3 => (intro w hSw; (try dsimp only [C5] at hSw); go_simp; try with_reducible rfl)
  try simp only [Act.put, List.setIfInBounds_toArray, List.set_cons_zero, List.set_cons_succ]
  refine wpAnyH_take (i := 9) (oi := _) (v := ?fv9r3) (by simp only [List.getElem?_toArray, List.getElem?_cons_zero, List.getElem?_cons_succ]; rfl) (by kernel_rfl) (by kernel_rfl) (by kernel_rfl) (fun _ _ _ h => h) (Or.inl ⟨by rfl, ?fy9r3⟩) (by assumption) ?fr9r3
  case fy9r3 => (intro w hSw; (try dsimp only [C5] at hSw); go_simp; try with_reducible rfl)
  try simp only [Act.put, List.setIfInBounds_toArray, List.set_cons_zero, List.set_cons_succ]
  refine wpAnyH_take (i := 10) (oi := _) (v := ?fv10r3) (by simp only [List.getElem?_toArray, List.getElem?_cons_zero, List.getElem?_cons_succ]; rfl) (by kernel_rfl) (by kernel_rfl) (by kernel_rfl) (fun _ _ _ h => h) (Or.inl ⟨by rfl, ?fy10r3⟩) (by assumption) ?fr10r3
  case fy10r3 => (intro w hSw; (try dsimp only [C5] at hSw); go_simp; try with_reducible rfl)
  try simp only [Act.put, List.setIfInBounds_toArray, List.set_cons_zero, List.set_cons_succ]
  refine wpAnyH_ready (rs := [4]) (by kernel_rfl) (by simp) ?_
  refine AllReadyH.cons (o := _) rfl (fun K hK => ?_) AllReadyH.nil
  go_simp
  with_reducible refine (rput _ (P) (f.rg.co) _ (BX.out.keep (Fr.drew _ [])) (by have := LP.out; omega) R3.out).mono ?_
  rintro e wd ⟨ud, rfl, hbd, hfd⟩
  have Bd := Lib.hid hbd
  have Fd := Lib.hid ((FX.out.trans (Fr.drew _ [])).trans hfd)
  have Gd := Lib.hid hfd
  have sd := (HCx.out.keep (Fr.drew _ [])).keep hfd
  clear hbd hfd
  go_wp2_with fail
  refine hK.out _ _ sd (fun hHeld => ?_)
  clear hK K
  try simp only [Act.put, List.setIfInBounds_toArray, List.set_cons_zero, List.set_cons_succ]
  refine wpAnyH_ready (rs := [8]) (by kernel_rfl) (by simp) ?_
  refine AllReadyH.cons (o := _) rfl (fun K hK => ?_) AllReadyH.nil
  go_simp
  with_reducible refine (rput _ (P ++ Wm.enc f.rg.co) (f.rg.fo) _ Bd.out (by have := LP.out; have := Wm.enc_len (f.rg.co); simp only [List.length_append]; omega) R4.out).mono ?_
  rintro e we ⟨ue, rfl, hbe, hfe⟩
  have Be := Lib.hid hbe
  have Fe := Lib.hid (Fd.out.trans hfe)
  have Ge := Lib.hid hfe
  have se := sd.keep hfe
  clear hbe hfe
  go_wp2_with fail
  refine hK.out _ _ se (fun hHeld => ?_)
  clear hK K
  try simp only [Act.put, List.setIfInBounds_toArray, List.set_cons_zero, List.set_cons_succ]
  refine wpAnyH_ready (rs := [11]) (by kernel_rfl) (by simp) ?_
  refine AllReadyH.cons (o := _) rfl (fun K hK => ?_) AllReadyH.nil
  go_simp
  with_reducible refine (rput _ ((P ++ Wm.enc f.rg.co) ++ Wm.enc f.rg.fo) (f.rg.ho) _ Be.out (by have := LP.out; have := Wm.enc_len (f.rg.co); have := Wm.enc_len (f.rg.fo); simp only [List.length_append]; omega) R5.out).mono ?_
  rintro e wh ⟨uh, rfl, hbh, hfh⟩
  have Bh := Lib.hid hbh
  have Fh := Lib.hid (Fe.out.trans hfh)
  have Gh := Lib.hid hfh
  have sh := se.keep hfh
  clear hbh hfh
  go_wp2_with fail
  refine hK.out _ _ sh (fun hHeld => ?_)
  clear hK K
  try simp only [Act.put, List.setIfInBounds_toArray, List.set_cons_zero, List.set_cons_succ]
  refine wpAnyH_take (i := 12) (oi := _) (v := ?fv12r3) (by simp only [List.getElem?_toArray, List.getElem?_cons_zero, List.getElem?_cons_succ]; rfl) (by kernel_rfl) (by kernel_rfl) (by kernel_rfl) (fun _ _ _ h => h) (Or.inl ⟨by rfl, ?fy12r3⟩) (by assumption) ?fr12r3
  case fy12r3 => (intro w hSw; (try dsimp only [C5] at hSw); go_simp; try with_reducible rfl)
  try simp only [Act.put, List.setIfInBounds_toArray, List.set_cons_zero, List.set_cons_succ]
  refine wpAnyH_done (by kernel_rfl) ?_ _
  refine NoPanic.normal ?_
  clear hk1 hk2
  obtain ⟨P1, hP1⟩ : ∃ P1, P1 = ((P ++ Wm.enc f.rg.co) ++ Wm.enc f.rg.fo) ++ Wm.enc f.rg.ho := ⟨_, rfl⟩
  have B10 := Bh.out
  rw [← hP1] at B10
  have B1 := Lib.hid B10
  have L1 : Hid (P1.length ≤ 60) := by show _ ≤ _; have := LP.out; have := Wm.enc_len (f.rg.co); have := Wm.enc_len (f.rg.fo); have := Wm.enc_len (f.rg.ho); rw [hP1]; simp only [List.length_append]; omega
  have HP1 := Lib.hid hP1
  have HC1 := Lib.hid sh
  have q3 := sh.2.2.2.1
  clear sd se sh B10 hP1
  go_wp2_with fail
  refine (rput _ P1 (f.rg.ms.length : Int) _ B1.out (by have := L1.out; omega) R6.out).mono ?_
  rintro e wi ⟨ui, rfl, hbi, hfi⟩
  obtain ⟨P2, hP2⟩ : ∃ P2, P2 = P1 ++ Wm.enc (f.rg.ms.length : Int) := ⟨_, rfl⟩
  rw [← hP2] at hbi
  have B2 := Lib.hid hbi
  have L2 : Hid (P2.length ≤ 70) := by show _ ≤ _; have := L1.out; have := Wm.enc_len ((f.rg.ms.length : Int)); rw [hP2, List.length_append]; omega
  have HP2 := Lib.hid hP2
  have F2 := Lib.hid (Fh.out.trans hfi)
  have HC2 := Lib.hid (HC1.out.keep hfi)
  clear hbi hfi hP2 q3
  go_wp2
  go_loopw [5, 3] (fun i b wr => ∃ k : Nat, k ≤ f.rg.ms.length ∧ i = .int .i64 k ∧ Bytes wr b (P2 ++ (f.rg.ms.take k).flatMap Wm.enc) ∧ C5 wr wc.heap.size (.int .i64 f.rg.co) (.int .i64 f.rg.fo) (.int .i64 f.rg.ho) (.slice am f.rg.ms.length cm) (.slice ae f.rg.es.length ce) ∧ Fr w wr []) (fun i _ _ => f.rg.ms.length - (intOf i).toNat)
  case atStart => exact ⟨0, Nat.zero_le _, rfl, by simpa using B2.out, HC2.out, F2.out⟩
  case round =>
    clear B2 HC2 F2
    have hmx : f.rg.ms.length ≤ 16 := HRG.out.2.2.2.1
    obtain ⟨k, hk, rfl, hb, hcx, hf⟩ := hrel
    have B := Lib.hid hb
    have CX := Lib.hid hcx
    have FR := Lib.hid hf
    have q3 := hcx.2.2.2.1
    clear hb hcx hf
    by_cases hlt : k < f.rg.ms.length
    · obtain ⟨bl, off, cap', he', h1, h2, x0⟩ := HM.out.at hlt
      simp only [Value.slice.injEq, true_and] at he'
      obtain ⟨rfl, rfl⟩ := he'
      have c0 := FR.out.cell x0 (by simp)
      obtain ⟨y, hy⟩ : ∃ y, y = f.rg.ms.getD k 0 := ⟨_, rfl⟩
      rw [← hy] at c0
      have RY := Lib.hid (show I64 y by have h := HRG.out.2.2.2.2.1 _ (getD_mem hlt 0); rw [← hy] at h; exact i64_of (by omega) (by omega))
      have HST : Hid (P2 ++ (f.rg.ms.take (k + 1)).flatMap Wm.enc = (P2 ++ (f.rg.ms.take k).flatMap Wm.enc) ++ Wm.enc y) := by show _ = _; rw [flat_snoc Wm.enc f.rg.ms k hlt 0, ← hy, List.append_assoc]
      have LB := Lib.hid (flat_enc_len f.rg.ms k)
      have HN := Lib.hid (show k ≤ 16 by have := HRG.out.2.2.2.1; omega)
      clear x0 hy
      go_wp2_with fail
      refine (rput _ (P2 ++ (f.rg.ms.take k).flatMap Wm.enc) y _ B.out (by have := L2.out; have := LB.out; have := HN.out; rw [List.length_append]; omega) RY.out).mono ?_
      rintro e w2 ⟨u2, rfl, hb2, hf2⟩
      have B' := Lib.hid (HST.out ▸ hb2)
      have CX' := Lib.hid (CX.out.keep hf2)
      have FR' := Lib.hid (FR.out.trans hf2)
      clear hb2 hf2
      go_wp2
      go_roundw
      case rel => exact ⟨k + 1, by omega, by go_num, B'.out, CX'.out, FR'.out⟩
      case measure => simp [intOf]; omega
    obtain rfl : k = f.rg.ms.length := by omega
    have B30 := B.out
    rw [List.take_length] at B30
    obtain ⟨P3, hP3⟩ : ∃ P3, P3 = P2 ++ f.rg.ms.flatMap Wm.enc := ⟨_, rfl⟩
    rw [← hP3] at B30
    have B3 := Lib.hid B30
    have L3 : Hid (P3.length ≤ 300) := by show _ ≤ _; have := L2.out; have h := flat_enc_len f.rg.ms f.rg.ms.length; rw [List.take_length] at h; have := HRG.out.2.2.2.1; rw [hP3, List.length_append]; omega
    have HP3 := Lib.hid hP3
    have q4 := CX.out.2.2.2.2
    clear B B30 hP3 hlt
    go_wp2_with fail
    refine (rput _ P3 (f.rg.es.length : Int) _ B3.out (by have := L3.out; omega) R7.out).mono ?_
    rintro e wj ⟨uj, rfl, hbj, hfj⟩
    obtain ⟨P4, hP4⟩ : ∃ P4, P4 = P3 ++ Wm.enc (f.rg.es.length : Int) := ⟨_, rfl⟩
    rw [← hP4] at hbj
    have B4 := Lib.hid hbj
    have L4 : Hid (P4.length ≤ 310) := by show _ ≤ _; have := L3.out; have := Wm.enc_len ((f.rg.es.length : Int)); rw [hP4, List.length_append]; omega
    have HP4 := Lib.hid hP4
    have F4 := Lib.hid (FR.out.trans hfj)
    have HC4 := Lib.hid (CX.out.keep hfj)
    clear hbj hfj hP4 q3 q4 CX FR hk
    go_wp2
    go_loopw [6, 3] (fun i b wr => ∃ k : Nat, k ≤ f.rg.es.length ∧ i = .int .i64 k ∧ Bytes wr b (P4 ++ (f.rg.es.take k).flatMap encE) ∧ C5 wr wc.heap.size (.int .i64 f.rg.co) (.int .i64 f.rg.fo) (.int .i64 f.rg.ho) (.slice am f.rg.ms.length cm) (.slice ae f.rg.es.length ce) ∧ Fr w wr []) (fun i _ _ => f.rg.es.length - (intOf i).toNat)
    case atStart => exact ⟨0, Nat.zero_le _, rfl, by simpa using B4.out, HC4.out, F4.out⟩
    case round =>
      clear B4 HC4 F4
      have hex : f.rg.es.length ≤ 128 := HRG.out.2.2.2.2.2.1
      obtain ⟨k, hk, rfl, hb, hcx, hf⟩ := hrel
      have B := Lib.hid hb
      have CX := Lib.hid hcx
      have FR := Lib.hid hf
      have q4 := hcx.2.2.2.2
      clear hb hcx hf
      by_cases hlt : k < f.rg.es.length
      · obtain ⟨bl, off, cap', vb, he', h1, h2, x0, x1, x2, x3, x4, hbb⟩ := HX.out.at hlt
        simp only [Value.slice.injEq, true_and] at he'
        obtain ⟨rfl, rfl⟩ := he'
        have c0 := FR.out.cell x0 (by simp)
        have c1 := FR.out.cell x1 (by simp)
        have c2 := FR.out.cell x2 (by simp)
        have c3 := FR.out.cell x3 (by simp)
        have c4 := FR.out.cell x4 (by simp)
        obtain ⟨x, hx⟩ : ∃ x, x = f.rg.es.getD k zeroE := ⟨_, rfl⟩
        have HOK := Lib.hid (HRG.out.2.2.2.2.2.2 _ (getD_mem hlt zeroE))
        rw [← hx] at c0 c1 c2 c4 hbb HOK
        obtain ⟨ab, cb, rfl⟩ := hbb.shape
        have HBB := Lib.hid hbb
        have X1 := Lib.hid (i64_of (n := x.fl) (by have := HOK.out.1; omega) (by have := HOK.out.1; omega))
        have X2 := Lib.hid (i64_of (n := x.di) (by have := HOK.out.2.1; omega) (by have := HOK.out.2.1; omega))
        have X3 := Lib.hid (i64_of (n := x.ge) (by have := HOK.out.2.2.1; omega) (by have := HOK.out.2.2.1; omega))
        have X4 := Lib.hid (i64_of (n := x.aw) (by have := HOK.out.2.2.2.1; omega) (by have := HOK.out.2.2.2.1; omega))
        have HBL := Lib.hid (show x.bs.length ≤ 16 by have := HOK.out.2.2.2.2.1; have := HRG.out.2.2.2.1; omega)
        have X5 := Lib.hid (i64_len x.bs (by have := HBL.out; omega))
        have HST : Hid (P4 ++ (f.rg.es.take (k + 1)).flatMap encE = (P4 ++ (f.rg.es.take k).flatMap encE) ++ encE x) := by show _ = _; rw [flat_snoc encE f.rg.es k hlt zeroE, ← hx, List.append_assoc]
        have LB0 := encEs_len f.rg.es (fun e he => by have := (HRG.out.2.2.2.2.2.2 e he).2.2.2.2.1; have := HRG.out.2.2.2.1; omega) k
        obtain ⟨Q, hQ⟩ : ∃ Q, Q = P4 ++ (f.rg.es.take k).flatMap encE := ⟨_, rfl⟩
        have LQ : Hid (Q.length ≤ 3000000) := by show _ ≤ _; have := L4.out; have := HRG.out.2.2.2.2.2.1; rw [hQ, List.length_append]; omega
        have B0 := B.out
        rw [← hQ] at B0 HST
        have HQ := Lib.hid hQ
        have AY := Lib.hid (Fr.alloc wr (.cells #[.int .i64 x.fl, .int .i64 x.di, .int .i64 x.ge, .slice ab x.bs.length cb, .int .i64 x.aw] 61) [])
        have HCe := Lib.hid (C5.of (heap_alloc_new wr (.cells #[.int .i64 x.fl, .int .i64 x.di, .int .i64 x.ge, .slice ab x.bs.length cb, .int .i64 x.aw] 61)))
        have FY := Lib.hid (FR.out.trans AY.out)
        have BY := Lib.hid (B0.keep AY.out)
        have GY := Lib.hid (CX.out.keep AY.out)
        obtain ⟨wl, hwl⟩ : ∃ wl, wl = wr := ⟨_, rfl⟩
        subst hwl
        clear x0 x1 x2 x3 x4 hx hbb LB0 hQ B0
        go_wp2_with fail
        refine wp_region_noPanic ?_
        refine wp_region_held_drew (S := (fun a => C5 a wl.heap.size (.int .i64 x.fl) (.int .i64 x.di) (.int .i64 x.ge) (.slice ab x.bs.length cb) (.int .i64 x.aw))) (by kernel_rfl) (HCe.out.keep (Fr.drew _ [])) (fun hHeld => ?_)
        refine wpAnyH_take (i := 0) (oi := _) (v := ?fv0r4) (by simp only [List.getElem?_toArray, List.getElem?_cons_zero]; rfl) (by kernel_rfl) (by kernel_rfl) (by kernel_rfl) (fun _ _ _ h => h) (Or.inl ⟨by rfl, ?fy0r4⟩) (by assumption) ?fr0r4
        case fy0r4 => (intro w hSw; (try dsimp only [C5] at hSw); go_simp; try with_reducible rfl)
        try simp only [Act.put, List.setIfInBounds_toArray, List.set_cons_zero, List.set_cons_succ]
        refine wpAnyH_take (i := 1) (oi := _) (v := ?fv1r4) (by simp only [List.getElem?_toArray, List.getElem?_cons_zero, List.getElem?_cons_succ]; rfl) (by kernel_rfl) (by kernel_rfl) (by kernel_rfl) (fun _ _ _ h => h) (Or.inl ⟨by rfl, ?fy1r4⟩) (by assumption) ?fr1r4
        case fy1r4 => (intro w hSw; (try dsimp only [C5] at hSw); go_simp; try with_reducible rfl)
        try simp only [Act.put, List.setIfInBounds_toArray, List.set_cons_zero, List.set_cons_succ]
        refine wpAnyH_take (i := 2) (oi := _) (v := ?fv2r4) (by simp only [List.getElem?_toArray, List.getElem?_cons_zero, List.getElem?_cons_succ]; rfl) (by kernel_rfl) (by kernel_rfl) (by kernel_rfl) (fun _ _ _ h => h) (Or.inl ⟨by rfl, ?fy2r4⟩) (by assumption) ?fr2r4
        case fy2r4 => (intro w hSw; (try dsimp only [C5] at hSw); go_simp; try with_reducible rfl)
        try simp only [Act.put, List.setIfInBounds_toArray, List.set_cons_zero, List.set_cons_succ]
        refine wpAnyH_take (i := 3) (oi := _) (v := ?fv3r4) (by simp only [List.getElem?_toArray, List.getElem?_cons_zero, List.getElem?_cons_succ]; rfl) (by kernel_rfl) (by kernel_rfl) (by kernel_rfl) (fun _ _ _ h => h) (Or.inl ⟨by rfl, ?fy3r4⟩) (by assumption) ?fr3r4
        case fy3r4 => (intro w hSw; (try dsimp only [C5] at hSw); go_simp; try with_reducible rfl)
        try simp only [Act.put, List.setIfInBounds_toArray, List.set_cons_zero, List.set_cons_succ]
        refine wpAnyH_take (i := 4) (oi := _) (v := ?fv4r4) (by simp only [List.getElem?_toArray, List.getElem?_cons_zero, List.getElem?_cons_succ]; rfl) (by kernel_rfl) (by kernel_rfl) (by kernel_rfl) (fun _ _ _ h => h) (Or.inl ⟨by rfl, ?fy4r4⟩) (by assumption) ?fr4r4
        case fy4r4 => (intro w hSw; (try dsimp only [C5] at hSw); go_simp; try with_reducible rfl)
        try simp only [Act.put, List.setIfInBounds_toArray, List.set_cons_zero, List.set_cons_succ]
        refine wpAnyH_take (i := 6) (oi := _) (v := ?fv6r4) (by simp only [List.getElem?_toArray, List.getElem?_cons_zero, List.getElem?_cons_succ]; rfl) (by kernel_rfl) (by kernel_rfl) (by kernel_rfl) (fun _ _ _ h => h) (Or.inl ⟨by rfl, ?fy6r4⟩) (by assumption) ?fr6r4
        case fy6r4 => (intro w hSw; (try dsimp only [C5] at hSw); go_simp; try with_reducible rfl)
        try simp only [Act.put, List.setIfInBounds_toArray, List.set_cons_zero, List.set_cons_succ]
        refine wpAnyH_take (i := 7) (oi := _) (v := ?fv7r4) (by simp only [List.getElem?_toArray, List.getElem?_cons_zero, List.getElem?_cons_succ]; rfl) (by kernel_rfl) (by kernel_rfl) (by kernel_rfl) (fun _ _ _ h => h) (Or.inl ⟨by rfl, ?fy7r4⟩) (by assumption) ?fr7r4
        case fy7r4 => (intro w hSw; (try dsimp only [C5] at hSw); go_simp; try with_reducible rfl)
        try simp only [Act.put, List.setIfInBounds_toArray, List.set_cons_zero, List.set_cons_succ]
        refine wpAnyH_take (i := 8) (oi := _) (v := ?fv8r4) (by simp only [List.getElem?_toArray, List.getElem?_cons_zero, List.getElem?_cons_succ]; rfl) (by kernel_rfl) (by kernel_rfl) (by kernel_rfl) (fun _ _ _ h => h) (Or.inl ⟨by rfl, ?fy8r4⟩) (by assumption) ?fr8r4
        case fy8r4 => (intro w hSw; (try dsimp only [C5] at hSw); go_simp; try with_reducible rfl)
        try simp only [Act.put, List.setIfInBounds_toArray, List.set_cons_zero, List.set_cons_succ]
        refine wpAnyH_take (i := 9) (oi := _) (v := ?fv9r4) (by simp only [List.getElem?_toArray, List.getElem?_cons_zero, List.getElem?_cons_succ]; rfl) (by kernel_rfl) (by kernel_rfl) (by kernel_rfl) (fun _ _ _ h => h) (Or.inl ⟨by rfl, ?fy9r4⟩) (by assumption) ?fr9r4
        case fy9r4 => (intro w hSw; (try dsimp only [C5] at hSw); go_simp; try with_reducible rfl)
        try simp only [Act.put, List.setIfInBounds_toArray, List.set_cons_zero, List.set_cons_succ]
        refine wpAnyH_take (i := 11) (oi := _) (v := ?fv11r4) (by simp only [List.getElem?_toArray, List.getElem?_cons_zero, List.getElem?_cons_succ]; rfl) (by kernel_rfl) (by kernel_rfl) (by kernel_rfl) (fun _ _ _ h => h) (Or.inl ⟨by rfl, ?fy11r4⟩) (by assumption) ?fr11r4
        case fy11r4 => (intro w hSw; (try dsimp only [C5] at hSw); go_simp; try with_reducible rfl)
        try simp only [Act.put, List.setIfInBounds_toArray, List.set_cons_zero, List.set_cons_succ]
        refine wpAnyH_take (i := 12) (oi := _) (v := ?fv12r4) (by simp only [List.getElem?_toArray, List.getElem?_cons_zero, List.getElem?_cons_succ]; rfl) (by kernel_rfl) (by kernel_rfl) (by kernel_rfl) (fun _ _ _ h => h) (Or.inl ⟨by rfl, ?fy12r4⟩) (by assumption) ?fr12r4
        case fy12r4 => (intro w hSw; (try dsimp only [C5] at hSw); go_simp; try with_reducible rfl)
        try simp only [Act.put, List.setIfInBounds_toArray, List.set_cons_zero, List.set_cons_succ]
        refine wpAnyH_take (i := 13) (oi := _) (v := ?fv13r4) (by simp only [List.getElem?_toArray, List.getElem?_cons_zero, List.getElem?_cons_succ]; rfl) (by kernel_rfl) (by kernel_rfl) (by kernel_rfl) (fun _ _ _ h => h) (Or.inl ⟨by rfl, ?fy13r4⟩) (by assumption) ?fr13r4
        case fy13r4 => (intro w hSw; (try dsimp only [C5] at hSw); go_simp; try with_reducible rfl)
        try simp only [Act.put, List.setIfInBounds_toArray, List.set_cons_zero, List.set_cons_succ]
        refine wpAnyH_take (i := 15) (oi := _) (v := ?fv15r4) (by simp only [List.getElem?_toArray, List.getElem?_cons_zero, List.getElem?_cons_succ]; rfl) (by kernel_rfl) (by kernel_rfl) (by kernel_rfl) (fun _ _ _ h => h) (Or.inl ⟨by rfl, ?fy15r4⟩) (by assumption) ?fr15r4
        case fy15r4 => (intro w hSw; (try dsimp only [C5] at hSw); go_simp; try with_reducible rfl)
        try simp only [Act.put, List.setIfInBounds_toArray, List.set_cons_zero, List.set_cons_succ]
        refine wpAnyH_take (i := 16) (oi := _) (v := ?fv16r4) (by simp only [List.getElem?_toArray, List.getElem?_cons_zero, List.getElem?_cons_succ]; rfl) (by kernel_rfl) (by kernel_rfl) (by kernel_rfl) (fun _ _ _ h => h) (Or.inl ⟨by rfl, ?fy16r4⟩) (by assumption) ?fr16r4
        case fy16r4 => (intro w hSw; (try dsimp only [C5] at hSw); go_simp; try with_reducible rfl)
        try simp only [Act.put, List.setIfInBounds_toArray, List.set_cons_zero, List.set_cons_succ]
        refine wpAnyH_ready (rs := [5]) (by kernel_rfl) (by simp) ?_
        refine AllReadyH.cons (o := _) rfl (fun K hK => ?_) AllReadyH.nil
        go_simp
        with_reducible refine (rput _ (Q) (x.fl) _ (BY.out.keep (Fr.drew _ [])) (by have := LQ.out; omega) X1.out).mono ?_
        rintro e wd ⟨ud, rfl, hbd, hfd⟩
        have Bd := Lib.hid hbd
        have Fd := Lib.hid ((FY.out.trans (Fr.drew _ [])).trans hfd)
        have Gd := Lib.hid hfd
        have sd := (HCe.out.keep (Fr.drew _ [])).keep hfd
        clear hbd hfd
        go_wp2_with fail
        refine hK.out _ _ sd (fun hHeld => ?_)
        clear hK K
        try simp only [Act.put, List.setIfInBounds_toArray, List.set_cons_zero, List.set_cons_succ]
        refine wpAnyH_ready (rs := [10]) (by kernel_rfl) (by simp) ?_
        refine AllReadyH.cons (o := _) rfl (fun K hK => ?_) AllReadyH.nil
        go_simp
        with_reducible refine (rput _ (Q ++ Wm.enc x.fl) (x.di) _ Bd.out (by have := LQ.out; have := Wm.enc_len (x.fl); simp only [List.length_append]; omega) X2.out).mono ?_
        rintro e we ⟨ue, rfl, hbe, hfe⟩
        have Be := Lib.hid hbe
        have Fe := Lib.hid (Fd.out.trans hfe)
        have Ge := Lib.hid hfe
        have se := sd.keep hfe
        clear hbe hfe
        go_wp2_with fail
        refine hK.out _ _ se (fun hHeld => ?_)
        clear hK K
        try simp only [Act.put, List.setIfInBounds_toArray, List.set_cons_zero, List.set_cons_succ]
        refine wpAnyH_ready (rs := [14]) (by kernel_rfl) (by simp) ?_
        refine AllReadyH.cons (o := _) rfl (fun K hK => ?_) AllReadyH.nil
        go_simp
        with_reducible refine (rput _ ((Q ++ Wm.enc x.fl) ++ Wm.enc x.di) (x.ge) _ Be.out (by have := LQ.out; have := Wm.enc_len (x.fl); have := Wm.enc_len (x.di); simp only [List.length_append]; omega) X3.out).mono ?_
        rintro e wg ⟨ug, rfl, hbg, hfg⟩
        have Bg := Lib.hid hbg
        have Fg := Lib.hid (Fe.out.trans hfg)
        have Gg := Lib.hid hfg
        have sg := se.keep hfg
        clear hbg hfg
        go_wp2_with fail
        refine hK.out _ _ sg (fun hHeld => ?_)
        clear hK K
        try simp only [Act.put, List.setIfInBounds_toArray, List.set_cons_zero, List.set_cons_succ]
        refine wpAnyH_ready (rs := [17]) (by kernel_rfl) (by simp) ?_
        refine AllReadyH.cons (o := _) rfl (fun K hK => ?_) AllReadyH.nil
        go_simp
        with_reducible refine (rput _ (((Q ++ Wm.enc x.fl) ++ Wm.enc x.di) ++ Wm.enc x.ge) (x.aw) _ Bg.out (by have := LQ.out; have := Wm.enc_len (x.fl); have := Wm.enc_len (x.di); have := Wm.enc_len (x.ge); simp only [List.length_append]; omega) X4.out).mono ?_
        rintro e wh ⟨uh, rfl, hbh, hfh⟩
        have Bh := Lib.hid hbh
        have Fh := Lib.hid (Fg.out.trans hfh)
        have Gh := Lib.hid hfh
        have sh := sg.keep hfh
        clear hbh hfh
        go_wp2_with fail
        refine hK.out _ _ sh (fun hHeld => ?_)
        clear hK K
        try simp only [Act.put, List.setIfInBounds_toArray, List.set_cons_zero, List.set_cons_succ]
        refine wpAnyH_take (i := 18) (oi := _) (v := ?fv18r4) (by simp only [List.getElem?_toArray, List.getElem?_cons_zero, List.getElem?_cons_succ]; rfl) (by kernel_rfl) (by kernel_rfl) (by kernel_rfl) (fun _ _ _ h => h) (Or.inl ⟨by rfl, ?fy18r4⟩) (by assumption) ?fr18r4
        case fy18r4 => (intro w hSw; (try dsimp only [C5] at hSw); go_simp; try with_reducible rfl)
        try simp only [Act.put, List.setIfInBounds_toArray, List.set_cons_zero, List.set_cons_succ]
        refine wpAnyH_done (by kernel_rfl) ?_ _
        refine NoPanic.normal ?_
        clear c0 c1 c2 c3 c4
        have HCe1 := Lib.hid sh
        have q5 := sh.2.2.2.1
        obtain ⟨Q1, hQ1⟩ : ∃ Q1, Q1 = (((Q ++ Wm.enc x.fl) ++ Wm.enc x.di) ++ Wm.enc x.ge) ++ Wm.enc x.aw := ⟨_, rfl⟩
        have B10 := Bh.out
        rw [← hQ1] at B10
        have BQ1 := Lib.hid B10
        have LQ1 : Hid (Q1.length ≤ 3000050) := by show _ ≤ _; have := LQ.out; have := Wm.enc_len (x.fl); have := Wm.enc_len (x.di); have := Wm.enc_len (x.ge); have := Wm.enc_len (x.aw); rw [hQ1]; simp only [List.length_append]; omega
        have HQ1 := Lib.hid hQ1
        have GG := Lib.hid ((((Fr.drew _ []).trans Gd.out).trans Ge.out).trans (Gg.out.trans Gh.out))
        have G1 := Lib.hid (GY.out.keep (show Fr (wl.alloc (.cells #[.int .i64 x.fl, .int .i64 x.di, .int .i64 x.ge, .slice ab x.bs.length cb, .int .i64 x.aw] 61)) wh [] from GG.out))
        clear sd se sg sh B10 hQ1
        go_wp2_with fail
        refine (rput _ Q1 (x.bs.length : Int) _ BQ1.out (by have := LQ1.out; omega) X5.out).mono ?_
        rintro e wm ⟨um, rfl, hbm, hfm⟩
        obtain ⟨V, hV⟩ : ∃ V, V = Q1 ++ Wm.enc (x.bs.length : Int) := ⟨_, rfl⟩
        rw [← hV] at hbm
        have BV := Lib.hid hbm
        have LV : Hid (V.length ≤ 3000060) := by show _ ≤ _; have := LQ1.out; have := Wm.enc_len ((x.bs.length : Int)); rw [hV, List.length_append]; omega
        have HV := Lib.hid hV
        have FV := Lib.hid (Fh.out.trans hfm)
        have GV := Lib.hid (G1.out.keep hfm)
        have HCe2 := Lib.hid (HCe1.out.keep hfm)
        clear hbm hfm hV q5
        go_wp2
        go_loopw [8, 3] (fun i b wr => ∃ j : Nat, j ≤ x.bs.length ∧ i = .int .i64 j ∧ Bytes wr b (V ++ (x.bs.take j).flatMap encB) ∧ C5 wr wl.heap.size (.int .i64 x.fl) (.int .i64 x.di) (.int .i64 x.ge) (.slice ab x.bs.length cb) (.int .i64 x.aw) ∧ C5 wr wc.heap.size (.int .i64 f.rg.co) (.int .i64 f.rg.fo) (.int .i64 f.rg.ho) (.slice am f.rg.ms.length cm) (.slice (some ⟨bl, off, none⟩) f.rg.es.length ce) ∧ Fr w wr []) (fun i _ _ => x.bs.length - (intOf i).toNat)
        case atStart => exact ⟨0, Nat.zero_le _, rfl, by simpa using BV.out, HCe2.out, GV.out, FV.out⟩
        case round =>
          clear BV HCe2 GV FV
          have hbx : x.bs.length ≤ 16 := HBL.out
          obtain ⟨j, hj, rfl, hb, hce, hcx, hf⟩ := hrel
          have BZ := Lib.hid hb
          have CE := Lib.hid hce
          have CX := Lib.hid hcx
          have FZ := Lib.hid hf
          have q3 := hce.2.2.2.1
          clear hb hce hcx hf
          by_cases hlt2 : j < x.bs.length
          · obtain ⟨bb, ob, cap2, he2, h3, h4, y0, y1⟩ := HBB.out.at hlt2
            simp only [Value.slice.injEq, true_and] at he2
            obtain ⟨rfl, rfl⟩ := he2
            obtain ⟨b, hb⟩ : ∃ b, b = x.bs.getD j (0, 0) := ⟨_, rfl⟩
            rw [← hb] at y0 y1
            have z0 := FZ.out.cell y0 (by simp)
            have z1 := FZ.out.cell y1 (by simp)
            have HRD := Lib.hid (show BidRd wl.heap.size bb ob j x.bs.length cb b.1 b.2 wr from ⟨q3, z0, z1⟩)
            have hok := HOK.out.2.2.2.2.2 b (by rw [hb]; exact getD_mem hlt2 (0, 0))
            have Y1 := Lib.hid (i64_of (n := b.1) (by omega) (by omega))
            have Y2 := Lib.hid (i64_of (n := b.2) (by omega) (by omega))
            have LB := Lib.hid (show ((x.bs.take j).flatMap encB).length ≤ 400 by have h := encB_len x.bs j; have := HBL.out; omega)
            have HSB : Hid (V ++ (x.bs.take (j + 1)).flatMap encB = ((V ++ (x.bs.take j).flatMap encB) ++ Wm.enc b.1) ++ Wm.enc b.2) := by show _ = _; rw [flat_snoc encB x.bs j hlt2 (0, 0), ← hb]; simp [encB]
            clear y0 y1 hb hok z0 z1
            go_wp2_with fail
            refine wp_region_noPanic ?_
            refine wp_region_held_drew (S := BidRd wl.heap.size bb ob j x.bs.length cb b.1 b.2) (by kernel_rfl) (HRD.out.keep (Fr.drew _ [])) (fun hHeld => ?_)
            refine wpAnyH_take (i := 0) (oi := _) (v := ?fv0r5) (by simp only [List.getElem?_toArray, List.getElem?_cons_zero]; rfl) (by kernel_rfl) (by kernel_rfl) (by kernel_rfl) (fun _ _ _ h => h) (Or.inl ⟨by rfl, ?fy0r5⟩) (by assumption) ?fr0r5
            case fy0r5 => (intro w hSw; (try dsimp only [BidRd] at hSw); go_simp; try with_reducible rfl)
            try simp only [Act.put, List.setIfInBounds_toArray, List.set_cons_zero, List.set_cons_succ]
            refine wpAnyH_take (i := 1) (oi := _) (v := ?fv1r5) (by simp only [List.getElem?_toArray, List.getElem?_cons_zero, List.getElem?_cons_succ]; rfl) (by kernel_rfl) (by kernel_rfl) (by kernel_rfl) (fun _ _ _ h => h) (Or.inl ⟨by rfl, ?fy1r5⟩) (by assumption) ?fr1r5
            case fy1r5 => (intro w hSw; (try dsimp only [BidRd] at hSw); go_simp; try with_reducible rfl)
            try simp only [Act.put, List.setIfInBounds_toArray, List.set_cons_zero, List.set_cons_succ]
            refine wpAnyH_take (i := 2) (oi := _) (v := ?fv2r5) (by simp only [List.getElem?_toArray, List.getElem?_cons_zero, List.getElem?_cons_succ]; rfl) (by kernel_rfl) (by kernel_rfl) (by kernel_rfl) (fun _ _ _ h => h) (Or.inl ⟨by rfl, ?fy2r5⟩) (by assumption) ?fr2r5
            case fy2r5 => (intro w hSw; (try dsimp only [BidRd] at hSw); go_simp; try with_reducible rfl)
            try simp only [Act.put, List.setIfInBounds_toArray, List.set_cons_zero, List.set_cons_succ]
            refine wpAnyH_take (i := 3) (oi := _) (v := ?fv3r5) (by simp only [List.getElem?_toArray, List.getElem?_cons_zero, List.getElem?_cons_succ]; rfl) (by kernel_rfl) (by kernel_rfl) (by kernel_rfl) (fun _ _ _ h => h) (Or.inl ⟨by rfl, ?fy3r5⟩) (by assumption) ?fr3r5
            case fy3r5 => (intro w hSw; (try dsimp only [BidRd] at hSw); go_simp; try with_reducible rfl)
            try simp only [Act.put, List.setIfInBounds_toArray, List.set_cons_zero, List.set_cons_succ]
            refine wpAnyH_take (i := 4) (oi := _) (v := ?fv4r5) (by simp only [List.getElem?_toArray, List.getElem?_cons_zero, List.getElem?_cons_succ]; rfl) (by kernel_rfl) (by kernel_rfl) (by kernel_rfl) (fun _ _ _ h => h) (Or.inl ⟨by rfl, ?fy4r5⟩) (by assumption) ?fr4r5
            case fy4r5 => (intro w hSw; (try dsimp only [BidRd] at hSw); go_simp; try with_reducible rfl)
            try simp only [Act.put, List.setIfInBounds_toArray, List.set_cons_zero, List.set_cons_succ]
            refine wpAnyH_take (i := 5) (oi := _) (v := ?fv5r5) (by simp only [List.getElem?_toArray, List.getElem?_cons_zero, List.getElem?_cons_succ]; rfl) (by kernel_rfl) (by kernel_rfl) (by kernel_rfl) (fun _ _ _ h => h) (Or.inl ⟨by rfl, ?fy5r5⟩) (by assumption) ?fr5r5
            case fy5r5 => (intro w hSw; (try dsimp only [BidRd] at hSw); go_simp; try with_reducible rfl)
            try simp only [Act.put, List.setIfInBounds_toArray, List.set_cons_zero, List.set_cons_succ]
            refine wpAnyH_take (i := 6) (oi := _) (v := ?fv6r5) (by simp only [List.getElem?_toArray, List.getElem?_cons_zero, List.getElem?_cons_succ]; rfl) (by kernel_rfl) (by kernel_rfl) (by kernel_rfl) (fun _ _ _ h => h) (Or.inl ⟨by rfl, ?fy6r5⟩) (by assumption) ?fr6r5
            case fy6r5 => (intro w hSw; (try dsimp only [BidRd] at hSw); go_simp; try with_reducible rfl)
            try simp only [Act.put, List.setIfInBounds_toArray, List.set_cons_zero, List.set_cons_succ]
            refine wpAnyH_take (i := 8) (oi := _) (v := ?fv8r5) (by simp only [List.getElem?_toArray, List.getElem?_cons_zero, List.getElem?_cons_succ]; rfl) (by kernel_rfl) (by kernel_rfl) (by kernel_rfl) (fun _ _ _ h => h) (Or.inl ⟨by rfl, ?fy8r5⟩) (by assumption) ?fr8r5
            case fy8r5 => (intro w hSw; (try dsimp only [BidRd] at hSw); go_simp; try with_reducible rfl)
            try simp only [Act.put, List.setIfInBounds_toArray, List.set_cons_zero, List.set_cons_succ]
            refine wpAnyH_take (i := 9) (oi := _) (v := ?fv9r5) (by simp only [List.getElem?_toArray, List.getElem?_cons_zero, List.getElem?_cons_succ]; rfl) (by kernel_rfl) (by kernel_rfl) (by kernel_rfl) (fun _ _ _ h => h) (Or.inl ⟨by rfl, ?fy9r5⟩) (by assumption) ?fr9r5
            case fy9r5 => (intro w hSw; (try dsimp only [BidRd] at hSw); go_simp; try with_reducible rfl)
            try simp only [Act.put, List.setIfInBounds_toArray, List.set_cons_zero, List.set_cons_succ]
            refine wpAnyH_take (i := 10) (oi := _) (v := ?fv10r5) (by simp only [List.getElem?_toArray, List.getElem?_cons_zero, List.getElem?_cons_succ]; rfl) (by kernel_rfl) (by kernel_rfl) (by kernel_rfl) (fun _ _ _ h => h) (Or.inl ⟨by rfl, ?fy10r5⟩) (by assumption) ?fr10r5
            case fy10r5 => (intro w hSw; (try dsimp only [BidRd] at hSw); go_simp; try with_reducible rfl)
            try simp only [Act.put, List.setIfInBounds_toArray, List.set_cons_zero, List.set_cons_succ]
            refine wpAnyH_take (i := 11) (oi := _) (v := ?fv11r5) (by simp only [List.getElem?_toArray, List.getElem?_cons_zero, List.getElem?_cons_succ]; rfl) (by kernel_rfl) (by kernel_rfl) (by kernel_rfl) (fun _ _ _ h => h) (Or.inl ⟨by rfl, ?fy11r5⟩) (by assumption) ?fr11r5
            case fy11r5 => (intro w hSw; (try dsimp only [BidRd] at hSw); go_simp; try with_reducible rfl)
            try simp only [Act.put, List.setIfInBounds_toArray, List.set_cons_zero, List.set_cons_succ]
            refine wpAnyH_take (i := 12) (oi := _) (v := ?fv12r5) (by simp only [List.getElem?_toArray, List.getElem?_cons_zero, List.getElem?_cons_succ]; rfl) (by kernel_rfl) (by kernel_rfl) (by kernel_rfl) (fun _ _ _ h => h) (Or.inl ⟨by rfl, ?fy12r5⟩) (by assumption) ?fr12r5
            case fy12r5 => (intro w hSw; (try dsimp only [BidRd] at hSw); go_simp; try with_reducible rfl)
            try simp only [Act.put, List.setIfInBounds_toArray, List.set_cons_zero, List.set_cons_succ]
            refine wpAnyH_take (i := 13) (oi := _) (v := ?fv13r5) (by simp only [List.getElem?_toArray, List.getElem?_cons_zero, List.getElem?_cons_succ]; rfl) (by kernel_rfl) (by kernel_rfl) (by kernel_rfl) (fun _ _ _ h => h) (Or.inl ⟨by rfl, ?fy13r5⟩) (by assumption) ?fr13r5
            case fy13r5 => (intro w hSw; (try dsimp only [BidRd] at hSw); go_simp; try with_reducible rfl)
            try simp only [Act.put, List.setIfInBounds_toArray, List.set_cons_zero, List.set_cons_succ]
            refine wpAnyH_ready (rs := [7]) (by kernel_rfl) (by simp) ?_
            refine AllReadyH.cons (o := _) rfl (fun K hK => ?_) AllReadyH.nil
            go_simp
            with_reducible refine (rput _ (V ++ (x.bs.take j).flatMap encB) (b.1) _ (BZ.out.keep (Fr.drew _ [])) (by have := LV.out; have := LB.out; simp only [List.length_append]; omega) Y1.out).mono ?_
            rintro e wp ⟨up, rfl, hbp, hfp⟩
            have Bp := Lib.hid hbp
            have Fp := Lib.hid ((FZ.out.trans (Fr.drew _ [])).trans hfp)
            have Gp := Lib.hid hfp
            have sp := (HRD.out.keep (Fr.drew _ [])).keep hfp
            clear hbp hfp
            go_wp2_with fail
            refine hK.out _ _ sp (fun hHeld => ?_)
            clear hK K
            try simp only [Act.put, List.setIfInBounds_toArray, List.set_cons_zero, List.set_cons_succ]
            refine wpAnyH_ready (rs := [14]) (by kernel_rfl) (by simp) ?_
            refine AllReadyH.cons (o := _) rfl (fun K hK => ?_) AllReadyH.nil
            go_simp
            with_reducible refine (rput _ ((V ++ (x.bs.take j).flatMap encB) ++ Wm.enc b.1) (b.2) _ Bp.out (by have := LV.out; have := LB.out; have := Wm.enc_len (b.1); simp only [List.length_append]; omega) Y2.out).mono ?_
            rintro e wq ⟨uq, rfl, hbq, hfq⟩
            have Bq := Lib.hid hbq
            have Fq := Lib.hid (Fp.out.trans hfq)
            have Gq := Lib.hid hfq
            have sq := sp.keep hfq
            clear hbq hfq
            go_wp2_with fail
            refine hK.out _ _ sq (fun hHeld => ?_)
            clear hK K
            try simp only [Act.put, List.setIfInBounds_toArray, List.set_cons_zero, List.set_cons_succ]
            refine wpAnyH_take (i := 15) (oi := _) (v := ?fv15r5) (by simp only [List.getElem?_toArray, List.getElem?_cons_zero, List.getElem?_cons_succ]; rfl) (by kernel_rfl) (by kernel_rfl) (by kernel_rfl) (fun _ _ _ h => h) (Or.inl ⟨by rfl, ?fy15r5⟩) (by assumption) ?fr15r5
            case fy15r5 => (intro w hSw; (try dsimp only [BidRd] at hSw); go_simp; try with_reducible rfl)
            try simp only [Act.put, List.setIfInBounds_toArray, List.set_cons_zero, List.set_cons_succ]
            refine wpAnyH_done (by kernel_rfl) ?_ _
            refine NoPanic.normal ?_
            clear sp sq q3
            have GQ := Lib.hid (((Fr.drew wr []).trans Gp.out).trans Gq.out)
            have B' := Lib.hid (HSB.out ▸ Bq.out)
            have CE' := Lib.hid (CE.out.keep GQ.out)
            have CX' := Lib.hid (CX.out.keep GQ.out)
            go_wp2
            go_roundw
            case rel => exact ⟨j + 1, by omega, by go_num, B'.out, CE'.out, CX'.out, Fq.out⟩
            case measure => simp [intOf]; omega
          obtain rfl : j = x.bs.length := by omega
          have HBF : Hid (Bytes wr u3 ((P4 ++ (f.rg.es.take k).flatMap encE) ++ encE x)) := by
            have h := BZ.out
            rw [List.take_length, HV.out, HQ1.out] at h
            show Bytes wr u3 _
            rw [← HQ.out]
            simpa [encE] using h
          have HST' : Hid (P4 ++ (f.rg.es.take (k + 1)).flatMap encE = (P4 ++ (f.rg.es.take k).flatMap encE) ++ encE x) := HST.out.trans (by rw [HQ.out])
          have B' := Lib.hid (HST'.out ▸ HBF.out)
          clear hlt2 hj
          go_wp2
          go_roundw
          case rel => exact ⟨k + 1, by omega, by go_num, B'.out, CX.out, FZ.out⟩
          case measure => simp [intOf]; omega
      obtain rfl : k = f.rg.es.length := by omega
      have BF := B.out
      rw [List.take_length, HP4.out, HP3.out, HP2.out, HP1.out, HPP.out, HFIN.out] at BF
      have BFF := Lib.hid BF
      clear B BF
      go_wp2
      go_ret
      exact gives ⟨BFF.out, FR.out⟩
theorem rframe_bytes (f : F) (vm ve : Value) (w : World) (hc : frameC f = 0) (hm : Holds .i64 w vm f.rg.ms) (he : HE w ve f.rg.es) :
    Calls Tryd.prog 18 #[frV f vm ve] w (Gives fun u w' => Bytes w' u (bytesF f) ∧ Fr w w' []) := by
  rcases frame_ki hc with h | h
  · exact rframe_beat f vm ve w hc h hm he
  · exact rframe_token f vm ve w hc h hm he
end Go.Proofs.YtpeocdcciecpoaaDoor
