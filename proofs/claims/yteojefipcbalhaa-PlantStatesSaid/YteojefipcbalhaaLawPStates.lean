/- Which states may be. -/
import Derived.Test.YteojefipcbalhaaPlant3
import Derived.Test.YteojefipcbalhaaPMath
import Derived.Test.YteojefipcbalhaaPFirst
import Derived.Test.YteojefipcbalhaaNum
import Derived.Deep.DeepCutAuto
import Derived.Deep.CutBlock
namespace Go.Proofs.Yteojefipcbalhaa
open Go.RowKit

set_option maxHeartbeats 4000000 in
set_option maxRecDepth 100000 in
theorem states_none (h : Ho) (hk : ¬ h.ok) (a1 a2 a3 : Int) (r : Bool) (w : World) :
    Calls Try.prog 6 #[h.v, .int .i64 a1, .int .i64 a2, .int .i64 a3, .bool r] w fun e w' => e = .returned (.bool true) ∧ Fr w w' [] := by
  have FA := Lib.hid (Fr.alloc w h.box [])
  have HB0 := Lib.hid (HB.new w h)
  have V := Lib.hid (fun W => valid_any h W false (decide_eq_false hk).symm)
  have T := Lib.hid (fun W => top_any h W 0 (by rw [Ho.topR, if_neg hk]))
  have hno : ¬ h.has 0 := fun q => hk q.1
  have R := Lib.hid (fun W => right_any h ⟨0, 0, 0, false⟩ W false (by simp [Ho.may, hno]))
  have L := Lib.hid (fun W => level_any h 0 W false (decide_eq_false (fun q => hno q.1)).symm)
  clear hk hno
  obtain ⟨c, f, s, d⟩ := h
  dsimp only [Ho.v, Ho.box, St.v] at *
  go_enter Try.func6, Try.ntmps6
  go_wp2_with fail
  with_reducible refine (first_any _).mono ?_
  rintro e w1 ⟨rfl, hf⟩
  have HS1 := Lib.hid ((HS.of FA.out HB0.out).fr hf)
  clear hf
  obtain ⟨_, c0, c1, c2, c3⟩ := HS1.out
  try dsimp only at c0 c1 c2 c3
  go_wp2_with fail
  with_reducible refine (V.out _).mono ?_
  rintro e w2 ⟨rfl, hf⟩
  have HS2 := Lib.hid (HS1.out.fr hf)
  clear hf c0 c1 c2 c3
  obtain ⟨_, c0, c1, c2, c3⟩ := HS2.out
  try dsimp only at c0 c1 c2 c3
  go_wp2_with fail
  with_reducible refine (R.out _).mono ?_
  rintro e w3 ⟨rfl, hf⟩
  have HS3 := Lib.hid (HS2.out.fr hf)
  clear hf c0 c1 c2 c3
  obtain ⟨_, c0, c1, c2, c3⟩ := HS3.out
  try dsimp only at c0 c1 c2 c3
  go_wp2_with fail
  with_reducible refine (T.out _).mono ?_
  rintro e w4 ⟨rfl, hf⟩
  have HS4 := Lib.hid (HS3.out.fr hf)
  clear hf c0 c1 c2 c3
  obtain ⟨_, c0, c1, c2, c3⟩ := HS4.out
  try dsimp only at c0 c1 c2 c3
  go_wp2_with fail
  with_reducible refine (L.out _).mono ?_
  rintro e w5 ⟨rfl, hf⟩
  have HS5 := Lib.hid (HS4.out.fr hf)
  clear hf c0 c1 c2 c3
  go_wp2
  go_ret
  exact ⟨rfl, HS5.out.1⟩

/-- The house's box, and three states'. -/
def PS (W : World) (b : Nat) (c f s d : Int) (b1 b2 b3 : Nat) (p t e o : Int) (r : Bool) (a : World) : Prop :=
  Fr W a [] ∧ a.cell? ⟨b, 0, none⟩ = some (.int .i64 c) ∧ a.cell? ⟨b, 1, none⟩ = some (.int .i64 f) ∧ a.cell? ⟨b, 2, none⟩ = some (.int .i64 s) ∧ a.cell? ⟨b, 3, none⟩ = some (.int .i64 d) ∧
  a.cell? ⟨b1, 0, none⟩ = some (.int .i64 p) ∧ a.cell? ⟨b1, 1, none⟩ = some (.int .i64 e) ∧ a.cell? ⟨b1, 2, none⟩ = some (.int .i64 o) ∧ a.cell? ⟨b1, 3, none⟩ = some (.bool r) ∧
  a.cell? ⟨b2, 0, none⟩ = some (.int .i64 t) ∧ a.cell? ⟨b2, 1, none⟩ = some (.int .i64 e) ∧ a.cell? ⟨b2, 2, none⟩ = some (.int .i64 o) ∧ a.cell? ⟨b2, 3, none⟩ = some (.bool r) ∧
  a.cell? ⟨b3, 0, none⟩ = some (.int .i64 (-1)) ∧ a.cell? ⟨b3, 1, none⟩ = some (.int .i64 e) ∧ a.cell? ⟨b3, 2, none⟩ = some (.int .i64 o) ∧ a.cell? ⟨b3, 3, none⟩ = some (.bool r)
theorem PS.fr {W : World} {b : Nat} {c f s d : Int} {b1 b2 b3 : Nat} {p t e o : Int} {r : Bool} {a a' : World} (h : PS W b c f s d b1 b2 b3 p t e o r a) (k : Fr a a' []) : PS W b c f s d b1 b2 b3 p t e o r a' := by
  obtain ⟨h0, h1, h2, h3, h4, h5, h6, h7, h8, h9, i0, i1, i2, i3, i4, i5, i6⟩ := h
  exact ⟨h0.trans k, k.cell h1 (by simp), k.cell h2 (by simp), k.cell h3 (by simp), k.cell h4 (by simp), k.cell h5 (by simp), k.cell h6 (by simp), k.cell h7 (by simp), k.cell h8 (by simp), k.cell h9 (by simp), k.cell i0 (by simp), k.cell i1 (by simp), k.cell i2 (by simp), k.cell i3 (by simp), k.cell i4 (by simp), k.cell i5 (by simp), k.cell i6 (by simp)⟩

/-- Two states' boxes. -/
theorem two_rows (w : World) (x : St) : Fr w ((w.alloc x.box).alloc x.box) [] ∧ ((w.alloc x.box).alloc x.box).heap[w.heap.size]? = some x.box ∧ ((w.alloc x.box).alloc x.box).heap[w.heap.size + 1]? = some x.box := by
  refine ⟨(Fr.alloc _ _ []).trans (Fr.alloc _ _ []), (Fr.alloc _ _ []).heap (heap_alloc_new w x.box) (by simp), ?_⟩
  have := heap_alloc_new (w.alloc x.box) x.box
  rwa [show (w.alloc x.box).heap.size = w.heap.size + 1 by simp] at this
theorem ps_of {W wc w5 : World} {c f s d p t e o : Int} {r : Bool} (hb : HS W W.heap.size c f s d wc) (hs : HS W W.heap.size c f s d w5)
    (r1 : w5.heap[wc.heap.size]? = some (St.box ⟨p, e, o, r⟩)) (r2 : w5.heap[wc.heap.size + 1]? = some (St.box ⟨p, e, o, r⟩)) :
    PS W W.heap.size c f s d wc.heap.size (wc.heap.size + 1) w5.heap.size p t e o r ((w5.setCell ⟨wc.heap.size + 1, 0, none⟩ (.int .i64 t)).alloc (St.box ⟨-1, e, o, r⟩)).drew := by
  have hsz := hb.1.size
  have F1 : Fr w5 (w5.setCell ⟨wc.heap.size + 1, 0, none⟩ (.int .i64 t)) [wc.heap.size + 1] := Fr.setCell _ _ _ _ (by simp)
  have F2 := (Fr.alloc (w5.setCell ⟨wc.heap.size + 1, 0, none⟩ (.int .i64 t)) (St.box ⟨-1, e, o, r⟩) []).trans (Fr.drew _ [])
  have F := F1.comb (U := [wc.heap.size + 1]) F2 (fun _ h => .inl h) (fun _ h => by cases h)
  have rb2 : (w5.setCell ⟨wc.heap.size + 1, 0, none⟩ (.int .i64 t)).heap[wc.heap.size + 1]? = some (St.box ⟨t, e, o, r⟩) := heap_setCell_same _ _ 0 _ _ (.int .i64 t) r2
  have rb3 := heap_alloc_new (w5.setCell ⟨wc.heap.size + 1, 0, none⟩ (.int .i64 t)) (St.box ⟨-1, e, o, r⟩)
  rw [show (w5.setCell ⟨wc.heap.size + 1, 0, none⟩ (.int .i64 t)).heap.size = w5.heap.size by simp] at rb3
  have rb3 := (Fr.drew _ []).heap rb3 (by simp)
  have rb2 := F2.heap rb2 (by simp)
  have rb1 := F.heap r1 (by simp)
  obtain ⟨hF, h0, h1, h2, h3⟩ := hs
  obtain ⟨a0, a1, a2, a3⟩ := hrow rb1
  obtain ⟨b0, b1, b2, b3⟩ := hrow rb2
  obtain ⟨k0, k1, k2, k3⟩ := hrow rb3
  have ne : ∀ i, (⟨W.heap.size, i, none⟩ : Addr).block ∉ [wc.heap.size + 1] := fun i h => by simp at h; omega
  exact ⟨hF.new F (fun x hx => by simp at hx; omega), F.cell h0 (ne 0), F.cell h1 (ne 1), F.cell h2 (ne 2), F.cell h3 (ne 3), a0, a1, a2, a3, b0, b1, b2, b3, k0, k1, k2, k3⟩
set_option maxHeartbeats 4000000 in
set_option maxRecDepth 100000 in
theorem states_some (h : Ho) (hk : h.ok) (a1 a2 a3 : Int) (r : Bool) (w : World) (w1 : (Lit.int .i64 a1).wf = true) (w2 : (Lit.int .i64 a2).wf = true) (w3 : (Lit.int .i64 a3).wf = true) :
    Calls Try.prog 6 #[h.v, .int .i64 a1, .int .i64 a2, .int .i64 a3, .bool r] w fun e w' => e = .returned (.bool true) ∧ Fr w w' [] := by
  have FA := Lib.hid (Fr.alloc w h.box [])
  have HB0 := Lib.hid (HB.new w h)
  have V := Lib.hid (fun W => valid_any h W true (decide_eq_true hk).symm)
  have T := Lib.hid (fun W => top_any h W h.top (by rw [Ho.topR, if_pos hk]))
  have ht := Ho.range hk
  obtain ⟨_, hkf, hks, hkd⟩ := id hk
  obtain ⟨q1, q2⟩ := bounds_i64 w1
  obtain ⟨q3, q4⟩ := bounds_i64 w2
  obtain ⟨q5, q6⟩ := bounds_i64 w3
  have NP := Lib.hid (fun W => numberTo_any a1 (h.top + 1) W (by omega) (by omega) q1 q2)
  have NE := Lib.hid (fun W => numberTo_any a2 3 W (by omega) (by omega) q3 q4)
  have NO := Lib.hid (fun W => numberTo_any a3 (h.d + 2) W (by omega) (by omega) q5 q6)
  have P0 := Int.emod_nonneg a1 (show h.top + 1 ≠ 0 by omega)
  have P1 := Int.emod_lt_of_pos a1 (show 0 < h.top + 1 by omega)
  have E0 := Int.emod_nonneg a2 (show (3 : Int) ≠ 0 by omega)
  have E1 := Int.emod_lt_of_pos a2 (show (0 : Int) < 3 by omega)
  have O0 := Int.emod_nonneg a3 (show h.d + 2 ≠ 0 by omega)
  have O1 := Int.emod_lt_of_pos a3 (show 0 < h.d + 2 by omega)
  obtain ⟨P, hP⟩ : ∃ P, P = a1 % (h.top + 1) := ⟨_, rfl⟩
  obtain ⟨E, hE⟩ : ∃ E, E = a2 % 3 := ⟨_, rfl⟩
  obtain ⟨O, hO⟩ : ∃ O, O = a3 % (h.d + 2) := ⟨_, rfl⟩
  rw [← hP] at NP P0 P1
  rw [← hE] at NE E0 E1
  rw [← hO] at NO O0 O1
  clear hP hE hO q1 q2 q3 q4 q5 q6 w1 w2 w3
  have hp : h.has P := ⟨hk, P0, by omega⟩
  obtain ⟨bl, hbl⟩ : ∃ bl, bl = decide (h.lev P) := ⟨_, rfl⟩
  have hbm : (P % h.s == 0) = bl := by
    rw [hbl]
    by_cases e : P % h.s = 0
    · rw [decide_eq_true (show h.lev P from ⟨hp, e⟩)]; simpa using e
    · rw [decide_eq_false (show ¬ h.lev P from fun k => e k.2)]; simpa using e
  obtain ⟨wb, hwb⟩ : ∃ wb, wb = h.may ⟨P, E - 1, O, r⟩ := ⟨_, rfl⟩
  have RX := Lib.hid (fun W => right_any h ⟨P, E - 1, O, r⟩ W wb hwb)
  have RB := Lib.hid (fun W => right_any h ⟨h.top + 1, E - 1, O, r⟩ W false (by
    have : ¬ h.has (h.top + 1) := fun k => by have := k.2; omega
    simp [Ho.may, this]))
  have RL := Lib.hid (fun W => right_any h ⟨-1, E - 1, O, r⟩ W false (by
    have : ¬ h.has (-1) := fun k => by have := k.2; omega
    simp [Ho.may, this]))
  have LP := Lib.hid (fun W => level_any h P W bl hbl)
  obtain ⟨q, hq⟩ : ∃ q, q = P / h.s := ⟨_, rfl⟩
  have FP := Lib.hid (fun W => floor_any h P W q (by rw [flr_in hk P0 (by omega), hq]))
  have FL := Lib.hid (fun W => floor_any h (-9) W 0 (by rw [Ho.flr, if_pos hk, show min (max (-9) 0) h.top = 0 by omega, Int.zero_ediv]))
  have FH := Lib.hid (fun W => floor_any h 9999 W (h.f - 1) (by rw [Ho.flr, if_pos hk, show min (max 9999 0) h.top = h.top by omega, top_div hk]))
  have hq2 : IntKind.i64.wrap (P.tdiv h.s) = q := by
    rw [hq, Int.tdiv_eq_ediv_of_nonneg P0]
    have a := Int.ediv_nonneg P0 (show 0 ≤ h.s by omega)
    have b := Int.ediv_le_self h.s P0
    exact IntWalk.i64_in _ (by omega)
  have HW := Lib.hid (show wb = (decide (O ≤ h.d) && (if 0 < O then bl && !r else bl || (decide (E - 1 ≠ 0) || r))) by
    rw [hwb, Ho.may, hbl]
    have x1 : decide (h.has P) = true := decide_eq_true hp
    have x2 : decide (-1 ≤ E - 1 ∧ E - 1 ≤ 1) = true := decide_eq_true (by omega)
    have x3 : decide (0 ≤ O ∧ O ≤ h.d) = decide (O ≤ h.d) := decide_eq_decide.2 (by omega)
    simp only [x1, x2, x3, Bool.true_and])
  clear hwb hbl hp hq
  obtain ⟨t, htt⟩ : ∃ t, t = h.top := ⟨_, rfl⟩
  rw [← htt] at T ht NP P1 RB
  clear htt hk
  obtain ⟨c, f, s, d⟩ := h
  dsimp only [Ho.v, Ho.box, St.v] at *
  have hn : ¬ s = 0 := by omega
  have hn1 : ¬ s = -1 := by omega
  go_enter Try.func6, Try.ntmps6
  go_wp2_with fail
  with_reducible refine (first_any _).mono ?_
  rintro e w1 ⟨rfl, hf⟩
  have HS1 := Lib.hid ((HS.of FA.out HB0.out).fr hf)
  clear hf
  obtain ⟨_, c0, c1, c2, c3⟩ := HS1.out
  try dsimp only at c0 c1 c2 c3
  go_wp2_with fail
  with_reducible refine (V.out _).mono ?_
  rintro e w2 ⟨rfl, hf⟩
  have HS2 := Lib.hid (HS1.out.fr hf)
  clear hf c0 c1 c2 c3
  obtain ⟨_, c0, c1, c2, c3⟩ := HS2.out
  try dsimp only at c0 c1 c2 c3
  go_wp2_with fail
  with_reducible refine (T.out _).mono ?_
  rintro e w3 ⟨rfl, hf⟩
  have HS3 := Lib.hid (HS2.out.fr hf)
  clear hf c0 c1 c2 c3
  obtain ⟨_, c0, c1, c2, c3⟩ := HS3.out
  try dsimp only at c0 c1 c2 c3
  go_wp2_with fail
  with_reducible refine (NP.out _).mono ?_
  rintro e w4 ⟨rfl, rfl⟩
  go_wp2_with fail
  with_reducible refine (NE.out _).mono ?_
  rintro e w4 ⟨rfl, rfl⟩
  go_wp2_with fail
  with_reducible refine (NO.out _).mono ?_
  rintro e w4 ⟨rfl, rfl⟩
  go_upto_region 10 with fail
  go_cut [13] (fun s13 wx => s13 = .bool wb ∧ wx = w3)
  case first =>
    obtain ⟨_, c0, c1, c2, c3⟩ := HS3.out
    by_cases h1 : O ≤ d
    · by_cases h2 : O = 0
      · subst h2
        cases bl with
        | true =>
          have HV : Hid (wb = true) := by show _ = _; rw [HW.out]; simp [*]
          clear HW
          go_wp2
          go_meet
          exact ⟨by rw [HV.out], rfl⟩
        | false =>
          by_cases h3 : E - 1 = 0
          · cases r with
            | true =>
              have HV : Hid (wb = true) := by show _ = _; rw [HW.out]; simp [*]
              clear HW
              go_wp2
              go_meet
              exact ⟨by rw [HV.out], rfl⟩
            | false =>
              have HV : Hid (wb = false) := by show _ = _; rw [HW.out]; simp [*]
              clear HW
              go_wp2
              go_meet
              exact ⟨by rw [HV.out], rfl⟩
          · have HV : Hid (wb = true) := by show _ = _; rw [HW.out]; simp [*]
            clear HW
            go_wp2
            go_meet
            exact ⟨by rw [HV.out], rfl⟩
      · have h4 : 0 < O := by omega
        cases bl with
        | true =>
          cases r with
          | true =>
            have HV : Hid (wb = false) := by show _ = _; rw [HW.out]; simp [*]
            clear HW
            go_wp2
            go_meet
            exact ⟨by rw [HV.out], rfl⟩
          | false =>
            have HV : Hid (wb = true) := by show _ = _; rw [HW.out]; simp [*]
            clear HW
            go_wp2
            go_meet
            exact ⟨by rw [HV.out], rfl⟩
        | false =>
          have HV : Hid (wb = false) := by show _ = _; rw [HW.out]; simp [*]
          clear HW
          go_wp2
          go_meet
          exact ⟨by rw [HV.out], rfl⟩
    · have HV : Hid (wb = false) := by show _ = _; rw [HW.out]; simp [*]
      clear HW
      go_wp2
      go_meet
      exact ⟨by rw [HV.out], rfl⟩
  case rest =>
    obtain ⟨rfl, rfl⟩ := hcut
    clear c0 c1 c2 c3
    have RW := Lib.hid (two_rows wc ⟨P, E - 1, O, r⟩)
    have HS4 := Lib.hid (HS3.out.fr RW.out.1)
    obtain ⟨_, c0, c1, c2, c3⟩ := HS4.out
    dsimp only [St.box] at *
    go_wp2_with fail
    with_reducible refine (T.out _).mono ?_
    rintro e w5 ⟨rfl, hf⟩
    have HS5 := Lib.hid (HS4.out.fr hf)
    have R1 := Lib.hid (hf.heap RW.out.2.1 (by simp))
    have R2 := Lib.hid (hf.heap RW.out.2.2 (by simp))
    have SZ := Lib.hid (hf.size)
    clear hf c0 c1 c2 c3
    obtain ⟨y0, y1, y2, y3⟩ := hrow R1.out
    obtain ⟨z0, z1, z2, z3⟩ := hrow R2.out
    have z0f : w5.frozen? ⟨wc.heap.size + 1, 0, none⟩ = false := frozen_of_row _ _ _ _ _ R2.out
    go_upto_region 16 with fail
    have W0 := Lib.hid (ps_of (t := t + 1) HS3.out HS5.out R1.out R2.out)
    dsimp only [St.box] at W0
    clear y0 y1 y2 y3 z0 z1 z2 z3 z0f RW R1 R2 SZ
    have k1 : (wb == wb) = true := by simp
    have k2 : (bl == bl) = true := by simp
    have k3 : (q == q) = true := by simp
    have k4 : (f - 1 == f - 1) = true := by simp
    have k5 : IntKind.i64.wrap (f - 1) = f - 1 := IntWalk.i64_in _ (by omega)
    refine wp_region_det (S := PS w w.heap.size c f s d wc.heap.size (wc.heap.size + 1) w5.heap.size P (t + 1) (E - 1) O r) (by kernel_rfl) W0.out ?_
    refine wpDet_take (i := 0) (oi := _) (v := ?dv1) (by simp only [List.getElem?_toArray, List.getElem?_cons_zero]; rfl) (by kernel_rfl) (by kernel_rfl) (by kernel_rfl) (Or.inl ⟨by rfl, ?dy1⟩) ?dr1
    case dy1 => (intro w hSw; have hS0 := hSw; (try dsimp only [PS] at hSw); go_simp; refine Came.value ?_ hS0; with_reducible rfl)
    try simp only [Act.put, List.setIfInBounds_toArray, List.set_cons_zero, List.set_cons_succ]
    refine wpDet_take (i := 1) (oi := _) (v := ?dv2) (by simp only [List.getElem?_toArray, List.getElem?_cons_zero, List.getElem?_cons_succ]; rfl) (by kernel_rfl) (by kernel_rfl) (by kernel_rfl) (Or.inl ⟨by rfl, ?dy2⟩) ?dr2
    case dy2 => (intro w hSw; have hS0 := hSw; (try dsimp only [PS] at hSw); go_simp; refine Came.value ?_ hS0; with_reducible rfl)
    try simp only [Act.put, List.setIfInBounds_toArray, List.set_cons_zero, List.set_cons_succ]
    refine wpDet_take (i := 2) (oi := _) (v := ?dv3) (by simp only [List.getElem?_toArray, List.getElem?_cons_zero, List.getElem?_cons_succ]; rfl) (by kernel_rfl) (by kernel_rfl) (by kernel_rfl) (Or.inl ⟨by rfl, ?dy3⟩) ?dr3
    case dy3 => (intro w hSw; have hS0 := hSw; (try dsimp only [PS] at hSw); go_simp; refine Came.value ?_ hS0; with_reducible rfl)
    try simp only [Act.put, List.setIfInBounds_toArray, List.set_cons_zero, List.set_cons_succ]
    refine wpDet_take (i := 3) (oi := _) (v := ?dv4) (by simp only [List.getElem?_toArray, List.getElem?_cons_zero, List.getElem?_cons_succ]; rfl) (by kernel_rfl) (by kernel_rfl) (by kernel_rfl) (Or.inl ⟨by rfl, ?dy4⟩) ?dr4
    case dy4 => (intro w hSw; have hS0 := hSw; (try dsimp only [PS] at hSw); go_simp; refine Came.value ?_ hS0; with_reducible rfl)
    try simp only [Act.put, List.setIfInBounds_toArray, List.set_cons_zero, List.set_cons_succ]
    refine wpDet_take (i := 4) (oi := _) (v := ?dv5) (by simp only [List.getElem?_toArray, List.getElem?_cons_zero, List.getElem?_cons_succ]; rfl) (by kernel_rfl) (by kernel_rfl) (by kernel_rfl) (Or.inl ⟨by rfl, ?dy5⟩) ?dr5
    case dy5 => (intro w hSw; go_simp; exact Came.call ((RX.out w).mono fun e w' ⟨he, hf⟩ => ⟨he, hSw.fr hf⟩) (by with_reducible rfl))
    try simp only [Act.put, List.setIfInBounds_toArray, List.set_cons_zero, List.set_cons_succ]
    refine wpDet_take (i := 5) (oi := _) (v := ?dv6) (by simp only [List.getElem?_toArray, List.getElem?_cons_zero, List.getElem?_cons_succ]; rfl) (by kernel_rfl) (by kernel_rfl) (by kernel_rfl) (Or.inl ⟨by rfl, ?dy6⟩) ?dr6
    case dy6 => (intro w hSw; have hS0 := hSw; (try dsimp only [PS] at hSw); go_simp; refine Came.value ?_ hS0; with_reducible rfl)
    try simp only [Act.put, List.setIfInBounds_toArray, List.set_cons_zero, List.set_cons_succ]
    refine wpDet_take (i := 6) (oi := _) (v := ?dv7) (by simp only [List.getElem?_toArray, List.getElem?_cons_zero, List.getElem?_cons_succ]; rfl) (by kernel_rfl) (by kernel_rfl) (by kernel_rfl) (Or.inl ⟨by rfl, ?dy7⟩) ?dr7
    case dy7 => (intro w hSw; have hS0 := hSw; (try dsimp only [PS] at hSw); go_simp; refine Came.value ?_ hS0; with_reducible rfl)
    try simp only [Act.put, List.setIfInBounds_toArray, List.set_cons_zero, List.set_cons_succ]
    refine wpDet_take (i := 7) (oi := _) (v := ?dv8) (by simp only [List.getElem?_toArray, List.getElem?_cons_zero, List.getElem?_cons_succ]; rfl) (by kernel_rfl) (by kernel_rfl) (by kernel_rfl) (Or.inl ⟨by rfl, ?dy8⟩) ?dr8
    case dy8 => (intro w hSw; have hS0 := hSw; (try dsimp only [PS] at hSw); go_simp; refine Came.value ?_ hS0; with_reducible rfl)
    try simp only [Act.put, List.setIfInBounds_toArray, List.set_cons_zero, List.set_cons_succ]
    refine wpDet_take (i := 8) (oi := _) (v := ?dv9) (by simp only [List.getElem?_toArray, List.getElem?_cons_zero, List.getElem?_cons_succ]; rfl) (by kernel_rfl) (by kernel_rfl) (by kernel_rfl) (Or.inl ⟨by rfl, ?dy9⟩) ?dr9
    case dy9 => (intro w hSw; have hS0 := hSw; (try dsimp only [PS] at hSw); go_simp; refine Came.value ?_ hS0; with_reducible rfl)
    try simp only [Act.put, List.setIfInBounds_toArray, List.set_cons_zero, List.set_cons_succ]
    refine wpDet_take (i := 9) (oi := _) (v := ?dv10) (by simp only [List.getElem?_toArray, List.getElem?_cons_zero, List.getElem?_cons_succ]; rfl) (by kernel_rfl) (by kernel_rfl) (by kernel_rfl) (Or.inl ⟨by rfl, ?dy10⟩) ?dr10
    case dy10 => (intro w hSw; have hS0 := hSw; (try dsimp only [PS] at hSw); go_simp; refine Came.value ?_ hS0; with_reducible rfl)
    try simp only [Act.put, List.setIfInBounds_toArray, List.set_cons_zero, List.set_cons_succ]
    refine wpDet_take (i := 10) (oi := _) (v := ?dv11) (by simp only [List.getElem?_toArray, List.getElem?_cons_zero, List.getElem?_cons_succ]; rfl) (by kernel_rfl) (by kernel_rfl) (by kernel_rfl) (Or.inl ⟨by rfl, ?dy11⟩) ?dr11
    case dy11 => (intro w hSw; have hS0 := hSw; (try dsimp only [PS] at hSw); go_simp; refine Came.value ?_ hS0; with_reducible rfl)
    try simp only [Act.put, List.setIfInBounds_toArray, List.set_cons_zero, List.set_cons_succ]
    refine wpDet_take (i := 11) (oi := _) (v := ?dv12) (by simp only [List.getElem?_toArray, List.getElem?_cons_zero, List.getElem?_cons_succ]; rfl) (by kernel_rfl) (by kernel_rfl) (by kernel_rfl) (Or.inl ⟨by rfl, ?dy12⟩) ?dr12
    case dy12 => (intro w hSw; go_simp; exact Came.call ((RB.out w).mono fun e w' ⟨he, hf⟩ => ⟨he, hSw.fr hf⟩) (by with_reducible rfl))
    try simp only [Act.put, List.setIfInBounds_toArray, List.set_cons_zero, List.set_cons_succ]
    refine wpDet_take (i := 12) (oi := _) (v := ?dv13) (by simp only [List.getElem?_toArray, List.getElem?_cons_zero, List.getElem?_cons_succ]; rfl) (by kernel_rfl) (by kernel_rfl) (by kernel_rfl) (Or.inl ⟨by rfl, ?dy13⟩) ?dr13
    case dy13 => (intro w hSw; have hS0 := hSw; (try dsimp only [PS] at hSw); go_simp; refine Came.value ?_ hS0; with_reducible rfl)
    try simp only [Act.put, List.setIfInBounds_toArray, List.set_cons_zero, List.set_cons_succ]
    refine wpDet_take (i := 13) (oi := _) (v := ?dv14) (by simp only [List.getElem?_toArray, List.getElem?_cons_zero, List.getElem?_cons_succ]; rfl) (by kernel_rfl) (by kernel_rfl) (by kernel_rfl) (Or.inl ⟨by rfl, ?dy14⟩) ?dr14
    case dy14 => (intro w hSw; have hS0 := hSw; (try dsimp only [PS] at hSw); go_simp; refine Came.value ?_ hS0; with_reducible rfl)
    try simp only [Act.put, List.setIfInBounds_toArray, List.set_cons_zero, List.set_cons_succ]
    refine wpDet_take (i := 14) (oi := _) (v := ?dv15) (by simp only [List.getElem?_toArray, List.getElem?_cons_zero, List.getElem?_cons_succ]; rfl) (by kernel_rfl) (by kernel_rfl) (by kernel_rfl) (Or.inl ⟨by rfl, ?dy15⟩) ?dr15
    case dy15 => (intro w hSw; have hS0 := hSw; (try dsimp only [PS] at hSw); go_simp; refine Came.value ?_ hS0; with_reducible rfl)
    try simp only [Act.put, List.setIfInBounds_toArray, List.set_cons_zero, List.set_cons_succ]
    refine wpDet_take (i := 15) (oi := _) (v := ?dv16) (by simp only [List.getElem?_toArray, List.getElem?_cons_zero, List.getElem?_cons_succ]; rfl) (by kernel_rfl) (by kernel_rfl) (by kernel_rfl) (Or.inl ⟨by rfl, ?dy16⟩) ?dr16
    case dy16 => (intro w hSw; have hS0 := hSw; (try dsimp only [PS] at hSw); go_simp; refine Came.value ?_ hS0; with_reducible rfl)
    try simp only [Act.put, List.setIfInBounds_toArray, List.set_cons_zero, List.set_cons_succ]
    refine wpDet_take (i := 16) (oi := _) (v := ?dv17) (by simp only [List.getElem?_toArray, List.getElem?_cons_zero, List.getElem?_cons_succ]; rfl) (by kernel_rfl) (by kernel_rfl) (by kernel_rfl) (Or.inl ⟨by rfl, ?dy17⟩) ?dr17
    case dy17 => (intro w hSw; have hS0 := hSw; (try dsimp only [PS] at hSw); go_simp; refine Came.value ?_ hS0; with_reducible rfl)
    try simp only [Act.put, List.setIfInBounds_toArray, List.set_cons_zero, List.set_cons_succ]
    refine wpDet_take (i := 17) (oi := _) (v := ?dv18) (by simp only [List.getElem?_toArray, List.getElem?_cons_zero, List.getElem?_cons_succ]; rfl) (by kernel_rfl) (by kernel_rfl) (by kernel_rfl) (Or.inl ⟨by rfl, ?dy18⟩) ?dr18
    case dy18 => (intro w hSw; go_simp; exact Came.call ((RL.out w).mono fun e w' ⟨he, hf⟩ => ⟨he, hSw.fr hf⟩) (by with_reducible rfl))
    try simp only [Act.put, List.setIfInBounds_toArray, List.set_cons_zero, List.set_cons_succ]
    refine wpDet_take (i := 18) (oi := _) (v := ?dv19) (by simp only [List.getElem?_toArray, List.getElem?_cons_zero, List.getElem?_cons_succ]; rfl) (by kernel_rfl) (by kernel_rfl) (by kernel_rfl) (Or.inl ⟨by rfl, ?dy19⟩) ?dr19
    case dy19 => (intro w hSw; have hS0 := hSw; (try dsimp only [PS] at hSw); go_simp; refine Came.value ?_ hS0; with_reducible rfl)
    try simp only [Act.put, List.setIfInBounds_toArray, List.set_cons_zero, List.set_cons_succ]
    refine wpDet_take (i := 19) (oi := _) (v := ?dv20) (by simp only [List.getElem?_toArray, List.getElem?_cons_zero, List.getElem?_cons_succ]; rfl) (by kernel_rfl) (by kernel_rfl) (by kernel_rfl) (Or.inl ⟨by rfl, ?dy20⟩) ?dr20
    case dy20 => (intro w hSw; have hS0 := hSw; (try dsimp only [PS] at hSw); go_simp; refine Came.value ?_ hS0; with_reducible rfl)
    try simp only [Act.put, List.setIfInBounds_toArray, List.set_cons_zero, List.set_cons_succ]
    refine wpDet_take (i := 20) (oi := _) (v := ?dv21) (by simp only [List.getElem?_toArray, List.getElem?_cons_zero, List.getElem?_cons_succ]; rfl) (by kernel_rfl) (by kernel_rfl) (by kernel_rfl) (Or.inl ⟨by rfl, ?dy21⟩) ?dr21
    case dy21 => (intro w hSw; have hS0 := hSw; (try dsimp only [PS] at hSw); go_simp; refine Came.value ?_ hS0; with_reducible rfl)
    try simp only [Act.put, List.setIfInBounds_toArray, List.set_cons_zero, List.set_cons_succ]
    refine wpDet_take (i := 21) (oi := _) (v := ?dv22) (by simp only [List.getElem?_toArray, List.getElem?_cons_zero, List.getElem?_cons_succ]; rfl) (by kernel_rfl) (by kernel_rfl) (by kernel_rfl) (Or.inl ⟨by rfl, ?dy22⟩) ?dr22
    case dy22 => (intro w hSw; have hS0 := hSw; (try dsimp only [PS] at hSw); go_simp; refine Came.value ?_ hS0; with_reducible rfl)
    try simp only [Act.put, List.setIfInBounds_toArray, List.set_cons_zero, List.set_cons_succ]
    refine wpDet_take (i := 22) (oi := _) (v := ?dv23) (by simp only [List.getElem?_toArray, List.getElem?_cons_zero, List.getElem?_cons_succ]; rfl) (by kernel_rfl) (by kernel_rfl) (by kernel_rfl) (Or.inl ⟨by rfl, ?dy23⟩) ?dr23
    case dy23 => (intro w hSw; have hS0 := hSw; (try dsimp only [PS] at hSw); go_simp; refine Came.value ?_ hS0; with_reducible rfl)
    try simp only [Act.put, List.setIfInBounds_toArray, List.set_cons_zero, List.set_cons_succ]
    refine wpDet_take (i := 23) (oi := _) (v := ?dv24) (by simp only [List.getElem?_toArray, List.getElem?_cons_zero, List.getElem?_cons_succ]; rfl) (by kernel_rfl) (by kernel_rfl) (by kernel_rfl) (Or.inl ⟨by rfl, ?dy24⟩) ?dr24
    case dy24 => (intro w hSw; go_simp; exact Came.call ((LP.out w).mono fun e w' ⟨he, hf⟩ => ⟨he, hSw.fr hf⟩) (by with_reducible rfl))
    try simp only [Act.put, List.setIfInBounds_toArray, List.set_cons_zero, List.set_cons_succ]
    refine wpDet_take (i := 24) (oi := _) (v := ?dv25) (by simp only [List.getElem?_toArray, List.getElem?_cons_zero, List.getElem?_cons_succ]; rfl) (by kernel_rfl) (by kernel_rfl) (by kernel_rfl) (Or.inl ⟨by rfl, ?dy25⟩) ?dr25
    case dy25 => (intro w hSw; have hS0 := hSw; (try dsimp only [PS] at hSw); go_simp; refine Came.value ?_ hS0; with_reducible rfl)
    try simp only [Act.put, List.setIfInBounds_toArray, List.set_cons_zero, List.set_cons_succ]
    refine wpDet_take (i := 25) (oi := _) (v := ?dv26) (by simp only [List.getElem?_toArray, List.getElem?_cons_zero, List.getElem?_cons_succ]; rfl) (by kernel_rfl) (by kernel_rfl) (by kernel_rfl) (Or.inl ⟨by rfl, ?dy26⟩) ?dr26
    case dy26 => (intro w hSw; have hS0 := hSw; (try dsimp only [PS] at hSw); go_simp; refine Came.value ?_ hS0; with_reducible rfl)
    try simp only [Act.put, List.setIfInBounds_toArray, List.set_cons_zero, List.set_cons_succ]
    refine wpDet_take (i := 26) (oi := _) (v := ?dv27) (by simp only [List.getElem?_toArray, List.getElem?_cons_zero, List.getElem?_cons_succ]; rfl) (by kernel_rfl) (by kernel_rfl) (by kernel_rfl) (Or.inl ⟨by rfl, ?dy27⟩) ?dr27
    case dy27 => (intro w hSw; have hS0 := hSw; (try dsimp only [PS] at hSw); go_simp; refine Came.value ?_ hS0; with_reducible rfl)
    try simp only [Act.put, List.setIfInBounds_toArray, List.set_cons_zero, List.set_cons_succ]
    refine wpDet_take (i := 27) (oi := _) (v := ?dv28) (by simp only [List.getElem?_toArray, List.getElem?_cons_zero, List.getElem?_cons_succ]; rfl) (by kernel_rfl) (by kernel_rfl) (by kernel_rfl) (Or.inl ⟨by rfl, ?dy28⟩) ?dr28
    case dy28 => (intro w hSw; have hS0 := hSw; (try dsimp only [PS] at hSw); go_simp; refine Came.value ?_ hS0; with_reducible rfl)
    try simp only [Act.put, List.setIfInBounds_toArray, List.set_cons_zero, List.set_cons_succ]
    refine wpDet_take (i := 28) (oi := _) (v := ?dv29) (by simp only [List.getElem?_toArray, List.getElem?_cons_zero, List.getElem?_cons_succ]; rfl) (by kernel_rfl) (by kernel_rfl) (by kernel_rfl) (Or.inl ⟨by rfl, ?dy29⟩) ?dr29
    case dy29 => (intro w hSw; have hS0 := hSw; (try dsimp only [PS] at hSw); go_simp; refine Came.value ?_ hS0; with_reducible rfl)
    try simp only [Act.put, List.setIfInBounds_toArray, List.set_cons_zero, List.set_cons_succ]
    refine wpDet_take (i := 29) (oi := _) (v := ?dv30) (by simp only [List.getElem?_toArray, List.getElem?_cons_zero, List.getElem?_cons_succ]; rfl) (by kernel_rfl) (by kernel_rfl) (by kernel_rfl) (Or.inl ⟨by rfl, ?dy30⟩) ?dr30
    case dy30 => (intro w hSw; have hS0 := hSw; (try dsimp only [PS] at hSw); go_simp; refine Came.value ?_ hS0; with_reducible rfl)
    try simp only [Act.put, List.setIfInBounds_toArray, List.set_cons_zero, List.set_cons_succ]
    refine wpDet_take (i := 30) (oi := _) (v := ?dv31) (by simp only [List.getElem?_toArray, List.getElem?_cons_zero, List.getElem?_cons_succ]; rfl) (by kernel_rfl) (by kernel_rfl) (by kernel_rfl) (Or.inl ⟨by rfl, ?dy31⟩) ?dr31
    case dy31 => (intro w hSw; go_simp; exact Came.call ((FP.out w).mono fun e w' ⟨he, hf⟩ => ⟨he, hSw.fr hf⟩) (by with_reducible rfl))
    try simp only [Act.put, List.setIfInBounds_toArray, List.set_cons_zero, List.set_cons_succ]
    refine wpDet_take (i := 31) (oi := _) (v := ?dv32) (by simp only [List.getElem?_toArray, List.getElem?_cons_zero, List.getElem?_cons_succ]; rfl) (by kernel_rfl) (by kernel_rfl) (by kernel_rfl) (Or.inl ⟨by rfl, ?dy32⟩) ?dr32
    case dy32 => (intro w hSw; have hS0 := hSw; (try dsimp only [PS] at hSw); go_simp; refine Came.value ?_ hS0; with_reducible rfl)
    try simp only [Act.put, List.setIfInBounds_toArray, List.set_cons_zero, List.set_cons_succ]
    refine wpDet_take (i := 32) (oi := _) (v := ?dv33) (by simp only [List.getElem?_toArray, List.getElem?_cons_zero, List.getElem?_cons_succ]; rfl) (by kernel_rfl) (by kernel_rfl) (by kernel_rfl) (Or.inl ⟨by rfl, ?dy33⟩) ?dr33
    case dy33 => (intro w hSw; have hS0 := hSw; (try dsimp only [PS] at hSw); go_simp; refine Came.value ?_ hS0; with_reducible rfl)
    try simp only [Act.put, List.setIfInBounds_toArray, List.set_cons_zero, List.set_cons_succ]
    refine wpDet_take (i := 33) (oi := _) (v := ?dv34) (by simp only [List.getElem?_toArray, List.getElem?_cons_zero, List.getElem?_cons_succ]; rfl) (by kernel_rfl) (by kernel_rfl) (by kernel_rfl) (Or.inl ⟨by rfl, ?dy34⟩) ?dr34
    case dy34 => (intro w hSw; have hS0 := hSw; (try dsimp only [PS] at hSw); go_simp; refine Came.value ?_ hS0; with_reducible rfl)
    try simp only [Act.put, List.setIfInBounds_toArray, List.set_cons_zero, List.set_cons_succ]
    refine wpDet_take (i := 34) (oi := _) (v := ?dv35) (by simp only [List.getElem?_toArray, List.getElem?_cons_zero, List.getElem?_cons_succ]; rfl) (by kernel_rfl) (by kernel_rfl) (by kernel_rfl) (Or.inl ⟨by rfl, ?dy35⟩) ?dr35
    case dy35 => (intro w hSw; have hS0 := hSw; (try dsimp only [PS] at hSw); go_simp; refine Came.value ?_ hS0; with_reducible rfl)
    try simp only [Act.put, List.setIfInBounds_toArray, List.set_cons_zero, List.set_cons_succ]
    refine wpDet_take (i := 35) (oi := _) (v := ?dv36) (by simp only [List.getElem?_toArray, List.getElem?_cons_zero, List.getElem?_cons_succ]; rfl) (by kernel_rfl) (by kernel_rfl) (by kernel_rfl) (Or.inl ⟨by rfl, ?dy36⟩) ?dr36
    case dy36 => (intro w hSw; have hS0 := hSw; (try dsimp only [PS] at hSw); go_simp; refine Came.value ?_ hS0; with_reducible rfl)
    try simp only [Act.put, List.setIfInBounds_toArray, List.set_cons_zero, List.set_cons_succ]
    refine wpDet_take (i := 36) (oi := _) (v := ?dv37) (by simp only [List.getElem?_toArray, List.getElem?_cons_zero, List.getElem?_cons_succ]; rfl) (by kernel_rfl) (by kernel_rfl) (by kernel_rfl) (Or.inl ⟨by rfl, ?dy37⟩) ?dr37
    case dy37 => (intro w hSw; have hS0 := hSw; (try dsimp only [PS] at hSw); go_simp; refine Came.value ?_ hS0; with_reducible rfl)
    try simp only [Act.put, List.setIfInBounds_toArray, List.set_cons_zero, List.set_cons_succ]
    refine wpDet_take (i := 37) (oi := _) (v := ?dv38) (by simp only [List.getElem?_toArray, List.getElem?_cons_zero, List.getElem?_cons_succ]; rfl) (by kernel_rfl) (by kernel_rfl) (by kernel_rfl) (Or.inl ⟨by rfl, ?dy38⟩) ?dr38
    case dy38 => (intro w hSw; have hS0 := hSw; (try dsimp only [PS] at hSw); go_simp; refine Came.value ?_ hS0; with_reducible rfl)
    try simp only [Act.put, List.setIfInBounds_toArray, List.set_cons_zero, List.set_cons_succ]
    refine wpDet_take (i := 38) (oi := _) (v := ?dv39) (by simp only [List.getElem?_toArray, List.getElem?_cons_zero, List.getElem?_cons_succ]; rfl) (by kernel_rfl) (by kernel_rfl) (by kernel_rfl) (Or.inl ⟨by rfl, ?dy39⟩) ?dr39
    case dy39 => (intro w hSw; have hS0 := hSw; (try dsimp only [PS] at hSw); go_simp; refine Came.value ?_ hS0; with_reducible rfl)
    try simp only [Act.put, List.setIfInBounds_toArray, List.set_cons_zero, List.set_cons_succ]
    refine wpDet_take (i := 39) (oi := _) (v := ?dv40) (by simp only [List.getElem?_toArray, List.getElem?_cons_zero, List.getElem?_cons_succ]; rfl) (by kernel_rfl) (by kernel_rfl) (by kernel_rfl) (Or.inl ⟨by rfl, ?dy40⟩) ?dr40
    case dy40 => (intro w hSw; go_simp; exact Came.call ((FL.out w).mono fun e w' ⟨he, hf⟩ => ⟨he, hSw.fr hf⟩) (by with_reducible rfl))
    try simp only [Act.put, List.setIfInBounds_toArray, List.set_cons_zero, List.set_cons_succ]
    refine wpDet_take (i := 40) (oi := _) (v := ?dv41) (by simp only [List.getElem?_toArray, List.getElem?_cons_zero, List.getElem?_cons_succ]; rfl) (by kernel_rfl) (by kernel_rfl) (by kernel_rfl) (Or.inl ⟨by rfl, ?dy41⟩) ?dr41
    case dy41 => (intro w hSw; have hS0 := hSw; (try dsimp only [PS] at hSw); go_simp; refine Came.value ?_ hS0; with_reducible rfl)
    try simp only [Act.put, List.setIfInBounds_toArray, List.set_cons_zero, List.set_cons_succ]
    refine wpDet_take (i := 41) (oi := _) (v := ?dv42) (by simp only [List.getElem?_toArray, List.getElem?_cons_zero, List.getElem?_cons_succ]; rfl) (by kernel_rfl) (by kernel_rfl) (by kernel_rfl) (Or.inl ⟨by rfl, ?dy42⟩) ?dr42
    case dy42 => (intro w hSw; have hS0 := hSw; (try dsimp only [PS] at hSw); go_simp; refine Came.value ?_ hS0; with_reducible rfl)
    try simp only [Act.put, List.setIfInBounds_toArray, List.set_cons_zero, List.set_cons_succ]
    refine wpDet_take (i := 42) (oi := _) (v := ?dv43) (by simp only [List.getElem?_toArray, List.getElem?_cons_zero, List.getElem?_cons_succ]; rfl) (by kernel_rfl) (by kernel_rfl) (by kernel_rfl) (Or.inl ⟨by rfl, ?dy43⟩) ?dr43
    case dy43 => (intro w hSw; have hS0 := hSw; (try dsimp only [PS] at hSw); go_simp; refine Came.value ?_ hS0; with_reducible rfl)
    try simp only [Act.put, List.setIfInBounds_toArray, List.set_cons_zero, List.set_cons_succ]
    refine wpDet_take (i := 43) (oi := _) (v := ?dv44) (by simp only [List.getElem?_toArray, List.getElem?_cons_zero, List.getElem?_cons_succ]; rfl) (by kernel_rfl) (by kernel_rfl) (by kernel_rfl) (Or.inl ⟨by rfl, ?dy44⟩) ?dr44
    case dy44 => (intro w hSw; have hS0 := hSw; (try dsimp only [PS] at hSw); go_simp; refine Came.value ?_ hS0; with_reducible rfl)
    try simp only [Act.put, List.setIfInBounds_toArray, List.set_cons_zero, List.set_cons_succ]
    refine wpDet_take (i := 44) (oi := _) (v := ?dv45) (by simp only [List.getElem?_toArray, List.getElem?_cons_zero, List.getElem?_cons_succ]; rfl) (by kernel_rfl) (by kernel_rfl) (by kernel_rfl) (Or.inl ⟨by rfl, ?dy45⟩) ?dr45
    case dy45 => (intro w hSw; go_simp; exact Came.call ((FH.out w).mono fun e w' ⟨he, hf⟩ => ⟨he, hSw.fr hf⟩) (by with_reducible rfl))
    try simp only [Act.put, List.setIfInBounds_toArray, List.set_cons_zero, List.set_cons_succ]
    refine wpDet_take (i := 45) (oi := _) (v := ?dv46) (by simp only [List.getElem?_toArray, List.getElem?_cons_zero, List.getElem?_cons_succ]; rfl) (by kernel_rfl) (by kernel_rfl) (by kernel_rfl) (Or.inl ⟨by rfl, ?dy46⟩) ?dr46
    case dy46 => (intro w hSw; have hS0 := hSw; (try dsimp only [PS] at hSw); go_simp; refine Came.value ?_ hS0; with_reducible rfl)
    try simp only [Act.put, List.setIfInBounds_toArray, List.set_cons_zero, List.set_cons_succ]
    refine wpDet_take (i := 46) (oi := _) (v := ?dv47) (by simp only [List.getElem?_toArray, List.getElem?_cons_zero, List.getElem?_cons_succ]; rfl) (by kernel_rfl) (by kernel_rfl) (by kernel_rfl) (Or.inl ⟨by rfl, ?dy47⟩) ?dr47
    case dy47 => (intro w hSw; have hS0 := hSw; (try dsimp only [PS] at hSw); go_simp; refine Came.value ?_ hS0; with_reducible rfl)
    try simp only [Act.put, List.setIfInBounds_toArray, List.set_cons_zero, List.set_cons_succ]
    refine wpDet_take (i := 47) (oi := _) (v := ?dv48) (by simp only [List.getElem?_toArray, List.getElem?_cons_zero, List.getElem?_cons_succ]; rfl) (by kernel_rfl) (by kernel_rfl) (by kernel_rfl) (Or.inl ⟨by rfl, ?dy48⟩) ?dr48
    case dy48 => (intro w hSw; have hS0 := hSw; (try dsimp only [PS] at hSw); go_simp; refine Came.value ?_ hS0; with_reducible rfl)
    try simp only [Act.put, List.setIfInBounds_toArray, List.set_cons_zero, List.set_cons_succ]
    refine wpDet_take (i := 48) (oi := _) (v := ?dv49) (by simp only [List.getElem?_toArray, List.getElem?_cons_zero, List.getElem?_cons_succ]; rfl) (by kernel_rfl) (by kernel_rfl) (by kernel_rfl) (Or.inl ⟨by rfl, ?dy49⟩) ?dr49
    case dy49 => (intro w hSw; have hS0 := hSw; (try dsimp only [PS] at hSw); go_simp; refine Came.value ?_ hS0; with_reducible rfl)
    try simp only [Act.put, List.setIfInBounds_toArray, List.set_cons_zero, List.set_cons_succ]
    refine wpDet_take (i := 49) (oi := _) (v := ?dv50) (by simp only [List.getElem?_toArray, List.getElem?_cons_zero, List.getElem?_cons_succ]; rfl) (by kernel_rfl) (by kernel_rfl) (by kernel_rfl) (Or.inl ⟨by rfl, ?dy50⟩) ?dr50
    case dy50 => (intro w hSw; have hS0 := hSw; (try dsimp only [PS] at hSw); go_simp; refine Came.value ?_ hS0; with_reducible rfl)
    try simp only [Act.put, List.setIfInBounds_toArray, List.set_cons_zero, List.set_cons_succ]
    refine wpDet_take (i := 50) (oi := _) (v := ?dv51) (by simp only [List.getElem?_toArray, List.getElem?_cons_zero, List.getElem?_cons_succ]; rfl) (by kernel_rfl) (by kernel_rfl) (by kernel_rfl) (Or.inl ⟨by rfl, ?dy51⟩) ?dr51
    case dy51 => (intro w hSw; have hS0 := hSw; (try dsimp only [PS] at hSw); go_simp; refine Came.value ?_ hS0; with_reducible rfl)
    try simp only [Act.put, List.setIfInBounds_toArray, List.set_cons_zero, List.set_cons_succ]
    refine wpDet_done (by kernel_rfl) ?_ _
    rintro w8 hS8
    go_wp2
    go_ret
    exact ⟨rfl, hS8.1⟩
theorem pstates_walk (h : Ho) (a1 a2 a3 : Int) (r : Bool) (w : World) (w1 : (Lit.int .i64 a1).wf = true) (w2 : (Lit.int .i64 a2).wf = true) (w3 : (Lit.int .i64 a3).wf = true) :
    Calls Try.prog 6 #[h.v, .int .i64 a1, .int .i64 a2, .int .i64 a3, .bool r] w fun e w' => e = .returned (.bool true) ∧ w.grownBy w' none := by
  by_cases hk : h.ok
  · exact (states_some h hk a1 a2 a3 r w w1 w2 w3).mono fun _ _ ⟨he, hf⟩ => ⟨he, hf.grown (by simp)⟩
  · exact (states_none h hk a1 a2 a3 r w).mono fun _ _ ⟨he, hf⟩ => ⟨he, hf.grown (by simp)⟩
end Go.Proofs.Yteojefipcbalhaa
