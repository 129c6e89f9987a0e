/- The document's riser: what lies in memory; its May, side, Lights, Gen. -/
import Derived.Test.YtndjmpjgahmnoaaDoorRFirst
import Derived.Test.YtndjmpjgahmnoaaDoorRSame
import Derived.Deep.RegionHeld3
namespace Go.Proofs.YtndjmpjgahmnoaaDoor
open Go.RowKit

/-- The cells of the document's riser: the floors, each button's number, whether it is lit. -/
structure RdC (cs : Array Value) (s : RS) : Prop where
  size : cs.size = 257
  n : cs[0]? = some (.int .i64 (s.n : Int))
  g : ∀ k, k < 128 → cs[1 + k]? = some (.int .i64 (s.G k))
  l : ∀ k, k < 128 → cs[129 + k]? = some (.bool (s.L k))
def Rd (w : World) (q : Nat) (s : RS) : Prop := ∃ cs, w.heap[q]? = some (.cells cs 51 (0, 0)) ∧ RdC cs s
theorem Rd.fr {w w' : World} {q : Nat} {s : RS} {S : List Nat} (h : Rd w q s) (hf : Fr w w' S) (hq : q ∉ S) : Rd w' q s := h.imp fun _ hh => ⟨hf.heap hh.1 hq, hh.2⟩
theorem Rd.keep {w w' : World} {q : Nat} {s : RS} (h : Rd w q s) (hf : Fr w w' []) : Rd w' q s := h.fr hf (by simp)
theorem Rd.lt {w : World} {q : Nat} {s : RS} (h : Rd w q s) : q < w.heap.size := by obtain ⟨cs, h1, _⟩ := h; exact size_of_row h1
theorem Rd.n {w : World} {q : Nat} {s : RS} (h : Rd w q s) : w.cell? ⟨q, 0, none⟩ = some (.int .i64 (s.n : Int)) := by
  obtain ⟨cs, h1, h2⟩ := h
  rw [cell_of_row w q _ _ _ _ h1, h2.n]
theorem Rd.g {w : World} {q : Nat} {s : RS} (h : Rd w q s) (k o : Nat) (hk : k < 128) (ho : o = 1 + k) : w.cell? ⟨q, o, none⟩ = some (.int .i64 (s.G k)) := by
  obtain ⟨cs, h1, h2⟩ := h
  subst ho
  rw [cell_of_row w q _ _ _ _ h1, h2.g k hk]
theorem Rd.l {w : World} {q : Nat} {s : RS} (h : Rd w q s) (k o : Nat) (hk : k < 128) (ho : o = 129 + k) : w.cell? ⟨q, o, none⟩ = some (.bool (s.L k)) := by
  obtain ⟨cs, h1, h2⟩ := h
  subst ho
  rw [cell_of_row w q _ _ _ _ h1, h2.l k hk]
theorem Rd.fz {w : World} {q : Nat} {s : RS} (h : Rd w q s) (j : Nat) : w.frozen? ⟨q, j, none⟩ = false := by
  obtain ⟨cs, h1, h2⟩ := h
  exact frozen_of_row _ _ _ _ _ h1
theorem Rd.setL {w : World} {q : Nat} {s : RS} (h : Rd w q s) (k o : Nat) (hk : k < 128) (ho : o = 129 + k) (b : Bool) : Rd (w.setCell ⟨q, o, none⟩ (.bool b)) q ⟨s.n, updB s.L k b, s.G⟩ := by
  obtain ⟨cs, h1, h2, h3, h4, h5⟩ := h
  subst ho
  refine ⟨_, heap_setCell_same _ _ _ _ _ _ h1, by simpa using h2, by rw [Array.getElem?_setIfInBounds_ne (by omega)]; exact h3, fun j hj => by rw [Array.getElem?_setIfInBounds_ne (by omega)]; exact h4 j hj, fun j hj => ?_⟩
  by_cases e : j = k
  · subst e
    rw [Array.getElem?_setIfInBounds_self_of_lt (by omega)]; simp [updB]
  · rw [Array.getElem?_setIfInBounds_ne (by omega)]; simpa [updB, e] using h5 j hj
theorem Rd.setG {w : World} {q : Nat} {s : RS} (h : Rd w q s) (k o : Nat) (hk : k < 128) (ho : o = 1 + k) (b : Int) : Rd (w.setCell ⟨q, o, none⟩ (.int .i64 b)) q ⟨s.n, s.L, updG s.G k b⟩ := by
  obtain ⟨cs, h1, h2, h3, h4, h5⟩ := h
  subst ho
  refine ⟨_, heap_setCell_same _ _ _ _ _ _ h1, by simpa using h2, by rw [Array.getElem?_setIfInBounds_ne (by omega)]; exact h3, fun j hj => ?_, fun j hj => by rw [Array.getElem?_setIfInBounds_ne (by omega)]; exact h5 j hj⟩
  by_cases e : j = k
  · subst e
    rw [Array.getElem?_setIfInBounds_self_of_lt (by omega)]; simp [updG]
  · rw [Array.getElem?_setIfInBounds_ne (by omega)]; simpa [updG, e] using h4 j hj
/-- The zero riser of the document's. -/
def zRd (n : Int) : List Value := .int .i64 n :: (List.replicate 128 (Value.int .i64 0) ++ List.replicate 128 (Value.bool false))
def zD : Array Value := (zRd 0).toArray
set_option maxRecDepth 100000 in
theorem zeroRd (W : World) : (zeroValue 51).run Tryd.prog W = .ok (.agg zD) W :=
  (zero_of_info (n := 257) (show (Tryd.prog.info? 51).map (fun i => (i.zero, i.size)) = some (some (.agg zD), 257) by kernel_rfl)).1 W
set_option maxRecDepth 100000 in
theorem zD_ne : zD ≠ #[] := by
  intro h
  have : zD.size = 257 := rfl
  rw [h] at this
  simp at this
set_option maxRecDepth 100000 in
theorem zRd_ok (n : Nat) : RdC (zRd (n : Int)).toArray (zS n) := by
  refine ⟨rfl, rfl, fun k hk => ?_, fun k hk => ?_⟩
  · rw [Nat.add_comm 1]
    unfold zRd
    simp only [List.getElem?_toArray, List.getElem?_cons_succ]
    rw [List.getElem?_append_left (by rw [List.length_replicate]; omega), List.getElem?_replicate, if_pos hk]
    rfl
  · rw [show 129 + k = (128 + k) + 1 by omega]
    unfold zRd
    simp only [List.getElem?_toArray, List.getElem?_cons_succ]
    rw [List.getElem?_append_right (by rw [List.length_replicate]; omega), List.getElem?_replicate, List.length_replicate, if_pos (by omega)]
    rfl
theorem zD_set (n : Nat) : RdC (zD.setIfInBounds 0 (.int .i64 (n : Int))) (zS n) := by
  have h : zD.setIfInBounds 0 (.int .i64 (n : Int)) = (zRd (n : Int)).toArray := by
    unfold zD zRd
    rw [List.setIfInBounds_toArray, List.set_cons_zero]
  rw [h]
  exact zRd_ok n

set_option maxRecDepth 100000 in
theorem rmay_any (n : Nat) (hn : n ≤ 64) (f d : Int) (w : World) :
    Calls Tryd.prog 25 #[.int .i64 (n : Int), .agg #[.int .i64 f, .int .i64 d]] w fun e w' => e = .returned (.bool (mayB n f d)) ∧ Fr w w' [] := by
  have HF := Lib.hid (Fr.alloc w (.cells #[.int .i64 f, .int .i64 d] 24) [])
  by_cases h0 : f < 0
  · have HB := Lib.hid (mayB_lo (n := n) (d := d) h0)
    go_enter Tryd.func25, Tryd.ntmps25
    go_wp2
    go_ret
    exact ⟨by rw [HB.out]; rfl, HF.out⟩
  · by_cases h1 : (n : Int) ≤ f
    · have HB := Lib.hid (mayB_hi (n := n) (d := d) h1)
      go_enter Tryd.func25, Tryd.ntmps25
      go_wp2
      go_ret
      exact ⟨by rw [HB.out]; rfl, HF.out⟩
    · have h2 : f < (n : Int) := by omega
      by_cases hd : d = 1
      · have HB := Lib.hid (mayB_up (n := n) (d := d) (by omega) h2 hd)
        subst hd
        by_cases h3 : f < (n : Int) - 1
        · go_enter Tryd.func25, Tryd.ntmps25
          go_wp2
          go_ret
          exact ⟨by rw [HB.out, decide_eq_true (by omega)]; rfl, HF.out⟩
        · go_enter Tryd.func25, Tryd.ntmps25
          go_wp2
          go_ret
          exact ⟨by rw [HB.out, decide_eq_false (by omega)]; rfl, HF.out⟩
      · by_cases hd2 : d = -1
        · have HB := Lib.hid (mayB_down (n := n) (d := d) (by omega) h2 hd2)
          subst hd2
          clear hd
          by_cases h3 : 0 < f
          · go_enter Tryd.func25, Tryd.ntmps25
            go_wp2
            go_ret
            exact ⟨by rw [HB.out, decide_eq_true (by omega)]; rfl, HF.out⟩
          · go_enter Tryd.func25, Tryd.ntmps25
            go_wp2
            go_ret
            exact ⟨by rw [HB.out, decide_eq_false (by omega)]; rfl, HF.out⟩
        · have HB := Lib.hid (mayB_none (n := n) (f := f) hd hd2)
          have e1 : (d == 1) = false := by simp [hd]
          have e2 : (d == -1) = false := by simp [hd2]
          clear hd hd2
          go_enter Tryd.func25, Tryd.ntmps25
          go_wp2
          go_ret
          exact ⟨by rw [HB.out]; rfl, HF.out⟩
theorem side_up (w : World) : Calls Tryd.prog 30 #[.int .i64 1] w fun e w' => e = .returned (.int .i64 1) ∧ w = w' := by
  go_enter Tryd.func30, Tryd.ntmps30
  go_wp2
  go_ret
  exact ⟨rfl, rfl⟩
theorem side_down (w : World) : Calls Tryd.prog 30 #[.int .i64 (-1)] w fun e w' => e = .returned (.int .i64 0) ∧ w = w' := by
  go_enter Tryd.func30, Tryd.ntmps30
  go_wp2
  go_ret
  exact ⟨rfl, rfl⟩
/-- What is known of a button's way: its way, what side gives, where it lies. -/
theorem key_way {n : Nat} {f d : Int} {k : Nat} (h : Key n f d k) (hn : n ≤ 64) : ∃ j : Nat, f = (j : Int) ∧ (j : Int) < 64 ∧ k < 128 ∧ ((d = -1 ∧ k = j * 2) ∨ (d = 1 ∧ k = j * 2 + 1)) := by
  obtain ⟨h1, h2, rfl, rfl⟩ := h
  exact ⟨k / 2, rfl, by omega, by omega, by omega⟩

/-- What stands while the document's riser is read. -/
def DS (W : World) (q c : Nat) (n : Nat) (f d : Int) (o1 o2 : Nat) (b : Bool) (g : Int) (a : World) : Prop := Fr W a [] ∧ a.cell? ⟨q, 0, none⟩ = some (.int .i64 (n : Int)) ∧ a.cell? ⟨c, 0, none⟩ = some (.int .i64 f) ∧ a.cell? ⟨c, 1, none⟩ = some (.int .i64 d) ∧
  a.cell? ⟨q, o1, none⟩ = some (.int .i64 g) ∧ a.cell? ⟨q, o2, none⟩ = some (.bool b)
theorem DS.fr {W a a' : World} {q c n : Nat} {f d g : Int} {o1 o2 : Nat} {b : Bool} (h : DS W q c n f d o1 o2 b g a) (k : Fr a a' []) : DS W q c n f d o1 o2 b g a' :=
  ⟨h.1.trans k, k.cell h.2.1 (by simp), k.cell h.2.2.1 (by simp), k.cell h.2.2.2.1 (by simp), k.cell h.2.2.2.2.1 (by simp), k.cell h.2.2.2.2.2 (by simp)⟩
theorem DS.mk' {W : World} {q c : Nat} {s : RS} {f d : Int} (k o1 o2 : Nat) (hk : k < 128) (h1 : o1 = 1 + k) (h2 : o2 = 129 + k) (hs : Rd W q s) (hc : W.cell? ⟨c, 0, none⟩ = some (.int .i64 f) ∧ W.cell? ⟨c, 1, none⟩ = some (.int .i64 d)) : DS W q c s.n f d o1 o2 (s.L k) (s.G k) W.drew :=
  DS.fr (W := W) (a := W) ⟨Fr.refl _ _, hs.n, hc.1, hc.2, hs.g k o1 hk h1, hs.l k o2 hk h2⟩ (Fr.drew _ [])

set_option maxHeartbeats 1000000 in
set_option maxRecDepth 100000 in
theorem rgen_any (q : Nat) (s : RS) (f d : Int) (w : World) (hs : Rd w q s) (hn : s.n ≤ 64) :
    Calls Tryd.prog 24 #[.pointer (some ⟨q, 0, none⟩), .agg #[.int .i64 f, .int .i64 d]] w fun e w' => e = .returned (.int .i64 (s.genB f d)) ∧ Fr w w' [] := by
  have hv := rmay_any s.n hn f d
  have HF := Lib.hid (Fr.alloc w (.cells #[.int .i64 f, .int .i64 d] 24) [])
  have HC := Lib.hid (heap_alloc_new w (.cells #[.int .i64 f, .int .i64 d] 24))
  have HR := Lib.hid (hs.keep HF.out)
  clear hs
  rcases may_or s.n f d with hm | ⟨k, hk⟩
  · have HB : Hid (s.genB f d = 0) := by show _ = _; simp [RS.genB, hm]
    rw [hm] at hv
    have HV := Lib.hid hv
    have HS := Lib.hid (DS.mk' 0 1 129 (by omega) rfl rfl HR.out (row2 HC.out))
    clear hv hm
    go_enter Tryd.func24, Tryd.ntmps24
    go_wp2
    refine wp_region_det (S := DS _ q w.heap.size s.n f d 1 129 (s.L 0) (s.G 0)) (by kernel_rfl) HS.out ?_
    refine wpDet_take (i := 0) (oi := _) (v := ?dv1) (by simp only [List.getElem?_toArray, List.getElem?_cons_zero]; rfl) (by kernel_rfl) (by kernel_rfl) (by kernel_rfl) (Or.inl ⟨by rfl, ?dy1⟩) ?dr1
    case dy1 => (intro w hSw; have hS0 := hSw; (try dsimp only [DS] at hSw); go_simp; refine Came.value ?_ hS0; with_reducible rfl)
    try simp only [Act.put, List.setIfInBounds_toArray, List.set_cons_zero, List.set_cons_succ]
    refine wpDet_take (i := 1) (oi := _) (v := ?dv2) (by simp only [List.getElem?_toArray, List.getElem?_cons_zero, List.getElem?_cons_succ]; rfl) (by kernel_rfl) (by kernel_rfl) (by kernel_rfl) (Or.inl ⟨by rfl, ?dy2⟩) ?dr2
    case dy2 => (intro w hSw; have hS0 := hSw; (try dsimp only [DS] at hSw); go_simp; refine Came.value ?_ hS0; with_reducible rfl)
    try simp only [Act.put, List.setIfInBounds_toArray, List.set_cons_zero, List.set_cons_succ]
    refine wpDet_take (i := 2) (oi := _) (v := ?dv3) (by simp only [List.getElem?_toArray, List.getElem?_cons_zero, List.getElem?_cons_succ]; rfl) (by kernel_rfl) (by kernel_rfl) (by kernel_rfl) (Or.inl ⟨by rfl, ?dy3⟩) ?dr3
    case dy3 => (intro w hSw; have hS0 := hSw; (try dsimp only [DS] at hSw); go_simp; refine Came.value ?_ hS0; with_reducible rfl)
    try simp only [Act.put, List.setIfInBounds_toArray, List.set_cons_zero, List.set_cons_succ]
    refine wpDet_take (i := 3) (oi := _) (v := ?dv4) (by simp only [List.getElem?_toArray, List.getElem?_cons_zero, List.getElem?_cons_succ]; rfl) (by kernel_rfl) (by kernel_rfl) (by kernel_rfl) (Or.inl ⟨by rfl, ?dy4⟩) ?dr4
    case dy4 => (intro w hSw; have hS0 := hSw; (try dsimp only [DS] at hSw); go_simp; refine Came.value ?_ hS0; with_reducible rfl)
    try simp only [Act.put, List.setIfInBounds_toArray, List.set_cons_zero, List.set_cons_succ]
    refine wpDet_take (i := 4) (oi := _) (v := ?dv5) (by simp only [List.getElem?_toArray, List.getElem?_cons_zero, List.getElem?_cons_succ]; rfl) (by kernel_rfl) (by kernel_rfl) (by kernel_rfl) (Or.inl ⟨by rfl, ?dy5⟩) ?dr5
    case dy5 => (intro w hSw; have hS0 := hSw; (try dsimp only [DS] at hSw); go_simp; refine Came.value ?_ hS0; with_reducible rfl)
    try simp only [Act.put, List.setIfInBounds_toArray, List.set_cons_zero, List.set_cons_succ]
    refine wpDet_take (i := 5) (oi := _) (v := ?dv6) (by simp only [List.getElem?_toArray, List.getElem?_cons_zero, List.getElem?_cons_succ]; rfl) (by kernel_rfl) (by kernel_rfl) (by kernel_rfl) (Or.inl ⟨by rfl, ?dy6⟩) ?dr6
    case dy6 => (intro w hSw; go_simp; exact Came.call ((HV.out w).mono fun e w' ⟨he, hf⟩ => ⟨he, hSw.fr hf⟩) (by with_reducible rfl))
    try simp only [Act.put, List.setIfInBounds_toArray, List.set_cons_zero, List.set_cons_succ]
    refine wpDet_take (i := 6) (oi := _) (v := ?dv7) (by simp only [List.getElem?_toArray, List.getElem?_cons_zero, List.getElem?_cons_succ]; rfl) (by kernel_rfl) (by kernel_rfl) (by kernel_rfl) (Or.inl ⟨by rfl, ?dy7⟩) ?dr7
    case dy7 => (intro w hSw; have hS0 := hSw; (try dsimp only [DS] at hSw); go_simp; refine Came.value ?_ hS0; with_reducible rfl)
    try simp only [Act.put, List.setIfInBounds_toArray, List.set_cons_zero, List.set_cons_succ]
    refine wpDet_done (by kernel_rfl) ?_ _
    rintro w1 ⟨hF, _⟩
    have HF1 := Lib.hid (HF.out.trans hF)
    clear hF
    go_wp2
    go_ret
    exact ⟨by rw [HB.out]; rfl, HF1.out⟩
  · have HB : Hid (s.genB f d = s.G k) := by show _ = _; simp [RS.genB, hk.may, hk.is]
    rw [hk.may] at hv
    have HV := Lib.hid hv
    obtain ⟨j, rfl, hj, hk128, hd⟩ := key_way hk hn
    rcases hd with ⟨rfl, hkj⟩ | ⟨rfl, hkj⟩
    · have HS := Lib.hid (DS.mk' k (1 + j * 2) (129 + j * 2) hk128 (by omega) (by omega) HR.out (row2 HC.out))
      have HD := Lib.hid side_down
      obtain ⟨g, hg⟩ : ∃ g, g = s.G k := ⟨_, rfl⟩
      rw [← hg] at HS HB
      clear hv hk hkj hg
      go_enter Tryd.func24, Tryd.ntmps24
      go_wp2
      refine wp_region_det (S := DS _ q w.heap.size s.n j (-1) (1 + j * 2) (129 + j * 2) (s.L k) g) (by kernel_rfl) HS.out ?_
      refine wpDet_take (i := 0) (oi := _) (v := ?dv8) (by simp only [List.getElem?_toArray, List.getElem?_cons_zero]; rfl) (by kernel_rfl) (by kernel_rfl) (by kernel_rfl) (Or.inl ⟨by rfl, ?dy8⟩) ?dr8
      case dy8 => (intro w hSw; have hS0 := hSw; (try dsimp only [DS] at hSw); go_simp; refine Came.value ?_ hS0; with_reducible rfl)
      try simp only [Act.put, List.setIfInBounds_toArray, List.set_cons_zero, List.set_cons_succ]
      refine wpDet_take (i := 1) (oi := _) (v := ?dv9) (by simp only [List.getElem?_toArray, List.getElem?_cons_zero, List.getElem?_cons_succ]; rfl) (by kernel_rfl) (by kernel_rfl) (by kernel_rfl) (Or.inl ⟨by rfl, ?dy9⟩) ?dr9
      case dy9 => (intro w hSw; have hS0 := hSw; (try dsimp only [DS] at hSw); go_simp; refine Came.value ?_ hS0; with_reducible rfl)
      try simp only [Act.put, List.setIfInBounds_toArray, List.set_cons_zero, List.set_cons_succ]
      refine wpDet_take (i := 2) (oi := _) (v := ?dv10) (by simp only [List.getElem?_toArray, List.getElem?_cons_zero, List.getElem?_cons_succ]; rfl) (by kernel_rfl) (by kernel_rfl) (by kernel_rfl) (Or.inl ⟨by rfl, ?dy10⟩) ?dr10
      case dy10 => (intro w hSw; have hS0 := hSw; (try dsimp only [DS] at hSw); go_simp; refine Came.value ?_ hS0; with_reducible rfl)
      try simp only [Act.put, List.setIfInBounds_toArray, List.set_cons_zero, List.set_cons_succ]
      refine wpDet_take (i := 3) (oi := _) (v := ?dv11) (by simp only [List.getElem?_toArray, List.getElem?_cons_zero, List.getElem?_cons_succ]; rfl) (by kernel_rfl) (by kernel_rfl) (by kernel_rfl) (Or.inl ⟨by rfl, ?dy11⟩) ?dr11
      case dy11 => (intro w hSw; have hS0 := hSw; (try dsimp only [DS] at hSw); go_simp; refine Came.value ?_ hS0; with_reducible rfl)
      try simp only [Act.put, List.setIfInBounds_toArray, List.set_cons_zero, List.set_cons_succ]
      refine wpDet_take (i := 4) (oi := _) (v := ?dv12) (by simp only [List.getElem?_toArray, List.getElem?_cons_zero, List.getElem?_cons_succ]; rfl) (by kernel_rfl) (by kernel_rfl) (by kernel_rfl) (Or.inl ⟨by rfl, ?dy12⟩) ?dr12
      case dy12 => (intro w hSw; have hS0 := hSw; (try dsimp only [DS] at hSw); go_simp; refine Came.value ?_ hS0; with_reducible rfl)
      try simp only [Act.put, List.setIfInBounds_toArray, List.set_cons_zero, List.set_cons_succ]
      refine wpDet_take (i := 5) (oi := _) (v := ?dv13) (by simp only [List.getElem?_toArray, List.getElem?_cons_zero, List.getElem?_cons_succ]; rfl) (by kernel_rfl) (by kernel_rfl) (by kernel_rfl) (Or.inl ⟨by rfl, ?dy13⟩) ?dr13
      case dy13 => (intro w hSw; go_simp; exact Came.call ((HV.out w).mono fun e w' ⟨he, hf⟩ => ⟨he, hSw.fr hf⟩) (by with_reducible rfl))
      try simp only [Act.put, List.setIfInBounds_toArray, List.set_cons_zero, List.set_cons_succ]
      refine wpDet_take (i := 6) (oi := _) (v := ?dv14) (by simp only [List.getElem?_toArray, List.getElem?_cons_zero, List.getElem?_cons_succ]; rfl) (by kernel_rfl) (by kernel_rfl) (by kernel_rfl) (Or.inl ⟨by rfl, ?dy14⟩) ?dr14
      case dy14 => (intro w hSw; have hS0 := hSw; (try dsimp only [DS] at hSw); go_simp; refine Came.value ?_ hS0; with_reducible rfl)
      try simp only [Act.put, List.setIfInBounds_toArray, List.set_cons_zero, List.set_cons_succ]
      refine wpDet_done (by kernel_rfl) ?_ _
      rintro w1 hS1
      go_wp2
      refine wp_region_det (S := DS _ q w.heap.size s.n j (-1) (1 + j * 2) (129 + j * 2) (s.L k) g) (by kernel_rfl) (hS1.fr (Fr.drew _ [])) ?_
      refine wpDet_take (i := 0) (oi := _) (v := ?dv15) (by simp only [List.getElem?_toArray, List.getElem?_cons_zero]; rfl) (by kernel_rfl) (by kernel_rfl) (by kernel_rfl) (Or.inl ⟨by rfl, ?dy15⟩) ?dr15
      case dy15 => (intro w hSw; have hS0 := hSw; (try dsimp only [DS] at hSw); go_simp; refine Came.value ?_ hS0; with_reducible rfl)
      try simp only [Act.put, List.setIfInBounds_toArray, List.set_cons_zero, List.set_cons_succ]
      refine wpDet_take (i := 1) (oi := _) (v := ?dv16) (by simp only [List.getElem?_toArray, List.getElem?_cons_zero, List.getElem?_cons_succ]; rfl) (by kernel_rfl) (by kernel_rfl) (by kernel_rfl) (Or.inl ⟨by rfl, ?dy16⟩) ?dr16
      case dy16 => (intro w hSw; have hS0 := hSw; (try dsimp only [DS] at hSw); go_simp; refine Came.value ?_ hS0; with_reducible rfl)
      try simp only [Act.put, List.setIfInBounds_toArray, List.set_cons_zero, List.set_cons_succ]
      refine wpDet_take (i := 2) (oi := _) (v := ?dv17) (by simp only [List.getElem?_toArray, List.getElem?_cons_zero, List.getElem?_cons_succ]; rfl) (by kernel_rfl) (by kernel_rfl) (by kernel_rfl) (Or.inl ⟨by rfl, ?dy17⟩) ?dr17
      case dy17 => (intro w hSw; have hS0 := hSw; (try dsimp only [DS] at hSw); go_simp; refine Came.value ?_ hS0; with_reducible rfl)
      try simp only [Act.put, List.setIfInBounds_toArray, List.set_cons_zero, List.set_cons_succ]
      refine wpDet_take (i := 3) (oi := _) (v := ?dv18) (by simp only [List.getElem?_toArray, List.getElem?_cons_zero, List.getElem?_cons_succ]; rfl) (by kernel_rfl) (by kernel_rfl) (by kernel_rfl) (Or.inl ⟨by rfl, ?dy18⟩) ?dr18
      case dy18 => (intro w hSw; have hS0 := hSw; (try dsimp only [DS] at hSw); go_simp; refine Came.value ?_ hS0; with_reducible rfl)
      try simp only [Act.put, List.setIfInBounds_toArray, List.set_cons_zero, List.set_cons_succ]
      refine wpDet_take (i := 4) (oi := _) (v := ?dv19) (by simp only [List.getElem?_toArray, List.getElem?_cons_zero, List.getElem?_cons_succ]; rfl) (by kernel_rfl) (by kernel_rfl) (by kernel_rfl) (Or.inl ⟨by rfl, ?dy19⟩) ?dr19
      case dy19 => (intro w hSw; have hS0 := hSw; (try dsimp only [DS] at hSw); go_simp; refine Came.value ?_ hS0; with_reducible rfl)
      try simp only [Act.put, List.setIfInBounds_toArray, List.set_cons_zero, List.set_cons_succ]
      refine wpDet_take (i := 5) (oi := _) (v := ?dv20) (by simp only [List.getElem?_toArray, List.getElem?_cons_zero, List.getElem?_cons_succ]; rfl) (by kernel_rfl) (by kernel_rfl) (by kernel_rfl) (Or.inl ⟨by rfl, ?dy20⟩) ?dr20
      case dy20 => (intro w hSw; go_simp; exact Came.call ((HD.out w).mono fun e w' ⟨he, hw⟩ => ⟨he, hw ▸ hSw⟩) (by with_reducible rfl))
      try simp only [Act.put, List.setIfInBounds_toArray, List.set_cons_zero, List.set_cons_succ]
      refine wpDet_take (i := 6) (oi := _) (v := ?dv21) (by simp only [List.getElem?_toArray, List.getElem?_cons_zero, List.getElem?_cons_succ]; rfl) (by kernel_rfl) (by kernel_rfl) (by kernel_rfl) (Or.inl ⟨by rfl, ?dy21⟩) ?dr21
      case dy21 => (intro w hSw; have hS0 := hSw; (try dsimp only [DS] at hSw); go_simp; refine Came.value ?_ hS0; with_reducible rfl)
      try simp only [Act.put, List.setIfInBounds_toArray, List.set_cons_zero, List.set_cons_succ]
      refine wpDet_take (i := 7) (oi := _) (v := ?dv22) (by simp only [List.getElem?_toArray, List.getElem?_cons_zero, List.getElem?_cons_succ]; rfl) (by kernel_rfl) (by kernel_rfl) (by kernel_rfl) (Or.inl ⟨by rfl, ?dy22⟩) ?dr22
      case dy22 => (intro w hSw; have hS0 := hSw; (try dsimp only [DS] at hSw); go_simp; refine Came.value ?_ hS0; with_reducible rfl)
      try simp only [Act.put, List.setIfInBounds_toArray, List.set_cons_zero, List.set_cons_succ]
      refine wpDet_take (i := 8) (oi := _) (v := ?dv23) (by simp only [List.getElem?_toArray, List.getElem?_cons_zero, List.getElem?_cons_succ]; rfl) (by kernel_rfl) (by kernel_rfl) (by kernel_rfl) (Or.inl ⟨by rfl, ?dy23⟩) ?dr23
      case dy23 => (intro w hSw; have hS0 := hSw; (try dsimp only [DS] at hSw); go_simp; refine Came.value ?_ hS0; with_reducible rfl)
      try simp only [Act.put, List.setIfInBounds_toArray, List.set_cons_zero, List.set_cons_succ]
      refine wpDet_take (i := 9) (oi := _) (v := ?dv24) (by simp only [List.getElem?_toArray, List.getElem?_cons_zero, List.getElem?_cons_succ]; rfl) (by kernel_rfl) (by kernel_rfl) (by kernel_rfl) (Or.inl ⟨by rfl, ?dy24⟩) ?dr24
      case dy24 => (intro w hSw; have hS0 := hSw; (try dsimp only [DS] at hSw); go_simp; refine Came.value ?_ hS0; with_reducible rfl)
      try simp only [Act.put, List.setIfInBounds_toArray, List.set_cons_zero, List.set_cons_succ]
      refine wpDet_take (i := 10) (oi := _) (v := ?dv25) (by simp only [List.getElem?_toArray, List.getElem?_cons_zero, List.getElem?_cons_succ]; rfl) (by kernel_rfl) (by kernel_rfl) (by kernel_rfl) (Or.inl ⟨by rfl, ?dy25⟩) ?dr25
      case dy25 => (intro w hSw; have hS0 := hSw; (try dsimp only [DS] at hSw); go_simp; refine Came.value ?_ hS0; with_reducible rfl)
      try simp only [Act.put, List.setIfInBounds_toArray, List.set_cons_zero, List.set_cons_succ]
      refine wpDet_take (i := 11) (oi := _) (v := ?dv26) (by simp only [List.getElem?_toArray, List.getElem?_cons_zero, List.getElem?_cons_succ]; rfl) (by kernel_rfl) (by kernel_rfl) (by kernel_rfl) (Or.inl ⟨by rfl, ?dy26⟩) ?dr26
      case dy26 => (intro w hSw; have hS0 := hSw; (try dsimp only [DS] at hSw); go_simp; refine Came.value ?_ hS0; with_reducible rfl)
      try simp only [Act.put, List.setIfInBounds_toArray, List.set_cons_zero, List.set_cons_succ]
      refine wpDet_done (by kernel_rfl) ?_ _
      rintro w2 ⟨hF, _⟩
      have HF1 := Lib.hid (HF.out.trans hF)
      clear hF hS1
      go_wp2
      go_ret
      exact ⟨by rw [HB.out]; rfl, HF1.out⟩
    · have HS := Lib.hid (DS.mk' k (1 + j * 2 + 1) (129 + j * 2 + 1) hk128 (by omega) (by omega) HR.out (row2 HC.out))
      have HD := Lib.hid side_up
      obtain ⟨g, hg⟩ : ∃ g, g = s.G k := ⟨_, rfl⟩
      rw [← hg] at HS HB
      clear hv hk hkj hg
      go_enter Tryd.func24, Tryd.ntmps24
      go_wp2
      refine wp_region_det (S := DS _ q w.heap.size s.n j 1 (1 + j * 2 + 1) (129 + j * 2 + 1) (s.L k) g) (by kernel_rfl) HS.out ?_
      refine wpDet_take (i := 0) (oi := _) (v := ?dv27) (by simp only [List.getElem?_toArray, List.getElem?_cons_zero]; rfl) (by kernel_rfl) (by kernel_rfl) (by kernel_rfl) (Or.inl ⟨by rfl, ?dy27⟩) ?dr27
      case dy27 => (intro w hSw; have hS0 := hSw; (try dsimp only [DS] at hSw); go_simp; refine Came.value ?_ hS0; with_reducible rfl)
      try simp only [Act.put, List.setIfInBounds_toArray, List.set_cons_zero, List.set_cons_succ]
      refine wpDet_take (i := 1) (oi := _) (v := ?dv28) (by simp only [List.getElem?_toArray, List.getElem?_cons_zero, List.getElem?_cons_succ]; rfl) (by kernel_rfl) (by kernel_rfl) (by kernel_rfl) (Or.inl ⟨by rfl, ?dy28⟩) ?dr28
      case dy28 => (intro w hSw; have hS0 := hSw; (try dsimp only [DS] at hSw); go_simp; refine Came.value ?_ hS0; with_reducible rfl)
      try simp only [Act.put, List.setIfInBounds_toArray, List.set_cons_zero, List.set_cons_succ]
      refine wpDet_take (i := 2) (oi := _) (v := ?dv29) (by simp only [List.getElem?_toArray, List.getElem?_cons_zero, List.getElem?_cons_succ]; rfl) (by kernel_rfl) (by kernel_rfl) (by kernel_rfl) (Or.inl ⟨by rfl, ?dy29⟩) ?dr29
      case dy29 => (intro w hSw; have hS0 := hSw; (try dsimp only [DS] at hSw); go_simp; refine Came.value ?_ hS0; with_reducible rfl)
      try simp only [Act.put, List.setIfInBounds_toArray, List.set_cons_zero, List.set_cons_succ]
      refine wpDet_take (i := 3) (oi := _) (v := ?dv30) (by simp only [List.getElem?_toArray, List.getElem?_cons_zero, List.getElem?_cons_succ]; rfl) (by kernel_rfl) (by kernel_rfl) (by kernel_rfl) (Or.inl ⟨by rfl, ?dy30⟩) ?dr30
      case dy30 => (intro w hSw; have hS0 := hSw; (try dsimp only [DS] at hSw); go_simp; refine Came.value ?_ hS0; with_reducible rfl)
      try simp only [Act.put, List.setIfInBounds_toArray, List.set_cons_zero, List.set_cons_succ]
      refine wpDet_take (i := 4) (oi := _) (v := ?dv31) (by simp only [List.getElem?_toArray, List.getElem?_cons_zero, List.getElem?_cons_succ]; rfl) (by kernel_rfl) (by kernel_rfl) (by kernel_rfl) (Or.inl ⟨by rfl, ?dy31⟩) ?dr31
      case dy31 => (intro w hSw; have hS0 := hSw; (try dsimp only [DS] at hSw); go_simp; refine Came.value ?_ hS0; with_reducible rfl)
      try simp only [Act.put, List.setIfInBounds_toArray, List.set_cons_zero, List.set_cons_succ]
      refine wpDet_take (i := 5) (oi := _) (v := ?dv32) (by simp only [List.getElem?_toArray, List.getElem?_cons_zero, List.getElem?_cons_succ]; rfl) (by kernel_rfl) (by kernel_rfl) (by kernel_rfl) (Or.inl ⟨by rfl, ?dy32⟩) ?dr32
      case dy32 => (intro w hSw; go_simp; exact Came.call ((HV.out w).mono fun e w' ⟨he, hf⟩ => ⟨he, hSw.fr hf⟩) (by with_reducible rfl))
      try simp only [Act.put, List.setIfInBounds_toArray, List.set_cons_zero, List.set_cons_succ]
      refine wpDet_take (i := 6) (oi := _) (v := ?dv33) (by simp only [List.getElem?_toArray, List.getElem?_cons_zero, List.getElem?_cons_succ]; rfl) (by kernel_rfl) (by kernel_rfl) (by kernel_rfl) (Or.inl ⟨by rfl, ?dy33⟩) ?dr33
      case dy33 => (intro w hSw; have hS0 := hSw; (try dsimp only [DS] at hSw); go_simp; refine Came.value ?_ hS0; with_reducible rfl)
      try simp only [Act.put, List.setIfInBounds_toArray, List.set_cons_zero, List.set_cons_succ]
      refine wpDet_done (by kernel_rfl) ?_ _
      rintro w1 hS1
      go_wp2
      refine wp_region_det (S := DS _ q w.heap.size s.n j 1 (1 + j * 2 + 1) (129 + j * 2 + 1) (s.L k) g) (by kernel_rfl) (hS1.fr (Fr.drew _ [])) ?_
      refine wpDet_take (i := 0) (oi := _) (v := ?dv34) (by simp only [List.getElem?_toArray, List.getElem?_cons_zero]; rfl) (by kernel_rfl) (by kernel_rfl) (by kernel_rfl) (Or.inl ⟨by rfl, ?dy34⟩) ?dr34
      case dy34 => (intro w hSw; have hS0 := hSw; (try dsimp only [DS] at hSw); go_simp; refine Came.value ?_ hS0; with_reducible rfl)
      try simp only [Act.put, List.setIfInBounds_toArray, List.set_cons_zero, List.set_cons_succ]
      refine wpDet_take (i := 1) (oi := _) (v := ?dv35) (by simp only [List.getElem?_toArray, List.getElem?_cons_zero, List.getElem?_cons_succ]; rfl) (by kernel_rfl) (by kernel_rfl) (by kernel_rfl) (Or.inl ⟨by rfl, ?dy35⟩) ?dr35
      case dy35 => (intro w hSw; have hS0 := hSw; (try dsimp only [DS] at hSw); go_simp; refine Came.value ?_ hS0; with_reducible rfl)
      try simp only [Act.put, List.setIfInBounds_toArray, List.set_cons_zero, List.set_cons_succ]
      refine wpDet_take (i := 2) (oi := _) (v := ?dv36) (by simp only [List.getElem?_toArray, List.getElem?_cons_zero, List.getElem?_cons_succ]; rfl) (by kernel_rfl) (by kernel_rfl) (by kernel_rfl) (Or.inl ⟨by rfl, ?dy36⟩) ?dr36
      case dy36 => (intro w hSw; have hS0 := hSw; (try dsimp only [DS] at hSw); go_simp; refine Came.value ?_ hS0; with_reducible rfl)
      try simp only [Act.put, List.setIfInBounds_toArray, List.set_cons_zero, List.set_cons_succ]
      refine wpDet_take (i := 3) (oi := _) (v := ?dv37) (by simp only [List.getElem?_toArray, List.getElem?_cons_zero, List.getElem?_cons_succ]; rfl) (by kernel_rfl) (by kernel_rfl) (by kernel_rfl) (Or.inl ⟨by rfl, ?dy37⟩) ?dr37
      case dy37 => (intro w hSw; have hS0 := hSw; (try dsimp only [DS] at hSw); go_simp; refine Came.value ?_ hS0; with_reducible rfl)
      try simp only [Act.put, List.setIfInBounds_toArray, List.set_cons_zero, List.set_cons_succ]
      refine wpDet_take (i := 4) (oi := _) (v := ?dv38) (by simp only [List.getElem?_toArray, List.getElem?_cons_zero, List.getElem?_cons_succ]; rfl) (by kernel_rfl) (by kernel_rfl) (by kernel_rfl) (Or.inl ⟨by rfl, ?dy38⟩) ?dr38
      case dy38 => (intro w hSw; have hS0 := hSw; (try dsimp only [DS] at hSw); go_simp; refine Came.value ?_ hS0; with_reducible rfl)
      try simp only [Act.put, List.setIfInBounds_toArray, List.set_cons_zero, List.set_cons_succ]
      refine wpDet_take (i := 5) (oi := _) (v := ?dv39) (by simp only [List.getElem?_toArray, List.getElem?_cons_zero, List.getElem?_cons_succ]; rfl) (by kernel_rfl) (by kernel_rfl) (by kernel_rfl) (Or.inl ⟨by rfl, ?dy39⟩) ?dr39
      case dy39 => (intro w hSw; go_simp; exact Came.call ((HD.out w).mono fun e w' ⟨he, hw⟩ => ⟨he, hw ▸ hSw⟩) (by with_reducible rfl))
      try simp only [Act.put, List.setIfInBounds_toArray, List.set_cons_zero, List.set_cons_succ]
      refine wpDet_take (i := 6) (oi := _) (v := ?dv40) (by simp only [List.getElem?_toArray, List.getElem?_cons_zero, List.getElem?_cons_succ]; rfl) (by kernel_rfl) (by kernel_rfl) (by kernel_rfl) (Or.inl ⟨by rfl, ?dy40⟩) ?dr40
      case dy40 => (intro w hSw; have hS0 := hSw; (try dsimp only [DS] at hSw); go_simp; refine Came.value ?_ hS0; with_reducible rfl)
      try simp only [Act.put, List.setIfInBounds_toArray, List.set_cons_zero, List.set_cons_succ]
      refine wpDet_take (i := 7) (oi := _) (v := ?dv41) (by simp only [List.getElem?_toArray, List.getElem?_cons_zero, List.getElem?_cons_succ]; rfl) (by kernel_rfl) (by kernel_rfl) (by kernel_rfl) (Or.inl ⟨by rfl, ?dy41⟩) ?dr41
      case dy41 => (intro w hSw; have hS0 := hSw; (try dsimp only [DS] at hSw); go_simp; refine Came.value ?_ hS0; with_reducible rfl)
      try simp only [Act.put, List.setIfInBounds_toArray, List.set_cons_zero, List.set_cons_succ]
      refine wpDet_take (i := 8) (oi := _) (v := ?dv42) (by simp only [List.getElem?_toArray, List.getElem?_cons_zero, List.getElem?_cons_succ]; rfl) (by kernel_rfl) (by kernel_rfl) (by kernel_rfl) (Or.inl ⟨by rfl, ?dy42⟩) ?dr42
      case dy42 => (intro w hSw; have hS0 := hSw; (try dsimp only [DS] at hSw); go_simp; refine Came.value ?_ hS0; with_reducible rfl)
      try simp only [Act.put, List.setIfInBounds_toArray, List.set_cons_zero, List.set_cons_succ]
      refine wpDet_take (i := 9) (oi := _) (v := ?dv43) (by simp only [List.getElem?_toArray, List.getElem?_cons_zero, List.getElem?_cons_succ]; rfl) (by kernel_rfl) (by kernel_rfl) (by kernel_rfl) (Or.inl ⟨by rfl, ?dy43⟩) ?dr43
      case dy43 => (intro w hSw; have hS0 := hSw; (try dsimp only [DS] at hSw); go_simp; refine Came.value ?_ hS0; with_reducible rfl)
      try simp only [Act.put, List.setIfInBounds_toArray, List.set_cons_zero, List.set_cons_succ]
      refine wpDet_take (i := 10) (oi := _) (v := ?dv44) (by simp only [List.getElem?_toArray, List.getElem?_cons_zero, List.getElem?_cons_succ]; rfl) (by kernel_rfl) (by kernel_rfl) (by kernel_rfl) (Or.inl ⟨by rfl, ?dy44⟩) ?dr44
      case dy44 => (intro w hSw; have hS0 := hSw; (try dsimp only [DS] at hSw); go_simp; refine Came.value ?_ hS0; with_reducible rfl)
      try simp only [Act.put, List.setIfInBounds_toArray, List.set_cons_zero, List.set_cons_succ]
      refine wpDet_take (i := 11) (oi := _) (v := ?dv45) (by simp only [List.getElem?_toArray, List.getElem?_cons_zero, List.getElem?_cons_succ]; rfl) (by kernel_rfl) (by kernel_rfl) (by kernel_rfl) (Or.inl ⟨by rfl, ?dy45⟩) ?dr45
      case dy45 => (intro w hSw; have hS0 := hSw; (try dsimp only [DS] at hSw); go_simp; refine Came.value ?_ hS0; with_reducible rfl)
      try simp only [Act.put, List.setIfInBounds_toArray, List.set_cons_zero, List.set_cons_succ]
      refine wpDet_done (by kernel_rfl) ?_ _
      rintro w2 ⟨hF, _⟩
      have HF1 := Lib.hid (HF.out.trans hF)
      clear hF hS1
      go_wp2
      go_ret
      exact ⟨by rw [HB.out]; rfl, HF1.out⟩
end Go.Proofs.YtndjmpjgahmnoaaDoor
