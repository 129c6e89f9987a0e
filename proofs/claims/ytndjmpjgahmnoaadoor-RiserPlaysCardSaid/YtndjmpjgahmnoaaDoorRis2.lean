/- Hall buttons: New, May, the button of a call, Is, Gen, Press, Clear, Clone. -/
import Derived.Test.YtndjmpjgahmnoaaDoorRis
import Derived.Test.YtndjmpjgahmnoaaDoorDet
import Derived.Test.YtndjmpjgahmnoaaDoorErr
import Derived.BigRegion
namespace Go.Proofs.YtndjmpjgahmnoaaDoor
open Go.RowKit

theorem mayB_lo {n : Nat} {f d : Int} (h : f < 0) : mayB n f d = false := by simp [mayB]; omega
theorem mayB_hi {n : Nat} {f d : Int} (h : (n : Int) ≤ f) : mayB n f d = false := by simp [mayB]; omega
theorem mayB_up {n : Nat} {f d : Int} (h0 : 0 ≤ f) (h1 : f < n) (hd : d = 1) : mayB n f d = decide (f < (n : Int) - 1) := by subst hd; simp [mayB, h0, h1]
theorem mayB_down {n : Nat} {f d : Int} (h0 : 0 ≤ f) (h1 : f < n) (hd : d = -1) : mayB n f d = decide (0 < f) := by subst hd; simp [mayB, h0, h1]
theorem mayB_none {n : Nat} {f d : Int} (h1 : d ≠ 1) (h2 : d ≠ -1) : mayB n f d = false := by simp [mayB, h1, h2]

set_option maxRecDepth 100000 in
theorem may_any (n : Nat) (hn : n ≤ 64) (f d : Int) (w : World) :
    Calls Tryd.prog 14 #[.int .i64 (n : Int), .agg #[.int .i64 f, .int .i64 d]] w fun e w' => e = .returned (.bool (mayB n f d)) ∧ Fr w w' [] := by
  have HF := Lib.hid (Fr.alloc w (.cells #[.int .i64 f, .int .i64 d] 24) [])
  by_cases h0 : f < 0
  · have HB := Lib.hid (mayB_lo (n := n) (d := d) h0)
    go_enter Tryd.func14, Tryd.ntmps14
    go_wp2
    go_ret
    exact ⟨by rw [HB.out]; rfl, HF.out⟩
  · by_cases h1 : (n : Int) ≤ f
    · have HB := Lib.hid (mayB_hi (n := n) (d := d) h1)
      go_enter Tryd.func14, Tryd.ntmps14
      go_wp2
      go_ret
      exact ⟨by rw [HB.out]; rfl, HF.out⟩
    · have h2 : f < (n : Int) := by omega
      by_cases hd : d = 1
      · have HB := Lib.hid (mayB_up (n := n) (d := d) (by omega) h2 hd)
        subst hd
        go_enter Tryd.func14, Tryd.ntmps14
        go_wp2
        go_ret
        exact ⟨by rw [HB.out]; rfl, HF.out⟩
      · by_cases hd2 : d = -1
        · have HB := Lib.hid (mayB_down (n := n) (d := d) (by omega) h2 hd2)
          subst hd2
          clear hd
          go_enter Tryd.func14, Tryd.ntmps14
          go_wp2
          go_ret
          exact ⟨by rw [HB.out]; rfl, HF.out⟩
        · have HB := Lib.hid (mayB_none (n := n) (f := f) hd hd2)
          have e1 : (d == 1) = false := by simp [hd]
          have e2 : (d == -1) = false := by simp [hd2]
          clear hd hd2
          go_enter Tryd.func14, Tryd.ntmps14
          go_wp2
          go_ret
          exact ⟨by rw [HB.out]; rfl, HF.out⟩

/-- What stands while the call's button is looked for. -/
def BS (W : World) (p c : Nat) (n : Nat) (f d : Int) (a : World) : Prop := Fr W a [] ∧ a.cell? ⟨p, 0, none⟩ = some (.int .i64 (n : Int)) ∧ a.cell? ⟨c, 0, none⟩ = some (.int .i64 f) ∧ a.cell? ⟨c, 1, none⟩ = some (.int .i64 d)
theorem BS.fr {W a a' : World} {p c n : Nat} {f d : Int} (h : BS W p c n f d a) (k : Fr a a' []) : BS W p c n f d a' :=
  ⟨h.1.trans k, k.cell h.2.1 (by simp), k.cell h.2.2.1 (by simp), k.cell h.2.2.2 (by simp)⟩
theorem BS.new {w : World} {p : Nat} {s : RS} (f d : Int) (h : Rs w p s) : BS w p w.heap.size s.n f d (w.alloc (.cells #[.int .i64 f, .int .i64 d] 24)).drew := by
  have hf := (Fr.alloc w (.cells #[.int .i64 f, .int .i64 d] 24) []).trans (Fr.drew _ [])
  obtain ⟨h0, h1⟩ := row2 ((Fr.drew _ []).heap (heap_alloc_new w (.cells #[.int .i64 f, .int .i64 d] 24)) (by simp))
  exact ⟨hf, (h.keep hf).n, h0, h1⟩

set_option maxRecDepth 100000 in
theorem button_no (p : Nat) (s : RS) (f d : Int) (w : World) (hs : Rs w p s) (hn : s.n ≤ 64) (hm : mayB s.n f d = false) :
    Calls Tryd.prog 27 #[.pointer (some ⟨p, 0, none⟩), .agg #[.int .i64 f, .int .i64 d]] w fun e w' => e = .returned (.pointer none) ∧ Fr w w' [] := by
  have hv := may_any s.n hn f d
  rw [hm] at hv
  have HV := Lib.hid hv
  have HS := Lib.hid (BS.new f d hs)
  clear hs hv hm
  go_enter Tryd.func27, Tryd.ntmps27
  go_wp2
  refine wp_region_det (S := BS w p w.heap.size s.n f d) (by kernel_rfl) HS.out ?_
  refine wpDet_take (i := 0) (oi := _) (v := ?dv1) (by simp only [List.getElem?_toArray, List.getElem?_cons_zero]; rfl) (by kernel_rfl) (by kernel_rfl) (by kernel_rfl) (Or.inl ⟨by rfl, ?dy1⟩) ?dr1
  case dy1 => (intro w hSw; have hS0 := hSw; (try dsimp only [BS] at hSw); go_simp; refine Came.value ?_ hS0; with_reducible rfl)
  try simp only [Act.put, List.setIfInBounds_toArray, List.set_cons_zero, List.set_cons_succ]
  refine wpDet_take (i := 1) (oi := _) (v := ?dv2) (by simp only [List.getElem?_toArray, List.getElem?_cons_zero, List.getElem?_cons_succ]; rfl) (by kernel_rfl) (by kernel_rfl) (by kernel_rfl) (Or.inl ⟨by rfl, ?dy2⟩) ?dr2
  case dy2 => (intro w hSw; have hS0 := hSw; (try dsimp only [BS] at hSw); go_simp; refine Came.value ?_ hS0; with_reducible rfl)
  try simp only [Act.put, List.setIfInBounds_toArray, List.set_cons_zero, List.set_cons_succ]
  refine wpDet_take (i := 2) (oi := _) (v := ?dv3) (by simp only [List.getElem?_toArray, List.getElem?_cons_zero, List.getElem?_cons_succ]; rfl) (by kernel_rfl) (by kernel_rfl) (by kernel_rfl) (Or.inl ⟨by rfl, ?dy3⟩) ?dr3
  case dy3 => (intro w hSw; have hS0 := hSw; (try dsimp only [BS] at hSw); go_simp; refine Came.value ?_ hS0; with_reducible rfl)
  try simp only [Act.put, List.setIfInBounds_toArray, List.set_cons_zero, List.set_cons_succ]
  refine wpDet_take (i := 3) (oi := _) (v := ?dv4) (by simp only [List.getElem?_toArray, List.getElem?_cons_zero, List.getElem?_cons_succ]; rfl) (by kernel_rfl) (by kernel_rfl) (by kernel_rfl) (Or.inl ⟨by rfl, ?dy4⟩) ?dr4
  case dy4 => (intro w hSw; have hS0 := hSw; (try dsimp only [BS] at hSw); go_simp; refine Came.value ?_ hS0; with_reducible rfl)
  try simp only [Act.put, List.setIfInBounds_toArray, List.set_cons_zero, List.set_cons_succ]
  refine wpDet_take (i := 4) (oi := _) (v := ?dv5) (by simp only [List.getElem?_toArray, List.getElem?_cons_zero, List.getElem?_cons_succ]; rfl) (by kernel_rfl) (by kernel_rfl) (by kernel_rfl) (Or.inl ⟨by rfl, ?dy5⟩) ?dr5
  case dy5 => (intro w hSw; have hS0 := hSw; (try dsimp only [BS] at hSw); go_simp; refine Came.value ?_ hS0; with_reducible rfl)
  try simp only [Act.put, List.setIfInBounds_toArray, List.set_cons_zero, List.set_cons_succ]
  refine wpDet_take (i := 5) (oi := _) (v := ?dv6) (by simp only [List.getElem?_toArray, List.getElem?_cons_zero, List.getElem?_cons_succ]; rfl) (by kernel_rfl) (by kernel_rfl) (by kernel_rfl) (Or.inl ⟨by rfl, ?dy6⟩) ?dr6
  case dy6 => (intro w hSw; go_simp; exact Came.call ((HV.out w).mono fun e w' ⟨he, hf⟩ => ⟨he, hSw.fr hf⟩) (by with_reducible rfl))
  try simp only [Act.put, List.setIfInBounds_toArray, List.set_cons_zero, List.set_cons_succ]
  refine wpDet_take (i := 6) (oi := _) (v := ?dv7) (by simp only [List.getElem?_toArray, List.getElem?_cons_zero, List.getElem?_cons_succ]; rfl) (by kernel_rfl) (by kernel_rfl) (by kernel_rfl) (Or.inl ⟨by rfl, ?dy7⟩) ?dr7
  case dy7 => (intro w hSw; have hS0 := hSw; (try dsimp only [BS] at hSw); go_simp; refine Came.value ?_ hS0; with_reducible rfl)
  try simp only [Act.put, List.setIfInBounds_toArray, List.set_cons_zero, List.set_cons_succ]
  refine wpDet_done (by kernel_rfl) ?_ _
  rintro w1 ⟨hF, _, _⟩
  go_wp2
  go_ret
  exact ⟨rfl, hF⟩

set_option maxRecDepth 100000 in
theorem button_yes (p : Nat) (s : RS) (f d : Int) (k : Nat) (w : World) (hs : Rs w p s) (hn : s.n ≤ 64) (hk : Key s.n f d k) :
    Calls Tryd.prog 27 #[.pointer (some ⟨p, 0, none⟩), .agg #[.int .i64 f, .int .i64 d]] w fun e w' => e = .returned (.pointer (some ⟨p, 1 + 2 * k, none⟩)) ∧ Fr w w' [] := by
  have hv := may_any s.n hn f d
  rw [hk.may] at hv
  have HV := Lib.hid hv
  obtain ⟨hk1, hk2, hf, hd⟩ := hk
  obtain ⟨j, hj⟩ : ∃ j, j = k / 2 := ⟨_, rfl⟩
  rw [← hj] at hf
  subst hf
  have hj64 : j < 64 := by omega
  have HS := Lib.hid (BS.new (j : Int) d hs)
  rcases (by omega : k = 2 * j ∨ k = 2 * j + 1) with e | e
  · have hd' : d = -1 := by omega
    have HE := Lib.hid e
    subst hd'
    clear hs hv hk1 hk2 hj e hd
    go_enter Tryd.func27, Tryd.ntmps27
    go_wp2
    refine wp_region_det (S := BS w p w.heap.size s.n j (-1)) (by kernel_rfl) HS.out ?_
    refine wpDet_take (i := 0) (oi := _) (v := ?dv8) (by simp only [List.getElem?_toArray, List.getElem?_cons_zero]; rfl) (by kernel_rfl) (by kernel_rfl) (by kernel_rfl) (Or.inl ⟨by rfl, ?dy8⟩) ?dr8
    case dy8 => (intro w hSw; have hS0 := hSw; (try dsimp only [BS] at hSw); go_simp; refine Came.value ?_ hS0; with_reducible rfl)
    try simp only [Act.put, List.setIfInBounds_toArray, List.set_cons_zero, List.set_cons_succ]
    refine wpDet_take (i := 1) (oi := _) (v := ?dv9) (by simp only [List.getElem?_toArray, List.getElem?_cons_zero, List.getElem?_cons_succ]; rfl) (by kernel_rfl) (by kernel_rfl) (by kernel_rfl) (Or.inl ⟨by rfl, ?dy9⟩) ?dr9
    case dy9 => (intro w hSw; have hS0 := hSw; (try dsimp only [BS] at hSw); go_simp; refine Came.value ?_ hS0; with_reducible rfl)
    try simp only [Act.put, List.setIfInBounds_toArray, List.set_cons_zero, List.set_cons_succ]
    refine wpDet_take (i := 2) (oi := _) (v := ?dv10) (by simp only [List.getElem?_toArray, List.getElem?_cons_zero, List.getElem?_cons_succ]; rfl) (by kernel_rfl) (by kernel_rfl) (by kernel_rfl) (Or.inl ⟨by rfl, ?dy10⟩) ?dr10
    case dy10 => (intro w hSw; have hS0 := hSw; (try dsimp only [BS] at hSw); go_simp; refine Came.value ?_ hS0; with_reducible rfl)
    try simp only [Act.put, List.setIfInBounds_toArray, List.set_cons_zero, List.set_cons_succ]
    refine wpDet_take (i := 3) (oi := _) (v := ?dv11) (by simp only [List.getElem?_toArray, List.getElem?_cons_zero, List.getElem?_cons_succ]; rfl) (by kernel_rfl) (by kernel_rfl) (by kernel_rfl) (Or.inl ⟨by rfl, ?dy11⟩) ?dr11
    case dy11 => (intro w hSw; have hS0 := hSw; (try dsimp only [BS] at hSw); go_simp; refine Came.value ?_ hS0; with_reducible rfl)
    try simp only [Act.put, List.setIfInBounds_toArray, List.set_cons_zero, List.set_cons_succ]
    refine wpDet_take (i := 4) (oi := _) (v := ?dv12) (by simp only [List.getElem?_toArray, List.getElem?_cons_zero, List.getElem?_cons_succ]; rfl) (by kernel_rfl) (by kernel_rfl) (by kernel_rfl) (Or.inl ⟨by rfl, ?dy12⟩) ?dr12
    case dy12 => (intro w hSw; have hS0 := hSw; (try dsimp only [BS] at hSw); go_simp; refine Came.value ?_ hS0; with_reducible rfl)
    try simp only [Act.put, List.setIfInBounds_toArray, List.set_cons_zero, List.set_cons_succ]
    refine wpDet_take (i := 5) (oi := _) (v := ?dv13) (by simp only [List.getElem?_toArray, List.getElem?_cons_zero, List.getElem?_cons_succ]; rfl) (by kernel_rfl) (by kernel_rfl) (by kernel_rfl) (Or.inl ⟨by rfl, ?dy13⟩) ?dr13
    case dy13 => (intro w hSw; go_simp; exact Came.call ((HV.out w).mono fun e w' ⟨he, hf⟩ => ⟨he, hSw.fr hf⟩) (by with_reducible rfl))
    try simp only [Act.put, List.setIfInBounds_toArray, List.set_cons_zero, List.set_cons_succ]
    refine wpDet_take (i := 6) (oi := _) (v := ?dv14) (by simp only [List.getElem?_toArray, List.getElem?_cons_zero, List.getElem?_cons_succ]; rfl) (by kernel_rfl) (by kernel_rfl) (by kernel_rfl) (Or.inl ⟨by rfl, ?dy14⟩) ?dr14
    case dy14 => (intro w hSw; have hS0 := hSw; (try dsimp only [BS] at hSw); go_simp; refine Came.value ?_ hS0; with_reducible rfl)
    try simp only [Act.put, List.setIfInBounds_toArray, List.set_cons_zero, List.set_cons_succ]
    refine wpDet_done (by kernel_rfl) ?_ _
    rintro w1 ⟨hF, h0, h1, h2⟩
    have HF := Lib.hid hF
    clear hF
    go_wp2
    go_quiet (fail)
    go_wp2
    go_ret
    exact ⟨by rw [HE.out, show 1 + 2 * (2 * j) = 1 + j * 4 by omega]; rfl, HF.out.trans (Fr.drewN _ _ [])⟩
  · have hd' : d = 1 := by omega
    have HE := Lib.hid e
    subst hd'
    clear hs hv hk1 hk2 hj e hd
    go_enter Tryd.func27, Tryd.ntmps27
    go_wp2
    refine wp_region_det (S := BS w p w.heap.size s.n j 1) (by kernel_rfl) HS.out ?_
    refine wpDet_take (i := 0) (oi := _) (v := ?dv15) (by simp only [List.getElem?_toArray, List.getElem?_cons_zero]; rfl) (by kernel_rfl) (by kernel_rfl) (by kernel_rfl) (Or.inl ⟨by rfl, ?dy15⟩) ?dr15
    case dy15 => (intro w hSw; have hS0 := hSw; (try dsimp only [BS] at hSw); go_simp; refine Came.value ?_ hS0; with_reducible rfl)
    try simp only [Act.put, List.setIfInBounds_toArray, List.set_cons_zero, List.set_cons_succ]
    refine wpDet_take (i := 1) (oi := _) (v := ?dv16) (by simp only [List.getElem?_toArray, List.getElem?_cons_zero, List.getElem?_cons_succ]; rfl) (by kernel_rfl) (by kernel_rfl) (by kernel_rfl) (Or.inl ⟨by rfl, ?dy16⟩) ?dr16
    case dy16 => (intro w hSw; have hS0 := hSw; (try dsimp only [BS] at hSw); go_simp; refine Came.value ?_ hS0; with_reducible rfl)
    try simp only [Act.put, List.setIfInBounds_toArray, List.set_cons_zero, List.set_cons_succ]
    refine wpDet_take (i := 2) (oi := _) (v := ?dv17) (by simp only [List.getElem?_toArray, List.getElem?_cons_zero, List.getElem?_cons_succ]; rfl) (by kernel_rfl) (by kernel_rfl) (by kernel_rfl) (Or.inl ⟨by rfl, ?dy17⟩) ?dr17
    case dy17 => (intro w hSw; have hS0 := hSw; (try dsimp only [BS] at hSw); go_simp; refine Came.value ?_ hS0; with_reducible rfl)
    try simp only [Act.put, List.setIfInBounds_toArray, List.set_cons_zero, List.set_cons_succ]
    refine wpDet_take (i := 3) (oi := _) (v := ?dv18) (by simp only [List.getElem?_toArray, List.getElem?_cons_zero, List.getElem?_cons_succ]; rfl) (by kernel_rfl) (by kernel_rfl) (by kernel_rfl) (Or.inl ⟨by rfl, ?dy18⟩) ?dr18
    case dy18 => (intro w hSw; have hS0 := hSw; (try dsimp only [BS] at hSw); go_simp; refine Came.value ?_ hS0; with_reducible rfl)
    try simp only [Act.put, List.setIfInBounds_toArray, List.set_cons_zero, List.set_cons_succ]
    refine wpDet_take (i := 4) (oi := _) (v := ?dv19) (by simp only [List.getElem?_toArray, List.getElem?_cons_zero, List.getElem?_cons_succ]; rfl) (by kernel_rfl) (by kernel_rfl) (by kernel_rfl) (Or.inl ⟨by rfl, ?dy19⟩) ?dr19
    case dy19 => (intro w hSw; have hS0 := hSw; (try dsimp only [BS] at hSw); go_simp; refine Came.value ?_ hS0; with_reducible rfl)
    try simp only [Act.put, List.setIfInBounds_toArray, List.set_cons_zero, List.set_cons_succ]
    refine wpDet_take (i := 5) (oi := _) (v := ?dv20) (by simp only [List.getElem?_toArray, List.getElem?_cons_zero, List.getElem?_cons_succ]; rfl) (by kernel_rfl) (by kernel_rfl) (by kernel_rfl) (Or.inl ⟨by rfl, ?dy20⟩) ?dr20
    case dy20 => (intro w hSw; go_simp; exact Came.call ((HV.out w).mono fun e w' ⟨he, hf⟩ => ⟨he, hSw.fr hf⟩) (by with_reducible rfl))
    try simp only [Act.put, List.setIfInBounds_toArray, List.set_cons_zero, List.set_cons_succ]
    refine wpDet_take (i := 6) (oi := _) (v := ?dv21) (by simp only [List.getElem?_toArray, List.getElem?_cons_zero, List.getElem?_cons_succ]; rfl) (by kernel_rfl) (by kernel_rfl) (by kernel_rfl) (Or.inl ⟨by rfl, ?dy21⟩) ?dr21
    case dy21 => (intro w hSw; have hS0 := hSw; (try dsimp only [BS] at hSw); go_simp; refine Came.value ?_ hS0; with_reducible rfl)
    try simp only [Act.put, List.setIfInBounds_toArray, List.set_cons_zero, List.set_cons_succ]
    refine wpDet_done (by kernel_rfl) ?_ _
    rintro w1 ⟨hF, h0, h1, h2⟩
    have HF := Lib.hid hF
    clear hF
    go_wp2
    go_quiet (fail)
    go_wp2
    go_ret
    exact ⟨by rw [HE.out, show 1 + 2 * (2 * j + 1) = 1 + j * 4 + 2 by omega]; rfl, HF.out.trans (Fr.drewN _ _ [])⟩
end Go.Proofs.YtndjmpjgahmnoaaDoor
