/- What there is at a floor; above, below, toward; a call more. -/
import Derived.Test.YtgcgbiaigbblkaaDoorAhd
namespace Go.Proofs.YtgcgbiaigbblkaaDoor
open Go.RowKit

/-- The cells of a box of stops, in a world that came of W. -/
def SS (W : World) (b : Nat) (p u d : Nat) (a : World) : Prop := Fr W a [] ∧ a.cell? ⟨b, 0, none⟩ = some (.int .u64 p) ∧ a.cell? ⟨b, 1, none⟩ = some (.int .u64 u) ∧ a.cell? ⟨b, 2, none⟩ = some (.int .u64 d)
theorem SS.fr {W : World} {b : Nat} {p u d : Nat} {a a' : World} (h : SS W b p u d a) (k : Fr a a' []) : SS W b p u d a' := by
  obtain ⟨h0, h1, h2, h3⟩ := h
  exact ⟨h0.trans k, k.cell h1 (by simp), k.cell h2 (by simp), k.cell h3 (by simp)⟩
theorem SS.new (w : World) (T : TypeId) (p u d : Nat) : SS w w.heap.size p u d (w.alloc (.cells #[.int .u64 p, .int .u64 u, .int .u64 d] T)) :=
  ⟨Fr.alloc w _ [], arow (heap_alloc_new w _)⟩
/-- Is a floor's bit there? As the walk has it. -/
theorem and_ne (n : Nat) (z : Int) (b : Bool) (hn : n < 18446744073709551616) (hb : b = hasB n z) :
    bits .and .u64 (n : Int) ((oneN z : Nat) : Int) = ((n &&& oneN z : Nat) : Int) ∧ ((((n &&& oneN z : Nat) : Int)) != 0) = b := by
  refine ⟨bits_and_u64_nat _ _ hn (oneN_lt z), ?_⟩
  have := and_one n hn z
  rw [hb]
  cases h : hasB n z
  · rw [h] at this
    have : n &&& oneN z = 0 := Decidable.not_not.1 (fun e => by simpa using this.1 e)
    rw [this]; rfl
  · have := this.2 h
    simp
    omega

theorem at_any (s : Sp) (z : Int) (w : World) (h : s.ok) (b : Bool) (hb : b = hasB s.c z) : Calls Tryd.prog 17 #[s.v, .int .i64 z] w fun e w' => e = .returned (.bool b) ∧ Fr w w' [] := by
  have BI := Lib.hid (fun W => bit_any z W)
  obtain ⟨E1, E2⟩ := and_ne s.c z b h.c hb
  obtain ⟨p, u, d⟩ := s
  have HS := Lib.hid ((SS.new w 37 p u d).fr (Fr.drew _ []))
  clear hb h
  generalize oneN z = o at *
  dsimp only [Sp.v, Sp.box] at *
  go_enter Tryd.func17, Tryd.ntmps17
  go_wp2
  refine wp_region_det (S := SS w w.heap.size p u d) (by kernel_rfl) HS.out ?_
  refine wpDet_take (i := 0) (oi := _) (v := ?dv1) (by simp only [List.getElem?_toArray, List.getElem?_cons_zero]; rfl) (by kernel_rfl) (by kernel_rfl) (by kernel_rfl) (Or.inl ⟨by rfl, ?dy1⟩) ?dr1
  case dy1 => (intro w hSw; have hS0 := hSw; (try dsimp only [SS] at hSw); go_simp; refine Came.value ?_ hS0; with_reducible rfl)
  try simp only [Act.put, List.setIfInBounds_toArray, List.set_cons_zero, List.set_cons_succ]
  refine wpDet_take (i := 1) (oi := _) (v := ?dv2) (by simp only [List.getElem?_toArray, List.getElem?_cons_zero, List.getElem?_cons_succ]; rfl) (by kernel_rfl) (by kernel_rfl) (by kernel_rfl) (Or.inl ⟨by rfl, ?dy2⟩) ?dr2
  case dy2 => (intro w hSw; have hS0 := hSw; (try dsimp only [SS] at hSw); go_simp; refine Came.value ?_ hS0; with_reducible rfl)
  try simp only [Act.put, List.setIfInBounds_toArray, List.set_cons_zero, List.set_cons_succ]
  refine wpDet_take (i := 2) (oi := _) (v := ?dv3) (by simp only [List.getElem?_toArray, List.getElem?_cons_zero, List.getElem?_cons_succ]; rfl) (by kernel_rfl) (by kernel_rfl) (by kernel_rfl) (Or.inl ⟨by rfl, ?dy3⟩) ?dr3
  case dy3 => (intro w hSw; have hS0 := hSw; (try dsimp only [SS] at hSw); go_simp; refine Came.value ?_ hS0; with_reducible rfl)
  try simp only [Act.put, List.setIfInBounds_toArray, List.set_cons_zero, List.set_cons_succ]
  refine wpDet_take (i := 3) (oi := _) (v := ?dv4) (by simp only [List.getElem?_toArray, List.getElem?_cons_zero, List.getElem?_cons_succ]; rfl) (by kernel_rfl) (by kernel_rfl) (by kernel_rfl) (Or.inl ⟨by rfl, ?dy4⟩) ?dr4
  case dy4 => (intro w hSw; go_simp; exact Came.call ((BI.out w).mono fun e w' ⟨he, hw⟩ => ⟨he, hw ▸ hSw⟩) (by with_reducible rfl))
  try simp only [Act.put, List.setIfInBounds_toArray, List.set_cons_zero, List.set_cons_succ]
  refine wpDet_take (i := 4) (oi := _) (v := ?dv5) (by simp only [List.getElem?_toArray, List.getElem?_cons_zero, List.getElem?_cons_succ]; rfl) (by kernel_rfl) (by kernel_rfl) (by kernel_rfl) (Or.inl ⟨by rfl, ?dy5⟩) ?dr5
  case dy5 => (intro w hSw; have hS0 := hSw; (try dsimp only [SS] at hSw); go_simp; refine Came.value ?_ hS0; with_reducible rfl)
  try simp only [Act.put, List.setIfInBounds_toArray, List.set_cons_zero, List.set_cons_succ]
  refine wpDet_take (i := 5) (oi := _) (v := ?dv6) (by simp only [List.getElem?_toArray, List.getElem?_cons_zero, List.getElem?_cons_succ]; rfl) (by kernel_rfl) (by kernel_rfl) (by kernel_rfl) (Or.inl ⟨by rfl, ?dy6⟩) ?dr6
  case dy6 => (intro w hSw; have hS0 := hSw; (try dsimp only [SS] at hSw); go_simp; refine Came.value ?_ hS0; with_reducible rfl)
  try simp only [Act.put, List.setIfInBounds_toArray, List.set_cons_zero, List.set_cons_succ]
  refine wpDet_take (i := 6) (oi := _) (v := ?dv7) (by simp only [List.getElem?_toArray, List.getElem?_cons_zero, List.getElem?_cons_succ]; rfl) (by kernel_rfl) (by kernel_rfl) (by kernel_rfl) (Or.inl ⟨by rfl, ?dy7⟩) ?dr7
  case dy7 => (intro w hSw; have hS0 := hSw; (try dsimp only [SS] at hSw); go_simp; refine Came.value ?_ hS0; with_reducible rfl)
  try simp only [Act.put, List.setIfInBounds_toArray, List.set_cons_zero, List.set_cons_succ]
  refine wpDet_done (by kernel_rfl) ?_ _
  rintro w3 ⟨hF, _⟩
  go_wp2
  go_ret
  exact ⟨rfl, hF⟩
/-- Is there that hall call? -/
def Sp.hall (s : Sp) (z e : Int) : Bool := if e = 1 then hasB s.u z else if e = -1 then hasB s.d z else false
theorem hall_any (s : Sp) (z e : Int) (w : World) (h : s.ok) (b : Bool) (hb : b = s.hall z e) : Calls Tryd.prog 18 #[s.v, .int .i64 z, .int .i64 e] w fun e w' => e = .returned (.bool b) ∧ Fr w w' [] := by
  have BI := Lib.hid (fun W => bit_any z W)
  obtain ⟨p, u, d⟩ := s
  by_cases h1 : e = 1
  · obtain ⟨E1, E2⟩ := and_ne u z b h.u (by rw [hb, Sp.hall, if_pos h1])
    have HS := Lib.hid ((SS.new w 37 p u d).fr (Fr.drew _ []))
    subst h1
    clear hb h
    generalize oneN z = o at *
    dsimp only [Sp.v, Sp.box] at *
    go_enter Tryd.func18, Tryd.ntmps18
    go_wp2
    refine wp_region_det (S := SS w w.heap.size p u d) (by kernel_rfl) HS.out ?_
    refine wpDet_take (i := 0) (oi := _) (v := ?dv8) (by simp only [List.getElem?_toArray, List.getElem?_cons_zero]; rfl) (by kernel_rfl) (by kernel_rfl) (by kernel_rfl) (Or.inl ⟨by rfl, ?dy8⟩) ?dr8
    case dy8 => (intro w hSw; have hS0 := hSw; (try dsimp only [SS] at hSw); go_simp; refine Came.value ?_ hS0; with_reducible rfl)
    try simp only [Act.put, List.setIfInBounds_toArray, List.set_cons_zero, List.set_cons_succ]
    refine wpDet_take (i := 1) (oi := _) (v := ?dv9) (by simp only [List.getElem?_toArray, List.getElem?_cons_zero, List.getElem?_cons_succ]; rfl) (by kernel_rfl) (by kernel_rfl) (by kernel_rfl) (Or.inl ⟨by rfl, ?dy9⟩) ?dr9
    case dy9 => (intro w hSw; have hS0 := hSw; (try dsimp only [SS] at hSw); go_simp; refine Came.value ?_ hS0; with_reducible rfl)
    try simp only [Act.put, List.setIfInBounds_toArray, List.set_cons_zero, List.set_cons_succ]
    refine wpDet_take (i := 2) (oi := _) (v := ?dv10) (by simp only [List.getElem?_toArray, List.getElem?_cons_zero, List.getElem?_cons_succ]; rfl) (by kernel_rfl) (by kernel_rfl) (by kernel_rfl) (Or.inl ⟨by rfl, ?dy10⟩) ?dr10
    case dy10 => (intro w hSw; have hS0 := hSw; (try dsimp only [SS] at hSw); go_simp; refine Came.value ?_ hS0; with_reducible rfl)
    try simp only [Act.put, List.setIfInBounds_toArray, List.set_cons_zero, List.set_cons_succ]
    refine wpDet_take (i := 3) (oi := _) (v := ?dv11) (by simp only [List.getElem?_toArray, List.getElem?_cons_zero, List.getElem?_cons_succ]; rfl) (by kernel_rfl) (by kernel_rfl) (by kernel_rfl) (Or.inl ⟨by rfl, ?dy11⟩) ?dr11
    case dy11 => (intro w hSw; go_simp; exact Came.call ((BI.out w).mono fun e w' ⟨he, hw⟩ => ⟨he, hw ▸ hSw⟩) (by with_reducible rfl))
    try simp only [Act.put, List.setIfInBounds_toArray, List.set_cons_zero, List.set_cons_succ]
    refine wpDet_take (i := 4) (oi := _) (v := ?dv12) (by simp only [List.getElem?_toArray, List.getElem?_cons_zero, List.getElem?_cons_succ]; rfl) (by kernel_rfl) (by kernel_rfl) (by kernel_rfl) (Or.inl ⟨by rfl, ?dy12⟩) ?dr12
    case dy12 => (intro w hSw; have hS0 := hSw; (try dsimp only [SS] at hSw); go_simp; refine Came.value ?_ hS0; with_reducible rfl)
    try simp only [Act.put, List.setIfInBounds_toArray, List.set_cons_zero, List.set_cons_succ]
    refine wpDet_take (i := 5) (oi := _) (v := ?dv13) (by simp only [List.getElem?_toArray, List.getElem?_cons_zero, List.getElem?_cons_succ]; rfl) (by kernel_rfl) (by kernel_rfl) (by kernel_rfl) (Or.inl ⟨by rfl, ?dy13⟩) ?dr13
    case dy13 => (intro w hSw; have hS0 := hSw; (try dsimp only [SS] at hSw); go_simp; refine Came.value ?_ hS0; with_reducible rfl)
    try simp only [Act.put, List.setIfInBounds_toArray, List.set_cons_zero, List.set_cons_succ]
    refine wpDet_take (i := 6) (oi := _) (v := ?dv14) (by simp only [List.getElem?_toArray, List.getElem?_cons_zero, List.getElem?_cons_succ]; rfl) (by kernel_rfl) (by kernel_rfl) (by kernel_rfl) (Or.inl ⟨by rfl, ?dy14⟩) ?dr14
    case dy14 => (intro w hSw; have hS0 := hSw; (try dsimp only [SS] at hSw); go_simp; refine Came.value ?_ hS0; with_reducible rfl)
    try simp only [Act.put, List.setIfInBounds_toArray, List.set_cons_zero, List.set_cons_succ]
    refine wpDet_done (by kernel_rfl) ?_ _
    rintro w3 ⟨hF, _⟩
    go_wp2
    go_ret
    exact ⟨rfl, hF⟩
  · by_cases h2 : e = -1
    · obtain ⟨E1, E2⟩ := and_ne d z b h.d (by rw [hb, Sp.hall, if_neg h1, if_pos h2])
      have HS := Lib.hid ((SS.new w 37 p u d).fr (Fr.drew _ []))
      subst h2
      clear hb h h1
      generalize oneN z = o at *
      dsimp only [Sp.v, Sp.box] at *
      go_enter Tryd.func18, Tryd.ntmps18
      go_wp2
      refine wp_region_det (S := SS w w.heap.size p u d) (by kernel_rfl) HS.out ?_
      refine wpDet_take (i := 0) (oi := _) (v := ?dv15) (by simp only [List.getElem?_toArray, List.getElem?_cons_zero]; rfl) (by kernel_rfl) (by kernel_rfl) (by kernel_rfl) (Or.inl ⟨by rfl, ?dy15⟩) ?dr15
      case dy15 => (intro w hSw; have hS0 := hSw; (try dsimp only [SS] at hSw); go_simp; refine Came.value ?_ hS0; with_reducible rfl)
      try simp only [Act.put, List.setIfInBounds_toArray, List.set_cons_zero, List.set_cons_succ]
      refine wpDet_take (i := 1) (oi := _) (v := ?dv16) (by simp only [List.getElem?_toArray, List.getElem?_cons_zero, List.getElem?_cons_succ]; rfl) (by kernel_rfl) (by kernel_rfl) (by kernel_rfl) (Or.inl ⟨by rfl, ?dy16⟩) ?dr16
      case dy16 => (intro w hSw; have hS0 := hSw; (try dsimp only [SS] at hSw); go_simp; refine Came.value ?_ hS0; with_reducible rfl)
      try simp only [Act.put, List.setIfInBounds_toArray, List.set_cons_zero, List.set_cons_succ]
      refine wpDet_take (i := 2) (oi := _) (v := ?dv17) (by simp only [List.getElem?_toArray, List.getElem?_cons_zero, List.getElem?_cons_succ]; rfl) (by kernel_rfl) (by kernel_rfl) (by kernel_rfl) (Or.inl ⟨by rfl, ?dy17⟩) ?dr17
      case dy17 => (intro w hSw; have hS0 := hSw; (try dsimp only [SS] at hSw); go_simp; refine Came.value ?_ hS0; with_reducible rfl)
      try simp only [Act.put, List.setIfInBounds_toArray, List.set_cons_zero, List.set_cons_succ]
      refine wpDet_take (i := 3) (oi := _) (v := ?dv18) (by simp only [List.getElem?_toArray, List.getElem?_cons_zero, List.getElem?_cons_succ]; rfl) (by kernel_rfl) (by kernel_rfl) (by kernel_rfl) (Or.inl ⟨by rfl, ?dy18⟩) ?dr18
      case dy18 => (intro w hSw; go_simp; exact Came.call ((BI.out w).mono fun e w' ⟨he, hw⟩ => ⟨he, hw ▸ hSw⟩) (by with_reducible rfl))
      try simp only [Act.put, List.setIfInBounds_toArray, List.set_cons_zero, List.set_cons_succ]
      refine wpDet_take (i := 4) (oi := _) (v := ?dv19) (by simp only [List.getElem?_toArray, List.getElem?_cons_zero, List.getElem?_cons_succ]; rfl) (by kernel_rfl) (by kernel_rfl) (by kernel_rfl) (Or.inl ⟨by rfl, ?dy19⟩) ?dr19
      case dy19 => (intro w hSw; have hS0 := hSw; (try dsimp only [SS] at hSw); go_simp; refine Came.value ?_ hS0; with_reducible rfl)
      try simp only [Act.put, List.setIfInBounds_toArray, List.set_cons_zero, List.set_cons_succ]
      refine wpDet_take (i := 5) (oi := _) (v := ?dv20) (by simp only [List.getElem?_toArray, List.getElem?_cons_zero, List.getElem?_cons_succ]; rfl) (by kernel_rfl) (by kernel_rfl) (by kernel_rfl) (Or.inl ⟨by rfl, ?dy20⟩) ?dr20
      case dy20 => (intro w hSw; have hS0 := hSw; (try dsimp only [SS] at hSw); go_simp; refine Came.value ?_ hS0; with_reducible rfl)
      try simp only [Act.put, List.setIfInBounds_toArray, List.set_cons_zero, List.set_cons_succ]
      refine wpDet_take (i := 6) (oi := _) (v := ?dv21) (by simp only [List.getElem?_toArray, List.getElem?_cons_zero, List.getElem?_cons_succ]; rfl) (by kernel_rfl) (by kernel_rfl) (by kernel_rfl) (Or.inl ⟨by rfl, ?dy21⟩) ?dr21
      case dy21 => (intro w hSw; have hS0 := hSw; (try dsimp only [SS] at hSw); go_simp; refine Came.value ?_ hS0; with_reducible rfl)
      try simp only [Act.put, List.setIfInBounds_toArray, List.set_cons_zero, List.set_cons_succ]
      refine wpDet_done (by kernel_rfl) ?_ _
      rintro w3 ⟨hF, _⟩
      go_wp2
      go_ret
      exact ⟨rfl, hF⟩
    · have HR : Hid (b = false) := by show _ = _; rw [hb, Sp.hall, if_neg h1, if_neg h2]
      have FA := Lib.hid (Fr.alloc w (.cells #[.int .u64 p, .int .u64 u, .int .u64 d] 37) [])
      have e1 : (e == 1) = false := by simp [h1]
      have e2 : (e == -1) = false := by simp [h2]
      clear hb h h1 h2
      dsimp only [Sp.v, Sp.box] at *
      go_enter Tryd.func18, Tryd.ntmps18
      go_wp2
      go_ret
      exact ⟨by rw [HR.out]; rfl, FA.out⟩

/-- With a call more. -/
def Sp.put (s : Sp) (f e : Int) : Sp := if e = 1 then ⟨s.c, s.u ||| oneN f, s.d⟩ else if e = -1 then ⟨s.c, s.u, s.d ||| oneN f⟩ else s
theorem Sp.put_ok {s : Sp} (h : s.ok) (f e : Int) : (s.put f e).ok := by
  unfold Sp.put
  split
  · exact ⟨h.c, or_lt h.u (oneN_lt f), h.d⟩
  · split
    · exact ⟨h.c, h.u, or_lt h.d (oneN_lt f)⟩
    · exact h
theorem aset {w : World} {g : Nat} {a b c : Value} {T : TypeId} (h : w.heap[g]? = some (.cells #[a, b, c] T (0, 0))) (x y z : Value) :
    (((w.setCell ⟨g, 0, none⟩ x).setCell ⟨g, 1, none⟩ y).setCell ⟨g, 2, none⟩ z).heap[g]? = some (.cells #[x, y, z] T (0, 0)) := by
  have h1 : (w.setCell ⟨g, 0, none⟩ x).heap[g]? = some (.cells #[x, b, c] T (0, 0)) := by rw [heap_setCell_same _ g 0 _ _ _ h]; rfl
  have h2 : ((w.setCell ⟨g, 0, none⟩ x).setCell ⟨g, 1, none⟩ y).heap[g]? = some (.cells #[x, y, c] T (0, 0)) := by rw [heap_setCell_same _ g 1 _ _ _ h1]; rfl
  rw [heap_setCell_same _ g 2 _ _ _ h2]; rfl
theorem aset_fr (w : World) (g : Nat) (x y z : Value) : Fr w (((w.setCell ⟨g, 0, none⟩ x).setCell ⟨g, 1, none⟩ y).setCell ⟨g, 2, none⟩ z) [g] :=
  ((Fr.setCell w g 0 x (S := [g]) (by simp)).trans (Fr.setCell _ g 1 y (S := [g]) (by simp))).trans (Fr.setCell _ g 2 z (S := [g]) (by simp))

theorem aboveB_any (s : Sp) (z : Int) (w : World) (h : s.ok) (b : Bool) (hb : b = true ↔ ∃ y, z < y ∧ hasB s.all y = true) : Calls Tryd.prog 57 #[s.v, .int .i64 z] w fun e w' => e = .returned (.bool b) ∧ Fr w w' [] := by
  obtain ⟨c, hc⟩ : ∃ c, c = min (max z (-1)) 64 := ⟨_, rfl⟩
  obtain ⟨r, hr⟩ : ∃ r, r = upN s.all c := ⟨_, rfl⟩
  have AB := Lib.hid (fun W => above_any s z W h c hc r hr)
  have HR : ((r : Int) != 0) = b := by
    have k := upN_some (n := s.all) (c := c) (by omega)
    rw [← hr] at k
    have e : r ≠ 0 ↔ b = true := k.trans (Iff.trans ⟨fun ⟨y, a, q⟩ => ⟨y, ((near_cut h.all hc y q).1).2 a, q⟩, fun ⟨y, a, q⟩ => ⟨y, ((near_cut h.all hc y q).1).1 a, q⟩⟩ hb.symm)
    cases b
    · have : r = 0 := Decidable.not_not.1 (fun a => by simpa using e.1 a)
      rw [this]; rfl
    · have := e.2 rfl
      simp
      omega
  clear hb hc hr h
  obtain ⟨p, u, d⟩ := s
  have FA := Lib.hid (Fr.alloc w (.cells #[.int .u64 p, .int .u64 u, .int .u64 d] 37) [])
  dsimp only [Sp.v, Sp.box] at *
  go_enter Tryd.func57, Tryd.ntmps57
  go_wp2_with fail
  with_reducible refine (AB.out _).mono ?_
  rintro e w2 ⟨rfl, hf⟩
  have F2 := Lib.hid (FA.out.trans hf)
  clear hf
  go_wp2
  go_ret
  exact ⟨rfl, F2.out⟩
theorem belowB_any (s : Sp) (z : Int) (w : World) (h : s.ok) (b : Bool) (hb : b = true ↔ ∃ y, y < z ∧ hasB s.all y = true) : Calls Tryd.prog 58 #[s.v, .int .i64 z] w fun e w' => e = .returned (.bool b) ∧ Fr w w' [] := by
  obtain ⟨c, hc⟩ : ∃ c, c = min (max z (-1)) 64 := ⟨_, rfl⟩
  obtain ⟨r, hr⟩ : ∃ r, r = dnN s.all c := ⟨_, rfl⟩
  have AB := Lib.hid (fun W => below_any s z W h c hc r hr)
  have HR : ((r : Int) != 0) = b := by
    have k := dnN_some (n := s.all) (c := c) (by omega)
    rw [← hr] at k
    have e : r ≠ 0 ↔ b = true := k.trans (Iff.trans ⟨fun ⟨y, a, q⟩ => ⟨y, ((near_cut h.all hc y q).2).2 a, q⟩, fun ⟨y, a, q⟩ => ⟨y, ((near_cut h.all hc y q).2).1 a, q⟩⟩ hb.symm)
    cases b
    · have : r = 0 := Decidable.not_not.1 (fun a => by simpa using e.1 a)
      rw [this]; rfl
    · have := e.2 rfl
      simp
      omega
  clear hb hc hr h
  obtain ⟨p, u, d⟩ := s
  have FA := Lib.hid (Fr.alloc w (.cells #[.int .u64 p, .int .u64 u, .int .u64 d] 37) [])
  dsimp only [Sp.v, Sp.box] at *
  go_enter Tryd.func58, Tryd.ntmps58
  go_wp2_with fail
  with_reducible refine (AB.out _).mono ?_
  rintro e w2 ⟨rfl, hf⟩
  have F2 := Lib.hid (FA.out.trans hf)
  clear hf
  go_wp2
  go_ret
  exact ⟨rfl, F2.out⟩
end Go.Proofs.YtgcgbiaigbblkaaDoor
