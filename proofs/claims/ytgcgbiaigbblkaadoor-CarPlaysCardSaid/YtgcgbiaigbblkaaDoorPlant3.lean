/- Whether a state may be: Right. -/
import Derived.Test.YtgcgbiaigbblkaaDoorPlant2
namespace Go.Proofs.YtgcgbiaigbblkaaDoor
open Go.RowKit

/-- A state by value. -/
structure St where
  p : Int
  e : Int
  o : Int
  r : Bool
abbrev St.v (x : St) : Value := .agg #[.int .i64 x.p, .int .i64 x.e, .int .i64 x.o, .bool x.r]
abbrev St.box (x : St) : Obj := .cells #[.int .i64 x.p, .int .i64 x.e, .int .i64 x.o, .bool x.r] 28
def SB (w : World) (b : Nat) (x : St) : Prop := w.heap[b]? = some x.box
theorem SB.fr {w w' : World} {b : Nat} {x : St} (k : SB w b x) (hf : Fr w w' []) : SB w' b x := hf.heap k (by simp)
theorem SB.new (w : World) (x : St) : SB (w.alloc x.box) w.heap.size x := heap_alloc_new w _
theorem SB.cells {w : World} {b : Nat} {x : St} (k : SB w b x) : w.cell? ⟨b, 0, none⟩ = some (.int .i64 x.p) ∧ w.cell? ⟨b, 1, none⟩ = some (.int .i64 x.e) ∧ w.cell? ⟨b, 2, none⟩ = some (.int .i64 x.o) ∧ w.cell? ⟨b, 3, none⟩ = some (.bool x.r) := hrow k
/-- A house and a state, boxed one behind the other. -/
theorem two_box (w : World) (h : Ho) (x : St) : Fr w ((w.alloc h.box).alloc x.box) [] ∧ HB ((w.alloc h.box).alloc x.box) w.heap.size h ∧ SB ((w.alloc h.box).alloc x.box) (w.heap.size + 1) x := by
  refine ⟨(Fr.alloc _ _ []).trans (Fr.alloc _ _ []), (HB.new w h).fr (Fr.alloc _ _ []), ?_⟩
  have := SB.new (w.alloc h.box) x
  rwa [show (w.alloc h.box).heap.size = w.heap.size + 1 by simp] at this
/-- May a state be? -/
def Ho.may (h : Ho) (x : St) : Bool := decide (h.has x.p) && (decide (-1 ≤ x.e ∧ x.e ≤ 1) && (decide (0 ≤ x.o ∧ x.o ≤ h.d) && (if 0 < x.o then decide (h.lev x.p) && !x.r else decide (h.lev x.p) || (decide (x.e ≠ 0) || x.r))))
set_option maxRecDepth 100000 in
theorem right_any (h : Ho) (x : St) (w : World) (b : Bool) (hb : b = h.may x) : Calls Tryd.prog 36 #[h.v, x.v] w fun e w' => e = .returned (.bool b) ∧ Fr w w' [] := by
  have TB := Lib.hid (two_box w h x)
  obtain ⟨bi, ei⟩ : ∃ y, y = decide (h.has x.p) := ⟨_, rfl⟩
  obtain ⟨be, ee⟩ : ∃ y, y = decide (-1 ≤ x.e ∧ x.e ≤ 1) := ⟨_, rfl⟩
  obtain ⟨bo, eo⟩ : ∃ y, y = decide (0 ≤ x.o ∧ x.o ≤ h.d) := ⟨_, rfl⟩
  obtain ⟨bl, el⟩ : ∃ y, y = decide (h.lev x.p) := ⟨_, rfl⟩
  have HV0 := Lib.hid (show b = (bi && (be && (bo && (if 0 < x.o then bl && !x.r else bl || (decide (x.e ≠ 0) || x.r))))) by rw [hb, Ho.may, ei, ee, eo, el])
  have I := Lib.hid (fun W => inside_any h x.p W bi ei)
  have E := Lib.hid (fun W => within_any x.e (-1) 1 W be ee)
  have O := Lib.hid (fun W => within_any x.o 0 h.d W bo eo)
  have L := Lib.hid (fun W => level_any h x.p W bl el)
  clear hb ei ee eo el
  obtain ⟨c, f, s, d⟩ := h
  obtain ⟨xp, xe, xo, xr⟩ := x
  have HV := Lib.hid (show b = (bi && (be && (bo && (if 0 < xo then bl && !xr else bl || (decide (xe ≠ 0) || xr))))) from HV0.out)
  clear HV0
  dsimp only [Ho.v, Ho.box, St.v, St.box] at *
  cases bi with
  | false =>
    have HR : Hid (b = false) := by show _ = _; rw [HV.out]; simp [*]
    clear HV
    go_enter Tryd.func36, Tryd.ntmps36
    go_wp2_with fail
    with_reducible refine (I.out _).mono ?_
    rintro e2 w2 ⟨rfl, hf⟩
    have F2 := Lib.hid (TB.out.1.trans hf)
    have HB2 := Lib.hid (TB.out.2.1.fr hf)
    have SB2 := Lib.hid (TB.out.2.2.fr hf)
    clear hf
    obtain ⟨c0, c1, c2, c3⟩ := HB2.out.cells
    obtain ⟨s0, s1, s2, s3⟩ := SB2.out.cells
    dsimp only at c0 c1 c2 c3 s0 s1 s2 s3
    go_wp2
    go_ret
    exact ⟨by rw [HR.out]; rfl, F2.out⟩
  | true =>
    cases be with
    | false =>
      have HR : Hid (b = false) := by show _ = _; rw [HV.out]; simp [*]
      clear HV
      go_enter Tryd.func36, Tryd.ntmps36
      go_wp2_with fail
      with_reducible refine (I.out _).mono ?_
      rintro e2 w2 ⟨rfl, hf⟩
      have F2 := Lib.hid (TB.out.1.trans hf)
      have HB2 := Lib.hid (TB.out.2.1.fr hf)
      have SB2 := Lib.hid (TB.out.2.2.fr hf)
      clear hf
      obtain ⟨c0, c1, c2, c3⟩ := HB2.out.cells
      obtain ⟨s0, s1, s2, s3⟩ := SB2.out.cells
      dsimp only at c0 c1 c2 c3 s0 s1 s2 s3
      go_wp2_with fail
      with_reducible refine (E.out _).mono ?_
      rintro e2 w3 ⟨rfl, rfl⟩
      go_wp2
      go_ret
      exact ⟨by rw [HR.out]; rfl, F2.out⟩
    | true =>
      cases bo with
      | false =>
        have HR : Hid (b = false) := by show _ = _; rw [HV.out]; simp [*]
        clear HV
        go_enter Tryd.func36, Tryd.ntmps36
        go_wp2_with fail
        with_reducible refine (I.out _).mono ?_
        rintro e2 w2 ⟨rfl, hf⟩
        have F2 := Lib.hid (TB.out.1.trans hf)
        have HB2 := Lib.hid (TB.out.2.1.fr hf)
        have SB2 := Lib.hid (TB.out.2.2.fr hf)
        clear hf
        obtain ⟨c0, c1, c2, c3⟩ := HB2.out.cells
        obtain ⟨s0, s1, s2, s3⟩ := SB2.out.cells
        dsimp only at c0 c1 c2 c3 s0 s1 s2 s3
        go_wp2_with fail
        with_reducible refine (E.out _).mono ?_
        rintro e2 w3 ⟨rfl, rfl⟩
        go_wp2_with fail
        with_reducible refine (O.out _).mono ?_
        rintro e2 w3 ⟨rfl, rfl⟩
        go_wp2
        go_ret
        exact ⟨by rw [HR.out]; rfl, F2.out⟩
      | true =>
        by_cases ho : 0 < xo
        · cases bl with
          | false =>
            have HR : Hid (b = false) := by show _ = _; rw [HV.out]; simp [*]
            clear HV
            go_enter Tryd.func36, Tryd.ntmps36
            go_wp2_with fail
            with_reducible refine (I.out _).mono ?_
            rintro e2 w2 ⟨rfl, hf⟩
            have F2 := Lib.hid (TB.out.1.trans hf)
            have HB2 := Lib.hid (TB.out.2.1.fr hf)
            have SB2 := Lib.hid (TB.out.2.2.fr hf)
            clear hf
            obtain ⟨c0, c1, c2, c3⟩ := HB2.out.cells
            obtain ⟨s0, s1, s2, s3⟩ := SB2.out.cells
            dsimp only at c0 c1 c2 c3 s0 s1 s2 s3
            go_wp2_with fail
            with_reducible refine (E.out _).mono ?_
            rintro e2 w3 ⟨rfl, rfl⟩
            go_wp2_with fail
            with_reducible refine (O.out _).mono ?_
            rintro e2 w3 ⟨rfl, rfl⟩
            go_wp2_with fail
            with_reducible refine (L.out _).mono ?_
            rintro e2 w3 ⟨rfl, hf⟩
            have F3 := Lib.hid (F2.out.trans hf)
            have SB3 := Lib.hid (SB2.out.fr hf)
            clear hf s0 s1 s2 s3 c0 c1 c2 c3
            obtain ⟨s0, s1, s2, s3⟩ := SB3.out.cells
            dsimp only at s0 s1 s2 s3
            go_wp2
            go_ret
            exact ⟨by rw [HR.out]; rfl, F3.out⟩
          | true =>
            cases xr with
            | false =>
              have HR : Hid (b = true) := by show _ = _; rw [HV.out]; simp [*]
              clear HV
              go_enter Tryd.func36, Tryd.ntmps36
              go_wp2_with fail
              with_reducible refine (I.out _).mono ?_
              rintro e2 w2 ⟨rfl, hf⟩
              have F2 := Lib.hid (TB.out.1.trans hf)
              have HB2 := Lib.hid (TB.out.2.1.fr hf)
              have SB2 := Lib.hid (TB.out.2.2.fr hf)
              clear hf
              obtain ⟨c0, c1, c2, c3⟩ := HB2.out.cells
              obtain ⟨s0, s1, s2, s3⟩ := SB2.out.cells
              dsimp only at c0 c1 c2 c3 s0 s1 s2 s3
              go_wp2_with fail
              with_reducible refine (E.out _).mono ?_
              rintro e2 w3 ⟨rfl, rfl⟩
              go_wp2_with fail
              with_reducible refine (O.out _).mono ?_
              rintro e2 w3 ⟨rfl, rfl⟩
              go_wp2_with fail
              with_reducible refine (L.out _).mono ?_
              rintro e2 w3 ⟨rfl, hf⟩
              have F3 := Lib.hid (F2.out.trans hf)
              have SB3 := Lib.hid (SB2.out.fr hf)
              clear hf s0 s1 s2 s3 c0 c1 c2 c3
              obtain ⟨s0, s1, s2, s3⟩ := SB3.out.cells
              dsimp only at s0 s1 s2 s3
              go_wp2
              go_ret
              exact ⟨by rw [HR.out]; rfl, F3.out⟩
            | true =>
              have HR : Hid (b = false) := by show _ = _; rw [HV.out]; simp [*]
              clear HV
              go_enter Tryd.func36, Tryd.ntmps36
              go_wp2_with fail
              with_reducible refine (I.out _).mono ?_
              rintro e2 w2 ⟨rfl, hf⟩
              have F2 := Lib.hid (TB.out.1.trans hf)
              have HB2 := Lib.hid (TB.out.2.1.fr hf)
              have SB2 := Lib.hid (TB.out.2.2.fr hf)
              clear hf
              obtain ⟨c0, c1, c2, c3⟩ := HB2.out.cells
              obtain ⟨s0, s1, s2, s3⟩ := SB2.out.cells
              dsimp only at c0 c1 c2 c3 s0 s1 s2 s3
              go_wp2_with fail
              with_reducible refine (E.out _).mono ?_
              rintro e2 w3 ⟨rfl, rfl⟩
              go_wp2_with fail
              with_reducible refine (O.out _).mono ?_
              rintro e2 w3 ⟨rfl, rfl⟩
              go_wp2_with fail
              with_reducible refine (L.out _).mono ?_
              rintro e2 w3 ⟨rfl, hf⟩
              have F3 := Lib.hid (F2.out.trans hf)
              have SB3 := Lib.hid (SB2.out.fr hf)
              clear hf s0 s1 s2 s3 c0 c1 c2 c3
              obtain ⟨s0, s1, s2, s3⟩ := SB3.out.cells
              dsimp only at s0 s1 s2 s3
              go_wp2
              go_ret
              exact ⟨by rw [HR.out]; rfl, F3.out⟩
        · cases bl with
          | true =>
            have HR : Hid (b = true) := by show _ = _; rw [HV.out]; simp [*]
            clear HV
            go_enter Tryd.func36, Tryd.ntmps36
            go_wp2_with fail
            with_reducible refine (I.out _).mono ?_
            rintro e2 w2 ⟨rfl, hf⟩
            have F2 := Lib.hid (TB.out.1.trans hf)
            have HB2 := Lib.hid (TB.out.2.1.fr hf)
            have SB2 := Lib.hid (TB.out.2.2.fr hf)
            clear hf
            obtain ⟨c0, c1, c2, c3⟩ := HB2.out.cells
            obtain ⟨s0, s1, s2, s3⟩ := SB2.out.cells
            dsimp only at c0 c1 c2 c3 s0 s1 s2 s3
            go_wp2_with fail
            with_reducible refine (E.out _).mono ?_
            rintro e2 w3 ⟨rfl, rfl⟩
            go_wp2_with fail
            with_reducible refine (O.out _).mono ?_
            rintro e2 w3 ⟨rfl, rfl⟩
            go_wp2_with fail
            with_reducible refine (L.out _).mono ?_
            rintro e2 w3 ⟨rfl, hf⟩
            have F3 := Lib.hid (F2.out.trans hf)
            have SB3 := Lib.hid (SB2.out.fr hf)
            clear hf s0 s1 s2 s3 c0 c1 c2 c3
            obtain ⟨s0, s1, s2, s3⟩ := SB3.out.cells
            dsimp only at s0 s1 s2 s3
            go_wp2
            go_ret
            exact ⟨by rw [HR.out]; rfl, F3.out⟩
          | false =>
            by_cases he : xe = 0
            · subst he
              have hen : ((0 : Int) != 0) = false := by decide
              have HR : Hid (b = xr) := by show _ = _; rw [HV.out]; simp [*]
              clear HV
              go_enter Tryd.func36, Tryd.ntmps36
              go_wp2_with fail
              with_reducible refine (I.out _).mono ?_
              rintro e2 w2 ⟨rfl, hf⟩
              have F2 := Lib.hid (TB.out.1.trans hf)
              have HB2 := Lib.hid (TB.out.2.1.fr hf)
              have SB2 := Lib.hid (TB.out.2.2.fr hf)
              clear hf
              obtain ⟨c0, c1, c2, c3⟩ := HB2.out.cells
              obtain ⟨s0, s1, s2, s3⟩ := SB2.out.cells
              dsimp only at c0 c1 c2 c3 s0 s1 s2 s3
              go_wp2_with fail
              with_reducible refine (E.out _).mono ?_
              rintro e2 w3 ⟨rfl, rfl⟩
              go_wp2_with fail
              with_reducible refine (O.out _).mono ?_
              rintro e2 w3 ⟨rfl, rfl⟩
              go_wp2_with fail
              with_reducible refine (L.out _).mono ?_
              rintro e2 w3 ⟨rfl, hf⟩
              have F3 := Lib.hid (F2.out.trans hf)
              have SB3 := Lib.hid (SB2.out.fr hf)
              clear hf s0 s1 s2 s3 c0 c1 c2 c3
              obtain ⟨s0, s1, s2, s3⟩ := SB3.out.cells
              dsimp only at s0 s1 s2 s3
              go_wp2
              go_ret
              exact ⟨by rw [HR.out]; rfl, F3.out⟩
            · have hen : (xe != 0) = true := by simpa using he
              have HR : Hid (b = true) := by show _ = _; rw [HV.out]; simp [*]
              clear HV
              go_enter Tryd.func36, Tryd.ntmps36
              go_wp2_with fail
              with_reducible refine (I.out _).mono ?_
              rintro e2 w2 ⟨rfl, hf⟩
              have F2 := Lib.hid (TB.out.1.trans hf)
              have HB2 := Lib.hid (TB.out.2.1.fr hf)
              have SB2 := Lib.hid (TB.out.2.2.fr hf)
              clear hf
              obtain ⟨c0, c1, c2, c3⟩ := HB2.out.cells
              obtain ⟨s0, s1, s2, s3⟩ := SB2.out.cells
              dsimp only at c0 c1 c2 c3 s0 s1 s2 s3
              go_wp2_with fail
              with_reducible refine (E.out _).mono ?_
              rintro e2 w3 ⟨rfl, rfl⟩
              go_wp2_with fail
              with_reducible refine (O.out _).mono ?_
              rintro e2 w3 ⟨rfl, rfl⟩
              go_wp2_with fail
              with_reducible refine (L.out _).mono ?_
              rintro e2 w3 ⟨rfl, hf⟩
              have F3 := Lib.hid (F2.out.trans hf)
              have SB3 := Lib.hid (SB2.out.fr hf)
              clear hf s0 s1 s2 s3 c0 c1 c2 c3
              obtain ⟨s0, s1, s2, s3⟩ := SB3.out.cells
              dsimp only at s0 s1 s2 s3
              go_wp2
              go_ret
              exact ⟨by rw [HR.out]; rfl, F3.out⟩
end Go.Proofs.YtgcgbiaigbblkaaDoor
