/- The document's car: its boxes; whether it may be; its door a tick later. -/
import Derived.Test.YtdmomnhacijmpaaGreatDoorGCar2
import Derived.Test.YtdmomnhacijmpaaGreatDoorPRef
import Derived.Test.YtdmomnhacijmpaaGreatDoorDRef
namespace Go.Proofs.YtdmomnhacijmpaaGreatDoor
open Go.RowKit

abbrev Ca.qbox (c : Ca) : Obj := .cells #[.int .i64 c.x.p, .int .i64 c.x.e, .int .i64 c.x.o, .bool c.x.r, .int .i64 c.k] 36
abbrev Dn.qbox (d : Dn) : Obj := .cells #[.bool d.op, .bool d.cl, .int .i64 d.fl, .int .i64 d.la, .int .i64 d.mv, .int .u64 d.st.c, .int .u64 d.st.u, .int .u64 d.st.d] 50
/-- The box of a car. -/
def QB (w : World) (b : Nat) (c : Ca) : Prop := w.heap[b]? = some c.qbox
theorem QB.fr {w w' : World} {b : Nat} {c : Ca} {S : List Nat} (k : QB w b c) (hf : Fr w w' S) (hb : b ∉ S) : QB w' b c := hf.heap k hb
theorem QB.new (w : World) (c : Ca) : QB (w.alloc c.qbox) w.heap.size c := heap_alloc_new w _
theorem QB.cells {w : World} {b : Nat} {c : Ca} (k : QB w b c) : w.cell? ⟨b, 0, none⟩ = some (.int .i64 c.x.p) ∧ w.cell? ⟨b, 1, none⟩ = some (.int .i64 c.x.e) ∧ w.cell? ⟨b, 2, none⟩ = some (.int .i64 c.x.o) ∧ w.cell? ⟨b, 3, none⟩ = some (.bool c.x.r) ∧ w.cell? ⟨b, 4, none⟩ = some (.int .i64 c.k) := crow k
theorem QB.fz {w : World} {b : Nat} {c : Ca} (k : QB w b c) (i : Nat) : w.frozen? ⟨b, i, none⟩ = false := frozen_of_row _ _ i _ _ k
/-- All its cells stored anew, by its parts. -/
theorem QB.put0 {w : World} {b : Nat} {c : Ca} (k : QB w b c) (z : Int) : QB (w.setCell ⟨b, 0, none⟩ (.int .i64 z)) b ⟨⟨z, c.x.e, c.x.o, c.x.r⟩, c.k⟩ := by
  unfold QB at k ⊢; rw [heap_setCell_same _ b 0 _ _ _ k]; rfl
theorem QB.put1 {w : World} {b : Nat} {c : Ca} (k : QB w b c) (z : Int) : QB (w.setCell ⟨b, 1, none⟩ (.int .i64 z)) b ⟨⟨c.x.p, z, c.x.o, c.x.r⟩, c.k⟩ := by
  unfold QB at k ⊢; rw [heap_setCell_same _ b 1 _ _ _ k]; rfl
theorem QB.put2 {w : World} {b : Nat} {c : Ca} (k : QB w b c) (z : Int) : QB (w.setCell ⟨b, 2, none⟩ (.int .i64 z)) b ⟨⟨c.x.p, c.x.e, z, c.x.r⟩, c.k⟩ := by
  unfold QB at k ⊢; rw [heap_setCell_same _ b 2 _ _ _ k]; rfl
theorem QB.put3 {w : World} {b : Nat} {c : Ca} (k : QB w b c) (z : Bool) : QB (w.setCell ⟨b, 3, none⟩ (.bool z)) b ⟨⟨c.x.p, c.x.e, c.x.o, z⟩, c.k⟩ := by
  unfold QB at k ⊢; rw [heap_setCell_same _ b 3 _ _ _ k]; rfl
theorem QB.put4 {w : World} {b : Nat} {c : Ca} (k : QB w b c) (z : Int) : QB (w.setCell ⟨b, 4, none⟩ (.int .i64 z)) b ⟨⟨c.x.p, c.x.e, c.x.o, c.x.r⟩, z⟩ := by
  unfold QB at k ⊢; rw [heap_setCell_same _ b 4 _ _ _ k]; rfl
theorem QB.set {w : World} {b : Nat} {c : Ca} (k : QB w b c) (x : Ca) : QB (carSet w b x) b x := ((((k.put0 x.x.p).put1 x.x.e).put2 x.x.o).put3 x.x.r).put4 x.k
/-- The box of a deed. -/
def QN (w : World) (b : Nat) (d : Dn) : Prop := w.heap[b]? = some d.qbox
theorem QN.fr {w w' : World} {b : Nat} {d : Dn} {S : List Nat} (k : QN w b d) (hf : Fr w w' S) (hb : b ∉ S) : QN w' b d := hf.heap k hb
theorem QN.new (w : World) (d : Dn) : QN (w.alloc d.qbox) w.heap.size d := heap_alloc_new w _
theorem QN.fz {w : World} {b : Nat} {d : Dn} (k : QN w b d) (i : Nat) : w.frozen? ⟨b, i, none⟩ = false := frozen_of_row _ _ i _ _ k
theorem QN.cells {w : World} {b : Nat} {d : Dn} (k : QN w b d) : NC w b d :=
  ⟨by rw [cell_of_row w b 0 _ _ _ k]; rfl, by rw [cell_of_row w b 1 _ _ _ k]; rfl, by rw [cell_of_row w b 2 _ _ _ k]; rfl, by rw [cell_of_row w b 3 _ _ _ k]; rfl, by rw [cell_of_row w b 4 _ _ _ k]; rfl, by rw [cell_of_row w b 5 _ _ _ k]; rfl, by rw [cell_of_row w b 6 _ _ _ k]; rfl, by rw [cell_of_row w b 7 _ _ _ k]; rfl⟩
theorem QN.put {w : World} {b : Nat} {d : Dn} (k : QN w b d) (i : Nat) (v : Value) (x : Dn) (h : x.qbox = (.cells (#[.bool d.op, .bool d.cl, .int .i64 d.fl, .int .i64 d.la, .int .i64 d.mv, .int .u64 d.st.c, .int .u64 d.st.u, .int .u64 d.st.d].setIfInBounds i v) 50 (0, 0))) : QN (w.setCell ⟨b, i, none⟩ v) b x := by
  unfold QN at k ⊢
  rw [heap_setCell_same _ b i _ _ _ k, h]
theorem QN.set {w : World} {b : Nat} {d : Dn} (k : QN w b d) (x : Dn) : QN (dnSet w b x) b x := by
  have k0 : QN _ b ⟨x.op, d.cl, d.fl, d.la, d.mv, d.st⟩ := k.put 0 (.bool x.op) _ rfl
  have k1 : QN _ b ⟨x.op, x.cl, d.fl, d.la, d.mv, d.st⟩ := k0.put 1 (.bool x.cl) _ rfl
  have k2 : QN _ b ⟨x.op, x.cl, x.fl, d.la, d.mv, d.st⟩ := k1.put 2 (.int .i64 x.fl) _ rfl
  have k3 : QN _ b ⟨x.op, x.cl, x.fl, x.la, d.mv, d.st⟩ := k2.put 3 (.int .i64 x.la) _ rfl
  have k4 : QN _ b ⟨x.op, x.cl, x.fl, x.la, x.mv, d.st⟩ := k3.put 4 (.int .i64 x.mv) _ rfl
  have k5 : QN _ b ⟨x.op, x.cl, x.fl, x.la, x.mv, ⟨x.st.c, d.st.u, d.st.d⟩⟩ := k4.put 5 (.int .u64 x.st.c) _ rfl
  have k6 : QN _ b ⟨x.op, x.cl, x.fl, x.la, x.mv, ⟨x.st.c, x.st.u, d.st.d⟩⟩ := k5.put 6 (.int .u64 x.st.u) _ rfl
  exact k6.put 7 (.int .u64 x.st.d) _ rfl
/-- A house's and a car's boxes. -/
structure HQ (W : World) (h : Ho) (c : Ca) (a : World) : Prop where
  f : Fr W a []
  h : HB a W.heap.size h
  c : QB a (W.heap.size + 1) c
theorem HQ.fr {W : World} {h : Ho} {c : Ca} {a a' : World} (q : HQ W h c a) (k : Fr a a' []) : HQ W h c a' := ⟨q.f.trans k, q.h.fr k, q.c.fr k (by simp)⟩
theorem HQ.new (w : World) (h : Ho) (c : Ca) : HQ w h c ((w.alloc h.box).alloc c.qbox) := by
  refine ⟨(Fr.alloc _ _ []).trans (Fr.alloc _ _ []), (HB.new w h).fr (Fr.alloc _ _ []), ?_⟩
  have := QB.new (w.alloc h.box) c
  rwa [show (w.alloc h.box).heap.size = w.heap.size + 1 by simp] at this

set_option maxRecDepth 100000 in
theorem rcright_any (h : Ho) (c : Ca) (w : World) (b : Bool) (hb : b = c.right h) : Calls Tryz.prog 15 #[h.v, c.v] w fun e w' => e = .returned (.bool b) ∧ Fr w w' [] := by
  have TB := Lib.hid (HQ.new w h c)
  obtain ⟨bm, em⟩ : ∃ y, y = h.may c.x := ⟨_, rfl⟩
  have RG := Lib.hid (fun W => rright_any h c.x W bm em)
  have HV0 := Lib.hid (show b = (bm && (decide (c.k = 0) || (decide (0 < c.k) && decide (c.x.o = 1)))) by rw [hb, Ca.right, em])
  clear hb em
  obtain ⟨hc, hf, hs, hd⟩ := h
  obtain ⟨⟨xp, xe, xo, xr⟩, xk⟩ := c
  have HV := Lib.hid (show b = (bm && (decide (xk = 0) || (decide (0 < xk) && decide (xo = 1)))) from HV0.out)
  clear HV0
  dsimp only [Ho.v, Ho.box, St.v, St.box, Ca.v, Ca.qbox] at *
  cases bm with
  | false =>
    have HR : Hid (b = false) := by show _ = _; rw [HV.out]; rfl
    clear HV
    go_enter Tryz.func15, Tryz.ntmps15
    go_wp2_with fail
    with_reducible refine (RG.out _).mono ?_
    rintro e2 w2 ⟨rfl, hf⟩
    have T2 := Lib.hid (TB.out.fr hf)
    clear hf
    go_wp2
    go_ret
    exact ⟨by rw [HR.out]; rfl, T2.out.f⟩
  | true =>
    by_cases k0 : xk = 0
    · have HR : Hid (b = true) := by show _ = _; rw [HV.out]; simp [k0]
      subst k0
      clear HV
      go_enter Tryz.func15, Tryz.ntmps15
      go_wp2_with fail
      with_reducible refine (RG.out _).mono ?_
      rintro e2 w2 ⟨rfl, hf⟩
      have T2 := Lib.hid (TB.out.fr hf)
      clear hf
      obtain ⟨c0, c1, c2, c3, c4⟩ := T2.out.c.cells
      dsimp only at c0 c1 c2 c3 c4
      go_wp2
      go_ret
      exact ⟨by rw [HR.out]; rfl, T2.out.f⟩
    · have e0 : (xk == 0) = false := by simp [k0]
      by_cases k1 : 0 < xk
      · by_cases o1 : xo = 1
        · have HR : Hid (b = true) := by show _ = _; rw [HV.out]; simp [k1, o1]
          subst o1
          clear HV k0
          go_enter Tryz.func15, Tryz.ntmps15
          go_wp2_with fail
          with_reducible refine (RG.out _).mono ?_
          rintro e2 w2 ⟨rfl, hf⟩
          have T2 := Lib.hid (TB.out.fr hf)
          clear hf
          obtain ⟨c0, c1, c2, c3, c4⟩ := T2.out.c.cells
          dsimp only at c0 c1 c2 c3 c4
          go_wp2
          go_ret
          exact ⟨by rw [HR.out]; rfl, T2.out.f⟩
        · have HR : Hid (b = false) := by show _ = _; rw [HV.out]; simp [k0, o1]
          have e1 : (xo == 1) = false := by simp [o1]
          clear HV k0 o1
          go_enter Tryz.func15, Tryz.ntmps15
          go_wp2_with fail
          with_reducible refine (RG.out _).mono ?_
          rintro e2 w2 ⟨rfl, hf⟩
          have T2 := Lib.hid (TB.out.fr hf)
          clear hf
          obtain ⟨c0, c1, c2, c3, c4⟩ := T2.out.c.cells
          dsimp only at c0 c1 c2 c3 c4
          go_wp2
          go_ret
          exact ⟨by rw [HR.out]; rfl, T2.out.f⟩
      · have HR : Hid (b = false) := by show _ = _; rw [HV.out]; simp [k0, k1]
        clear HV k0
        have k1' : xk ≤ 0 := by omega
        clear k1
        go_enter Tryz.func15, Tryz.ntmps15
        go_wp2_with fail
        with_reducible refine (RG.out _).mono ?_
        rintro e2 w2 ⟨rfl, hf⟩
        have T2 := Lib.hid (TB.out.fr hf)
        clear hf
        obtain ⟨c0, c1, c2, c3, c4⟩ := T2.out.c.cells
        dsimp only at c0 c1 c2 c3 c4
        go_wp2
        go_ret
        exact ⟨by rw [HR.out]; rfl, T2.out.f⟩


set_option maxHeartbeats 1000000 in
set_option maxRecDepth 100000 in
/-- The document's door a tick later, nothing obstructed. -/
theorem rtick_no (l h : Int) (w : World) (x y : Int) (b : Bool) (hx : x = tickL l false) (hy : y = heldK l h false) (hb : b = tickB l false) (h2 : l ≤ 9223372036854775807) :
    Calls Tryz.prog 29 #[dv l h, .bool false] w fun e w' => e = .returned (.tuple #[dv x y, .bool b]) ∧ Fr w w' [] := by
  obtain ⟨N1, N2⟩ := two_new w (dbox 79 l h) (dbox 79 0 0)
  obtain ⟨s0, s1⟩ := drow N1
  obtain ⟨r0, r1⟩ := drow N2
  have z0 := frozen_of_row _ _ 0 _ _ N2
  have z1 := frozen_of_row _ _ 1 _ _ N2
  clear N1 N2
  by_cases c0 : l ≤ 0
  · rw [tickL, if_pos c0] at hx
    rw [heldK, if_pos c0] at hy
    rw [tickB, if_pos c0] at hb
    subst hx hy hb
    clear h2
    dsimp only [dv, dbox] at *
    go_enter Tryz.func29, Tryz.ntmps29
    go_wp2
    exact bodyPost_ret (v := .tuple #[.agg #[.int .i64 0, .int .i64 0], .bool false]) (by simp [results, Tryz.results29, go_sem]) rfl ⟨rfl, (Fr.alloc w _ []).trans (Fr.alloc _ _ [])⟩
  · rw [tickL, if_neg c0] at hx
    rw [heldK, if_neg c0] at hy
    rw [tickB, if_neg c0] at hb
    by_cases c1 : 1 < l
    · rw [if_pos c1] at hx hy hb
      have wl : IntKind.i64.wrap (l - 1) = x := by rw [hx]; exact IntWalk.i64_in _ (by omega)
      subst hy hb
      clear hx h2
      dsimp only [dv, dbox] at *
      go_enter Tryz.func29, Tryz.ntmps29
      go_wp2
      exact bodyPost_ret (v := .tuple #[.agg #[.int .i64 x, .int .i64 y], .bool false]) (by simp [results, Tryz.results29, go_sem]) rfl ⟨rfl, (Fr.alloc w _ []).trans (Fr.alloc _ _ [])⟩
    · rw [if_neg c1] at hx hy hb
      obtain rfl : l = 1 := by omega
      rw [if_neg (by decide)] at hx hy
      subst hx hy hb
      clear h2
      dsimp only [dv, dbox] at *
      go_enter Tryz.func29, Tryz.ntmps29
      go_wp2
      exact bodyPost_ret (v := .tuple #[.agg #[.int .i64 0, .int .i64 0], .bool true]) (by simp [results, Tryz.results29, go_sem]) rfl ⟨rfl, (Fr.alloc w _ []).trans (Fr.alloc _ _ [])⟩
end Go.Proofs.YtdmomnhacijmpaaGreatDoor
