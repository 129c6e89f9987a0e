/- What the laws of a car keep of the memory. What call may be in a house of so many floors: the code's, the document's. How long a car takes: the code's Of, and what it calls. How long a car takes: the loop, Of, chapter 17's example. How long a car takes: Of; chapter 17's example. -/
import Derived.Test.YtdmomnhacijmpaaGreatDoorGCar2
import Derived.Test.YtdmomnhacijmpaaGreatDoorGNum
import Derived.Test.YtdmomnhacijmpaaGreatDoorGCaM
namespace Go.Proofs.YtdmomnhacijmpaaGreatDoor
open Go.RowKit

/-- A house's box, the stops' box, a car in a box of the call's own. -/
structure LL (W : World) (b : Nat) (h : Ho) (s : Sp) (c : Ca) (a : World) : Prop where
  f : Fr W a []
  h : HB a W.heap.size h
  s : SR a (W.heap.size + 1) s
  c : CB a b c
  lo : W.heap.size + 1 < b
theorem LL.fr {W : World} {b : Nat} {h : Ho} {s : Sp} {c : Ca} {a a' : World} (q : LL W b h s c a) (f : Fr a a' []) : LL W b h s c a' := ⟨q.f.trans f, q.h.fr f, f.heap q.s (by simp), q.c.fr f (by simp), q.lo⟩
theorem LL.car {W : World} {b : Nat} {h : Ho} {s : Sp} {c : Ca} {a : World} (q : LL W b h s c a) (z : Ca) : LL W b h s z (carSet a b z) :=
  have f := carSet_fr a b z
  ⟨q.f.new f (by have := q.lo; simp; omega), f.heap q.h (by have := q.lo; simp; omega), f.heap q.s (by have := q.lo; simp; omega), q.c.set z, q.lo⟩
/-- A house's box and the stops' box. -/
structure LA (W : World) (h : Ho) (s : Sp) (a : World) : Prop where
  f : Fr W a []
  h : HB a W.heap.size h
  s : SR a (W.heap.size + 1) s
theorem LA.fr {W : World} {h : Ho} {s : Sp} {a a' : World} (q : LA W h s a) (f : Fr a a' []) : LA W h s a' := ⟨q.f.trans f, q.h.fr f, f.heap q.s (by simp)⟩
theorem LA.new (w : World) (h : Ho) (s : Sp) : LA w h s ((w.alloc h.box).alloc (Sp.box 30 s)) := by
  have a2 := heap_alloc_new (w.alloc h.box) (Sp.box 30 s)
  rw [show (w.alloc h.box).heap.size = w.heap.size + 1 by simp] at a2
  exact ⟨(Fr.alloc _ _ []).trans (Fr.alloc _ _ []), (HB.new w h).fr (Fr.alloc _ _ []), a2⟩
theorem LA.own {W : World} {h : Ho} {s : Sp} {a : World} (q : LA W h s a) (c : Ca) : LL W a.heap.size h s c (a.alloc c.box) :=
  ⟨q.f.trans (Fr.alloc _ _ []), q.h.fr (Fr.alloc _ _ []), (Fr.alloc _ _ []).heap q.s (by simp), CB.new a c, size_of_row q.s⟩
/-- A house's box, a car in a box of the call's own. -/
structure LH (W : World) (b : Nat) (h : Ho) (c : Ca) (a : World) : Prop where
  f : Fr W a []
  h : HB a W.heap.size h
  c : CB a b c
  lo : W.heap.size < b
theorem LH.fr {W : World} {b : Nat} {h : Ho} {c : Ca} {a a' : World} (q : LH W b h c a) (f : Fr a a' []) : LH W b h c a' := ⟨q.f.trans f, q.h.fr f, q.c.fr f (by simp), q.lo⟩
theorem LH.car {W : World} {b : Nat} {h : Ho} {c : Ca} {a : World} (q : LH W b h c a) (z : Ca) : LH W b h z (carSet a b z) :=
  have f := carSet_fr a b z
  ⟨q.f.new f (by have := q.lo; simp; omega), f.heap q.h (by have := q.lo; simp; omega), q.c.set z, q.lo⟩
/-- A house's box. -/
structure LB (W : World) (h : Ho) (a : World) : Prop where
  f : Fr W a []
  h : HB a W.heap.size h
theorem LB.fr {W : World} {h : Ho} {a a' : World} (q : LB W h a) (f : Fr a a' []) : LB W h a' := ⟨q.f.trans f, q.h.fr f⟩
theorem LB.new (w : World) (h : Ho) : LB w h (w.alloc h.box) := ⟨Fr.alloc _ _ [], HB.new w h⟩
theorem LB.own {W : World} {h : Ho} {a : World} (q : LB W h a) (c : Ca) : LH W a.heap.size h c (a.alloc c.box) :=
  ⟨q.f.trans (Fr.alloc _ _ []), q.h.fr (Fr.alloc _ _ []), CB.new a c, size_of_row q.h⟩
/-- A house's cells, in a world that came of V. -/
def F4 (V : World) (m : Nat) (h : Ho) (a : World) : Prop := Fr V a [] ∧
  a.cell? ⟨m, 0, none⟩ = some (.int .i64 h.c) ∧ a.cell? ⟨m, 1, none⟩ = some (.int .i64 h.f) ∧ a.cell? ⟨m, 2, none⟩ = some (.int .i64 h.s) ∧ a.cell? ⟨m, 3, none⟩ = some (.int .i64 h.d)
theorem F4.of {V : World} {m : Nat} {h : Ho} {a : World} (f : Fr V a []) (b : HB a m h) : F4 V m h a := ⟨f, b.cells⟩
theorem F4.lasts (V : World) (m : Nat) (h : Ho) : Lasts (F4 V m h) := fun _ _ q f => ⟨q.1.trans f, f.cell q.2.1 (by simp), f.cell q.2.2.1 (by simp), f.cell q.2.2.2.1 (by simp), f.cell q.2.2.2.2 (by simp)⟩
theorem F4.size {V : World} {m : Nat} {h : Ho} (w : World) (q : F4 V m h w) : V.heap.size ≤ w.heap.size := q.1.size
theorem PD.new (w : World) (x : Ca) (d : Dn) : PD w w.heap.size (w.heap.size + 1) x d ((w.alloc x.box).alloc d.box) := by
  have n2 := NB.new (w.alloc x.box) d
  rw [show (w.alloc x.box).heap.size = w.heap.size + 1 by simp] at n2
  exact ⟨(Fr.alloc _ _ []).trans (Fr.alloc _ _ []), (CB.new w x).fr (Fr.alloc _ _ []) (by simp), n2, Nat.le_refl _, Nat.le_succ _⟩
/-- The two boxes that a tick's answer is put in. -/
theorem two_fr (w : World) (x : Ca) (d : Dn) : Fr w ((w.alloc x.box).alloc d.box) [] := (Fr.alloc _ _ []).trans (Fr.alloc _ _ [])
theorem start_held (h : Ho) (p : Int) : (startC h p).k ≤ 9223372036854775807 := (by decide : (0 : Int) ≤ 9223372036854775807)
theorem tick_held {h : Ho} {c : Ca} {s : Sp} {ob : Bool} (hk : c.k ≤ 9223372036854775807) : (c.tick h s ob).1.k ≤ 9223372036854775807 := by
  unfold Ca.tick
  split
  · split
    · dsimp only [heldK]
      split
      · decide
      · split
        · exact hk
        · split
          · omega
          · decide
    · split
      · split <;> (dsimp only; decide)
      · split <;> (dsimp only; decide)
  · exact hk
end Go.Proofs.YtdmomnhacijmpaaGreatDoor

namespace Go.Proofs.YtdmomnhacijmpaaGreatDoor
open Go.RowKit

set_option maxRecDepth 100000 in
theorem cmay_any (f q e : Int) (f0 : 2 ≤ f) (f1 : f ≤ 64) (w : World) (b : Bool) (hb : b = decide (mayC f q e)) :
    Calls Tryz.prog 22 #[.int .i64 f, .agg #[.int .i64 q, .int .i64 e]] w fun x w' => x = .returned (.bool b) ∧ Fr w w' [] := by
  have HF := Lib.hid (Fr.alloc w (.cells #[.int .i64 q, .int .i64 e] 32) [])
  unfold mayC at hb
  by_cases h0 : q < 0
  · have HB : Hid (b = false) := Lib.hid (by rw [hb]; exact decide_eq_false (by omega))
    clear hb
    go_enter Tryz.func22, Tryz.ntmps22
    go_wp2
    go_ret
    exact ⟨by rw [HB.out]; first | rfl | (rw [decide_eq_true (by omega)]; rfl) | (rw [decide_eq_false (by omega)]; rfl), HF.out⟩
  by_cases h1 : f ≤ q
  · have HB : Hid (b = false) := Lib.hid (by rw [hb]; exact decide_eq_false (by omega))
    clear hb
    go_enter Tryz.func22, Tryz.ntmps22
    go_wp2
    go_ret
    exact ⟨by rw [HB.out]; first | rfl | (rw [decide_eq_true (by omega)]; rfl) | (rw [decide_eq_false (by omega)]; rfl), HF.out⟩
  have h2 : q < f := by omega
  by_cases hd : e = 1
  · subst hd
    by_cases h3 : q < f - 1
    · have HB : Hid (b = true) := Lib.hid (by rw [hb]; exact decide_eq_true (by omega))
      clear hb
      go_enter Tryz.func22, Tryz.ntmps22
      go_wp2
      go_ret
      exact ⟨by rw [HB.out]; first | rfl | (rw [decide_eq_true (by omega)]; rfl) | (rw [decide_eq_false (by omega)]; rfl), HF.out⟩
    · have HB : Hid (b = false) := Lib.hid (by rw [hb]; exact decide_eq_false (by omega))
      clear hb
      go_enter Tryz.func22, Tryz.ntmps22
      go_wp2
      go_ret
      exact ⟨by rw [HB.out]; first | rfl | (rw [decide_eq_true (by omega)]; rfl) | (rw [decide_eq_false (by omega)]; rfl), HF.out⟩
  by_cases hd2 : e = -1
  · subst hd2
    clear hd
    by_cases h3 : 0 < q
    · have HB : Hid (b = true) := Lib.hid (by rw [hb]; exact decide_eq_true (by omega))
      clear hb
      go_enter Tryz.func22, Tryz.ntmps22
      go_wp2
      go_ret
      exact ⟨by rw [HB.out]; first | rfl | (rw [decide_eq_true (by omega)]; rfl) | (rw [decide_eq_false (by omega)]; rfl), HF.out⟩
    · have HB : Hid (b = false) := Lib.hid (by rw [hb]; exact decide_eq_false (by omega))
      clear hb
      go_enter Tryz.func22, Tryz.ntmps22
      go_wp2
      go_ret
      exact ⟨by rw [HB.out]; first | rfl | (rw [decide_eq_true (by omega)]; rfl) | (rw [decide_eq_false (by omega)]; rfl), HF.out⟩
  have HB : Hid (b = false) := Lib.hid (by rw [hb]; exact decide_eq_false (by omega))
  clear hb
  have e1 : (e == 1) = false := by simp [hd]
  have e2 : (e == -1) = false := by simp [hd2]
  clear hd hd2
  go_enter Tryz.func22, Tryz.ntmps22
  go_wp2
  go_ret
  exact ⟨by rw [HB.out]; first | rfl | (rw [decide_eq_true (by omega)]; rfl) | (rw [decide_eq_false (by omega)]; rfl), HF.out⟩
set_option maxRecDepth 100000 in
theorem dmay_any (f q e : Int) (f0 : 2 ≤ f) (f1 : f ≤ 64) (w : World) (b : Bool) (hb : b = decide (mayC f q e)) :
    Calls Tryz.prog 14 #[.int .i64 f, .agg #[.int .i64 q, .int .i64 e]] w fun x w' => x = .returned (.bool b) ∧ Fr w w' [] := by
  have HF := Lib.hid (Fr.alloc w (.cells #[.int .i64 q, .int .i64 e] 32) [])
  unfold mayC at hb
  by_cases h0 : q < 0
  · have HB : Hid (b = false) := Lib.hid (by rw [hb]; exact decide_eq_false (by omega))
    clear hb
    go_enter Tryz.func14, Tryz.ntmps14
    go_wp2
    go_ret
    exact ⟨by rw [HB.out]; first | rfl | (rw [decide_eq_true (by omega)]; rfl) | (rw [decide_eq_false (by omega)]; rfl), HF.out⟩
  by_cases h1 : f ≤ q
  · have HB : Hid (b = false) := Lib.hid (by rw [hb]; exact decide_eq_false (by omega))
    clear hb
    go_enter Tryz.func14, Tryz.ntmps14
    go_wp2
    go_ret
    exact ⟨by rw [HB.out]; first | rfl | (rw [decide_eq_true (by omega)]; rfl) | (rw [decide_eq_false (by omega)]; rfl), HF.out⟩
  have h2 : q < f := by omega
  by_cases hd : e = 1
  · subst hd
    by_cases h3 : q < f - 1
    · have HB : Hid (b = true) := Lib.hid (by rw [hb]; exact decide_eq_true (by omega))
      clear hb
      go_enter Tryz.func14, Tryz.ntmps14
      go_wp2
      go_ret
      exact ⟨by rw [HB.out]; first | rfl | (rw [decide_eq_true (by omega)]; rfl) | (rw [decide_eq_false (by omega)]; rfl), HF.out⟩
    · have HB : Hid (b = false) := Lib.hid (by rw [hb]; exact decide_eq_false (by omega))
      clear hb
      go_enter Tryz.func14, Tryz.ntmps14
      go_wp2
      go_ret
      exact ⟨by rw [HB.out]; first | rfl | (rw [decide_eq_true (by omega)]; rfl) | (rw [decide_eq_false (by omega)]; rfl), HF.out⟩
  by_cases hd2 : e = -1
  · subst hd2
    clear hd
    by_cases h3 : 0 < q
    · have HB : Hid (b = true) := Lib.hid (by rw [hb]; exact decide_eq_true (by omega))
      clear hb
      go_enter Tryz.func14, Tryz.ntmps14
      go_wp2
      go_ret
      exact ⟨by rw [HB.out]; first | rfl | (rw [decide_eq_true (by omega)]; rfl) | (rw [decide_eq_false (by omega)]; rfl), HF.out⟩
    · have HB : Hid (b = false) := Lib.hid (by rw [hb]; exact decide_eq_false (by omega))
      clear hb
      go_enter Tryz.func14, Tryz.ntmps14
      go_wp2
      go_ret
      exact ⟨by rw [HB.out]; first | rfl | (rw [decide_eq_true (by omega)]; rfl) | (rw [decide_eq_false (by omega)]; rfl), HF.out⟩
  have HB : Hid (b = false) := Lib.hid (by rw [hb]; exact decide_eq_false (by omega))
  clear hb
  have e1 : (e == 1) = false := by simp [hd]
  have e2 : (e == -1) = false := by simp [hd2]
  clear hd hd2
  go_enter Tryz.func14, Tryz.ntmps14
  go_wp2
  go_ret
  exact ⟨by rw [HB.out]; first | rfl | (rw [decide_eq_true (by omega)]; rfl) | (rw [decide_eq_false (by omega)]; rfl), HF.out⟩
end Go.Proofs.YtdmomnhacijmpaaGreatDoor

namespace Go.Proofs.YtdmomnhacijmpaaGreatDoor
open Go.RowKit

/-- What Of answers. -/
def EtaV (h : Ho) (c : Ca) (s : Sp) (q e : Int) (r : Int) : Prop :=
  (RightIs h c ∧ mayC h.f q e ∧ ∃ n : Nat, EtaIs h c (s.put q e) q e n ∧ n < 4000 ∧ (n : Int) + 1 ≤ 3 * h.f * (h.s + h.d + 2) + 2 * h.d + h.s ∧ r = (n : Int) + 1) ∨ (¬ (RightIs h c ∧ mayC h.f q e) ∧ r = 1048576)
theorem EtaV.some (h : Ho) (c : Ca) {s : Sp} (ok : s.ok) (q e : Int) : ∃ r, EtaV h c s q e r := by
  by_cases g : RightIs h c ∧ mayC h.f q e
  · obtain ⟨n, a, b, d⟩ := eta_some g.1 ok g.2
    exact ⟨_, .inl ⟨g.1, g.2, n, a, d, b, rfl⟩⟩
  · exact ⟨_, .inr ⟨g, rfl⟩⟩
theorem EtaV.one {h : Ho} {c : Ca} {s : Sp} {q e r r' : Int} (a : EtaV h c s q e r) (b : EtaV h c s q e r') : r = r' := by
  rcases a with ⟨x, y, n, a1, _, _, a2⟩ | ⟨x, a2⟩ <;> rcases b with ⟨x', y', m, b1, _, _, b2⟩ | ⟨x', b2⟩
  · rw [a2, b2, a1.one b1]
  · exact absurd ⟨x, y⟩ x'
  · exact absurd ⟨x', y'⟩ x
  · rw [a2, b2]
theorem EtaV.range {h : Ho} {c : Ca} {s : Sp} {q e r : Int} (a : EtaV h c s q e r) : 1 ≤ r ∧ r ≤ 1048576 := by
  rcases a with ⟨_, _, n, _, b, _, rfl⟩ | ⟨_, rfl⟩ <;> omega
theorem EtaV.mk {h : Ho} {c : Ca} {s : Sp} {q e : Int} {n : Nat} (R : RightIs h c) (ok : s.ok) (m : mayC h.f q e) (H : EtaIs h c (s.put q e) q e n) : EtaV h c s q e ((n : Int) + 1) := by
  obtain ⟨k, a, b, d⟩ := eta_some R ok m
  rw [a.one H] at b d
  exact .inl ⟨R, m, n, H, d, b, rfl⟩

set_option maxHeartbeats 1000000 in
set_option maxRecDepth 100000 in
theorem without_any (s d : Sp) (w : World) (ok : s.ok) (dk : d.ok) (r : Sp) (hr : r = s.less d) : Calls Tryz.prog 45 #[s.v, d.v] w fun x w' => x = .returned r.v ∧ Fr w w' [] := by
  obtain ⟨p, u, v⟩ := s
  obtain ⟨p', u', v'⟩ := d
  have E1 : bits .andNot .u64 (p : Int) (p' : Int) = ((p &&& (18446744073709551615 - p') : Nat) : Int) := u64_andNot_nat p p' ok.c dk.c
  have E2 : bits .andNot .u64 (u : Int) (u' : Int) = ((u &&& (18446744073709551615 - u') : Nat) : Int) := u64_andNot_nat u u' ok.u dk.u
  have E3 : bits .andNot .u64 (v : Int) (v' : Int) = ((v &&& (18446744073709551615 - v') : Nat) : Int) := u64_andNot_nat v v' ok.d dk.d
  have HV : Hid (r = ⟨p &&& (18446744073709551615 - p'), u &&& (18446744073709551615 - u'), v &&& (18446744073709551615 - v')⟩) := hr
  clear hr ok dk
  obtain ⟨A, hA⟩ : ∃ A, A = p &&& (18446744073709551615 - p') := ⟨_, rfl⟩
  obtain ⟨B, hB⟩ : ∃ B, B = u &&& (18446744073709551615 - u') := ⟨_, rfl⟩
  obtain ⟨D, hD⟩ : ∃ D, D = v &&& (18446744073709551615 - v') := ⟨_, rfl⟩
  rw [← hA] at E1
  rw [← hB] at E2
  rw [← hD] at E3
  rw [← hA, ← hB, ← hD] at HV
  clear hA hB hD
  have FA := Lib.hid (((Fr.alloc w (.cells #[.int .u64 p, .int .u64 u, .int .u64 v] 30) []).trans (Fr.alloc _ (.cells #[.int .u64 p', .int .u64 u', .int .u64 v'] 30) [])).trans (Fr.alloc _ (.cells #[.int .u64 A, .int .u64 B, .int .u64 D] 30) []))
  have x := arow (heap_alloc_new ((w.alloc (.cells #[.int .u64 p, .int .u64 u, .int .u64 v] 30)).alloc (.cells #[.int .u64 p', .int .u64 u', .int .u64 v'] 30)) (.cells #[.int .u64 A, .int .u64 B, .int .u64 D] 30))
  rw [show ((w.alloc (.cells #[.int .u64 p, .int .u64 u, .int .u64 v] 30)).alloc (.cells #[.int .u64 p', .int .u64 u', .int .u64 v'] 30)).heap.size = w.heap.size + 1 + 1 by simp] at x
  obtain ⟨x0, x1, x2⟩ := x
  dsimp only [Sp.v] at *
  go_enter Tryz.func45, Tryz.ntmps45
  go_wp2
  exact bodyPost_ret (v := .agg #[.int .u64 A, .int .u64 B, .int .u64 D]) (by simp [results, Tryz.results45, go_sem, x0, x1, x2]) rfl ⟨by rw [HV.out], FA.out⟩

theorem two_row {w : World} {g : Nat} {a b : Value} {T : TypeId} (h : w.heap[g]? = some (.cells #[a, b] T (0, 0))) :
    w.cell? ⟨g, 0, none⟩ = some a ∧ w.cell? ⟨g, 1, none⟩ = some b :=
  ⟨by rw [cell_of_row w g 0 _ _ _ h]; rfl, by rw [cell_of_row w g 1 _ _ _ h]; rfl⟩
abbrev callBox (q e : Int) : Obj := .cells #[.int .i64 q, .int .i64 e] 32
abbrev callV (q e : Int) : Value := .agg #[.int .i64 q, .int .i64 e]

set_option maxHeartbeats 1000000 in
set_option maxRecDepth 100000 in
theorem opens_any (d : Dn) (q e : Int) (w : World) (b : Bool) (hb : b = opD d q e) : Calls Tryz.prog 44 #[d.v, callV q e] w fun x w' => x = .returned (.bool b) ∧ Fr w w' [] := by
  have FA := Lib.hid ((Fr.alloc w d.box []).trans (Fr.alloc _ (callBox q e) []))
  have C1 := (NB.new w d).fr (Fr.alloc _ (callBox q e) []) (by simp)
  have C2 := two_row (heap_alloc_new (w.alloc d.box) (callBox q e))
  rw [show (w.alloc d.box).heap.size = w.heap.size + 1 by simp] at C2
  obtain ⟨n0, n1, n2, n3, n4, n5, n6, n7⟩ := C1.cells
  obtain ⟨m0, m1⟩ := C2
  clear C1
  have HV : Hid (b = opD d q e) := hb
  unfold opD at HV
  clear hb
  obtain ⟨op, cl, fl, la, mv, ⟨sc, su, sd⟩⟩ := d
  dsimp only [Dn.v, Dn.box, callV, callBox] at *
  cases op with
  | false =>
    have HR : Hid (b = false) := by show _ = _; rw [HV.out]; rfl
    clear HV
    go_enter Tryz.func44, Tryz.ntmps44
    go_wp2
    go_ret
    exact ⟨by rw [HR.out]; rfl, FA.out⟩
  | true =>
    by_cases k1 : fl = q
    · subst k1
      by_cases k2 : la = e
      · subst k2
        have HR : Hid (b = true) := by show _ = _; rw [HV.out]; simp
        clear HV
        go_enter Tryz.func44, Tryz.ntmps44
        go_wp2
        go_ret
        exact ⟨by rw [HR.out]; rfl, FA.out⟩
      · have HR : Hid (b = false) := by show _ = _; rw [HV.out]; simp [k2]
        have e2 : (la == e) = false := by simp [k2]
        clear HV k2
        go_enter Tryz.func44, Tryz.ntmps44
        go_wp2
        go_ret
        exact ⟨by rw [HR.out]; rfl, FA.out⟩
    · have HR : Hid (b = false) := by show _ = _; rw [HV.out]; simp [k1]
      have e2 : (fl == q) = false := by simp [k1]
      clear HV k1
      go_enter Tryz.func44, Tryz.ntmps44
      go_wp2
      go_ret
      exact ⟨by rw [HR.out]; rfl, FA.out⟩
end Go.Proofs.YtdmomnhacijmpaaGreatDoor

namespace Go.Proofs.YtdmomnhacijmpaaGreatDoor
open Go.RowKit

/-- A house's, a car's, the stops', a call's boxes. -/
structure LE (W : World) (h : Ho) (c : Ca) (s : Sp) (q e : Int) (a : World) : Prop where
  f : Fr W a []
  h : HB a W.heap.size h
  c : CB a (W.heap.size + 1) c
  s : SR a (W.heap.size + 2) s
  t : a.heap[W.heap.size + 3]? = some (callBox q e)
theorem LE.fr {W : World} {h : Ho} {c : Ca} {s : Sp} {q e : Int} {a a' : World} (k : LE W h c s q e a) (f : Fr a a' []) : LE W h c s q e a' := ⟨k.f.trans f, k.h.fr f, k.c.fr f (by simp), f.heap k.s (by simp), f.heap k.t (by simp)⟩
theorem LE.car {W : World} {h : Ho} {c : Ca} {s : Sp} {q e : Int} {a : World} (k : LE W h c s q e a) (x : Ca) : LE W h x s q e (carSet a (W.heap.size + 1) x) :=
  have f := carSet_fr a (W.heap.size + 1) x
  ⟨k.f.new f (by simp), f.heap k.h (by simp), k.c.set x, f.heap k.s (by simp), f.heap k.t (by simp)⟩
theorem LE.stops {W : World} {h : Ho} {c : Ca} {s : Sp} {q e : Int} {a : World} (k : LE W h c s q e a) (x : Sp) : LE W h c x q e (spSet a (W.heap.size + 2) x) :=
  have f := aset_fr a (W.heap.size + 2) (.int .u64 x.c) (.int .u64 x.u) (.int .u64 x.d)
  ⟨k.f.new f (by simp), f.heap k.h (by simp), k.c.fr f (by simp), aset k.s _ _ _, f.heap k.t (by simp)⟩
theorem LE.new (w : World) (h : Ho) (c : Ca) (s : Sp) (q e : Int) : LE w h c s q e ((((w.alloc h.box).alloc c.box).alloc (Sp.box 30 s)).alloc (callBox q e)) := by
  have a1 := heap_alloc_new w h.box
  have a2 := heap_alloc_new (w.alloc h.box) c.box
  have a3 := heap_alloc_new ((w.alloc h.box).alloc c.box) (Sp.box 30 s)
  have a4 := heap_alloc_new (((w.alloc h.box).alloc c.box).alloc (Sp.box 30 s)) (callBox q e)
  rw [show (w.alloc h.box).heap.size = w.heap.size + 1 by simp] at a2
  rw [show ((w.alloc h.box).alloc c.box).heap.size = w.heap.size + 2 by simp] at a3
  rw [show (((w.alloc h.box).alloc c.box).alloc (Sp.box 30 s)).heap.size = w.heap.size + 3 by simp] at a4
  have f1 := Fr.alloc w h.box []
  have f2 := Fr.alloc (w.alloc h.box) c.box []
  have f3 := Fr.alloc ((w.alloc h.box).alloc c.box) (Sp.box 30 s) []
  have f4 := Fr.alloc (((w.alloc h.box).alloc c.box).alloc (Sp.box 30 s)) (callBox q e) []
  have f34 := f3.trans f4
  exact ⟨(f1.trans f2).trans f34, (f2.trans f34).heap a1 (by simp), f34.heap a2 (by simp), f4.heap a3 (by simp), a4⟩
/-- What is loaded of the next car, the stops, the deed. -/
def E7 (V : World) (m n j : Nat) (y : Ca) (t d : Sp) (a : World) : Prop := Fr V a [] ∧
  (a.cell? ⟨m, 0, none⟩ = some (.int .i64 y.x.p) ∧ a.cell? ⟨m, 1, none⟩ = some (.int .i64 y.x.e) ∧ a.cell? ⟨m, 2, none⟩ = some (.int .i64 y.x.o) ∧ a.cell? ⟨m, 3, none⟩ = some (.bool y.x.r) ∧ a.cell? ⟨m, 4, none⟩ = some (.int .i64 y.k)) ∧
  (a.cell? ⟨n, 0, none⟩ = some (.int .u64 t.c) ∧ a.cell? ⟨n, 1, none⟩ = some (.int .u64 t.u) ∧ a.cell? ⟨n, 2, none⟩ = some (.int .u64 t.d)) ∧
  (a.cell? ⟨j, 5, none⟩ = some (.int .u64 d.c) ∧ a.cell? ⟨j, 6, none⟩ = some (.int .u64 d.u) ∧ a.cell? ⟨j, 7, none⟩ = some (.int .u64 d.d))
theorem E7.lasts (V : World) (m n j : Nat) (y : Ca) (t d : Sp) : Lasts (E7 V m n j y t d) := fun _ _ k f =>
  ⟨k.1.trans f, ⟨f.cell k.2.1.1 (by simp), f.cell k.2.1.2.1 (by simp), f.cell k.2.1.2.2.1 (by simp), f.cell k.2.1.2.2.2.1 (by simp), f.cell k.2.1.2.2.2.2 (by simp)⟩,
    ⟨f.cell k.2.2.1.1 (by simp), f.cell k.2.2.1.2.1 (by simp), f.cell k.2.2.1.2.2 (by simp)⟩, f.cell k.2.2.2.1 (by simp), f.cell k.2.2.2.2.1 (by simp), f.cell k.2.2.2.2.2 (by simp)⟩
theorem E7.size {V : World} {m n j : Nat} {y : Ca} {t d : Sp} (w : World) (k : E7 V m n j y t d w) : V.heap.size ≤ w.heap.size := k.1.size
theorem E7.of {V : World} {m n j : Nat} {y : Ca} {t : Sp} {d : Dn} {a : World} (f : Fr V a []) (x : CB a m y) (s : SR a n t) (k : NB a j d) : E7 V m n j y t d.st a := ⟨f, x.cells, arow s, k.cells.c5, k.cells.c6, k.cells.c7⟩

set_option maxHeartbeats 4000000 in
set_option maxRecDepth 100000 in
theorem ride_eta (h : Ho) (c : Ca) (s : Sp) (q e : Int) (w : World) (ok : s.ok) (hT : Tz w) (hk : c.k ≤ 9223372036854775807) (n : Nat) (H : EtaIs h c s q e n) (hn : n < 4000) :
    Calls Tryz.prog 24 #[h.v, c.v, s.v, callV q e] w fun x w' => x = .returned (.int .i64 ((n : Int) + 1)) ∧ Fr w w' [] := by
  have ST : Hid (∀ (k : Nat) (x : Ca) (t : Sp), k ≤ n → goC h c s k = (x, t) → x.k ≤ 9223372036854775807 → ∃ y d, (∀ W, Tz W → Calls Tryz.prog 43 #[h.v, x.v, t.v, .bool false] W fun v w' => v = .returned (.tuple #[y.v, d.v]) ∧ Fr W w' []) ∧
      y.k ≤ 9223372036854775807 ∧ t.ok ∧ d.st.ok ∧ opD d q e = decide (k = n) ∧ goC h c s (k + 1) = (y, t.less d.st)) := by
    refine Lib.hid ?_
    intro k x t kn hg hx
    have tk : t.ok := by have := goC_ok (h := h) (c := c) ok k; rw [hg] at this; exact this
    obtain ⟨y, d, hy⟩ : ∃ y d, x.tick h t false = (y, d) := ⟨_, _, rfl⟩
    refine ⟨y, d, fun W hW => ctick_any h x t false W tk hW hx y d hy, ?_, tk, ?_, ?_, ?_⟩
    · have := tick_held (h := h) (s := t) (ob := false) hx
      rw [hy] at this; exact this
    · have := tick_st_fine h x tk false
      rw [hy] at this; exact this
    · have e1 : hitC h c s q e k = opD d q e := by unfold hitC; rw [hg]; show opD (x.tick h t false).2 q e = _; rw [hy]
      rw [← e1]
      by_cases g : k = n
      · rw [decide_eq_true g, g]; exact H.hit
      · rw [decide_eq_false g]; exact H.no k (by omega)
    · simp only [goC]
      rw [hg]
      show ((x.tick h t false).1, t.less (x.tick h t false).2.st) = _
      rw [hy]
  have OP := Lib.hid (fun (d : Dn) (b : Bool) (hb : b = opD d q e) W => opens_any d q e W b hb)
  have WI := Lib.hid (fun (t d : Sp) (tk : t.ok) (dk : d.ok) (r : Sp) (hr : r = t.less d) W => without_any t d W tk dk r hr)
  have TB := Lib.hid (LE.new w h c s q e)
  have HT := Lib.hid hT
  have HK0 := Lib.hid hk
  have G0 := Lib.hid (show goC h c s 0 = (c, s) from rfl)
  obtain ⟨go, hgo⟩ : ∃ go, go = goC h c s := ⟨_, rfl⟩
  rw [← hgo] at ST G0
  clear hT hk H ok hgo
  obtain ⟨hc, hfl, hs, hd⟩ := h
  obtain ⟨⟨cp, ce, co, cr⟩, ck⟩ := c
  obtain ⟨sp, su, sd⟩ := s
  dsimp only [Ho.v, Ho.box, Ca.v, Ca.box, Sp.v, Sp.box, callV, callBox] at *
  go_enter Tryz.func24, Tryz.ntmps24
  go_wp2
  generalize World.alloc (World.alloc (World.alloc (World.alloc w _) _) _) _ = w1 at *
  go_loopw [9] (fun s9 wx => ∃ (k : Nat) (x : Ca) (t : Sp), s9 = .int .i64 ((k : Int) + 1) ∧ Hid (k ≤ n) ∧ Hid (go k = (x, t)) ∧ Hid (x.k ≤ 9223372036854775807) ∧ Hid (LE w ⟨hc, hfl, hs, hd⟩ x t q e wx)) (fun s9 _ => n + 1 - (intOf s9).toNat)
  case atStart => exact ⟨0, _, _, rfl, Lib.hid (Nat.zero_le _), G0, HK0, TB⟩
  case round =>
    clear TB G0 HK0
    obtain ⟨k, x, t, rfl, HK, HG, HX, HLx⟩ := hrel
    have hkn := HK.out
    obtain ⟨y, d, TI, hy, tk, dk, hop, hg2⟩ := ST.out k x t hkn HG.out HX.out
    obtain ⟨r, hr⟩ : ∃ r, r = t.less d.st := ⟨_, rfl⟩
    rw [← hr] at hg2
    have HG2 := Lib.hid hg2
    have HY := Lib.hid hy
    have ON := Lib.hid (OP.out d _ hop.symm)
    have WO := Lib.hid (WI.out t d.st tk dk r hr)
    have TI := Lib.hid TI
    have ZT := Lib.hid (HT.out.fr HLx.out.f)
    have hlt : ((k : Int) + 1) < 1048576 := by omega
    clear ST OP WI hr hg2 hy tk dk hop HG HX
    obtain ⟨⟨xp, xe, xo, xr⟩, xk⟩ := x
    obtain ⟨tp, tu, td⟩ := t
    obtain ⟨⟨yp, ye, yo, yr⟩, yk⟩ := y
    obtain ⟨eo, ec, ef, ea, em, ⟨dc, du, dd⟩⟩ := d
    obtain ⟨rp, ru, rd⟩ := r
    dsimp only [Ca.v, Sp.v, Dn.v] at TI ON WO
    obtain ⟨i0, i1, i2, i3⟩ := HLx.out.h.cells
    obtain ⟨c0, c1, c2, c3, c4⟩ := HLx.out.c.cells
    obtain ⟨s0, s1, s2⟩ := arow HLx.out.s
    dsimp only at i0 i1 i2 i3 c0 c1 c2 c3 c4 s0 s1 s2
    go_wp2_with fail
    with_reducible refine (TI.out _ ZT.out).mono ?_
    rintro v w2 ⟨rfl, hf⟩
    have T2 := Lib.hid ((HLx.out.fr hf).fr (two_fr w2 ⟨⟨yp, ye, yo, yr⟩, yk⟩ ⟨eo, ec, ef, ea, em, ⟨dc, du, dd⟩⟩))
    have P2 := Lib.hid (PD.new w2 ⟨⟨yp, ye, yo, yr⟩, yk⟩ ⟨eo, ec, ef, ea, em, ⟨dc, du, dd⟩⟩)
    clear hf i0 i1 i2 i3 c0 c1 c2 c3 c4 s0 s1 s2 HLx ZT TI
    dsimp only [Ca.box, Dn.box] at T2 P2
    go_upto_region 5 with fail
    obtain ⟨m, hm⟩ : ∃ m, m = w2.heap.size := ⟨_, rfl⟩
    generalize World.alloc (World.alloc w2 _) _ = w3 at *
    rw [← hm] at P2
    rw [← hm]
    clear hm
    obtain ⟨n0, n1, n2, n3, n4, n5, n6, n7⟩ := P2.out.d.cells
    obtain ⟨t0, t1⟩ := two_row T2.out.t
    dsimp only at n0 n1 n2 n3 n4 n5 n6 n7
    go_wp2_with fail
    with_reducible refine (ON.out _).mono ?_
    rintro v w4 ⟨rfl, hf⟩
    have T4 := Lib.hid (T2.out.fr hf)
    have X4 := Lib.hid (P2.out.x.fr hf (by simp))
    have N4 := Lib.hid (P2.out.d.fr hf (by simp))
    clear hf n0 n1 n2 n3 n4 n5 n6 n7 t0 t1 T2 P2 ON
    by_cases g : k = n
    · have hb : decide (k = n) = true := decide_eq_true g
      clear WO
      rw [hb]
      subst g
      go_wp2
      go_ret
      exact ⟨rfl, T4.out.f⟩
    · have hb : decide (k = n) = false := decide_eq_false g
      rw [hb]
      go_wp2_with fail
      refine wp_region_noPanic ?_
      refine wp_region_mix (M := E7 w4 m (w.heap.size + 2) (m + 1) ⟨⟨yp, ye, yo, yr⟩, yk⟩ ⟨tp, tu, td⟩ ⟨dc, du, dd⟩) (fun _ => none) [] w4.heap.size 5 (by kernel_rfl) (by kernel_rfl) (by kernel_rfl) (E7.lasts _ _ _ _ _ _ _) E7.size (E7.lasts _ _ _ _ _ _ _ _ _ (E7.of (Fr.refl _ _) X4.out T4.out.s N4.out) (Fr.drew _ [])) ?_
      refine wpMixU_take (i := 0) (oi := _) (v := ?mv1) (by decide) (by kernel_rfl) (by simp only [List.getElem?_toArray, List.getElem?_cons_zero]; rfl) (by rfl) (by kernel_rfl) (by kernel_rfl) (by kernel_rfl) (by rfl) ?my1 ?mr1
      case my1 => (intro M' hst him w hM; have hSw := him w hM; (try dsimp only [E7] at hSw); go_simp; refine Came.value ?_ hM; with_reducible rfl)
      try simp only [Act.put, List.setIfInBounds_toArray, List.set_cons_zero, List.set_cons_succ]
      refine wpMixU_take (i := 1) (oi := _) (v := ?mv2) (by decide) (by kernel_rfl) (by simp only [List.getElem?_toArray, List.getElem?_cons_zero, List.getElem?_cons_succ]; rfl) (by rfl) (by kernel_rfl) (by kernel_rfl) (by kernel_rfl) (by rfl) ?my2 ?mr2
      case my2 => (intro M' hst him w hM; have hSw := him w hM; (try dsimp only [E7] at hSw); go_simp; refine Came.value ?_ hM; with_reducible rfl)
      try simp only [Act.put, List.setIfInBounds_toArray, List.set_cons_zero, List.set_cons_succ]
      refine wpMixU_take (i := 2) (oi := _) (v := ?mv3) (by decide) (by kernel_rfl) (by simp only [List.getElem?_toArray, List.getElem?_cons_zero, List.getElem?_cons_succ]; rfl) (by rfl) (by kernel_rfl) (by kernel_rfl) (by kernel_rfl) (by rfl) ?my3 ?mr3
      case my3 => (intro M' hst him w hM; have hSw := him w hM; (try dsimp only [E7] at hSw); go_simp; refine Came.value ?_ hM; with_reducible rfl)
      try simp only [Act.put, List.setIfInBounds_toArray, List.set_cons_zero, List.set_cons_succ]
      refine wpMixU_take (i := 3) (oi := _) (v := ?mv4) (by decide) (by kernel_rfl) (by simp only [List.getElem?_toArray, List.getElem?_cons_zero, List.getElem?_cons_succ]; rfl) (by rfl) (by kernel_rfl) (by kernel_rfl) (by kernel_rfl) (by rfl) ?my4 ?mr4
      case my4 => (intro M' hst him w hM; have hSw := him w hM; (try dsimp only [E7] at hSw); go_simp; refine Came.value ?_ hM; with_reducible rfl)
      try simp only [Act.put, List.setIfInBounds_toArray, List.set_cons_zero, List.set_cons_succ]
      refine wpMixU_take (i := 4) (oi := _) (v := ?mv5) (by decide) (by kernel_rfl) (by simp only [List.getElem?_toArray, List.getElem?_cons_zero, List.getElem?_cons_succ]; rfl) (by rfl) (by kernel_rfl) (by kernel_rfl) (by kernel_rfl) (by rfl) ?my5 ?mr5
      case my5 => (intro M' hst him w hM; have hSw := him w hM; (try dsimp only [E7] at hSw); go_simp; exact Came.call ((WO.out w).mono fun e w' ⟨he, hf⟩ => ⟨he, hst _ _ hM hf⟩) (by with_reducible rfl))
      try simp only [Act.put, List.setIfInBounds_toArray, List.set_cons_zero, List.set_cons_succ]
      refine wpMixU_tail (fun _ => True) (by kernel_rfl) (fun _ _ => trivial) ?_
      intro w5 hM
      have T5 := Lib.hid (T4.out.fr hM.1)
      clear hM T4 X4 N4 WO
      have T6 := Lib.hid (T5.out.car ⟨⟨yp, ye, yo, yr⟩, yk⟩)
      obtain ⟨c0, c1, c2, c3, c4⟩ := T5.out.c.cells
      have y0 := T5.out.c.fz 0
      have y1 := T5.out.c.fz 1
      have y2 := T5.out.c.fz 2
      have y3 := T5.out.c.fz 3
      have y4 := T5.out.c.fz 4
      dsimp only [carSet] at T6 c0 c1 c2 c3 c4
      refine wpAnyH_ready (rs := [5]) (by kernel_rfl) (by simp) ?_
      refine AllReadyH.cons (o := _) rfl (fun K hK => ?_) AllReadyH.nil
      go_simp
      refine hK.out _ _ trivial (fun hHeld => ?_)
      clear hK K
      try simp only [Act.put, List.setIfInBounds_toArray, List.set_cons_zero, List.set_cons_succ]
      generalize World.setCell (World.setCell (World.setCell (World.setCell (World.setCell w5 _ _) _ _) _ _) _ _) _ _ = w6 at *
      clear c0 c1 c2 c3 c4 y0 y1 y2 y3 y4 T5
      have T7 := Lib.hid (T6.out.stops ⟨rp, ru, rd⟩)
      obtain ⟨s0, s1, s2⟩ := arow T6.out.s
      have z0 := frozen_of_row _ _ 0 _ _ T6.out.s
      have z1 := frozen_of_row _ _ 1 _ _ T6.out.s
      have z2 := frozen_of_row _ _ 2 _ _ T6.out.s
      dsimp only [spSet] at T7 s0 s1 s2
      refine wpAnyH_ready (rs := [6]) (by kernel_rfl) (by simp) ?_
      refine AllReadyH.cons (o := _) rfl (fun K hK => ?_) AllReadyH.nil
      go_simp
      refine hK.out _ _ trivial (fun hHeld => ?_)
      clear hK K
      try simp only [Act.put, List.setIfInBounds_toArray, List.set_cons_zero, List.set_cons_succ]
      refine wpAnyH_done (by kernel_rfl) ?_ _
      refine NoPanic.normal ?_
      clear hHeld s0 s1 s2 z0 z1 z2 T6
      generalize World.setCell (World.setCell (World.setCell w6 _ _) _ _) _ _ = w7 at *
      have hw1 : IntKind.i64.wrap ((k : Int) + 1 + 1) = (k : Int) + 1 + 1 := IntWalk.i64_in _ (by omega)
      go_wp2
      go_roundw
      case rel => exact ⟨k + 1, ⟨⟨yp, ye, yo, yr⟩, yk⟩, ⟨rp, ru, rd⟩, by go_num, Lib.hid (by omega), HG2, HY, T7⟩
      case measure => simp [intOf]; omega
end Go.Proofs.YtdmomnhacijmpaaGreatDoor

namespace Go.Proofs.YtdmomnhacijmpaaGreatDoor
open Go.RowKit

/-- What Of's drawn region reads. -/
def E3 (V : World) (m : Nat) (h : Ho) (c : Ca) (s : Sp) (q e : Int) (a : World) : Prop := Fr V a [] ∧
  (a.cell? ⟨m, 0, none⟩ = some (.int .i64 h.c) ∧ a.cell? ⟨m, 1, none⟩ = some (.int .i64 h.f) ∧ a.cell? ⟨m, 2, none⟩ = some (.int .i64 h.s) ∧ a.cell? ⟨m, 3, none⟩ = some (.int .i64 h.d)) ∧
  (a.cell? ⟨m + 1, 0, none⟩ = some (.int .i64 c.x.p) ∧ a.cell? ⟨m + 1, 1, none⟩ = some (.int .i64 c.x.e) ∧ a.cell? ⟨m + 1, 2, none⟩ = some (.int .i64 c.x.o) ∧ a.cell? ⟨m + 1, 3, none⟩ = some (.bool c.x.r) ∧ a.cell? ⟨m + 1, 4, none⟩ = some (.int .i64 c.k)) ∧
  (a.cell? ⟨m + 2, 0, none⟩ = some (.int .u64 s.c) ∧ a.cell? ⟨m + 2, 1, none⟩ = some (.int .u64 s.u) ∧ a.cell? ⟨m + 2, 2, none⟩ = some (.int .u64 s.d)) ∧
  (a.cell? ⟨m + 3, 0, none⟩ = some (.int .i64 q) ∧ a.cell? ⟨m + 3, 1, none⟩ = some (.int .i64 e))
theorem E3.lasts (V : World) (m : Nat) (h : Ho) (c : Ca) (s : Sp) (q e : Int) : Lasts (E3 V m h c s q e) := fun _ _ k f =>
  ⟨k.1.trans f, ⟨f.cell k.2.1.1 (by simp), f.cell k.2.1.2.1 (by simp), f.cell k.2.1.2.2.1 (by simp), f.cell k.2.1.2.2.2 (by simp)⟩,
    ⟨f.cell k.2.2.1.1 (by simp), f.cell k.2.2.1.2.1 (by simp), f.cell k.2.2.1.2.2.1 (by simp), f.cell k.2.2.1.2.2.2.1 (by simp), f.cell k.2.2.1.2.2.2.2 (by simp)⟩,
    ⟨f.cell k.2.2.2.1.1 (by simp), f.cell k.2.2.2.1.2.1 (by simp), f.cell k.2.2.2.1.2.2 (by simp)⟩, f.cell k.2.2.2.2.1 (by simp), f.cell k.2.2.2.2.2 (by simp)⟩
theorem LE.e3 {W : World} {h : Ho} {c : Ca} {s : Sp} {q e : Int} {a : World} (k : LE W h c s q e a) : E3 a W.heap.size h c s q e a := ⟨Fr.refl _ _, k.h.cells, k.c.cells, arow k.s, two_row k.t⟩

set_option maxHeartbeats 4000000 in
set_option maxRecDepth 100000 in
theorem eta_any (h : Ho) (c : Ca) (s : Sp) (q e : Int) (w : World) (hk : h.ok) (ok : s.ok) (hT : Tz w) (hc : c.k ≤ 9223372036854775807) (r : Int) (H : EtaV h c s q e r) :
    Calls Tryz.prog 10 #[h.v, c.v, s.v, callV q e] w fun x w' => x = .returned (.int .i64 r) ∧ Fr w w' [] := by
  have TB := Lib.hid (LE.new w h c s q e)
  have HT := Lib.hid hT
  obtain ⟨bm, hbm⟩ : ∃ b, b = decide (mayC h.f q e) := ⟨_, rfl⟩
  obtain ⟨br, hbr⟩ : ∃ b, b = c.right h := ⟨_, rfl⟩
  have MA := Lib.hid (fun W => cmay_any h.f q e hk.2.1.1 hk.2.1.2 W bm hbm)
  have RG := Lib.hid (fun W => cright_any h c W br hbr)
  have HV : Hid ((bm = true ∧ br = true ∧ ∃ z : Sp, (∀ W, Calls Tryz.prog 25 #[s.v, callV q e] W fun x w' => x = .returned z.v ∧ Fr W w' []) ∧
      (∀ W, Tz W → Calls Tryz.prog 24 #[h.v, c.v, z.v, callV q e] W fun x w' => x = .returned (.int .i64 r) ∧ Fr W w' [])) ∨ (¬ (bm = true ∧ br = true) ∧ r = 1048576)) := by
    refine Lib.hid ?_
    rcases H with ⟨R, m, n, a, b, _, rfl⟩ | ⟨g, rfl⟩
    · refine .inl ⟨by rw [hbm]; exact decide_eq_true m, by rw [hbr]; exact (right_iff h c).2 R, s.put q e, fun W => put_any s q e W ok _ rfl, fun W hW => ride_eta h c _ q e W (Sp.put_ok ok q e) hW hc n a b⟩
    · refine .inr ⟨fun k => g ?_, rfl⟩
      rw [hbm, hbr, decide_eq_true_iff, right_iff] at k
      exact ⟨k.2, k.1⟩
  clear hT hk ok hc H hbm hbr
  obtain ⟨hc, hfl, hs, hd⟩ := h
  obtain ⟨⟨cp, ce, co, cr⟩, ck⟩ := c
  obtain ⟨sp, su, sd⟩ := s
  dsimp only [Ho.v, Ho.box, Ca.v, Ca.box, Sp.v, Sp.box, callV, callBox] at *
  go_enter Tryz.func10, Tryz.ntmps10
  go_upto_region 1 with fail
  generalize World.alloc (World.alloc (World.alloc (World.alloc w _) _) _) _ = w1 at *
  obtain ⟨i0, i1, i2, i3⟩ := TB.out.h.cells
  obtain ⟨c0, c1, c2, c3, c4⟩ := TB.out.c.cells
  obtain ⟨t0, t1⟩ := two_row TB.out.t
  dsimp only at i0 i1 i2 i3 c0 c1 c2 c3 c4
  go_wp2_with fail
  with_reducible refine (MA.out _).mono ?_
  rintro v w2 ⟨rfl, hf⟩
  have T2 := Lib.hid (TB.out.fr hf)
  clear hf i0 i1 i2 i3 c0 c1 c2 c3 c4 t0 t1 TB MA
  obtain ⟨i0, i1, i2, i3⟩ := T2.out.h.cells
  obtain ⟨c0, c1, c2, c3, c4⟩ := T2.out.c.cells
  dsimp only at i0 i1 i2 i3 c0 c1 c2 c3 c4
  cases bm with
  | false =>
    have HR : Hid (r = 1048576) := by
      rcases HV.out with ⟨k, _⟩ | ⟨_, k⟩
      · cases k
      · exact k
    clear HV RG
    go_wp2
    go_ret
    exact ⟨by rw [HR.out]; rfl, T2.out.f⟩
  | true =>
    go_wp2_with fail
    with_reducible refine (RG.out _).mono ?_
    rintro v w3 ⟨rfl, hf⟩
    have T3 := Lib.hid (T2.out.fr hf)
    clear hf i0 i1 i2 i3 c0 c1 c2 c3 c4 T2 RG
    cases br with
    | false =>
      have HR : Hid (r = 1048576) := by
        rcases HV.out with ⟨_, k, _⟩ | ⟨_, k⟩
        · cases k
        · exact k
      clear HV
      go_wp2
      go_ret
      exact ⟨by rw [HR.out]; rfl, T3.out.f⟩
    | true =>
      obtain ⟨⟨zp, zu, zd⟩, P0, R0⟩ : ∃ z : Sp, (∀ W, Calls Tryz.prog 25 #[(Sp.mk sp su sd).v, callV q e] W fun x w' => x = .returned z.v ∧ Fr W w' []) ∧
          (∀ W, Tz W → Calls Tryz.prog 24 #[(Ho.mk hc hfl hs hd).v, (Ca.mk ⟨cp, ce, co, cr⟩ ck).v, z.v, callV q e] W fun x w' => x = .returned (.int .i64 r) ∧ Fr W w' []) := by
        rcases HV.out with ⟨_, _, z, k⟩ | ⟨k, _⟩
        · exact ⟨z, k⟩
        · exact (k (by simp)).elim
      have PU := Lib.hid P0
      have RI := Lib.hid R0
      clear P0 R0 HV
      dsimp only [Ho.v, Ca.v, Sp.v, callV] at PU RI
      go_wp2_with fail
      have D3 := Lib.hid (E3.lasts _ _ _ _ _ _ _ _ _ T3.out.e3 (Fr.drew w3 []))
      refine wp_region_det (S := E3 w3 w.heap.size ⟨hc, hfl, hs, hd⟩ ⟨⟨cp, ce, co, cr⟩, ck⟩ ⟨sp, su, sd⟩ q e) (by kernel_rfl) D3.out ?_
      refine wpDet_take (i := 0) (oi := _) (v := ?dv1) (by simp only [List.getElem?_toArray, List.getElem?_cons_zero]; rfl) (by kernel_rfl) (by kernel_rfl) (by kernel_rfl) (Or.inl ⟨by rfl, ?dy1⟩) ?dr1
      case dy1 => (intro w hSw; have hS0 := hSw; (try dsimp only [E3] at hSw); go_simp; refine Came.value ?_ hS0; with_reducible rfl)
      try simp only [Act.put, List.setIfInBounds_toArray, List.set_cons_zero, List.set_cons_succ]
      refine wpDet_take (i := 1) (oi := _) (v := ?dv2) (by simp only [List.getElem?_toArray, List.getElem?_cons_zero, List.getElem?_cons_succ]; rfl) (by kernel_rfl) (by kernel_rfl) (by kernel_rfl) (Or.inl ⟨by rfl, ?dy2⟩) ?dr2
      case dy2 => (intro w hSw; have hS0 := hSw; (try dsimp only [E3] at hSw); go_simp; refine Came.value ?_ hS0; with_reducible rfl)
      try simp only [Act.put, List.setIfInBounds_toArray, List.set_cons_zero, List.set_cons_succ]
      refine wpDet_take (i := 2) (oi := _) (v := ?dv3) (by simp only [List.getElem?_toArray, List.getElem?_cons_zero, List.getElem?_cons_succ]; rfl) (by kernel_rfl) (by kernel_rfl) (by kernel_rfl) (Or.inl ⟨by rfl, ?dy3⟩) ?dr3
      case dy3 => (intro w hSw; have hS0 := hSw; (try dsimp only [E3] at hSw); go_simp; refine Came.value ?_ hS0; with_reducible rfl)
      try simp only [Act.put, List.setIfInBounds_toArray, List.set_cons_zero, List.set_cons_succ]
      refine wpDet_take (i := 3) (oi := _) (v := ?dv4) (by simp only [List.getElem?_toArray, List.getElem?_cons_zero, List.getElem?_cons_succ]; rfl) (by kernel_rfl) (by kernel_rfl) (by kernel_rfl) (Or.inl ⟨by rfl, ?dy4⟩) ?dr4
      case dy4 => (intro w hSw; have hS0 := hSw; (try dsimp only [E3] at hSw); go_simp; refine Came.value ?_ hS0; with_reducible rfl)
      try simp only [Act.put, List.setIfInBounds_toArray, List.set_cons_zero, List.set_cons_succ]
      refine wpDet_take (i := 5) (oi := _) (v := ?dv5) (by simp only [List.getElem?_toArray, List.getElem?_cons_zero, List.getElem?_cons_succ]; rfl) (by kernel_rfl) (by kernel_rfl) (by kernel_rfl) (Or.inl ⟨by rfl, ?dy5⟩) ?dr5
      case dy5 => (intro w hSw; have hS0 := hSw; (try dsimp only [E3] at hSw); go_simp; refine Came.value ?_ hS0; with_reducible rfl)
      try simp only [Act.put, List.setIfInBounds_toArray, List.set_cons_zero, List.set_cons_succ]
      refine wpDet_take (i := 4) (oi := _) (v := ?dv6) (by simp only [List.getElem?_toArray, List.getElem?_cons_zero, List.getElem?_cons_succ]; rfl) (by kernel_rfl) (by kernel_rfl) (by kernel_rfl) (Or.inl ⟨by rfl, ?dy6⟩) ?dr6
      case dy6 => (intro w hSw; go_simp; exact Came.call ((PU.out w).mono fun e w' ⟨he, hf⟩ => ⟨he, E3.lasts _ _ _ _ _ _ _ _ _ hSw hf⟩) (by with_reducible rfl))
      try simp only [Act.put, List.setIfInBounds_toArray, List.set_cons_zero, List.set_cons_succ]
      refine wpDet_take (i := 6) (oi := _) (v := ?dv7) (by simp only [List.getElem?_toArray, List.getElem?_cons_zero, List.getElem?_cons_succ]; rfl) (by kernel_rfl) (by kernel_rfl) (by kernel_rfl) (Or.inl ⟨by rfl, ?dy7⟩) ?dr7
      case dy7 => (intro w hSw; go_simp; exact Came.call ((RI.out w (HT.out.fr (T3.out.f.trans hSw.1))).mono fun e w' ⟨he, hf⟩ => ⟨he, E3.lasts _ _ _ _ _ _ _ _ _ hSw hf⟩) (by with_reducible rfl))
      try simp only [Act.put, List.setIfInBounds_toArray, List.set_cons_zero, List.set_cons_succ]
      refine wpDet_take (i := 7) (oi := _) (v := ?dv8) (by simp only [List.getElem?_toArray, List.getElem?_cons_zero, List.getElem?_cons_succ]; rfl) (by kernel_rfl) (by kernel_rfl) (by kernel_rfl) (Or.inl ⟨by rfl, ?dy8⟩) ?dr8
      case dy8 => (intro w hSw; have hS0 := hSw; (try dsimp only [E3] at hSw); go_simp; refine Came.value ?_ hS0; with_reducible rfl)
      try simp only [Act.put, List.setIfInBounds_toArray, List.set_cons_zero, List.set_cons_succ]
      refine wpDet_done (by kernel_rfl) ?_ _
      rintro w4 hS
      have F4 := Lib.hid (T3.out.f.trans hS.1)
      clear hS D3 T3 PU RI
      go_wp2
      go_ret
      exact ⟨rfl, F4.out⟩

/-- The stops and the call that are none, that one. -/
theorem eta_example : EtaV ⟨1, 4, 2, 2⟩ ⟨⟨2, 0, 0, false⟩, 0⟩ zSp 1 1 1 := by
  have R : RightIs ⟨1, 4, 2, 2⟩ ⟨⟨2, 0, 0, false⟩, 0⟩ := (right_iff _ _).1 (by decide)
  have H : EtaIs ⟨1, 4, 2, 2⟩ ⟨⟨2, 0, 0, false⟩, 0⟩ (zSp.put 1 1) 1 1 0 := ⟨by decide, fun k hk => absurd hk (Nat.not_lt_zero k)⟩
  exact EtaV.mk (n := 0) R ⟨by decide, by decide, by decide⟩ (by decide) H
set_option maxHeartbeats 2000000 in
set_option maxRecDepth 100000 in
theorem efirst_any (w : World) (hT : Tz w) : Calls Tryz.prog 4 #[] w fun e w' => e = .returned (.bool true) ∧ Fr w w' [] := by
  have HO : (Ho.mk 1 4 2 2).ok := by decide
  have SA := Lib.hid (fun W => cstart_any ⟨1, 4, 2, 2⟩ 2 W HO (by decide) (by decide) ⟨⟨2, 0, 0, false⟩, 0⟩ (by rfl))
  have OF := Lib.hid (fun W hT => eta_any ⟨1, 4, 2, 2⟩ ⟨⟨2, 0, 0, false⟩, 0⟩ zSp 1 1 W HO ⟨by decide, by decide, by decide⟩ hT (by decide) 1 eta_example)
  have HT := Lib.hid hT
  have B1 := Lib.hid (HB.new w ⟨1, 4, 2, 2⟩)
  have F1 := Lib.hid (Fr.alloc w (Ho.box ⟨1, 4, 2, 2⟩) [])
  clear hT HO
  dsimp only [Ho.v, Ho.box, Ca.v, Ca.box, Sp.v, zSp, callV] at *
  simp only [show ((0 : Nat) : Int) = 0 from rfl] at *
  go_enter Tryz.func4, Tryz.ntmps4
  go_wp2_with fail
  with_reducible refine (SA.out _).mono ?_
  rintro v w2 ⟨rfl, hf⟩
  have T2 : Hid (Fr w (w2.alloc (Ca.box ⟨⟨2, 0, 0, false⟩, 0⟩)) [] ∧ HB (w2.alloc (Ca.box ⟨⟨2, 0, 0, false⟩, 0⟩)) w.heap.size ⟨1, 4, 2, 2⟩ ∧ CB (w2.alloc (Ca.box ⟨⟨2, 0, 0, false⟩, 0⟩)) w2.heap.size ⟨⟨2, 0, 0, false⟩, 0⟩) :=
    Lib.hid ⟨(F1.out.trans hf).trans (Fr.alloc _ _ []), (HB.fr B1.out hf).fr (Fr.alloc _ _ []), CB.new _ _⟩
  clear hf SA B1 F1
  go_upto_region 3 with fail
  dsimp only [Ca.box] at T2
  generalize World.alloc w2 _ = w3 at *
  have T3 := Lib.hid (HT.out.fr T2.out.1)
  obtain ⟨i0, i1, i2, i3⟩ := T2.out.2.1.cells
  obtain ⟨c0, c1, c2, c3, c4⟩ := T2.out.2.2.cells
  dsimp only at i0 i1 i2 i3 c0 c1 c2 c3 c4
  go_wp2_with fail
  with_reducible refine (OF.out _ T3.out).mono ?_
  rintro v w4 ⟨rfl, hf⟩
  have F4 := Lib.hid (T2.out.1.trans hf)
  clear hf
  go_wp2
  go_ret
  exact ⟨rfl, F4.out⟩
end Go.Proofs.YtdmomnhacijmpaaGreatDoor
