/- What the laws of a car keep of the memory. -/
import Derived.Test.YtgcgbiaigbblkaaDoorCaFirst
import Derived.Test.YtgcgbiaigbblkaaDoorNum
import Derived.Test.YtgcgbiaigbblkaaDoorInts
namespace Go.Proofs.YtgcgbiaigbblkaaDoor
open Go.RowKit

/-- A house's box, the stops' box, a car in a box of the call's own. -/
structure LL (W : World) (b : Nat) (h : Ho) (s : Sp) (c : Ca) (a : World) : Prop where
  f : Fr W a []
  h : HB a W.heap.size h
  s : SR a (W.heap.size + 1) s
  c : CB a b c
  lo : W.heap.size + 1 < b
theorem LL.fr {W : World} {b : Nat} {h : Ho} {s : Sp} {c : Ca} {a a' : World} (q : LL W b h s c a) (f : Fr a a' []) : LL W b h s c a' := ⟨q.f.trans f, q.h.fr f, f.heap q.s (by simp), q.c.fr f (by simp), q.lo⟩
theorem LL.car {W : World} {b : Nat} {h : Ho} {s : Sp} {c : Ca} {a : World} (q : LL W b h s c a) (z : Ca) : LL W b h s z (carSet a b z) :=
  have f := carSet_fr a b z
  ⟨q.f.new f (by have := q.lo; simp; omega), f.heap q.h (by have := q.lo; simp; omega), f.heap q.s (by have := q.lo; simp; omega), q.c.set z, q.lo⟩
/-- A house's box and the stops' box. -/
structure LA (W : World) (h : Ho) (s : Sp) (a : World) : Prop where
  f : Fr W a []
  h : HB a W.heap.size h
  s : SR a (W.heap.size + 1) s
theorem LA.fr {W : World} {h : Ho} {s : Sp} {a a' : World} (q : LA W h s a) (f : Fr a a' []) : LA W h s a' := ⟨q.f.trans f, q.h.fr f, f.heap q.s (by simp)⟩
theorem LA.new (w : World) (h : Ho) (s : Sp) : LA w h s ((w.alloc h.box).alloc (Sp.box 37 s)) := by
  have a2 := heap_alloc_new (w.alloc h.box) (Sp.box 37 s)
  rw [show (w.alloc h.box).heap.size = w.heap.size + 1 by simp] at a2
  exact ⟨(Fr.alloc _ _ []).trans (Fr.alloc _ _ []), (HB.new w h).fr (Fr.alloc _ _ []), a2⟩
theorem LA.own {W : World} {h : Ho} {s : Sp} {a : World} (q : LA W h s a) (c : Ca) : LL W a.heap.size h s c (a.alloc c.box) :=
  ⟨q.f.trans (Fr.alloc _ _ []), q.h.fr (Fr.alloc _ _ []), (Fr.alloc _ _ []).heap q.s (by simp), CB.new a c, size_of_row q.s⟩
/-- A house's box, a car in a box of the call's own. -/
structure LH (W : World) (b : Nat) (h : Ho) (c : Ca) (a : World) : Prop where
  f : Fr W a []
  h : HB a W.heap.size h
  c : CB a b c
  lo : W.heap.size < b
theorem LH.fr {W : World} {b : Nat} {h : Ho} {c : Ca} {a a' : World} (q : LH W b h c a) (f : Fr a a' []) : LH W b h c a' := ⟨q.f.trans f, q.h.fr f, q.c.fr f (by simp), q.lo⟩
theorem LH.car {W : World} {b : Nat} {h : Ho} {c : Ca} {a : World} (q : LH W b h c a) (z : Ca) : LH W b h z (carSet a b z) :=
  have f := carSet_fr a b z
  ⟨q.f.new f (by have := q.lo; simp; omega), f.heap q.h (by have := q.lo; simp; omega), q.c.set z, q.lo⟩
/-- A house's box. -/
structure LB (W : World) (h : Ho) (a : World) : Prop where
  f : Fr W a []
  h : HB a W.heap.size h
theorem LB.fr {W : World} {h : Ho} {a a' : World} (q : LB W h a) (f : Fr a a' []) : LB W h a' := ⟨q.f.trans f, q.h.fr f⟩
theorem LB.new (w : World) (h : Ho) : LB w h (w.alloc h.box) := ⟨Fr.alloc _ _ [], HB.new w h⟩
theorem LB.own {W : World} {h : Ho} {a : World} (q : LB W h a) (c : Ca) : LH W a.heap.size h c (a.alloc c.box) :=
  ⟨q.f.trans (Fr.alloc _ _ []), q.h.fr (Fr.alloc _ _ []), CB.new a c, size_of_row q.h⟩
/-- A house's cells, in a world that came of V. -/
def F4 (V : World) (m : Nat) (h : Ho) (a : World) : Prop := Fr V a [] ∧
  a.cell? ⟨m, 0, none⟩ = some (.int .i64 h.c) ∧ a.cell? ⟨m, 1, none⟩ = some (.int .i64 h.f) ∧ a.cell? ⟨m, 2, none⟩ = some (.int .i64 h.s) ∧ a.cell? ⟨m, 3, none⟩ = some (.int .i64 h.d)
theorem F4.of {V : World} {m : Nat} {h : Ho} {a : World} (f : Fr V a []) (b : HB a m h) : F4 V m h a := ⟨f, b.cells⟩
theorem F4.lasts (V : World) (m : Nat) (h : Ho) : Lasts (F4 V m h) := fun _ _ q f => ⟨q.1.trans f, f.cell q.2.1 (by simp), f.cell q.2.2.1 (by simp), f.cell q.2.2.2.1 (by simp), f.cell q.2.2.2.2 (by simp)⟩
theorem F4.size {V : World} {m : Nat} {h : Ho} (w : World) (q : F4 V m h w) : V.heap.size ≤ w.heap.size := q.1.size
theorem PD.new (w : World) (x : Ca) (d : Dn) : PD w w.heap.size (w.heap.size + 1) x d ((w.alloc x.box).alloc d.box) := by
  have n2 := NB.new (w.alloc x.box) d
  rw [show (w.alloc x.box).heap.size = w.heap.size + 1 by simp] at n2
  exact ⟨(Fr.alloc _ _ []).trans (Fr.alloc _ _ []), (CB.new w x).fr (Fr.alloc _ _ []) (by simp), n2, Nat.le_refl _, Nat.le_succ _⟩
/-- The two boxes that a tick's answer is put in. -/
theorem two_fr (w : World) (x : Ca) (d : Dn) : Fr w ((w.alloc x.box).alloc d.box) [] := (Fr.alloc _ _ []).trans (Fr.alloc _ _ [])
theorem start_held (h : Ho) (p : Int) : (startC h p).k ≤ 9223372036854775807 := (by decide : (0 : Int) ≤ 9223372036854775807)
theorem tick_held {h : Ho} {c : Ca} {s : Sp} {ob : Bool} (hk : c.k ≤ 9223372036854775807) : (c.tick h s ob).1.k ≤ 9223372036854775807 := by
  unfold Ca.tick
  split
  · split
    · dsimp only [heldK]
      split
      · decide
      · split
        · exact hk
        · split
          · omega
          · decide
    · split
      · split <;> (dsimp only; decide)
      · split <;> (dsimp only; decide)
  · exact hk
end Go.Proofs.YtgcgbiaigbblkaaDoor
