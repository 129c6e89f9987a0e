/- What the laws of the estimate keep of the memory. -/
import Derived.Test.YtdmomnhacijmpaaDoorGEta
namespace Go.Proofs.YtdmomnhacijmpaaDoor
open Go.RowKit

theorem start_lev {h : Ho} (_hk : h.ok) {p : Int} (l : h.lev p) : startC h p = ⟨⟨p, 0, 0, false⟩, 0⟩ := by
  unfold startC
  rw [decide_eq_true l]; rfl
theorem lev_mul {h : Ho} (hk : h.ok) {a : Int} (a0 : 0 ≤ a) (a1 : a < h.f) : (0 ≤ a * h.s ∧ a * h.s ≤ h.top) ∧ h.lev (a * h.s) := by
  have hs := hk.2.2.1
  have p0 : 0 ≤ a * h.s := Int.mul_nonneg a0 (by omega)
  have p1 : a * h.s ≤ h.top := by unfold Ho.top; exact Int.mul_le_mul_of_nonneg_right (by omega) (by omega)
  exact ⟨⟨p0, p1⟩, ⟨hk, p0, p1⟩, Int.mul_emod_left _ _⟩
theorem lev_right {h : Ho} (hk : h.ok) {p o : Int} (l : h.lev p) (o0 : 0 ≤ o) (o1 : o ≤ h.d) : RightIs h ⟨⟨p, 0, o, false⟩, 0⟩ :=
  ⟨hk, l.1.2.1, l.1.2.2, (by decide : (-1 : Int) ≤ 0), (by decide : (0 : Int) ≤ 1), o0, o1, fun _ => ⟨l, rfl⟩, .inl l, .inl rfl⟩
theorem zSp_ok : zSp.ok := ⟨by decide, by decide, by decide⟩
/-- A call and a car in boxes of the law's own. -/
structure NE (W : World) (h : Ho) (bq : Nat) (q e : Int) (bc : Nat) (c : Ca) (a : World) : Prop where
  b : LB W h a
  t : a.heap[bq]? = some (callBox q e)
  c : CB a bc c
theorem NE.fr {W : World} {h : Ho} {bq : Nat} {q e : Int} {bc : Nat} {c : Ca} {a a' : World} (k : NE W h bq q e bc c a) (f : Fr a a' []) : NE W h bq q e bc c a' := ⟨k.b.fr f, f.heap k.t (by simp), k.c.fr f (by simp)⟩
/-- A house's, a call's boxes; a car in a box of the call's own. -/
structure LO (W : World) (b : Nat) (h : Ho) (q e : Int) (c : Ca) (a : World) : Prop where
  f : Fr W a []
  h : HB a W.heap.size h
  t : a.heap[W.heap.size + 1]? = some (callBox q e)
  c : CB a b c
  lo : W.heap.size + 1 < b
theorem LO.fr {W : World} {b : Nat} {h : Ho} {q e : Int} {c : Ca} {a a' : World} (k : LO W b h q e c a) (f : Fr a a' []) : LO W b h q e c a' := ⟨k.f.trans f, k.h.fr f, f.heap k.t (by simp), k.c.fr f (by simp), k.lo⟩
theorem LO.car {W : World} {b : Nat} {h : Ho} {q e : Int} {c : Ca} {a : World} (k : LO W b h q e c a) (z : Ca) : LO W b h q e z (carSet a b z) :=
  have f := carSet_fr a b z
  have lo := k.lo
  ⟨k.f.new f (by simp; omega), f.heap k.h (by simp; omega), f.heap k.t (by simp; omega), k.c.set z, k.lo⟩
theorem LO.door {W : World} {b : Nat} {h : Ho} {q e : Int} {c : Ca} {a : World} (k : LO W b h q e c a) (z : Int) : LO W b h q e ⟨⟨c.x.p, c.x.e, z, c.x.r⟩, c.k⟩ (a.setCell ⟨b, 2, none⟩ (.int .i64 z)) :=
  have f := Fr.setCell a b 2 (.int .i64 z) (S := [b]) (by simp)
  have lo := k.lo
  ⟨k.f.new f (by simp; omega), f.heap k.h (by simp; omega), f.heap k.t (by simp; omega), k.c.put2 z, k.lo⟩
/-- A house's, a call's boxes. -/
structure LP (W : World) (h : Ho) (q e : Int) (a : World) : Prop where
  f : Fr W a []
  h : HB a W.heap.size h
  t : a.heap[W.heap.size + 1]? = some (callBox q e)
theorem LP.fr {W : World} {h : Ho} {q e : Int} {a a' : World} (k : LP W h q e a) (f : Fr a a' []) : LP W h q e a' := ⟨k.f.trans f, k.h.fr f, f.heap k.t (by simp)⟩
theorem LP.new (w : World) (h : Ho) (q e : Int) : LP w h q e ((w.alloc h.box).alloc (callBox q e)) := by
  have a2 := heap_alloc_new (w.alloc h.box) (callBox q e)
  rw [show (w.alloc h.box).heap.size = w.heap.size + 1 by simp] at a2
  exact ⟨(Fr.alloc _ _ []).trans (Fr.alloc _ _ []), (HB.new w h).fr (Fr.alloc _ _ []), a2⟩
end Go.Proofs.YtdmomnhacijmpaaDoor
