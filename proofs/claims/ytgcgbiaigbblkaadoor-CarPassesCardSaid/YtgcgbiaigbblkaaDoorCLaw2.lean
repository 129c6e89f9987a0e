/- What the laws of a car keep of the memory: the stops in a box that is turned. -/
import Derived.Test.YtgcgbiaigbblkaaDoorCLaw
import Derived.Test.YtgcgbiaigbblkaaDoorCaOut
import Derived.Test.YtgcgbiaigbblkaaDoorAhd3
namespace Go.Proofs.YtgcgbiaigbblkaaDoor
open Go.RowKit

theorem tick_st_ok (h : Ho) (c : Ca) {s : Sp} (ok : s.ok) (ob : Bool) : (c.tick h s ob).2.st.ok := by
  rcases tick_opens h c ok ob with ⟨_, q⟩ | ⟨_, q, _⟩
  · exact (done_facts ok q).2.2.2.2.2.1
  · rw [q]; exact ⟨(by decide : (0 : Nat) < 18446744073709551616), (by decide : (0 : Nat) < 18446744073709551616), (by decide : (0 : Nat) < 18446744073709551616)⟩

/-- A house's box, the stops' box, a car in a box of the call's own, all below B. -/
structure LQ (W : World) (B b n : Nat) (h : Ho) (s : Sp) (c : Ca) (a : World) : Prop where
  f : Fr W a []
  h : HB a W.heap.size h
  s : SR a n s
  c : CB a b c
  wb : W.heap.size < b
  wn : W.heap.size < n
  ne : b ≠ n
  bB : b < B
  nB : n < B
theorem LQ.fr {W : World} {B b n : Nat} {h : Ho} {s : Sp} {c : Ca} {a a' : World} (q : LQ W B b n h s c a) (f : Fr a a' []) : LQ W B b n h s c a' :=
  ⟨q.f.trans f, q.h.fr f, f.heap q.s (by simp), q.c.fr f (by simp), q.wb, q.wn, q.ne, q.bB, q.nB⟩
theorem LQ.car {W : World} {B b n : Nat} {h : Ho} {s : Sp} {c : Ca} {a : World} (q : LQ W B b n h s c a) (z : Ca) : LQ W B b n h s z (carSet a b z) :=
  have f := carSet_fr a b z
  ⟨q.f.new f (by have := q.wb; simp; omega), f.heap q.h (by have := q.wb; simp; omega), f.heap q.s (by have := q.ne; simp; omega), q.c.set z, q.wb, q.wn, q.ne, q.bB, q.nB⟩
theorem LQ.st0 {W : World} {B b n : Nat} {h : Ho} {s : Sp} {c : Ca} {a : World} (q : LQ W B b n h s c a) (x : Nat) : LQ W B b n h ⟨x, s.u, s.d⟩ c (a.setCell ⟨n, 0, none⟩ (.int .u64 x)) :=
  have f := Fr.setCell a n 0 (.int .u64 x) (S := [n]) (by simp)
  ⟨q.f.new f (by have := q.wn; simp; omega), f.heap q.h (by have := q.wn; simp; omega), aput0 q.s _, q.c.fr f (by simpa using q.ne), q.wb, q.wn, q.ne, q.bB, q.nB⟩
theorem LQ.st2 {W : World} {B b n : Nat} {h : Ho} {s : Sp} {c : Ca} {a : World} (q : LQ W B b n h s c a) (x : Nat) : LQ W B b n h ⟨s.c, s.u, x⟩ c (a.setCell ⟨n, 2, none⟩ (.int .u64 x)) :=
  have f := Fr.setCell a n 2 (.int .u64 x) (S := [n]) (by simp)
  ⟨q.f.new f (by have := q.wn; simp; omega), f.heap q.h (by have := q.wn; simp; omega), aput2 q.s _, q.c.fr f (by simpa using q.ne), q.wb, q.wn, q.ne, q.bB, q.nB⟩
theorem LQ.grown {W : World} {B b n : Nat} {h : Ho} {s : Sp} {c : Ca} {a a' : World} {v : Value} (q : LQ W B b n h s c a) (g : a.grownBy a' v.ownBlock) (hv : ∀ r, v.ownBlock = some r → B ≤ r) : LQ W B b n h s c a' := by
  have hb := q.bB
  have hn := q.nB
  have hB := q.wb
  have key : ∀ k o, k < B → a.heap[k]? = some o → a'.heap[k]? = some o := fun k o hk ho => by
    rw [g.block k (size_of_row ho) (fun e => by have := hv k e.symm; omega)]; exact ho
  exact ⟨q.f.grown_own g (fun r hr => .inr (by have := hv r hr; omega)), key _ _ (by omega) q.h, key _ _ hn q.s, key _ _ hb q.c, q.wb, q.wn, q.ne, q.bB, q.nB⟩
/-- A deed's cells behind it. -/
theorem NC.grown {a a' : World} {v : Value} {m : Nat} {d : Dn} (k : NB a m d) (g : a.grownBy a' v.ownBlock) (hv : v.ownBlock ≠ some m) : NB a' m d := by
  unfold NB at k ⊢
  rw [g.block m (size_of_row k) (fun e => hv e.symm)]; exact k
theorem CB.grown {a a' : World} {v : Value} {m : Nat} {c : Ca} (k : CB a m c) (g : a.grownBy a' v.ownBlock) (hv : v.ownBlock ≠ some m) : CB a' m c := by
  unfold CB at k ⊢
  rw [g.block m (size_of_row k) (fun e => hv e.symm)]; exact k

end Go.Proofs.YtgcgbiaigbblkaaDoor
