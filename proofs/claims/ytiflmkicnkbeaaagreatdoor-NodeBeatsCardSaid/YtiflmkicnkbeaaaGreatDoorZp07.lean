import Derived.Test.YtiflmkicnkbeaaaGreatDoorZp00
import Derived.Test.YtiflmkicnkbeaaaGreatDoorZp02
import Derived.Test.YtiflmkicnkbeaaaGreatDoorZp06
import Derived.Laws.BitsAllLaws
import Derived.Deep.DeepCutAuto
import Derived.Deep.CutBlock
import Derived.Shelf.Spec.TrailingZeros
namespace Go.Proofs.YtiflmkicnkbeaaaGreatDoor
open Go.RowKit
def carOf (l : List Int) : Nat := l.foldl (fun n z => n ||| oneN z) 0
def ofL (s : Sp) (l : List La) : Sp := l.foldl (fun s x => s.put x.f x.d) s
def ofS (l : List Int) (m : List La) : Sp := ofL ⟨carOf l, 0, 0⟩ m
theorem carOf_snoc (l : List Int) (z : Int) : carOf (l ++ [z]) = carOf l ||| oneN z := by simp [carOf]
theorem carOf_lt (l : List Int) : carOf l < 18446744073709551616 := by
 have : ∀ (l : List Int) (n : Nat), n < 18446744073709551616 → l.foldl (fun n z => n ||| oneN z) n < 18446744073709551616 := by
  intro l
  induction l with
  | nil => intro n h; exact h
  | cons z l ih => intro n h; exact ih _ (or_lt h (oneN_lt z))
 exact this l 0 (by decide)
theorem ofL_snoc (s : Sp) (l : List La) (x : La) : ofL s (l ++ [x]) = (ofL s l).put x.f x.d := by simp [ofL]
theorem ofL_ok (s : Sp) (h : s.ok) (l : List La) : (ofL s l).ok := by
 induction l generalizing s with
 | nil => exact h
 | cons x l ih => exact ih _ (Sp.put_ok h x.f x.d)
theorem car_ok (l : List Int) : (Sp.mk (carOf l) 0 0).ok := ⟨carOf_lt l, (by decide : (0 : Nat) < 18446744073709551616), (by decide : (0 : Nat) < 18446744073709551616)⟩
theorem ofS_ok (l : List Int) (m : List La) : (ofS l m).ok := ofL_ok _ (car_ok l) m
theorem take_la (l : List La) (k : Nat) (h : k < l.length) : l.take (k + 1) = l.take k ++ [l.getD k zLa] := by
 rw [List.take_succ_eq_append_getElem h]; simp [h]
def OD (W : World) (T : TypeId) (p u d : Nat) (a : World) : Prop := Fr W a [] ∧
 (a.cell? ⟨W.heap.size + 1, 0, none⟩ = some (.int .u64 p) ∧ a.cell? ⟨W.heap.size + 1, 1, none⟩ = some (.int .u64 u) ∧ a.cell? ⟨W.heap.size + 1, 2, none⟩ = some (.int .u64 d)) ∧
 a.heap[W.heap.size]? = some (.cells #[.int .u64 0, .int .u64 0, .int .u64 0] T (0, 0)) ∧
 a.heap[W.heap.size + 1]? = some (.cells #[.int .u64 p, .int .u64 u, .int .u64 d] T (0, 0))
theorem OD.of {W : World} {T : TypeId} {p u d : Nat} {a : World} (h : Fr W a []) (k : a.heap[W.heap.size]? = some (.cells #[.int .u64 0, .int .u64 0, .int .u64 0] T (0, 0))) (r : a.heap[W.heap.size + 1]? = some (.cells #[.int .u64 p, .int .u64 u, .int .u64 d] T (0, 0))) : OD W T p u d a := ⟨h, arow r, k, r⟩
theorem OD.fr {W : World} {T : TypeId} {p u d : Nat} {a a' : World} (h : OD W T p u d a) (k : Fr a a' []) : OD W T p u d a' :=
 OD.of (h.1.trans k) (k.heap h.2.2.1 (by simp)) (k.heap h.2.2.2 (by simp))
theorem OD.fz {W : World} {T : TypeId} {p u d : Nat} {a : World} (h : OD W T p u d a) (i : Nat) : a.frozen? ⟨W.heap.size + 1, i, none⟩ = false := frozen_of_row _ _ i _ _ h.2.2.2
theorem OD.fz0 {W : World} {T : TypeId} {p u d : Nat} {a : World} (h : OD W T p u d a) (i : Nat) : a.frozen? ⟨W.heap.size, i, none⟩ = false := frozen_of_row _ _ i _ _ h.2.2.1
theorem OD.car {W : World} {T : TypeId} {p u d : Nat} {a : World} (h : OD W T p u d a) (x : Nat) : OD W T x u d (a.setCell ⟨W.heap.size + 1, 0, none⟩ (.int .u64 x)) :=
 OD.of (h.1.new (Fr.setCell a (W.heap.size + 1) 0 _ (S := [W.heap.size + 1]) (by simp)) (by simp)) ((Fr.setCell a (W.heap.size + 1) 0 _ (S := [W.heap.size + 1]) (by simp)).heap h.2.2.1 (by simp)) (aput0 h.2.2.2 _)
theorem OD.set {W : World} {T : TypeId} {p u d : Nat} {a : World} (h : OD W T p u d a) (x y z : Nat) : OD W T x y z (((a.setCell ⟨W.heap.size + 1, 0, none⟩ (.int .u64 x)).setCell ⟨W.heap.size + 1, 1, none⟩ (.int .u64 y)).setCell ⟨W.heap.size + 1, 2, none⟩ (.int .u64 z)) :=
 OD.of (h.1.new (aset_fr a (W.heap.size + 1) _ _ _) (by simp)) ((aset_fr a (W.heap.size + 1) _ _ _).heap h.2.2.1 (by simp)) (aset h.2.2.2 _ _ _)
theorem OD.new (w : World) (T : TypeId) : OD w T 0 0 0 ((w.alloc (.cells #[.int .u64 0, .int .u64 0, .int .u64 0] T)).alloc (.cells #[.int .u64 0, .int .u64 0, .int .u64 0] T)) := by
 have a2 := heap_alloc_new (w.alloc (.cells #[.int .u64 0, .int .u64 0, .int .u64 0] T)) (.cells #[.int .u64 0, .int .u64 0, .int .u64 0] T)
 rw [show (w.alloc (.cells #[.int .u64 0, .int .u64 0, .int .u64 0] T)).heap.size = w.heap.size + 1 by simp] at a2
 exact OD.of ((Fr.alloc w _ []).trans (Fr.alloc _ _ [])) ((Fr.alloc _ _ []).heap (heap_alloc_new w _) (by simp)) a2
set_option maxHeartbeats 2000000 in
set_option maxRecDepth 100000 in
theorem of_any (v1 : Value) (l : List Int) (v2 : Value) (m : List La) (w : World) (h1 : HInts w v1 l) (h2 : HLs w v2 m) (r : Sp) (hr : r = ofS l m) :
 Calls Tryz.prog 202 #[v1, v2] w fun e w' => e = .returned r.v ∧ Fr w w' [] := by
 obtain ⟨a1, c1, rfl, p1, q1, r1⟩ := h1
 obtain ⟨a2, c2, rfl, p2, q2, r2⟩ := h2
 unfold maxLen at q1 q2
 have BI := Lib.hid (fun z W => bit_any z W)
 have PU := Lib.hid (fun (s : Sp) (f e : Int) W (h : s.ok) (r : Sp) (hr : r = s.put f e) => put_any s f e W h r hr)
 have HD0 := Lib.hid (OD.new w 214)
 have HR := Lib.hid hr
 clear hr
 dsimp only [Sp.v] at *
 go_enter Tryz.func202, Tryz.ntmps202
 go_wp2
 go_loopw [12] (fun i wr => ∃ k : Nat, k ≤ l.length ∧ i = .int .i64 k ∧ Hid (OD w 214 (carOf (l.take k)) 0 0 wr)) (fun i _ => l.length - (intOf i).toNat)
 case atStart => exact ⟨0, Nat.zero_le _, rfl, HD0⟩
 case round =>
  obtain ⟨k, hk, rfl, HD⟩ := hrel
  by_cases hlt : k < l.length
  · obtain ⟨b, off, rfl, hc⟩ := r1 (by omega)
    have hcell := HD.out.1.cell (hc k hlt) (by simp)
    obtain ⟨z, hz⟩ : ∃ z, z = l.getD k 0 := ⟨_, rfl⟩
    obtain ⟨p, hp⟩ : ∃ p, p = carOf (l.take k) := ⟨_, rfl⟩
    obtain ⟨o, ho⟩ : ∃ o, o = oneN z := ⟨_, rfl⟩
    have E1 := bits_or_u64_nat p o (by rw [hp]; exact carOf_lt _) (by rw [ho]; exact oneN_lt _)
    have HN : Hid (carOf (l.take (k + 1)) = p ||| o) := by show _ = _; rw [take_snoc l k hlt, carOf_snoc, hp, ho, hz]
    have BI := Lib.hid (fun W => BI.out z W)
    rw [← hp] at HD
    rw [← hz] at hcell
    rw [← ho] at BI
    have HS := Lib.hid (HD.out.fr (Fr.drew _ []))
    clear hz hp ho hc r1
    go_wp2
    refine wp_region_detL 6 (S := OD w 214 p 0 0) (by kernel_rfl) HS.out ?_
    refine wpDetL_take (j := 6) (by decide) (by kernel_rfl) (i := 0) (v := ?dv1) (by simp only [List.getElem?_toArray, List.getElem?_cons_zero]; rfl) (by kernel_rfl) (by kernel_rfl) (by kernel_rfl) (Or.inl ⟨by rfl, ?dy1⟩) ?dr1
    case dy1 => (intro w hSw; have hS0 := hSw; (try dsimp only [OD] at hSw); go_simp; refine Came.value ?_ hS0; with_reducible rfl)
    try simp only [Act.put, List.setIfInBounds_toArray, List.set_cons_zero, List.set_cons_succ]
    refine wpDetL_take (j := 6) (by decide) (by kernel_rfl) (i := 1) (v := ?dv2) (by simp only [List.getElem?_toArray, List.getElem?_cons_zero, List.getElem?_cons_succ]; rfl) (by kernel_rfl) (by kernel_rfl) (by kernel_rfl) (Or.inl ⟨by rfl, ?dy2⟩) ?dr2
    case dy2 => (intro w hSw; have hS0 := hSw; (try dsimp only [OD] at hSw); go_simp; refine Came.value ?_ hS0; with_reducible rfl)
    try simp only [Act.put, List.setIfInBounds_toArray, List.set_cons_zero, List.set_cons_succ]
    refine wpDetL_take (j := 6) (by decide) (by kernel_rfl) (i := 2) (v := ?dv3) (by simp only [List.getElem?_toArray, List.getElem?_cons_zero, List.getElem?_cons_succ]; rfl) (by kernel_rfl) (by kernel_rfl) (by kernel_rfl) (Or.inl ⟨by rfl, ?dy3⟩) ?dr3
    case dy3 => (intro w hSw; have hS0 := hSw; (try dsimp only [OD] at hSw); go_simp; refine Came.value ?_ hS0; with_reducible rfl)
    try simp only [Act.put, List.setIfInBounds_toArray, List.set_cons_zero, List.set_cons_succ]
    refine wpDetL_take (j := 6) (by decide) (by kernel_rfl) (i := 3) (v := ?dv4) (by simp only [List.getElem?_toArray, List.getElem?_cons_zero, List.getElem?_cons_succ]; rfl) (by kernel_rfl) (by kernel_rfl) (by kernel_rfl) (Or.inl ⟨by rfl, ?dy4⟩) ?dr4
    case dy4 => (intro w hSw; go_simp; exact Came.call ((BI.out w).mono fun e w' ⟨he, hw⟩ => ⟨he, hw ▸ hSw⟩) (by with_reducible rfl))
    try simp only [Act.put, List.setIfInBounds_toArray, List.set_cons_zero, List.set_cons_succ]
    refine wpDetL_take (j := 6) (by decide) (by kernel_rfl) (i := 4) (v := ?dv5) (by simp only [List.getElem?_toArray, List.getElem?_cons_zero, List.getElem?_cons_succ]; rfl) (by kernel_rfl) (by kernel_rfl) (by kernel_rfl) (Or.inl ⟨by rfl, ?dy5⟩) ?dr5
    case dy5 => (intro w hSw; have hS0 := hSw; (try dsimp only [OD] at hSw); go_simp; refine Came.value ?_ hS0; with_reducible rfl)
    try simp only [Act.put, List.setIfInBounds_toArray, List.set_cons_zero, List.set_cons_succ]
    refine wpDetL_take (j := 6) (by decide) (by kernel_rfl) (i := 5) (v := ?dv6) (by simp only [List.getElem?_toArray, List.getElem?_cons_zero, List.getElem?_cons_succ]; rfl) (by kernel_rfl) (by kernel_rfl) (by kernel_rfl) (Or.inl ⟨by rfl, ?dy6⟩) ?dr6
    case dy6 => (intro w hSw; have hS0 := hSw; (try dsimp only [OD] at hSw); go_simp; refine Came.value ?_ hS0; with_reducible rfl)
    try simp only [Act.put, List.setIfInBounds_toArray, List.set_cons_zero, List.set_cons_succ]
    refine wpDetL_last (oj := _) (by kernel_rfl) (by kernel_rfl) (by simp only [List.getElem?_toArray, List.getElem?_cons_zero, List.getElem?_cons_succ]; rfl) ?_
    intro w3 hS K hK
    have zb0 := hS.fz 0
    have HX := Lib.hid (hS.car (p ||| o))
    obtain ⟨_, ⟨c0, _⟩, _⟩ := hS
    go_simp
    refine hK.out _ _ ?_
    clear hK K zb0 c0
    go_wp2
    go_roundw
    case rel => exact ⟨k + 1, by omega, by go_num, by rw [HN.out]; exact HX⟩
    case measure => simp [intOf]; omega
  · obtain rfl : k = l.length := by omega
    rw [List.take_length] at HD
    clear r1 HD0
    go_wp2
    go_loopw [25] (fun i wx => ∃ j : Nat, j ≤ m.length ∧ i = .int .i64 j ∧ Hid (OD w 214 (ofS l (m.take j)).c (ofS l (m.take j)).u (ofS l (m.take j)).d wx)) (fun i _ => m.length - (intOf i).toNat)
    case atStart => exact ⟨0, Nat.zero_le _, rfl, HD⟩
    case round =>
     clear HD
     obtain ⟨j, hj, rfl, HD⟩ := hrel
     by_cases hlt : j < m.length
     · obtain ⟨b, off, rfl, hc⟩ := r2 (by omega)
       obtain ⟨d0, d1, d2⟩ := hc j hlt
       have d0 := HD.out.1.cell d0 (by simp)
       have d1 := HD.out.1.cell d1 (by simp)
       have d2 := HD.out.1.cell d2 (by simp)
       obtain ⟨y, hy⟩ : ∃ y, y = m.getD j zLa := ⟨_, rfl⟩
       have HN : Hid (ofS l (m.take (j + 1)) = (ofS l (m.take j)).put y.f y.d) := by show _ = _; rw [take_la m j hlt, ofS, ofL_snoc, hy]; rfl
       have hok := ofS_ok l (m.take j)
       rw [← hy] at d0 d1 d2
       obtain ⟨s, hs⟩ : ∃ s, s = ofS l (m.take j) := ⟨_, rfl⟩
       rw [← hs] at HN HD hok
       obtain ⟨t, ht⟩ : ∃ t, t = s.put y.f y.d := ⟨_, rfl⟩
       rw [← ht] at HN
       have PU := Lib.hid (fun W => PU.out s y.f y.d W hok t ht)
       obtain ⟨p, u, d⟩ := s
       obtain ⟨p', u', d'⟩ := t
       obtain ⟨yf, yd, yg⟩ := y
       have HD2 := Lib.hid (HD.out.fr (Fr.alloc wr (.cells #[.int .i64 yf, .int .i64 yd, .int .i64 yg] 46) []))
       obtain ⟨c0, c1, c2⟩ := HD2.out.2.1
       clear hy hs ht hok hc r2
       dsimp only at *
       go_wp2_with fail
       with_reducible refine (PU.out _).mono ?_
       rintro e w4 ⟨rfl, hf⟩
       have HD3 := Lib.hid (HD2.out.fr hf)
       have z0 := HD3.out.fz 0
       have z1 := HD3.out.fz 1
       have z2 := HD3.out.fz 2
       obtain ⟨x0, x1, x2⟩ := HD3.out.2.1
       have HX := Lib.hid (HD3.out.set p' u' d')
       clear hf c0 c1 c2
       go_wp2
       go_roundw
       case rel => exact ⟨j + 1, by omega, by go_num, by rw [HN.out]; exact HX⟩
       case measure => simp [intOf]; omega
     · obtain rfl : j = m.length := by omega
       rw [List.take_length, ← HR.out] at HD
       obtain ⟨p, u, d⟩ := r
       obtain ⟨c0, c1, c2⟩ := HD.out.2.1
       obtain ⟨x0, x1, x2⟩ := arow HD.out.2.2.1
       have z0 := HD.out.fz0 0
       have z1 := HD.out.fz0 1
       have z2 := HD.out.fz0 2
       have AF := Lib.hid (HD.out.1.new (aset_fr wr w.heap.size (.int .u64 p) (.int .u64 u) (.int .u64 d)) (by simp))
       obtain ⟨y0, y1, y2⟩ := arow (aset HD.out.2.2.1 (.int .u64 p) (.int .u64 u) (.int .u64 d))
       clear r2
       dsimp only at *
       go_wp2
       exact bodyPost_ret (v := .agg #[.int .u64 p, .int .u64 u, .int .u64 d]) (by simp [results, Tryz.results202, go_sem, y0, y1, y2]) rfl ⟨rfl, AF.out⟩
end Go.Proofs.YtiflmkicnkbeaaaGreatDoor
namespace Go.Proofs.YtiflmkicnkbeaaaGreatDoor
def startC (h : Ho) (p : Int) : Ca := ⟨⟨p, 0, 0, !decide (h.lev p)⟩, 0⟩
theorem start_right {h : Ho} (k : h.ok) {p : Int} (p0 : 0 ≤ p) (p1 : p ≤ h.top) : RightIs h (startC h p) := by
 refine ⟨k, p0, p1, show (-1 : Int) ≤ 0 by decide, show (0 : Int) ≤ 1 by decide, show (0 : Int) ≤ 0 by decide, show (0 : Int) ≤ h.d by have := k.2.2.2; omega, fun g => absurd g (show ¬ (0 : Int) < 0 by decide), ?_, .inl rfl⟩
 by_cases l : h.lev p
 · exact .inl l
 · refine .inr (.inr ?_)
   show (!decide (h.lev p)) = true
   rw [decide_eq_false l]; rfl
end Go.Proofs.YtiflmkicnkbeaaaGreatDoor
namespace Go.Proofs.YtiflmkicnkbeaaaGreatDoor
open Go.RowKit
abbrev Ca.v (c : Ca) : Value := .agg #[.int .i64 c.x.p, .int .i64 c.x.e, .int .i64 c.x.o, .bool c.x.r, .int .i64 c.k]
abbrev Ca.box (c : Ca) : Obj := .cells #[.int .i64 c.x.p, .int .i64 c.x.e, .int .i64 c.x.o, .bool c.x.r, .int .i64 c.k] 103
def zCa : Ca := ⟨⟨0, 0, 0, false⟩, 0⟩
theorem crow {w : World} {g : Nat} {a b c d e : Value} {T : TypeId} (h : w.heap[g]? = some (.cells #[a, b, c, d, e] T (0, 0))) :
 w.cell? ⟨g, 0, none⟩ = some a ∧ w.cell? ⟨g, 1, none⟩ = some b ∧ w.cell? ⟨g, 2, none⟩ = some c ∧ w.cell? ⟨g, 3, none⟩ = some d ∧ w.cell? ⟨g, 4, none⟩ = some e :=
 ⟨by rw [cell_of_row w g 0 _ _ _ h]; rfl, by rw [cell_of_row w g 1 _ _ _ h]; rfl, by rw [cell_of_row w g 2 _ _ _ h]; rfl, by rw [cell_of_row w g 3 _ _ _ h]; rfl, by rw [cell_of_row w g 4 _ _ _ h]; rfl⟩
def CB (w : World) (b : Nat) (c : Ca) : Prop := w.heap[b]? = some c.box
theorem CB.fr {w w' : World} {b : Nat} {c : Ca} {S : List Nat} (k : CB w b c) (hf : Fr w w' S) (hb : b ∉ S) : CB w' b c := hf.heap k hb
theorem CB.new (w : World) (c : Ca) : CB (w.alloc c.box) w.heap.size c := heap_alloc_new w _
theorem CB.cells {w : World} {b : Nat} {c : Ca} (k : CB w b c) : w.cell? ⟨b, 0, none⟩ = some (.int .i64 c.x.p) ∧ w.cell? ⟨b, 1, none⟩ = some (.int .i64 c.x.e) ∧ w.cell? ⟨b, 2, none⟩ = some (.int .i64 c.x.o) ∧ w.cell? ⟨b, 3, none⟩ = some (.bool c.x.r) ∧ w.cell? ⟨b, 4, none⟩ = some (.int .i64 c.k) := crow k
theorem CB.fz {w : World} {b : Nat} {c : Ca} (k : CB w b c) (i : Nat) : w.frozen? ⟨b, i, none⟩ = false := frozen_of_row _ _ i _ _ k
theorem CB.put0 {w : World} {b : Nat} {c : Ca} (k : CB w b c) (z : Int) : CB (w.setCell ⟨b, 0, none⟩ (.int .i64 z)) b ⟨⟨z, c.x.e, c.x.o, c.x.r⟩, c.k⟩ := by
 unfold CB at k ⊢; rw [heap_setCell_same _ b 0 _ _ _ k]; rfl
theorem CB.put1 {w : World} {b : Nat} {c : Ca} (k : CB w b c) (z : Int) : CB (w.setCell ⟨b, 1, none⟩ (.int .i64 z)) b ⟨⟨c.x.p, z, c.x.o, c.x.r⟩, c.k⟩ := by
 unfold CB at k ⊢; rw [heap_setCell_same _ b 1 _ _ _ k]; rfl
theorem CB.put2 {w : World} {b : Nat} {c : Ca} (k : CB w b c) (z : Int) : CB (w.setCell ⟨b, 2, none⟩ (.int .i64 z)) b ⟨⟨c.x.p, c.x.e, z, c.x.r⟩, c.k⟩ := by
 unfold CB at k ⊢; rw [heap_setCell_same _ b 2 _ _ _ k]; rfl
theorem CB.put3 {w : World} {b : Nat} {c : Ca} (k : CB w b c) (z : Bool) : CB (w.setCell ⟨b, 3, none⟩ (.bool z)) b ⟨⟨c.x.p, c.x.e, c.x.o, z⟩, c.k⟩ := by
 unfold CB at k ⊢; rw [heap_setCell_same _ b 3 _ _ _ k]; rfl
theorem CB.put4 {w : World} {b : Nat} {c : Ca} (k : CB w b c) (z : Int) : CB (w.setCell ⟨b, 4, none⟩ (.int .i64 z)) b ⟨⟨c.x.p, c.x.e, c.x.o, c.x.r⟩, z⟩ := by
 unfold CB at k ⊢; rw [heap_setCell_same _ b 4 _ _ _ k]; rfl
def carSet (w : World) (b : Nat) (c : Ca) : World := ((((w.setCell ⟨b, 0, none⟩ (.int .i64 c.x.p)).setCell ⟨b, 1, none⟩ (.int .i64 c.x.e)).setCell ⟨b, 2, none⟩ (.int .i64 c.x.o)).setCell ⟨b, 3, none⟩ (.bool c.x.r)).setCell ⟨b, 4, none⟩ (.int .i64 c.k)
theorem CB.set {w : World} {b : Nat} {c : Ca} (k : CB w b c) (x : Ca) : CB (carSet w b x) b x := ((((k.put0 x.x.p).put1 x.x.e).put2 x.x.o).put3 x.x.r).put4 x.k
theorem carSet_fr (w : World) (b : Nat) (c : Ca) : Fr w (carSet w b c) [b] :=
 ((((Fr.setCell w b 0 _ (S := [b]) (by simp)).trans (Fr.setCell _ b 1 _ (S := [b]) (by simp))).trans (Fr.setCell _ b 2 _ (S := [b]) (by simp))).trans (Fr.setCell _ b 3 _ (S := [b]) (by simp))).trans (Fr.setCell _ b 4 _ (S := [b]) (by simp))
structure HC (W : World) (h : Ho) (c : Ca) (a : World) : Prop where
 f : Fr W a []
 h : HBh a W.heap.size h
 c : CB a (W.heap.size + 1) c
theorem HC.fr {W : World} {h : Ho} {c : Ca} {a a' : World} (q : HC W h c a) (k : Fr a a' []) : HC W h c a' := ⟨q.f.trans k, q.h.fr k, q.c.fr k (by simp)⟩
theorem HC.new (w : World) (h : Ho) (c : Ca) : HC w h c ((w.alloc h.box).alloc c.box) := by
 refine ⟨(Fr.alloc _ _ []).trans (Fr.alloc _ _ []), (HBh.new w h).fr (Fr.alloc _ _ []), ?_⟩
 have := CB.new (w.alloc h.box) c
 rwa [show (w.alloc h.box).heap.size = w.heap.size + 1 by simp] at this
set_option maxRecDepth 100000 in
theorem cright_any (h : Ho) (c : Ca) (w : World) (b : Bool) (hb : b = c.right h) : Calls Tryz.prog 142 #[h.v, c.v] w fun e w' => e = .returned (.bool b) ∧ Fr w w' [] := by
 have TB := Lib.hid (HC.new w h c)
 obtain ⟨bm, em⟩ : ∃ y, y = h.may c.x := ⟨_, rfl⟩
 have RG := Lib.hid (fun W => right_any h c.x W bm em)
 have HV0 := Lib.hid (show b = (bm && (decide (c.k = 0) || (decide (0 < c.k) && decide (c.x.o = 1)))) by rw [hb, Ca.right, em])
 clear hb em
 obtain ⟨hc, hf, hs, hd⟩ := h
 obtain ⟨⟨xp, xe, xo, xr⟩, xk⟩ := c
 have HV := Lib.hid (show b = (bm && (decide (xk = 0) || (decide (0 < xk) && decide (xo = 1)))) from HV0.out)
 clear HV0
 dsimp only [Ho.v, Ho.box, St.v, St.box, Ca.v, Ca.box] at *
 cases bm with
 | false =>
   have HR : Hid (b = false) := by show _ = _; rw [HV.out]; rfl
   clear HV
   go_enter Tryz.func142, Tryz.ntmps142
   go_wp2_with fail
   with_reducible refine (RG.out _).mono ?_
   rintro e2 w2 ⟨rfl, hf⟩
   have T2 := Lib.hid (TB.out.fr hf)
   clear hf
   go_wp2
   go_ret
   exact ⟨by rw [HR.out]; rfl, T2.out.f⟩
 | true =>
   by_cases k0 : xk = 0
   · have HR : Hid (b = true) := by show _ = _; rw [HV.out]; simp [k0]
     subst k0
     clear HV
     go_enter Tryz.func142, Tryz.ntmps142
     go_wp2_with fail
     with_reducible refine (RG.out _).mono ?_
     rintro e2 w2 ⟨rfl, hf⟩
     have T2 := Lib.hid (TB.out.fr hf)
     clear hf
     obtain ⟨c0, c1, c2, c3, c4⟩ := T2.out.c.cells
     dsimp only at c0 c1 c2 c3 c4
     go_wp2
     go_ret
     exact ⟨by rw [HR.out]; rfl, T2.out.f⟩
   · have e0 : (xk == 0) = false := by simp [k0]
     by_cases k1 : 0 < xk
     · by_cases o1 : xo = 1
       · have HR : Hid (b = true) := by show _ = _; rw [HV.out]; simp [k1, o1]
         subst o1
         clear HV k0
         go_enter Tryz.func142, Tryz.ntmps142
         go_wp2_with fail
         with_reducible refine (RG.out _).mono ?_
         rintro e2 w2 ⟨rfl, hf⟩
         have T2 := Lib.hid (TB.out.fr hf)
         clear hf
         obtain ⟨c0, c1, c2, c3, c4⟩ := T2.out.c.cells
         dsimp only at c0 c1 c2 c3 c4
         go_wp2
         go_ret
         exact ⟨by rw [HR.out]; rfl, T2.out.f⟩
       · have HR : Hid (b = false) := by show _ = _; rw [HV.out]; simp [k0, o1]
         have e1 : (xo == 1) = false := by simp [o1]
         clear HV k0 o1
         go_enter Tryz.func142, Tryz.ntmps142
         go_wp2_with fail
         with_reducible refine (RG.out _).mono ?_
         rintro e2 w2 ⟨rfl, hf⟩
         have T2 := Lib.hid (TB.out.fr hf)
         clear hf
         obtain ⟨c0, c1, c2, c3, c4⟩ := T2.out.c.cells
         dsimp only at c0 c1 c2 c3 c4
         go_wp2
         go_ret
         exact ⟨by rw [HR.out]; rfl, T2.out.f⟩
     · have HR : Hid (b = false) := by show _ = _; rw [HV.out]; simp [k0, k1]
       clear HV k0
       have k1' : xk ≤ 0 := by omega
       clear k1
       go_enter Tryz.func142, Tryz.ntmps142
       go_wp2_with fail
       with_reducible refine (RG.out _).mono ?_
       rintro e2 w2 ⟨rfl, hf⟩
       have T2 := Lib.hid (TB.out.fr hf)
       clear hf
       obtain ⟨c0, c1, c2, c3, c4⟩ := T2.out.c.cells
       dsimp only at c0 c1 c2 c3 c4
       go_wp2
       go_ret
       exact ⟨by rw [HR.out]; rfl, T2.out.f⟩
structure HC1 (W : World) (h : Ho) (c : Ca) (a : World) : Prop where
 f : Fr W a []
 h : HBh a W.heap.size h
 c : CB a (W.heap.size + 1) c
 r : CB a (W.heap.size + 2) zCa
theorem HC1.fr {W : World} {h : Ho} {c : Ca} {a a' : World} (q : HC1 W h c a) (k : Fr a a' []) : HC1 W h c a' := ⟨q.f.trans k, q.h.fr k, q.c.fr k (by simp), q.r.fr k (by simp)⟩
theorem HC1.new (w : World) (h : Ho) (c : Ca) : HC1 w h c (((w.alloc h.box).alloc c.box).alloc zCa.box) := by
 have q := HC.new w h c
 refine ⟨q.f.trans (Fr.alloc _ _ []), q.h.fr (Fr.alloc _ _ []), q.c.fr (Fr.alloc _ _ []) (by simp), ?_⟩
 have := CB.new ((w.alloc h.box).alloc c.box) zCa
 rwa [show ((w.alloc h.box).alloc c.box).heap.size = w.heap.size + 2 by simp] at this
theorem HC1.turn {W : World} {h : Ho} {c x : Ca} {a a' : World} (q : HC1 W h c a) (k : Fr a a' [W.heap.size + 1]) (r : CB a' (W.heap.size + 1) x) : HC1 W h x a' :=
 ⟨q.f.new k (by simp), k.heap q.h (by simp), r, q.r.fr k (by simp)⟩
theorem HC1.ends {W : World} {h : Ho} {c : Ca} {a : World} (q : HC1 W h c a) (x : Ca) : Fr W (carSet a (W.heap.size + 2) x) [] ∧ CB (carSet a (W.heap.size + 2) x) (W.heap.size + 2) x :=
 ⟨q.f.new (carSet_fr a (W.heap.size + 2) x) (by simp), q.r.set x⟩
def Ca.move (h : Ho) (c : Ca) (m : Int) : Ca := if h.has (c.x.p + sgn m) then ⟨⟨c.x.p + sgn m, c.x.e, c.x.o, c.x.r⟩, c.k⟩ else c
set_option maxHeartbeats 1000000 in
set_option maxRecDepth 100000 in
theorem move_any (h : Ho) (c : Ca) (m : Int) (h0 : -9223372036854775808 ≤ c.x.p) (h1 : c.x.p ≤ 9223372036854775807) (w : World) (x : Ca) (hx : x = c.move h m) :
 Calls Tryz.prog 275 #[h.v, c.v, .int .i64 m] w fun e w' => e = .returned x.v ∧ Fr w w' [] := by
 have TB := Lib.hid (HC1.new w h c)
 obtain ⟨b, eb⟩ : ∃ y, y = decide (h.has (c.x.p + sgn m)) := ⟨_, rfl⟩
 obtain ⟨r, er⟩ : ∃ y, y = if b = true then c.x.p + sgn m else 0 := ⟨_, rfl⟩
 have GO := Lib.hid (fun W => go_any h c.x.p m h0 h1 W b eb r er)
 cases b with
 | true =>
   have hx' : x = ⟨⟨r, c.x.e, c.x.o, c.x.r⟩, c.k⟩ := by rw [hx, Ca.move, if_pos (of_decide_eq_true eb.symm), er, if_pos rfl]
   clear hx eb er h0 h1
   subst hx'
   obtain ⟨hc, hf, hs, hd⟩ := h
   obtain ⟨⟨xp, xe, xo, xr⟩, xk⟩ := c
   dsimp only [Ho.v, Ho.box, Ca.v, Ca.box, zCa] at *
   go_enter Tryz.func275, Tryz.ntmps275
   go_wp2_with fail
   with_reducible refine (GO.out _).mono ?_
   rintro e2 w2 ⟨rfl, hf⟩
   have T2 := Lib.hid (TB.out.fr hf)
   have T3 := Lib.hid (T2.out.turn (Fr.setCell w2 (w.heap.size + 1) 0 (.int .i64 r) (by simp)) (T2.out.c.put0 r))
   obtain ⟨q1, q2⟩ := T3.out.ends ⟨⟨r, xe, xo, xr⟩, xk⟩
   have q1 := Lib.hid q1
   have q2 := Lib.hid q2
   clear hf TB GO
   obtain ⟨c0, c1, c2, c3, c4⟩ := T2.out.c.cells
   obtain ⟨r0, r1, r2, r3, r4⟩ := T2.out.r.cells
   have y0 := T2.out.r.fz 0
   have y1 := T2.out.r.fz 1
   have y2 := T2.out.r.fz 2
   have y3 := T2.out.r.fz 3
   have y4 := T2.out.r.fz 4
   have z0 := T2.out.c.fz 0
   dsimp only [zCa, carSet] at *
   go_wp2
   generalize World.setCell (World.setCell (World.setCell (World.setCell (World.setCell (World.setCell w2 _ _) _ _) _ _) _ _) _ _) _ _ = W at *
   obtain ⟨x0, x1, x2, x3, x4⟩ := q2.out.cells
   dsimp only at x0 x1 x2 x3 x4
   exact bodyPost_ret (v := .agg #[.int .i64 r, .int .i64 xe, .int .i64 xo, .bool xr, .int .i64 xk]) (by simp [results, Tryz.results275, go_sem, x0, x1, x2, x3, x4]) rfl ⟨rfl, q1.out⟩
 | false =>
   have hx' : x = c := by rw [hx, Ca.move, if_neg (of_decide_eq_false eb.symm)]
   clear hx eb er h0 h1
   subst hx'
   obtain ⟨hc, hf, hs, hd⟩ := h
   obtain ⟨⟨xp, xe, xo, xr⟩, xk⟩ := x
   dsimp only [Ho.v, Ho.box, Ca.v, Ca.box, zCa] at *
   go_enter Tryz.func275, Tryz.ntmps275
   go_wp2_with fail
   with_reducible refine (GO.out _).mono ?_
   rintro e2 w2 ⟨rfl, hf⟩
   have T2 := Lib.hid (TB.out.fr hf)
   obtain ⟨q1, q2⟩ := T2.out.ends ⟨⟨xp, xe, xo, xr⟩, xk⟩
   have q1 := Lib.hid q1
   have q2 := Lib.hid q2
   clear hf TB GO
   obtain ⟨c0, c1, c2, c3, c4⟩ := T2.out.c.cells
   obtain ⟨r0, r1, r2, r3, r4⟩ := T2.out.r.cells
   have y0 := T2.out.r.fz 0
   have y1 := T2.out.r.fz 1
   have y2 := T2.out.r.fz 2
   have y3 := T2.out.r.fz 3
   have y4 := T2.out.r.fz 4
   dsimp only [zCa, carSet] at *
   go_wp2
   generalize World.setCell (World.setCell (World.setCell (World.setCell (World.setCell w2 _ _) _ _) _ _) _ _) _ _ = W at *
   obtain ⟨x0, x1, x2, x3, x4⟩ := q2.out.cells
   dsimp only at x0 x1 x2 x3 x4
   exact bodyPost_ret (v := .agg #[.int .i64 xp, .int .i64 xe, .int .i64 xo, .bool xr, .int .i64 xk]) (by simp [results, Tryz.results275, go_sem, x0, x1, x2, x3, x4]) rfl ⟨rfl, q1.out⟩
end Go.Proofs.YtiflmkicnkbeaaaGreatDoor
namespace Go.Proofs.YtiflmkicnkbeaaaGreatDoor
open Go.RowKit
def Ca.ride (h : Ho) (c : Ca) : Ca :=
 if c.x.r = true then
  (if h.lev ((Ca.move h ⟨⟨c.x.p, -1, c.x.o, c.x.r⟩, c.k⟩ (-1)).x.p) then ⟨⟨(Ca.move h ⟨⟨c.x.p, -1, c.x.o, c.x.r⟩, c.k⟩ (-1)).x.p, 0, c.x.o, false⟩, c.k⟩
   else Ca.move h ⟨⟨c.x.p, -1, c.x.o, c.x.r⟩, c.k⟩ (-1))
 else c.move h c.x.e
theorem move_rest (h : Ho) (c : Ca) (m : Int) : (c.move h m).x.e = c.x.e ∧ (c.move h m).x.o = c.x.o ∧ (c.move h m).x.r = c.x.r ∧ (c.move h m).k = c.k := by
 unfold Ca.move; split <;> exact ⟨rfl, rfl, rfl, rfl⟩
set_option maxHeartbeats 2000000 in
set_option maxRecDepth 100000 in
theorem ride_any (h : Ho) (c : Ca) (h0 : -9223372036854775808 ≤ c.x.p) (h1 : c.x.p ≤ 9223372036854775807) (w : World) (x : Ca) (hx : x = c.ride h) :
 Calls Tryz.prog 201 #[h.v, c.v] w fun e w' => e = .returned x.v ∧ Fr w w' [] := by
 have TB := Lib.hid (HC1.new w h c)
 unfold Ca.ride at hx
 by_cases hr : c.x.r = true
 · rw [if_pos hr] at hx
   obtain ⟨y, hy⟩ : ∃ y, y = Ca.move h ⟨⟨c.x.p, -1, c.x.o, c.x.r⟩, c.k⟩ (-1) := ⟨_, rfl⟩
   have MO := Lib.hid (fun W => move_any h ⟨⟨c.x.p, -1, c.x.o, c.x.r⟩, c.k⟩ (-1) h0 h1 W y hy)
   have HY := move_rest h ⟨⟨c.x.p, -1, c.x.o, c.x.r⟩, c.k⟩ (-1)
   rw [← hy] at hx HY
   obtain ⟨b, eb⟩ : ∃ b, b = decide (h.lev y.x.p) := ⟨_, rfl⟩
   have LV := Lib.hid (fun W => level_any h y.x.p W b eb)
   obtain ⟨hc, hf, hs, hd⟩ := h
   obtain ⟨⟨xp, xe, xo, xr⟩, xk⟩ := c
   obtain ⟨⟨yp, ye, yo, yr⟩, yk⟩ := y
   dsimp only at hr hx HY eb
   obtain ⟨rfl, rfl, rfl, rfl⟩ := HY
   subst hr
   clear hy h0 h1
   dsimp only [Ho.v, Ho.box, Ca.v, Ca.box, zCa] at *
   have T1 := Lib.hid (HC1.new w ⟨hc, hf, hs, hd⟩ ⟨⟨xp, -1, yo, true⟩, yk⟩)
   dsimp only [Ho.box, Ca.box, zCa] at *
   go_enter Tryz.func201, Tryz.ntmps201
   go_wp2_with fail
   with_reducible refine (MO.out _).mono ?_
   rintro e2 w2 ⟨rfl, hf⟩
   have T2 := Lib.hid (T1.out.fr hf)
   clear hf T1 TB MO
   have T3 := Lib.hid (T2.out.turn (carSet_fr w2 (w.heap.size + 1) ⟨⟨yp, -1, yo, true⟩, yk⟩) (T2.out.c.set ⟨⟨yp, -1, yo, true⟩, yk⟩))
   obtain ⟨i0, i1, i2, i3⟩ := T3.out.h.cells
   obtain ⟨c0, c1, c2, c3, c4⟩ := T3.out.c.cells
   obtain ⟨d0, d1, d2, d3, d4⟩ := T2.out.c.cells
   have z0 := T2.out.c.fz 0
   have z1 := T2.out.c.fz 1
   have z2 := T2.out.c.fz 2
   have z3 := T2.out.c.fz 3
   have z4 := T2.out.c.fz 4
   dsimp only [zCa, carSet] at *
   go_wp2_with fail
   generalize World.setCell (World.setCell (World.setCell (World.setCell (World.setCell w2 _ _) _ _) _ _) _ _) _ _ = W3 at *
   with_reducible refine (LV.out _).mono ?_
   rintro e2 w4 ⟨rfl, hf⟩
   have T4 := Lib.hid (T3.out.fr hf)
   clear hf T3 T2 LV z0 z1 z2 z3 z4 i0 i1 i2 i3 c0 c1 c2 c3 c4 d0 d1 d2 d3 d4
   cases b with
   | true =>
     have hx' : x = ⟨⟨yp, 0, yo, false⟩, yk⟩ := by rw [hx, if_pos (of_decide_eq_true eb.symm)]
     clear hx eb
     subst hx'
     have T5 := Lib.hid (T4.out.turn (Fr.setCell w4 (w.heap.size + 1) 1 (.int .i64 0) (by simp)) (T4.out.c.put1 0))
     have T6 := Lib.hid (T5.out.turn (Fr.setCell _ (w.heap.size + 1) 3 (.bool false) (by simp)) (T5.out.c.put3 false))
     obtain ⟨q1, q2⟩ := T6.out.ends ⟨⟨yp, 0, yo, false⟩, yk⟩
     have q1 := Lib.hid q1
     have q2 := Lib.hid q2
     obtain ⟨d0, d1, d2, d3, d4⟩ := T4.out.c.cells
     have z1 := T4.out.c.fz 1
     obtain ⟨f0, f1, f2, f3, f4⟩ := T5.out.c.cells
     have z3 := T5.out.c.fz 3
     obtain ⟨c0, c1, c2, c3, c4⟩ := T6.out.c.cells
     obtain ⟨r0, r1, r2, r3, r4⟩ := T6.out.r.cells
     have y0 := T6.out.r.fz 0
     have y1 := T6.out.r.fz 1
     have y2 := T6.out.r.fz 2
     have y3 := T6.out.r.fz 3
     have y4 := T6.out.r.fz 4
     dsimp only [zCa, carSet] at *
     go_wp2
     generalize World.setCell (World.setCell (World.setCell (World.setCell (World.setCell (World.setCell (World.setCell w4 _ _) _ _) _ _) _ _) _ _) _ _) _ _ = W at *
     obtain ⟨x0, x1, x2, x3, x4⟩ := q2.out.cells
     dsimp only at x0 x1 x2 x3 x4
     exact bodyPost_ret (v := .agg #[.int .i64 yp, .int .i64 0, .int .i64 yo, .bool false, .int .i64 yk]) (by simp [results, Tryz.results201, go_sem, x0, x1, x2, x3, x4]) rfl ⟨rfl, q1.out⟩
   | false =>
     have hx' : x = ⟨⟨yp, -1, yo, true⟩, yk⟩ := by rw [hx, if_neg (of_decide_eq_false eb.symm)]
     clear hx eb
     subst hx'
     obtain ⟨q1, q2⟩ := T4.out.ends ⟨⟨yp, -1, yo, true⟩, yk⟩
     have q1 := Lib.hid q1
     have q2 := Lib.hid q2
     obtain ⟨d0, d1, d2, d3, d4⟩ := T4.out.c.cells
     obtain ⟨r0, r1, r2, r3, r4⟩ := T4.out.r.cells
     have y0 := T4.out.r.fz 0
     have y1 := T4.out.r.fz 1
     have y2 := T4.out.r.fz 2
     have y3 := T4.out.r.fz 3
     have y4 := T4.out.r.fz 4
     dsimp only [zCa, carSet] at *
     go_wp2
     generalize World.setCell (World.setCell (World.setCell (World.setCell (World.setCell w4 _ _) _ _) _ _) _ _) _ _ = W at *
     obtain ⟨x0, x1, x2, x3, x4⟩ := q2.out.cells
     dsimp only at x0 x1 x2 x3 x4
     exact bodyPost_ret (v := .agg #[.int .i64 yp, .int .i64 (-1), .int .i64 yo, .bool true, .int .i64 yk]) (by simp [results, Tryz.results201, go_sem, x0, x1, x2, x3, x4]) rfl ⟨rfl, q1.out⟩
 · rw [if_neg hr] at hx
   have MO := Lib.hid (fun W => move_any h c c.x.e h0 h1 W x hx)
   clear hx h0 h1
   obtain ⟨hc, hf, hs, hd⟩ := h
   obtain ⟨⟨xp, xe, xo, xr⟩, xk⟩ := c
   obtain ⟨⟨yp, ye, yo, yr⟩, yk⟩ := x
   dsimp only [Ho.v, Ho.box, Ca.v, Ca.box, zCa] at *
   obtain rfl : xr = false := by simpa using hr
   clear hr
   go_enter Tryz.func201, Tryz.ntmps201
   go_wp2_with fail
   with_reducible refine (MO.out _).mono ?_
   rintro e2 w2 ⟨rfl, hf⟩
   have T2 := Lib.hid (TB.out.fr hf)
   obtain ⟨q1, q2⟩ := T2.out.ends ⟨⟨yp, ye, yo, yr⟩, yk⟩
   have q1 := Lib.hid q1
   have q2 := Lib.hid q2
   clear hf TB MO
   obtain ⟨r0, r1, r2, r3, r4⟩ := T2.out.r.cells
   have y0 := T2.out.r.fz 0
   have y1 := T2.out.r.fz 1
   have y2 := T2.out.r.fz 2
   have y3 := T2.out.r.fz 3
   have y4 := T2.out.r.fz 4
   dsimp only [zCa, carSet] at *
   go_wp2
   generalize World.setCell (World.setCell (World.setCell (World.setCell (World.setCell w2 _ _) _ _) _ _) _ _) _ _ = W at *
   obtain ⟨x0, x1, x2, x3, x4⟩ := q2.out.cells
   dsimp only at x0 x1 x2 x3 x4
   exact bodyPost_ret (v := .agg #[.int .i64 yp, .int .i64 ye, .int .i64 yo, .bool yr, .int .i64 yk]) (by simp [results, Tryz.results201, go_sem, x0, x1, x2, x3, x4]) rfl ⟨rfl, q1.out⟩
structure SCa (W : World) (n : Nat) (h : Ho) (c : Ca) (a : World) : Prop where
 f : Fr W a []
 h : HBh a W.heap.size h
 r : CB a (W.heap.size + 1) zCa
 c : CB a n c
theorem SCa.fr {W : World} {n : Nat} {h : Ho} {c : Ca} {a a' : World} (q : SCa W n h c a) (k : Fr a a' []) : SCa W n h c a' := ⟨q.f.trans k, q.h.fr k, q.r.fr k (by simp), q.c.fr k (by simp)⟩
set_option maxHeartbeats 1000000 in
set_option maxRecDepth 100000 in
theorem cstart_any (h : Ho) (p : Int) (w : World) (k : h.ok) (p0 : 0 ≤ p) (p1 : p ≤ h.top) (x : Ca) (hx : x = startC h p) :
 Calls Tryz.prog 66 #[h.v, .int .i64 p] w fun e w' => e = .returned (.tuple #[x.v, .bool true]) ∧ Fr w w' [] := by
 obtain ⟨b, eb⟩ : ∃ b, b = decide (h.lev p) := ⟨_, rfl⟩
 have LV := Lib.hid (fun W => level_any h p W b eb)
 have hx' : x = ⟨⟨p, 0, 0, !b⟩, 0⟩ := by rw [hx, startC, eb]
 have RG := Lib.hid (fun W => cright_any h x W true (by rw [hx]; exact ((right_iff h _).2 (start_right k p0 p1)).symm))
 have F1 := Lib.hid (Fr.alloc w h.box [])
 have B1 := Lib.hid (HBh.new w h)
 have F2 := Lib.hid (Fr.alloc (w.alloc h.box) zCa.box [])
 have C2 := Lib.hid (CB.new (w.alloc h.box) zCa)
 subst hx'
 clear hx eb k p0 p1
 obtain ⟨hc, hf, hs, hd⟩ := h
 dsimp only [Ho.v, Ho.box, Ca.v, Ca.box, zCa] at *
 go_enter Tryz.func66, Tryz.ntmps66
 go_wp2_with fail
 with_reducible refine (LV.out _).mono ?_
 rintro e2 w2 ⟨rfl, hg⟩
 have S2 : Hid (SCa w w2.heap.size ⟨hc, hf, hs, hd⟩ ⟨⟨p, 0, 0, !b⟩, 0⟩ (w2.alloc (Ca.box ⟨⟨p, 0, 0, !b⟩, 0⟩))) := by
  refine Lib.hid ⟨?_, ?_, ?_, CB.new w2 ⟨⟨p, 0, 0, !b⟩, 0⟩⟩
  · exact ((F1.out.trans F2.out).trans hg).trans (Fr.alloc _ _ [])
  · exact ((B1.out.fr F2.out).fr hg).fr (Fr.alloc _ _ [])
  · have q := (CB.fr C2.out hg (by simp)).fr (Fr.alloc w2 (Ca.box ⟨⟨p, 0, 0, !b⟩, 0⟩) []) (by simp)
    simpa [zCa] using q
 dsimp only [Ca.box] at S2
 clear hg F1 B1 F2 C2
 obtain ⟨c0, c1, c2, c3⟩ := S2.out.h.cells
 dsimp only at c0 c1 c2 c3
 go_wp2_with fail
 with_reducible refine (RG.out _).mono ?_
 rintro e2 w3 ⟨rfl, hg⟩
 have S3 := Lib.hid (S2.out.fr hg)
 have q2 := Lib.hid (S3.out.r.set ⟨⟨p, 0, 0, !b⟩, 0⟩)
 have q1 := Lib.hid (S3.out.f.new (carSet_fr w3 (w.heap.size + 1) ⟨⟨p, 0, 0, !b⟩, 0⟩) (by simp))
 clear hg S2 RG LV c0 c1 c2 c3
 obtain ⟨c0, c1, c2, c3, c4⟩ := S3.out.c.cells
 obtain ⟨r0, r1, r2, r3, r4⟩ := S3.out.r.cells
 have y0 := S3.out.r.fz 0
 have y1 := S3.out.r.fz 1
 have y2 := S3.out.r.fz 2
 have y3 := S3.out.r.fz 3
 have y4 := S3.out.r.fz 4
 dsimp only [zCa, carSet] at *
 go_wp2
 generalize World.setCell (World.setCell (World.setCell (World.setCell (World.setCell w3 _ _) _ _) _ _) _ _) _ _ = W at *
 obtain ⟨x0, x1, x2, x3, x4⟩ := q2.out.cells
 dsimp only at x0 x1 x2 x3 x4
 exact bodyPost_ret (v := .tuple #[.agg #[.int .i64 p, .int .i64 0, .int .i64 0, .bool (!b), .int .i64 0], .bool true]) (by simp [results, Tryz.results66, go_sem, x0, x1, x2, x3, x4]) rfl ⟨rfl, q1.out⟩
end Go.Proofs.YtiflmkicnkbeaaaGreatDoor
namespace Go.Proofs.YtiflmkicnkbeaaaGreatDoor
open Go.RowKit
theorem ones_shr (f : Nat) (h : f ≤ 64) : (18446744073709551615 : Int) / 2 ^ min (64 - f) 64 = ((2 ^ f - 1 : Nat) : Int) := by
 have a : (18446744073709551615 : Nat) / 2 ^ (64 - f) = 2 ^ f - 1 := by
  have p : 2 ^ f * 2 ^ (64 - f) = 18446744073709551616 := by rw [← Nat.pow_add, show f + (64 - f) = 64 by omega]
  have q := Nat.two_pow_pos (64 - f)
  have r := Nat.two_pow_pos f
  refine (Nat.div_eq_iff q).2 ⟨?_, ?_⟩
  · rw [Nat.sub_mul, p]; omega
  · have : (2 ^ f - 1) * 2 ^ (64 - f) = 18446744073709551616 - 2 ^ (64 - f) := by rw [Nat.sub_mul, p, Nat.one_mul]
    rw [this]
    have : 2 ^ (64 - f) ≤ 18446744073709551616 := by rw [← p]; exact Nat.le_mul_of_pos_left _ r
    omega
 rw [Nat.min_eq_left (by omega)]
 have e : (18446744073709551615 : Int) / 2 ^ (64 - f) = (((18446744073709551615 : Nat) / 2 ^ (64 - f) : Nat) : Int) := by simp
 rw [e, a]
theorem half_ones (f : Nat) (h : 1 ≤ f) : (2 ^ f - 1) / 2 = 2 ^ (f - 1) - 1 := by
 obtain ⟨g, rfl⟩ : ∃ g, f = g + 1 := ⟨f - 1, by omega⟩
 rw [Nat.pow_succ, Nat.add_sub_cancel]
 have := Nat.two_pow_pos g
 omega
set_option maxHeartbeats 1000000 in
set_option maxRecDepth 100000 in
theorem fit_any (h : Ho) (s : Sp) (w : World) (k : h.ok) (ok : s.ok) (r : Sp) (hr : r = h.fit s) : Calls Tryz.prog 200 #[h.v, s.v] w fun e w' => e = .returned r.v ∧ Fr w w' [] := by
 obtain ⟨f, hf⟩ : ∃ f : Nat, h.f = (f : Int) := ⟨h.f.toNat, by have := k.2.1.1; omega⟩
 have k0 := k.2.1
 rw [hf] at k0
 have f0 : 2 ≤ f := by omega
 have f1 : f ≤ 64 := by omega
 have lt : ∀ g : Nat, g ≤ 64 → 2 ^ g - 1 < 18446744073709551616 := fun g hg => by
  have : 2 ^ g ≤ 2 ^ 64 := Nat.pow_le_pow_right (by decide) hg
  rw [show (2 : Nat) ^ 64 = 18446744073709551616 from rfl] at this
  have := Nat.two_pow_pos g
  omega
 have S1 := ones_shr f f1
 have S2 := half_ones f (by omega)
 have l1 := lt f f1
 have l2 := lt (f - 1) (by omega)
 obtain ⟨F, hF⟩ : ∃ F, F = 2 ^ f - 1 := ⟨_, rfl⟩
 obtain ⟨G, hG⟩ : ∃ G, G = 2 ^ (f - 1) - 1 := ⟨_, rfl⟩
 rw [← hF] at S1 S2 l1
 rw [← hG] at S2 l2
 have E1 := bits_and_u64_nat s.c F ok.c l1
 have E2 : bits .and .u64 (s.u : Int) ((F : Int) / 2) = ((s.u &&& G : Nat) : Int) := by
  have e : ((F : Int) / 2) = ((G : Nat) : Int) := by rw [← S2]; simp
  rw [e]; exact bits_and_u64_nat s.u G ok.u l2
 have E3 := bits_and_u64_nat s.d F ok.d l1
 have ld : s.d &&& F < 18446744073709551616 := Nat.lt_of_le_of_lt Nat.and_le_left ok.d
 have E4 : bits .andNot .u64 ((s.d &&& F : Nat) : Int) 1 = (((s.d &&& F) &&& (18446744073709551615 - 1) : Nat) : Int) := u64_andNot_nat (s.d &&& F) 1 ld (by decide)
 obtain ⟨j, hj⟩ : ∃ j : Nat, j = 64 - f := ⟨_, rfl⟩
 rw [← hj] at S1
 have hw : IntKind.i64.wrap (64 - (f : Int)) = (j : Int) := by rw [show (64 : Int) - (f : Int) = (j : Int) by omega]; exact IntWalk.i64_in _ (by omega)
 have HV : Hid (r = ⟨s.c &&& F, s.u &&& G, (s.d &&& F) &&& (18446744073709551615 - 1)⟩) := by
  show _ = _
  have t : h.f.toNat = f := by rw [hf]; rfl
  have t2 : (h.f - 1).toNat = f - 1 := by rw [hf]; omega
  have o : oneN 0 = 1 := by decide
  rw [hr, Ho.fit, lowN, lowN, lowN, clrN, t, t2, hF, hG, Nat.and_two_pow_sub_one_eq_mod, Nat.and_two_pow_sub_one_eq_mod, Nat.and_two_pow_sub_one_eq_mod, o]
 clear hr k k0 f0 f1 lt l1 l2 hF hG ok ld hj S2
 obtain ⟨hc, hfl, hs, hd⟩ := h
 dsimp only at hf
 subst hf
 obtain ⟨p, u, d⟩ := s
 dsimp only [Ho.v, Sp.v] at *
 go_enter Tryz.func200, Tryz.ntmps200
 obtain ⟨A, hA⟩ : ∃ A, A = p &&& F := ⟨_, rfl⟩
 obtain ⟨B, hB⟩ : ∃ B, B = u &&& G := ⟨_, rfl⟩
 obtain ⟨D, hD⟩ : ∃ D, D = (d &&& F) &&& (18446744073709551615 - 1) := ⟨_, rfl⟩
 rw [← hA] at E1
 rw [← hB] at E2
 rw [← hD] at E4
 rw [← hA, ← hB, ← hD] at HV
 clear hA hB hD
 have FA := Lib.hid (((Fr.alloc w (Ho.box ⟨hc, f, hs, hd⟩) []).trans (Fr.alloc _ (.cells #[.int .u64 p, .int .u64 u, .int .u64 d] 214) [])).trans (Fr.alloc _ (.cells #[.int .u64 A, .int .u64 B, .int .u64 D] 214) []))
 have x := arow (heap_alloc_new ((w.alloc (Ho.box ⟨hc, f, hs, hd⟩)).alloc (.cells #[.int .u64 p, .int .u64 u, .int .u64 d] 214)) (.cells #[.int .u64 A, .int .u64 B, .int .u64 D] 214))
 rw [show ((w.alloc (Ho.box ⟨hc, f, hs, hd⟩)).alloc (.cells #[.int .u64 p, .int .u64 u, .int .u64 d] 214)).heap.size = w.heap.size + 1 + 1 by simp] at x
 obtain ⟨x0, x1, x2⟩ := x
 dsimp only [Ho.box] at *
 go_wp2
 exact bodyPost_ret (v := .agg #[.int .u64 A, .int .u64 B, .int .u64 D]) (by simp [results, Tryz.results200, go_sem, x0, x1, x2]) rfl ⟨by rw [HV.out], FA.out⟩
abbrev CSR (w : World) (b : Nat) (s : Sp) : Prop := w.heap[b]? = some (Sp.box 214 s)
structure SV (W : World) (s t : Sp) (a : World) : Prop where
 f : Fr W a []
 s : CSR a W.heap.size s
 r : CSR a (W.heap.size + 1) zSp
 t : CSR a (W.heap.size + 2) t
theorem SV.fr {W : World} {s t : Sp} {a a' : World} (q : SV W s t a) (k : Fr a a' []) : SV W s t a' := ⟨q.f.trans k, k.heap q.s (by simp), k.heap q.r (by simp), k.heap q.t (by simp)⟩
def spSet (w : World) (b : Nat) (s : Sp) : World := ((w.setCell ⟨b, 0, none⟩ (.int .u64 s.c)).setCell ⟨b, 1, none⟩ (.int .u64 s.u)).setCell ⟨b, 2, none⟩ (.int .u64 s.d)
theorem SV.turn {W : World} {s t : Sp} {a : World} (q : SV W s t a) (x : Sp) : SV W s x (spSet a (W.heap.size + 2) x) :=
 ⟨q.f.new (aset_fr a _ _ _ _) (by simp), (aset_fr a _ _ _ _).heap q.s (by simp), (aset_fr a _ _ _ _).heap q.r (by simp), aset q.t _ _ _⟩
theorem SV.ends {W : World} {s t : Sp} {a : World} (q : SV W s t a) (x : Sp) : Fr W (spSet a (W.heap.size + 1) x) [] ∧ CSR (spSet a (W.heap.size + 1) x) (W.heap.size + 1) x :=
 ⟨q.f.new (aset_fr a _ _ _ _) (by simp), aset q.r _ _ _⟩
theorem SV.new (w : World) (s : Sp) : SV w s zSp (((w.alloc (Sp.box 214 s)).alloc (Sp.box 214 zSp)).alloc (Sp.box 214 zSp)) := by
 have a1 := heap_alloc_new w (Sp.box 214 s)
 have a2 := heap_alloc_new (w.alloc (Sp.box 214 s)) (Sp.box 214 zSp)
 have a3 := heap_alloc_new ((w.alloc (Sp.box 214 s)).alloc (Sp.box 214 zSp)) (Sp.box 214 zSp)
 rw [show (w.alloc (Sp.box 214 s)).heap.size = w.heap.size + 1 by simp] at a2
 rw [show ((w.alloc (Sp.box 214 s)).alloc (Sp.box 214 zSp)).heap.size = w.heap.size + 2 by simp] at a3
 exact ⟨((Fr.alloc _ _ []).trans (Fr.alloc _ _ [])).trans (Fr.alloc _ _ []), (Fr.alloc _ _ []).heap ((Fr.alloc _ _ []).heap a1 (by simp)) (by simp), (Fr.alloc _ _ []).heap a2 (by simp), a3⟩
theorem done_put (s : Sp) (q e : Int) : doneS s s q e = if s.hall q e = true then Sp.put ⟨if hasB s.c q = true then oneN q else 0, 0, 0⟩ q e else ⟨if hasB s.c q = true then oneN q else 0, 0, 0⟩ := by
 unfold doneS
 generalize (if hasB s.c q = true then oneN q else 0) = A
 by_cases k : s.hall q e = true
 · rw [if_pos k]
   rcases hall_dir k with rfl | rfl
   · simp [Sp.put, k]
   · simp [Sp.put, k]
 · rw [if_neg k, if_neg (fun h => k h.1), if_neg (fun h => k h.1)]
set_option maxHeartbeats 2000000 in
set_option maxRecDepth 100000 in
theorem served_any (s : Sp) (q e : Int) (w : World) (ok : s.ok) (r : Sp) (hr : r = doneS s s q e) : Calls Tryz.prog 276 #[s.v, .int .i64 q, .int .i64 e] w fun x w' => x = .returned r.v ∧ Fr w w' [] := by
 rw [done_put] at hr
 obtain ⟨b1, h1⟩ : ∃ b1, b1 = hasB s.c q := ⟨_, rfl⟩
 obtain ⟨b2, h2⟩ : ∃ b2, b2 = s.hall q e := ⟨_, rfl⟩
 have AT := Lib.hid (fun W => at_any s q W ok b1 h1)
 have HA := Lib.hid (fun W => hall_any s q e W ok b2 h2)
 obtain ⟨n, hn⟩ : ∃ n, n = oneN q := ⟨_, rfl⟩
 rw [← h1, ← h2, ← hn] at hr
 have hh : ∀ W : World, HInts (W.alloc (.cells #[.int .i64 q] 3)) (.slice (some ⟨W.heap.size, 0, none⟩) 1 1) [q] := fun W => by
  refine ⟨_, 1, rfl, Nat.le_refl 1, by decide, fun _ => ⟨W.heap.size, 0, rfl, fun i hi => ?_⟩⟩
  rw [Nat.zero_add, cell_of_row _ _ _ _ _ _ (heap_alloc_new W _)]
  have hi' : i < 1 := hi
  match i, hi' with
  | 0, _ => rfl
 have hl : ∀ W : World, HLs (W.alloc (.cells #[.int .i64 q] 3)) (.slice none 0 0) [] := fun W => ⟨none, 0, rfl, by simp, by decide, fun h => absurd h (by simp)⟩
 have O := Lib.hid (fun (W : World) (m : Nat) (em : m = W.heap.size) => show Calls Tryz.prog 202 #[.slice (some ⟨m, 0, none⟩) 1 1, .slice none 0 0] (W.alloc (.cells #[.int .i64 q] 3)) (fun x w' => x = .returned (Sp.mk n 0 0).v ∧ Fr (W.alloc (.cells #[.int .i64 q] 3)) w' []) by rw [em]; exact of_any _ [q] _ [] _ (hh W) (hl W) ⟨n, 0, 0⟩ (by rw [hn]; show _ = Sp.mk (0 ||| oneN q) 0 0; rw [Nat.zero_or]))
 have P1 := Lib.hid (fun (z : Nat) (hz : z < 18446744073709551616) (t : Sp) (ht : t = Sp.put ⟨z, 0, 0⟩ q e) W => put_any ⟨z, 0, 0⟩ q e W ⟨hz, (by decide : (0 : Nat) < 18446744073709551616), (by decide : (0 : Nat) < 18446744073709551616)⟩ t ht)
 have hlt : n < 18446744073709551616 := by rw [hn]; exact oneN_lt q
 have TB := Lib.hid (SV.new w s)
 clear hh hl h1 h2 hn ok
 obtain ⟨p, u, d⟩ := s
 obtain ⟨rc, ru, rd⟩ := r
 dsimp only [Sp.v, Sp.box, zSp] at *
 try simp only [show ((0 : Nat) : Int) = 0 from rfl] at O P1 TB
 cases b1 with
 | true =>
   go_enter Tryz.func276, Tryz.ntmps276
   go_wp2_with fail
   with_reducible refine (AT.out _).mono ?_
   rintro x w2 ⟨rfl, hf⟩
   have T2 := Lib.hid (TB.out.fr hf)
   clear hf
   go_wp2_with fail
   with_reducible refine (O.out _ _ (by simp)).mono ?_
   rintro x w3 ⟨rfl, hf⟩
   have T3 := Lib.hid (T2.out.fr ((Fr.alloc w2 (.cells #[.int .i64 q] 3) []).trans hf))
   clear hf T2
   have T4 := Lib.hid (T3.out.turn ⟨n, 0, 0⟩)
   obtain ⟨d0, d1, d2⟩ := arow T3.out.t
   have y := fun i => frozen_of_row _ _ i _ _ T3.out.t
   have y0 := y 0
   have y1 := y 1
   have y2 := y 2
   clear y
   obtain ⟨c0, c1, c2⟩ := arow T4.out.s
   dsimp only [spSet] at *
   try simp only [show ((0 : Nat) : Int) = 0 from rfl] at T4 c0 c1 c2 d0 d1 d2
   go_wp2_with fail
   generalize World.setCell (World.setCell (World.setCell w3 _ _) _ _) _ _ = W4 at *
   with_reducible refine (HA.out _).mono ?_
   rintro x w5 ⟨rfl, hf⟩
   have T5 := Lib.hid (T4.out.fr hf)
   clear hf c0 c1 c2 d0 d1 d2 y0 y1 y2 T4 T3
   cases b2 with
   | true =>
     have PU := Lib.hid (fun W => P1.out n (by exact hlt) ⟨rc, ru, rd⟩ (by rw [hr]; rfl) W)
     dsimp only [Sp.v] at PU
     try simp only [show ((0 : Nat) : Int) = 0 from rfl] at PU
     obtain ⟨c0, c1, c2⟩ := arow T5.out.t
     dsimp only [zSp] at c0 c1 c2
     try simp only [show ((0 : Nat) : Int) = 0 from rfl] at c0 c1 c2
     go_wp2_with fail
     with_reducible refine (PU.out _).mono ?_
     rintro x w6 ⟨rfl, hf⟩
     have T6 := Lib.hid (T5.out.fr hf)
     clear hf c0 c1 c2 T5
     have T7 := Lib.hid (T6.out.turn ⟨rc, ru, rd⟩)
     obtain ⟨d0, d1, d2⟩ := arow T6.out.t
     have z := fun i => frozen_of_row _ _ i _ _ T6.out.t
     have z0 := z 0
     have z1 := z 1
     have z2 := z 2
     clear z
     dsimp only [zSp, spSet] at *
     try simp only [show ((0 : Nat) : Int) = 0 from rfl] at d0 d1 d2
     obtain ⟨q1, q2⟩ := T7.out.ends ⟨rc, ru, rd⟩
     have q1 := Lib.hid q1
     have q2 := Lib.hid q2
     obtain ⟨c0, c1, c2⟩ := arow T7.out.t
     obtain ⟨r0, r1, r2⟩ := arow T7.out.r
     have y := fun i => frozen_of_row _ _ i _ _ T7.out.r
     have y0 := y 0
     have y1 := y 1
     have y2 := y 2
     clear y
     dsimp only [zSp, spSet, CSR] at *
     try simp only [show ((0 : Nat) : Int) = 0 from rfl] at r0 r1 r2 c0 c1 c2
     go_wp2
     generalize World.setCell (World.setCell (World.setCell w6 _ _) _ _) _ _ = W7 at *
     generalize World.setCell (World.setCell (World.setCell W7 _ _) _ _) _ _ = W at *
     obtain ⟨x0, x1, x2⟩ := arow q2.out
     dsimp only at x0 x1 x2
     exact bodyPost_ret (v := .agg #[.int .u64 rc, .int .u64 ru, .int .u64 rd]) (by simp [results, Tryz.results276, go_sem, x0, x1, x2]) rfl ⟨rfl, q1.out⟩
   | false =>
     obtain ⟨rfl, rfl, rfl⟩ : n = rc ∧ 0 = ru ∧ 0 = rd := by
      have e : (Sp.mk rc ru rd) = ⟨n, 0, 0⟩ := hr
      simp only [Sp.mk.injEq] at e
      exact ⟨e.1.symm, e.2.1.symm, e.2.2.symm⟩
     obtain ⟨q1, q2⟩ := T5.out.ends ⟨n, 0, 0⟩
     have q1 := Lib.hid q1
     have q2 := Lib.hid q2
     obtain ⟨c0, c1, c2⟩ := arow T5.out.t
     obtain ⟨r0, r1, r2⟩ := arow T5.out.r
     have y := fun i => frozen_of_row _ _ i _ _ T5.out.r
     have y0 := y 0
     have y1 := y 1
     have y2 := y 2
     clear y
     dsimp only [zSp, spSet, CSR] at *
     try simp only [show ((0 : Nat) : Int) = 0 from rfl] at q1 q2 r0 r1 r2 c0 c1 c2
     go_wp2
     generalize World.setCell (World.setCell (World.setCell w5 _ _) _ _) _ _ = W at *
     obtain ⟨x0, x1, x2⟩ := arow q2.out
     dsimp only at x0 x1 x2
     try simp only [show ((0 : Nat) : Int) = 0 from rfl] at x0 x1 x2
     exact bodyPost_ret (v := .agg #[.int .u64 n, .int .u64 0, .int .u64 0]) (by simp [results, Tryz.results276, go_sem, x0, x1, x2]) rfl ⟨rfl, q1.out⟩
 | false =>
   go_enter Tryz.func276, Tryz.ntmps276
   go_wp2_with fail
   with_reducible refine (AT.out _).mono ?_
   rintro x w2 ⟨rfl, hf⟩
   have T2 := Lib.hid (TB.out.fr hf)
   clear hf
   obtain ⟨c0, c1, c2⟩ := arow T2.out.s
   dsimp only at c0 c1 c2
   go_wp2_with fail
   with_reducible refine (HA.out _).mono ?_
   rintro x w5 ⟨rfl, hf⟩
   have T5 := Lib.hid (T2.out.fr hf)
   clear hf c0 c1 c2 T2
   cases b2 with
   | true =>
     have PU := Lib.hid (fun W => P1.out 0 (by decide) ⟨rc, ru, rd⟩ (by rw [hr]; rfl) W)
     dsimp only [Sp.v] at PU
     try simp only [show ((0 : Nat) : Int) = 0 from rfl] at PU
     obtain ⟨c0, c1, c2⟩ := arow T5.out.t
     dsimp only [zSp] at c0 c1 c2
     try simp only [show ((0 : Nat) : Int) = 0 from rfl] at c0 c1 c2
     go_wp2_with fail
     with_reducible refine (PU.out _).mono ?_
     rintro x w6 ⟨rfl, hf⟩
     have T6 := Lib.hid (T5.out.fr hf)
     clear hf c0 c1 c2 T5
     have T7 := Lib.hid (T6.out.turn ⟨rc, ru, rd⟩)
     obtain ⟨d0, d1, d2⟩ := arow T6.out.t
     have z := fun i => frozen_of_row _ _ i _ _ T6.out.t
     have z0 := z 0
     have z1 := z 1
     have z2 := z 2
     clear z
     dsimp only [zSp, spSet] at *
     try simp only [show ((0 : Nat) : Int) = 0 from rfl] at d0 d1 d2
     obtain ⟨q1, q2⟩ := T7.out.ends ⟨rc, ru, rd⟩
     have q1 := Lib.hid q1
     have q2 := Lib.hid q2
     obtain ⟨c0, c1, c2⟩ := arow T7.out.t
     obtain ⟨r0, r1, r2⟩ := arow T7.out.r
     have y := fun i => frozen_of_row _ _ i _ _ T7.out.r
     have y0 := y 0
     have y1 := y 1
     have y2 := y 2
     clear y
     dsimp only [zSp, spSet, CSR] at *
     try simp only [show ((0 : Nat) : Int) = 0 from rfl] at r0 r1 r2 c0 c1 c2
     go_wp2
     generalize World.setCell (World.setCell (World.setCell w6 _ _) _ _) _ _ = W7 at *
     generalize World.setCell (World.setCell (World.setCell W7 _ _) _ _) _ _ = W at *
     obtain ⟨x0, x1, x2⟩ := arow q2.out
     dsimp only at x0 x1 x2
     exact bodyPost_ret (v := .agg #[.int .u64 rc, .int .u64 ru, .int .u64 rd]) (by simp [results, Tryz.results276, go_sem, x0, x1, x2]) rfl ⟨rfl, q1.out⟩
   | false =>
     obtain ⟨rfl, rfl, rfl⟩ : 0 = rc ∧ 0 = ru ∧ 0 = rd := by
      have e : (Sp.mk rc ru rd) = ⟨0, 0, 0⟩ := hr
      simp only [Sp.mk.injEq] at e
      exact ⟨e.1.symm, e.2.1.symm, e.2.2.symm⟩
     obtain ⟨q1, q2⟩ := T5.out.ends ⟨0, 0, 0⟩
     have q1 := Lib.hid q1
     have q2 := Lib.hid q2
     obtain ⟨c0, c1, c2⟩ := arow T5.out.t
     obtain ⟨r0, r1, r2⟩ := arow T5.out.r
     have y := fun i => frozen_of_row _ _ i _ _ T5.out.r
     have y0 := y 0
     have y1 := y 1
     have y2 := y 2
     clear y
     dsimp only [zSp, spSet, CSR] at *
     try simp only [show ((0 : Nat) : Int) = 0 from rfl] at q1 q2 r0 r1 r2 c0 c1 c2
     go_wp2
     generalize World.setCell (World.setCell (World.setCell w5 _ _) _ _) _ _ = W at *
     obtain ⟨x0, x1, x2⟩ := arow q2.out
     dsimp only at x0 x1 x2
     try simp only [show ((0 : Nat) : Int) = 0 from rfl] at x0 x1 x2
     exact bodyPost_ret (v := .agg #[.int .u64 0, .int .u64 0, .int .u64 0]) (by simp [results, Tryz.results276, go_sem, x0, x1, x2]) rfl ⟨rfl, q1.out⟩
end Go.Proofs.YtiflmkicnkbeaaaGreatDoor
namespace Go.Proofs.YtiflmkicnkbeaaaGreatDoor
open Go.RowKit
set_option maxRecDepth 100000 in
theorem oneMore_all (n : Int) (w : World) (h0 : -9223372036854775808 ≤ n) (h1 : n ≤ 9223372036854775807) (y : Int) (hy : y = min n 9223372036854775806 + 1) : Calls Tryz.prog 322 #[.int .i64 n] w fun e w' => e = .returned (.int .i64 y) ∧ w' = w := by
 obtain ⟨m, hm⟩ : ∃ m, min n 9223372036854775806 = m := ⟨_, rfl⟩
 have hw : IntKind.i64.wrap (m + 1) = y := by rw [hy, hm]; exact IntWalk.i64_in _ (by omega)
 clear hy h0 h1
 go_enter Tryz.func322, Tryz.ntmps322
 go_wp2
 go_ret
 exact ⟨rfl, rfl⟩
set_option maxHeartbeats 1000000 in
set_option maxRecDepth 100000 in
theorem tick_all (l h : Int) (o : Bool) (w : World) (x y : Int) (b : Bool) (hx : x = tickL l o) (hy : y = heldK l h o) (hb : b = tickB l o) (h0 : -9223372036854775808 ≤ h) (h1 : h ≤ 9223372036854775807) (h2 : l ≤ 9223372036854775807) :
 Calls Tryz.prog 272 #[dv l h, .bool o] w fun e w' => e = .returned (.tuple #[dv x y, .bool b]) ∧ Fr w w' [] := by
 have FA := Lib.hid ((Fr.alloc w (dbox 195 l h) []).trans (Fr.alloc _ (dbox 195 0 0) []))
 obtain ⟨N1, N2⟩ := two_new w (dbox 195 l h) (dbox 195 0 0)
 have N1 := Lib.hid N1
 have N2 := Lib.hid N2
 by_cases c0 : l ≤ 0
 · rw [tickL, if_pos c0] at hx
   rw [heldK, if_pos c0] at hy
   rw [tickB, if_pos c0] at hb
   subst hx hy hb
   have I := Lib.hid (fun W => dis_any l h W false (by rw [decide_eq_false]; omega))
   clear h0 h1 h2 c0
   dsimp only [dv, dbox] at *
   go_enter Tryz.func272, Tryz.ntmps272
   go_wp2_with fail
   with_reducible refine (I.out _).mono ?_
   rintro e w2 ⟨rfl, hf⟩
   have M2 := Lib.hid (hf.heap N2.out (by simp))
   have F2 := Lib.hid (FA.out.trans hf)
   obtain ⟨r0, r1⟩ := drow M2.out
   have z0 := frozen_of_row _ _ 0 _ _ M2.out
   have z1 := frozen_of_row _ _ 1 _ _ M2.out
   clear hf
   go_wp2
   have X := dset M2.out (.int .i64 0) (.int .i64 0)
   have Y := F2.out.new (dset_fr w2 (w.heap.size + 1) (.int .i64 0) (.int .i64 0)) (by simp)
   generalize World.setCell (World.setCell w2 _ _) _ _ = W at *
   obtain ⟨x0, x1⟩ := drow X
   exact bodyPost_ret (v := .tuple #[.agg #[.int .i64 0, .int .i64 0], .bool false]) (by simp [results, Tryz.results272, go_sem, x0, x1]) rfl ⟨rfl, Y⟩
 · have I := Lib.hid (fun W => dis_any l h W true (by rw [decide_eq_true]; omega))
   rw [tickL, if_neg c0] at hx
   rw [heldK, if_neg c0] at hy
   rw [tickB, if_neg c0] at hb
   by_cases c1 : 1 < l
   · rw [if_pos c1] at hx hy hb
     have wl : IntKind.i64.wrap (l - 1) = x := by rw [hx]; exact IntWalk.i64_in _ (by omega)
     subst hy hb
     clear hx h0 h1 h2 c0
     dsimp only [dv, dbox] at *
     go_enter Tryz.func272, Tryz.ntmps272
     go_wp2_with fail
     with_reducible refine (I.out _).mono ?_
     rintro e w2 ⟨rfl, hf⟩
     have M2 := Lib.hid (hf.heap N2.out (by simp))
     have F2 := Lib.hid (FA.out.trans hf)
     obtain ⟨s0, s1⟩ := drow (hf.heap N1.out (by simp))
     obtain ⟨r0, r1⟩ := drow M2.out
     have z0 := frozen_of_row _ _ 0 _ _ M2.out
     have z1 := frozen_of_row _ _ 1 _ _ M2.out
     clear hf
     go_wp2
     have X := dset M2.out (.int .i64 x) (.int .i64 y)
     have Y := F2.out.new (dset_fr w2 (w.heap.size + 1) (.int .i64 x) (.int .i64 y)) (by simp)
     generalize World.setCell (World.setCell w2 _ _) _ _ = W at *
     obtain ⟨x0, x1⟩ := drow X
     exact bodyPost_ret (v := .tuple #[.agg #[.int .i64 x, .int .i64 y], .bool false]) (by simp [results, Tryz.results272, go_sem, x0, x1]) rfl ⟨rfl, Y⟩
   · rw [if_neg c1] at hx hy hb
     obtain rfl : l = 1 := by omega
     cases o with
     | false =>
       rw [if_neg (by decide)] at hx hy
       subst hx hy hb
       clear h0 h1 h2 c0
       dsimp only [dv, dbox] at *
       go_enter Tryz.func272, Tryz.ntmps272
       go_wp2_with fail
       with_reducible refine (I.out _).mono ?_
       rintro e w2 ⟨rfl, hf⟩
       have M2 := Lib.hid (hf.heap N2.out (by simp))
       have F2 := Lib.hid (FA.out.trans hf)
       obtain ⟨s0, s1⟩ := drow (hf.heap N1.out (by simp))
       obtain ⟨r0, r1⟩ := drow M2.out
       have z0 := frozen_of_row _ _ 0 _ _ M2.out
       have z1 := frozen_of_row _ _ 1 _ _ M2.out
       clear hf
       go_wp2
       have X := dset M2.out (.int .i64 0) (.int .i64 0)
       have Y := F2.out.new (dset_fr w2 (w.heap.size + 1) (.int .i64 0) (.int .i64 0)) (by simp)
       generalize World.setCell (World.setCell w2 _ _) _ _ = W at *
       obtain ⟨x0, x1⟩ := drow X
       exact bodyPost_ret (v := .tuple #[.agg #[.int .i64 0, .int .i64 0], .bool true]) (by simp [results, Tryz.results272, go_sem, x0, x1]) rfl ⟨rfl, Y⟩
     | true =>
       rw [if_pos rfl] at hx hy
       have O := Lib.hid (fun W => oneMore_all h W h0 h1 y hy)
       subst hx hb
       clear h0 h1 h2 c0 hy
       dsimp only [dv, dbox] at *
       go_enter Tryz.func272, Tryz.ntmps272
       go_wp2_with fail
       with_reducible refine (I.out _).mono ?_
       rintro e w2 ⟨rfl, hf⟩
       have M2 := Lib.hid (hf.heap N2.out (by simp))
       have F2 := Lib.hid (FA.out.trans hf)
       obtain ⟨s0, s1⟩ := drow (hf.heap N1.out (by simp))
       obtain ⟨r0, r1⟩ := drow M2.out
       have z0 := frozen_of_row _ _ 0 _ _ M2.out
       have z1 := frozen_of_row _ _ 1 _ _ M2.out
       clear hf
       go_wp2_with fail
       refine wp_region_noPanic ?_
       refine wp_region_held_drew (S := (fun a => a.cell? ⟨w.heap.size, 0, none⟩ = some (.int .i64 1) ∧ a.cell? ⟨w.heap.size, 1, none⟩ = some (.int .i64 h))) (by kernel_rfl) ⟨s0, s1⟩ (fun hHeld => ?_)
       refine zHU fun hU => ?_
       try dsimp only at hU
       refine zH 0 ?_
       refine zH 1 ?_
       refine zH 2 ?_
       refine zH 3 ?_
       refine wpAnyH_ready (rs := [4]) (by kernel_rfl) (by simp) ?_
       refine AllReadyH.cons (o := _) rfl (fun K hK => ?_) AllReadyH.nil
       go_simp
       ((with_reducible refine (O.out _).mono ?_); rintro e x1 ⟨rfl, rfl⟩)
       go_wp2_with fail
       refine hK.out _ _ ⟨s0, s1⟩ (fun hHeld => ?_)
       clear hK K
       try simp only [Act.put, List.setIfInBounds_toArray, List.set_cons_zero, List.set_cons_succ]
       refine zH 5 ?_
       refine wpAnyH_ready (rs := [6]) (by kernel_rfl) (by simp) ?_
       refine AllReadyH.cons (o := _) rfl (fun K hK => ?_) AllReadyH.nil
       go_simp
       refine hK.out _ _ ⟨(dset_fr w2.drew (w.heap.size + 1) _ _).cell s0 (by simp), (dset_fr w2.drew (w.heap.size + 1) _ _).cell s1 (by simp)⟩ (fun hHeld => ?_)
       clear hK K
       try simp only [Act.put, List.setIfInBounds_toArray, List.set_cons_zero, List.set_cons_succ]
       refine zH 7 ?_
       refine wpAnyH_done (by kernel_rfl) ?_ _
       refine NoPanic.normal ?_
       clear hHeld
       go_wp2
       have X := (Fr.drew _ []).heap (dset M2.out (.int .i64 1) (.int .i64 (y))) (by simp)
       have Y := F2.out.new ((dset_fr w2 (w.heap.size + 1) (.int .i64 1) (.int .i64 (y))).trans (Fr.drew _ _)) (by simp)
       generalize World.drew (World.setCell (World.setCell w2 _ _) _ _) = W at *
       obtain ⟨x0, x1⟩ := drow X
       exact bodyPost_ret (v := .tuple #[.agg #[.int .i64 1, .int .i64 (y)], .bool false]) (by simp [results, Tryz.results272, go_sem, x0, x1]) rfl ⟨rfl, Y⟩
end Go.Proofs.YtiflmkicnkbeaaaGreatDoor
namespace Go.Proofs.YtiflmkicnkbeaaaGreatDoor
open Go.RowKit
abbrev dobj (l k : Int) : Obj := .cells #[.int .i64 l, .int .i64 k] 195
set_option maxRecDepth 100000 in
theorem doorOf_any (c : Ca) (w : World) : Calls Tryz.prog 197 #[c.v] w fun e w' => e = .returned (dv c.x.o c.k) ∧ Fr w w' [] := by
 obtain ⟨⟨xp, xe, xo, xr⟩, xk⟩ := c
 have FA := Lib.hid ((Fr.alloc w (Ca.box ⟨⟨xp, xe, xo, xr⟩, xk⟩) []).trans (Fr.alloc _ (dobj xo xk) []))
 have x := drow (heap_alloc_new (w.alloc (Ca.box ⟨⟨xp, xe, xo, xr⟩, xk⟩)) (dobj xo xk))
 rw [show (w.alloc (Ca.box ⟨⟨xp, xe, xo, xr⟩, xk⟩)).heap.size = w.heap.size + 1 by simp] at x
 obtain ⟨x0, x1⟩ := x
 dsimp only [Ca.v, Ca.box, dobj, dv] at *
 go_enter Tryz.func197, Tryz.ntmps197
 go_wp2
 exact bodyPost_ret (v := .agg #[.int .i64 xo, .int .i64 xk]) (by simp [results, Tryz.results197, go_sem, x0, x1]) rfl ⟨rfl, FA.out⟩
structure WD (W : World) (c : Ca) (l k : Int) (a : World) : Prop where
 f : Fr W a []
 c : CB a W.heap.size c
 d : a.heap[W.heap.size + 1]? = some (dobj l k)
 r : CB a (W.heap.size + 2) zCa
theorem WD.fr {W : World} {c : Ca} {l k : Int} {a a' : World} (q : WD W c l k a) (f : Fr a a' []) : WD W c l k a' := ⟨q.f.trans f, q.c.fr f (by simp), f.heap q.d (by simp), q.r.fr f (by simp)⟩
theorem WD.turn {W : World} {c x : Ca} {l k : Int} {a a' : World} (q : WD W c l k a) (f : Fr a a' [W.heap.size]) (r : CB a' W.heap.size x) : WD W x l k a' :=
 ⟨q.f.new f (by simp), r, f.heap q.d (by simp), q.r.fr f (by simp)⟩
theorem WD.new (w : World) (c : Ca) (l k : Int) : WD w c l k (((w.alloc c.box).alloc (dobj l k)).alloc zCa.box) := by
 have a1 := heap_alloc_new w c.box
 have a2 := heap_alloc_new (w.alloc c.box) (dobj l k)
 have a3 := heap_alloc_new ((w.alloc c.box).alloc (dobj l k)) zCa.box
 rw [show (w.alloc c.box).heap.size = w.heap.size + 1 by simp] at a2
 rw [show ((w.alloc c.box).alloc (dobj l k)).heap.size = w.heap.size + 2 by simp] at a3
 exact ⟨((Fr.alloc _ _ []).trans (Fr.alloc _ _ [])).trans (Fr.alloc _ _ []), (Fr.alloc _ _ []).heap ((Fr.alloc _ _ []).heap a1 (by simp)) (by simp), (Fr.alloc _ _ []).heap a2 (by simp), a3⟩
def DS (W : World) (l k : Int) (a : World) : Prop := a.cell? ⟨W.heap.size + 1, 0, none⟩ = some (.int .i64 l) ∧ a.cell? ⟨W.heap.size + 1, 1, none⟩ = some (.int .i64 k)
theorem WD.ds {W : World} {c : Ca} {l k : Int} {a : World} (q : WD W c l k a) : DS W l k a := drow q.d
set_option maxHeartbeats 1000000 in
set_option maxRecDepth 100000 in
theorem withDoor_any (c : Ca) (l k : Int) (w : World) (x : Ca) (hx : x = ⟨⟨c.x.p, c.x.e, l, c.x.r⟩, k⟩) : Calls Tryz.prog 273 #[c.v, dv l k] w fun e w' => e = .returned x.v ∧ Fr w w' [] := by
 have TB := Lib.hid (WD.new w c l k)
 subst hx
 obtain ⟨⟨xp, xe, xo, xr⟩, xk⟩ := c
 dsimp only [Ca.v, Ca.box, dobj, dv, zCa] at *
 go_enter Tryz.func273, Tryz.ntmps273
 go_upto_region 1 with fail
 generalize World.alloc (World.alloc (World.alloc w _) _) _ = w1 at *
 go_wp2_with fail
 have T1 := Lib.hid TB.out
 have T2 := Lib.hid (T1.out.turn (Fr.setCell _ w.heap.size 2 (.int .i64 l) (by simp)) (T1.out.c.put2 l))
 have T3 := Lib.hid (T2.out.turn (Fr.setCell _ w.heap.size 4 (.int .i64 k) (by simp)) (T2.out.c.put4 k))
 obtain ⟨q1, q2⟩ : _ ∧ _ := ⟨(T3.out.f.new (carSet_fr _ (w.heap.size + 2) ⟨⟨xp, xe, l, xr⟩, k⟩) (by simp)).trans (Fr.drew _ []), (T3.out.r.set ⟨⟨xp, xe, l, xr⟩, k⟩).fr (Fr.drew _ []) (by simp)⟩
 have q1 := Lib.hid q1
 have q2 := Lib.hid q2
 have z2 := T1.out.c.fz 2
 have z4 := T1.out.c.fz 4
 obtain ⟨d0, d1, d2, d3, d4⟩ := T1.out.c.cells
 obtain ⟨e0, e1, e2, e3, e4⟩ := T2.out.c.cells
 obtain ⟨c0, c1, c2, c3, c4⟩ := T3.out.c.cells
 obtain ⟨r0, r1, r2, r3, r4⟩ := T3.out.r.cells
 have y0 := T3.out.r.fz 0
 have y1 := T3.out.r.fz 1
 have y2 := T3.out.r.fz 2
 have y3 := T3.out.r.fz 3
 have y4 := T3.out.r.fz 4
 dsimp only [zCa, carSet] at *
 refine wp_region_noPanic ?_
 refine wp_region_held_drew (S := (DS w l k)) (by kernel_rfl) (T1.out.fr (Fr.drew w1 [])).ds (fun hHeld => ?_)
 refine zHU fun hU => ?_
 try dsimp only [DS] at hU
 refine zH 0 ?_
 refine zH 1 ?_
 refine zH 2 ?_
 refine zH 3 ?_
 refine zH 4 ?_
 refine zH 5 ?_
 refine wpAnyH_ready (rs := [6]) (by kernel_rfl) (by simp) ?_
 refine AllReadyH.cons (o := _) rfl (fun K hK => ?_) AllReadyH.nil
 go_simp
 refine hK.out _ _ (T2.out.fr (Fr.drew _ [])).ds (fun hHeld => ?_)
 clear hK K
 try simp only [Act.put, List.setIfInBounds_toArray, List.set_cons_zero, List.set_cons_succ]
 refine zH 7 ?_
 refine wpAnyH_ready (rs := [8]) (by kernel_rfl) (by simp) ?_
 refine AllReadyH.cons (o := _) rfl (fun K hK => ?_) AllReadyH.nil
 go_simp
 refine hK.out _ _ (T3.out.fr (Fr.drew _ [])).ds (fun hHeld => ?_)
 clear hK K
 try simp only [Act.put, List.setIfInBounds_toArray, List.set_cons_zero, List.set_cons_succ]
 refine wpAnyH_done (by kernel_rfl) ?_ _
 refine NoPanic.normal ?_
 clear hHeld
 go_wp2
 generalize World.drew (World.setCell (World.setCell (World.setCell (World.setCell (World.setCell (World.setCell (World.setCell _ _ _) _ _) _ _) _ _) _ _) _ _) _ _) = W at *
 obtain ⟨x0, x1, x2, x3, x4⟩ := q2.out.cells
 dsimp only at x0 x1 x2 x3 x4
 exact bodyPost_ret (v := .agg #[.int .i64 xp, .int .i64 xe, .int .i64 l, .bool xr, .int .i64 k]) (by simp [results, Tryz.results273, go_sem, x0, x1, x2, x3, x4]) rfl ⟨rfl, q1.out⟩
structure WT (W : World) (n : Nat) (c : Ca) (l k : Int) (a : World) : Prop where
 f : Fr W a []
 c : CB a W.heap.size c
 r : CB a (W.heap.size + 1) zCa
 d : a.heap[n]? = some (dobj l k)
theorem WT.fr {W : World} {n : Nat} {c : Ca} {l k : Int} {a a' : World} (q : WT W n c l k a) (f : Fr a a' []) : WT W n c l k a' := ⟨q.f.trans f, q.c.fr f (by simp), q.r.fr f (by simp), f.heap q.d (by simp)⟩
theorem WT.new {W a : World} {c : Ca} (f : Fr ((W.alloc c.box).alloc zCa.box) a []) (l k : Int) : WT W a.heap.size c l k (a.alloc (dobj l k)) := by
 have a1 := heap_alloc_new W c.box
 have a2 := heap_alloc_new (W.alloc c.box) zCa.box
 rw [show (W.alloc c.box).heap.size = W.heap.size + 1 by simp] at a2
 have g := f.trans (Fr.alloc a (dobj l k) [])
 exact ⟨((Fr.alloc _ _ []).trans (Fr.alloc _ _ [])).trans g, g.heap ((Fr.alloc _ _ []).heap a1 (by simp)) (by simp), g.heap a2 (by simp), heap_alloc_new _ _⟩
set_option maxHeartbeats 1000000 in
set_option maxRecDepth 100000 in
theorem wait_any (c : Ca) (ob : Bool) (w : World) (h0 : -9223372036854775808 ≤ c.k) (h1 : c.k ≤ 9223372036854775807) (h2 : c.x.o ≤ 9223372036854775807) (x : Ca) (hx : x = ⟨⟨c.x.p, c.x.e, tickL c.x.o ob, c.x.r⟩, heldK c.x.o c.k ob⟩) (b : Bool) (hb : b = tickB c.x.o ob) :
 Calls Tryz.prog 198 #[c.v, .bool ob] w fun e w' => e = .returned (.tuple #[x.v, .bool b]) ∧ Fr w w' [] := by
 have DO := Lib.hid (fun W => doorOf_any c W)
 obtain ⟨l, hl⟩ : ∃ l, l = tickL c.x.o ob := ⟨_, rfl⟩
 obtain ⟨k, hk⟩ : ∃ k, k = heldK c.x.o c.k ob := ⟨_, rfl⟩
 have TI := Lib.hid (fun W => tick_all c.x.o c.k ob W l k b hl hk hb h0 h1 h2)
 rw [← hl, ← hk] at hx
 have WI := Lib.hid (fun W => withDoor_any c l k W x hx)
 have F0 := Lib.hid (fun a (f : Fr ((w.alloc c.box).alloc zCa.box) a []) => WT.new (W := w) f l k)
 clear hl hk hb h0 h1 h2
 subst hx
 obtain ⟨⟨xp, xe, xo, xr⟩, xk⟩ := c
 dsimp only [Ca.v, Ca.box, dobj, dv, zCa] at *
 go_enter Tryz.func198, Tryz.ntmps198
 go_wp2_with fail
 with_reducible refine (DO.out _).mono ?_
 rintro e w2 ⟨rfl, hf2⟩
 go_wp2_with fail
 with_reducible refine (TI.out _).mono ?_
 rintro e w3 ⟨rfl, hf3⟩
 have T3 := Lib.hid (F0.out w3 (hf2.trans hf3))
 clear hf2 hf3 F0 DO TI
 obtain ⟨c0, c1, c2, c3, c4⟩ := T3.out.c.cells
 obtain ⟨d0, d1⟩ := drow T3.out.d
 dsimp only at c0 c1 c2 c3 c4 d0 d1
 go_wp2_with fail
 with_reducible refine (WI.out _).mono ?_
 rintro e w4 ⟨rfl, hf⟩
 have T4 := Lib.hid (T3.out.fr hf)
 obtain ⟨q1, q2⟩ : _ ∧ _ := ⟨T4.out.f.new (carSet_fr _ (w.heap.size + 1) ⟨⟨xp, xe, l, xr⟩, k⟩) (by simp), T4.out.r.set ⟨⟨xp, xe, l, xr⟩, k⟩⟩
 have q1 := Lib.hid q1
 have q2 := Lib.hid q2
 clear hf c0 c1 c2 c3 c4 d0 d1 WI T3
 obtain ⟨r0, r1, r2, r3, r4⟩ := T4.out.r.cells
 have y0 := T4.out.r.fz 0
 have y1 := T4.out.r.fz 1
 have y2 := T4.out.r.fz 2
 have y3 := T4.out.r.fz 3
 have y4 := T4.out.r.fz 4
 dsimp only [zCa, carSet] at *
 go_wp2
 generalize World.setCell (World.setCell (World.setCell (World.setCell (World.setCell w4 _ _) _ _) _ _) _ _) _ _ = W at *
 obtain ⟨x0, x1, x2, x3, x4⟩ := q2.out.cells
 dsimp only at x0 x1 x2 x3 x4
 exact bodyPost_ret (v := .tuple #[.agg #[.int .i64 xp, .int .i64 xe, .int .i64 l, .bool xr, .int .i64 k], .bool b]) (by simp [results, Tryz.results198, go_sem, x0, x1, x2, x3, x4]) rfl ⟨rfl, q1.out⟩
end Go.Proofs.YtiflmkicnkbeaaaGreatDoor
namespace Go.Proofs.YtiflmkicnkbeaaaGreatDoor
open Go.RowKit
def Tz (w : World) : Prop := ∀ j, j < 64 → w.cell? ⟨13, j, none⟩ = some (.int .u8 (Lib.deBruijn64tab.getD j 0))
theorem Tz.fr {w w' : World} (h : Tz w) (k : Fr w w' []) : Tz w' := fun j hj => k.cell (h j hj) (by simp)
set_option maxHeartbeats 1000000 in
theorem tz_core (x k idx : Nat) (w : World) (hx0 : ((x : Int) == 0) = false)
 (key : IntKind.u64.wrap (bits BinOp.and IntKind.u64 (x : Int) (IntKind.u64.wrap (-(x : Int))) * 285870213051353865) / 288230376151711744 = (idx : Int))
 (hi : idx < 64) (hk : k < 64) (hcell : w.cell? ⟨13, idx, none⟩ = some (.int .u8 k)) :
 Calls Tryz.prog 377 #[.int .u64 x] w fun e w' => e = .returned (.int .i64 k) ∧ w' = w := by
 go_enter Tryz.func377, Tryz.ntmps377
 go_wp2_with (simp only [key])
 go_ret
 exact ⟨rfl, rfl⟩
theorem tz_any (x : Nat) (hx : x < 18446744073709551616) (hx0 : x ≠ 0) (w : World) (hT : Tz w) (r : Nat) (hr : r = Lib.ctz 64 x) :
 Calls Tryz.prog 377 #[.int .u64 x] w fun e w' => e = .returned (.int .i64 r) ∧ w' = w := by
 subst hr
 obtain ⟨hlow, hk⟩ := Lib.lowest_bit 64 x hx0 hx
 obtain ⟨hi, htab⟩ := Lib.deBruijn64_at _ hk
 have hcell := hT _ hi
 rw [htab] at hcell
 exact tz_core x _ _ w (by simp; omega) (tz64_key x _ hx hx0 hlow) hi hk hcell
theorem tz_zero (w : World) : Calls Tryz.prog 377 #[.int .u64 0] w fun e w' => e = .returned (.int .i64 64) ∧ w' = w := by
 go_enter Tryz.func377, Tryz.ntmps377
 go_wp2
 go_ret
 exact ⟨rfl, rfl⟩
theorem tz_all (x : Nat) (hx : x < 18446744073709551616) (w : World) (hT : Tz w) (r : Nat) (hr : r = Lib.ctz 64 x) :
 Calls Tryz.prog 377 #[.int .u64 x] w fun e w' => e = .returned (.int .i64 r) ∧ w' = w := by
 by_cases h0 : x = 0
 · subst h0
   subst hr
   exact tz_zero w
 · exact tz_any x hx h0 w hT r hr
theorem lz_any (x : Nat) (hx : x < 18446744073709551616) (w : World) (r : Int) (hr : r = 64 - (Lib.bitLen x : Int)) :
 Calls Tryz.prog 378 #[.int .u64 x] w fun e w' => e = .returned (.int .i64 r) ∧ w' = w := by
 have := Tryz.bits_LeadingZeros64 (x : Int) w (by omega) (by omega)
 rw [Int.toNat_natCast, ← hr] at this
 exact this
theorem near_any (s : Sp) (z : Int) (w : World) (h : s.ok) (hT : Tz w) (x : Int) (hx : NearIs s.all (min (max z (-1)) 64) x) :
 Calls Tryz.prog 372 #[s.v, .int .i64 z] w fun e w' => e = .returned (.int .i64 x) ∧ Fr w w' [] := by
 obtain ⟨c, hc⟩ : ∃ c, c = min (max z (-1)) 64 := ⟨_, rfl⟩
 rw [← hc] at hx
 obtain ⟨u, hu⟩ : ∃ u, u = upN s.all c := ⟨_, rfl⟩
 obtain ⟨d, hd⟩ : ∃ d, d = dnN s.all c := ⟨_, rfl⟩
 have AB := Lib.hid (fun W => aabove_any s z W h c hc u hu)
 have BE := Lib.hid (fun W => below_any s z W h c hc d hd)
 have hul : u < 18446744073709551616 := by rw [hu]; exact upN_lt h.all c
 have hdl : d < 18446744073709551616 := by rw [hd]; exact dnN_lt _ c
 have HX : Hid (x = nearC u d) := by
  show _ = _
  refine hx.unique ?_
  rw [hu, hd]
  exact near_code h.all (by omega) (by omega)
 have HT := Lib.hid hT
 clear hx hc hu hd h hT
 obtain ⟨sp, su, sd⟩ := s
 have HS := Lib.hid ((SS.new w 214 sp su sd).fr (Fr.drew _ []))
 obtain ⟨t, ht⟩ : ∃ t, t = Lib.ctz 64 u := ⟨_, rfl⟩
 obtain ⟨l, hl⟩ : ∃ l, l = 64 - (Lib.bitLen d : Int) := ⟨_, rfl⟩
 have LZ := Lib.hid (fun W => lz_any d hdl W l hl)
 have TZ := Lib.hid (fun W hT => tz_all u hul W hT t ht)
 have HC : Hid (x = if u = 0 ∧ d = 0 then 0 else if (t : Int) ≤ l then 1 else -1) := by
  show _ = _
  rw [HX.out, nearC, ht, hl]
  have hb : Lib.bitLen d ≤ 64 := Lib.bitLen_le d 64 (by decide) hdl
  by_cases h1 : u = 0 ∧ d = 0
  · rw [if_pos h1, if_pos h1]
  · rw [if_neg h1, if_neg h1]
    by_cases h2 : Lib.ctz 64 u ≤ 64 - Lib.bitLen d
    · rw [if_pos h2, if_pos (by omega)]
    · rw [if_neg h2, if_neg (by omega)]
 clear ht hl HX
 dsimp only [Sp.v, Sp.box] at *
 go_enter Tryz.func372, Tryz.ntmps372
 go_wp2
 refine wp_region_det (S := SS w w.heap.size sp su sd) (by kernel_rfl) HS.out ?_
 refine zDU fun hU => ?_
 try dsimp only [SS] at hU
 refine zD 0 ?_
 refine zD 1 ?_
 refine zD 2 ?_ (hv := by (intro w hSw; go_simp; exact Came.call ((AB.out w).mono fun e w' ⟨he, hf⟩ => ⟨he, hSw.fr hf⟩) (by with_reducible rfl)))
 refine zD 3 ?_
 refine zD 4 ?_
 refine zD 5 ?_ (hv := by (intro w hSw; go_simp; exact Came.call ((BE.out w).mono fun e w' ⟨he, hf⟩ => ⟨he, hSw.fr hf⟩) (by with_reducible rfl)))
 refine zD 6 ?_
 refine zD 7 ?_
 refine wpDet_done (by kernel_rfl) ?_ _
 rintro w3 ⟨hF, _⟩
 have F3 := Lib.hid hF
 have T3 := Lib.hid (HT.out.fr hF)
 clear hF HS HT
 by_cases h1 : u = 0 ∧ d = 0
 · have HV : Hid (x = 0) := by show _ = _; rw [HC.out, if_pos h1]
   obtain ⟨rfl, rfl⟩ := h1
   clear HC
   go_wp2
   go_ret
   exact ⟨by rw [HV.out]; rfl, F3.out⟩
 · have HB : Hid ((((u : Int) == 0) && ((d : Int) == 0)) = false) := by
    show _ = _
    by_cases a : u = 0
    · have b : ¬ d = 0 := fun e => h1 ⟨a, e⟩
      simp [b]
    · simp [a]
   go_upto_region 2 with fail
   go_cut [13] (fun s13 wx => s13 = .bool false ∧ wx = w3)
   case first =>
    by_cases a : u = 0
    · have b : ¬ d = 0 := fun e => h1 ⟨a, e⟩
      have e1 : ((d : Int) == 0) = false := by simp [b]
      subst a
      clear h1 HB b
      go_wp2
      go_meet
      exact ⟨rfl, rfl⟩
    · have e1 : ((u : Int) == 0) = false := by simp [a]
      clear h1 HB a
      go_wp2
      go_meet
      exact ⟨rfl, rfl⟩
   case rest =>
    obtain ⟨rfl, rfl⟩ := hcut
    have HV : Hid (x = if (t : Int) ≤ l then 1 else -1) := by show _ = _; rw [HC.out, if_neg h1]
    clear HC h1 HB
    go_wp2_with fail
    with_reducible refine (TZ.out _ T3.out).mono ?_
    rintro e w4 ⟨rfl, rfl⟩
    go_wp2_with fail
    with_reducible refine (LZ.out _).mono ?_
    rintro e w4 ⟨rfl, rfl⟩
    by_cases h2 : (t : Int) ≤ l
    · have HW : Hid (x = 1) := by show _ = _; rw [HV.out, if_pos h2]
      clear HV
      go_wp2
      go_ret
      exact ⟨by rw [HW.out]; rfl, F3.out⟩
    · have HW : Hid (x = -1) := by show _ = _; rw [HV.out, if_neg h2]
      clear HV
      go_wp2
      go_ret
      exact ⟨by rw [HW.out]; rfl, F3.out⟩
end Go.Proofs.YtiflmkicnkbeaaaGreatDoor
namespace Go.Proofs.YtiflmkicnkbeaaaGreatDoor
open Go.RowKit
theorem toward_any (s : Sp) (z e : Int) (w : World) (h : s.ok) (b : Bool) (h1 : e = 1 → (b = true ↔ ∃ y, z < y ∧ hasB s.all y = true)) (h2 : e = -1 → (b = true ↔ ∃ y, y < z ∧ hasB s.all y = true)) (h3 : e ≠ 1 → e ≠ -1 → b = false) :
 Calls Tryz.prog 373 #[s.v, .int .i64 z, .int .i64 e] w fun x w' => x = .returned (.bool b) ∧ Fr w w' [] := by
 have AB := Lib.hid (fun (hb : e = 1) W => aboveB_any s z W h b (h1 hb))
 have BE := Lib.hid (fun (hb : e = -1) W => belowB_any s z W h b (h2 hb))
 have H3 := Lib.hid h3
 obtain ⟨p, u, d⟩ := s
 have HS := Lib.hid (SS.new w 214 p u d)
 clear h1 h2 h3 h
 dsimp only [Sp.v] at *
 by_cases e1 : e = 1
 · have AX := Lib.hid (fun W => AB.out e1 W)
   subst e1
   clear AB BE H3
   obtain ⟨_, c0, c1, c2⟩ := HS.out
   go_enter Tryz.func373, Tryz.ntmps373
   go_wp2_with fail
   with_reducible refine (AX.out _).mono ?_
   rintro e w2 ⟨rfl, hf⟩
   have F2 := Lib.hid (HS.out.1.trans hf)
   clear hf c0 c1 c2
   go_wp2
   go_ret
   exact ⟨rfl, F2.out⟩
 · have k1 : (e == 1) = false := by simp [e1]
   by_cases e2 : e = -1
   · have AX := Lib.hid (fun W => BE.out e2 W)
     have k2 : (e == -1) = true := by simp [e2]
     clear AB BE H3 e1 e2
     obtain ⟨_, c0, c1, c2⟩ := HS.out
     go_enter Tryz.func373, Tryz.ntmps373
     go_wp2_with fail
     with_reducible refine (AX.out _).mono ?_
     rintro x w2 ⟨rfl, hf⟩
     have F2 := Lib.hid (HS.out.1.trans hf)
     clear hf c0 c1 c2
     go_wp2
     go_ret
     exact ⟨rfl, F2.out⟩
   · have HV := Lib.hid (H3.out e1 e2)
     have k2 : (e == -1) = false := by simp [e2]
     clear AB BE H3 e1 e2
     go_enter Tryz.func373, Tryz.ntmps373
     go_wp2
     go_ret
     exact ⟨by rw [HV.out]; rfl, HS.out.1⟩
end Go.Proofs.YtiflmkicnkbeaaaGreatDoor
namespace Go.Proofs.YtiflmkicnkbeaaaGreatDoor
open Go.RowKit
theorem tow_any (s : Sp) (z e : Int) (w : World) (h : s.ok) (b : Bool) (hb : b = towB s.all z e) :
 Calls Tryz.prog 373 #[s.v, .int .i64 z, .int .i64 e] w fun x w' => x = .returned (.bool b) ∧ Fr w w' [] := by
 refine toward_any s z e w h b (fun k => ?_) (fun k => ?_) (fun k1 k2 => ?_)
 · rw [hb, towB, if_pos k]; exact upB_iff h.all z
 · rw [hb, towB, if_neg (by omega), if_pos k]; exact dnB_iff h.all z
 · rw [hb, towB, if_neg k1, if_neg k2]
theorem nr_any (s : Sp) (z : Int) (w : World) (h : s.ok) (hT : Tz w) (x : Int) (hx : x = nearN s.all z) :
 Calls Tryz.prog 372 #[s.v, .int .i64 z] w fun e w' => e = .returned (.int .i64 x) ∧ Fr w w' [] :=
 near_any s z w h hT x (by rw [hx]; exact nearN_is h.all z)
set_option maxHeartbeats 1000000 in
theorem wanted_any (s : Sp) (z e : Int) (w : World) (h : s.ok) (b : Bool) (hb : b = (towB s.all z e || s.hall z e)) :
 Calls Tryz.prog 351 #[s.v, .int .i64 z, .int .i64 e] w fun x w' => x = .returned (.bool b) ∧ Fr w w' [] := by
 obtain ⟨b1, h1⟩ : ∃ b1, b1 = towB s.all z e := ⟨_, rfl⟩
 obtain ⟨b2, h2⟩ : ∃ b2, b2 = s.hall z e := ⟨_, rfl⟩
 rw [← h1, ← h2] at hb
 have TO := Lib.hid (fun W => tow_any s z e W h b1 h1)
 have HA := Lib.hid (fun W => hall_any s z e W h b2 h2)
 obtain ⟨p, u, d⟩ := s
 have HS := Lib.hid (SS.new w 214 p u d)
 have HB := Lib.hid hb
 clear h1 h2 hb h
 dsimp only [Sp.v] at *
 obtain ⟨_, c0, c1, c2⟩ := HS.out
 go_enter Tryz.func351, Tryz.ntmps351
 go_wp2_with fail
 with_reducible refine (TO.out _).mono ?_
 rintro x w2 ⟨rfl, hf⟩
 have HS2 := Lib.hid (HS.out.fr hf)
 clear hf c0 c1 c2
 cases b1 with
 | true =>
   have HV : Hid (b = true) := by show _ = _; rw [HB.out]; rfl
   go_wp2
   go_ret
   exact ⟨by rw [HV.out]; rfl, HS2.out.1⟩
 | false =>
   have HV : Hid (b = b2) := by show _ = _; rw [HB.out]; rfl
   obtain ⟨_, c0, c1, c2⟩ := HS2.out
   go_wp2_with fail
   with_reducible refine (HA.out _).mono ?_
   rintro x w3 ⟨rfl, hf⟩
   have HS3 := Lib.hid (HS2.out.fr hf)
   clear hf c0 c1 c2
   go_wp2
   go_ret
   exact ⟨by rw [HV.out]; rfl, HS3.out.1⟩
set_option maxHeartbeats 1000000 in
theorem start_any (s : Sp) (z : Int) (w : World) (h : s.ok) (hT : Tz w) (x : Int) (hx : x = if s.hall z 1 = true then 1 else if s.hall z (-1) = true then -1 else nearN s.all z) :
 Calls Tryz.prog 350 #[s.v, .int .i64 z] w fun e w' => e = .returned (.int .i64 x) ∧ Fr w w' [] := by
 obtain ⟨b1, h1⟩ : ∃ b1, b1 = s.hall z 1 := ⟨_, rfl⟩
 obtain ⟨b2, h2⟩ : ∃ b2, b2 = s.hall z (-1) := ⟨_, rfl⟩
 obtain ⟨n, hn⟩ : ∃ n, n = nearN s.all z := ⟨_, rfl⟩
 rw [← h1, ← h2, ← hn] at hx
 have HU := Lib.hid (fun W => hall_any s z 1 W h b1 h1)
 have HD := Lib.hid (fun W => hall_any s z (-1) W h b2 h2)
 have NE := Lib.hid (fun W hT => nr_any s z W h hT n hn)
 obtain ⟨p, u, d⟩ := s
 have HS := Lib.hid (SS.new w 214 p u d)
 have HX := Lib.hid hx
 have HT := Lib.hid hT
 clear h1 h2 hn hx h hT
 dsimp only [Sp.v] at *
 obtain ⟨_, c0, c1, c2⟩ := HS.out
 go_enter Tryz.func350, Tryz.ntmps350
 go_wp2_with fail
 with_reducible refine (HU.out _).mono ?_
 rintro x w2 ⟨rfl, hf⟩
 have HS2 := Lib.hid (HS.out.fr hf)
 clear hf c0 c1 c2
 cases b1 with
 | true =>
   have HV : Hid (x = 1) := by show _ = _; rw [HX.out]; rfl
   go_wp2
   go_ret
   exact ⟨by rw [HV.out]; rfl, HS2.out.1⟩
 | false =>
   obtain ⟨_, c0, c1, c2⟩ := HS2.out
   go_wp2_with fail
   with_reducible refine (HD.out _).mono ?_
   rintro x w3 ⟨rfl, hf⟩
   have HS3 := Lib.hid (HS2.out.fr hf)
   clear hf c0 c1 c2
   cases b2 with
   | true =>
     have HV : Hid (x = -1) := by show _ = _; rw [HX.out]; rfl
     go_wp2
     go_ret
     exact ⟨by rw [HV.out]; rfl, HS3.out.1⟩
   | false =>
     have HV : Hid (x = n) := by show _ = _; rw [HX.out]; rfl
     obtain ⟨_, c0, c1, c2⟩ := HS3.out
     have T3 := Lib.hid (HT.out.fr HS3.out.1)
     go_wp2_with fail
     with_reducible refine (NE.out _ T3.out).mono ?_
     rintro x w4 ⟨rfl, hf⟩
     have HS4 := Lib.hid (HS3.out.fr hf)
     clear hf c0 c1 c2
     go_wp2
     go_ret
     exact ⟨by rw [HV.out]; rfl, HS4.out.1⟩
set_option maxHeartbeats 1000000 in
theorem heading_any (s : Sp) (z e : Int) (w : World) (h : s.ok) (hT : Tz w) (he : -1 ≤ e ∧ e ≤ 1) (x : Int) (hx : x = s.head z e) :
 Calls Tryz.prog 323 #[s.v, .int .i64 z, .int .i64 e] w fun r w' => r = .returned (.int .i64 x) ∧ Fr w w' [] := by
 unfold Sp.head at hx
 by_cases e0 : e = 0
 · rw [if_pos e0] at hx
   have ST := Lib.hid (fun W hT => start_any s z W h hT x hx)
   obtain ⟨p, u, d⟩ := s
   have HS := Lib.hid (SS.new w 214 p u d)
   have T1 := Lib.hid (hT.fr (Fr.alloc w (.cells #[.int .u64 p, .int .u64 u, .int .u64 d] 214) []))
   subst e0
   clear hx h hT he
   dsimp only [Sp.v] at *
   obtain ⟨_, c0, c1, c2⟩ := HS.out
   go_enter Tryz.func323, Tryz.ntmps323
   go_wp2_with fail
   with_reducible refine (ST.out _ T1.out).mono ?_
   rintro r w2 ⟨rfl, hf⟩
   have HS2 := Lib.hid (HS.out.fr hf)
   clear hf c0 c1 c2
   go_wp2
   go_ret
   exact ⟨rfl, HS2.out.1⟩
 · rw [if_neg e0] at hx
   obtain ⟨b1, h1⟩ : ∃ b1, b1 = (towB s.all z e || s.hall z e) := ⟨_, rfl⟩
   obtain ⟨b2, h2⟩ : ∃ b2, b2 = (towB s.all z (-e) || s.hall z (-e)) := ⟨_, rfl⟩
   rw [← h1, ← h2] at hx
   have W1 := Lib.hid (fun W => wanted_any s z e W h b1 h1)
   have W2 := Lib.hid (fun W => wanted_any s z (-e) W h b2 h2)
   have hw : IntKind.i64.wrap (-e) = -e := IntWalk.i64_in _ (by omega)
   have k0 : (e == 0) = false := by simp [e0]
   obtain ⟨p, u, d⟩ := s
   have HS := Lib.hid (SS.new w 214 p u d)
   have HX := Lib.hid hx
   obtain ⟨ne, hne⟩ : ∃ ne, ne = -e := ⟨_, rfl⟩
   rw [← hne] at W2 HX hw
   clear h1 h2 hx h hT he e0
   have hng := Lib.hid hne
   have hwn : IntKind.i64.wrap (-e) = ne := by rw [← hng.out]; exact hw
   clear hne hw
   dsimp only [Sp.v] at *
   obtain ⟨_, c0, c1, c2⟩ := HS.out
   go_enter Tryz.func323, Tryz.ntmps323
   go_wp2_with fail
   with_reducible refine (W1.out _).mono ?_
   rintro r w2 ⟨rfl, hf⟩
   have HS2 := Lib.hid (HS.out.fr hf)
   clear hf c0 c1 c2
   cases b1 with
   | true =>
     have HV : Hid (x = e) := by show _ = _; rw [HX.out]; rfl
     go_wp2
     go_ret
     exact ⟨by rw [HV.out]; rfl, HS2.out.1⟩
   | false =>
     obtain ⟨_, c0, c1, c2⟩ := HS2.out
     go_wp2_with fail
     with_reducible refine (W2.out _).mono ?_
     rintro r w3 ⟨rfl, hf⟩
     have HS3 := Lib.hid (HS2.out.fr hf)
     clear hf c0 c1 c2
     cases b2 with
     | true =>
       have HV : Hid (x = ne) := by show _ = _; rw [HX.out]; rfl
       go_wp2
       go_ret
       exact ⟨by rw [HV.out]; rfl, HS3.out.1⟩
     | false =>
       have HV : Hid (x = 0) := by show _ = _; rw [HX.out]; rfl
       go_wp2
       go_ret
       exact ⟨by rw [HV.out]; rfl, HS3.out.1⟩
abbrev De.v (x : De) : Value := .agg #[.bool x.stop, .int .i64 x.dir, .int .i64 x.move]
abbrev De.box (T : TypeId) (x : De) : Obj := .cells #[.bool x.stop, .int .i64 x.dir, .int .i64 x.move] T
def DB (W : World) (T : TypeId) (p u d : Nat) (a : World) : Prop := SS W W.heap.size p u d a ∧ a.heap[W.heap.size + 1]? = some (.cells #[.bool false, .int .i64 0, .int .i64 0] T (0, 0))
theorem DB.fr {W : World} {T : TypeId} {p u d : Nat} {a a' : World} (h : DB W T p u d a) (k : Fr a a' []) : DB W T p u d a' := ⟨h.1.fr k, k.heap h.2 (by simp)⟩
theorem DB.new (w : World) (T1 T : TypeId) (p u d : Nat) : DB w T p u d ((w.alloc (.cells #[.int .u64 p, .int .u64 u, .int .u64 d] T1)).alloc (.cells #[.bool false, .int .i64 0, .int .i64 0] T)) := by
 have a2 := heap_alloc_new (w.alloc (.cells #[.int .u64 p, .int .u64 u, .int .u64 d] T1)) (.cells #[.bool false, .int .i64 0, .int .i64 0] T)
 rw [show (w.alloc (.cells #[.int .u64 p, .int .u64 u, .int .u64 d] T1)).heap.size = w.heap.size + 1 by simp] at a2
 exact ⟨(SS.new w T1 p u d).fr (Fr.alloc _ _ []), a2⟩
set_option maxHeartbeats 2000000 in
set_option maxRecDepth 100000 in
theorem deed_any (s : Sp) (f e : Int) (w : World) (h : s.ok) (hT : Tz w) (r : De) (hr : r = s.deed f e) :
 Calls Tryz.prog 274 #[s.v, .int .i64 f, .int .i64 e] w fun x w' => x = .returned r.v ∧ Fr w w' [] := by
 by_cases hin : 0 ≤ f ∧ f < 64 ∧ -1 ≤ e ∧ e ≤ 1
 · rw [deed_in hin] at hr
   obtain ⟨x, hx⟩ : ∃ x, x = s.head f e := ⟨_, rfl⟩
   obtain ⟨b1, h1⟩ : ∃ b1, b1 = hasB s.c f := ⟨_, rfl⟩
   obtain ⟨b2, h2⟩ : ∃ b2, b2 = s.hall f x := ⟨_, rfl⟩
   have hst : s.stop f e = (b1 || b2) := by rw [Sp.stop, ← hx, h1, h2]
   rw [hst, ← hx] at hr
   have HE := Lib.hid (fun W hT => heading_any s f e W h hT hin.2.2 x hx)
   have AT := Lib.hid (fun W => at_any s f W h b1 h1)
   have HA := Lib.hid (fun W => hall_any s f x W h b2 h2)
   have HR := Lib.hid hr
   obtain ⟨f0, f1, e0, e1⟩ := hin
   obtain ⟨p, u, d⟩ := s
   have HD := Lib.hid (DB.new w 214 340 p u d)
   have T1 := Lib.hid (hT.fr HD.out.1.1)
   clear hx h1 h2 hst hr hT h
   dsimp only [Sp.v] at *
   obtain ⟨_, c0, c1, c2⟩ := HD.out.1
   go_enter Tryz.func274, Tryz.ntmps274
   go_wp2_with fail
   with_reducible refine (HE.out _ T1.out).mono ?_
   rintro x w2 ⟨rfl, hf⟩
   have HD2 := Lib.hid (HD.out.fr hf)
   clear hf c0 c1 c2 T1
   obtain ⟨_, c0, c1, c2⟩ := HD2.out.1
   go_wp2_with fail
   with_reducible refine (AT.out _).mono ?_
   rintro x w3 ⟨rfl, hf⟩
   have HD3 := Lib.hid (HD2.out.fr hf)
   clear hf c0 c1 c2
   cases b1 with
   | true =>
     have HV : Hid (r = ⟨true, x, 0⟩) := by show _ = _; rw [HR.out]; rfl
     obtain ⟨x0, x1, x2⟩ := arow HD3.out.2
     have z := fun i => frozen_of_row _ _ i _ _ HD3.out.2
     have z0 := z 0
     have z1 := z 1
     have z2 := z 2
     have AF := Lib.hid (HD3.out.1.1.new (aset_fr _ (w.heap.size + 1) (.bool true) (.int .i64 x) (.int .i64 0)) (by simp))
     obtain ⟨y0, y1, y2⟩ := arow (aset HD3.out.2 (.bool true) (.int .i64 x) (.int .i64 0))
     clear z
     go_wp2
     exact bodyPost_ret (v := .agg #[.bool true, .int .i64 x, .int .i64 0]) (by simp [results, Tryz.results274, go_sem, y0, y1, y2]) rfl ⟨by rw [HV.out], AF.out⟩
   | false =>
     obtain ⟨_, c0, c1, c2⟩ := HD3.out.1
     go_wp2_with fail
     with_reducible refine (HA.out _).mono ?_
     rintro y w4 ⟨rfl, hf⟩
     have HD4 := Lib.hid (HD3.out.fr hf)
     clear hf c0 c1 c2
     cases b2 with
     | true =>
       have HV : Hid (r = ⟨true, x, 0⟩) := by show _ = _; rw [HR.out]; rfl
       obtain ⟨x0, x1, x2⟩ := arow HD4.out.2
       have z := fun i => frozen_of_row _ _ i _ _ HD4.out.2
       have z0 := z 0
       have z1 := z 1
       have z2 := z 2
       have AF := Lib.hid (HD4.out.1.1.new (aset_fr _ (w.heap.size + 1) (.bool true) (.int .i64 x) (.int .i64 0)) (by simp))
       obtain ⟨y0, y1, y2⟩ := arow (aset HD4.out.2 (.bool true) (.int .i64 x) (.int .i64 0))
       clear z
       go_wp2
       exact bodyPost_ret (v := .agg #[.bool true, .int .i64 x, .int .i64 0]) (by simp [results, Tryz.results274, go_sem, y0, y1, y2]) rfl ⟨by rw [HV.out], AF.out⟩
     | false =>
       have HV : Hid (r = ⟨false, x, x⟩) := by show _ = _; rw [HR.out]; rfl
       obtain ⟨x0, x1, x2⟩ := arow HD4.out.2
       have z := fun i => frozen_of_row _ _ i _ _ HD4.out.2
       have z0 := z 0
       have z1 := z 1
       have z2 := z 2
       have AF := Lib.hid (HD4.out.1.1.new (aset_fr _ (w.heap.size + 1) (.bool false) (.int .i64 x) (.int .i64 x)) (by simp))
       obtain ⟨y0, y1, y2⟩ := arow (aset HD4.out.2 (.bool false) (.int .i64 x) (.int .i64 x))
       clear z
       go_wp2
       exact bodyPost_ret (v := .agg #[.bool false, .int .i64 x, .int .i64 x]) (by simp [results, Tryz.results274, go_sem, y0, y1, y2]) rfl ⟨by rw [HV.out], AF.out⟩
 · rw [deed_out hin] at hr
   obtain ⟨p, u, d⟩ := s
   have HF := Lib.hid (DB.new w 214 340 p u d).1.1
   subst hr
   clear hT h
   dsimp only [Sp.v, De.v, zDe] at *
   by_cases g1 : f < 0
   · clear hin
     go_enter Tryz.func274, Tryz.ntmps274
     go_wp2
     exact bodyPost_ret (v := .agg #[.bool false, .int .i64 0, .int .i64 0]) (by simp [results, Tryz.results274, go_sem]) rfl ⟨rfl, HF.out⟩
   · have g1' : 0 ≤ f := by omega
     clear g1
     by_cases g2 : 64 ≤ f
     · clear hin
       go_enter Tryz.func274, Tryz.ntmps274
       go_wp2
       exact bodyPost_ret (v := .agg #[.bool false, .int .i64 0, .int .i64 0]) (by simp [results, Tryz.results274, go_sem]) rfl ⟨rfl, HF.out⟩
     · have g2' : f < 64 := by omega
       clear g2
       by_cases g3 : e < -1
       · clear hin
         go_enter Tryz.func274, Tryz.ntmps274
         go_wp2
         exact bodyPost_ret (v := .agg #[.bool false, .int .i64 0, .int .i64 0]) (by simp [results, Tryz.results274, go_sem]) rfl ⟨rfl, HF.out⟩
       · have g3' : -1 ≤ e := by omega
         have g4 : 1 < e := by omega
         clear g3 hin
         go_enter Tryz.func274, Tryz.ntmps274
         go_wp2
         exact bodyPost_ret (v := .agg #[.bool false, .int .i64 0, .int .i64 0]) (by simp [results, Tryz.results274, go_sem]) rfl ⟨rfl, HF.out⟩
end Go.Proofs.YtiflmkicnkbeaaaGreatDoor
namespace Go.Proofs.YtiflmkicnkbeaaaGreatDoor
open Go.RowKit
abbrev Dn.v (d : Dn) : Value := .agg #[.bool d.op, .bool d.cl, .int .i64 d.fl, .int .i64 d.la, .int .i64 d.mv, .int .u64 d.st.c, .int .u64 d.st.u, .int .u64 d.st.d]
abbrev Dn.box (d : Dn) : Obj := .cells #[.bool d.op, .bool d.cl, .int .i64 d.fl, .int .i64 d.la, .int .i64 d.mv, .int .u64 d.st.c, .int .u64 d.st.u, .int .u64 d.st.d] 216
def NB (w : World) (b : Nat) (d : Dn) : Prop := w.heap[b]? = some d.box
theorem NB.fr {w w' : World} {b : Nat} {d : Dn} {S : List Nat} (k : NB w b d) (hf : Fr w w' S) (hb : b ∉ S) : NB w' b d := hf.heap k hb
theorem NB.new (w : World) (d : Dn) : NB (w.alloc d.box) w.heap.size d := heap_alloc_new w _
theorem NB.fz {w : World} {b : Nat} {d : Dn} (k : NB w b d) (i : Nat) : w.frozen? ⟨b, i, none⟩ = false := frozen_of_row _ _ i _ _ k
structure NC (w : World) (b : Nat) (d : Dn) : Prop where
 c0 : w.cell? ⟨b, 0, none⟩ = some (.bool d.op)
 c1 : w.cell? ⟨b, 1, none⟩ = some (.bool d.cl)
 c2 : w.cell? ⟨b, 2, none⟩ = some (.int .i64 d.fl)
 c3 : w.cell? ⟨b, 3, none⟩ = some (.int .i64 d.la)
 c4 : w.cell? ⟨b, 4, none⟩ = some (.int .i64 d.mv)
 c5 : w.cell? ⟨b, 5, none⟩ = some (.int .u64 d.st.c)
 c6 : w.cell? ⟨b, 6, none⟩ = some (.int .u64 d.st.u)
 c7 : w.cell? ⟨b, 7, none⟩ = some (.int .u64 d.st.d)
theorem NB.cells {w : World} {b : Nat} {d : Dn} (k : NB w b d) : NC w b d :=
 ⟨by rw [cell_of_row w b 0 _ _ _ k]; rfl, by rw [cell_of_row w b 1 _ _ _ k]; rfl, by rw [cell_of_row w b 2 _ _ _ k]; rfl, by rw [cell_of_row w b 3 _ _ _ k]; rfl, by rw [cell_of_row w b 4 _ _ _ k]; rfl, by rw [cell_of_row w b 5 _ _ _ k]; rfl, by rw [cell_of_row w b 6 _ _ _ k]; rfl, by rw [cell_of_row w b 7 _ _ _ k]; rfl⟩
theorem NB.put {w : World} {b : Nat} {d : Dn} (k : NB w b d) (i : Nat) (v : Value) (x : Dn) (h : x.box = (.cells (#[.bool d.op, .bool d.cl, .int .i64 d.fl, .int .i64 d.la, .int .i64 d.mv, .int .u64 d.st.c, .int .u64 d.st.u, .int .u64 d.st.d].setIfInBounds i v) 216 (0, 0))) : NB (w.setCell ⟨b, i, none⟩ v) b x := by
 unfold NB at k ⊢
 rw [heap_setCell_same _ b i _ _ _ k, h]
def dnSet (w : World) (b : Nat) (d : Dn) : World := (((((((w.setCell ⟨b, 0, none⟩ (.bool d.op)).setCell ⟨b, 1, none⟩ (.bool d.cl)).setCell ⟨b, 2, none⟩ (.int .i64 d.fl)).setCell ⟨b, 3, none⟩ (.int .i64 d.la)).setCell ⟨b, 4, none⟩ (.int .i64 d.mv)).setCell ⟨b, 5, none⟩ (.int .u64 d.st.c)).setCell ⟨b, 6, none⟩ (.int .u64 d.st.u)).setCell ⟨b, 7, none⟩ (.int .u64 d.st.d)
theorem NB.set {w : World} {b : Nat} {d : Dn} (k : NB w b d) (x : Dn) : NB (dnSet w b x) b x := by
 have k0 : NB _ b ⟨x.op, d.cl, d.fl, d.la, d.mv, d.st⟩ := k.put 0 (.bool x.op) _ rfl
 have k1 : NB _ b ⟨x.op, x.cl, d.fl, d.la, d.mv, d.st⟩ := k0.put 1 (.bool x.cl) _ rfl
 have k2 : NB _ b ⟨x.op, x.cl, x.fl, d.la, d.mv, d.st⟩ := k1.put 2 (.int .i64 x.fl) _ rfl
 have k3 : NB _ b ⟨x.op, x.cl, x.fl, x.la, d.mv, d.st⟩ := k2.put 3 (.int .i64 x.la) _ rfl
 have k4 : NB _ b ⟨x.op, x.cl, x.fl, x.la, x.mv, d.st⟩ := k3.put 4 (.int .i64 x.mv) _ rfl
 have k5 : NB _ b ⟨x.op, x.cl, x.fl, x.la, x.mv, ⟨x.st.c, d.st.u, d.st.d⟩⟩ := k4.put 5 (.int .u64 x.st.c) _ rfl
 have k6 : NB _ b ⟨x.op, x.cl, x.fl, x.la, x.mv, ⟨x.st.c, x.st.u, d.st.d⟩⟩ := k5.put 6 (.int .u64 x.st.u) _ rfl
 exact k6.put 7 (.int .u64 x.st.d) _ rfl
theorem dnSet_fr (w : World) (b : Nat) (d : Dn) : Fr w (dnSet w b d) [b] :=
 (((((((Fr.setCell w b 0 _ (S := [b]) (by simp)).trans (Fr.setCell _ b 1 _ (S := [b]) (by simp))).trans (Fr.setCell _ b 2 _ (S := [b]) (by simp))).trans (Fr.setCell _ b 3 _ (S := [b]) (by simp))).trans (Fr.setCell _ b 4 _ (S := [b]) (by simp))).trans (Fr.setCell _ b 5 _ (S := [b]) (by simp))).trans (Fr.setCell _ b 6 _ (S := [b]) (by simp))).trans (Fr.setCell _ b 7 _ (S := [b]) (by simp))
structure ST (W : World) (h : Ho) (c : Ca) (s : Sp) (a : World) : Prop where
 f : Fr W a []
 h : HBh a W.heap.size h
 c : CB a (W.heap.size + 1) c
 s : CSR a (W.heap.size + 2) s
 r : CB a (W.heap.size + 3) zCa
 t : NB a (W.heap.size + 4) zDn
theorem ST.fr {W : World} {h : Ho} {c : Ca} {s : Sp} {a a' : World} (q : ST W h c s a) (f : Fr a a' []) : ST W h c s a' :=
 ⟨q.f.trans f, q.h.fr f, q.c.fr f (by simp), f.heap q.s (by simp), q.r.fr f (by simp), q.t.fr f (by simp)⟩
theorem ST.turn {W : World} {h : Ho} {c x : Ca} {s : Sp} {a a' : World} (q : ST W h c s a) (f : Fr a a' [W.heap.size + 1]) (r : CB a' (W.heap.size + 1) x) : ST W h x s a' :=
 ⟨q.f.new f (by simp), f.heap q.h (by simp), r, f.heap q.s (by simp), q.r.fr f (by simp), q.t.fr f (by simp)⟩
theorem ST.new (w : World) (h : Ho) (c : Ca) (s : Sp) : ST w h c s (((((w.alloc h.box).alloc c.box).alloc (Sp.box 214 s)).alloc zCa.box).alloc zDn.box) := by
 have a1 := heap_alloc_new w h.box
 have a2 := heap_alloc_new (w.alloc h.box) c.box
 have a3 := heap_alloc_new ((w.alloc h.box).alloc c.box) (Sp.box 214 s)
 have a4 := heap_alloc_new (((w.alloc h.box).alloc c.box).alloc (Sp.box 214 s)) zCa.box
 have a5 := heap_alloc_new ((((w.alloc h.box).alloc c.box).alloc (Sp.box 214 s)).alloc zCa.box) zDn.box
 rw [show (w.alloc h.box).heap.size = w.heap.size + 1 by simp] at a2
 rw [show ((w.alloc h.box).alloc c.box).heap.size = w.heap.size + 2 by simp] at a3
 rw [show (((w.alloc h.box).alloc c.box).alloc (Sp.box 214 s)).heap.size = w.heap.size + 3 by simp] at a4
 rw [show ((((w.alloc h.box).alloc c.box).alloc (Sp.box 214 s)).alloc zCa.box).heap.size = w.heap.size + 4 by simp] at a5
 have f1 := Fr.alloc w h.box []
 have f2 := Fr.alloc (w.alloc h.box) c.box []
 have f3 := Fr.alloc ((w.alloc h.box).alloc c.box) (Sp.box 214 s) []
 have f4 := Fr.alloc (((w.alloc h.box).alloc c.box).alloc (Sp.box 214 s)) zCa.box []
 have f5 := Fr.alloc ((((w.alloc h.box).alloc c.box).alloc (Sp.box 214 s)).alloc zCa.box) zDn.box []
 have f35 := (f3.trans f4).trans f5
 exact ⟨(f1.trans f2).trans f35, (f2.trans f35).heap a1 (by simp), f35.heap a2 (by simp), (f4.trans f5).heap a3 (by simp), f5.heap a4 (by simp), a5⟩
structure SP (W : World) (n : Nat) (h : Ho) (c : Ca) (s : Sp) (x : De) (a : World) : Prop where
 q : ST W h c s a
 x : a.heap[n]? = some (De.box 340 x)
 lo : W.heap.size + 4 < n
theorem SP.fr {W : World} {n : Nat} {h : Ho} {c : Ca} {s : Sp} {x : De} {a a' : World} (q : SP W n h c s x a) (f : Fr a a' []) : SP W n h c s x a' := ⟨q.q.fr f, f.heap q.x (by simp), q.lo⟩
theorem SP.new {W : World} {h : Ho} {c : Ca} {s : Sp} {a : World} (q : ST W h c s a) (x : De) : SP W a.heap.size h c s x (a.alloc (De.box 340 x)) := ⟨q.fr (Fr.alloc _ _ []), heap_alloc_new _ _, size_of_row q.t⟩
theorem SP.turn {W : World} {n : Nat} {h : Ho} {c y : Ca} {s : Sp} {x : De} {a a' : World} (q : SP W n h c s x a) (f : Fr a a' [W.heap.size + 1]) (r : CB a' (W.heap.size + 1) y) : SP W n h y s x a' := ⟨q.q.turn f r, f.heap q.x (by have := q.lo; simp; omega), q.lo⟩
def Ca.set (c : Ca) (e : Int) : Ca := ⟨⟨c.x.p, e, c.x.o, false⟩, c.k⟩
set_option maxHeartbeats 2000000 in
set_option maxRecDepth 100000 in
theorem stand_go (h : Ho) (c : Ca) (s : Sp) (w : World) (ok : s.ok) (hT : Tz w) (h0 : -9223372036854775808 ≤ c.x.p) (h1 : c.x.p ≤ 9223372036854775807) (q : Int) (hq : q = h.flr c.x.p) (hin : 0 ≤ q ∧ q < 64 ∧ -1 ≤ c.x.e ∧ c.x.e ≤ 1)
 (hs : s.stop q c.x.e = false) (y : Ca) (hy : y = Ca.move h (c.set (s.head q c.x.e)) (s.head q c.x.e)) :
 Calls Tryz.prog 199 #[h.v, c.v, s.v] w fun e w' => e = .returned (.tuple #[y.v, zDn.v]) ∧ Fr w w' [] := by
 have FL := Lib.hid (fun W => floor_any h c.x.p W q hq)
 obtain ⟨e, he⟩ : ∃ e, e = s.head q c.x.e := ⟨_, rfl⟩
 have hde : (⟨false, e, e⟩ : De) = s.deed q c.x.e := by rw [deed_in hin, hs, if_neg (by simp), he]
 have PA := Lib.hid (fun W T => deed_any s q c.x.e W ok T ⟨false, e, e⟩ hde)
 rw [← he] at hy
 have MO := Lib.hid (fun W => move_any h (c.set e) e h0 h1 W y hy)
 have TB := Lib.hid (ST.new w h c s)
 have HT := Lib.hid hT
 clear hq hin hs hy he hde hT ok h0 h1
 obtain ⟨hc, hfl, hs, hd⟩ := h
 obtain ⟨⟨xp, xe, xo, xr⟩, xk⟩ := c
 obtain ⟨⟨yp, ye, yo, yr⟩, yk⟩ := y
 obtain ⟨sp, su, sd⟩ := s
 dsimp only [Ho.v, Ho.box, Ca.v, Ca.box, Sp.v, Sp.box, Dn.v, Dn.box, De.v, De.box, Ca.set, zCa, zDn, zSp] at *
 simp only [show ((0 : Nat) : Int) = 0 from rfl] at *
 go_enter Tryz.func199, Tryz.ntmps199
 go_wp2_with fail
 with_reducible refine (FL.out _).mono ?_
 rintro v w1 ⟨rfl, hf⟩
 have T1 := Lib.hid (TB.out.fr hf)
 clear hf TB
 have Z1 := Lib.hid (HT.out.fr T1.out.f)
 obtain ⟨c0, c1, c2, c3, c4⟩ := T1.out.c.cells
 obtain ⟨s0, s1, s2⟩ := arow T1.out.s
 dsimp only at c0 c1 c2 c3 c4 s0 s1 s2
 go_wp2_with fail
 with_reducible refine (PA.out _ Z1.out).mono ?_
 rintro v w2 ⟨rfl, hf⟩
 have T2 := Lib.hid (SP.new (T1.out.fr hf) ⟨false, e, e⟩)
 clear hf T1 Z1 c0 c1 c2 c3 c4 s0 s1 s2
 have T3 := Lib.hid (T2.out.turn (Fr.setCell _ (w.heap.size + 1) 1 (.int .i64 e) (by simp)) (T2.out.q.c.put1 e))
 have T4 := Lib.hid (T3.out.turn (Fr.setCell _ (w.heap.size + 1) 3 (.bool false) (by simp)) (T3.out.q.c.put3 false))
 obtain ⟨c0, c1, c2, c3, c4⟩ := T2.out.q.c.cells
 obtain ⟨d0, d1, d2, d3, d4⟩ := T3.out.q.c.cells
 obtain ⟨e0, e1, e2, e3, e4⟩ := T4.out.q.c.cells
 have z1 := T2.out.q.c.fz 1
 have z3 := T3.out.q.c.fz 3
 obtain ⟨x0, x1, x2⟩ := arow T2.out.x
 obtain ⟨y0, y1, y2⟩ := arow T4.out.x
 obtain ⟨i0, i1, i2, i3⟩ := T4.out.q.h.cells
 dsimp only [De.box] at *
 go_wp2_with fail
 with_reducible refine (MO.out _).mono ?_
 rintro v w5 ⟨rfl, hf⟩
 have T5 := Lib.hid (T4.out.q.fr hf)
 clear hf T2 T3 T4 c0 c1 c2 c3 c4 d0 d1 d2 d3 d4 e0 e1 e2 e3 e4 z1 z3 x0 x1 x2 y0 y1 y2 i0 i1 i2 i3 MO PA FL
 have q1 := Lib.hid ((T5.out.f.new (carSet_fr _ (w.heap.size + 3) ⟨⟨yp, ye, yo, yr⟩, yk⟩) (by simp)).new (dnSet_fr _ (w.heap.size + 4) zDn) (by simp))
 have k2 := Lib.hid (T5.out.r.set ⟨⟨yp, ye, yo, yr⟩, yk⟩)
 have q2 := Lib.hid (k2.out.fr (dnSet_fr _ (w.heap.size + 4) zDn) (by simp))
 have k3 := Lib.hid (T5.out.t.fr (carSet_fr w5 (w.heap.size + 3) ⟨⟨yp, ye, yo, yr⟩, yk⟩) (by simp))
 have q3 := Lib.hid (k3.out.set zDn)
 obtain ⟨r0, r1, r2, r3, r4⟩ := T5.out.r.cells
 have y0 := T5.out.r.fz 0
 have y1 := T5.out.r.fz 1
 have y2 := T5.out.r.fz 2
 have y3 := T5.out.r.fz 3
 have y4 := T5.out.r.fz 4
 obtain ⟨n0, n1, n2, n3, n4, n5, n6, n7⟩ := T5.out.t.cells
 have m0 := T5.out.t.fz 0
 have m1 := T5.out.t.fz 1
 have m2 := T5.out.t.fz 2
 have m3 := T5.out.t.fz 3
 have m4 := T5.out.t.fz 4
 have m5 := T5.out.t.fz 5
 have m6 := T5.out.t.fz 6
 have m7 := T5.out.t.fz 7
 dsimp only [zCa, zDn, zSp, carSet, dnSet] at *
 simp only [show ((0 : Nat) : Int) = 0 from rfl] at q3 n5 n6 n7
 go_wp2
 generalize World.setCell (World.setCell (World.setCell (World.setCell (World.setCell (World.setCell (World.setCell (World.setCell (World.setCell (World.setCell (World.setCell (World.setCell (World.setCell w5 _ _) _ _) _ _) _ _) _ _) _ _) _ _) _ _) _ _) _ _) _ _) _ _) _ _ = W at *
 obtain ⟨x0, x1, x2, x3, x4⟩ := q2.out.cells
 obtain ⟨n0, n1, n2, n3, n4, n5, n6, n7⟩ := q3.out.cells
 dsimp only at x0 x1 x2 x3 x4 n0 n1 n2 n3 n4 n5 n6 n7
 simp only [show ((0 : Nat) : Int) = 0 from rfl] at n5 n6 n7
 exact bodyPost_ret (v := .tuple #[.agg #[.int .i64 yp, .int .i64 ye, .int .i64 yo, .bool yr, .int .i64 yk], .agg #[.bool false, .bool false, .int .i64 0, .int .i64 0, .int .i64 0, .int .u64 0, .int .u64 0, .int .u64 0]]) (by simp [results, Tryz.results199, go_sem, x0, x1, x2, x3, x4, n0, n1, n2, n3, n4, n5, n6, n7]) rfl ⟨rfl, q1.out⟩
end Go.Proofs.YtiflmkicnkbeaaaGreatDoor
