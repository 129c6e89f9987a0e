/- The stops of car calls at floors and of hall calls. -/
import Derived.Test.YtgcgbiaigbblkaaDoorAhd3
import Derived.Test.YtgcgbiaigbblkaaDoorLat
import Derived.Test.YtgcgbiaigbblkaaDoorOwnI
namespace Go.Proofs.YtgcgbiaigbblkaaDoor
open Go.RowKit

def carOf (l : List Int) : Nat := l.foldl (fun n z => n ||| oneN z) 0
def ofL (s : Sp) (l : List La) : Sp := l.foldl (fun s x => s.put x.f x.d) s
def ofS (l : List Int) (m : List La) : Sp := ofL ⟨carOf l, 0, 0⟩ m
theorem carOf_snoc (l : List Int) (z : Int) : carOf (l ++ [z]) = carOf l ||| oneN z := by simp [carOf]
theorem carOf_lt (l : List Int) : carOf l < 18446744073709551616 := by
  have : ∀ (l : List Int) (n : Nat), n < 18446744073709551616 → l.foldl (fun n z => n ||| oneN z) n < 18446744073709551616 := by
    intro l
    induction l with
    | nil => intro n h; exact h
    | cons z l ih => intro n h; exact ih _ (or_lt h (oneN_lt z))
  exact this l 0 (by decide)
theorem ofL_snoc (s : Sp) (l : List La) (x : La) : ofL s (l ++ [x]) = (ofL s l).put x.f x.d := by simp [ofL]
theorem ofL_ok (s : Sp) (h : s.ok) (l : List La) : (ofL s l).ok := by
  induction l generalizing s with
  | nil => exact h
  | cons x l ih => exact ih _ (Sp.put_ok h x.f x.d)
theorem car_ok (l : List Int) : (Sp.mk (carOf l) 0 0).ok := ⟨carOf_lt l, (by decide : (0 : Nat) < 18446744073709551616), (by decide : (0 : Nat) < 18446744073709551616)⟩
theorem ofS_ok (l : List Int) (m : List La) : (ofS l m).ok := ofL_ok _ (car_ok l) m
theorem take_la (l : List La) (k : Nat) (h : k < l.length) : l.take (k + 1) = l.take k ++ [l.getD k zLa] := by
  rw [List.take_succ_eq_append_getElem h]; simp [h]

/-- A result's cells, behind them a box of stops; in a world that came of W. -/
def OD (W : World) (T : TypeId) (p u d : Nat) (a : World) : Prop := Fr W a [] ∧
  (a.cell? ⟨W.heap.size + 1, 0, none⟩ = some (.int .u64 p) ∧ a.cell? ⟨W.heap.size + 1, 1, none⟩ = some (.int .u64 u) ∧ a.cell? ⟨W.heap.size + 1, 2, none⟩ = some (.int .u64 d)) ∧
  a.heap[W.heap.size]? = some (.cells #[.int .u64 0, .int .u64 0, .int .u64 0] T (0, 0)) ∧
  a.heap[W.heap.size + 1]? = some (.cells #[.int .u64 p, .int .u64 u, .int .u64 d] T (0, 0))
theorem OD.of {W : World} {T : TypeId} {p u d : Nat} {a : World} (h : Fr W a []) (k : a.heap[W.heap.size]? = some (.cells #[.int .u64 0, .int .u64 0, .int .u64 0] T (0, 0))) (r : a.heap[W.heap.size + 1]? = some (.cells #[.int .u64 p, .int .u64 u, .int .u64 d] T (0, 0))) : OD W T p u d a := ⟨h, arow r, k, r⟩
theorem OD.fr {W : World} {T : TypeId} {p u d : Nat} {a a' : World} (h : OD W T p u d a) (k : Fr a a' []) : OD W T p u d a' :=
  OD.of (h.1.trans k) (k.heap h.2.2.1 (by simp)) (k.heap h.2.2.2 (by simp))
theorem OD.fz {W : World} {T : TypeId} {p u d : Nat} {a : World} (h : OD W T p u d a) (i : Nat) : a.frozen? ⟨W.heap.size + 1, i, none⟩ = false := frozen_of_row _ _ i _ _ h.2.2.2
theorem OD.fz0 {W : World} {T : TypeId} {p u d : Nat} {a : World} (h : OD W T p u d a) (i : Nat) : a.frozen? ⟨W.heap.size, i, none⟩ = false := frozen_of_row _ _ i _ _ h.2.2.1
theorem OD.car {W : World} {T : TypeId} {p u d : Nat} {a : World} (h : OD W T p u d a) (x : Nat) : OD W T x u d (a.setCell ⟨W.heap.size + 1, 0, none⟩ (.int .u64 x)) :=
  OD.of (h.1.new (Fr.setCell a (W.heap.size + 1) 0 _ (S := [W.heap.size + 1]) (by simp)) (by simp)) ((Fr.setCell a (W.heap.size + 1) 0 _ (S := [W.heap.size + 1]) (by simp)).heap h.2.2.1 (by simp)) (aput0 h.2.2.2 _)
theorem OD.set {W : World} {T : TypeId} {p u d : Nat} {a : World} (h : OD W T p u d a) (x y z : Nat) : OD W T x y z (((a.setCell ⟨W.heap.size + 1, 0, none⟩ (.int .u64 x)).setCell ⟨W.heap.size + 1, 1, none⟩ (.int .u64 y)).setCell ⟨W.heap.size + 1, 2, none⟩ (.int .u64 z)) :=
  OD.of (h.1.new (aset_fr a (W.heap.size + 1) _ _ _) (by simp)) ((aset_fr a (W.heap.size + 1) _ _ _).heap h.2.2.1 (by simp)) (aset h.2.2.2 _ _ _)
theorem OD.new (w : World) (T : TypeId) : OD w T 0 0 0 ((w.alloc (.cells #[.int .u64 0, .int .u64 0, .int .u64 0] T)).alloc (.cells #[.int .u64 0, .int .u64 0, .int .u64 0] T)) := by
  have a2 := heap_alloc_new (w.alloc (.cells #[.int .u64 0, .int .u64 0, .int .u64 0] T)) (.cells #[.int .u64 0, .int .u64 0, .int .u64 0] T)
  rw [show (w.alloc (.cells #[.int .u64 0, .int .u64 0, .int .u64 0] T)).heap.size = w.heap.size + 1 by simp] at a2
  exact OD.of ((Fr.alloc w _ []).trans (Fr.alloc _ _ [])) ((Fr.alloc _ _ []).heap (heap_alloc_new w _) (by simp)) a2

set_option maxHeartbeats 2000000 in
set_option maxRecDepth 100000 in
theorem of_any (v1 : Value) (l : List Int) (v2 : Value) (m : List La) (w : World) (h1 : HInts w v1 l) (h2 : HLs w v2 m) (r : Sp) (hr : r = ofS l m) :
    Calls Tryd.prog 24 #[v1, v2] w fun e w' => e = .returned r.v ∧ Fr w w' [] := by
  obtain ⟨a1, c1, rfl, p1, q1, r1⟩ := h1
  obtain ⟨a2, c2, rfl, p2, q2, r2⟩ := h2
  unfold maxLen at q1 q2
  have BI := Lib.hid (fun z W => bit_any z W)
  have PU := Lib.hid (fun (s : Sp) (f e : Int) W (h : s.ok) (r : Sp) (hr : r = s.put f e) => put_any s f e W h r hr)
  have HD0 := Lib.hid (OD.new w 37)
  have HR := Lib.hid hr
  clear hr
  dsimp only [Sp.v] at *
  go_enter Tryd.func24, Tryd.ntmps24
  go_wp2
  go_loopw [12] (fun i wr => ∃ k : Nat, k ≤ l.length ∧ i = .int .i64 k ∧ Hid (OD w 37 (carOf (l.take k)) 0 0 wr)) (fun i _ => l.length - (intOf i).toNat)
  case atStart => exact ⟨0, Nat.zero_le _, rfl, HD0⟩
  case round =>
    obtain ⟨k, hk, rfl, HD⟩ := hrel
    by_cases hlt : k < l.length
    · obtain ⟨b, off, rfl, hc⟩ := r1 (by omega)
      have hcell := HD.out.1.cell (hc k hlt) (by simp)
      obtain ⟨z, hz⟩ : ∃ z, z = l.getD k 0 := ⟨_, rfl⟩
      obtain ⟨p, hp⟩ : ∃ p, p = carOf (l.take k) := ⟨_, rfl⟩
      obtain ⟨o, ho⟩ : ∃ o, o = oneN z := ⟨_, rfl⟩
      have E1 := bits_or_u64_nat p o (by rw [hp]; exact carOf_lt _) (by rw [ho]; exact oneN_lt _)
      have HN : Hid (carOf (l.take (k + 1)) = p ||| o) := by show _ = _; rw [take_snoc l k hlt, carOf_snoc, hp, ho, hz]
      have BI := Lib.hid (fun W => BI.out z W)
      rw [← hp] at HD
      rw [← hz] at hcell
      rw [← ho] at BI
      have HS := Lib.hid (HD.out.fr (Fr.drew _ []))
      clear hz hp ho hc r1
      go_wp2
      refine wp_region_detL 6 (S := OD w 37 p 0 0) (by kernel_rfl) HS.out ?_
      refine wpDetL_take (j := 6) (by decide) (by kernel_rfl) (i := 0) (oi := _) (v := ?dv1) (by simp only [List.getElem?_toArray, List.getElem?_cons_zero]; rfl) (by kernel_rfl) (by kernel_rfl) (by kernel_rfl) (Or.inl ⟨by rfl, ?dy1⟩) ?dr1
      case dy1 => (intro w hSw; have hS0 := hSw; (try dsimp only [OD] at hSw); go_simp; refine Came.value ?_ hS0; with_reducible rfl)
      try simp only [Act.put, List.setIfInBounds_toArray, List.set_cons_zero, List.set_cons_succ]
      refine wpDetL_take (j := 6) (by decide) (by kernel_rfl) (i := 1) (oi := _) (v := ?dv2) (by simp only [List.getElem?_toArray, List.getElem?_cons_zero, List.getElem?_cons_succ]; rfl) (by kernel_rfl) (by kernel_rfl) (by kernel_rfl) (Or.inl ⟨by rfl, ?dy2⟩) ?dr2
      case dy2 => (intro w hSw; have hS0 := hSw; (try dsimp only [OD] at hSw); go_simp; refine Came.value ?_ hS0; with_reducible rfl)
      try simp only [Act.put, List.setIfInBounds_toArray, List.set_cons_zero, List.set_cons_succ]
      refine wpDetL_take (j := 6) (by decide) (by kernel_rfl) (i := 2) (oi := _) (v := ?dv3) (by simp only [List.getElem?_toArray, List.getElem?_cons_zero, List.getElem?_cons_succ]; rfl) (by kernel_rfl) (by kernel_rfl) (by kernel_rfl) (Or.inl ⟨by rfl, ?dy3⟩) ?dr3
      case dy3 => (intro w hSw; have hS0 := hSw; (try dsimp only [OD] at hSw); go_simp; refine Came.value ?_ hS0; with_reducible rfl)
      try simp only [Act.put, List.setIfInBounds_toArray, List.set_cons_zero, List.set_cons_succ]
      refine wpDetL_take (j := 6) (by decide) (by kernel_rfl) (i := 3) (oi := _) (v := ?dv4) (by simp only [List.getElem?_toArray, List.getElem?_cons_zero, List.getElem?_cons_succ]; rfl) (by kernel_rfl) (by kernel_rfl) (by kernel_rfl) (Or.inl ⟨by rfl, ?dy4⟩) ?dr4
      case dy4 => (intro w hSw; go_simp; exact Came.call ((BI.out w).mono fun e w' ⟨he, hw⟩ => ⟨he, hw ▸ hSw⟩) (by with_reducible rfl))
      try simp only [Act.put, List.setIfInBounds_toArray, List.set_cons_zero, List.set_cons_succ]
      refine wpDetL_take (j := 6) (by decide) (by kernel_rfl) (i := 4) (oi := _) (v := ?dv5) (by simp only [List.getElem?_toArray, List.getElem?_cons_zero, List.getElem?_cons_succ]; rfl) (by kernel_rfl) (by kernel_rfl) (by kernel_rfl) (Or.inl ⟨by rfl, ?dy5⟩) ?dr5
      case dy5 => (intro w hSw; have hS0 := hSw; (try dsimp only [OD] at hSw); go_simp; refine Came.value ?_ hS0; with_reducible rfl)
      try simp only [Act.put, List.setIfInBounds_toArray, List.set_cons_zero, List.set_cons_succ]
      refine wpDetL_take (j := 6) (by decide) (by kernel_rfl) (i := 5) (oi := _) (v := ?dv6) (by simp only [List.getElem?_toArray, List.getElem?_cons_zero, List.getElem?_cons_succ]; rfl) (by kernel_rfl) (by kernel_rfl) (by kernel_rfl) (Or.inl ⟨by rfl, ?dy6⟩) ?dr6
      case dy6 => (intro w hSw; have hS0 := hSw; (try dsimp only [OD] at hSw); go_simp; refine Came.value ?_ hS0; with_reducible rfl)
      try simp only [Act.put, List.setIfInBounds_toArray, List.set_cons_zero, List.set_cons_succ]
      refine wpDetL_last (oj := _) (by kernel_rfl) (by kernel_rfl) (by simp only [List.getElem?_toArray, List.getElem?_cons_zero, List.getElem?_cons_succ]; rfl) ?_
      intro w3 hS K hK
      have zb0 := hS.fz 0
      have HX := Lib.hid (hS.car (p ||| o))
      obtain ⟨_, ⟨c0, _⟩, _⟩ := hS
      go_simp
      refine hK.out _ _ ?_
      clear hK K zb0 c0
      go_wp2
      go_roundw
      case rel => exact ⟨k + 1, by omega, by go_num, by rw [HN.out]; exact HX⟩
      case measure => simp [intOf]; omega
    · obtain rfl : k = l.length := by omega
      rw [List.take_length] at HD
      clear r1 HD0
      go_wp2
      go_loopw [25] (fun i wx => ∃ j : Nat, j ≤ m.length ∧ i = .int .i64 j ∧ Hid (OD w 37 (ofS l (m.take j)).c (ofS l (m.take j)).u (ofS l (m.take j)).d wx)) (fun i _ => m.length - (intOf i).toNat)
      case atStart => exact ⟨0, Nat.zero_le _, rfl, HD⟩
      case round =>
        clear HD
        obtain ⟨j, hj, rfl, HD⟩ := hrel
        by_cases hlt : j < m.length
        · obtain ⟨b, off, rfl, hc⟩ := r2 (by omega)
          obtain ⟨d0, d1, d2⟩ := hc j hlt
          have d0 := HD.out.1.cell d0 (by simp)
          have d1 := HD.out.1.cell d1 (by simp)
          have d2 := HD.out.1.cell d2 (by simp)
          obtain ⟨y, hy⟩ : ∃ y, y = m.getD j zLa := ⟨_, rfl⟩
          have HN : Hid (ofS l (m.take (j + 1)) = (ofS l (m.take j)).put y.f y.d) := by show _ = _; rw [take_la m j hlt, ofS, ofL_snoc, hy]; rfl
          have hok := ofS_ok l (m.take j)
          rw [← hy] at d0 d1 d2
          obtain ⟨s, hs⟩ : ∃ s, s = ofS l (m.take j) := ⟨_, rfl⟩
          rw [← hs] at HN HD hok
          obtain ⟨t, ht⟩ : ∃ t, t = s.put y.f y.d := ⟨_, rfl⟩
          rw [← ht] at HN
          have PU := Lib.hid (fun W => PU.out s y.f y.d W hok t ht)
          obtain ⟨p, u, d⟩ := s
          obtain ⟨p', u', d'⟩ := t
          obtain ⟨yf, yd, yg⟩ := y
          have HD2 := Lib.hid (HD.out.fr (Fr.alloc wr (.cells #[.int .i64 yf, .int .i64 yd, .int .i64 yg] 80) []))
          obtain ⟨c0, c1, c2⟩ := HD2.out.2.1
          clear hy hs ht hok hc r2
          dsimp only at *
          go_wp2_with fail
          with_reducible refine (PU.out _).mono ?_
          rintro e w4 ⟨rfl, hf⟩
          have HD3 := Lib.hid (HD2.out.fr hf)
          have z0 := HD3.out.fz 0
          have z1 := HD3.out.fz 1
          have z2 := HD3.out.fz 2
          obtain ⟨x0, x1, x2⟩ := HD3.out.2.1
          have HX := Lib.hid (HD3.out.set p' u' d')
          clear hf c0 c1 c2
          go_wp2
          go_roundw
          case rel => exact ⟨j + 1, by omega, by go_num, by rw [HN.out]; exact HX⟩
          case measure => simp [intOf]; omega
        · obtain rfl : j = m.length := by omega
          rw [List.take_length, ← HR.out] at HD
          obtain ⟨p, u, d⟩ := r
          obtain ⟨c0, c1, c2⟩ := HD.out.2.1
          obtain ⟨x0, x1, x2⟩ := arow HD.out.2.2.1
          have z0 := HD.out.fz0 0
          have z1 := HD.out.fz0 1
          have z2 := HD.out.fz0 2
          have AF := Lib.hid (HD.out.1.new (aset_fr wr w.heap.size (.int .u64 p) (.int .u64 u) (.int .u64 d)) (by simp))
          obtain ⟨y0, y1, y2⟩ := arow (aset HD.out.2.2.1 (.int .u64 p) (.int .u64 u) (.int .u64 d))
          clear r2
          dsimp only at *
          go_wp2
          exact bodyPost_ret (v := .agg #[.int .u64 p, .int .u64 u, .int .u64 d]) (by simp [results, Tryd.results24, go_sem, y0, y1, y2]) rfl ⟨rfl, AF.out⟩
end Go.Proofs.YtgcgbiaigbblkaaDoor
