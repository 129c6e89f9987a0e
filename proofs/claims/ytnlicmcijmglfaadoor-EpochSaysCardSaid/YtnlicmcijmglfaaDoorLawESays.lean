/- The walk of the epoch's law of says: whether any epoch may be, is none, is ahead of another one; the one behind any count; its text: are what the chapter says. -/
import Derived.Test.YtnlicmcijmglfaaDoorEpoch2
namespace Go.Proofs.YtnlicmcijmglfaaDoor
open Go.RowKit

/-- What stands while the region is walked: the four epochs' cells. -/
def ESaysS (W1 : World) (A B X Y : Nat) (a1 a2 b1 b2 x y : Int) (a : World) : Prop := Fr W1 a [] ∧
  (a.cell? ⟨A, 0, none⟩ = some (.int .i64 a1) ∧ a.cell? ⟨A, 1, none⟩ = some (.int .i64 a2)) ∧
  (a.cell? ⟨B, 0, none⟩ = some (.int .i64 b1) ∧ a.cell? ⟨B, 1, none⟩ = some (.int .i64 b2)) ∧
  (a.cell? ⟨X, 0, none⟩ = some (.int .i64 x) ∧ a.cell? ⟨X, 1, none⟩ = some (.int .i64 y)) ∧
  (a.cell? ⟨Y, 0, none⟩ = some (.int .i64 x) ∧ a.cell? ⟨Y, 1, none⟩ = some (.int .i64 y))
theorem ESaysS.fr {W1 : World} {A B X Y : Nat} {a1 a2 b1 b2 x y : Int} {a b : World} (h : ESaysS W1 A B X Y a1 a2 b1 b2 x y a) (k : Fr a b []) : ESaysS W1 A B X Y a1 a2 b1 b2 x y b := by
  obtain ⟨h0, ⟨h1, h2⟩, ⟨h3, h4⟩, ⟨h5, h6⟩, h7, h8⟩ := h
  exact ⟨h0.trans k, ⟨k.cell h1 (by simp), k.cell h2 (by simp)⟩, ⟨k.cell h3 (by simp), k.cell h4 (by simp)⟩, ⟨k.cell h5 (by simp), k.cell h6 (by simp)⟩, k.cell h7 (by simp), k.cell h8 (by simp)⟩

set_option maxHeartbeats 4000000 in
set_option maxRecDepth 100000 in
theorem esays_walk (a1 a2 b1 b2 s f : Int) (ha1 : (Lit.int .i64 a1).wf = true) (ha2 : (Lit.int .i64 a2).wf = true) (hs : (Lit.int .i64 s).wf = true) (w : World) (hT : Tab w) :
    Calls Tryd.prog 3 #[.agg #[.int .i64 a1, .int .i64 a2], .agg #[.int .i64 b1, .int .i64 b2], .int .i64 s, .int .i64 f] w fun e w' => e = .returned (.bool true) ∧ w.grownBy w' none := by
  obtain ⟨x, y, ok, hn⟩ := next_is s f
  have hb1 := bounds_i64 ha1
  have hb2 := bounds_i64 ha2
  have hb3 := bounds_i64 hs
  have HT := Lib.hid hT
  have HVA := Lib.hid (valid_any a1 a2)
  have HVB := Lib.hid (rvalid_any a1 a2)
  have HNO := Lib.hid (none_any a1 a2)
  have HLA := Lib.hid (less_any a1 a2 b1 b2)
  have HLB := Lib.hid (rless_any a1 a2 b1 b2)
  have HNX := Lib.hid (fun W => next_any s f x y ok W hn hb3.1 hb3.2)
  have HNY := Lib.hid (fun W => rnext_any s f x y ok W hn)
  have hsa := same_any x y x y
  rw [show decide (x = x ∧ y = y) = true by simp] at hsa
  have HSA := Lib.hid hsa
  have HTA := Lib.hid (text_any a1 a2 hb1 hb2)
  have HTB := Lib.hid (rtext_any a1 a2 hb1 hb2)
  generalize validB a1 a2 = v at HVA HVB
  generalize lessB a1 a2 b1 b2 = l at HLA HLB
  generalize epTxt a1 a2 = t at HTA HTB
  obtain ⟨n, hno⟩ : ∃ n, decide (a1 = 0) = n := ⟨_, rfl⟩
  rw [hno] at HNO
  have hno' : (a1 == 0) = n := by rw [← hno]; rfl
  clear hn hb1 hb2 hb3 hT hsa ha1 ha2 hs
  go_enter Tryd.func3, Tryd.ntmps3
  go_wp2_with fail
  generalize hW1 : World.alloc (World.alloc w _) _ = W1
  have hf1 : Fr w W1 [] := by rw [← hW1]; exact (Fr.alloc _ _ _).trans (Fr.alloc _ _ _)
  have hga : W1.heap[w.heap.size]? = some (.cells #[.int .i64 a1, .int .i64 a2] 23 (0, 0)) := by rw [← hW1, Below.heap_alloc _ _ _ (by simp)]; exact heap_alloc_new w _
  have hgb : W1.heap[w.heap.size + 1]? = some (.cells #[.int .i64 b1, .int .i64 b2] 23 (0, 0)) := by
    rw [← hW1]; have := heap_alloc_new (w.alloc (.cells #[.int .i64 a1, .int .i64 a2] 23)) (.cells #[.int .i64 b1, .int .i64 b2] 23); simpa using this
  have HF1 := Lib.hid hf1
  have HGA := Lib.hid hga
  have HGB := Lib.hid hgb
  clear hW1 hf1 hga hgb
  refine (first4_any _ (HT.out.fr HF1.out)).mono ?_
  rintro e w2 ⟨rfl, hf2⟩
  have HF2 := Lib.hid hf2
  clear hf2
  go_wp2_with fail
  refine (HNX.out _).mono ?_
  rintro e w3 ⟨rfl, hf3⟩
  have HF3 := Lib.hid (HF2.out.trans hf3)
  clear hf3
  go_wp2_with fail
  have hgx := heap_alloc_new w3 (.cells #[.int .i64 x, .int .i64 y] 23)
  have HGX := Lib.hid hgx
  have HF3' := Lib.hid (HF3.out.trans (Fr.alloc w3 (.cells #[.int .i64 x, .int .i64 y] 23) []))
  clear hgx
  refine (HNY.out _).mono ?_
  rintro e w4 ⟨rfl, hf4⟩
  have HGX4 := Lib.hid (hf4.heap HGX.out (by simp))
  have HF4 := Lib.hid (HF3'.out.trans hf4)
  clear hf4
  go_wp2
  have hgy := heap_alloc_new w4 (.cells #[.int .i64 x, .int .i64 y] 23)
  generalize hW5 : World.alloc w4 _ = W5 at hgy
  have hf45 : Fr w4 W5 [] := by rw [← hW5]; exact Fr.alloc _ _ _
  have hf5 := HF4.out.trans hf45
  have hga := hf5.heap HGA.out (by simp)
  have hgb := hf5.heap HGB.out (by simp)
  have hgx := hf45.heap HGX4.out (by simp)
  have keep := @ESaysS.fr W1 w.heap.size (w.heap.size + 1) w3.heap.size w4.heap.size a1 a2 b1 b2 x y
  have HS5 := Lib.hid (keep ⟨hf5, (pair_kept hga (Fr.refl _ _)).1, (pair_kept hgb (Fr.refl _ _)).1, (pair_kept hgx (Fr.refl _ _)).1, (pair_kept hgy (Fr.refl _ _)).1⟩ (Fr.drew W5 []))
  clear hga hgb hgx hgy hf5 hf45 hW5
  refine wp_region_det (S := ESaysS W1 w.heap.size (w.heap.size + 1) w3.heap.size w4.heap.size a1 a2 b1 b2 x y) (by kernel_rfl) HS5.out ?_
  refine wpDet_take (i := 0) (oi := _) (v := ?dv1) (by simp only [List.getElem?_toArray, List.getElem?_cons_zero]; rfl) (by kernel_rfl) (by kernel_rfl) (by kernel_rfl) (Or.inl ⟨by rfl, ?dy1⟩) ?dr1
  case dy1 => (intro w hSw; have hS0 := hSw; (try dsimp only [ESaysS] at hSw); go_simp; refine Came.value ?_ hS0; with_reducible rfl)
  try simp only [Act.put, List.setIfInBounds_toArray, List.set_cons_zero, List.set_cons_succ]
  refine wpDet_take (i := 1) (oi := _) (v := ?dv2) (by simp only [List.getElem?_toArray, List.getElem?_cons_zero, List.getElem?_cons_succ]; rfl) (by kernel_rfl) (by kernel_rfl) (by kernel_rfl) (Or.inl ⟨by rfl, ?dy2⟩) ?dr2
  case dy2 => (intro w hSw; have hS0 := hSw; (try dsimp only [ESaysS] at hSw); go_simp; refine Came.value ?_ hS0; with_reducible rfl)
  try simp only [Act.put, List.setIfInBounds_toArray, List.set_cons_zero, List.set_cons_succ]
  refine wpDet_take (i := 2) (oi := _) (v := ?dv3) (by simp only [List.getElem?_toArray, List.getElem?_cons_zero, List.getElem?_cons_succ]; rfl) (by kernel_rfl) (by kernel_rfl) (by kernel_rfl) (Or.inl ⟨by rfl, ?dy3⟩) ?dr3
  case dy3 => (intro w hSw; have hS0 := hSw; (try dsimp only [ESaysS] at hSw); go_simp; refine Came.value ?_ hS0; with_reducible rfl)
  try simp only [Act.put, List.setIfInBounds_toArray, List.set_cons_zero, List.set_cons_succ]
  refine wpDet_take (i := 3) (oi := _) (v := ?dv4) (by simp only [List.getElem?_toArray, List.getElem?_cons_zero, List.getElem?_cons_succ]; rfl) (by kernel_rfl) (by kernel_rfl) (by kernel_rfl) (Or.inl ⟨by rfl, ?dy4⟩) ?dr4
  case dy4 => (intro w hSw; go_simp; exact Came.call ((HVA.out w).mono fun e w' ⟨he, hf⟩ => ⟨he, keep hSw hf⟩) (by with_reducible rfl))
  try simp only [Act.put, List.setIfInBounds_toArray, List.set_cons_zero, List.set_cons_succ]
  refine wpDet_take (i := 4) (oi := _) (v := ?dv5) (by simp only [List.getElem?_toArray, List.getElem?_cons_zero, List.getElem?_cons_succ]; rfl) (by kernel_rfl) (by kernel_rfl) (by kernel_rfl) (Or.inl ⟨by rfl, ?dy5⟩) ?dr5
  case dy5 => (intro w hSw; have hS0 := hSw; (try dsimp only [ESaysS] at hSw); go_simp; refine Came.value ?_ hS0; with_reducible rfl)
  try simp only [Act.put, List.setIfInBounds_toArray, List.set_cons_zero, List.set_cons_succ]
  refine wpDet_take (i := 5) (oi := _) (v := ?dv6) (by simp only [List.getElem?_toArray, List.getElem?_cons_zero, List.getElem?_cons_succ]; rfl) (by kernel_rfl) (by kernel_rfl) (by kernel_rfl) (Or.inl ⟨by rfl, ?dy6⟩) ?dr6
  case dy6 => (intro w hSw; go_simp; exact Came.call ((HVB.out w).mono fun e w' ⟨he, hf⟩ => ⟨he, keep hSw hf⟩) (by with_reducible rfl))
  try simp only [Act.put, List.setIfInBounds_toArray, List.set_cons_zero, List.set_cons_succ]
  refine wpDet_take (i := 6) (oi := _) (v := ?dv7) (by simp only [List.getElem?_toArray, List.getElem?_cons_zero, List.getElem?_cons_succ]; rfl) (by kernel_rfl) (by kernel_rfl) (by kernel_rfl) (Or.inl ⟨by rfl, ?dy7⟩) ?dr7
  case dy7 => (intro w hSw; have hS0 := hSw; (try dsimp only [ESaysS] at hSw); go_simp; refine Came.value ?_ hS0; with_reducible rfl)
  try simp only [Act.put, List.setIfInBounds_toArray, List.set_cons_zero, List.set_cons_succ]
  refine wpDet_take (i := 7) (oi := _) (v := ?dv8) (by simp only [List.getElem?_toArray, List.getElem?_cons_zero, List.getElem?_cons_succ]; rfl) (by kernel_rfl) (by kernel_rfl) (by kernel_rfl) (Or.inl ⟨by rfl, ?dy8⟩) ?dr8
  case dy8 => (intro w hSw; have hS0 := hSw; (try dsimp only [ESaysS] at hSw); go_simp; refine Came.value ?_ hS0; with_reducible rfl)
  try simp only [Act.put, List.setIfInBounds_toArray, List.set_cons_zero, List.set_cons_succ]
  refine wpDet_take (i := 8) (oi := _) (v := ?dv9) (by simp only [List.getElem?_toArray, List.getElem?_cons_zero, List.getElem?_cons_succ]; rfl) (by kernel_rfl) (by kernel_rfl) (by kernel_rfl) (Or.inl ⟨by rfl, ?dy9⟩) ?dr9
  case dy9 => (intro w hSw; have hS0 := hSw; (try dsimp only [ESaysS] at hSw); go_simp; refine Came.value ?_ hS0; with_reducible rfl)
  try simp only [Act.put, List.setIfInBounds_toArray, List.set_cons_zero, List.set_cons_succ]
  refine wpDet_take (i := 9) (oi := _) (v := ?dv10) (by simp only [List.getElem?_toArray, List.getElem?_cons_zero, List.getElem?_cons_succ]; rfl) (by kernel_rfl) (by kernel_rfl) (by kernel_rfl) (Or.inl ⟨by rfl, ?dy10⟩) ?dr10
  case dy10 => (intro w hSw; have hS0 := hSw; (try dsimp only [ESaysS] at hSw); go_simp; refine Came.value ?_ hS0; with_reducible rfl)
  try simp only [Act.put, List.setIfInBounds_toArray, List.set_cons_zero, List.set_cons_succ]
  refine wpDet_take (i := 10) (oi := _) (v := ?dv11) (by simp only [List.getElem?_toArray, List.getElem?_cons_zero, List.getElem?_cons_succ]; rfl) (by kernel_rfl) (by kernel_rfl) (by kernel_rfl) (Or.inl ⟨by rfl, ?dy11⟩) ?dr11
  case dy11 => (intro w hSw; go_simp; exact Came.call ((HNO.out w).mono fun e w' ⟨he, hf⟩ => ⟨he, keep hSw hf⟩) (by with_reducible rfl))
  try simp only [Act.put, List.setIfInBounds_toArray, List.set_cons_zero, List.set_cons_succ]
  refine wpDet_take (i := 11) (oi := _) (v := ?dv12) (by simp only [List.getElem?_toArray, List.getElem?_cons_zero, List.getElem?_cons_succ]; rfl) (by kernel_rfl) (by kernel_rfl) (by kernel_rfl) (Or.inl ⟨by rfl, ?dy12⟩) ?dr12
  case dy12 => (intro w hSw; have hS0 := hSw; (try dsimp only [ESaysS] at hSw); go_simp; refine Came.value ?_ hS0; with_reducible rfl)
  try simp only [Act.put, List.setIfInBounds_toArray, List.set_cons_zero, List.set_cons_succ]
  refine wpDet_take (i := 12) (oi := _) (v := ?dv13) (by simp only [List.getElem?_toArray, List.getElem?_cons_zero, List.getElem?_cons_succ]; rfl) (by kernel_rfl) (by kernel_rfl) (by kernel_rfl) (Or.inl ⟨by rfl, ?dy13⟩) ?dr13
  case dy13 => (intro w hSw; have hS0 := hSw; (try dsimp only [ESaysS] at hSw); go_simp; refine Came.value ?_ hS0; with_reducible rfl)
  try simp only [Act.put, List.setIfInBounds_toArray, List.set_cons_zero, List.set_cons_succ]
  refine wpDet_take (i := 13) (oi := _) (v := ?dv14) (by simp only [List.getElem?_toArray, List.getElem?_cons_zero, List.getElem?_cons_succ]; rfl) (by kernel_rfl) (by kernel_rfl) (by kernel_rfl) (Or.inl ⟨by rfl, ?dy14⟩) ?dr14
  case dy14 => (intro w hSw; have hS0 := hSw; (try dsimp only [ESaysS] at hSw); go_simp; refine Came.value ?_ hS0; with_reducible rfl)
  try simp only [Act.put, List.setIfInBounds_toArray, List.set_cons_zero, List.set_cons_succ]
  refine wpDet_take (i := 14) (oi := _) (v := ?dv15) (by simp only [List.getElem?_toArray, List.getElem?_cons_zero, List.getElem?_cons_succ]; rfl) (by kernel_rfl) (by kernel_rfl) (by kernel_rfl) (Or.inl ⟨by rfl, ?dy15⟩) ?dr15
  case dy15 => (intro w hSw; have hS0 := hSw; (try dsimp only [ESaysS] at hSw); go_simp; refine Came.value ?_ hS0; with_reducible rfl)
  try simp only [Act.put, List.setIfInBounds_toArray, List.set_cons_zero, List.set_cons_succ]
  refine wpDet_take (i := 15) (oi := _) (v := ?dv16) (by simp only [List.getElem?_toArray, List.getElem?_cons_zero, List.getElem?_cons_succ]; rfl) (by kernel_rfl) (by kernel_rfl) (by kernel_rfl) (Or.inl ⟨by rfl, ?dy16⟩) ?dr16
  case dy16 => (intro w hSw; have hS0 := hSw; (try dsimp only [ESaysS] at hSw); go_simp; refine Came.value ?_ hS0; with_reducible rfl)
  try simp only [Act.put, List.setIfInBounds_toArray, List.set_cons_zero, List.set_cons_succ]
  refine wpDet_take (i := 16) (oi := _) (v := ?dv17) (by simp only [List.getElem?_toArray, List.getElem?_cons_zero, List.getElem?_cons_succ]; rfl) (by kernel_rfl) (by kernel_rfl) (by kernel_rfl) (Or.inl ⟨by rfl, ?dy17⟩) ?dr17
  case dy17 => (intro w hSw; have hS0 := hSw; (try dsimp only [ESaysS] at hSw); go_simp; refine Came.value ?_ hS0; with_reducible rfl)
  try simp only [Act.put, List.setIfInBounds_toArray, List.set_cons_zero, List.set_cons_succ]
  refine wpDet_take (i := 17) (oi := _) (v := ?dv18) (by simp only [List.getElem?_toArray, List.getElem?_cons_zero, List.getElem?_cons_succ]; rfl) (by kernel_rfl) (by kernel_rfl) (by kernel_rfl) (Or.inl ⟨by rfl, ?dy18⟩) ?dr18
  case dy18 => (intro w hSw; have hS0 := hSw; (try dsimp only [ESaysS] at hSw); go_simp; refine Came.value ?_ hS0; with_reducible rfl)
  try simp only [Act.put, List.setIfInBounds_toArray, List.set_cons_zero, List.set_cons_succ]
  refine wpDet_take (i := 18) (oi := _) (v := ?dv19) (by simp only [List.getElem?_toArray, List.getElem?_cons_zero, List.getElem?_cons_succ]; rfl) (by kernel_rfl) (by kernel_rfl) (by kernel_rfl) (Or.inl ⟨by rfl, ?dy19⟩) ?dr19
  case dy19 => (intro w hSw; have hS0 := hSw; (try dsimp only [ESaysS] at hSw); go_simp; refine Came.value ?_ hS0; with_reducible rfl)
  try simp only [Act.put, List.setIfInBounds_toArray, List.set_cons_zero, List.set_cons_succ]
  refine wpDet_take (i := 19) (oi := _) (v := ?dv20) (by simp only [List.getElem?_toArray, List.getElem?_cons_zero, List.getElem?_cons_succ]; rfl) (by kernel_rfl) (by kernel_rfl) (by kernel_rfl) (Or.inl ⟨by rfl, ?dy20⟩) ?dr20
  case dy20 => (intro w hSw; go_simp; exact Came.call ((HLA.out w).mono fun e w' ⟨he, hf⟩ => ⟨he, keep hSw hf⟩) (by with_reducible rfl))
  try simp only [Act.put, List.setIfInBounds_toArray, List.set_cons_zero, List.set_cons_succ]
  refine wpDet_take (i := 20) (oi := _) (v := ?dv21) (by simp only [List.getElem?_toArray, List.getElem?_cons_zero, List.getElem?_cons_succ]; rfl) (by kernel_rfl) (by kernel_rfl) (by kernel_rfl) (Or.inl ⟨by rfl, ?dy21⟩) ?dr21
  case dy21 => (intro w hSw; have hS0 := hSw; (try dsimp only [ESaysS] at hSw); go_simp; refine Came.value ?_ hS0; with_reducible rfl)
  try simp only [Act.put, List.setIfInBounds_toArray, List.set_cons_zero, List.set_cons_succ]
  refine wpDet_take (i := 21) (oi := _) (v := ?dv22) (by simp only [List.getElem?_toArray, List.getElem?_cons_zero, List.getElem?_cons_succ]; rfl) (by kernel_rfl) (by kernel_rfl) (by kernel_rfl) (Or.inl ⟨by rfl, ?dy22⟩) ?dr22
  case dy22 => (intro w hSw; have hS0 := hSw; (try dsimp only [ESaysS] at hSw); go_simp; refine Came.value ?_ hS0; with_reducible rfl)
  try simp only [Act.put, List.setIfInBounds_toArray, List.set_cons_zero, List.set_cons_succ]
  refine wpDet_take (i := 22) (oi := _) (v := ?dv23) (by simp only [List.getElem?_toArray, List.getElem?_cons_zero, List.getElem?_cons_succ]; rfl) (by kernel_rfl) (by kernel_rfl) (by kernel_rfl) (Or.inl ⟨by rfl, ?dy23⟩) ?dr23
  case dy23 => (intro w hSw; go_simp; exact Came.call ((HLB.out w).mono fun e w' ⟨he, hf⟩ => ⟨he, keep hSw hf⟩) (by with_reducible rfl))
  try simp only [Act.put, List.setIfInBounds_toArray, List.set_cons_zero, List.set_cons_succ]
  refine wpDet_take (i := 23) (oi := _) (v := ?dv24) (by simp only [List.getElem?_toArray, List.getElem?_cons_zero, List.getElem?_cons_succ]; rfl) (by kernel_rfl) (by kernel_rfl) (by kernel_rfl) (Or.inl ⟨by rfl, ?dy24⟩) ?dr24
  case dy24 => (intro w hSw; have hS0 := hSw; (try dsimp only [ESaysS] at hSw); go_simp; refine Came.value ?_ hS0; with_reducible rfl)
  try simp only [Act.put, List.setIfInBounds_toArray, List.set_cons_zero, List.set_cons_succ]
  refine wpDet_take (i := 24) (oi := _) (v := ?dv25) (by simp only [List.getElem?_toArray, List.getElem?_cons_zero, List.getElem?_cons_succ]; rfl) (by kernel_rfl) (by kernel_rfl) (by kernel_rfl) (Or.inl ⟨by rfl, ?dy25⟩) ?dr25
  case dy25 => (intro w hSw; have hS0 := hSw; (try dsimp only [ESaysS] at hSw); go_simp; refine Came.value ?_ hS0; with_reducible rfl)
  try simp only [Act.put, List.setIfInBounds_toArray, List.set_cons_zero, List.set_cons_succ]
  refine wpDet_take (i := 25) (oi := _) (v := ?dv26) (by simp only [List.getElem?_toArray, List.getElem?_cons_zero, List.getElem?_cons_succ]; rfl) (by kernel_rfl) (by kernel_rfl) (by kernel_rfl) (Or.inl ⟨by rfl, ?dy26⟩) ?dr26
  case dy26 => (intro w hSw; have hS0 := hSw; (try dsimp only [ESaysS] at hSw); go_simp; refine Came.value ?_ hS0; with_reducible rfl)
  try simp only [Act.put, List.setIfInBounds_toArray, List.set_cons_zero, List.set_cons_succ]
  refine wpDet_take (i := 26) (oi := _) (v := ?dv27) (by simp only [List.getElem?_toArray, List.getElem?_cons_zero, List.getElem?_cons_succ]; rfl) (by kernel_rfl) (by kernel_rfl) (by kernel_rfl) (Or.inl ⟨by rfl, ?dy27⟩) ?dr27
  case dy27 => (intro w hSw; have hS0 := hSw; (try dsimp only [ESaysS] at hSw); go_simp; refine Came.value ?_ hS0; with_reducible rfl)
  try simp only [Act.put, List.setIfInBounds_toArray, List.set_cons_zero, List.set_cons_succ]
  refine wpDet_take (i := 27) (oi := _) (v := ?dv28) (by simp only [List.getElem?_toArray, List.getElem?_cons_zero, List.getElem?_cons_succ]; rfl) (by kernel_rfl) (by kernel_rfl) (by kernel_rfl) (Or.inl ⟨by rfl, ?dy28⟩) ?dr28
  case dy28 => (intro w hSw; have hS0 := hSw; (try dsimp only [ESaysS] at hSw); go_simp; refine Came.value ?_ hS0; with_reducible rfl)
  try simp only [Act.put, List.setIfInBounds_toArray, List.set_cons_zero, List.set_cons_succ]
  refine wpDet_take (i := 28) (oi := _) (v := ?dv29) (by simp only [List.getElem?_toArray, List.getElem?_cons_zero, List.getElem?_cons_succ]; rfl) (by kernel_rfl) (by kernel_rfl) (by kernel_rfl) (Or.inl ⟨by rfl, ?dy29⟩) ?dr29
  case dy29 => (intro w hSw; have hS0 := hSw; (try dsimp only [ESaysS] at hSw); go_simp; refine Came.value ?_ hS0; with_reducible rfl)
  try simp only [Act.put, List.setIfInBounds_toArray, List.set_cons_zero, List.set_cons_succ]
  refine wpDet_take (i := 29) (oi := _) (v := ?dv30) (by simp only [List.getElem?_toArray, List.getElem?_cons_zero, List.getElem?_cons_succ]; rfl) (by kernel_rfl) (by kernel_rfl) (by kernel_rfl) (Or.inl ⟨by rfl, ?dy30⟩) ?dr30
  case dy30 => (intro w hSw; have hS0 := hSw; (try dsimp only [ESaysS] at hSw); go_simp; refine Came.value ?_ hS0; with_reducible rfl)
  try simp only [Act.put, List.setIfInBounds_toArray, List.set_cons_zero, List.set_cons_succ]
  refine wpDet_take (i := 30) (oi := _) (v := ?dv31) (by simp only [List.getElem?_toArray, List.getElem?_cons_zero, List.getElem?_cons_succ]; rfl) (by kernel_rfl) (by kernel_rfl) (by kernel_rfl) (Or.inl ⟨by rfl, ?dy31⟩) ?dr31
  case dy31 => (intro w hSw; have hS0 := hSw; (try dsimp only [ESaysS] at hSw); go_simp; refine Came.value ?_ hS0; with_reducible rfl)
  try simp only [Act.put, List.setIfInBounds_toArray, List.set_cons_zero, List.set_cons_succ]
  refine wpDet_take (i := 31) (oi := _) (v := ?dv32) (by simp only [List.getElem?_toArray, List.getElem?_cons_zero, List.getElem?_cons_succ]; rfl) (by kernel_rfl) (by kernel_rfl) (by kernel_rfl) (Or.inl ⟨by rfl, ?dy32⟩) ?dr32
  case dy32 => (intro w hSw; have hS0 := hSw; (try dsimp only [ESaysS] at hSw); go_simp; refine Came.value ?_ hS0; with_reducible rfl)
  try simp only [Act.put, List.setIfInBounds_toArray, List.set_cons_zero, List.set_cons_succ]
  refine wpDet_take (i := 32) (oi := _) (v := ?dv33) (by simp only [List.getElem?_toArray, List.getElem?_cons_zero, List.getElem?_cons_succ]; rfl) (by kernel_rfl) (by kernel_rfl) (by kernel_rfl) (Or.inl ⟨by rfl, ?dy33⟩) ?dr33
  case dy33 => (intro w hSw; have hS0 := hSw; (try dsimp only [ESaysS] at hSw); go_simp; refine Came.value ?_ hS0; with_reducible rfl)
  try simp only [Act.put, List.setIfInBounds_toArray, List.set_cons_zero, List.set_cons_succ]
  refine wpDet_take (i := 33) (oi := _) (v := ?dv34) (by simp only [List.getElem?_toArray, List.getElem?_cons_zero, List.getElem?_cons_succ]; rfl) (by kernel_rfl) (by kernel_rfl) (by kernel_rfl) (Or.inl ⟨by rfl, ?dy34⟩) ?dr34
  case dy34 => (intro w hSw; go_simp; exact Came.call ((HSA.out w).mono fun e w' ⟨he, hf⟩ => ⟨he, keep hSw hf⟩) (by with_reducible rfl))
  try simp only [Act.put, List.setIfInBounds_toArray, List.set_cons_zero, List.set_cons_succ]
  refine wpDet_take (i := 34) (oi := _) (v := ?dv35) (by simp only [List.getElem?_toArray, List.getElem?_cons_zero, List.getElem?_cons_succ]; rfl) (by kernel_rfl) (by kernel_rfl) (by kernel_rfl) (Or.inl ⟨by rfl, ?dy35⟩) ?dr35
  case dy35 => (intro w hSw; have hS0 := hSw; (try dsimp only [ESaysS] at hSw); go_simp; refine Came.value ?_ hS0; with_reducible rfl)
  try simp only [Act.put, List.setIfInBounds_toArray, List.set_cons_zero, List.set_cons_succ]
  refine wpDet_take (i := 35) (oi := _) (v := ?dv36) (by simp only [List.getElem?_toArray, List.getElem?_cons_zero, List.getElem?_cons_succ]; rfl) (by kernel_rfl) (by kernel_rfl) (by kernel_rfl) (Or.inl ⟨by rfl, ?dy36⟩) ?dr36
  case dy36 => (intro w hSw; have hS0 := hSw; (try dsimp only [ESaysS] at hSw); go_simp; refine Came.value ?_ hS0; with_reducible rfl)
  try simp only [Act.put, List.setIfInBounds_toArray, List.set_cons_zero, List.set_cons_succ]
  refine wpDet_take (i := 36) (oi := _) (v := ?dv37) (by simp only [List.getElem?_toArray, List.getElem?_cons_zero, List.getElem?_cons_succ]; rfl) (by kernel_rfl) (by kernel_rfl) (by kernel_rfl) (Or.inl ⟨by rfl, ?dy37⟩) ?dr37
  case dy37 => (intro w hSw; have hS0 := hSw; (try dsimp only [ESaysS] at hSw); go_simp; refine Came.value ?_ hS0; with_reducible rfl)
  try simp only [Act.put, List.setIfInBounds_toArray, List.set_cons_zero, List.set_cons_succ]
  refine wpDet_take (i := 37) (oi := _) (v := ?dv38) (by simp only [List.getElem?_toArray, List.getElem?_cons_zero, List.getElem?_cons_succ]; rfl) (by kernel_rfl) (by kernel_rfl) (by kernel_rfl) (Or.inl ⟨by rfl, ?dy38⟩) ?dr38
  case dy38 => (intro w hSw; go_simp; exact Came.call ((HTA.out w (HT.out.fr (HF1.out.trans hSw.1))).mono fun e w' ⟨he, hf⟩ => ⟨he, keep hSw hf⟩) (by with_reducible rfl))
  try simp only [Act.put, List.setIfInBounds_toArray, List.set_cons_zero, List.set_cons_succ]
  refine wpDet_take (i := 38) (oi := _) (v := ?dv39) (by simp only [List.getElem?_toArray, List.getElem?_cons_zero, List.getElem?_cons_succ]; rfl) (by kernel_rfl) (by kernel_rfl) (by kernel_rfl) (Or.inl ⟨by rfl, ?dy39⟩) ?dr39
  case dy39 => (intro w hSw; have hS0 := hSw; (try dsimp only [ESaysS] at hSw); go_simp; refine Came.value ?_ hS0; with_reducible rfl)
  try simp only [Act.put, List.setIfInBounds_toArray, List.set_cons_zero, List.set_cons_succ]
  refine wpDet_take (i := 39) (oi := _) (v := ?dv40) (by simp only [List.getElem?_toArray, List.getElem?_cons_zero, List.getElem?_cons_succ]; rfl) (by kernel_rfl) (by kernel_rfl) (by kernel_rfl) (Or.inl ⟨by rfl, ?dy40⟩) ?dr40
  case dy40 => (intro w hSw; go_simp; exact Came.call ((HTB.out w (HT.out.fr (HF1.out.trans hSw.1))).mono fun e w' ⟨he, hf⟩ => ⟨he, keep hSw hf⟩) (by with_reducible rfl))
  try simp only [Act.put, List.setIfInBounds_toArray, List.set_cons_zero, List.set_cons_succ]
  refine wpDet_take (i := 40) (oi := _) (v := ?dv41) (by simp only [List.getElem?_toArray, List.getElem?_cons_zero, List.getElem?_cons_succ]; rfl) (by kernel_rfl) (by kernel_rfl) (by kernel_rfl) (Or.inl ⟨by rfl, ?dy41⟩) ?dr41
  case dy41 => (intro w hSw; have hS0 := hSw; (try dsimp only [ESaysS] at hSw); go_simp; refine Came.value ?_ hS0; with_reducible rfl)
  try simp only [Act.put, List.setIfInBounds_toArray, List.set_cons_zero, List.set_cons_succ]
  refine wpDet_take (i := 41) (oi := _) (v := ?dv42) (by simp only [List.getElem?_toArray, List.getElem?_cons_zero, List.getElem?_cons_succ]; rfl) (by kernel_rfl) (by kernel_rfl) (by kernel_rfl) (Or.inl ⟨by rfl, ?dy42⟩) ?dr42
  case dy42 => (intro w hSw; have hS0 := hSw; (try dsimp only [ESaysS] at hSw); go_simp; refine Came.value ?_ hS0; with_reducible rfl)
  try simp only [Act.put, List.setIfInBounds_toArray, List.set_cons_zero, List.set_cons_succ]
  refine wpDet_take (i := 42) (oi := _) (v := ?dv43) (by simp only [List.getElem?_toArray, List.getElem?_cons_zero, List.getElem?_cons_succ]; rfl) (by kernel_rfl) (by kernel_rfl) (by kernel_rfl) (Or.inl ⟨by rfl, ?dy43⟩) ?dr43
  case dy43 => (intro w hSw; have hS0 := hSw; (try dsimp only [ESaysS] at hSw); go_simp; refine Came.value ?_ hS0; with_reducible rfl)
  try simp only [Act.put, List.setIfInBounds_toArray, List.set_cons_zero, List.set_cons_succ]
  refine wpDet_done (by kernel_rfl) ?_ _
  rintro w6 ⟨hF, _⟩
  go_wp2
  go_ret
  exact ⟨rfl, (HF1.out.trans hF).grown (by simp)⟩
end Go.Proofs.YtnlicmcijmglfaaDoor
