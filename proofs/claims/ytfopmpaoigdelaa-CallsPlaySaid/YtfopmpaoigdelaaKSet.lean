/- A set of calls as it lies; what only reads it: find, Has, Get, Len, All, Clone. -/
import Derived.Test.YtfopmpaoigdelaaKFind
namespace Go.Proofs.Ytfopmpaoigdelaa
open Go.RowKit

/-- Block p is a set, its latches lie in the slice s (the call's own from block B on), and rise. -/
def Ss (w : World) (B p : Nat) (s : Value) (L : List La) : Prop := w.heap[p]? = some (.cells #[s] 29 (0, 0)) ∧ OwnL w B s L ∧ Sd L
/-- The blocks that may turn with it. -/
def sbs (p : Nat) (s : Value) : List Nat := p :: s.ownBlock.toList
theorem Ss.cell {w : World} {B p : Nat} {s : Value} {L : List La} (h : Ss w B p s L) : w.cell? ⟨p, 0, none⟩ = some s := by rw [cell_of_row w p 0 _ _ _ h.1]; rfl
theorem Ss.lt {w : World} {B p : Nat} {s : Value} {L : List La} (h : Ss w B p s L) : p < w.heap.size := size_of_row h.1
theorem Ss.fr {w w' : World} {B p : Nat} {s : Value} {L : List La} {S : List Nat} (h : Ss w B p s L) (k : Fr w w' S) (hp : p ∉ S) (hs : ∀ r ∈ S, s.ownBlock ≠ some r) : Ss w' B p s L :=
  ⟨k.heap h.1 hp, h.2.1.fr k hs, h.2.2⟩
theorem Ss.keep {w w' : World} {B p : Nat} {s : Value} {L : List La} (h : Ss w B p s L) (k : Fr w w' []) : Ss w' B p s L := h.fr k (by simp) (by simp)
theorem Ss.own {w : World} {B p : Nat} {s : Value} {L : List La} (h : Ss w B p s L) : ∀ r, s.ownBlock = some r → B ≤ r ∧ r < w.heap.size := h.2.1.block
/-- The set's block is none of its latches'. -/
theorem Ss.ne {w : World} {B p : Nat} {s : Value} {L : List La} (h : Ss w B p s L) : s.ownBlock ≠ some p := row_ne h.2.1 h.1 (by decide)
theorem Ss.mem {w : World} {B p : Nat} {s : Value} {L : List La} (h : Ss w B p s L) : ∀ r ∈ sbs p s, r < w.heap.size := by
  intro r hr
  rcases List.mem_cons.1 hr with rfl | hr
  · exact h.lt
  · exact (h.own r (by simpa using hr)).2
theorem mem_sbs {p r : Nat} {s : Value} : r ∈ sbs p s ↔ r = p ∨ s.ownBlock = some r := by simp [sbs]
theorem Ss.new (w : World) (B : Nat) : Ss (w.alloc (.cells #[.slice none 0 0] 29)) B w.heap.size (.slice none 0 0) [] := ⟨heap_alloc_new _ _, OwnL.nil _ _, Sd.nil⟩
theorem Ss.mono {w : World} {B B' p : Nat} {s : Value} {L : List La} (h : Ss w B p s L) (hB : B' ≤ B) : Ss w B' p s L := ⟨h.1, row_mono h.2.1 hB, h.2.2⟩

/-- What stands while find looks. -/
def SF (W : World) (p bt : Nat) (s : Value) (f d : Int) (a : World) : Prop := Fr W a [] ∧ a.cell? ⟨p, 0, none⟩ = some s ∧ a.cell? ⟨bt, 0, none⟩ = some (.int .i64 f) ∧ a.cell? ⟨bt, 1, none⟩ = some (.int .i64 d)
theorem SF.fr {W a a' : World} {p bt : Nat} {s : Value} {f d : Int} (h : SF W p bt s f d a) (k : Fr a a' []) : SF W p bt s f d a' :=
  ⟨h.1.trans k, k.cell h.2.1 (by simp), k.cell h.2.2.1 (by simp), k.cell h.2.2.2 (by simp)⟩

set_option maxRecDepth 100000 in
theorem find_any (B p : Nat) (s : Value) (L : List La) (f d : Int) (w : World) (h : Ss w B p s L) (hl : L.length ≤ 1000000) (i : Nat) (hi : i = posL L f d) (b : Bool) (hb : b = hasL L f d) :
    Calls Try.prog 27 #[.pointer (some ⟨p, 0, none⟩), .agg #[.int .i64 f, .int .i64 d]] w fun e w' => e = .returned (.tuple #[.int .i64 i, .bool b]) ∧ Fr w w' [] := by
  have HF0 := Lib.hid (Fr.alloc w (.cells #[.int .i64 f, .int .i64 d] 23) [])
  have hbt := row2 (heap_alloc_new w (.cells #[.int .i64 f, .int .i64 d] 23))
  have HV := Lib.hid (fun W' (k : Fr w W' []) => bsf_any s L f d W' (h.2.1.holds.keep k) h.2.2 hl i hi b hb)
  have HS := Lib.hid (show SF w p w.heap.size s f d (w.alloc (.cells #[.int .i64 f, .int .i64 d] 23)).drew from
    ⟨HF0.out.trans (Fr.drew _ []), (HF0.out.trans (Fr.drew _ [])).cell h.cell (by simp), (Fr.drew _ []).cell hbt.1 (by simp), (Fr.drew _ []).cell hbt.2 (by simp)⟩)
  have hcell := h.cell
  obtain ⟨a, c, rfl⟩ := h.2.1.shape
  clear h hbt hi hb
  go_enter Try.func27, Try.ntmps27
  go_wp2
  refine wp_region_det (S := SF w p w.heap.size (.slice a L.length c) f d) (by kernel_rfl) HS.out ?_
  refine wpDet_take (i := 0) (oi := _) (v := ?dv1) (by simp only [List.getElem?_toArray, List.getElem?_cons_zero]; rfl) (by kernel_rfl) (by kernel_rfl) (by kernel_rfl) (Or.inl ⟨by rfl, ?dy1⟩) ?dr1
  case dy1 => (intro w hSw; have hS0 := hSw; (try dsimp only [SF] at hSw); go_simp; refine Came.value ?_ hS0; with_reducible rfl)
  try simp only [Act.put, List.setIfInBounds_toArray, List.set_cons_zero, List.set_cons_succ]
  refine wpDet_take (i := 1) (oi := _) (v := ?dv2) (by simp only [List.getElem?_toArray, List.getElem?_cons_zero, List.getElem?_cons_succ]; rfl) (by kernel_rfl) (by kernel_rfl) (by kernel_rfl) (Or.inl ⟨by rfl, ?dy2⟩) ?dr2
  case dy2 => (intro w hSw; have hS0 := hSw; (try dsimp only [SF] at hSw); go_simp; refine Came.value ?_ hS0; with_reducible rfl)
  try simp only [Act.put, List.setIfInBounds_toArray, List.set_cons_zero, List.set_cons_succ]
  refine wpDet_take (i := 2) (oi := _) (v := ?dv3) (by simp only [List.getElem?_toArray, List.getElem?_cons_zero, List.getElem?_cons_succ]; rfl) (by kernel_rfl) (by kernel_rfl) (by kernel_rfl) (Or.inl ⟨by rfl, ?dy3⟩) ?dr3
  case dy3 => (intro w hSw; have hS0 := hSw; (try dsimp only [SF] at hSw); go_simp; refine Came.value ?_ hS0; with_reducible rfl)
  try simp only [Act.put, List.setIfInBounds_toArray, List.set_cons_zero, List.set_cons_succ]
  refine wpDet_take (i := 3) (oi := _) (v := ?dv4) (by simp only [List.getElem?_toArray, List.getElem?_cons_zero, List.getElem?_cons_succ]; rfl) (by kernel_rfl) (by kernel_rfl) (by kernel_rfl) (Or.inl ⟨by rfl, ?dy4⟩) ?dr4
  case dy4 => (intro w hSw; have hS0 := hSw; (try dsimp only [SF] at hSw); go_simp; refine Came.value ?_ hS0; with_reducible rfl)
  try simp only [Act.put, List.setIfInBounds_toArray, List.set_cons_zero, List.set_cons_succ]
  refine wpDet_take (i := 4) (oi := _) (v := ?dv5) (by simp only [List.getElem?_toArray, List.getElem?_cons_zero, List.getElem?_cons_succ]; rfl) (by kernel_rfl) (by kernel_rfl) (by kernel_rfl) (Or.inl ⟨by rfl, ?dy5⟩) ?dr5
  case dy5 => (intro w hSw; have hS0 := hSw; (try dsimp only [SF] at hSw); go_simp; refine Came.value ?_ hS0; with_reducible rfl)
  try simp only [Act.put, List.setIfInBounds_toArray, List.set_cons_zero, List.set_cons_succ]
  refine wpDet_take (i := 5) (oi := _) (v := ?dv6) (by simp only [List.getElem?_toArray, List.getElem?_cons_zero, List.getElem?_cons_succ]; rfl) (by kernel_rfl) (by kernel_rfl) (by kernel_rfl) (Or.inl ⟨by rfl, ?dy6⟩) ?dr6
  case dy6 => (intro w hSw; go_simp; exact Came.call ((HV.out w hSw.1).mono fun e w' ⟨he, hf⟩ => ⟨he, hSw.fr hf⟩) (by with_reducible rfl))
  try simp only [Act.put, List.setIfInBounds_toArray, List.set_cons_zero, List.set_cons_succ]
  refine wpDet_take (i := 6) (oi := _) (v := ?dv7) (by simp only [List.getElem?_toArray, List.getElem?_cons_zero, List.getElem?_cons_succ]; rfl) (by kernel_rfl) (by kernel_rfl) (by kernel_rfl) (Or.inl ⟨by rfl, ?dy7⟩) ?dr7
  case dy7 => (intro w hSw; have hS0 := hSw; (try dsimp only [SF] at hSw); go_simp; refine Came.value ?_ hS0; with_reducible rfl)
  try simp only [Act.put, List.setIfInBounds_toArray, List.set_cons_zero, List.set_cons_succ]
  refine wpDet_take (i := 7) (oi := _) (v := ?dv8) (by simp only [List.getElem?_toArray, List.getElem?_cons_zero, List.getElem?_cons_succ]; rfl) (by kernel_rfl) (by kernel_rfl) (by kernel_rfl) (Or.inl ⟨by rfl, ?dy8⟩) ?dr8
  case dy8 => (intro w hSw; have hS0 := hSw; (try dsimp only [SF] at hSw); go_simp; refine Came.value ?_ hS0; with_reducible rfl)
  try simp only [Act.put, List.setIfInBounds_toArray, List.set_cons_zero, List.set_cons_succ]
  refine wpDet_take (i := 8) (oi := _) (v := ?dv9) (by simp only [List.getElem?_toArray, List.getElem?_cons_zero, List.getElem?_cons_succ]; rfl) (by kernel_rfl) (by kernel_rfl) (by kernel_rfl) (Or.inl ⟨by rfl, ?dy9⟩) ?dr9
  case dy9 => (intro w hSw; have hS0 := hSw; (try dsimp only [SF] at hSw); go_simp; refine Came.value ?_ hS0; with_reducible rfl)
  try simp only [Act.put, List.setIfInBounds_toArray, List.set_cons_zero, List.set_cons_succ]
  refine wpDet_take (i := 9) (oi := _) (v := ?dv10) (by simp only [List.getElem?_toArray, List.getElem?_cons_zero, List.getElem?_cons_succ]; rfl) (by kernel_rfl) (by kernel_rfl) (by kernel_rfl) (Or.inl ⟨by rfl, ?dy10⟩) ?dr10
  case dy10 => (intro w hSw; have hS0 := hSw; (try dsimp only [SF] at hSw); go_simp; refine Came.value ?_ hS0; with_reducible rfl)
  try simp only [Act.put, List.setIfInBounds_toArray, List.set_cons_zero, List.set_cons_succ]
  refine wpDet_done (by kernel_rfl) ?_ _
  rintro w1 ⟨hF, _⟩
  have HF := Lib.hid hF
  clear hF
  go_wp2
  go_ret2
  exact ⟨rfl, HF.out⟩
theorem has_any (B p : Nat) (s : Value) (L : List La) (f d : Int) (w : World) (h : Ss w B p s L) (hl : L.length ≤ 1000000) (b : Bool) (hb : b = hasL L f d) :
    Calls Try.prog 15 #[.pointer (some ⟨p, 0, none⟩), .agg #[.int .i64 f, .int .i64 d]] w fun e w' => e = .returned (.bool b) ∧ Fr w w' [] := by
  have HF0 := Lib.hid (Fr.alloc w (.cells #[.int .i64 f, .int .i64 d] 23) [])
  have HV := Lib.hid (find_any B p s L f d _ (h.keep HF0.out) hl _ rfl b hb)
  generalize posL L f d = i at HV
  clear h hb
  go_enter Try.func15, Try.ntmps15
  go_wp2_with fail
  refine HV.out.mono ?_
  rintro e w1 ⟨rfl, hf⟩
  have HF := Lib.hid (HF0.out.trans hf)
  clear hf
  go_wp2
  go_ret
  exact ⟨rfl, HF.out⟩
theorem len_any (B p : Nat) (s : Value) (L : List La) (w : World) (h : Ss w B p s L) :
    Calls Try.prog 12 #[.pointer (some ⟨p, 0, none⟩)] w fun e w' => e = .returned (.int .i64 L.length) ∧ w' = w := by
  have hcell := h.cell
  obtain ⟨a, c, rfl⟩ := h.2.1.shape
  clear h
  go_enter Try.func12, Try.ntmps12
  go_wp2
  go_ret
  exact ⟨rfl, rfl⟩
theorem row3_at {w : World} {B g c : Nat} {L : List La} (h : OwnL w B (.slice (some ⟨g, 0, none⟩) L.length c) L) (i : Nat) (hi : i < L.length) :
    w.cell? ⟨g, i * 3, none⟩ = some (.int .i64 (L.getD i zLa).f) ∧ w.cell? ⟨g, i * 3 + 1, none⟩ = some (.int .i64 (L.getD i zLa).d) ∧ w.cell? ⟨g, i * 3 + 2, none⟩ = some (.int .i64 (L.getD i zLa).g) := by
  have h2 := World.ownsRow.cellAt h
  obtain ⟨g0, g1, g2⟩ := laC_get L i hi
  exact ⟨(h2 _ (by omega)).trans g0, (h2 _ (by omega)).trans g1, (h2 _ (by omega)).trans g2⟩
theorem laC_len (L : List La) : (laC L).length = L.length * 3 := by
  induction L with
  | nil => rfl
  | cons x L ih => rw [laC_cons]; simp [ih]; omega
theorem laC_one (L : List La) : ∀ u ∈ laC L, u.oneCell' = true := by
  intro u hu
  obtain ⟨y, _, hy⟩ := List.mem_flatMap.1 hu
  exact la_one y u hy
theorem OwnL.some_of {w : World} {B : Nat} {a : Option Addr} {c : Nat} {L : List La} (h : OwnL w B (.slice a L.length c) L) (h0 : 0 < L.length) : ∃ g, a = some ⟨g, 0, none⟩ ∧ L.length ≤ c ∧ c ≤ maxLen := by
  obtain ⟨g, c', he, h1, h2, _⟩ := row_head h h0
  simp only [Value.slice.injEq, true_and] at he
  obtain ⟨rfl, rfl⟩ := he
  exact ⟨g, rfl, h1, h2⟩
/-- Two results, the first in a cell. -/
def getBoxes (w : World) (f d : Int) : World := (w.alloc (.cells #[.int .i64 f, .int .i64 d] 23)).alloc (.cells #[.int .i64 0, .int .i64 0, .int .i64 0] 25)
theorem getBoxes_fr (w : World) (f d : Int) : Fr w (getBoxes w f d) [] := (Fr.alloc w _ []).trans (Fr.alloc _ _ [])
theorem getBoxes_row (w : World) (f d : Int) : (getBoxes w f d).heap[w.heap.size + 1]? = some (.cells #[.int .i64 0, .int .i64 0, .int .i64 0] 25 (0, 0)) := by
  have h := heap_alloc_new (w.alloc (.cells #[.int .i64 f, .int .i64 d] 23)) (.cells #[.int .i64 0, .int .i64 0, .int .i64 0] 25)
  rw [show (w.alloc (.cells #[.int .i64 f, .int .i64 d] 23)).heap.size = w.heap.size + 1 by simp] at h
  exact h
set_option maxRecDepth 100000 in
theorem getS_no (B p : Nat) (s : Value) (L : List La) (f d : Int) (w : World) (h : Ss w B p s L) (hl : L.length ≤ 1000000) (hb : hasL L f d = false) :
    Calls Try.prog 9 #[.pointer (some ⟨p, 0, none⟩), .agg #[.int .i64 f, .int .i64 d]] w fun e w' => e = .returned (.tuple #[.agg #[.int .i64 0, .int .i64 0, .int .i64 0], .bool false]) ∧ Fr w w' [] := by
  have HF0 := Lib.hid (getBoxes_fr w f d)
  have HR := Lib.hid (getBoxes_row w f d)
  have HV := Lib.hid (find_any B p s L f d _ (h.keep HF0.out) hl _ rfl false hb.symm)
  generalize posL L f d = i at HV
  clear h hb
  go_enter Try.func9, Try.ntmps9
  go_wp2_with fail
  refine HV.out.mono ?_
  rintro e w1 ⟨rfl, hf⟩
  have HF1 := Lib.hid (HF0.out.trans hf)
  have z := fun i => frozen_of_row w1 _ i _ _ (hf.heap HR.out (by simp))
  have z0 := z 0
  have z1 := z 1
  have z2 := z 2
  obtain ⟨r0, r1, r2⟩ := row3 (hf.heap HR.out (by simp))
  have HX := Lib.hid (hf.heap HR.out (by simp))
  clear hf z
  go_wp2
  have X := set3_row HX.out (.int .i64 0) (.int .i64 0) (.int .i64 0)
  have Y := set3_fr w1 (w.heap.size + 1) (.int .i64 0) (.int .i64 0) (.int .i64 0)
  generalize World.setCell (World.setCell (World.setCell w1 _ _) _ _) _ _ = W at *
  obtain ⟨x0, x1, x2⟩ := row3 X
  refine bodyPost_ret (v := .tuple #[.agg #[.int .i64 0, .int .i64 0, .int .i64 0], .bool false]) (by simp [results, Try.results9, go_sem, x0, x1, x2]) rfl ⟨rfl, HF1.out.new Y (by simp)⟩
set_option maxRecDepth 100000 in
theorem getS_yes (B p : Nat) (s : Value) (L : List La) (f d : Int) (w : World) (h : Ss w B p s L) (hl : L.length ≤ 1000000) (hb : hasL L f d = true) (x : La) (hx : x = getL L f d) :
    Calls Try.prog 9 #[.pointer (some ⟨p, 0, none⟩), .agg #[.int .i64 f, .int .i64 d]] w fun e w' => e = .returned (.tuple #[.agg #[.int .i64 x.f, .int .i64 x.d, .int .i64 x.g], .bool true]) ∧ Fr w w' [] := by
  have HF0 := Lib.hid (getBoxes_fr w f d)
  have HR := Lib.hid (getBoxes_row w f d)
  have HV := Lib.hid (find_any B p s L f d _ (h.keep HF0.out) hl _ rfl true hb.symm)
  have hi : posL L f d < L.length := by have := h.2.2.has_at f d; rw [hb] at this; exact (of_decide_eq_true this.symm).1
  have hx2 : x = L.getD (posL L f d) zLa := by rw [hx, (h.2.2.get_at hb).1]
  generalize posL L f d = i at HV hi hx2
  obtain ⟨a, c, rfl⟩ := h.2.1.shape
  obtain ⟨g, rfl, hc1, hc2⟩ := h.2.1.some_of (by omega)
  have hcell := Lib.hid h.cell
  have hr3 := row3_at h.2.1 i hi
  rw [← hx2] at hr3
  have HR3 := Lib.hid hr3
  unfold maxLen at hc2
  clear h hb hx hx2 hr3
  go_enter Try.func9, Try.ntmps9
  go_wp2_with fail
  refine HV.out.mono ?_
  rintro e w1 ⟨rfl, hf⟩
  have HF1 := Lib.hid (HF0.out.trans hf)
  have z := fun i => frozen_of_row w1 _ i _ _ (hf.heap HR.out (by simp))
  have z0 := z 0
  have z1 := z 1
  have z2 := z 2
  have k0 := HF1.out.cell hcell.out (by simp)
  have k1 := HF1.out.cell HR3.out.1 (by simp)
  have k2 := HF1.out.cell HR3.out.2.1 (by simp)
  have k3 := HF1.out.cell HR3.out.2.2 (by simp)
  obtain ⟨r0, r1, r2⟩ := row3 (hf.heap HR.out (by simp))
  have HX := Lib.hid (hf.heap HR.out (by simp))
  clear hf z
  go_wp2
  have X := set3_row HX.out (.int .i64 x.f) (.int .i64 x.d) (.int .i64 x.g)
  have Y := set3_fr w1 (w.heap.size + 1) (.int .i64 x.f) (.int .i64 x.d) (.int .i64 x.g)
  generalize World.setCell (World.setCell (World.setCell w1 _ _) _ _) _ _ = W at *
  obtain ⟨x0, x1, x2⟩ := row3 X
  refine bodyPost_ret (v := .tuple #[.agg #[.int .i64 x.f, .int .i64 x.d, .int .i64 x.g], .bool true]) (by simp [results, Try.results9, go_sem, x0, x1, x2]) rfl ⟨rfl, HF1.out.new Y (by simp)⟩
theorem all_any (B p : Nat) (s : Value) (L : List La) (w : World) (h : Ss w B p s L) (hl : L.length ≤ 1000000) :
    Calls Try.prog 22 #[.pointer (some ⟨p, 0, none⟩)] w (Gives fun u w' => OwnL w' w.heap.size u L ∧ Fr w w' []) := by
  obtain ⟨i0, hi, hz0, hz1, hz2⟩ := info_parts infoL
  have hcell := h.cell
  obtain ⟨a, c, rfl⟩ := h.2.1.shape
  cases a with
  | none =>
    have h0 : L = [] := by
      rcases h.2.1.2 with ⟨h1, h0⟩ | ⟨g, c, cur, h1, _⟩
      · exact List.eq_nil_of_length_eq_zero h0
      · simp at h1
    subst h0
    have hc0 : c = 0 := by
      rcases h.2.1.2 with ⟨h1, _⟩ | ⟨g, c, cur, h1, _⟩
      · simpa using h1
      · simp at h1
    subst hc0
    have HO := Lib.hid (show OwnL w w.heap.size (.slice none 0 0) [] from OwnL.nil _ _)
    clear h
    go_enter Try.func22, Try.ntmps22
    go_wp2_with (at_builtin; refine wpList_append_own_none rfl _ _ 27 rfl w.heap.size 25 i0 3 Try.underlying27 hi _ _ _ rfl HO.out rfl ?_)
    go_ret
    exact gives ⟨HO.out, Fr.refl _ _⟩
  | some x =>
    have HO := Lib.hid (show w.ownsRow w.heap.size 25 3 (.slice none 0 0) 0 [] from OwnL.nil _ _)
    have HC := Lib.hid (row_cells h.2.1)
    have HL1 := laC_len L
    clear h
    go_enter Try.func22, Try.ntmps22
    go_wp2_with (at_builtin; refine wpList_append_own _ rfl _ _ 27 rfl w.heap.size 25 i0 (.agg #[.int .i64 0, .int .i64 0, .int .i64 0]) 3 24 Try.underlying27 hi hz0 hz1 hz2 rfl (by decide) _ _ _ rfl HO.out x L.length c (laC L) rfl HL1 HC.out (laC_one L) (by unfold maxLen; omega) (by omega) (by simp) ?_; intro v' w' hown hg _)
    go_ret
    refine gives ⟨?_, ?_⟩
    · unfold OwnL
      simpa using hown
    · exact Fr.of_grown (grown_new (grown_refl w none) hg (fun r hr => by cases hr)) []
end Go.Proofs.Ytfopmpaoigdelaa
