/- The document's next epoch; the text of one, the program's and the document's; the chapter's examples. -/
import Derived.Test.YtnlicmcijmglfaaDoorEpoch
import Derived.Lib.SmallJoins
import Derived.Lib.ItoaLen
namespace Go.Proofs.YtnlicmcijmglfaaDoor
open Go.RowKit

theorem Fr.grow (w : World) (k : Nat) (os : Array Obj) : Fr w (Sort.grow (w.drewN k) os) [] :=
  ⟨rfl, rfl, rfl, by simp only [Sort.grow, Array.size_append]; exact Nat.le_add_right _ _, fun i hi _ => by
    show ((w.drewN k).heap ++ os)[i]? = w.heap[i]?
    rw [Array.getElem?_append_left (show i < (w.drewN k).heap.size from hi)]; rfl⟩
/-- The library's table of powers of ten is there. -/
def Tab (w : World) : Prop := Lib.TabIs Tryd.prog w "internal/strconv.uint64pow10" .u64 Lib.pow10Tab
theorem Tab.fr {w w' : World} (h : Tab w) (hf : Fr w w' []) : Tab w' :=
  Joins.tab_stays (g := 0) (by kernel_rfl) h (hf.below w.heap.size (Nat.le_refl _) (by simp)) (Nat.le_refl _)

/-- An epoch's text. -/
def epTxt (c f : Int) : ByteArray := (⟨(Lib.itoa c).toArray⟩ ++ ⟨#[46]⟩) ++ ⟨(Lib.itoa f).toArray⟩

set_option maxRecDepth 100000 in
theorem text_any (c f : Int) (hc : -9223372036854775808 ≤ c ∧ c ≤ 9223372036854775807) (hf : -9223372036854775808 ≤ f ∧ f ≤ 9223372036854775807) (w : World) (hT : Tab w) :
    Calls Tryd.prog 15 #[.agg #[.int .i64 c, .int .i64 f]] w fun e w' => e = .returned (.string (epTxt c f)) ∧ Fr w w' [] := by
  have HT := Lib.hid hT
  have hg := heap_alloc_new w (.cells #[.int .i64 c, .int .i64 f] 23)
  have HG := Lib.hid hg
  clear hT hg
  go_enter Tryd.func15, Tryd.ntmps15
  go_wp2
  have keep : ∀ {a b : World}, (Fr w a [] ∧ a.cell? ⟨w.heap.size, 0, none⟩ = some (.int .i64 c) ∧ a.cell? ⟨w.heap.size, 1, none⟩ = some (.int .i64 f)) → Fr a b [] → (Fr w b [] ∧ b.cell? ⟨w.heap.size, 0, none⟩ = some (.int .i64 c) ∧ b.cell? ⟨w.heap.size, 1, none⟩ = some (.int .i64 f)) :=
    fun h k => ⟨h.1.trans k, k.cell h.2.1 (by simp), k.cell h.2.2 (by simp)⟩
  have hl1 := Lib.itoa_length_le c hc.1 hc.2
  have hl2 := Lib.itoa_length_le f hf.1 hf.2
  have hm1 : ¬ 9223372036854775807 < (Lib.itoa c).length + 1 := by omega
  have hm2 : ¬ 9223372036854775807 < (Lib.itoa c).length + 1 + (Lib.itoa f).length := by omega
  clear hl1 hl2
  refine wp_region_det (S := fun a => Fr w a [] ∧ a.cell? ⟨w.heap.size, 0, none⟩ = some (.int .i64 c) ∧ a.cell? ⟨w.heap.size, 1, none⟩ = some (.int .i64 f)) (by kernel_rfl) ?_ ?_
  · have h := pair_kept HG.out (Fr.drew _ _)
    exact ⟨(Fr.alloc _ _ _).trans (Fr.drew _ _), h.1.1, h.1.2⟩
  refine wpDet_take (i := 0) (oi := _) (v := ?dv1) (by simp only [List.getElem?_toArray, List.getElem?_cons_zero]; rfl) (by kernel_rfl) (by kernel_rfl) (by kernel_rfl) (Or.inl ⟨by rfl, ?dy1⟩) ?dr1
  case dy1 => (intro w hSw; have hS0 := hSw; (try dsimp only at hSw); go_simp; refine Came.value ?_ hS0; with_reducible rfl)
  try simp only [Act.put, List.setIfInBounds_toArray, List.set_cons_zero, List.set_cons_succ]
  refine wpDet_take (i := 1) (oi := _) (v := ?dv2) (by simp only [List.getElem?_toArray, List.getElem?_cons_zero, List.getElem?_cons_succ]; rfl) (by kernel_rfl) (by kernel_rfl) (by kernel_rfl) (Or.inl ⟨by rfl, ?dy2⟩) ?dr2
  case dy2 => (intro w hSw; have hS0 := hSw; (try dsimp only at hSw); go_simp; refine Came.value ?_ hS0; with_reducible rfl)
  try simp only [Act.put, List.setIfInBounds_toArray, List.set_cons_zero, List.set_cons_succ]
  refine wpDet_take (i := 2) (oi := _) (v := ?dv3) (by simp only [List.getElem?_toArray, List.getElem?_cons_zero, List.getElem?_cons_succ]; rfl) (by kernel_rfl) (by kernel_rfl) (by kernel_rfl) (Or.inl ⟨by rfl, ?dy3⟩) ?dr3
  case dy3 => (intro w hSw; go_simp; exact Came.call ((Tryd.strconv_FormatInt_10 c hc.1 hc.2 w (HT.out.fr hSw.1)).mono fun e w' ⟨he, k, os, hw⟩ => ⟨he, hw ▸ keep hSw (Fr.grow w k os)⟩) (by with_reducible rfl))
  try simp only [Act.put, List.setIfInBounds_toArray, List.set_cons_zero, List.set_cons_succ]
  refine wpDet_take (i := 3) (oi := _) (v := ?dv4) (by simp only [List.getElem?_toArray, List.getElem?_cons_zero, List.getElem?_cons_succ]; rfl) (by kernel_rfl) (by kernel_rfl) (by kernel_rfl) (Or.inl ⟨by rfl, ?dy4⟩) ?dr4
  case dy4 => (intro w hSw; have hS0 := hSw; (try dsimp only at hSw); go_simp; refine Came.value ?_ hS0; with_reducible rfl)
  try simp only [Act.put, List.setIfInBounds_toArray, List.set_cons_zero, List.set_cons_succ]
  refine wpDet_take (i := 4) (oi := _) (v := ?dv5) (by simp only [List.getElem?_toArray, List.getElem?_cons_zero, List.getElem?_cons_succ]; rfl) (by kernel_rfl) (by kernel_rfl) (by kernel_rfl) (Or.inl ⟨by rfl, ?dy5⟩) ?dr5
  case dy5 => (intro w hSw; have hS0 := hSw; (try dsimp only at hSw); go_simp; refine Came.value ?_ hS0; with_reducible rfl)
  try simp only [Act.put, List.setIfInBounds_toArray, List.set_cons_zero, List.set_cons_succ]
  refine wpDet_take (i := 5) (oi := _) (v := ?dv6) (by simp only [List.getElem?_toArray, List.getElem?_cons_zero, List.getElem?_cons_succ]; rfl) (by kernel_rfl) (by kernel_rfl) (by kernel_rfl) (Or.inl ⟨by rfl, ?dy6⟩) ?dr6
  case dy6 => (intro w hSw; have hS0 := hSw; (try dsimp only at hSw); go_simp; refine Came.value ?_ hS0; with_reducible rfl)
  try simp only [Act.put, List.setIfInBounds_toArray, List.set_cons_zero, List.set_cons_succ]
  refine wpDet_take (i := 6) (oi := _) (v := ?dv7) (by simp only [List.getElem?_toArray, List.getElem?_cons_zero, List.getElem?_cons_succ]; rfl) (by kernel_rfl) (by kernel_rfl) (by kernel_rfl) (Or.inl ⟨by rfl, ?dy7⟩) ?dr7
  case dy7 => (intro w hSw; go_simp; exact Came.call ((Tryd.strconv_Itoa f hf.1 hf.2 w (HT.out.fr hSw.1)).mono fun e w' ⟨he, k, os, hw⟩ => ⟨he, hw ▸ keep hSw (Fr.grow w k os)⟩) (by with_reducible rfl))
  try simp only [Act.put, List.setIfInBounds_toArray, List.set_cons_zero, List.set_cons_succ]
  refine wpDet_take (i := 7) (oi := _) (v := ?dv8) (by simp only [List.getElem?_toArray, List.getElem?_cons_zero, List.getElem?_cons_succ]; rfl) (by kernel_rfl) (by kernel_rfl) (by kernel_rfl) (Or.inl ⟨by rfl, ?dy8⟩) ?dr8
  case dy8 => (intro w hSw; have hS0 := hSw; (try dsimp only at hSw); go_simp; refine Came.value ?_ hS0; with_reducible rfl)
  try simp only [Act.put, List.setIfInBounds_toArray, List.set_cons_zero, List.set_cons_succ]
  refine wpDet_take (i := 8) (oi := _) (v := ?dv9) (by simp only [List.getElem?_toArray, List.getElem?_cons_zero, List.getElem?_cons_succ]; rfl) (by kernel_rfl) (by kernel_rfl) (by kernel_rfl) (Or.inl ⟨by rfl, ?dy9⟩) ?dr9
  case dy9 => (intro w hSw; have hS0 := hSw; (try dsimp only at hSw); go_simp; refine Came.value ?_ hS0; with_reducible rfl)
  try simp only [Act.put, List.setIfInBounds_toArray, List.set_cons_zero, List.set_cons_succ]
  refine wpDet_done (by kernel_rfl) ?_ _
  rintro w1 ⟨hF, _, _⟩
  go_wp2
  go_ret
  exact ⟨rfl, hF⟩

set_option maxRecDepth 100000 in
theorem rtext_any (c f : Int) (hc : -9223372036854775808 ≤ c ∧ c ≤ 9223372036854775807) (hf : -9223372036854775808 ≤ f ∧ f ≤ 9223372036854775807) (w : World) (hT : Tab w) :
    Calls Tryd.prog 16 #[.agg #[.int .i64 c, .int .i64 f]] w fun e w' => e = .returned (.string (epTxt c f)) ∧ Fr w w' [] := by
  have HT := Lib.hid hT
  have hg := heap_alloc_new w (.cells #[.int .i64 c, .int .i64 f] 23)
  have HG := Lib.hid hg
  clear hT hg
  go_enter Tryd.func16, Tryd.ntmps16
  go_wp2
  have keep : ∀ {a b : World}, (Fr w a [] ∧ a.cell? ⟨w.heap.size, 0, none⟩ = some (.int .i64 c) ∧ a.cell? ⟨w.heap.size, 1, none⟩ = some (.int .i64 f)) → Fr a b [] → (Fr w b [] ∧ b.cell? ⟨w.heap.size, 0, none⟩ = some (.int .i64 c) ∧ b.cell? ⟨w.heap.size, 1, none⟩ = some (.int .i64 f)) :=
    fun h k => ⟨h.1.trans k, k.cell h.2.1 (by simp), k.cell h.2.2 (by simp)⟩
  have hl1 := Lib.itoa_length_le c hc.1 hc.2
  have hl2 := Lib.itoa_length_le f hf.1 hf.2
  have hm1 : ¬ 9223372036854775807 < (Lib.itoa c).length + 1 := by omega
  have hm2 : ¬ 9223372036854775807 < (Lib.itoa c).length + 1 + (Lib.itoa f).length := by omega
  clear hl1 hl2
  refine wp_region_det (S := fun a => Fr w a [] ∧ a.cell? ⟨w.heap.size, 0, none⟩ = some (.int .i64 c) ∧ a.cell? ⟨w.heap.size, 1, none⟩ = some (.int .i64 f)) (by kernel_rfl) ?_ ?_
  · have h := pair_kept HG.out (Fr.drew _ _)
    exact ⟨(Fr.alloc _ _ _).trans (Fr.drew _ _), h.1.1, h.1.2⟩
  refine wpDet_take (i := 0) (oi := _) (v := ?dv10) (by simp only [List.getElem?_toArray, List.getElem?_cons_zero]; rfl) (by kernel_rfl) (by kernel_rfl) (by kernel_rfl) (Or.inl ⟨by rfl, ?dy10⟩) ?dr10
  case dy10 => (intro w hSw; have hS0 := hSw; (try dsimp only at hSw); go_simp; refine Came.value ?_ hS0; with_reducible rfl)
  try simp only [Act.put, List.setIfInBounds_toArray, List.set_cons_zero, List.set_cons_succ]
  refine wpDet_take (i := 1) (oi := _) (v := ?dv11) (by simp only [List.getElem?_toArray, List.getElem?_cons_zero, List.getElem?_cons_succ]; rfl) (by kernel_rfl) (by kernel_rfl) (by kernel_rfl) (Or.inl ⟨by rfl, ?dy11⟩) ?dr11
  case dy11 => (intro w hSw; have hS0 := hSw; (try dsimp only at hSw); go_simp; refine Came.value ?_ hS0; with_reducible rfl)
  try simp only [Act.put, List.setIfInBounds_toArray, List.set_cons_zero, List.set_cons_succ]
  refine wpDet_take (i := 2) (oi := _) (v := ?dv12) (by simp only [List.getElem?_toArray, List.getElem?_cons_zero, List.getElem?_cons_succ]; rfl) (by kernel_rfl) (by kernel_rfl) (by kernel_rfl) (Or.inl ⟨by rfl, ?dy12⟩) ?dr12
  case dy12 => (intro w hSw; go_simp; exact Came.call ((Tryd.strconv_FormatInt_10 c hc.1 hc.2 w (HT.out.fr hSw.1)).mono fun e w' ⟨he, k, os, hw⟩ => ⟨he, hw ▸ keep hSw (Fr.grow w k os)⟩) (by with_reducible rfl))
  try simp only [Act.put, List.setIfInBounds_toArray, List.set_cons_zero, List.set_cons_succ]
  refine wpDet_take (i := 3) (oi := _) (v := ?dv13) (by simp only [List.getElem?_toArray, List.getElem?_cons_zero, List.getElem?_cons_succ]; rfl) (by kernel_rfl) (by kernel_rfl) (by kernel_rfl) (Or.inl ⟨by rfl, ?dy13⟩) ?dr13
  case dy13 => (intro w hSw; have hS0 := hSw; (try dsimp only at hSw); go_simp; refine Came.value ?_ hS0; with_reducible rfl)
  try simp only [Act.put, List.setIfInBounds_toArray, List.set_cons_zero, List.set_cons_succ]
  refine wpDet_take (i := 4) (oi := _) (v := ?dv14) (by simp only [List.getElem?_toArray, List.getElem?_cons_zero, List.getElem?_cons_succ]; rfl) (by kernel_rfl) (by kernel_rfl) (by kernel_rfl) (Or.inl ⟨by rfl, ?dy14⟩) ?dr14
  case dy14 => (intro w hSw; have hS0 := hSw; (try dsimp only at hSw); go_simp; refine Came.value ?_ hS0; with_reducible rfl)
  try simp only [Act.put, List.setIfInBounds_toArray, List.set_cons_zero, List.set_cons_succ]
  refine wpDet_take (i := 5) (oi := _) (v := ?dv15) (by simp only [List.getElem?_toArray, List.getElem?_cons_zero, List.getElem?_cons_succ]; rfl) (by kernel_rfl) (by kernel_rfl) (by kernel_rfl) (Or.inl ⟨by rfl, ?dy15⟩) ?dr15
  case dy15 => (intro w hSw; have hS0 := hSw; (try dsimp only at hSw); go_simp; refine Came.value ?_ hS0; with_reducible rfl)
  try simp only [Act.put, List.setIfInBounds_toArray, List.set_cons_zero, List.set_cons_succ]
  refine wpDet_take (i := 6) (oi := _) (v := ?dv16) (by simp only [List.getElem?_toArray, List.getElem?_cons_zero, List.getElem?_cons_succ]; rfl) (by kernel_rfl) (by kernel_rfl) (by kernel_rfl) (Or.inl ⟨by rfl, ?dy16⟩) ?dr16
  case dy16 => (intro w hSw; go_simp; exact Came.call ((Tryd.strconv_Itoa f hf.1 hf.2 w (HT.out.fr hSw.1)).mono fun e w' ⟨he, k, os, hw⟩ => ⟨he, hw ▸ keep hSw (Fr.grow w k os)⟩) (by with_reducible rfl))
  try simp only [Act.put, List.setIfInBounds_toArray, List.set_cons_zero, List.set_cons_succ]
  refine wpDet_take (i := 7) (oi := _) (v := ?dv17) (by simp only [List.getElem?_toArray, List.getElem?_cons_zero, List.getElem?_cons_succ]; rfl) (by kernel_rfl) (by kernel_rfl) (by kernel_rfl) (Or.inl ⟨by rfl, ?dy17⟩) ?dr17
  case dy17 => (intro w hSw; have hS0 := hSw; (try dsimp only at hSw); go_simp; refine Came.value ?_ hS0; with_reducible rfl)
  try simp only [Act.put, List.setIfInBounds_toArray, List.set_cons_zero, List.set_cons_succ]
  refine wpDet_take (i := 8) (oi := _) (v := ?dv18) (by simp only [List.getElem?_toArray, List.getElem?_cons_zero, List.getElem?_cons_succ]; rfl) (by kernel_rfl) (by kernel_rfl) (by kernel_rfl) (Or.inl ⟨by rfl, ?dy18⟩) ?dr18
  case dy18 => (intro w hSw; have hS0 := hSw; (try dsimp only at hSw); go_simp; refine Came.value ?_ hS0; with_reducible rfl)
  try simp only [Act.put, List.setIfInBounds_toArray, List.set_cons_zero, List.set_cons_succ]
  refine wpDet_done (by kernel_rfl) ?_ _
  rintro w1 ⟨hF, _, _⟩
  go_wp2
  go_ret
  exact ⟨rfl, hF⟩

set_option maxRecDepth 100000 in
theorem rnext_any (s f x y : Int) (ok : Bool) (w : World) (h : NextIs s f x y ok) :
    Calls Tryd.prog 8 #[.int .i64 s, .int .i64 f] w fun e w' => e = .returned (.tuple #[.agg #[.int .i64 x, .int .i64 y], .bool ok]) ∧ Fr w w' [] := by
  have hways : (s < 0 ∧ x = 0 ∧ y = 0 ∧ ok = false) ∨ (¬ s < 0 ∧ 4294967295 ≤ s ∧ x = 0 ∧ y = 0 ∧ ok = false) ∨ (¬ s < 0 ∧ ¬ 4294967295 ≤ s ∧ ((validB (s + 1) f = true ∧ x = s + 1 ∧ y = f ∧ ok = true) ∨ (validB (s + 1) f = false ∧ x = 0 ∧ y = 0 ∧ ok = false))) := by
    unfold NextIs at h
    simp only [validB, decide_eq_true_eq, decide_eq_false_iff_not]
    rcases h with ⟨a, b, c1, d, rfl, rfl, rfl⟩ | ⟨a, rfl, rfl, rfl⟩
    · right; right; simp; omega
    · simp; omega
  clear h
  rcases hways with ⟨h1, rfl, rfl, rfl⟩ | ⟨h1, h2, rfl, rfl, rfl⟩ | ⟨h1, h2, hv⟩
  · go_enter Tryd.func8, Tryd.ntmps8
    go_wp2
    refine bodyPost_ret (v := .tuple #[.agg #[.int .i64 0, .int .i64 0], .bool false]) (by simp [results, Tryd.results8, go_sem]) rfl ⟨rfl, ?_⟩
    exact Fr.alloc _ _ _
  · go_enter Tryd.func8, Tryd.ntmps8
    go_wp2
    refine bodyPost_ret (v := .tuple #[.agg #[.int .i64 0, .int .i64 0], .bool false]) (by simp [results, Tryd.results8, go_sem]) rfl ⟨rfl, ?_⟩
    exact Fr.alloc _ _ _
  · have hc : IntKind.i64.wrap (s + 1) = s + 1 := IntWalk.i64_in _ (by omega)
    obtain ⟨v, hvv⟩ : ∃ v, validB (s + 1) f = v := ⟨_, rfl⟩
    rw [hvv] at hv
    have HV := Lib.hid (fun W => (hvv ▸ rvalid_any (s + 1) f W))
    obtain ⟨c, hcc⟩ : ∃ c, s + 1 = c := ⟨_, rfl⟩
    rw [hcc] at hv HV
    replace hc : IntKind.i64.wrap (s + 1) = c := hc.trans hcc
    clear hvv hcc
    go_enter Tryd.func8, Tryd.ntmps8
    go_wp2_with fail
    have hg0 : ((w.alloc (.cells #[.int .i64 0, .int .i64 0] 23)).alloc (.cells #[.int .i64 c, .int .i64 f] 23)).heap[w.heap.size]? = some (.cells #[.int .i64 0, .int .i64 0] 23 (0, 0)) := by
      rw [Below.heap_alloc _ _ _ (by simp)]; exact heap_alloc_new w _
    have hg1 : ((w.alloc (.cells #[.int .i64 0, .int .i64 0] 23)).alloc (.cells #[.int .i64 c, .int .i64 f] 23)).heap[w.heap.size + 1]? = some (.cells #[.int .i64 c, .int .i64 f] 23 (0, 0)) := by
      have := heap_alloc_new (w.alloc (.cells #[.int .i64 0, .int .i64 0] 23)) (.cells #[.int .i64 c, .int .i64 f] 23)
      simpa using this
    refine (HV.out _).mono ?_
    rintro e w1 ⟨rfl, hf⟩
    have hF : Fr w w1 [] := (Fr.alloc _ _ _).trans ((Fr.alloc _ _ _).trans hf)
    obtain ⟨⟨r0, r1⟩, ⟨y0, y1⟩, _⟩ := pair_kept hg0 hf
    obtain ⟨⟨s0, s1⟩, _, _⟩ := pair_kept hg1 hf
    have HF := Lib.hid hF
    clear hg0 hg1 hf hF hc
    rcases hv with ⟨rfl, rfl, rfl, rfl⟩ | ⟨rfl, rfl, rfl, rfl⟩
    all_goals
      go_wp2
      refine bodyPost_ret (v := .tuple #[.agg #[.int .i64 _, .int .i64 _], .bool _]) (by simp [results, Tryd.results8, go_sem, r0, r1]) rfl ⟨rfl, ?_⟩
      exact HF.out.comb ((Fr.setCell (S := [w.heap.size]) _ _ _ _ (by simp)).trans (Fr.setCell _ _ _ _ (by simp))) (by simp) (by simp)

theorem epTxt_first : epTxt 1 3 = ⟨#[49, 46, 51]⟩ := by
  have h1 : Lib.itoa 1 = [49] := by rw [show (1 : Int) = ((1 : Nat) : Int) from rfl, Lib.itoa_nonneg, Lib.decDigits_one (by decide)]; rfl
  have h3 : Lib.itoa 3 = [51] := by rw [show (3 : Int) = ((3 : Nat) : Int) from rfl, Lib.itoa_nonneg, Lib.decDigits_one (by decide)]; rfl
  unfold epTxt
  rw [h1, h3]
  rfl

set_option maxRecDepth 100000 in
theorem first4_any (w : World) (hT : Tab w) : Calls Tryd.prog 6 #[] w fun e w' => e = .returned (.bool true) ∧ Fr w w' [] := by
  have HT := Lib.hid hT
  have HTX := Lib.hid (fun W hW => epTxt_first ▸ text_any 1 3 (by omega) (by omega) W hW)
  have HN := Lib.hid (fun W => next_any 0 3 1 3 true W (.inl (by simp)) (by omega) (by omega))
  clear hT
  go_enter Tryd.func6, Tryd.ntmps6
  go_wp2_with fail
  refine (HN.out _).mono ?_
  rintro e w1 ⟨rfl, hf1⟩
  have HF1 := Lib.hid hf1
  clear hf1
  go_wp2_with fail
  have hf2 := HF1.out.trans (Fr.alloc w1 (.cells #[.int .i64 1, .int .i64 3] 23) [])
  have HF2 := Lib.hid hf2
  clear hf2
  refine (HTX.out _ (HT.out.fr HF2.out)).mono ?_
  rintro e w2 ⟨rfl, hf3⟩
  have HF3 := Lib.hid (HF2.out.trans hf3)
  clear hf3
  go_wp2
  go_ret
  exact ⟨rfl, HF3.out⟩
end Go.Proofs.YtnlicmcijmglfaaDoor
