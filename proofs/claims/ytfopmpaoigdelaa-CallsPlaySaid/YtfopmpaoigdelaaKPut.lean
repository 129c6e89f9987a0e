/- A set of calls: Put, Del. -/
import Derived.Test.YtfopmpaoigdelaaKDel
namespace Go.Proofs.Ytfopmpaoigdelaa
open Go.RowKit

/-- What becomes of a set: the latches L', in the row itself or in a new one. -/
def Turned (w : World) (B p : Nat) (s : Value) (L' : List La) (w' : World) : Prop :=
  ∃ s', Ss w' B p s' L' ∧ Fr w w' (sbs p s) ∧ ∀ r, s'.ownBlock = some r → s.ownBlock = some r ∨ w.heap.size ≤ r
theorem Turned.same {w w' : World} {B p : Nat} {s : Value} {L : List La} (h : Ss w B p s L) (k : Fr w w' []) : Turned w B p s L w' := ⟨s, h.keep k, k.mono (by simp), fun _ hr => .inl hr⟩
theorem laC_set (L : List La) (i : Nat) (x : La) (hi : i < L.length) : laC (L.set i x) = (((laC L).set (i * 3) (.int .i64 x.f)).set (i * 3 + 1) (.int .i64 x.d)).set (i * 3 + 2) (.int .i64 x.g) := by
  induction L generalizing i with
  | nil => simp at hi
  | cons y L ih =>
    cases i with
    | zero => simp [laC_cons]
    | succ i =>
      rw [List.set_cons_succ, laC_cons, laC_cons, ih i (by simpa using hi), show (i + 1) * 3 = i * 3 + 1 + 1 + 1 by omega]
      rfl
theorem own_set {w : World} {B g c i : Nat} {L : List La} (h : OwnL w B (.slice (some ⟨g, 0, none⟩) L.length c) L) (hi : i < L.length) (x : La) :
    OwnL (((w.setCell ⟨g, i * 3, none⟩ (.int .i64 x.f)).setCell ⟨g, i * 3 + 1, none⟩ (.int .i64 x.d)).setCell ⟨g, i * 3 + 2, none⟩ (.int .i64 x.g)) B (.slice (some ⟨g, 0, none⟩) L.length c) (L.set i x) := by
  obtain ⟨cs, hg, hB, hnc, hcm, hsz, htk⟩ := row_at h
  have g1 := heap_setCell_same w g (i * 3) _ _ (.int .i64 x.f) hg
  have g2 := heap_setCell_same _ g (i * 3 + 1) _ _ (.int .i64 x.d) g1
  have g3 := heap_setCell_same _ g (i * 3 + 2) _ _ (.int .i64 x.g) g2
  refine ⟨by rw [laC_len], .inr ⟨g, c, _, by rw [List.length_set], hB, g3, by rw [List.length_set]; exact hnc, hcm, by simpa using hsz, ?_⟩⟩
  rw [laC_set L i x hi, ← htk]
  simp only [Array.toList_setIfInBounds, List.length_set]
  simp only [List.take_set]
theorem box3_call {w : World} {g : Nat} {x : La} (h : w.heap[g]? = some x.row) : w.cell? ⟨g, 0, none⟩ = some (.int .i64 x.f) ∧ w.cell? ⟨g, 1, none⟩ = some (.int .i64 x.d) ∧ w.cell? ⟨g, 2, none⟩ = some (.int .i64 x.g) := row3 h
/-- What stands while Put's insertion goes on. -/
def SI (bx : Nat) (x : La) (a : World) : Prop := a.cell? ⟨bx, 0, none⟩ = some (.int .i64 x.f) ∧ a.cell? ⟨bx, 1, none⟩ = some (.int .i64 x.d) ∧ a.cell? ⟨bx, 2, none⟩ = some (.int .i64 x.g)
theorem SI.fr {bx : Nat} {x : La} {a a' : World} {S : List Nat} (h : SI bx x a) (k : Fr a a' S) (hn : bx ∉ S) : SI bx x a' := ⟨k.cell h.1 hn, k.cell h.2.1 hn, k.cell h.2.2 hn⟩
set_option maxHeartbeats 1000000 in
set_option maxRecDepth 100000 in
theorem putS_no (B p : Nat) (s : Value) (L : List La) (x : La) (w : World) (h : Ss w B p s L) (hB : B ≤ w.heap.size) (hl : L.length ≤ 100000) (hb : hasL L x.f x.d = false) :
    Calls Try.prog 8 #[.pointer (some ⟨p, 0, none⟩), .agg #[.int .i64 x.f, .int .i64 x.d, .int .i64 x.g]] w fun e w' => e = .returned (.bool true) ∧ Turned w B p s (putL L x) w' := by
  have HF0 := Lib.hid (Fr.alloc w x.row [])
  have HX := Lib.hid (show (w.alloc x.row).heap[w.heap.size]? = some x.row from heap_alloc_new w x.row)
  have HS := Lib.hid (h.keep HF0.out)
  have HV := Lib.hid (find_any B p s L x.f x.d _ HS.out (by omega) _ rfl false hb.symm)
  have hpl := h.2.2.put_no x hb
  have hsd := h.2.2.put x
  have hi := pos_le L x.f x.d
  generalize posL L x.f x.d = i at HV hpl hi
  have HPL := Lib.hid hpl
  have HSD := Lib.hid hsd
  have HNE := Lib.hid h.ne
  have HOWN := Lib.hid h.own
  have HLT := Lib.hid h.lt
  obtain ⟨a, c, rfl⟩ := h.2.1.shape
  have HBB := Lib.hid hB
  obtain ⟨y0, y1, y2⟩ := box3_call HX.out
  clear h hb hpl hsd
  go_enter Try.func8, Try.ntmps8
  go_wp2_with fail
  refine HV.out.mono ?_
  rintro e w1 ⟨rfl, hf⟩
  have HF1 := Lib.hid (HF0.out.trans hf)
  have HX1 := Lib.hid (hf.heap HX.out (by simp))
  have HS1 := Lib.hid (HS.out.keep hf)
  obtain ⟨y3, y4, y5⟩ := box3_call HX1.out
  have hcell := HS1.out.cell
  clear hf y0 y1 y2
  have HF2 := Lib.hid (show Fr w1 (w1.alloc (.cells #[.int .i64 x.f, .int .i64 x.d, .int .i64 x.g] 25)).drew [] from (Fr.alloc w1 _ []).trans (Fr.drew _ []))
  have HX2 := Lib.hid (show (w1.alloc (.cells #[.int .i64 x.f, .int .i64 x.d, .int .i64 x.g] 25)).drew.heap[w1.heap.size]? = some x.row from heap_alloc_new w1 x.row)
  have HO2 := Lib.hid (HS1.out.2.1.keep HF2.out)
  have HB2 := Lib.hid (show B ≤ (w1.alloc (.cells #[.int .i64 x.f, .int .i64 x.d, .int .i64 x.g] 25)).drew.heap.size from Nat.le_trans HBB.out (Nat.le_trans HF1.out.size HF2.out.size))
  have HN2 := Lib.hid (show Value.ownBlock (.slice a L.length c) ≠ some w1.heap.size from fun e => by have := HOWN.out _ e; have := HF1.out.size; omega)
  have HI := Lib.hid hi
  have HBX := Lib.hid (show w.heap.size ∉ (Value.ownBlock (.slice a L.length c)).toList from fun e => by have := HOWN.out w.heap.size (by simpa using e); omega)
  have HPX := Lib.hid (show p ∉ (Value.ownBlock (.slice a L.length c)).toList from fun e => HNE.out (by simpa using e))
  have HSI := Lib.hid (show SI w.heap.size x w1 from ⟨y3, y4, y5⟩)
  clear hi
  have HPB := Lib.hid (show w.heap.size ≠ p from fun e => by have := HLT.out; omega)
  have hcellA := HF2.out.cell hcell (by simp)
  go_wp2_with fail
  refine wp_region_noPanic ?_
  refine wp_region_held_drew (S := (SI w.heap.size x)) (by kernel_rfl) (HSI.out.fr (Fr.drew w1 []) (by simp)) (fun hHeld => ?_)
  refine wpAnyH_take (i := 0) (oi := _) (v := ?fv0h1n2) (by simp only [List.getElem?_toArray, List.getElem?_cons_zero]; rfl) (by kernel_rfl) (by kernel_rfl) (by kernel_rfl) (fun _ _ _ h => h) (Or.inl ⟨by rfl, ?fy0h1n2⟩) (by assumption) ?fr0h1n2
  case fy0h1n2 => (intro w hSw; (try dsimp only [SI] at hSw); go_simp; try with_reducible rfl)
  try simp only [Act.put, List.setIfInBounds_toArray, List.set_cons_zero, List.set_cons_succ]
  refine wpAnyH_take (i := 1) (oi := _) (v := ?fv1h1n2) (by simp only [List.getElem?_toArray, List.getElem?_cons_zero, List.getElem?_cons_succ]; rfl) (by kernel_rfl) (by kernel_rfl) (by kernel_rfl) (fun _ _ _ h => h) (Or.inl ⟨by rfl, ?fy1h1n2⟩) (by assumption) ?fr1h1n2
  case fy1h1n2 => (intro w hSw; (try dsimp only [SI] at hSw); go_simp; try with_reducible rfl)
  try simp only [Act.put, List.setIfInBounds_toArray, List.set_cons_zero, List.set_cons_succ]
  refine wpAnyH_take (i := 2) (oi := _) (v := ?fv2h1n2) (by simp only [List.getElem?_toArray, List.getElem?_cons_zero, List.getElem?_cons_succ]; rfl) (by kernel_rfl) (by kernel_rfl) (by kernel_rfl) (fun _ _ _ h => h) (Or.inl ⟨by rfl, ?fy2h1n2⟩) (by assumption) ?fr2h1n2
  case fy2h1n2 => (intro w hSw; (try dsimp only [SI] at hSw); go_simp; try with_reducible rfl)
  try simp only [Act.put, List.setIfInBounds_toArray, List.set_cons_zero, List.set_cons_succ]
  refine wpAnyH_take (i := 3) (oi := _) (v := ?fv3h1n2) (by simp only [List.getElem?_toArray, List.getElem?_cons_zero, List.getElem?_cons_succ]; rfl) (by kernel_rfl) (by kernel_rfl) (by kernel_rfl) (fun _ _ _ h => h) (Or.inl ⟨by rfl, ?fy3h1n2⟩) (by assumption) ?fr3h1n2
  case fy3h1n2 => (intro w hSw; (try dsimp only [SI] at hSw); go_simp; try with_reducible rfl)
  try simp only [Act.put, List.setIfInBounds_toArray, List.set_cons_zero, List.set_cons_succ]
  refine wpAnyH_take (i := 5) (oi := _) (v := ?fv5h1n2) (by simp only [List.getElem?_toArray, List.getElem?_cons_zero, List.getElem?_cons_succ]; rfl) (by kernel_rfl) (by kernel_rfl) (by kernel_rfl) (fun _ _ _ h => h) (Or.inl ⟨by rfl, ?fy5h1n2⟩) (by assumption) ?fr5h1n2
  case fy5h1n2 => (intro w hSw; (try dsimp only [SI] at hSw); go_simp; try with_reducible rfl)
  try simp only [Act.put, List.setIfInBounds_toArray, List.set_cons_zero, List.set_cons_succ]
  refine wpAnyH_take (i := 6) (oi := _) (v := ?fv6h1n2) (by simp only [List.getElem?_toArray, List.getElem?_cons_zero, List.getElem?_cons_succ]; rfl) (by kernel_rfl) (by kernel_rfl) (by kernel_rfl) (fun _ _ _ h => h) (Or.inl ⟨by rfl, ?fy6h1n2⟩) (by assumption) ?fr6h1n2
  case fy6h1n2 => (intro w hSw; (try dsimp only [SI] at hSw); go_simp; try with_reducible rfl)
  try simp only [Act.put, List.setIfInBounds_toArray, List.set_cons_zero, List.set_cons_succ]
  refine wpAnyH_ready (rs := [4, 7]) (by kernel_rfl) (by simp) ?_
  refine AllReadyH.cons (o := _) rfl (fun K hK => ?_) ?_
  · go_simp
    have hS1 := hHeld
    refine hK.out _ _ hS1 (fun hHeld => ?_)
    clear hK K
    try simp only [Act.put, List.setIfInBounds_toArray, List.set_cons_zero, List.set_cons_succ]
    refine wpAnyH_ready (rs := [7]) (by kernel_rfl) (by simp) ?_
    refine AllReadyH.cons (o := _) rfl (fun K hK => ?_) AllReadyH.nil
    go_simp
    have hS2 := hHeld.fr (Fr.alloc _ (.cells #[.int .i64 x.f, .int .i64 x.d, .int .i64 x.g] 25) []) (by simp)
    refine hK.out _ _ hS2 (fun hHeld => ?_)
    clear hK K
    try simp only [Act.put, List.setIfInBounds_toArray, List.set_cons_zero, List.set_cons_succ]
    refine wpAnyH_ready (rs := [8]) (by kernel_rfl) (by simp) ?_
    refine AllReadyH.cons (o := _) rfl (fun K hK => ?_) AllReadyH.nil
    go_simp
    ((with_reducible refine (ins_any B _ L x i w1.heap.size _ HO2.out HB2.out HI.out (by omega) HX2.out HN2.out).mono ?_); rintro e w2 ⟨u, rfl, hO, hF, g, c', hu, hg⟩; obtain ⟨m, hm⟩ : ∃ m, m = (L.take i ++ x :: L.drop i).length := ⟨_, rfl⟩; rw [← hm] at hu; subst hu; clear hm; have hS3 := hHeld.fr hF HBX.out; have HO3 := Lib.hid hO; have HF3 := Lib.hid hF; have HG3 := Lib.hid hg; clear hO hF hg)
    go_wp2_with fail
    refine hK.out _ _ hS3 (fun hHeld => ?_)
    clear hK K
    try simp only [Act.put, List.setIfInBounds_toArray, List.set_cons_zero, List.set_cons_succ]
    refine wpAnyH_take (i := 9) (oi := _) (v := ?fv9h1n3) (by simp only [List.getElem?_toArray, List.getElem?_cons_zero, List.getElem?_cons_succ]; rfl) (by kernel_rfl) (by kernel_rfl) (by kernel_rfl) (fun _ _ _ h => h) (Or.inl ⟨by rfl, ?fy9h1n3⟩) (by assumption) ?fr9h1n3
    case fy9h1n3 => (intro w hSw; (try dsimp only [SI] at hSw); go_simp; try with_reducible rfl)
    try simp only [Act.put, List.setIfInBounds_toArray, List.set_cons_zero, List.set_cons_succ]
    refine wpAnyH_take (i := 10) (oi := _) (v := ?fv10h1n3) (by simp only [List.getElem?_toArray, List.getElem?_cons_zero, List.getElem?_cons_succ]; rfl) (by kernel_rfl) (by kernel_rfl) (by kernel_rfl) (fun _ _ _ h => h) (Or.inl ⟨by rfl, ?fy10h1n3⟩) (by assumption) ?fr10h1n3
    case fy10h1n3 => (intro w hSw; (try dsimp only [SI] at hSw); go_simp; try with_reducible rfl)
    try simp only [Act.put, List.setIfInBounds_toArray, List.set_cons_zero, List.set_cons_succ]
    have hrow2 := HF3.out.heap (HF2.out.heap HS1.out.1 (by simp)) HPX.out
    have hcell2 := cell_of_row w2 p 0 _ _ _ hrow2
    have hfz2 := frozen_of_row w2 p 0 _ _ hrow2
    have HR2 := Lib.hid hrow2
    clear hrow2
    refine wpAnyH_ready (rs := [11]) (by kernel_rfl) (by simp) ?_
    refine AllReadyH.cons (o := _) rfl (fun K hK => ?_) AllReadyH.nil
    go_simp
    have hS4 := hHeld.fr (Fr.setCell w2 p 0 (.slice (some ⟨g, 0, none⟩) m c') (S := [p]) (by simp)) (by simpa using HPB.out)
    refine hK.out _ _ hS4 (fun hHeld => ?_)
    clear hK K
    try simp only [Act.put, List.setIfInBounds_toArray, List.set_cons_zero, List.set_cons_succ]
    refine wpAnyH_done (by kernel_rfl) ?_ _
    refine NoPanic.normal ?_
    clear hHeld
    go_wp2
    have hT : Turned w B p (.slice a L.length c) (putL L x) (w2.setCell ⟨p, 0, none⟩ (.slice (some ⟨g, 0, none⟩) m c')) := by
      have hrow := heap_setCell_same w2 p 0 _ _ (.slice (some ⟨g, 0, none⟩) m c') HR2.out
      have hgs := HG3.out
      have hs1 := HF1.out.size
      have hs2 := HF2.out.size
      refine ⟨_, ⟨hrow, (HPL.out ▸ HO3.out.fr (Fr.setCell w2 p 0 _ (S := [p]) (by simp)) (by intro r hr; rw [List.mem_singleton.1 hr]; exact row_ne HO3.out HR2.out (by decide))), HSD.out⟩, ?_, ?_⟩
      · exact (((HF1.out.trans HF2.out).mono (by simp)).comb HF3.out (fun r hr => .inl hr) (fun r hr => .inl (by simpa [sbs] using .inr (by simpa using hr)))).trans (Fr.setCell w2 p 0 _ (by simp [sbs]))
      · intro r hr
        obtain rfl : g = r := by simpa [Value.ownBlock] using hr
        exact hgs.imp id (fun e => by omega)
    have HT := Lib.hid hT
    clear hT
    go_ret
    exact ⟨rfl, HT.out⟩
  refine AllReadyH.cons (o := _) rfl (fun K hK => ?_) AllReadyH.nil
  · go_simp
    have hS2 := hHeld.fr (Fr.alloc _ (.cells #[.int .i64 x.f, .int .i64 x.d, .int .i64 x.g] 25) []) (by simp)
    refine hK.out _ _ hS2 (fun hHeld => ?_)
    clear hK K
    try simp only [Act.put, List.setIfInBounds_toArray, List.set_cons_zero, List.set_cons_succ]
    refine wpAnyH_ready (rs := [4]) (by kernel_rfl) (by simp) ?_
    refine AllReadyH.cons (o := _) rfl (fun K hK => ?_) AllReadyH.nil
    go_simp
    have hS1 := hHeld
    refine hK.out _ _ hS1 (fun hHeld => ?_)
    clear hK K
    try simp only [Act.put, List.setIfInBounds_toArray, List.set_cons_zero, List.set_cons_succ]
    refine wpAnyH_ready (rs := [8]) (by kernel_rfl) (by simp) ?_
    refine AllReadyH.cons (o := _) rfl (fun K hK => ?_) AllReadyH.nil
    go_simp
    ((with_reducible refine (ins_any B _ L x i w1.heap.size _ HO2.out HB2.out HI.out (by omega) HX2.out HN2.out).mono ?_); rintro e w2 ⟨u, rfl, hO, hF, g, c', hu, hg⟩; obtain ⟨m, hm⟩ : ∃ m, m = (L.take i ++ x :: L.drop i).length := ⟨_, rfl⟩; rw [← hm] at hu; subst hu; clear hm; have hS3 := hHeld.fr hF HBX.out; have HO3 := Lib.hid hO; have HF3 := Lib.hid hF; have HG3 := Lib.hid hg; clear hO hF hg)
    go_wp2_with fail
    refine hK.out _ _ hS3 (fun hHeld => ?_)
    clear hK K
    try simp only [Act.put, List.setIfInBounds_toArray, List.set_cons_zero, List.set_cons_succ]
    refine wpAnyH_take (i := 9) (oi := _) (v := ?fv9h1n4) (by simp only [List.getElem?_toArray, List.getElem?_cons_zero, List.getElem?_cons_succ]; rfl) (by kernel_rfl) (by kernel_rfl) (by kernel_rfl) (fun _ _ _ h => h) (Or.inl ⟨by rfl, ?fy9h1n4⟩) (by assumption) ?fr9h1n4
    case fy9h1n4 => (intro w hSw; (try dsimp only [SI] at hSw); go_simp; try with_reducible rfl)
    try simp only [Act.put, List.setIfInBounds_toArray, List.set_cons_zero, List.set_cons_succ]
    refine wpAnyH_take (i := 10) (oi := _) (v := ?fv10h1n4) (by simp only [List.getElem?_toArray, List.getElem?_cons_zero, List.getElem?_cons_succ]; rfl) (by kernel_rfl) (by kernel_rfl) (by kernel_rfl) (fun _ _ _ h => h) (Or.inl ⟨by rfl, ?fy10h1n4⟩) (by assumption) ?fr10h1n4
    case fy10h1n4 => (intro w hSw; (try dsimp only [SI] at hSw); go_simp; try with_reducible rfl)
    try simp only [Act.put, List.setIfInBounds_toArray, List.set_cons_zero, List.set_cons_succ]
    have hrow2 := HF3.out.heap (HF2.out.heap HS1.out.1 (by simp)) HPX.out
    have hcell2 := cell_of_row w2 p 0 _ _ _ hrow2
    have hfz2 := frozen_of_row w2 p 0 _ _ hrow2
    have HR2 := Lib.hid hrow2
    clear hrow2
    refine wpAnyH_ready (rs := [11]) (by kernel_rfl) (by simp) ?_
    refine AllReadyH.cons (o := _) rfl (fun K hK => ?_) AllReadyH.nil
    go_simp
    have hS4 := hHeld.fr (Fr.setCell w2 p 0 (.slice (some ⟨g, 0, none⟩) m c') (S := [p]) (by simp)) (by simpa using HPB.out)
    refine hK.out _ _ hS4 (fun hHeld => ?_)
    clear hK K
    try simp only [Act.put, List.setIfInBounds_toArray, List.set_cons_zero, List.set_cons_succ]
    refine wpAnyH_done (by kernel_rfl) ?_ _
    refine NoPanic.normal ?_
    clear hHeld
    go_wp2
    have hT : Turned w B p (.slice a L.length c) (putL L x) (w2.setCell ⟨p, 0, none⟩ (.slice (some ⟨g, 0, none⟩) m c')) := by
      have hrow := heap_setCell_same w2 p 0 _ _ (.slice (some ⟨g, 0, none⟩) m c') HR2.out
      have hgs := HG3.out
      have hs1 := HF1.out.size
      have hs2 := HF2.out.size
      refine ⟨_, ⟨hrow, (HPL.out ▸ HO3.out.fr (Fr.setCell w2 p 0 _ (S := [p]) (by simp)) (by intro r hr; rw [List.mem_singleton.1 hr]; exact row_ne HO3.out HR2.out (by decide))), HSD.out⟩, ?_, ?_⟩
      · exact (((HF1.out.trans HF2.out).mono (by simp)).comb HF3.out (fun r hr => .inl hr) (fun r hr => .inl (by simpa [sbs] using .inr (by simpa using hr)))).trans (Fr.setCell w2 p 0 _ (by simp [sbs]))
      · intro r hr
        obtain rfl : g = r := by simpa [Value.ownBlock] using hr
        exact hgs.imp id (fun e => by omega)
    have HT := Lib.hid hT
    clear hT
    go_ret
    exact ⟨rfl, HT.out⟩
set_option maxRecDepth 100000 in
theorem putS_yes (B p : Nat) (s : Value) (L : List La) (x : La) (w : World) (h : Ss w B p s L) (hl : L.length ≤ 100000) (hb : hasL L x.f x.d = true) :
    Calls Try.prog 8 #[.pointer (some ⟨p, 0, none⟩), .agg #[.int .i64 x.f, .int .i64 x.d, .int .i64 x.g]] w fun e w' => e = .returned (.bool false) ∧ Turned w B p s (putL L x) w' := by
  have HF0 := Lib.hid (Fr.alloc w x.row [])
  have HX := Lib.hid (show (w.alloc x.row).heap[w.heap.size]? = some x.row from heap_alloc_new w x.row)
  have HS := Lib.hid (h.keep HF0.out)
  have HV := Lib.hid (find_any B p s L x.f x.d _ HS.out (by omega) _ rfl true hb.symm)
  obtain ⟨hpl, hi⟩ := h.2.2.put_yes x hb
  have hsd := h.2.2.put x
  generalize posL L x.f x.d = i at HV hpl hi
  obtain ⟨a, c, rfl⟩ := h.2.1.shape
  obtain ⟨g, rfl, hc1, hc2⟩ := h.2.1.some_of (by omega)
  have HPL := Lib.hid hpl
  have HSD := Lib.hid hsd
  have HNE := Lib.hid h.ne
  have hgw := (h.own g rfl).2
  have HLT := Lib.hid h.lt
  have HI := Lib.hid hi
  unfold maxLen at hc2
  obtain ⟨y0, y1, y2⟩ := box3_call HX.out
  have HPG := Lib.hid (show p ≠ g from fun e => HNE.out (by rw [e]; rfl))
  have HXG := Lib.hid (show w.heap.size ≠ g from fun e => by omega)
  clear h hb hpl hsd
  go_enter Try.func8, Try.ntmps8
  go_wp2_with fail
  refine HV.out.mono ?_
  rintro e w1 ⟨rfl, hf⟩
  have HF1 := Lib.hid (HF0.out.trans hf)
  have HX1 := Lib.hid (hf.heap HX.out (by simp))
  have HS1 := Lib.hid (HS.out.keep hf)
  obtain ⟨y3, y4, y5⟩ := box3_call HX1.out
  have hcell := HS1.out.cell
  obtain ⟨k0, k1, k2⟩ := row3_at HS1.out.2.1 i hi
  obtain ⟨cs, hg, _, _, _, _, _⟩ := row_at HS1.out.2.1
  have z0 := frozen_of_row w1 g (i * 3) _ _ hg
  have z1 := frozen_of_row w1 g (i * 3 + 1) _ _ hg
  have z2 := frozen_of_row w1 g (i * 3 + 2) _ _ hg
  clear hf y0 y1 y2 hg
  go_wp2_with fail
  refine wp_region_noPanic ?_
  refine wp_region_held_drew (S := (fun a => SI w.heap.size x a ∧ a.cell? ⟨p, 0, none⟩ = some (.slice (some ⟨g, 0, none⟩) L.length c))) (by kernel_rfl) ⟨⟨y3, y4, y5⟩, hcell⟩ (fun hHeld => ?_)
  refine wpAnyH_take (i := 0) (oi := _) (v := ?fv0h5n6) (by simp only [List.getElem?_toArray, List.getElem?_cons_zero]; rfl) (by kernel_rfl) (by kernel_rfl) (by kernel_rfl) (fun _ _ _ h => h) (Or.inl ⟨by rfl, ?fy0h5n6⟩) (by assumption) ?fr0h5n6
  case fy0h5n6 => (intro w hSw; (try dsimp only [SI] at hSw); go_simp; try with_reducible rfl)
  try simp only [Act.put, List.setIfInBounds_toArray, List.set_cons_zero, List.set_cons_succ]
  refine wpAnyH_take (i := 1) (oi := _) (v := ?fv1h5n6) (by simp only [List.getElem?_toArray, List.getElem?_cons_zero, List.getElem?_cons_succ]; rfl) (by kernel_rfl) (by kernel_rfl) (by kernel_rfl) (fun _ _ _ h => h) (Or.inl ⟨by rfl, ?fy1h5n6⟩) (by assumption) ?fr1h5n6
  case fy1h5n6 => (intro w hSw; (try dsimp only [SI] at hSw); go_simp; try with_reducible rfl)
  try simp only [Act.put, List.setIfInBounds_toArray, List.set_cons_zero, List.set_cons_succ]
  refine wpAnyH_take (i := 2) (oi := _) (v := ?fv2h5n6) (by simp only [List.getElem?_toArray, List.getElem?_cons_zero, List.getElem?_cons_succ]; rfl) (by kernel_rfl) (by kernel_rfl) (by kernel_rfl) (fun _ _ _ h => h) (Or.inl ⟨by rfl, ?fy2h5n6⟩) (by assumption) ?fr2h5n6
  case fy2h5n6 => (intro w hSw; (try dsimp only [SI] at hSw); go_simp; try with_reducible rfl)
  try simp only [Act.put, List.setIfInBounds_toArray, List.set_cons_zero, List.set_cons_succ]
  refine wpAnyH_take (i := 3) (oi := _) (v := ?fv3h5n6) (by simp only [List.getElem?_toArray, List.getElem?_cons_zero, List.getElem?_cons_succ]; rfl) (by kernel_rfl) (by kernel_rfl) (by kernel_rfl) (fun _ _ _ h => h) (Or.inl ⟨by rfl, ?fy3h5n6⟩) (by assumption) ?fr3h5n6
  case fy3h5n6 => (intro w hSw; (try dsimp only [SI] at hSw); go_simp; try with_reducible rfl)
  try simp only [Act.put, List.setIfInBounds_toArray, List.set_cons_zero, List.set_cons_succ]
  refine wpAnyH_take (i := 4) (oi := _) (v := ?fv4h5n6) (by simp only [List.getElem?_toArray, List.getElem?_cons_zero, List.getElem?_cons_succ]; rfl) (by kernel_rfl) (by kernel_rfl) (by kernel_rfl) (fun _ _ _ h => h) (Or.inl ⟨by rfl, ?fy4h5n6⟩) (by assumption) ?fr4h5n6
  case fy4h5n6 => (intro w hSw; (try dsimp only [SI] at hSw); go_simp; try with_reducible rfl)
  try simp only [Act.put, List.setIfInBounds_toArray, List.set_cons_zero, List.set_cons_succ]
  refine wpAnyH_take (i := 5) (oi := _) (v := ?fv5h5n6) (by simp only [List.getElem?_toArray, List.getElem?_cons_zero, List.getElem?_cons_succ]; rfl) (by kernel_rfl) (by kernel_rfl) (by kernel_rfl) (fun _ _ _ h => h) (Or.inl ⟨by rfl, ?fy5h5n6⟩) (by assumption) ?fr5h5n6
  case fy5h5n6 => (intro w hSw; (try dsimp only [SI] at hSw); go_simp; try with_reducible rfl)
  try simp only [Act.put, List.setIfInBounds_toArray, List.set_cons_zero, List.set_cons_succ]
  refine wpAnyH_take (i := 6) (oi := _) (v := ?fv6h5n6) (by simp only [List.getElem?_toArray, List.getElem?_cons_zero, List.getElem?_cons_succ]; rfl) (by kernel_rfl) (by kernel_rfl) (by kernel_rfl) (fun _ _ _ h => h) (Or.inl ⟨by rfl, ?fy6h5n6⟩) (by assumption) ?fr6h5n6
  case fy6h5n6 => (intro w hSw; (try dsimp only [SI] at hSw); go_simp; try with_reducible rfl)
  try simp only [Act.put, List.setIfInBounds_toArray, List.set_cons_zero, List.set_cons_succ]
  have HS3 := Lib.hid ((((Fr.setCell w1 g (i * 3) (.int .i64 x.f) (S := [g]) (by simp)).trans (Fr.setCell _ g (i * 3 + 1) (.int .i64 x.d) (by simp))).trans (Fr.setCell _ g (i * 3 + 2) (.int .i64 x.g) (by simp))).trans (Fr.drew _ [g]))
  have hS3 := And.intro (SI.fr (bx := w.heap.size) (x := x) ⟨y3, y4, y5⟩ HS3.out (by simpa using HXG.out)) (HS3.out.cell hcell (by simpa using HPG.out))
  refine wpAnyH_ready (rs := [7]) (by kernel_rfl) (by simp) ?_
  refine AllReadyH.cons (o := _) rfl (fun K hK => ?_) AllReadyH.nil
  go_simp
  refine hK.out _ _ hS3 (fun hHeld => ?_)
  clear hK K
  try simp only [Act.put, List.setIfInBounds_toArray, List.set_cons_zero, List.set_cons_succ]
  refine wpAnyH_done (by kernel_rfl) ?_ _
  refine NoPanic.normal ?_
  clear hHeld hS3
  have HO := Lib.hid ((own_set HS1.out.2.1 HI.out x).keep (Fr.drew _ []))
  have hT : Turned w B p (.slice (some ⟨g, 0, none⟩) L.length c) (putL L x) (((w1.setCell ⟨g, i * 3, none⟩ (.int .i64 x.f)).setCell ⟨g, i * 3 + 1, none⟩ (.int .i64 x.d)).setCell ⟨g, i * 3 + 2, none⟩ (.int .i64 x.g)).drew := by
    refine ⟨.slice (some ⟨g, 0, none⟩) L.length c, ⟨HS3.out.heap HS1.out.1 (by simpa using HPG.out), HPL.out ▸ HO.out, HSD.out⟩, ?_, fun r hr => .inl hr⟩
    exact (HF1.out.mono (by simp)).trans (HS3.out.mono (fun r hr => .inl (by rw [List.mem_singleton.1 hr]; simp [sbs, Value.ownBlock])))
  have HT := Lib.hid hT
  clear hT
  go_wp2
  go_ret
  exact ⟨rfl, HT.out⟩
theorem putS_any (B p : Nat) (s : Value) (L : List La) (x : La) (w : World) (h : Ss w B p s L) (hB : B ≤ w.heap.size) (hl : L.length ≤ 100000) (b : Bool) (hb : b = !hasL L x.f x.d) :
    Calls Try.prog 8 #[.pointer (some ⟨p, 0, none⟩), .agg #[.int .i64 x.f, .int .i64 x.d, .int .i64 x.g]] w fun e w' => e = .returned (.bool b) ∧ Turned w B p s (putL L x) w' := by
  subst hb
  cases hq : hasL L x.f x.d with
  | true => exact putS_yes B p s L x w h hl hq
  | false => exact putS_no B p s L x w h hB hl hq
end Go.Proofs.Ytfopmpaoigdelaa
