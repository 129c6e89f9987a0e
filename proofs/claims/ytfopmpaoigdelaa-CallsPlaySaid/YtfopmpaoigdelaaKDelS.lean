/- A set of calls: Del, Clone. -/
import Derived.Test.YtfopmpaoigdelaaKPut
namespace Go.Proofs.Ytfopmpaoigdelaa
open Go.RowKit

set_option maxRecDepth 100000 in
theorem delS_any (B p : Nat) (s : Value) (L : List La) (f d : Int) (w : World) (h : Ss w B p s L) (hl : L.length ≤ 100000) (b : Bool) (hb : b = hasL L f d) :
    Calls Try.prog 13 #[.pointer (some ⟨p, 0, none⟩), .agg #[.int .i64 f, .int .i64 d]] w fun e w' => e = .returned (.bool b) ∧ Turned w B p s (delL L f d) w' := by
  have HF0 := Lib.hid (Fr.alloc w (.cells #[.int .i64 f, .int .i64 d] 23) [])
  have HS := Lib.hid (h.keep HF0.out)
  have HV := Lib.hid (find_any B p s L f d _ HS.out (by omega) _ rfl b hb)
  cases b with
  | false =>
    have HT := Lib.hid (fun W (k : Fr w W []) => Turned.same h k)
    rw [← del_no (L := L) hb.symm] at HT
    rw [del_no (L := L) hb.symm] at HT
    have HD := Lib.hid (del_no (L := L) hb.symm)
    generalize posL L f d = i at HV
    clear h hb
    go_enter Try.func13, Try.ntmps13
    go_wp2_with fail
    refine HV.out.mono ?_
    rintro e w1 ⟨rfl, hf⟩
    have HF1 := Lib.hid (HF0.out.trans hf)
    clear hf
    go_wp2
    go_ret
    exact ⟨rfl, by rw [HD.out]; exact HT.out _ HF1.out⟩
  | true =>
    obtain ⟨hdl, hi⟩ := h.2.2.del_yes f d hb.symm
    have hsd := h.2.2.del f d
    generalize posL L f d = i at HV hdl hi
    obtain ⟨a, c, rfl⟩ := h.2.1.shape
    obtain ⟨g, rfl, hc1, hc2⟩ := h.2.1.some_of (by omega)
    have HDL := Lib.hid hdl
    have HSD := Lib.hid hsd
    have HNE := Lib.hid h.ne
    have HI := Lib.hid hi
    have HPG := Lib.hid (show p ≠ g from fun e => HNE.out (by rw [e]; rfl))
    have hw1 : IntKind.i64.wrap ((i : Int) + 1) = (i : Int) + 1 := by rw [IntKind.wrap_i64]; omega
    clear h hb hdl hsd hi hc1 hc2
    go_enter Try.func13, Try.ntmps13
    go_wp2_with fail
    refine HV.out.mono ?_
    rintro e w1 ⟨rfl, hf⟩
    have HF1 := Lib.hid (HF0.out.trans hf)
    have HS1 := Lib.hid (HS.out.keep hf)
    have hcell := HS1.out.cell
    clear hf
    go_wp2_with fail
    refine (delete_any B g c i L w1 HS1.out.2.1 HI.out).mono ?_
    rintro e w2 ⟨rfl, hO, hF⟩
    have HO2 := Lib.hid hO
    have HF2 := Lib.hid hF
    have hrow2 := hF.heap HS1.out.1 (by simpa using HPG.out)
    have hcell2 := cell_of_row w2 p 0 _ _ _ hrow2
    have hfz2 := frozen_of_row w2 p 0 _ _ hrow2
    have HR2 := Lib.hid hrow2
    clear hO hF hrow2 hcell
    go_wp2
    have hT : Turned w B p (.slice (some ⟨g, 0, none⟩) L.length c) (delL L f d) (w2.setCell ⟨p, 0, none⟩ (.slice (some ⟨g, 0, none⟩) (L.length - 1) c)) := by
      refine ⟨_, ⟨heap_setCell_same w2 p 0 _ _ (.slice (some ⟨g, 0, none⟩) (L.length - 1) c) HR2.out, HDL.out ▸ HO2.out.fr (Fr.setCell w2 p 0 _ (S := [p]) (by simp)) (by intro r hr; rw [List.mem_singleton.1 hr]; exact row_ne HO2.out HR2.out (by decide)), HSD.out⟩, ?_, fun r hr => .inl hr⟩
      exact ((HF1.out.mono (by simp)).trans (HF2.out.mono (fun r hr => .inl (by rw [List.mem_singleton.1 hr]; simp [sbs, Value.ownBlock])))).trans (Fr.setCell w2 p 0 _ (by simp [sbs]))
    have HT := Lib.hid hT
    clear hT
    go_ret
    exact ⟨rfl, HT.out⟩
/-- What Clone gives: another set, of memory of its own. -/
def CloQ (w : World) (L : List La) (u : Value) (w' : World) : Prop := ∃ q s, u = .pointer (some ⟨q, 0, none⟩) ∧ Ss w' w.heap.size q s L ∧ w.heap.size ≤ q ∧ Fr w w' []
theorem cloneS_any (B p : Nat) (s : Value) (L : List La) (w : World) (h : Ss w B p s L) (hl : L.length ≤ 100000) :
    Calls Try.prog 16 #[.pointer (some ⟨p, 0, none⟩)] w (Gives (CloQ w L)) := by
  have HV := Lib.hid (all_any B p s L w h (by omega))
  have HSD := Lib.hid h.2.2
  clear h
  go_enter Try.func16, Try.ntmps16
  go_wp2_with fail
  refine HV.out.mono ?_
  rintro e w1 ⟨u, rfl, hO, hF⟩
  obtain ⟨a, c, rfl⟩ := hO.shape
  have HQ : Hid (CloQ w L (.pointer (some ⟨w1.heap.size, 0, none⟩)) (w1.alloc (.cells #[.slice a L.length c] 29))) :=
    ⟨w1.heap.size, .slice a L.length c, rfl, ⟨heap_alloc_new _ _, hO.keep (Fr.alloc w1 _ []), HSD.out⟩, hF.size, hF.trans (Fr.alloc w1 _ [])⟩
  clear hO hF
  go_wp2
  go_ret
  exact gives HQ.out
end Go.Proofs.Ytfopmpaoigdelaa
