import Derived.Test.YtiflmkicnkbeaaaGreatDoorZp01
import Derived.Test.YtiflmkicnkbeaaaGreatDoorZp02
import Derived.Test.YtiflmkicnkbeaaaGreatDoorZp06
import Derived.Test.YtiflmkicnkbeaaaGreatDoorZp09
import Derived.Test.YtiflmkicnkbeaaaGreatDoorZp14
import Derived.Test.YtiflmkicnkbeaaaGreatDoorZp15
import Derived.Test.YtiflmkicnkbeaaaGreatDoorZp16
import Derived.Test.YtiflmkicnkbeaaaGreatDoorZp18
namespace Go.Proofs.YtiflmkicnkbeaaaGreatDoor
open Go.RowKit Fm
abbrev caseV (n : Nd) (va vm : Value) : Value := .agg #[.int .i64 n.id, .int .i64 n.h.c, .bool n.ou, .bool (!decide (n.ga.c = 0)), va, vm, .int .i64 n.si, .int .i64 n.ag]
def Cased (m : Mm) (n : Nd) (w : World) (u : Value) (w' : World) : Prop := ∃ va, u = caseV n va m.vm ∧ OwnI w' w.heap.size va (alV n.pe 16) ∧ Fr w w' []
set_option maxHeartbeats 4000000 in
set_option maxRecDepth 100000 in
theorem ncase_any (m : Mm) (n : Nd) (w : World) (h : NdR w m n) (hg : Gt w m.gp n.ga) (hv : ∃ a k c, m.vm = .slice a k c) :
 Calls Tryz.prog 131 #[.pointer (some ⟨m.p, 0, none⟩)] w (Gives (Cased m n w)) := by
 obtain ⟨p, sp, gp, q, g, rp, vm, vc, vp⟩ := m
 dsimp only at hv
 obtain ⟨ma, mk, mc, rfl⟩ := hv
 have HR := Lib.hid h
 have hlt : p < w.heap.size := h.lt
 have EP := Lib.hid (fun W (hW : Fr w W []) => nepoch_any ⟨p, sp, gp, q, g, rp, .slice ma mk mc, vc, vp⟩ n W (h.keep hW) (hg.keep hW))
 have NO := Lib.hid (fun W => none_any n.ga.c n.ga.f W)
 have AL := Lib.hid (fun W (hW : Fr w W []) => nalive_any ⟨p, sp, gp, q, g, rp, .slice ma mk mc, vc, vp⟩ n W (h.keep hW))
 have FA := Lib.hid (Fr.alloc w (.cells #[.int .i64 0, .int .i64 0, .bool false, .bool false, .slice none 0 0, .slice none 0 0, .int .i64 0, .int .i64 0] 223) [])
 have HB := Lib.hid (heap_alloc_new w (.cells #[.int .i64 0, .int .i64 0, .bool false, .bool false, .slice none 0 0, .slice none 0 0, .int .i64 0, .int .i64 0] 223))
 have HEND : Hid (∀ b va W, w.heap.size ≤ b → OwnI W w.heap.size va (alV n.pe 16) → Fr w W [] → W.heap[b]? = some (.cells #[.int .i64 0, .int .i64 0, .bool false, .bool false, .slice none 0 0, .slice none 0 0, .int .i64 0, .int .i64 0] 223 (0, 0)) → ∀ W', Fr W W' [b] → Cased ⟨p, sp, gp, q, g, rp, .slice ma mk mc, vc, vp⟩ n w (caseV n va (.slice ma mk mc)) W') := Lib.hid (fun b va W hb ho hf hz W' k => ⟨va, rfl, ho.far k hz (by decide), hf.new k (by intro r hr; obtain rfl := List.mem_singleton.1 hr; exact hb)⟩)
 clear h hg
 go_enter Tryz.func131, Tryz.ntmps131
 go_wp2
 generalize w.alloc _ = V at FA HB ⊢
 obtain ⟨b, hb⟩ : ∃ b, b = w.heap.size := ⟨_, rfl⟩
 rw [← hb] at HB ⊢
 have HBB := Lib.hid (Nat.le_of_eq hb.symm)
 clear hb
 have HS := Lib.hid (NX.of HR.out (FA.out.trans (Fr.drew V []))).2
 have W0 := Lib.hid (Fr.drew V [])
 refine wp_region_noPanic ?_
 refine wp_region_heldL (S := NS ⟨p, sp, gp, q, g, rp, .slice ma mk mc, vc, vp⟩ n) 32 (by kernel_rfl) HS.out (fun hHeld => ?_)
 refine wpHL_take (j := 32) (by decide) (by kernel_rfl) (i := 0) (v := ?fv0h1n2) (by simp only [List.getElem?_toArray, List.getElem?_cons_zero]; rfl) (by kernel_rfl) (by kernel_rfl) (by kernel_rfl) (fun _ _ _ h => h) (Or.inl ⟨by rfl, ?fy0h1n2⟩) (by assumption) ?fr0h1n2
 case fy0h1n2 => (intro w hSw; (try dsimp only [NS] at hSw); go_simp; try with_reducible rfl)
 try simp only [Act.put, List.setIfInBounds_toArray, List.set_cons_zero, List.set_cons_succ]
 refine wpHL_take (j := 32) (by decide) (by kernel_rfl) (i := 1) (v := ?fv1h1n2) (by simp only [List.getElem?_toArray, List.getElem?_cons_zero, List.getElem?_cons_succ]; rfl) (by kernel_rfl) (by kernel_rfl) (by kernel_rfl) (fun _ _ _ h => h) (Or.inl ⟨by rfl, ?fy1h1n2⟩) (by assumption) ?fr1h1n2
 case fy1h1n2 => (intro w hSw; (try dsimp only [NS] at hSw); go_simp; try with_reducible rfl)
 try simp only [Act.put, List.setIfInBounds_toArray, List.set_cons_zero, List.set_cons_succ]
 refine wpHL_take (j := 32) (by decide) (by kernel_rfl) (i := 2) (v := ?fv2h1n2) (by simp only [List.getElem?_toArray, List.getElem?_cons_zero, List.getElem?_cons_succ]; rfl) (by kernel_rfl) (by kernel_rfl) (by kernel_rfl) (fun _ _ _ h => h) (Or.inl ⟨by rfl, ?fy2h1n2⟩) (by assumption) ?fr2h1n2
 case fy2h1n2 => (intro w hSw; (try dsimp only [NS] at hSw); go_simp; try with_reducible rfl)
 try simp only [Act.put, List.setIfInBounds_toArray, List.set_cons_zero, List.set_cons_succ]
 refine wpHL_take (j := 32) (by decide) (by kernel_rfl) (i := 3) (v := ?fv3h1n2) (by simp only [List.getElem?_toArray, List.getElem?_cons_zero, List.getElem?_cons_succ]; rfl) (by kernel_rfl) (by kernel_rfl) (by kernel_rfl) (fun _ _ _ h => h) (Or.inl ⟨by rfl, ?fy3h1n2⟩) (by assumption) ?fr3h1n2
 case fy3h1n2 => (intro w hSw; (try dsimp only [NS] at hSw); go_simp; try with_reducible rfl)
 try simp only [Act.put, List.setIfInBounds_toArray, List.set_cons_zero, List.set_cons_succ]
 refine wpHL_take (j := 32) (by decide) (by kernel_rfl) (i := 4) (v := ?fv4h1n2) (by simp only [List.getElem?_toArray, List.getElem?_cons_zero, List.getElem?_cons_succ]; rfl) (by kernel_rfl) (by kernel_rfl) (by kernel_rfl) (fun _ _ _ h => h) (Or.inl ⟨by rfl, ?fy4h1n2⟩) (by assumption) ?fr4h1n2
 case fy4h1n2 => (intro w hSw; (try dsimp only [NS] at hSw); go_simp; try with_reducible rfl)
 try simp only [Act.put, List.setIfInBounds_toArray, List.set_cons_zero, List.set_cons_succ]
 refine wpHL_take (j := 32) (by decide) (by kernel_rfl) (i := 5) (v := ?fv5h1n2) (by simp only [List.getElem?_toArray, List.getElem?_cons_zero, List.getElem?_cons_succ]; rfl) (by kernel_rfl) (by kernel_rfl) (by kernel_rfl) (fun _ _ _ h => h) (Or.inl ⟨by rfl, ?fy5h1n2⟩) (by assumption) ?fr5h1n2
 case fy5h1n2 => (intro w hSw; (try dsimp only [NS] at hSw); go_simp; try with_reducible rfl)
 try simp only [Act.put, List.setIfInBounds_toArray, List.set_cons_zero, List.set_cons_succ]
 refine wpHL_take (j := 32) (by decide) (by kernel_rfl) (i := 6) (v := ?fv6h1n2) (by simp only [List.getElem?_toArray, List.getElem?_cons_zero, List.getElem?_cons_succ]; rfl) (by kernel_rfl) (by kernel_rfl) (by kernel_rfl) (fun _ _ _ h => h) (Or.inl ⟨by rfl, ?fy6h1n2⟩) (by assumption) ?fr6h1n2
 case fy6h1n2 => (intro w hSw; (try dsimp only [NS] at hSw); go_simp; try with_reducible rfl)
 try simp only [Act.put, List.setIfInBounds_toArray, List.set_cons_zero, List.set_cons_succ]
 refine wpHL_take (j := 32) (by decide) (by kernel_rfl) (i := 7) (v := ?fv7h1n2) (by simp only [List.getElem?_toArray, List.getElem?_cons_zero, List.getElem?_cons_succ]; rfl) (by kernel_rfl) (by kernel_rfl) (by kernel_rfl) (fun _ _ _ h => h) (Or.inl ⟨by rfl, ?fy7h1n2⟩) (by assumption) ?fr7h1n2
 case fy7h1n2 => (intro w hSw; (try dsimp only [NS] at hSw); go_simp; try with_reducible rfl)
 try simp only [Act.put, List.setIfInBounds_toArray, List.set_cons_zero, List.set_cons_succ]
 refine wpHL_take (j := 32) (by decide) (by kernel_rfl) (i := 8) (v := ?fv8h1n2) (by simp only [List.getElem?_toArray, List.getElem?_cons_zero, List.getElem?_cons_succ]; rfl) (by kernel_rfl) (by kernel_rfl) (by kernel_rfl) (fun _ _ _ h => h) (Or.inl ⟨by rfl, ?fy8h1n2⟩) (by assumption) ?fr8h1n2
 case fy8h1n2 => (intro w hSw; (try dsimp only [NS] at hSw); go_simp; try with_reducible rfl)
 try simp only [Act.put, List.setIfInBounds_toArray, List.set_cons_zero, List.set_cons_succ]
 refine wpHL_take (j := 32) (by decide) (by kernel_rfl) (i := 9) (v := ?fv9h1n2) (by simp only [List.getElem?_toArray, List.getElem?_cons_zero, List.getElem?_cons_succ]; rfl) (by kernel_rfl) (by kernel_rfl) (by kernel_rfl) (fun _ _ _ h => h) (Or.inl ⟨by rfl, ?fy9h1n2⟩) (by assumption) ?fr9h1n2
 case fy9h1n2 => (intro w hSw; (try dsimp only [NS] at hSw); go_simp; try with_reducible rfl)
 try simp only [Act.put, List.setIfInBounds_toArray, List.set_cons_zero, List.set_cons_succ]
 refine wpHL_take (j := 32) (by decide) (by kernel_rfl) (i := 10) (v := ?fv10h1n2) (by simp only [List.getElem?_toArray, List.getElem?_cons_zero, List.getElem?_cons_succ]; rfl) (by kernel_rfl) (by kernel_rfl) (by kernel_rfl) (fun _ _ _ h => h) (Or.inl ⟨by rfl, ?fy10h1n2⟩) (by assumption) ?fr10h1n2
 case fy10h1n2 => (intro w hSw; (try dsimp only [NS] at hSw); go_simp; try with_reducible rfl)
 try simp only [Act.put, List.setIfInBounds_toArray, List.set_cons_zero, List.set_cons_succ]
 refine wpHL_take (j := 32) (by decide) (by kernel_rfl) (i := 11) (v := ?fv11h1n2) (by simp only [List.getElem?_toArray, List.getElem?_cons_zero, List.getElem?_cons_succ]; rfl) (by kernel_rfl) (by kernel_rfl) (by kernel_rfl) (fun _ _ _ h => h) (Or.inl ⟨by rfl, ?fy11h1n2⟩) (by assumption) ?fr11h1n2
 case fy11h1n2 => (intro w hSw; (try dsimp only [NS] at hSw); go_simp; try with_reducible rfl)
 try simp only [Act.put, List.setIfInBounds_toArray, List.set_cons_zero, List.set_cons_succ]
 refine wpHL_take (j := 32) (by decide) (by kernel_rfl) (i := 12) (v := ?fv12h1n2) (by simp only [List.getElem?_toArray, List.getElem?_cons_zero, List.getElem?_cons_succ]; rfl) (by kernel_rfl) (by kernel_rfl) (by kernel_rfl) (fun _ _ _ h => h) (Or.inl ⟨by rfl, ?fy12h1n2⟩) (by assumption) ?fr12h1n2
 case fy12h1n2 => (intro w hSw; (try dsimp only [NS] at hSw); go_simp; try with_reducible rfl)
 try simp only [Act.put, List.setIfInBounds_toArray, List.set_cons_zero, List.set_cons_succ]
 refine wpHL_take (j := 32) (by decide) (by kernel_rfl) (i := 13) (v := ?fv13h1n2) (by simp only [List.getElem?_toArray, List.getElem?_cons_zero, List.getElem?_cons_succ]; rfl) (by kernel_rfl) (by kernel_rfl) (by kernel_rfl) (fun _ _ _ h => h) (Or.inl ⟨by rfl, ?fy13h1n2⟩) (by assumption) ?fr13h1n2
 case fy13h1n2 => (intro w hSw; (try dsimp only [NS] at hSw); go_simp; try with_reducible rfl)
 try simp only [Act.put, List.setIfInBounds_toArray, List.set_cons_zero, List.set_cons_succ]
 refine wpHL_take (j := 32) (by decide) (by kernel_rfl) (i := 17) (v := ?fv17h1n2) (by simp only [List.getElem?_toArray, List.getElem?_cons_zero, List.getElem?_cons_succ]; rfl) (by kernel_rfl) (by kernel_rfl) (by kernel_rfl) (fun _ _ _ h => h) (Or.inl ⟨by rfl, ?fy17h1n2⟩) (by assumption) ?fr17h1n2
 case fy17h1n2 => (intro w hSw; (try dsimp only [NS] at hSw); go_simp; try with_reducible rfl)
 try simp only [Act.put, List.setIfInBounds_toArray, List.set_cons_zero, List.set_cons_succ]
 refine wpHL_take (j := 32) (by decide) (by kernel_rfl) (i := 19) (v := ?fv19h1n2) (by simp only [List.getElem?_toArray, List.getElem?_cons_zero, List.getElem?_cons_succ]; rfl) (by kernel_rfl) (by kernel_rfl) (by kernel_rfl) (fun _ _ _ h => h) (Or.inl ⟨by rfl, ?fy19h1n2⟩) (by assumption) ?fr19h1n2
 case fy19h1n2 => (intro w hSw; (try dsimp only [NS] at hSw); go_simp; try with_reducible rfl)
 try simp only [Act.put, List.setIfInBounds_toArray, List.set_cons_zero, List.set_cons_succ]
 refine wpHL_take (j := 32) (by decide) (by kernel_rfl) (i := 20) (v := ?fv20h1n2) (by simp only [List.getElem?_toArray, List.getElem?_cons_zero, List.getElem?_cons_succ]; rfl) (by kernel_rfl) (by kernel_rfl) (by kernel_rfl) (fun _ _ _ h => h) (Or.inl ⟨by rfl, ?fy20h1n2⟩) (by assumption) ?fr20h1n2
 case fy20h1n2 => (intro w hSw; (try dsimp only [NS] at hSw); go_simp; try with_reducible rfl)
 try simp only [Act.put, List.setIfInBounds_toArray, List.set_cons_zero, List.set_cons_succ]
 refine wpHL_take (j := 32) (by decide) (by kernel_rfl) (i := 21) (v := ?fv21h1n2) (by simp only [List.getElem?_toArray, List.getElem?_cons_zero, List.getElem?_cons_succ]; rfl) (by kernel_rfl) (by kernel_rfl) (by kernel_rfl) (fun _ _ _ h => h) (Or.inl ⟨by rfl, ?fy21h1n2⟩) (by assumption) ?fr21h1n2
 case fy21h1n2 => (intro w hSw; (try dsimp only [NS] at hSw); go_simp; try with_reducible rfl)
 try simp only [Act.put, List.setIfInBounds_toArray, List.set_cons_zero, List.set_cons_succ]
 refine wpHL_take (j := 32) (by decide) (by kernel_rfl) (i := 22) (v := ?fv22h1n2) (by simp only [List.getElem?_toArray, List.getElem?_cons_zero, List.getElem?_cons_succ]; rfl) (by kernel_rfl) (by kernel_rfl) (by kernel_rfl) (fun _ _ _ h => h) (Or.inl ⟨by rfl, ?fy22h1n2⟩) (by assumption) ?fr22h1n2
 case fy22h1n2 => (intro w hSw; (try dsimp only [NS] at hSw); go_simp; try with_reducible rfl)
 try simp only [Act.put, List.setIfInBounds_toArray, List.set_cons_zero, List.set_cons_succ]
 refine wpHL_take (j := 32) (by decide) (by kernel_rfl) (i := 23) (v := ?fv23h1n2) (by simp only [List.getElem?_toArray, List.getElem?_cons_zero, List.getElem?_cons_succ]; rfl) (by kernel_rfl) (by kernel_rfl) (by kernel_rfl) (fun _ _ _ h => h) (Or.inl ⟨by rfl, ?fy23h1n2⟩) (by assumption) ?fr23h1n2
 case fy23h1n2 => (intro w hSw; (try dsimp only [NS] at hSw); go_simp; try with_reducible rfl)
 try simp only [Act.put, List.setIfInBounds_toArray, List.set_cons_zero, List.set_cons_succ]
 refine wpHL_take (j := 32) (by decide) (by kernel_rfl) (i := 24) (v := ?fv24h1n2) (by simp only [List.getElem?_toArray, List.getElem?_cons_zero, List.getElem?_cons_succ]; rfl) (by kernel_rfl) (by kernel_rfl) (by kernel_rfl) (fun _ _ _ h => h) (Or.inl ⟨by rfl, ?fy24h1n2⟩) (by assumption) ?fr24h1n2
 case fy24h1n2 => (intro w hSw; (try dsimp only [NS] at hSw); go_simp; try with_reducible rfl)
 try simp only [Act.put, List.setIfInBounds_toArray, List.set_cons_zero, List.set_cons_succ]
 refine wpHL_take (j := 32) (by decide) (by kernel_rfl) (i := 25) (v := ?fv25h1n2) (by simp only [List.getElem?_toArray, List.getElem?_cons_zero, List.getElem?_cons_succ]; rfl) (by kernel_rfl) (by kernel_rfl) (by kernel_rfl) (fun _ _ _ h => h) (Or.inl ⟨by rfl, ?fy25h1n2⟩) (by assumption) ?fr25h1n2
 case fy25h1n2 => (intro w hSw; (try dsimp only [NS] at hSw); go_simp; try with_reducible rfl)
 try simp only [Act.put, List.setIfInBounds_toArray, List.set_cons_zero, List.set_cons_succ]
 refine wpHL_take (j := 32) (by decide) (by kernel_rfl) (i := 26) (v := ?fv26h1n2) (by simp only [List.getElem?_toArray, List.getElem?_cons_zero, List.getElem?_cons_succ]; rfl) (by kernel_rfl) (by kernel_rfl) (by kernel_rfl) (fun _ _ _ h => h) (Or.inl ⟨by rfl, ?fy26h1n2⟩) (by assumption) ?fr26h1n2
 case fy26h1n2 => (intro w hSw; (try dsimp only [NS] at hSw); go_simp; try with_reducible rfl)
 try simp only [Act.put, List.setIfInBounds_toArray, List.set_cons_zero, List.set_cons_succ]
 refine wpHL_take (j := 32) (by decide) (by kernel_rfl) (i := 27) (v := ?fv27h1n2) (by simp only [List.getElem?_toArray, List.getElem?_cons_zero, List.getElem?_cons_succ]; rfl) (by kernel_rfl) (by kernel_rfl) (by kernel_rfl) (fun _ _ _ h => h) (Or.inl ⟨by rfl, ?fy27h1n2⟩) (by assumption) ?fr27h1n2
 case fy27h1n2 => (intro w hSw; (try dsimp only [NS] at hSw); go_simp; try with_reducible rfl)
 try simp only [Act.put, List.setIfInBounds_toArray, List.set_cons_zero, List.set_cons_succ]
 refine wpHL_take (j := 32) (by decide) (by kernel_rfl) (i := 28) (v := ?fv28h1n2) (by simp only [List.getElem?_toArray, List.getElem?_cons_zero, List.getElem?_cons_succ]; rfl) (by kernel_rfl) (by kernel_rfl) (by kernel_rfl) (fun _ _ _ h => h) (Or.inl ⟨by rfl, ?fy28h1n2⟩) (by assumption) ?fr28h1n2
 case fy28h1n2 => (intro w hSw; (try dsimp only [NS] at hSw); go_simp; try with_reducible rfl)
 try simp only [Act.put, List.setIfInBounds_toArray, List.set_cons_zero, List.set_cons_succ]
 refine wpHL_take (j := 32) (by decide) (by kernel_rfl) (i := 29) (v := ?fv29h1n2) (by simp only [List.getElem?_toArray, List.getElem?_cons_zero, List.getElem?_cons_succ]; rfl) (by kernel_rfl) (by kernel_rfl) (by kernel_rfl) (fun _ _ _ h => h) (Or.inl ⟨by rfl, ?fy29h1n2⟩) (by assumption) ?fr29h1n2
 case fy29h1n2 => (intro w hSw; (try dsimp only [NS] at hSw); go_simp; try with_reducible rfl)
 try simp only [Act.put, List.setIfInBounds_toArray, List.set_cons_zero, List.set_cons_succ]
 refine wpHL_take (j := 32) (by decide) (by kernel_rfl) (i := 30) (v := ?fv30h1n2) (by simp only [List.getElem?_toArray, List.getElem?_cons_zero, List.getElem?_cons_succ]; rfl) (by kernel_rfl) (by kernel_rfl) (by kernel_rfl) (fun _ _ _ h => h) (Or.inl ⟨by rfl, ?fy30h1n2⟩) (by assumption) ?fr30h1n2
 case fy30h1n2 => (intro w hSw; (try dsimp only [NS] at hSw); go_simp; try with_reducible rfl)
 try simp only [Act.put, List.setIfInBounds_toArray, List.set_cons_zero, List.set_cons_succ]
 refine wpHL_ready (rs := [14]) (by kernel_rfl) (by simp) ?_
 refine AllReadyHL.cons (o := _) (by decide) (by simp only [List.getElem?_toArray, List.getElem?_cons_zero, List.getElem?_cons_succ]; rfl) (fun K hK => ?_) AllReadyHL.nil
 go_simp
 go_wp2_with fail
 with_reducible refine (EP.out _ (FA.out.trans W0.out)).mono ?_
 rintro e x1 ⟨rfl, hf⟩
 have W1 := Lib.hid (W0.out.trans hf)
 have hS2 := (NX.of HR.out (FA.out.trans W1.out)).2
 clear hf
 refine hK.out _ _ hS2 (fun hHeld => ?_)
 clear hK K hS2
 try simp only [Act.put, List.setIfInBounds_toArray, List.set_cons_zero, List.set_cons_succ]
 refine wpHL_ready (rs := [15]) (by kernel_rfl) (by simp) ?_
 refine AllReadyHL.cons (o := _) (by decide) (by simp only [List.getElem?_toArray, List.getElem?_cons_zero, List.getElem?_cons_succ]; rfl) (fun K hK => ?_) AllReadyHL.nil
 go_simp
 go_wp2_with fail
 with_reducible refine (NO.out _).mono ?_
 rintro e x2 ⟨rfl, hf⟩
 have W2 := Lib.hid (W1.out.trans hf)
 have hS2 := (NX.of HR.out (FA.out.trans W2.out)).2
 clear hf
 refine hK.out _ _ hS2 (fun hHeld => ?_)
 clear hK K hS2
 try simp only [Act.put, List.setIfInBounds_toArray, List.set_cons_zero, List.set_cons_succ]
 refine wpHL_take (j := 32) (by decide) (by kernel_rfl) (i := 16) (v := ?fv16h1n3) (by simp only [List.getElem?_toArray, List.getElem?_cons_zero, List.getElem?_cons_succ]; rfl) (by kernel_rfl) (by kernel_rfl) (by kernel_rfl) (fun _ _ _ h => h) (Or.inl ⟨by rfl, ?fy16h1n3⟩) (by assumption) ?fr16h1n3
 case fy16h1n3 => (intro w hSw; (try dsimp only [NS] at hSw); go_simp; try with_reducible rfl)
 try simp only [Act.put, List.setIfInBounds_toArray, List.set_cons_zero, List.set_cons_succ]
 refine wpHL_ready (rs := [18]) (by kernel_rfl) (by simp) ?_
 refine AllReadyHL.cons (o := _) (by decide) (by simp only [List.getElem?_toArray, List.getElem?_cons_zero, List.getElem?_cons_succ]; rfl) (fun K hK => ?_) AllReadyHL.nil
 go_simp
 go_wp2_with fail
 with_reducible refine (AL.out _ (FA.out.trans W2.out)).mono ?_
 rintro e x3 ⟨va, rfl, hva, hf⟩; obtain ⟨ea, ek, ec, rfl⟩ : ∃ a k c, va = .slice a k c := by obtain ⟨a, c, e⟩ := row_shape hva; exact ⟨a, _, c, e⟩
 have W3 := Lib.hid (W2.out.trans hf)
 have HVA := Lib.hid (hva.mono (FA.out.trans W2.out).size)
 clear hva
 have hS2 := (NX.of HR.out (FA.out.trans W3.out)).2
 clear hf
 refine hK.out _ _ hS2 (fun hHeld => ?_)
 clear hK K hS2
 try simp only [Act.put, List.setIfInBounds_toArray, List.set_cons_zero, List.set_cons_succ]
 refine wpHL_take (j := 32) (by decide) (by kernel_rfl) (i := 31) (v := ?fv31h1n4) (by simp only [List.getElem?_toArray, List.getElem?_cons_zero, List.getElem?_cons_succ]; rfl) (by kernel_rfl) (by kernel_rfl) (by kernel_rfl) (fun _ _ _ h => h) (Or.inl ⟨by rfl, ?fy31h1n4⟩) (by assumption) ?fr31h1n4
 case fy31h1n4 => (intro w hSw; (try dsimp only [NS] at hSw); go_simp; try with_reducible rfl)
 try simp only [Act.put, List.setIfInBounds_toArray, List.set_cons_zero, List.set_cons_succ]
 have HZ := Lib.hid (W3.out.heap HB.out (by simp))
 have HFW := Lib.hid (FA.out.trans W3.out)
 obtain ⟨z0, z1, z2, z3, z4, z5, z6, z7⟩ := row8 HZ.out
 have f0 := frozen_of_row _ _ 0 _ _ HZ.out
 have f1 := frozen_of_row _ _ 1 _ _ HZ.out
 have f2 := frozen_of_row _ _ 2 _ _ HZ.out
 have f3 := frozen_of_row _ _ 3 _ _ HZ.out
 have f4 := frozen_of_row _ _ 4 _ _ HZ.out
 have f5 := frozen_of_row _ _ 5 _ _ HZ.out
 have f6 := frozen_of_row _ _ 6 _ _ HZ.out
 have f7 := frozen_of_row _ _ 7 _ _ HZ.out
 clear hHeld
 obtain ⟨e0, e1, e2, e3, e4, e5, e6, e7⟩ := row8 (set8 HZ.out (.int .i64 n.id) (.int .i64 n.h.c) (.bool n.ou) (.bool (!decide (n.ga.c = 0))) (.slice ea ek ec) (.slice ma mk mc) (.int .i64 n.si) (.int .i64 n.ag))
 refine wpHL_last (by kernel_rfl) (by kernel_rfl) (by simp only [List.getElem?_toArray, List.getElem?_cons_zero, List.getElem?_cons_succ]; rfl) ?_
 intro K hK
 go_simp
 refine hK.out _ _ ?_
 refine NoPanic.normal ?_
 go_wp2_with fail
 exact bodyPost_ret (v := caseV n (.slice ea ek ec) (.slice ma mk mc)) (by simp [results, Tryz.results131, go_sem, e0, e1, e2, e3, e4, e5, e6, e7]) rfl (gives (HEND.out b _ _ HBB.out HVA.out HFW.out HZ.out _ (set8_fr _ _ _ _ _ _ _ _ _ _)))
theorem NX.lasts {W : World} {m : Mm} {n : Nd} (h : NdR W m n) : Lasts (NX W m n) := fun _ _ q f => q.fr h f
theorem nfound_no (m : Mm) (n : Nd) (w : World) (h : NdR w m n) (hs : Sr w m.sp m.q n.R) (hg : Gt w m.gp n.ga) (hms : HInts w m.vm n.ms) (hml : n.ms.length ≤ 1000) (hg1 : -9223372036854775808 ≤ n.grt ∧ n.grt ≤ 9223372036854775807) (hsi : -9223372036854775808 ≤ n.si ∧ n.si ≤ 9223372036854775807) (hag : -9223372036854775808 ≤ n.ag ∧ n.ag ≤ 9223372036854775807) (hno : ¬ (n.founds = true ∧ n.mayNext = true)) :
 Calls Tryz.prog 61 #[.pointer (some ⟨m.p, 0, none⟩), .pointer (some ⟨m.rp, 0, none⟩)] w fun e w' => e = .returned (.tuple #[.slice none 0 0, .slice none 0 0]) ∧ Fr w w' [] := by
 obtain ⟨p, sp, gp, q, g, rp, vm, vc, vp⟩ := m
 dsimp only at hs hg hms ⊢
 obtain ⟨ma, mk, mc, rfl⟩ := ints_sh hms
 obtain ⟨x, y, ok, hN⟩ := next_is n.grt n.id
 have hok : ok = n.mayNext := by
  unfold EpNext at hN
  unfold Nd.mayNext
  rcases hN with ⟨a, b, c, d, _, _, rfl⟩ | ⟨a, _, _, rfl⟩
  · exact (decide_eq_true ⟨a, b, c, d⟩).symm
  · exact (decide_eq_false a).symm
 have HNO : Hid (ok = true → n.founds = false) := Lib.hid (fun q => by
  cases g : n.founds with
  | false => rfl
  | true => exact absurd ⟨g, by rw [← hok]; exact q⟩ hno)
 have HR := Lib.hid h
 have hlt : p < w.heap.size := h.lt
 have CA := Lib.hid (ncase_any ⟨p, sp, gp, q, g, rp, .slice ma mk mc, vc, vp⟩ n w h hg ⟨_, _, _, rfl⟩)
 have SN0 := Lib.hid (fun W (hW : Fr w W []) => nseen_any ⟨p, sp, gp, q, g, rp, .slice ma mk mc, vc, vp⟩ n W (h.keep hW) (hs.fr hW (by simp)) (hg.keep hW))
 have NE := Lib.hid (fun W => epnext_any n.grt n.id x y ok W hN hg1.1 hg1.2)
 have SH := Lib.hid (fun W (hW : Fr w W []) va (hva : HIf W va (alV n.pe 16)) => should_any n.id n.h.c n.ou (!decide (n.ga.c = 0)) va (.slice ma mk mc) n.si n.ag (alV n.pe 16) n.ms W hva (by have := alV_len n.pe 16; omega) (hms.keep hW) hsi hag n.founds rfl)
 clear h hs hg hms hml hg1 hsi hag hno hok hN
 go_enter Tryz.func61, Tryz.ntmps61
 go_wp2_with fail
 with_reducible refine (CA.out).mono ?_
 rintro e w1 ⟨u, rfl, va, rfl, hva, hf⟩
 obtain ⟨ea, ek, ec, rfl⟩ : ∃ a k c, va = .slice a k c := by obtain ⟨a, c, e⟩ := row_shape hva; exact ⟨a, _, c, e⟩
 have HF1 := Lib.hid hf
 have HVA := Lib.hid hva
 clear hva hf CA
 have HB8 := Lib.hid (heap_alloc_new w1 (.cells #[.int .i64 n.id, .int .i64 n.h.c, .bool n.ou, .bool (!decide (n.ga.c = 0)), .slice ea ek ec, .slice ma mk mc, .int .i64 n.si, .int .i64 n.ag] 223))
 have HFA := Lib.hid (Fr.alloc w1 (.cells #[.int .i64 n.id, .int .i64 n.h.c, .bool n.ou, .bool (!decide (n.ga.c = 0)), .slice ea ek ec, .slice ma mk mc, .int .i64 n.si, .int .i64 n.ag] 223) [])
 go_upto_region 2 with fail
 generalize w1.alloc _ = V at HB8 HFA ⊢
 have HF2 := Lib.hid (HF1.out.trans HFA.out)
 have HVB := Lib.hid (HVA.out.keep HFA.out)
 clear HVA HF1 HFA
 have HRV := Lib.hid (HR.out.keep HF2.out)
 have SN := Lib.hid (fun W (hW : Fr V W []) => SN0.out W (HF2.out.trans hW))
 refine wp_region_noPanic ?_
 refine wp_region_mix (M := NX V ⟨p, sp, gp, q, g, rp, .slice ma mk mc, vc, vp⟩ n) (fun i => match i with | 10 => some (ptrTo, .cells #[.int .i64 0, .int .i64 0] 35) | _ => none) [9] V.heap.size 11 (by kernel_rfl) (by kernel_rfl) (by kernel_rfl) (NX.lasts HRV.out) (fun w q => q.1.size) (NX.of HRV.out (Fr.drew _ [])) ?_
 refine wpMixU_take (i := 0) (v := ?mv5) (by decide) (by kernel_rfl) (by simp only [List.getElem?_toArray, List.getElem?_cons_zero]; rfl) (by rfl) (by kernel_rfl) (by kernel_rfl) (by kernel_rfl) (by rfl) ?my5 ?mr5
 case my5 => (intro M' hst him w hM; have hSw := him w hM; (try dsimp only [NX, NS] at hSw); go_simp; refine Came.value ?_ hM; with_reducible rfl)
 try simp only [Act.put, List.setIfInBounds_toArray, List.set_cons_zero, List.set_cons_succ]
 refine wpMixU_take (i := 1) (v := ?mv6) (by decide) (by kernel_rfl) (by simp only [List.getElem?_toArray, List.getElem?_cons_zero, List.getElem?_cons_succ]; rfl) (by rfl) (by kernel_rfl) (by kernel_rfl) (by kernel_rfl) (by rfl) ?my6 ?mr6
 case my6 => (intro M' hst him w hM; have hSw := him w hM; (try dsimp only [NX, NS] at hSw); go_simp; exact Came.call ((SN.out w hSw.1).mono fun e w' ⟨he, hf⟩ => ⟨he, hst _ _ hM hf⟩) (by with_reducible rfl))
 try simp only [Act.put, List.setIfInBounds_toArray, List.set_cons_zero, List.set_cons_succ]
 refine wpMixU_take (i := 2) (v := ?mv7) (by decide) (by kernel_rfl) (by simp only [List.getElem?_toArray, List.getElem?_cons_zero, List.getElem?_cons_succ]; rfl) (by rfl) (by kernel_rfl) (by kernel_rfl) (by kernel_rfl) (by rfl) ?my7 ?mr7
 case my7 => (intro M' hst him w hM; have hSw := him w hM; (try dsimp only [NX, NS] at hSw); go_simp; refine Came.value ?_ hM; with_reducible rfl)
 try simp only [Act.put, List.setIfInBounds_toArray, List.set_cons_zero, List.set_cons_succ]
 refine wpMixU_take (i := 3) (v := ?mv8) (by decide) (by kernel_rfl) (by simp only [List.getElem?_toArray, List.getElem?_cons_zero, List.getElem?_cons_succ]; rfl) (by rfl) (by kernel_rfl) (by kernel_rfl) (by kernel_rfl) (by rfl) ?my8 ?mr8
 case my8 => (intro M' hst him w hM; have hSw := him w hM; (try dsimp only [NX, NS] at hSw); go_simp; refine Came.value ?_ hM; with_reducible rfl)
 try simp only [Act.put, List.setIfInBounds_toArray, List.set_cons_zero, List.set_cons_succ]
 refine wpMixU_take (i := 4) (v := ?mv9) (by decide) (by kernel_rfl) (by simp only [List.getElem?_toArray, List.getElem?_cons_zero, List.getElem?_cons_succ]; rfl) (by rfl) (by kernel_rfl) (by kernel_rfl) (by kernel_rfl) (by rfl) ?my9 ?mr9
 case my9 => (intro M' hst him w hM; have hSw := him w hM; (try dsimp only [NX, NS] at hSw); go_simp; refine Came.value ?_ hM; with_reducible rfl)
 try simp only [Act.put, List.setIfInBounds_toArray, List.set_cons_zero, List.set_cons_succ]
 refine wpMixU_take (i := 5) (v := ?mv10) (by decide) (by kernel_rfl) (by simp only [List.getElem?_toArray, List.getElem?_cons_zero, List.getElem?_cons_succ]; rfl) (by rfl) (by kernel_rfl) (by kernel_rfl) (by kernel_rfl) (by rfl) ?my10 ?mr10
 case my10 => (intro M' hst him w hM; have hSw := him w hM; (try dsimp only [NX, NS] at hSw); go_simp; refine Came.value ?_ hM; with_reducible rfl)
 try simp only [Act.put, List.setIfInBounds_toArray, List.set_cons_zero, List.set_cons_succ]
 refine wpMixU_take (i := 6) (v := ?mv11) (by decide) (by kernel_rfl) (by simp only [List.getElem?_toArray, List.getElem?_cons_zero, List.getElem?_cons_succ]; rfl) (by rfl) (by kernel_rfl) (by kernel_rfl) (by kernel_rfl) (by rfl) ?my11 ?mr11
 case my11 => (intro M' hst him w hM; have hSw := him w hM; (try dsimp only [NX, NS] at hSw); go_simp; exact Came.call ((NE.out w).mono fun e w' ⟨he, hf⟩ => ⟨he, hst _ _ hM hf⟩) (by with_reducible rfl))
 try simp only [Act.put, List.setIfInBounds_toArray, List.set_cons_zero, List.set_cons_succ]
 refine wpMixU_take (i := 7) (v := ?mv12) (by decide) (by kernel_rfl) (by simp only [List.getElem?_toArray, List.getElem?_cons_zero, List.getElem?_cons_succ]; rfl) (by rfl) (by kernel_rfl) (by kernel_rfl) (by kernel_rfl) (by rfl) ?my12 ?mr12
 case my12 => (intro M' hst him w hM; have hSw := him w hM; (try dsimp only [NX, NS] at hSw); go_simp; refine Came.value ?_ hM; with_reducible rfl)
 try simp only [Act.put, List.setIfInBounds_toArray, List.set_cons_zero, List.set_cons_succ]
 refine wpMixU_take (i := 8) (v := ?mv13) (by decide) (by kernel_rfl) (by simp only [List.getElem?_toArray, List.getElem?_cons_zero, List.getElem?_cons_succ]; rfl) (by rfl) (by kernel_rfl) (by kernel_rfl) (by kernel_rfl) (by rfl) ?my13 ?mr13
 case my13 => (intro M' hst him w hM; have hSw := him w hM; (try dsimp only [NX, NS] at hSw); go_simp; refine Came.value ?_ hM; with_reducible rfl)
 try simp only [Act.put, List.setIfInBounds_toArray, List.set_cons_zero, List.set_cons_succ]
 refine wpMixU_pure (i := 9) (v := ?mv14) (by decide) (by kernel_rfl) (by simp only [List.getElem?_toArray, List.getElem?_cons_zero, List.getElem?_cons_succ]; rfl) (fun _ _ _ _ h => (h : False).elim) (by kernel_rfl) (by kernel_rfl) (by kernel_rfl) (by rfl) ?my14 ?mr14
 case my14 => (intro w; go_simp; try with_reducible rfl)
 try simp only [Act.put, List.setIfInBounds_toArray, List.set_cons_zero, List.set_cons_succ]
 refine wpMixU_new (i := 10) [10] (by decide) (by kernel_rfl) (by simp only [List.getElem?_toArray, List.getElem?_cons_zero, List.getElem?_cons_succ]; rfl) (by rfl) (by kernel_rfl) (by kernel_rfl) (by kernel_rfl) (by kernel_rfl) (by kernel_rfl) (by kernel_rfl) (by rfl) ?my15 ?mr15
 case my15 => (intro w; go_simp; first | done | rfl | exact ⟨rfl, rfl⟩)
 intro p10
 try simp only [ptrTo]
 try simp only [oneTo]
 try simp only [Act.put, List.setIfInBounds_toArray, List.set_cons_zero, List.set_cons_succ]
 refine wpMixU_tail (fun _ => True) (by kernel_rfl) (fun _ _ => trivial) ?_
 intro w5 hM
 refine zHU fun hU => ?_
 have HF5 := Lib.hid hM.1.1
 have HRW := Lib.hid hM.2.2
 have HPL := Lib.hid hM.2.1
 clear hM SN SN0 NE
 obtain ⟨q0, q1⟩ := brow HRW.out
 have y0 := frozen_of_row _ _ 0 _ _ HRW.out
 have y1 := frozen_of_row _ _ 1 _ _ HRW.out
 refine wpAnyH_ready (rs := [11]) (by kernel_rfl) (by simp) ?_
 refine AllReadyH.cons (o := _) rfl (fun K hK => ?_) AllReadyH.nil
 go_simp
 refine hK.out _ _ trivial (fun hHeld => ?_)
 clear hK K
 try simp only [Act.put, List.setIfInBounds_toArray, List.set_cons_zero, List.set_cons_succ]
 refine zH 12 ?_
 refine wpAnyH_done (by kernel_rfl) ?_ _
 refine NoPanic.normal ?_
 clear hHeld
 have HF6 := Lib.hid (HF5.out.new ((Fr.setCell w5 p10 0 (.int .i64 x) (S := [p10]) (by simp)).trans (Fr.setCell _ p10 1 (.int .i64 y) (by simp))) (by intro r hr; obtain rfl := List.mem_singleton.1 hr; exact HPL.out))
 clear q0 q1 y0 y1 HRW HF5
 generalize World.setCell (World.setCell w5 _ _) _ _ = w6 at HF6 ⊢
 have HF7 := Lib.hid (HF2.out.trans HF6.out)
 cases ok with
 | false =>
   clear HNO SH
   go_wp2
   go_ret2
   exact ⟨rfl, HF7.out⟩
 | true =>
   have hfo := HNO.out rfl
   have S6 := Lib.hid (SH.out w6 HF7.out (.slice ea ek ec) (HVB.out.keep HF6.out).hif)
   rw [hfo] at S6
   obtain ⟨z0, z1, z2, z3, z4, z5, z6, z7⟩ := row8 (HF6.out.heap HB8.out (by simp))
   clear HNO SH
   go_wp2_with fail
   with_reducible refine (S6.out).mono ?_
   rintro e w8 ⟨rfl, hf⟩
   have HF8 := Lib.hid (HF7.out.trans hf)
   clear hf S6 z0 z1 z2 z3 z4 z5 z6 z7
   go_wp2
   go_ret2
   exact ⟨rfl, HF8.out⟩
end Go.Proofs.YtiflmkicnkbeaaaGreatDoor
namespace Go.Proofs.YtiflmkicnkbeaaaGreatDoor
open Go.RowKit Fm
def DB2 (b t : Nat) (d : Dn) (rp : Nat) (a : World) : Prop := (a.cell? ⟨b, 0, none⟩ = some (.bool d.op) ∧ a.cell? ⟨b, 1, none⟩ = some (.bool d.cl) ∧ a.cell? ⟨b, 2, none⟩ = some (.int .i64 d.fl) ∧ a.cell? ⟨b, 3, none⟩ = some (.int .i64 d.la) ∧ a.cell? ⟨b, 4, none⟩ = some (.int .i64 d.mv) ∧ a.cell? ⟨b, 5, none⟩ = some (.int .u64 d.st.c) ∧ a.cell? ⟨b, 6, none⟩ = some (.int .u64 d.st.u) ∧ a.cell? ⟨b, 7, none⟩ = some (.int .u64 d.st.d)) ∧ a.cell? ⟨t, 0, none⟩ = some (.pointer (some ⟨rp, 0, none⟩))
theorem DB2.of {a : World} {b t rp : Nat} {d : Dn} (h : NB a b d) (k : a.cell? ⟨t, 0, none⟩ = some (.pointer (some ⟨rp, 0, none⟩))) : DB2 b t d rp a := ⟨row8 h, k⟩
def Rode (B : Nat) (m : Mm) (n : Nd) (x : Ca) (d : Dn) (w : World) (u : Value) (w' : World) : Prop :=
 OwnV w' w.heap.size u (tellL n.id d) ∧ ∃ m', Sm m m' ∧ NdR w' m' { n with car := x, cs := notP (fun z => hasB d.st.c z) n.cs } ∧ OwnI w' B m'.vp (notP (fun z => hasB d.st.c z) n.cs) ∧ OwnL w' B m'.vc [] ∧ Fr w w' (m.p :: (m.vp.ownBlock.toList ++ m.vc.ownBlock.toList))
set_option maxHeartbeats 4000000 in
set_option maxRecDepth 100000 in
theorem nride_none (B : Nat) (m : Mm) (n : Nd) (r : RS) (ob : Bool) (w : World) (h : NdR w m n) (hc : OwnI w B m.vp n.cs) (hl : OwnL w B m.vc []) (h0 : n.cl = []) (hri : Rs w m.rp r) (hrn : r.n ≤ 64) (hT : Tz w) (hck : n.car.k ≤ 9223372036854775807) (hn : n.cs.length ≤ 1000000) (hB : B ≤ w.heap.size) (hG : 13 < B) (hBp : B ≤ m.p) (x : Ca) (d : Dn) (hx : n.car.tick n.h (ofS n.cs []) ob = (x, d)) :
 Calls Tryz.prog 57 #[.pointer (some ⟨m.p, 0, none⟩), .pointer (some ⟨m.rp, 0, none⟩), .bool ob] w (Gives (Rode B m n x d w)) := by
 obtain ⟨p, sp, gp, q, g, rp, vm, vc, vp⟩ := m
 dsimp only at hc hl hri hBp ⊢
 have hlt : p < w.heap.size := h.lt
 have hok : d.st.ok := by
  have := tick_st_ok n.h n.car (ofS_ok n.cs []) ob
  rw [hx] at this; exact this
 have HOK := Lib.hid hok
 have HPV := Lib.hid (fun (e : some p = vp.ownBlock) => row_ne hc h.row.choose_spec (by decide) e.symm)
 have HPL := Lib.hid (fun (e : some p = vc.ownBlock) => row_ne hl h.row.choose_spec (by decide) e.symm)
 have HTN := Lib.hid (show ∀ r ∈ vc.ownBlock.toList, vp.ownBlock ≠ some r from fun r hr => by
  rcases hl.2 with ⟨rfl, _⟩ | ⟨g, cap, cur, rfl, _, hg, _⟩
  · simp [Value.ownBlock] at hr
  · simp [Value.ownBlock] at hr
    subst hr
    exact row_ne hc hg (by decide))
 have HCB := Lib.hid hc.block
 have HLB := Lib.hid hl.block
 have HGB := Lib.hid hG
 have HBP := Lib.hid hBp
 have HB0 := Lib.hid hB
 have HCN := Lib.hid hn
 have FA := Lib.hid (Fr.alloc w (.cells #[.pointer (some ⟨rp, 0, none⟩)] 25) [])
 have HBX := Lib.hid (heap_alloc_new w (.cells #[.pointer (some ⟨rp, 0, none⟩)] 25))
 have HR := Lib.hid (h.keep FA.out)
 have HC := Lib.hid (hc.keep FA.out)
 have HL := Lib.hid (hl.keep FA.out)
 have HRI := Lib.hid (hri.keep FA.out)
 have HT := Lib.hid (hT.fr FA.out)
 have HRL := Lib.hid (fun (e : some rp = vc.ownBlock) => row_ne hl (show w.heap[rp]? = some (.cells hri.choose 174 (0, 0)) from hri.choose_spec.1) (by decide) e.symm)
 have DL := Lib.hid (delL 122 cfR (.pointer (some ⟨w.heap.size, 0, none⟩)) vc [] (fun x => !r.isB x.f x.d x.g) B _ HL.out (by simp) (fun x W hW => nride1_any x w.heap.size rp r W (by
  have := hW.heap HBX.out (by intro hm; have := (hl.block _ (by simpa using hm)).2; omega)
  rw [cell_of_row _ _ _ _ _ _ this]; rfl) (HRI.out.fr hW (by intro hm; exact HRL.out (by simpa [eq_comm] using hm))) hrn))
 have TI := Lib.hid (fun W hT => ctick_any n.h n.car (ofS n.cs []) ob W (ofS_ok n.cs []) hT hck x d hx)
 clear h hc hl hri hT hok hG hB hn hrn hck hx hBp
 go_enter Tryz.func57, Tryz.ntmps57
 go_upto_region 1 with fail
 generalize w.alloc _ = V at FA HBX HR HC HL HRI HT DL ⊢
 obtain ⟨t4, ht4⟩ : ∃ t, t = w.heap.size := ⟨_, rfl⟩
 rw [← ht4] at HBX DL ⊢
 have HT4 := Lib.hid ht4
 have c80 : V.cell? ⟨p, 80, none⟩ = some vc := HR.out.ns.2.2.2.2.2.2.2.2.2.2.2.2.2.2.2.1
 clear ht4
 go_wp2_with fail
 with_reducible refine (DL.out).mono ?_
 rintro e w1 ⟨u, rfl, ho, hf, hub⟩
 obtain ⟨ua, un, uc, rfl⟩ : ∃ a k c, u = .slice a k c := by obtain ⟨a, c, e⟩ := row_shape ho; exact ⟨a, _, c, e⟩
 have HR1 := Lib.hid (HR.out.fr hf (by intro hm; exact HPL.out (by simpa [eq_comm] using hm)))
 have HUB := Lib.hid hub
 have hset : Fr w1 (w1.setCell ⟨p, 80, none⟩ (.slice ua un uc)) [p] := Fr.setCell w1 p 80 (.slice ua un uc) (by simp)
 have HR2 := Lib.hid (HR1.out.set (m' := ⟨p, sp, gp, q, g, rp, vm, (.slice ua un uc), vp⟩) (n' := n) 80 (by omega) (.slice ua un uc) rfl rfl rfl rfl)
 have HL2 : Hid (OwnL _ B (.slice ua un uc) []) := Lib.hid (ho.fr hset (fun r hr => by obtain rfl := List.mem_singleton.1 hr; rw [hub]; exact fun e => HPL.out e.symm))
 have HC2 := Lib.hid ((HC.out.fr hf (fun r hr => HTN.out r hr)).far hset HR1.out.row.choose_spec (by decide))
 have HF1 : Hid (Fr w w1 (p :: (vp.ownBlock.toList ++ vc.ownBlock.toList))) := Lib.hid (FA.out.comb hf (by simp) (fun x hx => .inl (by simp only [List.mem_cons, List.mem_append]; exact .inr (.inr hx))))
 have HF2 := Lib.hid (HF1.out.comb hset (fun x hx => .inl hx) (fun x hx => .inl (by rw [List.mem_singleton.1 hx]; simp)))
 have HBX1 := Lib.hid (hf.heap HBX.out (by intro hm; have := (HLB.out _ (by simpa using hm)).2; have := HT4.out; omega))
 have HBX2 := Lib.hid (hset.heap HBX1.out (by intro hm; have := List.mem_singleton.1 hm; have := HT4.out; omega))
 have HT2 := Lib.hid (show Tz (w1.setCell ⟨p, 80, none⟩ (.slice ua un uc)) from fun j hj => hset.cell (hf.cell (HT.out j hj) (by
  intro hm
  have := (HLB.out _ (by simpa using hm)).1
  have := HGB.out
  dsimp only at *
  omega)) (by intro hm; have := List.mem_singleton.1 hm; have := HGB.out; have := HBP.out; dsimp only at *; omega))
 have c80' : w1.cell? ⟨p, 80, none⟩ = some vc := HR1.out.ns.2.2.2.2.2.2.2.2.2.2.2.2.2.2.2.1
 have f80 := HR1.out.fz 80
 have STP := Lib.hid (fun W (hW : Fr (w1.setCell ⟨p, 80, none⟩ (.slice ua un uc)) W []) => nstops_any ⟨p, sp, gp, q, g, rp, vm, (.slice ua un uc), vp⟩ n W (HR2.out.keep hW) (HC2.out.keep hW).holds (by rw [h0]; exact (HL2.out.keep hW).holds))
 rw [show n.sp = ofS n.cs [] by unfold Nd.sp; rw [h0]] at STP
 clear ho hf hub hset HR HC HL HRI HT HBX HBX1 DL HR1 HF1 c80
 go_upto_region 2 with fail
 clear c80' f80
 generalize World.setCell w1 _ _ = w2 at HR2 HL2 HC2 HF2 HBX2 HT2 STP ⊢
 refine wp_region_noPanic ?_
 refine wp_region_mix (M := NX w2 ⟨p, sp, gp, q, g, rp, vm, (.slice ua un uc), vp⟩ n) (fun i => match i with | 15 => some (ptrTo, zCa.box) | 16 => some (ptrTo, zDn.box) | _ => none) [14] w2.heap.size 17 (by kernel_rfl) (by kernel_rfl) (by kernel_rfl) (NX.lasts HR2.out) (fun w q => q.1.size) (NX.of HR2.out (Fr.drew _ [])) ?_
 refine wpMixU_take (i := 0) (v := ?mv1) (by decide) (by kernel_rfl) (by simp only [List.getElem?_toArray, List.getElem?_cons_zero]; rfl) (by rfl) (by kernel_rfl) (by kernel_rfl) (by kernel_rfl) (by rfl) ?my1 ?mr1
 case my1 => (intro M' hst him w hM; have hSw := him w hM; (try dsimp only [NX, NS] at hSw); go_simp; refine Came.value ?_ hM; with_reducible rfl)
 try simp only [Act.put, List.setIfInBounds_toArray, List.set_cons_zero, List.set_cons_succ]
 refine wpMixU_take (i := 1) (v := ?mv2) (by decide) (by kernel_rfl) (by simp only [List.getElem?_toArray, List.getElem?_cons_zero, List.getElem?_cons_succ]; rfl) (by rfl) (by kernel_rfl) (by kernel_rfl) (by kernel_rfl) (by rfl) ?my2 ?mr2
 case my2 => (intro M' hst him w hM; have hSw := him w hM; (try dsimp only [NX, NS] at hSw); go_simp; refine Came.value ?_ hM; with_reducible rfl)
 try simp only [Act.put, List.setIfInBounds_toArray, List.set_cons_zero, List.set_cons_succ]
 refine wpMixU_take (i := 2) (v := ?mv3) (by decide) (by kernel_rfl) (by simp only [List.getElem?_toArray, List.getElem?_cons_zero, List.getElem?_cons_succ]; rfl) (by rfl) (by kernel_rfl) (by kernel_rfl) (by kernel_rfl) (by rfl) ?my3 ?mr3
 case my3 => (intro M' hst him w hM; have hSw := him w hM; (try dsimp only [NX, NS] at hSw); go_simp; refine Came.value ?_ hM; with_reducible rfl)
 try simp only [Act.put, List.setIfInBounds_toArray, List.set_cons_zero, List.set_cons_succ]
 refine wpMixU_take (i := 3) (v := ?mv4) (by decide) (by kernel_rfl) (by simp only [List.getElem?_toArray, List.getElem?_cons_zero, List.getElem?_cons_succ]; rfl) (by rfl) (by kernel_rfl) (by kernel_rfl) (by kernel_rfl) (by rfl) ?my4 ?mr4
 case my4 => (intro M' hst him w hM; have hSw := him w hM; (try dsimp only [NX, NS] at hSw); go_simp; refine Came.value ?_ hM; with_reducible rfl)
 try simp only [Act.put, List.setIfInBounds_toArray, List.set_cons_zero, List.set_cons_succ]
 refine wpMixU_take (i := 4) (v := ?mv5) (by decide) (by kernel_rfl) (by simp only [List.getElem?_toArray, List.getElem?_cons_zero, List.getElem?_cons_succ]; rfl) (by rfl) (by kernel_rfl) (by kernel_rfl) (by kernel_rfl) (by rfl) ?my5 ?mr5
 case my5 => (intro M' hst him w hM; have hSw := him w hM; (try dsimp only [NX, NS] at hSw); go_simp; refine Came.value ?_ hM; with_reducible rfl)
 try simp only [Act.put, List.setIfInBounds_toArray, List.set_cons_zero, List.set_cons_succ]
 refine wpMixU_take (i := 5) (v := ?mv6) (by decide) (by kernel_rfl) (by simp only [List.getElem?_toArray, List.getElem?_cons_zero, List.getElem?_cons_succ]; rfl) (by rfl) (by kernel_rfl) (by kernel_rfl) (by kernel_rfl) (by rfl) ?my6 ?mr6
 case my6 => (intro M' hst him w hM; have hSw := him w hM; (try dsimp only [NX, NS] at hSw); go_simp; refine Came.value ?_ hM; with_reducible rfl)
 try simp only [Act.put, List.setIfInBounds_toArray, List.set_cons_zero, List.set_cons_succ]
 refine wpMixU_take (i := 6) (v := ?mv7) (by decide) (by kernel_rfl) (by simp only [List.getElem?_toArray, List.getElem?_cons_zero, List.getElem?_cons_succ]; rfl) (by rfl) (by kernel_rfl) (by kernel_rfl) (by kernel_rfl) (by rfl) ?my7 ?mr7
 case my7 => (intro M' hst him w hM; have hSw := him w hM; (try dsimp only [NX, NS] at hSw); go_simp; refine Came.value ?_ hM; with_reducible rfl)
 try simp only [Act.put, List.setIfInBounds_toArray, List.set_cons_zero, List.set_cons_succ]
 refine wpMixU_take (i := 7) (v := ?mv8) (by decide) (by kernel_rfl) (by simp only [List.getElem?_toArray, List.getElem?_cons_zero, List.getElem?_cons_succ]; rfl) (by rfl) (by kernel_rfl) (by kernel_rfl) (by kernel_rfl) (by rfl) ?my8 ?mr8
 case my8 => (intro M' hst him w hM; have hSw := him w hM; (try dsimp only [NX, NS] at hSw); go_simp; refine Came.value ?_ hM; with_reducible rfl)
 try simp only [Act.put, List.setIfInBounds_toArray, List.set_cons_zero, List.set_cons_succ]
 refine wpMixU_take (i := 8) (v := ?mv9) (by decide) (by kernel_rfl) (by simp only [List.getElem?_toArray, List.getElem?_cons_zero, List.getElem?_cons_succ]; rfl) (by rfl) (by kernel_rfl) (by kernel_rfl) (by kernel_rfl) (by rfl) ?my9 ?mr9
 case my9 => (intro M' hst him w hM; have hSw := him w hM; (try dsimp only [NX, NS] at hSw); go_simp; refine Came.value ?_ hM; with_reducible rfl)
 try simp only [Act.put, List.setIfInBounds_toArray, List.set_cons_zero, List.set_cons_succ]
 refine wpMixU_take (i := 9) (v := ?mv10) (by decide) (by kernel_rfl) (by simp only [List.getElem?_toArray, List.getElem?_cons_zero, List.getElem?_cons_succ]; rfl) (by rfl) (by kernel_rfl) (by kernel_rfl) (by kernel_rfl) (by rfl) ?my10 ?mr10
 case my10 => (intro M' hst him w hM; have hSw := him w hM; (try dsimp only [NX, NS] at hSw); go_simp; exact Came.call ((STP.out w hSw.1).mono fun e w' ⟨he, hf⟩ => ⟨he, hst _ _ hM hf⟩) (by with_reducible rfl))
 try simp only [Act.put, List.setIfInBounds_toArray, List.set_cons_zero, List.set_cons_succ]
 refine wpMixU_take (i := 10) (v := ?mv11) (by decide) (by kernel_rfl) (by simp only [List.getElem?_toArray, List.getElem?_cons_zero, List.getElem?_cons_succ]; rfl) (by rfl) (by kernel_rfl) (by kernel_rfl) (by kernel_rfl) (by rfl) ?my11 ?mr11
 case my11 => (intro M' hst him w hM; have hSw := him w hM; (try dsimp only [NX, NS] at hSw); go_simp; refine Came.value ?_ hM; with_reducible rfl)
 try simp only [Act.put, List.setIfInBounds_toArray, List.set_cons_zero, List.set_cons_succ]
 refine wpMixU_take (i := 11) (v := ?mv12) (by decide) (by kernel_rfl) (by simp only [List.getElem?_toArray, List.getElem?_cons_zero, List.getElem?_cons_succ]; rfl) (by rfl) (by kernel_rfl) (by kernel_rfl) (by kernel_rfl) (by rfl) ?my12 ?mr12
 case my12 => (intro M' hst him w hM; have hSw := him w hM; (try dsimp only [NX, NS] at hSw); go_simp; exact Came.call ((TI.out w (HT2.out.fr hSw.1)).mono fun e w' ⟨he, hf⟩ => ⟨he, hst _ _ hM hf⟩) (by with_reducible rfl))
 try simp only [Act.put, List.setIfInBounds_toArray, List.set_cons_zero, List.set_cons_succ]
 refine wpMixU_take (i := 12) (v := ?mv13) (by decide) (by kernel_rfl) (by simp only [List.getElem?_toArray, List.getElem?_cons_zero, List.getElem?_cons_succ]; rfl) (by rfl) (by kernel_rfl) (by kernel_rfl) (by kernel_rfl) (by rfl) ?my13 ?mr13
 case my13 => (intro M' hst him w hM; have hSw := him w hM; (try dsimp only [NX, NS] at hSw); go_simp; refine Came.value ?_ hM; with_reducible rfl)
 try simp only [Act.put, List.setIfInBounds_toArray, List.set_cons_zero, List.set_cons_succ]
 refine wpMixU_take (i := 13) (v := ?mv14) (by decide) (by kernel_rfl) (by simp only [List.getElem?_toArray, List.getElem?_cons_zero, List.getElem?_cons_succ]; rfl) (by rfl) (by kernel_rfl) (by kernel_rfl) (by kernel_rfl) (by rfl) ?my14 ?mr14
 case my14 => (intro M' hst him w hM; have hSw := him w hM; (try dsimp only [NX, NS] at hSw); go_simp; refine Came.value ?_ hM; with_reducible rfl)
 try simp only [Act.put, List.setIfInBounds_toArray, List.set_cons_zero, List.set_cons_succ]
 refine wpMixU_pure (i := 14) (v := ?mv15) (by decide) (by kernel_rfl) (by simp only [List.getElem?_toArray, List.getElem?_cons_zero, List.getElem?_cons_succ]; rfl) (fun _ _ _ _ h => (h : False).elim) (by kernel_rfl) (by kernel_rfl) (by kernel_rfl) (by rfl) ?my15 ?mr15
 case my15 => (intro w; go_simp; try with_reducible rfl)
 try simp only [Act.put, List.setIfInBounds_toArray, List.set_cons_zero, List.set_cons_succ]
 refine wpMixU_new (i := 15) [15, 16] (by decide) (by kernel_rfl) (by simp only [List.getElem?_toArray, List.getElem?_cons_zero, List.getElem?_cons_succ]; rfl) (by rfl) (by kernel_rfl) (by kernel_rfl) (by kernel_rfl) (by kernel_rfl) (by kernel_rfl) (by kernel_rfl) (by rfl) ?my16 ?mr16
 case my16 => (intro w; go_simp; first | done | rfl | exact ⟨rfl, rfl⟩)
 intro p15
 try simp only [ptrTo]
 try simp only [oneTo]
 try simp only [Act.put, List.setIfInBounds_toArray, List.set_cons_zero, List.set_cons_succ]
 refine wpMixU_new (i := 16) [15, 16] (by decide) (by kernel_rfl) (by simp only [List.getElem?_toArray, List.getElem?_cons_zero, List.getElem?_cons_succ]; rfl) (by rfl) (by kernel_rfl) (by kernel_rfl) (by kernel_rfl) (by kernel_rfl) (by kernel_rfl) (by kernel_rfl) (by rfl) ?my17 ?mr17
 case my17 => (intro w; go_simp; first | done | rfl | exact ⟨rfl, rfl⟩)
 intro p16
 try simp only [ptrTo]
 try simp only [oneTo]
 try simp only [Act.put, List.setIfInBounds_toArray, List.set_cons_zero, List.set_cons_succ]
 refine wpMixU_tail (fun _ => True) (by kernel_rfl) (fun _ _ => trivial) ?_
 intro w5 hM
 refine zHU fun hU => ?_
 have P5 := Lib.hid (show PD w2 p15 p16 zCa zDn w5 from ⟨hM.1.1.1, hM.1.2.2, hM.2.2, hM.1.2.1, hM.2.1⟩)
 have P6 := Lib.hid (P5.out.car x)
 have P7 := Lib.hid (P6.out.deed d)
 obtain ⟨r0', r1, r2', r3', r4⟩ := P5.out.x.cells
 have y0 := P5.out.x.fz 0
 have y1 := P5.out.x.fz 1
 have y2 := P5.out.x.fz 2
 have y3 := P5.out.x.fz 3
 have y4 := P5.out.x.fz 4
 obtain ⟨n0, n1, n2, n3, n4, n5, n6, n7⟩ := P6.out.d.cells
 have m0 := P6.out.d.fz 0
 have m1 := P6.out.d.fz 1
 have m2 := P6.out.d.fz 2
 have m3 := P6.out.d.fz 3
 have m4 := P6.out.d.fz 4
 have m5 := P6.out.d.fz 5
 have m6 := P6.out.d.fz 6
 have m7 := P6.out.d.fz 7
 clear hM
 dsimp only [zCa, zDn, zSp, carSet] at P6 P7 r0' r1 r2' r3' r4 n0 n1 n2 n3 n4 n5 n6 n7 m0 m1 m2 m3 m4 m5 m6 m7
 clear P5
 simp only [show ((0 : Nat) : Int) = 0 from rfl] at n5 n6 n7
 refine wpAnyH_ready (rs := [17]) (by kernel_rfl) (by simp) ?_
 refine AllReadyH.cons (o := _) rfl (fun K hK => ?_) AllReadyH.nil
 go_simp
 refine hK.out _ _ trivial (fun hHeld => ?_)
 clear hK K
 try simp only [Act.put, List.setIfInBounds_toArray, List.set_cons_zero, List.set_cons_succ]
 generalize World.setCell (World.setCell (World.setCell (World.setCell (World.setCell w5 _ _) _ _) _ _) _ _) _ _ = w6 at P6 P7 n0 n1 n2 n3 n4 n5 n6 n7 m0 m1 m2 m3 m4 m5 m6 m7 ⊢
 clear r0' r1 r2' r3' r4 y0 y1 y2 y3 y4 P6
 refine wpAnyH_ready (rs := [18]) (by kernel_rfl) (by simp) ?_
 refine AllReadyH.cons (o := _) rfl (fun K hK => ?_) AllReadyH.nil
 go_simp
 refine hK.out _ _ trivial (fun hHeld => ?_)
 clear hK K
 try simp only [Act.put, List.setIfInBounds_toArray, List.set_cons_zero, List.set_cons_succ]
 refine wpAnyH_done (by kernel_rfl) ?_ _
 refine NoPanic.normal ?_
 clear hHeld
 dsimp only [dnSet] at P7
 generalize World.setCell (World.setCell (World.setCell (World.setCell (World.setCell (World.setCell (World.setCell (World.setCell w6 _ _) _ _) _ _) _ _) _ _) _ _) _ _) _ _ = w7 at P7 ⊢
 clear n0 n1 n2 n3 n4 n5 n6 n7 m0 m1 m2 m3 m4 m5 m6 m7 STP TI HT2
 have HR7 := Lib.hid (HR2.out.keep P7.out.f)
 obtain ⟨r0, r1, r2, r3, r4⟩ := P7.out.x.cells
 obtain ⟨_, _, _, _, _, _, k6, k7, k8, k9, k10, _⟩ := HR7.out.ns
 have f6 := HR7.out.fz 6
 have f7 := HR7.out.fz 7
 have f8 := HR7.out.fz 8
 have f9 := HR7.out.fz 9
 have f10 := HR7.out.fz 10
 dsimp only at r0 r1 r2 r3 r4 k6 k7 k8 k9 k10 f6 f7 f8 f9 f10
 have hs5 : Fr w7 (((((w7.setCell ⟨p, 6, none⟩ (.int .i64 x.x.p)).setCell ⟨p, 7, none⟩ (.int .i64 x.x.e)).setCell ⟨p, 8, none⟩ (.int .i64 x.x.o)).setCell ⟨p, 9, none⟩ (.bool x.x.r)).setCell ⟨p, 10, none⟩ (.int .i64 x.k)) [p] := ((((Fr.setCell w7 p 6 _ (by simp)).trans (Fr.setCell _ p 7 _ (by simp))).trans (Fr.setCell _ p 8 _ (by simp))).trans (Fr.setCell _ p 9 _ (by simp))).trans (Fr.setCell _ p 10 _ (by simp))
 have HR8 := Lib.hid (((((HR7.out.set (m' := ⟨p, sp, gp, q, g, rp, vm, (.slice ua un uc), vp⟩) (n' := { n with car := ⟨⟨x.x.p, n.car.x.e, n.car.x.o, n.car.x.r⟩, n.car.k⟩ }) 6 (by omega) (.int .i64 x.x.p) rfl rfl rfl rfl).set (m' := ⟨p, sp, gp, q, g, rp, vm, (.slice ua un uc), vp⟩) (n' := { n with car := ⟨⟨x.x.p, x.x.e, n.car.x.o, n.car.x.r⟩, n.car.k⟩ }) 7 (by omega) (.int .i64 x.x.e) rfl rfl rfl rfl).set (m' := ⟨p, sp, gp, q, g, rp, vm, (.slice ua un uc), vp⟩) (n' := { n with car := ⟨⟨x.x.p, x.x.e, x.x.o, n.car.x.r⟩, n.car.k⟩ }) 8 (by omega) (.int .i64 x.x.o) rfl rfl rfl rfl).set (m' := ⟨p, sp, gp, q, g, rp, vm, (.slice ua un uc), vp⟩) (n' := { n with car := ⟨⟨x.x.p, x.x.e, x.x.o, x.x.r⟩, n.car.k⟩ }) 9 (by omega) (.bool x.x.r) rfl rfl rfl rfl).set (m' := ⟨p, sp, gp, q, g, rp, vm, (.slice ua un uc), vp⟩) (n' := { n with car := x }) 10 (by omega) (.int .i64 x.k) rfl rfl rfl rfl)
 have HP8 := Lib.hid (Nat.le_trans HF2.out.size P7.out.n)
 have HD8 := Lib.hid (hs5.heap P7.out.d (by intro hm; have h1 := List.mem_singleton.1 hm; have h2 := HP8.out; omega))
 have HBX8 := Lib.hid (hs5.heap (P7.out.f.heap HBX2.out (by simp)) (by intro hm; have := List.mem_singleton.1 hm; have := HT4.out; omega))
 have HC8 := Lib.hid ((HC2.out.keep P7.out.f).far hs5 HR7.out.row.choose_spec (by decide))
 have HL8 : Hid (OwnL _ B (.slice ua un uc) []) := Lib.hid ((HL2.out.keep P7.out.f).fr hs5 (fun r hr => by obtain rfl := List.mem_singleton.1 hr; rw [HUB.out]; exact fun e => HPL.out e.symm))
 have HF8 := Lib.hid ((HF2.out.comb P7.out.f (fun x hx => .inl hx) (by simp)).comb hs5 (fun x hx => .inl hx) (fun x hx => .inl (by rw [List.mem_singleton.1 hx]; simp)))
 have HNE := Lib.hid (show ∀ r ∈ p :: (vp.ownBlock.toList ++ (Value.slice ua un uc).ownBlock.toList), r < w.heap.size from fun r hr => by
  rcases List.mem_cons.1 hr with rfl | hr
  · exact hlt
  · rcases List.mem_append.1 hr with hr | hr
    · exact (HCB.out _ (by simpa using hr)).2
    · rw [HUB.out] at hr; exact (HLB.out _ (by simpa using hr)).2)
 clear hs5 HR7 HC2 HL2 HF2 HBX2 HR2
 go_upto_region 4 with fail
 clear r0 r1 r2 r3 r4 k6 k7 k8 k9 k10 f6 f7 f8 f9 f10 P7
 generalize World.setCell (World.setCell (World.setCell (World.setCell (World.setCell w7 _ _) _ _) _ _) _ _) _ _ = w8 at HR8 HD8 HBX8 HC8 HL8 HF8 ⊢
 obtain ⟨p8, hp8⟩ : ∃ z, z = p16 := ⟨_, rfl⟩
 rw [← hp8] at HD8 HP8 ⊢
 clear hp8
 have HBC := Lib.hid (show w8.cell? ⟨t4, 0, none⟩ = some (.pointer (some ⟨rp, 0, none⟩)) by rw [cell_of_row _ _ _ _ _ _ HBX8.out]; rfl)
 have HB8 := Lib.hid (Nat.le_trans HB0.out HF8.out.size)
 have TL := Lib.hid (fun W m' n' (hW : NdR W m' n') (hp : m'.p = p) (hi : n'.id = n.id) => (show Calls Tryz.prog 126 #[.pointer (some ⟨p, 0, none⟩), d.v] W (Gives fun u w' => OwnV w' W.heap.size u (tellL n.id d) ∧ Fr W w' []) from by rw [← hp, ← hi]; exact ntell_any m' n' d W hW))
 have SV := Lib.hid (fun W (hW : Fr w8 W []) => nserve_none B ⟨p, sp, gp, q, g, rp, vm, (.slice ua un uc), vp⟩ { n with car := x } d W (HR8.out.keep hW) (HC8.out.keep hW) (HL8.out.keep hW) HOK.out HCN.out)
 have HS := Lib.hid (DB2.of (HD8.out : NB _ _ _) HBC.out)
 have HSD := Lib.hid (show DB2 p8 t4 d rp w8.drew from HS.out)
 have HDR := Lib.hid (Fr.drew w8 [])
 dsimp only [Dn.v] at TL SV
 refine wp_region_noPanic ?_
 refine wp_region_held_drew (S := DB2 p8 t4 d rp) (by kernel_rfl) HSD.out (fun hHeld => ?_)
 refine zHU fun hU => ?_
 try dsimp only [DB2] at hU
 refine zH 0 ?_
 refine zH 1 ?_
 refine zH 3 ?_
 refine zH 4 ?_
 refine zH 5 ?_
 refine wpAnyH_ready (rs := [2]) (by kernel_rfl) (by simp) ?_
 refine AllReadyH.cons (o := _) rfl (fun K hK => ?_) AllReadyH.nil
 go_simp
 ((with_reducible refine (TL.out w8.drew _ _ (HR8.out.keep HDR.out) rfl rfl).mono ?_); rintro e wa ⟨ua2, rfl, hoa, hfa⟩; obtain ⟨ea, ek, ec, rfl⟩ : ∃ a k c, ua2 = .slice a k c := (by obtain ⟨a, c, e⟩ := row_shape hoa; exact ⟨a, _, c, e⟩); have HFa := Lib.hid (HDR.out.trans hfa); have HOA := Lib.hid hoa; have hS2 : DB2 p8 t4 d rp wa := DB2.of (HFa.out.heap HD8.out (by simp)) (HFa.out.cell HBC.out (by simp)); clear hoa hfa)
 go_wp2_with fail
 refine hK.out _ _ hS2 (fun hHeld => ?_)
 clear hK K
 try simp only [Act.put, List.setIfInBounds_toArray, List.set_cons_zero, List.set_cons_succ]
 clear hS2
 refine wpAnyH_ready (rs := [6]) (by kernel_rfl) (by simp) ?_
 refine AllReadyH.cons (o := _) rfl (fun K hK => ?_) AllReadyH.nil
 go_simp
 ((with_reducible refine (SV.out wa HFa.out).mono ?_); rintro e wb ⟨ub, rfl, rfl, m2, hsm, hr2, hc2, hl2, hf2⟩; have HOB := Lib.hid (HOA.out.fr hf2 (fun r hr e => (by have h1 := HNE.out r hr; have h2 := (HOA.out.block _ e).1; have h0 : w8.drew.heap.size = w8.heap.size := rfl; have h4 := HF8.out.size; omega))); have HFb : Hid (Fr w wb (p :: (vp.ownBlock.toList ++ vc.ownBlock.toList))) := Lib.hid ((HF8.out.comb HFa.out (fun x hx => .inl hx) (by simp)).comb hf2 (fun x hx => .inl hx) (fun x hx => .inl (by dsimp only at hx; rw [HUB.out] at hx; exact hx))); have hS3 : DB2 p8 t4 d rp wb := DB2.of (hf2.heap (HFa.out.heap HD8.out (by simp)) (fun hm => (by have h1 := HNE.out _ hm; have h2 := HP8.out; omega))) (hf2.cell (HFa.out.cell HBC.out (by simp)) (fun hm => (by have h1 := HNE.out _ hm; have h2 := HT4.out; dsimp only at h1; omega))))
 go_wp2_with fail
 refine hK.out _ _ hS3 (fun hHeld => ?_)
 clear hK K
 try simp only [Act.put, List.setIfInBounds_toArray, List.set_cons_zero, List.set_cons_succ]
 clear hS3
 obtain ⟨v9, w9, hr9, ho9, hf9, _⟩ := appV wb _ 0 (.slice ea ek ec) (.slice none 0 0) _ [] HOB.out (OwnV.nil _ _) (by have h0 : w8.drew.heap.size = w8.heap.size := rfl; have h2 := HFa.out.size; have h3 := hf2.size; omega) (by unfold tellL; split <;> (try split) <;> (try split) <;> simp) (by simp)
 obtain ⟨va9, vn9, vc9, rfl⟩ : ∃ a k c, v9 = .slice a k c := by obtain ⟨a, c, e⟩ := row_shape ho9; exact ⟨a, _, c, e⟩
 have HF9 : Hid (Fr wb w9 (Value.slice ea ek ec).ownBlock.toList) := Lib.hid hf9
 have HBE := Lib.hid (show ∀ r ∈ (Value.slice ea ek ec).ownBlock.toList, w8.heap.size ≤ r from fun r hr => (HOA.out.block r (by simpa using hr)).1)
 have HSM := Lib.hid hsm
 have HR9 := Lib.hid (hr2.fr hf9 (fun hm => by have h1 := HBE.out _ hm; rw [hsm.p] at h1; have h2 := HF8.out.size; dsimp only at h1; omega))
 have HC9 := Lib.hid (hc2.fr hf9 (fun r hr e => by have h1 := HBE.out _ hr; rw [hsm.vp] at e; have h2 := (HCB.out _ e).2; have h3 := HF8.out.size; omega))
 have HL9 : Hid (OwnL w9 B m2.vc []) := Lib.hid (hl2.fr hf9 (fun r hr e => by have h1 := HBE.out _ hr; rw [hsm.vc] at e; dsimp only at e; rw [HUB.out] at e; have h2 := (HLB.out _ e).2; have h3 := HF8.out.size; omega))
 have HO9 : Hid (OwnV w9 w.heap.size (.slice va9 vn9 vc9) (tellL n.id d)) := Lib.hid (by rw [List.append_nil] at ho9; exact ho9.mono HF8.out.size)
 have HFF := Lib.hid (HFb.out.comb hf9 (fun x hx => .inl hx) (fun x hx => .inr (Nat.le_trans HF8.out.size (HBE.out x hx))))
 have hS4 : DB2 p8 t4 d rp w9 := DB2.of (hf9.heap (hf2.heap (HFa.out.heap HD8.out (by simp)) (fun hm => (by have h1 := HNE.out _ hm; have h2 := HP8.out; omega))) (fun hm => by have h1 := HBE.out _ hm; have h2 := size_of_row HD8.out; omega)) (hf9.cell (hf2.cell (HFa.out.cell HBC.out (by simp)) (fun hm => (by have h1 := HNE.out _ hm; have h2 := HT4.out; dsimp only at h1; omega))) (fun hm => by have h2 := World.block_lt_of_cell? _ _ HBC.out; dsimp only at h2; dsimp only at hm; have h1 := HBE.out _ hm; omega))
 clear ho9 hf9 hr2 hc2 hl2 hf2 hsm
 refine wpAnyH_ready (rs := [7]) (by kernel_rfl) (by simp) ?_
 refine AllReadyH.cons (o := _) (by simp only [List.getElem?_toArray, List.getElem?_cons_zero, List.getElem?_cons_succ]; rfl) (fun K hK => ?_) AllReadyH.nil
 refine step_appR rfl _ _ _ rfl _ _ rfl rfl hr9 ?_
 refine hK.out _ _ hS4 (fun hHeld => ?_)
 clear hK K
 try simp only [Act.put, List.setIfInBounds_toArray, List.set_cons_zero, List.set_cons_succ]
 refine zH 8 ?_
 refine wpAnyH_done (by kernel_rfl) ?_ _
 refine NoPanic.normal ?_
 clear hr9
 go_wp2
 go_ret
 exact gives ⟨HO9.out, m2, ⟨HSM.out.p, HSM.out.sp, HSM.out.gp, HSM.out.q, HSM.out.g, HSM.out.rp, HSM.out.vm, HSM.out.vc.trans HUB.out, HSM.out.vp⟩, HR9.out, HC9.out, HL9.out, HFF.out⟩
end Go.Proofs.YtiflmkicnkbeaaaGreatDoor
namespace Go.Proofs.YtiflmkicnkbeaaaGreatDoor
open Go.RowKit Fm
def Mm.own3 (m : Mm) : List Nat := m.p :: (m.vp.ownBlock.toList ++ m.vc.ownBlock.toList)
theorem NdW.kind {w : World} {B : Nat} {m : Mm} {n : Nd} {s : CS} {r : RS} (H : NdW w B m n s r) : ∀ y ∈ m.own3, ∃ cs T, w.heap[y]? = some (.cells cs T (0, 0)) ∧ (T = 134 ∨ T = 3 ∨ T = 46) := by
 intro y hy
 rcases List.mem_cons.1 hy with rfl | hy
 · obtain ⟨cs, h⟩ := H.row.row
   exact ⟨cs, _, h, .inl rfl⟩
 · rcases List.mem_append.1 hy with hy | hy
   · rcases H.cs.2 with ⟨e, _⟩ | ⟨g, cap, cur, e, _, hg, _⟩
     · rw [e] at hy; simp [Value.ownBlock] at hy
     · rw [e] at hy; simp [Value.ownBlock] at hy; subst hy
       exact ⟨_, _, hg, .inr (.inl rfl)⟩
   · rcases H.cl.2 with ⟨e, _⟩ | ⟨g, cap, cur, e, _, hg, _⟩
     · rw [e] at hy; simp [Value.ownBlock] at hy
     · rw [e] at hy; simp [Value.ownBlock] at hy; subst hy
       exact ⟨_, _, hg, .inr (.inr rfl)⟩
theorem NdW.other {w : World} {B : Nat} {m : Mm} {n : Nd} {s : CS} {r : RS} (H : NdW w B m n s r) {y : Nat} {cs : Array Value} {T : TypeId} (h : w.heap[y]? = some (.cells cs T (0, 0))) (hT : T ≠ 134 ∧ T ≠ 3 ∧ T ≠ 46) : y ∉ m.own3 := by
 intro hm
 obtain ⟨cs', T', h', k⟩ := H.kind y hm
 rw [h] at h'
 simp only [Option.some.injEq, Obj.cells.injEq, and_true] at h'
 obtain ⟨_, rfl⟩ := h'
 rcases k with k | k | k
 · exact hT.1 k
 · exact hT.2.1 k
 · exact hT.2.2 k
theorem NdW.low {w : World} {B : Nat} {m : Mm} {n : Nd} {s : CS} {r : RS} (H : NdW w B m n s r) : ∀ y ∈ m.own3, B ≤ y := by
 intro y hy
 rcases List.mem_cons.1 hy with rfl | hy
 · exact H.lo.1
 · rcases List.mem_append.1 hy with hy | hy
   · exact (H.cs.block y (by simpa using hy)).1
   · exact (H.cl.block y (by simpa using hy)).1
theorem NdW.past {w w' : World} {B : Nat} {m m' : Mm} {n n' : Nd} {s : CS} {r : RS} (H : NdW w B m n s r) (k : Fr w w' m.own3) (hp : m'.p = m.p) (hsp : m'.sp = m.sp) (hgp : m'.gp = m.gp) (hq : m'.q = m.q) (hg : m'.g = m.g) (hrp : m'.rp = m.rp) (hvm : m'.vm = m.vm)
 (hvp : m'.vp.ownBlock = m.vp.ownBlock) (h1 : NdR w' m' n') (h2 : OwnI w' B m'.vp n'.cs) (h3 : OwnL w' B m'.vc n'.cl) (eR : n'.R = n.R) (eg : n'.ga = n.ga) (em : n'.ms = n.ms) : NdW w' B m' n' s r := by
 obtain ⟨rc, hrow, _⟩ := H.ri
 refine ⟨h1, ?_, ?_, ?_, ?_, ?_, h3, h2, ?_, ?_⟩
 · rw [hsp, hq, eR]; exact H.st.fr k (H.other H.st (by decide))
 · rw [hq, hg]; exact H.ce.fr k (H.other H.ce.1 (by decide)) (H.other H.ce.2.1 (by decide))
 · rw [hgp, eg]; exact H.ga.fr k (H.other H.ga (by decide))
 · rw [hrp]; exact H.ri.fr k (H.other hrow (by decide))
 · rw [hvm, em]
   refine H.ms.fr k (fun y hy e => ?_)
   rcases List.mem_cons.1 hy with rfl | hy
   · obtain ⟨cs, hc⟩ := H.row.row
     exact row_ne H.ms hc (by decide) e
   · rcases List.mem_append.1 hy with hy | hy
     · exact H.ap y (by simpa using hy) e
     · rcases H.cl.2 with ⟨e2, _⟩ | ⟨g, cap, cur, e2, _, hg, _⟩
       · rw [e2] at hy; simp [Value.ownBlock] at hy
       · rw [e2] at hy; simp [Value.ownBlock] at hy; subst hy
         exact row_ne H.ms hg (by decide) e
 · rw [hvm, hvp]; exact H.ap
 · rw [hp, hsp, hgp, hq, hg, hrp]; exact H.lo
theorem NdW.far {w w' : World} {B : Nat} {m : Mm} {n : Nd} {s : CS} {r : RS} {S : List Nat} (H : NdW w B m n s r) (k : Fr w w' S) (hS : ∀ y ∈ S, ∃ cs T, w.heap[y]? = some (.cells cs T (0, 0)) ∧ (T = 48 ∨ T = 41)) : NdW w' B m n s r := by
 have key : ∀ {y : Nat} {cs : Array Value} {T : TypeId}, w.heap[y]? = some (.cells cs T (0, 0)) → T ≠ 48 ∧ T ≠ 41 → y ∉ S := by
  intro y cs T h hT hm
  obtain ⟨cs', T', h', q⟩ := hS y hm
  rw [h] at h'
  simp only [Option.some.injEq, Obj.cells.injEq, and_true] at h'
  obtain ⟨_, rfl⟩ := h'
  rcases q with q | q
  · exact hT.1 q
  · exact hT.2 q
 obtain ⟨rc, hrow, hrc⟩ := H.ri
 obtain ⟨nc, hn⟩ := H.row.row
 refine ⟨H.row.fr k (key hn (by decide)), H.st.fr k (key H.st (by decide)), H.ce.fr k (key H.ce.1 (by decide)) (key H.ce.2.1 (by decide)), H.ga.fr k (key H.ga (by decide)), Rs.fr ⟨rc, hrow, hrc⟩ k (key hrow (by decide)), H.ms.fr k (fun y hy => ?_), H.cl.fr k (fun y hy => ?_), H.cs.fr k (fun y hy => ?_), H.ap, H.lo⟩
 all_goals
  obtain ⟨cs', T', h', q⟩ := hS y hy
  rcases q with rfl | rfl
  · first | exact row_ne H.ms h' (by decide) | exact row_ne H.cl h' (by decide) | exact row_ne H.cs h' (by decide)
  · first | exact row_ne H.ms h' (by decide) | exact row_ne H.cl h' (by decide) | exact row_ne H.cs h' (by decide)
theorem OwnV.rows {w : World} {B : Nat} {v : Value} {l : List Ev} (h : OwnV w B v l) : ∀ y ∈ v.ownBlock.toList, ∃ cs T, w.heap[y]? = some (.cells cs T (0, 0)) ∧ (T = 48 ∨ T = 41) := by
 intro y hy
 rcases h.2 with ⟨rfl, _⟩ | ⟨g, cap, cur, rfl, _, hg, _⟩
 · simp [Value.ownBlock] at hy
 · simp [Value.ownBlock] at hy
   subst hy
   exact ⟨_, _, hg, .inl rfl⟩
theorem OwnF.rows {w : World} {B : Nat} {v : Value} {l : List F} (h : OwnF w B v l) : ∀ y ∈ v.ownBlock.toList, ∃ cs T, w.heap[y]? = some (.cells cs T (0, 0)) ∧ (T = 48 ∨ T = 41) := by
 obtain ⟨xs, _, h2, _⟩ := h
 intro y hy
 rcases h2.2 with ⟨rfl, _⟩ | ⟨g, cap, cur, rfl, _, hg, _⟩
 · simp [Value.ownBlock] at hy
 · simp [Value.ownBlock] at hy
   subst hy
   exact ⟨_, _, hg, .inr rfl⟩
theorem OwnF.shape {w : World} {B : Nat} {v : Value} {l : List F} (h : OwnF w B v l) : ∃ a k c, v = .slice a k c := by
 obtain ⟨xs, _, h2, _⟩ := h
 obtain ⟨a, c, e⟩ := row_shape h2
 exact ⟨a, _, c, e⟩
theorem OwnF.past {w w' : World} {B : Nat} {v : Value} {l : List F} {S : List Nat} (h : OwnF w B v l) (k : Fr w w' S) (hS : ∀ y ∈ S, ∃ cs, w.heap[y]? = some (.cells cs 48 (0, 0))) : OwnF w' B v l := by
 obtain ⟨xs, h1, h2, h3⟩ := h
 exact ⟨xs, h1, row_fr h2 k (fun y hy => by obtain ⟨cs, hc⟩ := hS y hy; exact row_ne h2 hc (by decide)), fun x hx => (h3 x hx).past k (fun y hy => by obtain ⟨cs, hc⟩ := hS y hy; exact ⟨cs, _, hc, by decide, by decide, by decide⟩)⟩
theorem leave_same (n : Nd) : n.leave.1.h = n.h ∧ n.leave.1.id = n.id ∧ n.leave.1.R = n.R ∧ n.leave.1.li = n.li ∧ n.leave.1.car = n.car ∧ n.leave.1.pe = n.pe ∧ n.leave.1.sn = n.sn ∧ n.leave.1.ga = n.ga ∧ n.leave.1.ms = n.ms ∧ n.leave.1.cs = n.cs ∧ n.leave.1.si = n.si ∧ n.leave.1.ag = n.ag ∧ n.leave.1.dn = n.dn ∧ (n.cl = [] → n.leave.1.cl = []) := by
 unfold Nd.leave
 split
 · exact ⟨rfl, rfl, rfl, rfl, rfl, rfl, rfl, rfl, rfl, rfl, rfl, rfl, rfl, fun _ => rfl⟩
 · split
   · exact ⟨rfl, rfl, rfl, rfl, rfl, rfl, rfl, rfl, rfl, rfl, rfl, rfl, rfl, fun h => h⟩
   · exact ⟨rfl, rfl, rfl, rfl, rfl, rfl, rfl, rfl, rfl, rfl, rfl, rfl, rfl, fun h => h⟩
theorem leaveM_same (m : Mm) (n : Nd) : (leaveM m n).p = m.p ∧ (leaveM m n).sp = m.sp ∧ (leaveM m n).gp = m.gp ∧ (leaveM m n).q = m.q ∧ (leaveM m n).g = m.g ∧ (leaveM m n).rp = m.rp ∧ (leaveM m n).vm = m.vm ∧ (leaveM m n).vp = m.vp ∧ ((leaveM m n).vc = m.vc ∨ (leaveM m n).vc = .slice none 0 0) := by
 unfold leaveM
 split
 · exact ⟨rfl, rfl, rfl, rfl, rfl, rfl, rfl, rfl, .inr rfl⟩
 · exact ⟨rfl, rfl, rfl, rfl, rfl, rfl, rfl, rfl, .inl rfl⟩
def Ticked (B : Nat) (m : Mm) (n a : Nd) (s : CS) (r : RS) (fs : List F) (es : List Ev) (w : World) (u : Value) (w' : World) : Prop :=
 ∃ vf ve m', u = .tuple #[vf, ve] ∧ OwnF w' w.heap.size vf fs ∧ OwnV w' w.heap.size ve es ∧ NdW w' B m' a s r ∧ m'.p = m.p ∧ m'.rp = m.rp ∧ m'.vp.ownBlock = m.vp.ownBlock ∧ Fr w w' m.own3
set_option maxHeartbeats 2000000 in
set_option maxRecDepth 100000 in
theorem ntick_no (B C : Nat) (m : Mm) (n a : Nd) (s : CS) (r : RS) (ob : Bool) (w : World) (H : NdW w B m n s r) (hd : n.dn = false) (h0 : n.cl = []) (hrn : r.n ≤ 64) (hT : Tz w) (hG : 13 < B) (hB : B ≤ w.heap.size) (hck : n.car.k ≤ 9223372036854775807) (hn : n.cs.length ≤ 1000000)
 (x : Ca) (d : Dn) (hx : n.car.tick n.h (ofS n.cs []) ob = (x, d)) (hxk : -9223372036854775808 ≤ x.k ∧ x.k ≤ 9223372036854775807) (hA : AgOk n.pe) (hC : n.h.c = (C : Int)) (hC1 : C ≤ 1000) (hml : n.ms.length ≤ 1000)
 (h1 : -9223372036854775808 ≤ n.si ∧ n.si < 9223372036854775807) (h2 : -9223372036854775808 ≤ n.ag ∧ n.ag < 9223372036854775807) (hgr : -9223372036854775808 ≤ n.grt ∧ n.grt ≤ 9223372036854775807)
 (ha : a = ({ n with car := x, cs := notP (fun z => hasB d.st.c z) n.cs } : Nd).leave.1.aged) (hno : ¬ (a.founds = true ∧ a.mayNext = true)) :
 Calls Tryz.prog 15 #[.pointer (some ⟨m.p, 0, none⟩), .pointer (some ⟨m.rp, 0, none⟩), .bool ob] w (Gives (Ticked B m n a s r a.beats (tellL n.id d ++ ({ n with car := x, cs := notP (fun z => hasB d.st.c z) n.cs } : Nd).leave.2) w)) := by
 obtain ⟨b, hb⟩ : ∃ b : Nd, b = { n with car := x, cs := notP (fun z => hasB d.st.c z) n.cs } := ⟨_, rfl⟩
 rw [← hb] at ha ⊢
 have hlt := H.row.lt
 have HH := Lib.hid H
 have RD := Lib.hid (nride_none B m n r ob w H.row H.cs (by rw [← h0]; exact H.cl) h0 H.ri hrn hT hck hn hB hG H.lo.1 x d hx)
 have c11 : w.cell? ⟨m.p, 11, none⟩ = some (.bool false) := by rw [← hd]; exact H.row.ns.2.2.2.2.2.2.2.2.2.2.2.1
 have HB := Lib.hid hb
 have HA := Lib.hid ha
 have HNO := Lib.hid hno
 have HAG := Lib.hid hA
 have HX := Lib.hid hxk
 have HC := Lib.hid hC
 have HS1 := Lib.hid h1
 have HS2 := Lib.hid h2
 have HGR := Lib.hid hgr
 have HCL := Lib.hid h0
 have HBB := Lib.hid hB
 clear H hd h0 hrn hT hG hB hck hn hx hxk hA hC h1 h2 hgr hb ha hno
 go_enter Tryz.func15, Tryz.ntmps15
 go_wp2_with fail
 with_reducible refine (RD.out).mono ?_
 rintro e w1 ⟨u1, rfl, ho1, m1, hsm, hr1, hc1, hl1, hf1⟩
 rw [← HB.out] at hr1
 have H1 := Lib.hid (HH.out.past hf1 hsm.p hsm.sp hsm.gp hsm.q hsm.g hsm.rp hsm.vm hsm.vp hr1 (by rw [HB.out]; exact hc1) (by rw [show b.cl = [] by rw [HB.out]; exact HCL.out]; exact hl1) (by rw [HB.out]) (by rw [HB.out]) (by rw [HB.out]))
 have HO1 := Lib.hid ho1
 have HF1 := Lib.hid hf1
 have HP1 := Lib.hid hsm
 have WD := Lib.hid (nwithdraw_any m1 b w1 hr1 (by rw [HB.out]; exact HX.out))
 rw [hsm.p] at WD
 clear ho1 hsm hr1 hc1 hl1 hf1 RD
 go_wp2_with fail
 with_reducible refine (WD.out).mono ?_
 rintro e w2 ⟨u2, rfl, ho2, hr2, hf2⟩
 obtain ⟨lh, lid, lR, lli, lcar, lpe, lsn, lga, lms, lcs, lsi, lag, ldn, lcl⟩ := leave_same b
 obtain ⟨mp, msp, mgp, mq, mg, mrp, mvm, mvp, mvc⟩ := leaveM_same m1 b
 have hm1 : m1.p = m.p := HP1.out.p
 rw [← hm1] at hf2
 have hf2' : Fr w1 w2 m1.own3 := hf2.mono (fun y hy => .inl (by rw [List.mem_singleton.1 hy]; exact List.mem_cons_self))
 have hbc : b.cl = [] := by rw [HB.out]; exact HCL.out
 have hcs2 : OwnI w2 B m1.vp b.cs := H1.out.cs.far hf2 (H1.out.row.row.choose_spec) (by decide)
 have hcl2 : OwnL w2 B (leaveM m1 b).vc [] := by
  rcases mvc with e | e
  · rw [e]
    have := H1.out.cl
    rw [hbc] at this
    exact this.fr hf2 (fun y hy => by obtain rfl := List.mem_singleton.1 hy; exact row_ne this H1.out.row.row.choose_spec (by decide))
  · rw [e]; exact OwnL.nil _ _
 have H2 := Lib.hid (H1.out.past hf2' mp msp mgp mq mg mrp mvm (by rw [mvp]) hr2 (by rw [mvp, lcs]; exact hcs2) (by rw [lcl hbc]; exact hcl2) lR lga lms)
 have HO1' := Lib.hid (HO1.out.past hf2 H1.out.row.row.choose_spec (by decide))
 have HO2 := Lib.hid ho2
 have HF2 : Hid (Fr w w2 m.own3) := Lib.hid (HF1.out.comb hf2 (fun y hy => .inl hy) (fun y hy => .inl (by rw [List.mem_singleton.1 hy, hm1]; exact List.mem_cons_self)))
 obtain ⟨v3, w3, hr3, ho3, hf3, _⟩ := appV w2 w.heap.size w1.heap.size u1 u2 _ _ HO1'.out HO2.out HF2.out.size (by unfold tellL; split <;> (try split) <;> (try split) <;> simp) (by unfold Nd.leave; split <;> (try split) <;> simp)
 have H3 := Lib.hid (H2.out.far hf3 HO1'.out.rows)
 have HO3 := Lib.hid ho3
 have HF3 : Hid (Fr w w3 m.own3) := Lib.hid (HF2.out.comb hf3 (fun y hy => .inl hy) (fun y hy => .inr (HO1'.out.block y (by simpa using hy)).1))
 obtain ⟨ua1, un1, uc1, rfl⟩ : ∃ a k c, u1 = .slice a k c := by obtain ⟨a, c, e⟩ := row_shape HO1.out; exact ⟨a, _, c, e⟩
 obtain ⟨ua2, un2, uc2, rfl⟩ : ∃ a k c, u2 = .slice a k c := by obtain ⟨a, c, e⟩ := row_shape HO2.out; exact ⟨a, _, c, e⟩
 obtain ⟨ua3, un3, uc3, rfl⟩ : ∃ a k c, v3 = .slice a k c := by obtain ⟨a, c, e⟩ := row_shape ho3; exact ⟨a, _, c, e⟩
 obtain ⟨m2, hm2⟩ : ∃ m2, m2 = leaveM m1 b := ⟨_, rfl⟩
 obtain ⟨l, hl⟩ : ∃ l, l = b.leave.1 := ⟨_, rfl⟩
 have HM2 := Lib.hid (show m2.p = m.p ∧ m2.rp = m.rp ∧ m2.vp.ownBlock = m.vp.ownBlock ∧ m2.own3 = m2.p :: (m2.vp.ownBlock.toList ++ m2.vc.ownBlock.toList) from ⟨by rw [hm2, mp, hm1], by rw [hm2, mrp]; exact HP1.out.rp, by rw [hm2, mvp]; exact HP1.out.vp, rfl⟩)
 rw [← hm2, ← hl] at H3
 have AG := Lib.hid (nage_any m2 l w3 H3.out.row (by rw [hl, lpe, HB.out]; exact HAG.out) (by rw [hl, lsi, HB.out]; exact HS1.out) (by rw [hl, lag, HB.out]; exact HS2.out))
 rw [HM2.out.1] at AG
 have HAL := Lib.hid (show a = l.aged by rw [hl]; exact HA.out)
 have HLE := Lib.hid (show l.pe = n.pe ∧ l.sn = n.sn ∧ l.R = n.R ∧ l.ga = n.ga ∧ l.ms = n.ms ∧ l.si = n.si ∧ l.ag = n.ag ∧ l.h = n.h ∧ l.cl = [] ∧ l.cs = b.cs from by
  refine ⟨?_, ?_, ?_, ?_, ?_, ?_, ?_, ?_, ?_, ?_⟩
  · rw [hl, lpe, HB.out]
  · rw [hl, lsn, HB.out]
  · rw [hl, lR, HB.out]
  · rw [hl, lga, HB.out]
  · rw [hl, lms, HB.out]
  · rw [hl, lsi, HB.out]
  · rw [hl, lag, HB.out]
  · rw [hl, lh, HB.out]
  · rw [hl]; exact lcl hbc
  · rw [hl, lcs])
 clear lh lid lR lli lcar lpe lsn lga lms lcs lsi lag ldn lcl mp msp mgp mq mg mrp mvm mvp mvc hm1 hf2 hf2' hbc hcs2 hcl2 hr2 ho2 ho3 hf3 hm2 hl WD H1 H2 HO1 HO1' HO2 HF1 HF2 HP1
 go_wp2_with (at_builtin; refine Lib.wpList_append_run _ rfl _ _ _ _ rfl _ _ rfl rfl _ _ (hr3 _) ?_)
 go_wp2_with fail
 clear hr3
 with_reducible refine (AG.out).mono ?_
 rintro e w4 ⟨rfl, hr4, hf4⟩
 rw [← HAL.out] at hr4
 have hp2 : m2.p = m.p := HM2.out.1
 rw [← hp2] at hf4
 have H4 := Lib.hid (H3.out.past (hf4.mono (fun y hy => .inl (by rw [List.mem_singleton.1 hy]; exact List.mem_cons_self))) rfl rfl rfl rfl rfl rfl rfl rfl hr4 (by rw [HAL.out]; exact H3.out.cs.far hf4 (H3.out.row.row.choose_spec) (by decide)) (by rw [HAL.out]; exact H3.out.cl.fr hf4 (fun y hy => by obtain rfl := List.mem_singleton.1 hy; exact row_ne H3.out.cl H3.out.row.row.choose_spec (by decide))) (by rw [HAL.out]; rfl) (by rw [HAL.out]; rfl) (by rw [HAL.out]; rfl))
 have HO4 := Lib.hid (HO3.out.past hf4 H3.out.row.row.choose_spec (by decide))
 have HF4 : Hid (Fr w w4 m.own3) := Lib.hid (HF3.out.comb hf4 (fun y hy => .inl hy) (fun y hy => .inl (by rw [List.mem_singleton.1 hy, hp2]; exact List.mem_cons_self)))
 have BT := Lib.hid (nbeats_any m2 a C w4 hr4 H4.out.st H4.out.ga (by rw [HAL.out]; exact (congrArg Ho.c HLE.out.2.2.2.2.2.2.2.1).trans HC.out) hC1)
 have HHC := Lib.hid (show a.h.c = (C : Int) by rw [HAL.out]; exact (congrArg Ho.c HLE.out.2.2.2.2.2.2.2.1).trans HC.out)
 have hag : a.grt = n.grt := by rw [HAL.out]; unfold Nd.grt; show max l.R.c (max l.sn l.ga.c) = _; rw [HLE.out.2.2.1, HLE.out.2.1, HLE.out.2.2.2.1]
 have FN := Lib.hid (fun W (hW : Fr w4 W []) => nfound_no m2 a W (hr4.keep hW) (H4.out.st.fr hW (by simp)) (H4.out.ga.keep hW) (H4.out.ms.keep hW).holds (by rw [HAL.out]; show l.ms.length ≤ 1000; rw [HLE.out.2.2.2.2.1]; exact hml) (by rw [hag]; exact HGR.out) (by rw [HAL.out]; show _ ≤ l.si + 1 ∧ l.si + 1 ≤ _; rw [HLE.out.2.2.2.2.2.1]; have := HS1.out; omega) (by rw [HAL.out]; show _ ≤ l.ag + 1 ∧ l.ag + 1 ≤ _; rw [HLE.out.2.2.2.2.2.2.1]; have := HS2.out; omega) HNO.out)
 rw [hp2] at BT FN
 rw [HM2.out.2.1] at FN
 clear hr4 hf4 hp2 hag H3 AG HO3 HF3 HLE
 go_wp2_with fail
 with_reducible refine (BT.out).mono ?_
 rintro e w5 ⟨u5, rfl, ho5, hf5⟩
 have HO5 := Lib.hid ho5
 have HF5 := Lib.hid hf5
 clear ho5 hf5 BT
 go_wp2_with fail
 with_reducible refine (FN.out w5 HF5.out).mono ?_
 rintro e w6 ⟨rfl, hf6⟩
 have HF6 := Lib.hid (HF5.out.trans hf6)
 have HO6 := Lib.hid (HO5.out.keep hf6)
 have HE6 := Lib.hid (HO4.out.keep HF6.out)
 have H6 := Lib.hid (H4.out.keep HF6.out)
 have HFW : Hid (Fr w w6 m.own3) := Lib.hid (HF4.out.comb HF6.out (fun y hy => .inl hy) (by simp))
 obtain ⟨ua5, un5, uc5, rfl⟩ := HO6.out.shape
 have hbl : a.beats.length ≤ 1000000 := by
  have := beatsTo_len a a.h.c.toNat
  have hc : a.h.c = (C : Int) := HHC.out
  unfold Nd.beats
  rw [hc] at this ⊢
  simp only [Int.toNat_natCast] at this ⊢
  omega
 obtain ⟨v7, w7, hr7, ho7, hf7, _⟩ := appF w6 w4.heap.size w4.heap.size (.slice ua5 un5 uc5) (.slice none 0 0) _ [] HO6.out (OwnF.nil _ _) HF6.out.size (Nat.le_refl _) hbl (by simp)
 have H7 := Lib.hid (H6.out.far hf7 HO6.out.rows)
 have HE7 := Lib.hid (HE6.out.fr hf7 (fun y hy => by
  obtain ⟨xs, _, h2, _⟩ := HO6.out
  rcases h2.2 with ⟨e, _⟩ | ⟨g, cap, cur, e, _, hg, _⟩
  · rw [e] at hy; simp [Value.ownBlock] at hy
  · rw [e] at hy; simp [Value.ownBlock] at hy; subst hy
    exact row_ne HE6.out hg (by decide)))
 have HFX : Hid (Fr w w7 m.own3) := Lib.hid (HFW.out.comb hf7 (fun y hy => .inl hy) (fun y hy => .inr (Nat.le_trans HF4.out.size (HO6.out.block y hy).1)))
 obtain ⟨va7, vn7, vc7, rfl⟩ := ho7.shape
 have HO7 := Lib.hid ho7
 obtain ⟨v8, w8, hr8, ho8, hf8, _⟩ := appV w7 w.heap.size 0 (.slice ua3 un3 uc3) (.slice none 0 0) _ [] HE7.out (OwnV.nil _ _) HFX.out.size (by rw [List.length_append]; unfold tellL Nd.leave; split <;> (try split) <;> (try split) <;> (try split) <;> (try split) <;> simp) (by simp)
 have H8 := Lib.hid (H7.out.far hf8 HE7.out.rows)
 have HO8 : Hid (OwnF w8 w.heap.size (.slice va7 vn7 vc7) a.beats) := Lib.hid (by
  have h1 := ho7.past hf8 (fun y hy => by
   rcases HE7.out.2 with ⟨e, _⟩ | ⟨g, cap, cur, e, _, hg, _⟩
   · rw [e] at hy; simp [Value.ownBlock] at hy
   · rw [e] at hy; simp [Value.ownBlock] at hy; subst hy
     exact ⟨_, hg⟩)
  rw [List.append_nil] at h1
  obtain ⟨xs, q1, q2, q3⟩ := h1
  exact ⟨xs, q1, row_mono q2 HF4.out.size, fun x hx => ⟨(q3 x hx).1.mono HF4.out.size, by obtain ⟨zs, a1, b1⟩ := (q3 x hx).2; exact ⟨zs, a1.mono HF4.out.size, b1⟩⟩⟩)
 have HFY : Hid (Fr w w8 m.own3) := Lib.hid (HFX.out.comb hf8 (fun y hy => .inl hy) (fun y hy => .inr (HE7.out.block y (by simpa using hy)).1))
 rw [List.append_nil] at ho8
 have HE8 := Lib.hid ho8
 clear hf6 ho7 hf7 ho8 hf8 FN HO5 HF5 HF6 HO6 HE6 H6 HFW H7 HE7 HFX hbl
 go_wp2_with (at_builtin; first | refine Lib.wpList_append_run _ rfl _ _ _ _ rfl _ _ rfl rfl _ _ (hr7 _) ?_ | refine Lib.wpList_append_run _ rfl _ _ _ _ rfl _ _ rfl rfl _ _ (hr8 _) ?_)
 go_ret2
 exact gives ⟨_, _, m2, rfl, HO8.out, HE8.out, H8.out, HM2.out.1, HM2.out.2.1, HM2.out.2.2.1, HFY.out⟩
end Go.Proofs.YtiflmkicnkbeaaaGreatDoor
namespace Go.Proofs.YtiflmkicnkbeaaaGreatDoor
open Go.RowKit Fm
theorem row_dif {w : World} {a b : Nat} {c c' : Array Value} {T T' : TypeId} {z z' : Nat × Nat} (h : w.heap[a]? = some (.cells c T z)) (k : w.heap[b]? = some (.cells c' T' z')) (hT : T ≠ T') : a ≠ b := by
 rintro rfl
 rw [h] at k
 simp only [Option.some.injEq, Obj.cells.injEq] at k
 exact hT k.2.1
def NB3 (b0 b1 b2 : Nat) (h : Ho) (x : Ca) (c l : Int) (a : World) : Prop :=
 (a.cell? ⟨b0, 0, none⟩ = some (.int .i64 h.c) ∧ a.cell? ⟨b0, 1, none⟩ = some (.int .i64 h.f) ∧ a.cell? ⟨b0, 2, none⟩ = some (.int .i64 h.s) ∧ a.cell? ⟨b0, 3, none⟩ = some (.int .i64 h.d)) ∧
 (a.cell? ⟨b1, 0, none⟩ = some (.int .i64 x.x.p) ∧ a.cell? ⟨b1, 1, none⟩ = some (.int .i64 x.x.e) ∧ a.cell? ⟨b1, 2, none⟩ = some (.int .i64 x.x.o) ∧ a.cell? ⟨b1, 3, none⟩ = some (.bool x.x.r) ∧ a.cell? ⟨b1, 4, none⟩ = some (.int .i64 x.k)) ∧
 a.cell? ⟨b2, 0, none⟩ = some (.int .i64 c) ∧ a.cell? ⟨b2, 1, none⟩ = some (.int .i64 l)
def fullN (h : Ho) (id li : Int) (x : Ca) (sp gp : Nat) : Array Value := #[.int .i64 h.c, .int .i64 h.f, .int .i64 h.s, .int .i64 h.d, .int .i64 id, .int .i64 li, .int .i64 x.x.p, .int .i64 x.x.e, .int .i64 x.x.o, .bool x.x.r, .int .i64 x.k, .bool false, .pointer (some ⟨sp, 0, none⟩), .pointer (some ⟨gp, 0, none⟩),
 .bool false, .bool false, .int .i64 0, .int .i64 0, .bool false, .bool false, .int .i64 0, .int .i64 0, .bool false, .bool false, .int .i64 0, .int .i64 0, .bool false, .bool false, .int .i64 0, .int .i64 0, .bool false, .bool false, .int .i64 0, .int .i64 0, .bool false, .bool false, .int .i64 0, .int .i64 0, .bool false, .bool false, .int .i64 0, .int .i64 0, .bool false, .bool false, .int .i64 0, .int .i64 0, .bool false, .bool false, .int .i64 0, .int .i64 0, .bool false, .bool false, .int .i64 0, .int .i64 0, .bool false, .bool false, .int .i64 0, .int .i64 0, .bool false, .bool false, .int .i64 0, .int .i64 0, .bool false, .bool false, .int .i64 0, .int .i64 0, .bool false, .bool false, .int .i64 0, .int .i64 0, .bool false, .bool false, .int .i64 0, .int .i64 0, .bool false, .bool false, .int .i64 0, .int .i64 0, .int .i64 0,
 .slice none 0 0, .slice none 0 0, .slice none 0 0, .bool false, .int .i64 0, .int .i64 0]
theorem fullN_tn (h : Ho) (id li : Int) (x : Ca) (sp gp : Nat) : TN (fullN h id li x sp gp) 14 (fun _ => zP) 0 := by
 refine ⟨(show (14 + 65 : Nat) ≤ 85 by decide), fun i hi => ?_, rfl⟩
 rcases (by omega : i = 0 ∨ i = 1 ∨ i = 2 ∨ i = 3 ∨ i = 4 ∨ i = 5 ∨ i = 6 ∨ i = 7 ∨ i = 8 ∨ i = 9 ∨ i = 10 ∨ i = 11 ∨ i = 12 ∨ i = 13 ∨ i = 14 ∨ i = 15) with rfl | rfl | rfl | rfl | rfl | rfl | rfl | rfl | rfl | rfl | rfl | rfl | rfl | rfl | rfl | rfl
 all_goals exact ⟨rfl, rfl, rfl, rfl⟩
theorem fullN_is (h : Ho) (id li : Int) (x : Ca) (sp gp : Nat) : fullN h id li x sp gp = (((((((((((((Tryz.zeroCells134.setIfInBounds 0 (.int .i64 h.c)).setIfInBounds 1 (.int .i64 h.f)).setIfInBounds 2 (.int .i64 h.s)).setIfInBounds 3 (.int .i64 h.d)).setIfInBounds 4 (.int .i64 id)).setIfInBounds 5 (.int .i64 li)).setIfInBounds 6 (.int .i64 x.x.p)).setIfInBounds 7 (.int .i64 x.x.e)).setIfInBounds 8 (.int .i64 x.x.o)).setIfInBounds 9 (.bool x.x.r)).setIfInBounds 10 (.int .i64 x.k)).setIfInBounds 12 (.pointer (some ⟨sp, 0, none⟩))).setIfInBounds 13 (.pointer (some ⟨gp, 0, none⟩))) := by kernel_rfl
theorem new_nd (w : World) (h : Ho) (id li : Int) (x : Ca) (sp gp q g rp : Nat) (R : SR) (ga : GS) :
 NdR (w.alloc (.cells (fullN h id li x sp gp) 134)) ⟨w.heap.size, sp, gp, q, g, rp, .slice none 0 0, .slice none 0 0, .slice none 0 0⟩ ⟨h, id, R, li, x, fun _ => zP, 0, ga, [], [], [], 0, 0, false, false⟩ := by
 refine ⟨_, heap_alloc_new w _, fullN_tn h id li x sp gp, rfl, fun i hi => ?_⟩
 rcases (by omega : i < 14 ∨ (79 ≤ i ∧ i < 85) ∨ 85 ≤ i) with k | k | k
 · rcases (by omega : i = 0 ∨ i = 1 ∨ i = 2 ∨ i = 3 ∨ i = 4 ∨ i = 5 ∨ i = 6 ∨ i = 7 ∨ i = 8 ∨ i = 9 ∨ i = 10 ∨ i = 11 ∨ i = 12 ∨ i = 13) with rfl | rfl | rfl | rfl | rfl | rfl | rfl | rfl | rfl | rfl | rfl | rfl | rfl | rfl
   all_goals rfl
 · rcases (by omega : i = 79 ∨ i = 80 ∨ i = 81 ∨ i = 82 ∨ i = 83 ∨ i = 84) with rfl | rfl | rfl | rfl | rfl | rfl
   all_goals rfl
 · rw [Array.getElem?_eq_none (show (fullN h id li x sp gp).size ≤ i from k), Array.getElem?_eq_none (show (lit _ _).size ≤ i from k)]
def Newed (B : Nat) (h : Ho) (id pos : Int) (q g rp : Nat) (r : RS) (A : Nat → Addr) (s : CS) (R : SR) (w : World) (u : Value) (w' : World) : Prop :=
 Cl w' q g (R.save s R.c (R.n + 1)).1 ∧ Fr w w' [q, g] ∧
 if (R.save s R.c (R.n + 1)).2.2 = 0 then ∃ p sp gp ve, u = .tuple #[.pointer (some ⟨p, 0, none⟩), ve, .nilIface] ∧ OwnV w' w.heap.size ve [ev0 9 id 0 0] ∧ NdW w' B ⟨p, sp, gp, q, g, rp, .slice none 0 0, .slice none 0 0, .slice none 0 0⟩ (newN h id (R.save s R.c (R.n + 1)).2.1 pos) (R.save s R.c (R.n + 1)).1 r ∧ w.heap.size ≤ p
 else u = .tuple #[.pointer none, .slice none 0 0, ev A (R.save s R.c (R.n + 1)).2.2]
theorem save_zero {R R' : SR} {s s' : CS} {c n : Int} (h : (s', R', 0) = R.save s c n) : R'.c = c ∧ R'.n = n := by
 unfold SR.save at h
 split at h
 · split at h
   · simp only [Prod.mk.injEq] at h
     rw [h.2.1]; exact ⟨rfl, rfl⟩
   · rename_i h1 h2
     simp only [Prod.mk.injEq] at h
     exact absurd h.2.2.symm h2
 · rename_i h1
   simp only [Prod.mk.injEq] at h
   exact absurd h.2.2.symm h1
set_option maxHeartbeats 4000000 in
set_option maxRecDepth 100000 in
theorem nnew_any (B : Nat) (h : Ho) (id pos : Int) (q g rp : Nat) (s : CS) (r : RS) (is : List Nat) (A : Nat → Addr) (w : World) (hk : h.ok) (hid : 0 ≤ id ∧ id < h.c) (hpos : 0 ≤ pos ∧ pos ≤ h.top) (hC : Cl w q g s) (hd : s.d = false) (hlen : 26 ≤ s.l.length) (hb : By8 s.l) (hsn : s.n < 9223372036854770000)
 (hE : EV is w A B) (hs : ∀ i ∈ [2, 4, 5, 7], i ∈ is) (hB : B ≤ w.heap.size) (hq : B ≤ q) (hg : B ≤ g) (hri : Rs w rp r) (hrp : B ≤ rp) :
 Calls Tryz.prog 23 #[h.v, .int .i64 id, .pointer (some ⟨q, 0, none⟩), .int .i64 pos] w (Gives (Newed B h id pos q g rp r A s (openOf s.l) w)) := by
 have VA := Lib.hid (fun W => valid_any h W true (decide_eq_true hk).symm)
 have ST := Lib.hid (fun W => cstart_any h pos W hk hpos.1 hpos.2 (startC h pos) rfl)
 have OP := Lib.hid (fun W (hW : Fr w W []) => open_any q g s W A B (hC.fr hW (by simp) (by simp)) hd hlen hb (hE.fr hW (by simp)) (Nat.le_trans hB hW.size) (fun i hi => hs i (by simp at hi ⊢; omega)))
 have HRI := Lib.hid (openOf_in hb)
 obtain ⟨R, hR⟩ : ∃ R, R = openOf s.l := ⟨_, rfl⟩
 rw [← hR] at OP HRI ⊢
 have RE := Lib.hid (fun sp W (hW : Sr W sp q R) => record_any sp q R W hW)
 have SV := Lib.hid (fun sp W (hW : Fr w W []) (hS : Sr W sp q R) (hsp : B ≤ sp) => save_any sp q g R s R.c (R.n + 1) W A B hS (hC.fr hW (by simp) (by simp)) HRI.out hsn (hE.fr hW (by simp)) hq hg hs)
 have HN1 := Lib.hid hid.1
 have hc0 : id < h.c := hid.2
 have HCL := Lib.hid hC
 have HRS := Lib.hid hri
 have HBB := Lib.hid (And.intro hB (And.intro hq (And.intro hg hrp)))
 have W1 : IntKind.i64.wrap (R.n + 1) = R.n + 1 := IntWalk.i64_in _ (by have := HRI.out; unfold SR.in at this; omega)
 have t1 : ¬ id < 0 := by omega
 have t2 : ¬ h.c ≤ id := by omega
 have t3 : decide (id ≥ h.c) = false := decide_eq_false (by omega)
 have hlq := hC.lt
 have FA := Lib.hid (Fr.alloc w h.box [])
 have HBX := Lib.hid (heap_alloc_new w h.box)
 clear hk hid hpos hC hd hlen hb hsn hE hs hB hq hg hri hrp hR
 obtain ⟨hc, hf, hs, hd⟩ := h
 dsimp only [Ho.v, Ho.box] at *
 go_enter Tryz.func23, Tryz.ntmps23
 go_upto_region 1 with fail
 generalize w.alloc _ = V at FA HBX ⊢
 obtain ⟨b0, hb0⟩ : ∃ b, b = w.heap.size := ⟨_, rfl⟩
 rw [← hb0] at HBX ⊢
 clear hb0
 obtain ⟨y0, y1, y2, y3⟩ := row4 HBX.out
 go_wp2_with fail
 with_reducible refine (VA.out _).mono ?_
 rintro e w1 ⟨rfl, hf1⟩
 have HB1 := Lib.hid (hf1.heap HBX.out (by simp))
 have HF1 := Lib.hid (FA.out.trans hf1)
 clear hf1 VA y0 y1 y2 y3 HBX FA
 obtain ⟨y0, y1, y2, y3⟩ := row4 HB1.out
 go_wp2_with fail
 with_reducible refine (ST.out _).mono ?_
 rintro e w2 ⟨rfl, hf2⟩
 have HB2 := Lib.hid (hf2.heap HB1.out (by simp))
 have HF2 := Lib.hid (HF1.out.trans hf2)
 have HC2 := Lib.hid (CB.new w2 (startC ⟨hc, hf, hs, hd⟩ pos))
 have FA2 := Lib.hid (Fr.alloc w2 (startC ⟨hc, hf, hs, hd⟩ pos).box [])
 clear hf2 ST y0 y1 y2 y3 HB1 HF1
 obtain ⟨x, hx⟩ : ∃ x, x = startC ⟨hc, hf, hs, hd⟩ pos := ⟨_, rfl⟩
 rw [← hx] at HC2 FA2 ⊢
 have HXE := Lib.hid hx
 clear hx
 dsimp only [Ca.v, Ca.box] at FA2 ⊢
 go_upto_region 6 with fail
 generalize w2.alloc _ = V2 at HC2 FA2 ⊢
 have HF3 := Lib.hid (HF2.out.trans FA2.out)
 have HB3 := Lib.hid (FA2.out.heap HB2.out (by simp))
 obtain ⟨b1, hb1⟩ : ∃ b, b = w2.heap.size := ⟨_, rfl⟩
 rw [← hb1] at HC2 ⊢
 clear hb1 FA2 HB2 HF2
 have O1 := Lib.hid (OP.out V2 HF3.out)
 go_wp2_with fail
 with_reducible refine (O1.out).mono ?_
 rintro e w4 ⟨u4, rfl, sp, rfl, hsr, hspl, hf4⟩
 have HSR := Lib.hid hsr
 have HSP := Lib.hid (Nat.le_trans HBB.out.1 (Nat.le_trans HF3.out.size hspl))
 have HSPw := Lib.hid (Nat.le_trans HF3.out.size hspl)
 have HF4 := Lib.hid (HF3.out.trans hf4)
 have HB4 := Lib.hid (hf4.heap HB3.out (by simp))
 have HC4 := Lib.hid (CB.fr HC2.out hf4 (by simp))
 have R1 := Lib.hid (RE.out sp w4 hsr)
 clear hsr hspl hf4 HF3 HB3 HC2 O1 OP RE
 go_wp2_with fail
 with_reducible refine (R1.out).mono ?_
 rintro e w5 ⟨rfl, hf5⟩
 have HF5 := Lib.hid (HF4.out.trans hf5)
 have HB5 := Lib.hid (hf5.heap HB4.out (by simp))
 have HC5 := Lib.hid (CB.fr HC4.out hf5 (by simp))
 have HS5 := Lib.hid (HSR.out.fr hf5 (by simp))
 have FA5 := Lib.hid (Fr.alloc w5 (.cells #[.int .i64 R.c, .int .i64 R.n] 150) [])
 have HR5 := Lib.hid (heap_alloc_new w5 (.cells #[.int .i64 R.c, .int .i64 R.n] 150))
 clear hf5 HF4 HB4 HC4 HSR R1
 go_upto_region 10 with fail
 generalize w5.alloc _ = V5 at FA5 HR5 ⊢
 have HF6 := Lib.hid (HF5.out.trans FA5.out)
 have HB6 := Lib.hid (FA5.out.heap HB5.out (by simp))
 have HC6 := Lib.hid (CB.fr HC5.out FA5.out (by simp))
 have HS6 := Lib.hid (HS5.out.fr FA5.out (by simp))
 have HBL := Lib.hid HF5.out.size
 obtain ⟨b2, hb2⟩ : ∃ b, b = w5.heap.size := ⟨_, rfl⟩
 rw [← hb2] at HR5 HBL ⊢
 have HN2 := Lib.hid (show sp ≠ b2 ∧ b1 ≠ b2 ∧ b0 ≠ b2 from ⟨by have := size_of_row HS5.out; omega, by have := size_of_row HC5.out; omega, by have := size_of_row HB5.out; omega⟩)
 clear hb2 FA5 HF5 HB5 HC5 HS5
 obtain ⟨r0, r1⟩ := brow HR5.out
 have f1 := frozen_of_row _ _ 1 _ _ HR5.out
 have hs7 : Fr V5 (V5.setCell ⟨b2, 1, none⟩ (.int .i64 (R.n + 1))) [b2] := Fr.setCell V5 b2 1 _ (by simp)
 have HF7 := Lib.hid (HF6.out.new hs7 (by intro r hr; obtain rfl := List.mem_singleton.1 hr; exact HBL.out))
 have HB7 := Lib.hid (hs7.heap HB6.out (by have := HN2.out; simp; omega))
 have HC7 := Lib.hid (CB.fr HC6.out hs7 (by have := HN2.out; simp; omega))
 have HS7 := Lib.hid (HS6.out.fr hs7 (by have := HN2.out; simp; omega))
 have HR7 := Lib.hid (show (V5.setCell ⟨b2, 1, none⟩ (.int .i64 (R.n + 1))).heap[b2]? = some (.cells #[.int .i64 R.c, .int .i64 (R.n + 1)] 150 (0, 0)) from heap_setCell_same _ _ 1 _ _ _ HR5.out)
 clear hs7 HF6 HB6 HC6 HS6 HR5
 go_upto_region 11 with fail
 clear r0 r1 f1
 generalize V5.setCell _ _ = W7 at HF7 HB7 HC7 HS7 HR7 ⊢
 obtain ⟨r0, r1⟩ := brow HR7.out
 have S1 := Lib.hid (SV.out sp W7 HF7.out HS7.out HSP.out)
 obtain ⟨SS, hSS⟩ : ∃ z, z = R.save s R.c (R.n + 1) := ⟨_, rfl⟩
 rw [← hSS] at S1
 have HSS := Lib.hid hSS
 have HCL7 := Lib.hid (HCL.out.fr HF7.out (by simp) (by simp))
 have HN3 := Lib.hid (show b0 ∉ [sp, q, g] ∧ b1 ∉ [sp, q, g] ∧ b2 ∉ [sp, q, g] from by
  have a1 := row_dif HB7.out HS7.out (by decide)
  have a2 := row_dif HB7.out HCL7.out.1 (by decide)
  have a3 := row_dif HB7.out HCL7.out.2.1 (by decide)
  have c1 := row_dif HC7.out HS7.out (by decide)
  have c2 := row_dif HC7.out HCL7.out.1 (by decide)
  have c3 := row_dif HC7.out HCL7.out.2.1 (by decide)
  have d1 := row_dif HR7.out HS7.out (by decide)
  have d2 := row_dif HR7.out HCL7.out.1 (by decide)
  have d3 := row_dif HR7.out HCL7.out.2.1 (by decide)
  simp [a1, a2, a3, c1, c2, c3, d1, d2, d3])
 clear hSS SV HS7
 obtain ⟨cs', R', code⟩ := SS
 dsimp only at S1 ⊢
 cases code with
 | zero =>
   have e0 : ev A 0 = .nilIface := rfl
   rw [e0] at S1
   go_wp2_with fail
   with_reducible refine (S1.out).mono ?_
   rintro e w8 ⟨rfl, hcl8, hsr8, hf8⟩
   have HCL8 := Lib.hid hcl8
   have HSR8 := Lib.hid hsr8
   have HF8 : Hid (Fr w w8 [q, g]) := Lib.hid (HF7.out.comb hf8 (by simp) (fun x hx => by
    have := HSPw.out
    simp only [List.mem_cons, List.not_mem_nil, or_false] at hx ⊢
    rcases hx with rfl | rfl | rfl
    · exact .inr this
    · exact .inl (.inl rfl)
    · exact .inl (.inr rfl)))
   have HB8 := Lib.hid (hf8.heap HB7.out HN3.out.1)
   have HC8 := Lib.hid (CB.fr HC7.out hf8 HN3.out.2.1)
   have HR8 := Lib.hid (hf8.heap HR7.out HN3.out.2.2)
   clear hcl8 hsr8 hf8 S1 r0 r1 HF7 HB7 HC7 HR7 HCL7
   go_wp2_with fail
   have HS := Lib.hid (show NB3 b0 b1 b2 ⟨hc, hf, hs, hd⟩ x R.c (R.n + 1) w8.drew from ⟨row4 ((Fr.drew w8 []).heap HB8.out (by simp)), CB.cells (CB.fr HC8.out (Fr.drew w8 []) (by simp)), brow ((Fr.drew w8 []).heap HR8.out (by simp))⟩)
   have GN := Lib.hid (fun W => gnew_any R.c W)
   refine wp_region_noPanic ?_
   refine wp_region_held_drew (S := NB3 b0 b1 b2 ⟨hc, hf, hs, hd⟩ x R.c (R.n + 1)) (by kernel_rfl) HS.out (fun hHeld => ?_)
   refine zHU fun hU => ?_
   try dsimp only [NB3] at hU
   refine zH 0 ?_
   refine zH 1 ?_
   refine zH 2 ?_
   refine zH 3 ?_
   refine zH 4 ?_
   refine zH 5 ?_
   refine zH 6 ?_
   refine zH 7 ?_
   refine wpAnyH_ready (rs := [8]) (by kernel_rfl) (by simp) ?_
   refine AllReadyH.cons (o := _) rfl (fun K hK => ?_) AllReadyH.nil
   go_simp
   ((with_reducible refine (GN.out w8.drew).mono ?_); rintro e w9 ⟨rfl, hgt, hf9⟩; have HF9 := Lib.hid ((Fr.drew w8 []).trans hf9); have HGT := Lib.hid hgt; have hS2 : NB3 b0 b1 b2 ⟨hc, hf, hs, hd⟩ x R.c (R.n + 1) w9 := ⟨row4 (HF9.out.heap HB8.out (by simp)), CB.cells (CB.fr HC8.out HF9.out (by simp)), brow (HF9.out.heap HR8.out (by simp))⟩; clear hgt hf9)
   go_wp2_with fail
   refine hK.out _ _ hS2 (fun hHeld => ?_)
   clear hK K
   try simp only [Act.put, List.setIfInBounds_toArray, List.set_cons_zero, List.set_cons_succ]
   clear hS2
   refine zH 9 ?_
   have hx0 := new_nd w9 ⟨hc, hf, hs, hd⟩ id (R.n + 1) x sp w8.heap.size q g rp R' ⟨0, 0, 0, max R.c 0⟩
   have hf0 := Fr.alloc w9 (.cells (fullN ⟨hc, hf, hs, hd⟩ id (R.n + 1) x sp w8.heap.size) 134) []
   rw [fullN_is] at hx0 hf0
   dsimp only at hx0 hf0
   have HX := Lib.hid hx0
   have HFX := Lib.hid hf0
   clear hx0 hf0
   refine wpAnyH_ready (rs := [10]) (by kernel_rfl) (by simp) ?_
   refine AllReadyH.cons (o := _) rfl (fun K hK => ?_) AllReadyH.nil
   go_simp
   generalize hWW : w9.alloc _ = W at HX HFX ⊢
   refine hK.out _ _ ⟨row4 (HFX.out.heap (HF9.out.heap HB8.out (by simp)) (by simp)), CB.cells (CB.fr (CB.fr HC8.out HF9.out (by simp)) HFX.out (by simp)), brow (HFX.out.heap (HF9.out.heap HR8.out (by simp)) (by simp))⟩ (fun hHeld => ?_)
   clear hK K
   try simp only [Act.put, List.setIfInBounds_toArray, List.set_cons_zero, List.set_cons_succ]
   refine zH 11 ?_
   refine wpAnyH_done (by kernel_rfl) ?_ _
   refine NoPanic.normal ?_
   clear hHeld hWW
   have HP9 := Lib.hid (Nat.le_trans HF8.out.size HF9.out.size)
   obtain ⟨p, hp⟩ : ∃ p, p = w9.heap.size := ⟨_, rfl⟩
   obtain ⟨gp, hgp⟩ : ∃ p, p = w8.heap.size := ⟨_, rfl⟩
   have HGT' : Hid (Gt w9 gp ⟨0, 0, 0, max R.c 0⟩) := Lib.hid (by rw [hgp]; exact HGT.out)
   have HPG := Lib.hid (show w.heap.size ≤ gp by rw [hgp]; exact HF8.out.size)
   rw [← hp] at HX HP9
   rw [← hgp] at HX
   simp only [← hp, ← hgp]
   clear hp hgp HGT GN
   have HSV := Lib.hid (save_zero HSS.out)
   have HFW := Lib.hid (HF9.out.trans HFX.out)
   obtain ⟨N, hN⟩ : ∃ N, N = newN ⟨hc, hf, hs, hd⟩ id R' pos := ⟨_, rfl⟩
   have hX : NdR W ⟨p, sp, gp, q, g, rp, .slice none 0 0, .slice none 0 0, .slice none 0 0⟩ N := by
    have := HX.out
    rw [hN]
    unfold newN
    rw [HSV.out.1, HSV.out.2, ← HXE.out]
    exact this
   have EV9 := Lib.hid (nevent_any _ N 9 W hX)
   have HX2 := Lib.hid hX
   have hid2 : N.id = id := by rw [hN]; rfl
   rw [hid2] at EV9
   have HNN := Lib.hid hN
   unfold Ev.v ev0 at EV9
   dsimp only [zLa] at EV9
   clear hN hX HX hid2
   go_wp2_with fail
   with_reducible refine (EV9.out).mono ?_
   rintro e w10 ⟨rfl, hf10⟩
   have HF10 := Lib.hid (HFW.out.trans hf10)
   have HF10X := Lib.hid hf10
   have HX3 := Lib.hid (HX2.out.keep hf10)
   have HFE := Lib.hid (Fr.alloc w10 (.cells #[.int .i64 9, .int .i64 id, .int .i64 0, .int .i64 0, .int .i64 0, .int .i64 0, .int .i64 0, .int .i64 0, .int .i64 0] 48) [])
   have HOE := Lib.hid (OwnV.one w10 w.heap.size (ev0 9 id 0 0) (Nat.le_trans HF8.out.size (Nat.le_trans (Fr.drew w8 []).size HF10.out.size)))
   unfold ev0 at HOE
   dsimp only [zLa] at HOE
   clear hf10 EV9 HX2
   go_wp2
   generalize w10.alloc _ = W11 at HFE HOE ⊢
   have HFE2 := HF10.out.trans HFE.out
   have hri8 : Rs W11 rp r := (HRS.out.fr HF8.out (by
    obtain ⟨rc, hrow, _⟩ := HRS.out
    have h1 := row_dif hrow HCL.out.1 (by decide)
    have h2 := row_dif hrow HCL.out.2.1 (by decide)
    simp [h1, h2])).keep HFE2
   refine bodyPost_ret (v := .tuple #[.pointer (some ⟨p, 0, none⟩), .slice (some ⟨w10.heap.size, 0, none⟩) 1 1, .nilIface]) (by simp [results, Tryz.results23, go_sem]) rfl (gives ?_)
   unfold Newed
   rw [← HSS.out]
   dsimp only
   refine ⟨HCL8.out.fr HFE2 (by simp) (by simp), HF8.out.trans (HFE2.mono (by simp)), ?_⟩
   rw [if_pos rfl]
   refine ⟨p, sp, gp, _, rfl, HOE.out, ?_, HP9.out⟩
   rw [← HNN.out]
   refine ⟨HX3.out.keep HFE.out, ?_, HCL8.out.fr HFE2 (by simp) (by simp), ?_, hri8, by rw [HNN.out]; exact OwnI.nil _ _, by rw [HNN.out]; exact OwnL.nil _ _, by rw [HNN.out]; exact OwnI.nil _ _, by simp [Value.ownBlock], Nat.le_trans HBB.out.1 HP9.out, HSP.out, Nat.le_trans HBB.out.1 HPG.out, HBB.out.2.1, HBB.out.2.2.1, HBB.out.2.2.2⟩
   · rw [HNN.out]; exact HSR8.out.fr HFE2 (by simp)
   · rw [HNN.out]
     rw [show (newN ⟨hc, hf, hs, hd⟩ id R' pos).ga = ⟨0, 0, 0, max R.c 0⟩ by unfold newN; rw [HSV.out.1]]
     exact HGT'.out.keep (HFX.out.trans (HF10X.out.trans HFE.out))
 | succ k =>
   rw [ev_some] at S1
   go_wp2_with fail
   with_reducible refine (S1.out).mono ?_
   rintro e w8 ⟨rfl, hcl8, hsr8, hf8⟩
   have HCL8 := Lib.hid hcl8
   have HF8 : Hid (Fr w w8 [q, g]) := Lib.hid (HF7.out.comb hf8 (by simp) (fun x hx => by
    have := HSPw.out
    simp only [List.mem_cons, List.not_mem_nil, or_false] at hx ⊢
    rcases hx with rfl | rfl | rfl
    · exact .inr this
    · exact .inl (.inl rfl)
    · exact .inl (.inr rfl)))
   clear hcl8 hsr8 hf8 S1 r0 r1
   go_wp2
   exact bodyPost_ret (v := .tuple #[.pointer none, .slice none 0 0, .iface 417 (.pointer (some (A (k + 1))))]) (by simp [results, Tryz.results23, go_sem]) rfl (gives (by
    unfold Newed
    rw [← HSS.out]
    dsimp only
    exact ⟨HCL8.out, HF8.out, by rw [if_neg (Nat.succ_ne_zero k)]; rfl⟩))
end Go.Proofs.YtiflmkicnkbeaaaGreatDoor
namespace Go.Proofs.YtiflmkicnkbeaaaGreatDoor
open Go.RowKit Fm
def F11 (b : Nat) (f : F) (vm ve : Value) (a : World) : Prop :=
 a.cell? ⟨b, 0, none⟩ = some (.int .i64 f.ki) ∧ a.cell? ⟨b, 1, none⟩ = some (.int .i64 f.fr) ∧ a.cell? ⟨b, 2, none⟩ = some (.int .i64 f.dst) ∧ a.cell? ⟨b, 3, none⟩ = some (.int .i64 f.li) ∧ a.cell? ⟨b, 4, none⟩ = some (.int .i64 f.se) ∧ a.cell? ⟨b, 5, none⟩ = some (.bool f.ou) ∧ a.cell? ⟨b, 6, none⟩ = some (.int .i64 f.rg.co) ∧ a.cell? ⟨b, 7, none⟩ = some (.int .i64 f.rg.fo) ∧ a.cell? ⟨b, 8, none⟩ = some (.int .i64 f.rg.ho) ∧ a.cell? ⟨b, 9, none⟩ = some vm ∧ a.cell? ⟨b, 10, none⟩ = some ve
def fBox (f : F) (vm ve : Value) : Obj := .cells #[.int .i64 f.ki, .int .i64 f.fr, .int .i64 f.dst, .int .i64 f.li, .int .i64 f.se, .bool f.ou, .int .i64 f.rg.co, .int .i64 f.rg.fo, .int .i64 f.rg.ho, vm, ve] 41 (0, 0)
theorem F11.of {a : World} {b : Nat} {f : F} {vm ve : Value} (h : a.heap[b]? = some (fBox f vm ve)) : F11 b f vm ve a :=
 ⟨by rw [cell_of_row _ _ _ _ _ _ h]; rfl, by rw [cell_of_row _ _ _ _ _ _ h]; rfl, by rw [cell_of_row _ _ _ _ _ _ h]; rfl, by rw [cell_of_row _ _ _ _ _ _ h]; rfl, by rw [cell_of_row _ _ _ _ _ _ h]; rfl, by rw [cell_of_row _ _ _ _ _ _ h]; rfl, by rw [cell_of_row _ _ _ _ _ _ h]; rfl, by rw [cell_of_row _ _ _ _ _ _ h]; rfl, by rw [cell_of_row _ _ _ _ _ _ h]; rfl, by rw [cell_of_row _ _ _ _ _ _ h]; rfl, by rw [cell_of_row _ _ _ _ _ _ h]; rfl⟩
def FX (W : World) (m : Mm) (n : Nd) (b : Nat) (f : F) (vm ve : Value) (a : World) : Prop := Fr W a [] ∧ NS m n a ∧ F11 b f vm ve a
theorem FX.of {W a : World} {m : Mm} {n : Nd} {b : Nat} {f : F} {vm ve : Value} (h : NdR W m n) (hb : W.heap[b]? = some (fBox f vm ve)) (k : Fr W a []) : FX W m n b f vm ve a := ⟨k, (h.keep k).ns, F11.of (k.heap hb (by simp))⟩
def Nd.beaten (n : Nd) (f : F) : Nd := if f.fr ≠ n.id ∧ (0 ≤ f.fr ∧ f.fr < 16 ∧ 0 ≤ f.li ∧ 0 ≤ f.se ∧ (n.pe f.fr.toNat).li ≤ f.li) then { n with pe := upP n.pe f.fr.toNat ⟨true, f.ou, f.li, 0⟩, sn := mx n.sn f.se } else n
set_option maxHeartbeats 2000000 in
set_option maxRecDepth 100000 in
theorem nhear_beat (m : Mm) (n : Nd) (f : F) (vm ve : Value) (is : List Nat) (A : Nat → Addr) (B : Nat) (w : World) (h : NdR w m n) (hd : n.dn = false) (hE : EV is w A B) (hs : ∀ i ∈ [2, 3, 6, 10], i ∈ is) (hm : HInts w vm f.rg.ms) (he : HE w ve f.rg.es) (hk : f.ki = 1) (hv : frameC f = 0) (hi : f.dst = n.id) :
 Calls Tryz.prog 14 #[.pointer (some ⟨m.p, 0, none⟩), frV f vm ve, .pointer (some ⟨m.rp, 0, none⟩)] w fun e w' => e = .returned (.tuple #[.slice none 0 0, .slice none 0 0]) ∧ NdR w' m (n.beaten f) ∧ Fr w w' [m.p] := by
 obtain ⟨nh, nid, nR, nli, ncar, npe, nsn, nga, nms, ncl, ncs, nsi, nag, nou, ndn⟩ := n
 obtain ⟨ki, fr, dst, li, se, ou, ⟨rco, rfo, rho, rms, res⟩⟩ := f
 dsimp only at hd hk hi hm he
 subst hd hk hi
 obtain ⟨am, nm, cm, rfl⟩ := ints_sh hm
 obtain ⟨ae, ce, hve⟩ := he.shape
 obtain ⟨ne, hne⟩ : ∃ k, k = res.length := ⟨_, rfl⟩
 rw [← hne] at hve
 subst hve
 clear hne
 have hlt := h.lt
 obtain ⟨N, hN⟩ : ∃ N, N = (⟨nh, dst, nR, nli, ncar, npe, nsn, nga, nms, ncl, ncs, nsi, nag, nou, false⟩ : Nd) := ⟨_, rfl⟩
 have FA := Lib.hid (Fr.alloc w (fBox ⟨1, fr, dst, li, se, ou, ⟨rco, rfo, rho, rms, res⟩⟩ (.slice am nm cm) (.slice ae ne ce)) [])
 have HB := Lib.hid (heap_alloc_new w (fBox ⟨1, fr, dst, li, se, ou, ⟨rco, rfo, rho, rms, res⟩⟩ (.slice am nm cm) (.slice ae ne ce)))
 have HR := Lib.hid (h.keep FA.out)
 have VA0 := Lib.hid (fun W (hW : Fr w W []) => valid_frame ⟨1, fr, dst, li, se, ou, ⟨rco, rfo, rho, rms, res⟩⟩ (.slice am nm cm) (.slice ae ne ce) W A B is (hE.fr hW (by simp)) (hm.keep hW) (he.keep hW) hs)
 rw [hv, show ev A 0 = .nilIface from rfl] at VA0
 unfold frV at VA0 ⊢
 dsimp only [fBox] at VA0 FA HB HR ⊢
 clear h hE hs hm he hv hN N
 go_enter Tryz.func14, Tryz.ntmps14
 go_upto_region 1 with fail
 generalize w.alloc _ = V at FA HB HR ⊢
 obtain ⟨b, hb⟩ : ∃ b, b = w.heap.size := ⟨_, rfl⟩
 rw [← hb] at HB ⊢
 have HBW := Lib.hid (Nat.le_of_eq hb.symm)
 clear hb
 have VA := Lib.hid (fun W (hW : Fr V W []) => VA0.out W (FA.out.trans hW))
 have HS := Lib.hid (FX.of HR.out (f := ⟨1, fr, dst, li, se, ou, ⟨rco, rfo, rho, rms, res⟩⟩) HB.out (Fr.drew V []))
 refine wp_region_det (S := FX V m _ b ⟨1, fr, dst, li, se, ou, ⟨rco, rfo, rho, rms, res⟩⟩ (.slice am nm cm) (.slice ae ne ce)) (by kernel_rfl) HS.out ?_
 refine zDU fun hU => ?_
 try dsimp only [FX,NS,F11] at hU
 refine zD 0 ?_
 refine zD 1 ?_
 refine zD 2 ?_
 refine zD 3 ?_
 refine zD 4 ?_
 refine zD 5 ?_
 refine zD 6 ?_ (hv := by (intro w hSw; go_simp; exact Came.call ((VA.out w hSw.1).mono fun e w' ⟨he, hf⟩ => ⟨he, FX.of HR.out HB.out (hSw.1.trans hf)⟩) (by with_reducible rfl)))
 refine zD 7 ?_
 refine zD 8 ?_
 refine zD 9 ?_
 refine zD 10 ?_
 refine zD 11 ?_
 refine zD 12 ?_
 refine zD 13 ?_
 refine zD 14 ?_
 refine zD 15 ?_
 refine zD 16 ?_
 refine zD 17 ?_
 refine wpDet_done (by kernel_rfl) ?_ _
 rintro w3 ⟨hF, hNS, hF11⟩
 have HF3 := Lib.hid hF
 have HR3 := Lib.hid (HR.out.keep hF)
 have HB3 := Lib.hid (hF.heap HB.out (by simp))
 obtain ⟨y0, y1, y2, y3, y4, y5, y6, y7, y8, y9, y10⟩ := hF11
 have c4 : w3.cell? ⟨m.p, 4, none⟩ = some (.int .i64 dst) := HR3.out.ns.2.2.2.2.1
 dsimp only at y0 y1 y2 y3 y4 y5 y6 y7 y8 y9 y10
 clear hF hNS VA VA0 HS
 by_cases hq : fr = dst
 · have e0 : (fr != dst) = false := by simp [hq]
   have HBE : Hid (Nd.beaten ⟨nh, dst, nR, nli, ncar, npe, nsn, nga, nms, ncl, ncs, nsi, nag, nou, false⟩ ⟨1, fr, dst, li, se, ou, ⟨rco, rfo, rho, rms, res⟩⟩ = ⟨nh, dst, nR, nli, ncar, npe, nsn, nga, nms, ncl, ncs, nsi, nag, nou, false⟩) := Lib.hid (by unfold Nd.beaten; rw [if_neg (fun x => x.1 hq)])
   clear hq
   go_wp2
   go_quiet (fail)
   go_wp2
   go_ret2
   exact ⟨rfl, by rw [HBE.out]; exact HR3.out.keep (Fr.drewN _ _ []), (((FA.out.trans HF3.out).trans (Fr.drewN _ _ [])).mono (by simp))⟩
 · have e0 : (fr != dst) = true := by simp [hq]
   have HQ := Lib.hid hq
   clear hq
   go_wp2
   go_quiet (fail)
   have HF4 := Lib.hid (HF3.out.trans (Fr.drewN w3 nq []))
   have HR4 := Lib.hid (HR3.out.keep (Fr.drewN w3 nq []))
   have HB4 := Lib.hid ((Fr.drewN w3 nq []).heap HB3.out (by simp))
   clear HF3 HR3 HB3 y0 y1 y2 y3 y4 y5 y6 y7 y8 y9 y10 c4 e0
   go_wp2
   generalize w3.drewN nq = w4 at HF4 HR4 HB4 ⊢
   have HS := Lib.hid (show F11 b ⟨1, fr, dst, li, se, ou, ⟨rco, rfo, rho, rms, res⟩⟩ (.slice am nm cm) (.slice ae ne ce) w4.drew from F11.of ((Fr.drew w4 []).heap HB4.out (by simp)))
   have HNB := Lib.hid (show b ≠ m.p from fun e => by
    obtain ⟨cs, hc⟩ := HR4.out.row
    exact row_dif HB4.out hc (by decide) e)
   by_cases hc : 0 ≤ fr ∧ fr < 16 ∧ 0 ≤ li ∧ 0 ≤ se ∧ (npe fr.toNat).li ≤ li
   · have HBE : Hid (Nd.beaten ⟨nh, dst, nR, nli, ncar, npe, nsn, nga, nms, ncl, ncs, nsi, nag, nou, false⟩ ⟨1, fr, dst, li, se, ou, ⟨rco, rfo, rho, rms, res⟩⟩ = ⟨nh, dst, nR, nli, ncar, upP npe fr.toNat ⟨true, ou, li, 0⟩, mx nsn se, nga, nms, ncl, ncs, nsi, nag, nou, false⟩) := Lib.hid (by unfold Nd.beaten; rw [if_pos ⟨HQ.out, hc⟩])
     obtain ⟨k, hk⟩ := Int.eq_ofNat_of_zero_le hc.1
     subst hk
     have HE := Lib.hid (fun W (hW : Fr w4 W []) => hearN_yes m.p 14 _ npe nsn k li se ou W (HR4.out.keep hW) (by omega) hc.2.2.1 hc.2.2.2.1 (by simpa using hc.2.2.2.2))
     rw [Int.toNat_natCast] at HBE
     clear hc HQ
     refine wp_region_noPanic ?_
     refine wp_region_held_drew (S := F11 b ⟨1, (k : Int), dst, li, se, ou, ⟨rco, rfo, rho, rms, res⟩⟩ (.slice am nm cm) (.slice ae ne ce)) (by kernel_rfl) HS.out (fun hHeld => ?_)
     refine zHU fun hU => ?_
     try dsimp only [F11] at hU
     refine zH 0 ?_
     refine zH 1 ?_
     refine zH 2 ?_
     refine zH 3 ?_
     refine zH 4 ?_
     refine zH 5 ?_
     refine zH 6 ?_
     refine zH 7 ?_
     refine zH 8 ?_
     refine zH 9 ?_
     refine zH 10 ?_
     refine wpAnyH_ready (rs := [11]) (by kernel_rfl) (by simp) ?_
     refine AllReadyH.cons (o := _) rfl (fun K hK => ?_) AllReadyH.nil
     go_simp
     ((with_reducible refine (HE.out _ (Fr.drew w4 [])).mono ?_); rintro e w5 ⟨rfl, ht, hf⟩; have HF5 := Lib.hid ((Fr.drew w4 []).comb hf (fun x hx => .inl (by simp at hx)) (fun x hx => .inl hx) : Fr w4 w5 [m.p]); have HT := Lib.hid (show NdR w5 m ⟨nh, dst, nR, nli, ncar, upP npe k ⟨true, ou, li, 0⟩, mx nsn se, nga, nms, ncl, ncs, nsi, nag, nou, false⟩ from ht); have hS2 : F11 b ⟨1, (k : Int), dst, li, se, ou, ⟨rco, rfo, rho, rms, res⟩⟩ (.slice am nm cm) (.slice ae ne ce) w5 := F11.of (HF5.out.heap HB4.out (by simpa using HNB.out)); clear ht hf)
     go_wp2_with fail
     refine hK.out _ _ hS2 (fun hHeld => ?_)
     clear hK K
     try simp only [Act.put, List.setIfInBounds_toArray, List.set_cons_zero, List.set_cons_succ]
     refine wpAnyH_done (by kernel_rfl) ?_ _
     refine NoPanic.normal ?_
     go_wp2
     go_ret2
     exact ⟨rfl, by rw [HBE.out]; exact HT.out, (FA.out.trans HF4.out).comb HF5.out (by simp) (fun x hx => .inl hx)⟩
   · have HBE : Hid (Nd.beaten ⟨nh, dst, nR, nli, ncar, npe, nsn, nga, nms, ncl, ncs, nsi, nag, nou, false⟩ ⟨1, fr, dst, li, se, ou, ⟨rco, rfo, rho, rms, res⟩⟩ = ⟨nh, dst, nR, nli, ncar, npe, nsn, nga, nms, ncl, ncs, nsi, nag, nou, false⟩) := Lib.hid (by unfold Nd.beaten; rw [if_neg (fun x => hc x.2)])
     have HE := Lib.hid (fun W (hW : Fr w4 W []) => hearN_no m.p 14 _ npe nsn fr li se ou W (HR4.out.keep hW) hc)
     clear hc HQ
     refine wp_region_noPanic ?_
     refine wp_region_held_drew (S := F11 b ⟨1, fr, dst, li, se, ou, ⟨rco, rfo, rho, rms, res⟩⟩ (.slice am nm cm) (.slice ae ne ce)) (by kernel_rfl) HS.out (fun hHeld => ?_)
     refine zHU fun hU => ?_
     try dsimp only [F11] at hU
     refine zH 0 ?_
     refine zH 1 ?_
     refine zH 2 ?_
     refine zH 3 ?_
     refine zH 4 ?_
     refine zH 5 ?_
     refine zH 6 ?_
     refine zH 7 ?_
     refine zH 8 ?_
     refine zH 9 ?_
     refine zH 10 ?_
     refine wpAnyH_ready (rs := [11]) (by kernel_rfl) (by simp) ?_
     refine AllReadyH.cons (o := _) rfl (fun K hK => ?_) AllReadyH.nil
     go_simp
     ((with_reducible refine (HE.out _ (Fr.drew w4 [])).mono ?_); rintro e w5 ⟨rfl, hw⟩; have HW := Lib.hid hw; have hS2 : F11 b ⟨1, fr, dst, li, se, ou, ⟨rco, rfo, rho, rms, res⟩⟩ (.slice am nm cm) (.slice ae ne ce) w5 := hw ▸ HS.out; clear hw)
     go_wp2_with fail
     refine hK.out _ _ hS2 (fun hHeld => ?_)
     clear hK K
     try simp only [Act.put, List.setIfInBounds_toArray, List.set_cons_zero, List.set_cons_succ]
     refine wpAnyH_done (by kernel_rfl) ?_ _
     refine NoPanic.normal ?_
     go_wp2
     go_ret2
     exact ⟨rfl, by rw [HBE.out, ← HW.out]; exact HR4.out.keep (Fr.drew _ []), by rw [← HW.out]; exact ((FA.out.trans HF4.out).trans (Fr.drew _ [])).mono (by simp)⟩
end Go.Proofs.YtiflmkicnkbeaaaGreatDoor
namespace Go.Proofs.YtiflmkicnkbeaaaGreatDoor
theorem flr_lev {h : Ho} (k : h.ok) {y : Int} (y0 : 0 ≤ y) (y1 : y < h.f) : 0 ≤ y * h.s ∧ y * h.s ≤ h.top ∧ h.flr (y * h.s) = y ∧ h.lev (y * h.s) := by
 have hs := k.2.2.1.1
 have a : 0 ≤ y * h.s := Int.mul_nonneg y0 (by omega)
 have b : y * h.s ≤ h.top := by
  unfold Ho.top
  exact Int.mul_le_mul_of_nonneg_right (by omega) (by omega)
 have f := flr_is k a b (Int.le_refl _) (by omega)
 exact ⟨a, b, f, (lev_iff k a b f).2 rfl⟩
end Go.Proofs.YtiflmkicnkbeaaaGreatDoor
namespace Go.Proofs.YtiflmkicnkbeaaaGreatDoor
open Go.RowKit
theorem run_ok14 (s : CS) (k : Nat) (c n : Int) (hk : k < 2) (hd : s.d = false) (hl : 26 ≤ s.l.length) (ha : s.a = 0) : s.run (plan k c n) = ({ s with l := setAll s.l (plan k c n), n := s.n + 14 }, 0) := by
 rw [CS.run_fine (plan k c n) s hd (fun o ho => by have := plan_in k c n hk o ho; omega) (.inl ha), plan_len, if_pos ha]
 obtain ⟨l, a, d, m⟩ := s
 simp only at ha
 subst ha
 rfl
theorem SR.save_ok (R : SR) (s : CS) (c n : Int) (hd : s.d = false) (hl : 26 ≤ s.l.length) (ha : s.a = 0) (hc : R.code c n = 0) :
 R.save s c n = ({ s with l := setAll s.l (plan R.spare c n), n := s.n + 14 }, ⟨c, n, (R.spare : Int)⟩, 0) :=
 R.save_yes s _ c n hc (run_ok14 s R.spare c n (by unfold SR.spare; split <;> omega) hd hl ha)
end Go.Proofs.YtiflmkicnkbeaaaGreatDoor
namespace Go.Proofs.YtiflmkicnkbeaaaGreatDoor
open Go.RowKit Fm
theorem fit_zSp (h : Ho) : h.fit zSp = zSp := by simp [Ho.fit, zSp, lowN, clrN]
theorem zSp_is : zSp.ok := ⟨by decide, by decide, by decide⟩
theorem lev_start {h : Ho} (hk : h.ok) : h.lev 0 := by
 have := (flr_lev hk (y := 0) (by omega) (by have := hk.2.1.1; omega)).2.2.2
 simpa using this
theorem start_zero {h : Ho} (hk : h.ok) : startC h 0 = ⟨⟨0, 0, 0, false⟩, 0⟩ := by simp [startC, lev_start hk]
theorem idle_car {h : Ho} (hk : h.ok) (ob : Bool) : (startC h 0).tick h zSp ob = (startC h 0, ⟨false, false, 0, 0, 0, zSp⟩) := by
 obtain ⟨p0, p1, fl, lv⟩ := flr_lev hk (y := 0) (by omega) (by have := hk.2.1.1; omega)
 rw [Int.zero_mul] at p0 p1 fl lv
 have R : RightIs h (Ca.mk ⟨0, 0, 0, false⟩ 0) := ⟨hk, p0, p1, by decide, by decide, show (0 : Int) ≤ 0 by decide, show (0 : Int) ≤ h.d by have := hk.2.2.2.1; omega, fun g => absurd g (show ¬ (0 : Int) < 0 by decide), .inl lv, .inl rfl⟩
 have Z := zero_head zSp_is (show zSp.all = 0 by decide) (f := 0) (d := 0) (by omega) (by omega) (.inl rfl)
 rw [start_zero hk, tick_go R (show ¬ (0 : Int) < 0 by decide) lv ob (by rw [fit_zSp]; show zSp.stop (h.flr 0) 0 = false; rw [fl]; exact Z.2)]
 dsimp only
 rw [fit_zSp, fl, Z.1]
 simp [fl]
theorem ofS_nil : ofS [] [] = zSp := rfl
theorem Nd.leave_idle {n : Nd} (h1 : n.ou = false) (h2 : n.car.x.o = 0) : n.leave = (n, []) := by
 unfold Nd.leave
 rw [if_neg (by rw [h2]; simp), if_neg (by rw [h1]; simp)]
theorem range_but (i : Int) (h0 : 0 ≤ i) (k : Nat) : ((List.range k).filter fun j : Nat => decide ((j : Int) ≠ i)).length = if i < (k : Int) then k - 1 else k := by
 induction k with
 | zero => rw [if_neg (by simp; omega)]; rfl
 | succ k ih =>
   rw [List.range_succ, List.filter_append, List.length_append, ih]
   by_cases e : (k : Int) = i
   · rw [if_neg (by omega), if_pos (by omega)]
     simp [e]
   · by_cases l : i < (k : Int)
     · rw [if_pos l, if_pos (by omega)]
       simp [e]; omega
     · rw [if_neg l, if_neg (by omega)]
       simp [e]
theorem Nd.beats_len {n : Nd} (h0 : 0 ≤ n.id) (h1 : n.id < n.h.c) : n.beats.length = n.h.c.toNat - 1 := by
 unfold Nd.beats Nd.beatsTo
 rw [List.length_map, range_but n.id h0, if_pos (by omega)]
theorem founds_early {n : Nd} (h : n.ag ≤ 4 * n.h.c + 8) : n.founds = false := by
 unfold Nd.founds foundB longB
 rw [decide_eq_false (show ¬ 4 * n.h.c + 8 < n.ag by omega)]
 simp
end Go.Proofs.YtiflmkicnkbeaaaGreatDoor
