import Derived.Test.YtiflmkicnkbeaaaGreatDoorZp01
import Derived.Test.YtiflmkicnkbeaaaGreatDoorZp02
import Derived.Test.YtiflmkicnkbeaaaGreatDoorZp03
import Derived.Test.YtiflmkicnkbeaaaGreatDoorZp04
import Derived.Test.YtiflmkicnkbeaaaGreatDoorZp05
import Derived.Test.YtiflmkicnkbeaaaGreatDoorZp06
import Derived.Test.YtiflmkicnkbeaaaGreatDoorZp07
import Derived.Test.YtiflmkicnkbeaaaGreatDoorZp08
import Derived.Test.YtiflmkicnkbeaaaGreatDoorZp09
import Derived.Test.YtiflmkicnkbeaaaGreatDoorZp10
import Derived.Test.YtiflmkicnkbeaaaGreatDoorZp13
import Derived.Test.YtiflmkicnkbeaaaGreatDoorZp15
import Derived.Test.YtiflmkicnkbeaaaGreatDoorZp16
import Derived.Test.YtiflmkicnkbeaaaGreatDoorZp17
import Derived.Deep.AppendLies
import Derived.Deep.DeepCutAuto
import Derived.Deep.CutBlock
import Derived.Lib.AppendZerosOnto
import Derived.Deep.Upon
import Derived.Deep.RegionHeld3
import Derived.Lib.Walk
import Derived.Shelf.Slices.SearchI
import Derived.Shelf.Slices.Empties
import Derived.Test.YtiflmkicnkbeaaaGreatDoorProg
import Derived.BigRegion
import Derived.OpenShut
import Derived.Lib.ReflectliteSwap
import Derived.Deep.RegionLaw
namespace Go.Proofs.YtiflmkicnkbeaaaGreatDoor
open Go.RowKit Fm
structure Mm where
 p : Nat
 sp : Nat
 gp : Nat
 q : Nat
 g : Nat
 rp : Nat
 vm : Value
 vc : Value
 vp : Value
theorem Tn.c {w : World} {p o : Nat} {Q : Array Value} {f : Nat → Pe} {s : Int} (h : Tn w p o Q f s) (i : Nat) (hi : i < o ∨ o + 65 ≤ i) : w.cell? ⟨p, i, none⟩ = Q[i]? := by
 obtain ⟨cs, h1, h2, h3, h4⟩ := h
 rw [cell_of_row w p _ _ _ _ h1, h4 i hi]
theorem Tn.set {w : World} {p o : Nat} {Q : Array Value} {f : Nat → Pe} {s : Int} (h : Tn w p o Q f s) (j : Nat) (hj : j < o ∨ o + 65 ≤ j) (v : Value) : Tn (w.setCell ⟨p, j, none⟩ v) p o (Q.setIfInBounds j v) f s := by
 obtain ⟨cs, h1, ⟨h2, h3, h4⟩, h5, h6⟩ := h
 refine ⟨_, heap_setCell_same _ _ _ _ _ _ h1, ⟨by simpa using h2, fun i hi => ?_, by rw [Array.getElem?_setIfInBounds_ne (by omega)]; exact h4⟩, by simpa using h5, fun i hi => ?_⟩
 · obtain ⟨a, b, c, d⟩ := h3 i hi
   refine ⟨?_, ?_, ?_, ?_⟩
   all_goals rw [Array.getElem?_setIfInBounds_ne (by omega)]; assumption
 · rw [Array.getElem?_setIfInBounds, Array.getElem?_setIfInBounds, h6 i hi, h5]
def lit (m : Mm) (n : Nd) : Array Value := #[.int .i64 n.h.c, .int .i64 n.h.f, .int .i64 n.h.s, .int .i64 n.h.d, .int .i64 n.id, .int .i64 n.li, .int .i64 n.car.x.p, .int .i64 n.car.x.e, .int .i64 n.car.x.o, .bool n.car.x.r, .int .i64 n.car.k, .bool n.dn, .pointer (some ⟨m.sp, 0, none⟩), .pointer (some ⟨m.gp, 0, none⟩),
 .bool false, .bool false, .bool false, .bool false, .bool false, .bool false, .bool false, .bool false, .bool false, .bool false, .bool false, .bool false, .bool false, .bool false, .bool false, .bool false, .bool false, .bool false, .bool false, .bool false, .bool false, .bool false, .bool false, .bool false, .bool false, .bool false, .bool false, .bool false, .bool false, .bool false, .bool false, .bool false, .bool false, .bool false, .bool false, .bool false, .bool false, .bool false, .bool false, .bool false, .bool false, .bool false, .bool false, .bool false, .bool false, .bool false, .bool false, .bool false, .bool false, .bool false, .bool false, .bool false, .bool false, .bool false, .bool false, .bool false, .bool false, .bool false, .bool false, .bool false, .bool false, .bool false, .bool false, .bool false, .bool false,
 m.vm, m.vc, m.vp, .bool n.ou, .int .i64 n.si, .int .i64 n.ag]
def NdR (w : World) (m : Mm) (n : Nd) : Prop := Tn w m.p 14 (lit m n) n.pe n.sn
theorem NdR.fr {w w' : World} {m : Mm} {n : Nd} {S : List Nat} (h : NdR w m n) (k : Fr w w' S) (hp : m.p ∉ S) : NdR w' m n := Tn.fr h k hp
theorem NdR.keep {w w' : World} {m : Mm} {n : Nd} (h : NdR w m n) (k : Fr w w' []) : NdR w' m n := h.fr k (by simp)
theorem NdR.row {w : World} {m : Mm} {n : Nd} (h : NdR w m n) : ∃ cs, w.heap[m.p]? = some (.cells cs 134 (0, 0)) := h.imp fun _ h => h.1
def NS (m : Mm) (n : Nd) (w : World) : Prop :=
 w.cell? ⟨m.p, 0, none⟩ = some (.int .i64 n.h.c) ∧ w.cell? ⟨m.p, 1, none⟩ = some (.int .i64 n.h.f) ∧ w.cell? ⟨m.p, 2, none⟩ = some (.int .i64 n.h.s) ∧ w.cell? ⟨m.p, 3, none⟩ = some (.int .i64 n.h.d) ∧ w.cell? ⟨m.p, 4, none⟩ = some (.int .i64 n.id) ∧ w.cell? ⟨m.p, 5, none⟩ = some (.int .i64 n.li) ∧ w.cell? ⟨m.p, 6, none⟩ = some (.int .i64 n.car.x.p) ∧ w.cell? ⟨m.p, 7, none⟩ = some (.int .i64 n.car.x.e) ∧ w.cell? ⟨m.p, 8, none⟩ = some (.int .i64 n.car.x.o) ∧ w.cell? ⟨m.p, 9, none⟩ = some (.bool n.car.x.r) ∧ w.cell? ⟨m.p, 10, none⟩ = some (.int .i64 n.car.k) ∧ w.cell? ⟨m.p, 11, none⟩ = some (.bool n.dn) ∧ w.cell? ⟨m.p, 12, none⟩ = some (.pointer (some ⟨m.sp, 0, none⟩)) ∧ w.cell? ⟨m.p, 13, none⟩ = some (.pointer (some ⟨m.gp, 0, none⟩)) ∧ w.cell? ⟨m.p, 79, none⟩ = some m.vm ∧ w.cell? ⟨m.p, 80, none⟩ = some m.vc ∧ w.cell? ⟨m.p, 81, none⟩ = some m.vp ∧ w.cell? ⟨m.p, 82, none⟩ = some (.bool n.ou) ∧ w.cell? ⟨m.p, 83, none⟩ = some (.int .i64 n.si) ∧ w.cell? ⟨m.p, 84, none⟩ = some (.int .i64 n.ag)
theorem NdR.ns {w : World} {m : Mm} {n : Nd} (h : NdR w m n) : NS m n w :=
 ⟨(h.c 0 (by omega)).trans rfl, (h.c 1 (by omega)).trans rfl, (h.c 2 (by omega)).trans rfl, (h.c 3 (by omega)).trans rfl, (h.c 4 (by omega)).trans rfl, (h.c 5 (by omega)).trans rfl, (h.c 6 (by omega)).trans rfl, (h.c 7 (by omega)).trans rfl, (h.c 8 (by omega)).trans rfl, (h.c 9 (by omega)).trans rfl, (h.c 10 (by omega)).trans rfl, (h.c 11 (by omega)).trans rfl, (h.c 12 (by omega)).trans rfl, (h.c 13 (by omega)).trans rfl, (h.c 79 (by omega)).trans rfl, (h.c 80 (by omega)).trans rfl, (h.c 81 (by omega)).trans rfl, (h.c 82 (by omega)).trans rfl, (h.c 83 (by omega)).trans rfl, (h.c 84 (by omega)).trans rfl⟩
theorem NdR.fz {w : World} {m : Mm} {n : Nd} (h : NdR w m n) (i : Nat) : w.frozen? ⟨m.p, i, none⟩ = false := Tn.fz h i
theorem NdR.set {w : World} {m m' : Mm} {n n' : Nd} (h : NdR w m n) (j : Nat) (hj : j < 14 ∨ 14 + 65 ≤ j) (v : Value) (hp : m'.p = m.p) (e : (lit m n).setIfInBounds j v = lit m' n') (h1 : n'.pe = n.pe) (h2 : n'.sn = n.sn) : NdR (w.setCell ⟨m.p, j, none⟩ v) m' n' := by
 have := Tn.set h j hj v
 unfold NdR
 rw [hp, h1, h2, ← e]
 exact this
structure NdW (w : World) (B : Nat) (m : Mm) (n : Nd) (s : CS) (r : RS) : Prop where
 row : NdR w m n
 st : Sr w m.sp m.q n.R
 ce : Cl w m.q m.g s
 ga : Gt w m.gp n.ga
 ri : Rs w m.rp r
 ms : OwnI w B m.vm n.ms
 cl : OwnL w B m.vc n.cl
 cs : OwnI w B m.vp n.cs
 ap : ∀ b, m.vp.ownBlock = some b → m.vm.ownBlock ≠ some b
 lo : B ≤ m.p ∧ B ≤ m.sp ∧ B ≤ m.gp ∧ B ≤ m.q ∧ B ≤ m.g ∧ B ≤ m.rp
theorem NdW.keep {w w' : World} {B : Nat} {m : Mm} {n : Nd} {s : CS} {r : RS} (h : NdW w B m n s r) (k : Fr w w' []) : NdW w' B m n s r :=
 ⟨h.row.keep k, h.st.fr k (by simp), h.ce.fr k (by simp) (by simp), h.ga.keep k, h.ri.keep k, h.ms.keep k, h.cl.keep k, h.cs.keep k, h.ap, h.lo⟩
abbrev NX (W : World) (m : Mm) (n : Nd) (a : World) : Prop := Fr W a [] ∧ NS m n a
theorem NX.of {W a : World} {m : Mm} {n : Nd} (h : NdR W m n) (k : Fr W a []) : NX W m n a := ⟨k, (h.keep k).ns⟩
theorem NX.fr {W a b : World} {m : Mm} {n : Nd} (h : NX W m n a) (hR : NdR W m n) (k : Fr a b []) : NX W m n b := NX.of hR (h.1.trans k)
def Ev.c (e : Ev) : List Value := [.int .i64 e.ki, .int .i64 e.ca, .int .i64 e.la.f, .int .i64 e.la.d, .int .i64 e.la.g, .int .i64 e.ec, .int .i64 e.ef, .int .i64 e.fl, .int .i64 e.di]
abbrev Ev.v (e : Ev) : Value := .agg #[.int .i64 e.ki, .int .i64 e.ca, .int .i64 e.la.f, .int .i64 e.la.d, .int .i64 e.la.g, .int .i64 e.ec, .int .i64 e.ef, .int .i64 e.fl, .int .i64 e.di]
def evC (l : List Ev) : List Value := l.flatMap Ev.c
theorem evC_append (l m : List Ev) : evC (l ++ m) = evC l ++ evC m := by simp [evC]
theorem ev_one (x : Ev) : ∀ u ∈ x.c, u.oneCell' = true := by
 intro u hu
 simp [Ev.c] at hu
 rcases hu with rfl | rfl | rfl | rfl | rfl | rfl | rfl | rfl | rfl <;> rfl
theorem evs_one (l : List Ev) : ∀ u ∈ evC l, u.oneCell' = true := by
 intro u hu
 obtain ⟨x, _, hx⟩ := List.mem_flatMap.1 hu
 exact ev_one x u hx
def OwnV (w : World) (B : Nat) (v : Value) (l : List Ev) : Prop := w.ownsRow B 48 9 v l.length (evC l)
theorem OwnV.nil (w : World) (B : Nat) : OwnV w B (.slice none 0 0) [] := ⟨rfl, .inl ⟨rfl, rfl⟩⟩
theorem OwnV.fr {w w' : World} {B : Nat} {v : Value} {l : List Ev} {S : List Nat} (h : OwnV w B v l) (hg : Fr w w' S) (hne : ∀ r ∈ S, v.ownBlock ≠ some r) : OwnV w' B v l := row_fr h hg hne
theorem OwnV.keep {w w' : World} {B : Nat} {v : Value} {l : List Ev} (h : OwnV w B v l) (hg : Fr w w' []) : OwnV w' B v l := h.fr hg (by simp)
theorem OwnV.mono {w : World} {B B' : Nat} {v : Value} {l : List Ev} (h : OwnV w B v l) (hB : B' ≤ B) : OwnV w B' v l := row_mono h hB
theorem OwnV.block {w : World} {B : Nat} {v : Value} {l : List Ev} (h : OwnV w B v l) : ∀ r, v.ownBlock = some r → B ≤ r ∧ r < w.heap.size := World.ownsRow.lt h
theorem OwnV.shape {w : World} {B : Nat} {v : Value} {l : List Ev} (h : OwnV w B v l) : ∃ a c, v = .slice a l.length c := row_shape h
theorem infoV : (Tryz.prog.info? 48).map (fun i => (i.zero, i.size, i.bytes)) = some (some (.agg #[.int .i64 0, .int .i64 0, .int .i64 0, .int .i64 0, .int .i64 0, .int .i64 0, .int .i64 0, .int .i64 0, .int .i64 0]), 9, 72) := by kernel_rfl
structure FT where
 f : F
 vm : Value
 ve : Value
def FT.c (x : FT) : List Value := [.int .i64 x.f.ki, .int .i64 x.f.fr, .int .i64 x.f.dst, .int .i64 x.f.li, .int .i64 x.f.se, .bool x.f.ou, .int .i64 x.f.rg.co, .int .i64 x.f.rg.fo, .int .i64 x.f.rg.ho, x.vm, x.ve]
def ftC (l : List FT) : List Value := l.flatMap FT.c
theorem ftC_append (l m : List FT) : ftC (l ++ m) = ftC l ++ ftC m := by simp [ftC]
def FT.own (w : World) (B : Nat) (x : FT) : Prop := OwnI w B x.vm x.f.rg.ms ∧ HEO B w x.ve x.f.rg.es
def OwnF (w : World) (B : Nat) (v : Value) (l : List F) : Prop := ∃ xs : List FT, xs.map (·.f) = l ∧ w.ownsRow B 41 11 v xs.length (ftC xs) ∧ ∀ x ∈ xs, x.own w B
theorem OwnF.nil (w : World) (B : Nat) : OwnF w B (.slice none 0 0) [] := ⟨[], rfl, ⟨rfl, .inl ⟨rfl, rfl⟩⟩, by simp⟩
theorem OwnF.keep {w w' : World} {B : Nat} {v : Value} {l : List F} (h : OwnF w B v l) (k : Fr w w' []) : OwnF w' B v l := by
 obtain ⟨xs, h1, h2, h3⟩ := h
 exact ⟨xs, h1, row_fr h2 k (by simp), fun x hx => ⟨(h3 x hx).1.keep k, (h3 x hx).2.keep k⟩⟩
theorem infoFr : (Tryz.prog.info? 41).map (fun i => (i.zero, i.size, i.bytes)) = some (some (.agg #[.int .i64 0, .int .i64 0, .int .i64 0, .int .i64 0, .int .i64 0, .bool false, .int .i64 0, .int .i64 0, .int .i64 0, .slice none 0 0, .slice none 0 0]), 11, 120) := by kernel_rfl
end Go.Proofs.YtiflmkicnkbeaaaGreatDoor
namespace Go.Proofs.YtiflmkicnkbeaaaGreatDoor
open Go.RowKit Fm
theorem NdR.lt {w : World} {m : Mm} {n : Nd} (h : NdR w m n) : m.p < w.heap.size := Tn.lt h
set_option maxRecDepth 100000 in
theorem nevent_any (m : Mm) (n : Nd) (k : Int) (w : World) (h : NdR w m n) :
 Calls Tryz.prog 71 #[.pointer (some ⟨m.p, 0, none⟩), .int .i64 k] w fun e w' => e = .returned (ev0 k n.id 0 0).v ∧ Fr w w' [] := by
 have c4 : w.cell? ⟨m.p, 4, none⟩ = some (.int .i64 n.id) := h.ns.2.2.2.2.1
 have hlt := h.lt
 clear h
 go_enter Tryz.func71, Tryz.ntmps71
 go_wp2
 exact bodyPost_ret (v := (ev0 k n.id 0 0).v) (by simp [results, Tryz.results71, go_sem, ev0, zLa]) rfl ⟨rfl, (Fr.alloc _ _ [])⟩
set_option maxRecDepth 100000 in
theorem ndoor_any (m : Mm) (n : Nd) (w : World) (h : NdR w m n) :
 Calls Tryz.prog 98 #[.pointer (some ⟨m.p, 0, none⟩)] w fun e w' => e = .returned (dv n.car.x.o n.car.k) ∧ Fr w w' [] := by
 obtain ⟨_, _, _, _, _, _, _, _, c8, _, c10, _⟩ := h.ns
 have hlt := h.lt
 clear h
 go_enter Tryz.func98, Tryz.ntmps98
 go_wp2
 go_region
 all_goals
  go_wp2
  exact bodyPost_ret (v := dv n.car.x.o n.car.k) (by simp [results, Tryz.results98, go_sem]) rfl ⟨rfl, ((Fr.alloc _ _ []).trans (Fr.drew _ []))⟩
set_option maxRecDepth 100000 in
theorem nstops_any (m : Mm) (n : Nd) (w : World) (h : NdR w m n) (hc : HInts w m.vp n.cs) (hl : HLs w m.vc n.cl) :
 Calls Tryz.prog 125 #[.pointer (some ⟨m.p, 0, none⟩)] w fun e w' => e = .returned n.sp.v ∧ Fr w w' [] := by
 have HR := Lib.hid h
 have hlt := h.lt
 have AO := Lib.hid (fun W (hW : Fr w W []) => of_any m.vp n.cs m.vc n.cl W (hc.keep hW) (hl.keep hW) n.sp rfl)
 have FA := Lib.hid (Fr.alloc w (.cells #[.int .u64 0, .int .u64 0, .int .u64 0] 214) [])
 have HB := Lib.hid (heap_alloc_new w (.cells #[.int .u64 0, .int .u64 0, .int .u64 0] 214))
 clear h hc hl
 go_enter Tryz.func125, Tryz.ntmps125
 go_wp2
 generalize w.alloc _ = V at FA HB ⊢
 have HS := Lib.hid (NX.of HR.out (FA.out.trans (Fr.drew V [])))
 refine wp_region_noPanic ?_
 refine wp_region_heldL (S := NX w m n) 9 (by kernel_rfl) HS.out (fun hHeld => ?_)
 refine wpHL_take (j := 9) (by decide) (by kernel_rfl) (i := 0) (v := ?fv0h1n2) (by simp only [List.getElem?_toArray, List.getElem?_cons_zero]; rfl) (by kernel_rfl) (by kernel_rfl) (by kernel_rfl) (fun _ _ _ h => h) (Or.inl ⟨by rfl, ?fy0h1n2⟩) (by assumption) ?fr0h1n2
 case fy0h1n2 => (intro w hSw; (try dsimp only [NX, NS] at hSw); go_simp; try with_reducible rfl)
 try simp only [Act.put, List.setIfInBounds_toArray, List.set_cons_zero, List.set_cons_succ]
 refine wpHL_take (j := 9) (by decide) (by kernel_rfl) (i := 1) (v := ?fv1h1n2) (by simp only [List.getElem?_toArray, List.getElem?_cons_zero, List.getElem?_cons_succ]; rfl) (by kernel_rfl) (by kernel_rfl) (by kernel_rfl) (fun _ _ _ h => h) (Or.inl ⟨by rfl, ?fy1h1n2⟩) (by assumption) ?fr1h1n2
 case fy1h1n2 => (intro w hSw; (try dsimp only [NX, NS] at hSw); go_simp; try with_reducible rfl)
 try simp only [Act.put, List.setIfInBounds_toArray, List.set_cons_zero, List.set_cons_succ]
 refine wpHL_take (j := 9) (by decide) (by kernel_rfl) (i := 2) (v := ?fv2h1n2) (by simp only [List.getElem?_toArray, List.getElem?_cons_zero, List.getElem?_cons_succ]; rfl) (by kernel_rfl) (by kernel_rfl) (by kernel_rfl) (fun _ _ _ h => h) (Or.inl ⟨by rfl, ?fy2h1n2⟩) (by assumption) ?fr2h1n2
 case fy2h1n2 => (intro w hSw; (try dsimp only [NX, NS] at hSw); go_simp; try with_reducible rfl)
 try simp only [Act.put, List.setIfInBounds_toArray, List.set_cons_zero, List.set_cons_succ]
 refine wpHL_take (j := 9) (by decide) (by kernel_rfl) (i := 3) (v := ?fv3h1n2) (by simp only [List.getElem?_toArray, List.getElem?_cons_zero, List.getElem?_cons_succ]; rfl) (by kernel_rfl) (by kernel_rfl) (by kernel_rfl) (fun _ _ _ h => h) (Or.inl ⟨by rfl, ?fy3h1n2⟩) (by assumption) ?fr3h1n2
 case fy3h1n2 => (intro w hSw; (try dsimp only [NX, NS] at hSw); go_simp; try with_reducible rfl)
 try simp only [Act.put, List.setIfInBounds_toArray, List.set_cons_zero, List.set_cons_succ]
 refine wpHL_take (j := 9) (by decide) (by kernel_rfl) (i := 4) (v := ?fv4h1n2) (by simp only [List.getElem?_toArray, List.getElem?_cons_zero, List.getElem?_cons_succ]; rfl) (by kernel_rfl) (by kernel_rfl) (by kernel_rfl) (fun _ _ _ h => h) (Or.inl ⟨by rfl, ?fy4h1n2⟩) (by assumption) ?fr4h1n2
 case fy4h1n2 => (intro w hSw; (try dsimp only [NX, NS] at hSw); go_simp; try with_reducible rfl)
 try simp only [Act.put, List.setIfInBounds_toArray, List.set_cons_zero, List.set_cons_succ]
 refine wpHL_take (j := 9) (by decide) (by kernel_rfl) (i := 5) (v := ?fv5h1n2) (by simp only [List.getElem?_toArray, List.getElem?_cons_zero, List.getElem?_cons_succ]; rfl) (by kernel_rfl) (by kernel_rfl) (by kernel_rfl) (fun _ _ _ h => h) (Or.inl ⟨by rfl, ?fy5h1n2⟩) (by assumption) ?fr5h1n2
 case fy5h1n2 => (intro w hSw; (try dsimp only [NX, NS] at hSw); go_simp; try with_reducible rfl)
 try simp only [Act.put, List.setIfInBounds_toArray, List.set_cons_zero, List.set_cons_succ]
 refine wpHL_take (j := 9) (by decide) (by kernel_rfl) (i := 6) (v := ?fv6h1n2) (by simp only [List.getElem?_toArray, List.getElem?_cons_zero, List.getElem?_cons_succ]; rfl) (by kernel_rfl) (by kernel_rfl) (by kernel_rfl) (fun _ _ _ h => h) (Or.inl ⟨by rfl, ?fy6h1n2⟩) (by assumption) ?fr6h1n2
 case fy6h1n2 => (intro w hSw; (try dsimp only [NX, NS] at hSw); go_simp; try with_reducible rfl)
 try simp only [Act.put, List.setIfInBounds_toArray, List.set_cons_zero, List.set_cons_succ]
 refine wpHL_take (j := 9) (by decide) (by kernel_rfl) (i := 7) (v := ?fv7h1n2) (by simp only [List.getElem?_toArray, List.getElem?_cons_zero, List.getElem?_cons_succ]; rfl) (by kernel_rfl) (by kernel_rfl) (by kernel_rfl) (fun _ _ _ h => h) (Or.inl ⟨by rfl, ?fy7h1n2⟩) (by assumption) ?fr7h1n2
 case fy7h1n2 => (intro w hSw; (try dsimp only [NX, NS] at hSw); go_simp; try with_reducible rfl)
 try simp only [Act.put, List.setIfInBounds_toArray, List.set_cons_zero, List.set_cons_succ]
 refine wpHL_ready (rs := [8]) (by kernel_rfl) (by simp) ?_
 refine AllReadyHL.cons (o := _) (by decide) (by simp only [List.getElem?_toArray, List.getElem?_cons_zero, List.getElem?_cons_succ]; rfl) (fun K hK => ?_) AllReadyHL.nil
 go_simp
 ((with_reducible refine (AO.out _ hHeld.1).mono ?_); rintro e w2 ⟨rfl, hf⟩; have HF := Lib.hid ((Fr.drew V []).trans hf); have hS2 := hHeld.fr HR.out hf; clear hf)
 go_wp2_with fail
 refine hK.out _ _ hS2 (fun hHeld => ?_)
 clear hK K
 try simp only [Act.put, List.setIfInBounds_toArray, List.set_cons_zero, List.set_cons_succ]
 clear hS2
 have HF2 := Lib.hid hHeld.1
 have HZ := Lib.hid (HF.out.heap HB.out (by simp))
 clear hHeld
 obtain ⟨z0, z1, z2⟩ := row3 HZ.out
 have f0 := frozen_of_row w2 w.heap.size 0 _ _ HZ.out
 have f1 := frozen_of_row w2 w.heap.size 1 _ _ HZ.out
 have f2 := frozen_of_row w2 w.heap.size 2 _ _ HZ.out
 obtain ⟨e0, e1, e2⟩ := row3 (set3_row HZ.out (.int .u64 n.sp.c) (.int .u64 n.sp.u) (.int .u64 n.sp.d))
 refine wpHL_last (by kernel_rfl) (by kernel_rfl) (by simp only [List.getElem?_toArray, List.getElem?_cons_zero, List.getElem?_cons_succ]; rfl) ?_
 intro K hK
 go_simp
 refine hK.out _ _ ?_
 refine NoPanic.normal ?_
 go_wp2_with fail
 exact bodyPost_ret (v := n.sp.v) (by simp [results, Tryz.results125, go_sem, e0, e1, e2]) rfl ⟨rfl, HF2.out.new (set3_fr _ _ _ _ _) (by intro r hr; obtain rfl := List.mem_singleton.1 hr; exact Nat.le_refl _)⟩
theorem nepoch_any (m : Mm) (n : Nd) (w : World) (h : NdR w m n) (hg : Gt w m.gp n.ga) :
 Calls Tryz.prog 51 #[.pointer (some ⟨m.p, 0, none⟩)] w fun e w' => e = .returned (.agg #[.int .i64 n.ga.c, .int .i64 n.ga.f]) ∧ Fr w w' [] := by
 obtain ⟨_, _, _, _, _, _, _, _, _, _, _, _, _, c13, _⟩ := h.ns
 have hlt := h.lt
 have FA := Lib.hid (Fr.alloc w (.cells #[.int .i64 0, .int .i64 0] 35) [])
 have HB := Lib.hid (heap_alloc_new w (.cells #[.int .i64 0, .int .i64 0] 35))
 have EP := Lib.hid (fun W (hW : Fr w W []) => epoch_any m.gp n.ga W (hg.keep hW))
 clear h hg
 go_enter Tryz.func51, Tryz.ntmps51
 go_wp2_with fail
 with_reducible refine (EP.out _ FA.out).mono ?_
 rintro e w2 ⟨rfl, hf⟩
 have HF2 := Lib.hid (FA.out.trans hf)
 have z := hf.heap HB.out (by simp)
 have z0 : w2.cell? ⟨w.heap.size, 0, none⟩ = some (.int .i64 0) := by rw [cell_of_row _ _ _ _ _ _ z]; rfl
 have z1 : w2.cell? ⟨w.heap.size, 1, none⟩ = some (.int .i64 0) := by rw [cell_of_row _ _ _ _ _ _ z]; rfl
 have f0 := frozen_of_row w2 w.heap.size 0 _ _ z
 have f1 := frozen_of_row w2 w.heap.size 1 _ _ z
 obtain ⟨e0, e1⟩ := brow (show ((w2.setCell ⟨w.heap.size, 0, none⟩ (.int .i64 n.ga.c)).setCell ⟨w.heap.size, 1, none⟩ (.int .i64 n.ga.f)).heap[w.heap.size]? = some (.cells #[.int .i64 n.ga.c, .int .i64 n.ga.f] 35 (0, 0)) from heap_setCell_same _ _ 1 _ _ _ (heap_setCell_same _ _ 0 _ _ _ z))
 clear hf z
 go_wp2
 exact bodyPost_ret (v := .agg #[.int .i64 n.ga.c, .int .i64 n.ga.f]) (by simp [results, Tryz.results51, go_sem, e0, e1]) rfl ⟨rfl, (HF2.out.new ((Fr.setCell w2 w.heap.size 0 _ (S := [w.heap.size]) (by simp)).trans (Fr.setCell _ w.heap.size 1 _ (by simp))) (by intro r hr; obtain rfl := List.mem_singleton.1 hr; exact Nat.le_refl _))⟩
theorem nalive_any (m : Mm) (n : Nd) (w : World) (h : NdR w m n) :
 Calls Tryz.prog 53 #[.pointer (some ⟨m.p, 0, none⟩)] w (Gives fun u w' => OwnI w' w.heap.size u (alV n.pe 16) ∧ Fr w w' []) := by
 have AL := Lib.hid (aliveN_any m.p 14 _ _ _ w h)
 have hlt := h.lt
 clear h
 go_enter Tryz.func53, Tryz.ntmps53
 go_wp2_with fail
 with_reducible refine (AL.out).mono ?_
 rintro e w2 ⟨u, rfl, hu⟩
 have HU := Lib.hid hu
 clear hu
 go_wp2
 go_ret
 exact gives HU.out
theorem nlife_any (m : Mm) (n : Nd) (w : World) (h : NdR w m n) :
 Calls Tryz.prog 49 #[.pointer (some ⟨m.p, 0, none⟩)] w fun e w' => e = .returned (.int .i64 n.li) ∧ w = w' := by
 obtain ⟨_, _, _, _, _, c5, _⟩ := h.ns
 clear h
 go_enter Tryz.func49, Tryz.ntmps49
 go_wp2
 go_ret
 exact ⟨rfl, rfl⟩
set_option maxRecDepth 100000 in
theorem nage_any (m : Mm) (n : Nd) (w : World) (h : NdR w m n) (hA : AgOk n.pe) (h1 : -9223372036854775808 ≤ n.si ∧ n.si < 9223372036854775807) (h2 : -9223372036854775808 ≤ n.ag ∧ n.ag < 9223372036854775807) :
 Calls Tryz.prog 59 #[.pointer (some ⟨m.p, 0, none⟩)] w fun e w' => e = .returned (.tuple #[]) ∧ NdR w' m n.aged ∧ Fr w w' [m.p] := by
 have TK := Lib.hid (tickN_any m.p 14 _ _ _ w h hA)
 have hlt := h.lt
 clear h hA
 have W1 : IntKind.i64.wrap (n.si + 1) = n.si + 1 := IntWalk.i64_in _ (by omega)
 have W2 : IntKind.i64.wrap (n.ag + 1) = n.ag + 1 := IntWalk.i64_in _ (by omega)
 clear h1 h2
 go_enter Tryz.func59, Tryz.ntmps59
 go_wp2_with fail
 with_reducible refine (TK.out).mono ?_
 rintro e w2 ⟨rfl, ht, hf⟩
 have HT : Hid (NdR w2 m { n with pe := tkP n.pe }) := Lib.hid ht
 have HF := Lib.hid hf
 have c83 : w2.cell? ⟨m.p, 83, none⟩ = some (.int .i64 n.si) := HT.out.ns.2.2.2.2.2.2.2.2.2.2.2.2.2.2.2.2.2.2.1
 have c84 : w2.cell? ⟨m.p, 84, none⟩ = some (.int .i64 n.ag) := HT.out.ns.2.2.2.2.2.2.2.2.2.2.2.2.2.2.2.2.2.2.2
 have f83 := HT.out.fz 83
 have f84 := HT.out.fz 84
 have HE := Lib.hid (show NdR ((w2.setCell ⟨m.p, 83, none⟩ (.int .i64 (n.si + 1))).setCell ⟨m.p, 84, none⟩ (.int .i64 (n.ag + 1))) m n.aged from (HT.out.set (m' := m) (n' := { n with pe := tkP n.pe, si := n.si + 1 }) 83 (by omega) _ rfl rfl rfl rfl).set (m' := m) (n' := n.aged) 84 (by omega) _ rfl rfl rfl rfl)
 have HG := Lib.hid ((hf.trans (Fr.setCell w2 m.p 83 (.int .i64 (n.si + 1)) (by simp))).trans (Fr.setCell _ m.p 84 (.int .i64 (n.ag + 1)) (by simp)))
 clear ht hf HT HF
 go_wp2
 go_end0
 exact ⟨rfl, HE.out, HG.out⟩
end Go.Proofs.YtiflmkicnkbeaaaGreatDoor
namespace Go.Proofs.YtiflmkicnkbeaaaGreatDoor
open Go.RowKit Fm
theorem OwnV.one (w : World) (B : Nat) (x : Ev) (h : B ≤ w.heap.size) : OwnV (w.alloc (.cells #[.int .i64 x.ki, .int .i64 x.ca, .int .i64 x.la.f, .int .i64 x.la.d, .int .i64 x.la.g, .int .i64 x.ec, .int .i64 x.ef, .int .i64 x.fl, .int .i64 x.di] 48)) B (.slice (some ⟨w.heap.size, 0, none⟩) 1 1) [x] :=
 ⟨rfl, .inr ⟨w.heap.size, 1, _, rfl, h, heap_alloc_new _ _, Nat.le_refl _, by decide, rfl, rfl⟩⟩
theorem OwnV.past {w : World} {B p : Nat} {v : Value} {l : List Ev} {cs : Array Value} {T : TypeId} {fz : Nat × Nat} (h : OwnV w B v l) {w' : World} (hg : Fr w w' [p]) (hp : w.heap[p]? = some (.cells cs T fz)) (hT : T ≠ 48) : OwnV w' B v l :=
 h.fr hg (by intro r hr; obtain rfl := List.mem_singleton.1 hr; exact row_ne h hp hT)
def leaveM (m : Mm) (n : Nd) : Mm := if n.ou = false ∧ 0 < n.car.x.o ∧ 3 * n.h.d < n.car.k then { m with vc := .slice none 0 0 } else m
set_option maxHeartbeats 1000000 in
set_option maxRecDepth 100000 in
theorem nwithdraw_any (m : Mm) (n : Nd) (w : World) (h : NdR w m n) (hk : -9223372036854775808 ≤ n.car.k ∧ n.car.k ≤ 9223372036854775807) :
 Calls Tryz.prog 58 #[.pointer (some ⟨m.p, 0, none⟩)] w (Gives fun u w' => OwnV w' w.heap.size u n.leave.2 ∧ NdR w' (leaveM m n) n.leave.1 ∧ Fr w w' [m.p]) := by
 obtain ⟨b, hb⟩ : ∃ b, b = decide (0 < n.car.x.o ∧ 3 * n.h.d < n.car.k) := ⟨_, rfl⟩
 obtain ⟨op, hop⟩ : ∃ b, b = decide (0 < n.car.x.o) := ⟨_, rfl⟩
 have HLE := Lib.hid (show n.ou = false → b = true → n.leave = ({ n with ou := true, cl := [] }, [ev0 10 n.id 0 0]) ∧ leaveM m n = { m with vc := .slice none 0 0 } from fun q g => by
  rw [hb] at g; have g := of_decide_eq_true g
  exact ⟨by unfold Nd.leave; rw [if_pos ⟨q, g⟩], by unfold leaveM; rw [if_pos ⟨q, g⟩]⟩)
 have HL1 := Lib.hid (show n.ou = false → b = false → n.leave = (n, []) ∧ leaveM m n = m from fun q g => by
  rw [hb] at g; have g := of_decide_eq_false g
  exact ⟨by unfold Nd.leave; rw [if_neg (fun x => g x.2), if_neg (fun x => by rw [q] at x; exact absurd x.1 (by decide))], by unfold leaveM; rw [if_neg (fun x => g x.2)]⟩)
 have HL2 := Lib.hid (show n.ou = true → op = false → n.leave = ({ n with ou := false }, [ev0 11 n.id 0 0]) ∧ leaveM m n = m from fun q g => by
  rw [hop] at g; have g := of_decide_eq_false g
  exact ⟨by unfold Nd.leave; rw [if_neg (fun x => by rw [q] at x; exact absurd x.1 (by decide)), if_pos ⟨q, g⟩], by unfold leaveM; rw [if_neg (fun x => by rw [q] at x; exact absurd x.1 (by decide))]⟩)
 have HL3 := Lib.hid (show n.ou = true → op = true → n.leave = (n, []) ∧ leaveM m n = m from fun q g => by
  rw [hop] at g; have g := of_decide_eq_true g
  exact ⟨by unfold Nd.leave; rw [if_neg (fun x => by rw [q] at x; exact absurd x.1 (by decide)), if_neg (fun x => x.2 g)], by unfold leaveM; rw [if_neg (fun x => by rw [q] at x; exact absurd x.1 (by decide))]⟩)
 have HR := Lib.hid h
 have hlt := h.lt
 have DO := Lib.hid (fun W (hW : Fr w W []) => ndoor_any m n W (h.keep hW))
 have SK := Lib.hid (fun W => stuck_any n.car.x.o n.car.k n.h.d W b hb hk.1 hk.2)
 have IS := Lib.hid (fun W => dis_any n.car.x.o n.car.k W op hop)
 have HS := Lib.hid (NX.of h (Fr.drew w []))
 clear h hk hb hop
 obtain ⟨ou, hou⟩ : ∃ b, b = n.ou := ⟨_, rfl⟩
 cases ou with
 | true =>
   have HOU := Lib.hid hou
   unfold dv at DO IS SK
   have HS2 : Hid (NX w m { n with ou := true } w.drew) := by show NX _ _ _ _; have := HS.out; unfold NX NS at this ⊢; rw [← hou] at this; exact this
   clear hou
   go_enter Tryz.func58, Tryz.ntmps58
   go_wp2
   refine wp_region_det (S := NX w m { n with ou := true }) (by kernel_rfl) HS2.out ?_
   refine zDU fun hU => ?_
   try dsimp only [NX,NS] at hU
   refine zD 0 ?_
   refine zD 1 ?_
   refine zD 2 ?_
   refine zD 3 ?_
   refine zD 4 ?_
   refine zD 5 ?_
   refine zDs 6 ?_
   refine zDs 7 ?_
   refine zDs 8 ?_
   refine zDs 9 ?_
   refine zDs 10 ?_
   refine zDs 11 ?_
   refine zDs 12 ?_
   refine zDs 13 ?_
   refine zD 14 ?_
   refine zD 15 ?_
   refine wpDet_done (by kernel_rfl) ?_ _
   rintro w3 ⟨hF, hN⟩
   have HF3 := Lib.hid hF
   have c82 : w3.cell? ⟨m.p, 82, none⟩ = some (.bool true) := hN.2.2.2.2.2.2.2.2.2.2.2.2.2.2.2.2.2.1
   have D3 := Lib.hid (DO.out w3 hF)
   clear hF hN DO SK HS HS2
   go_wp2_with fail
   with_reducible refine (D3.out).mono ?_
   rintro e w4 ⟨rfl, hf⟩
   have HF4 := Lib.hid (HF3.out.trans hf)
   clear hf D3 HF3 c82
   go_wp2_with fail
   with_reducible refine (IS.out _).mono ?_
   rintro e w5 ⟨rfl, hf⟩
   have HF5 := Lib.hid (HF4.out.trans hf)
   clear hf IS HF4
   cases op with
   | true =>
     have HE := HL3.out HOU.out.symm rfl
     clear HL1 HL2 HL3 HLE
     go_wp2
     go_ret
     exact gives (by rw [HE.1, HE.2]; exact ⟨OwnV.nil _ _, HR.out.keep HF5.out, HF5.out.mono (by simp)⟩)
   | false =>
     have HE := Lib.hid (HL2.out HOU.out.symm rfl)
     clear HL1 HL2 HL3 HLE
     have HR5 := Lib.hid (HR.out.keep HF5.out)
     have c82 : w5.cell? ⟨m.p, 82, none⟩ = some (.bool n.ou) := HR5.out.ns.2.2.2.2.2.2.2.2.2.2.2.2.2.2.2.2.2.1
     have f82 := HR5.out.fz 82
     have HR6 := Lib.hid (HR5.out.set (m' := m) (n' := { n with ou := false }) 82 (by omega) (.bool false) rfl rfl rfl rfl)
     have HF6 := Lib.hid ((HF5.out.mono (T := [m.p]) (by simp)).trans (Fr.setCell w5 m.p 82 (.bool false) (by simp)))
     have EV6 := Lib.hid (nevent_any m { n with ou := false } 11 _ HR6.out)
     unfold Ev.v ev0 at EV6
     dsimp only [zLa] at EV6
     clear HR5
     go_wp2_with fail
     with_reducible refine (EV6.out).mono ?_
     rintro e w7 ⟨rfl, hf⟩
     have HR7 := Lib.hid (HR6.out.keep hf)
     have HF7 := Lib.hid (HF6.out.trans (hf.mono (by simp)))
     clear hf EV6 c82 f82 HR6 HF6 HF5
     go_wp2
     go_ret
     exact gives (by
      rw [HE.out.1, HE.out.2]
      have q := Fr.alloc w7 (.cells #[.int .i64 11, .int .i64 n.id, .int .i64 0, .int .i64 0, .int .i64 0, .int .i64 0, .int .i64 0, .int .i64 0, .int .i64 0] 48) []
      exact ⟨OwnV.one w7 _ (ev0 11 n.id 0 0) HF7.out.size, HR7.out.keep q, HF7.out.trans (q.mono (by simp))⟩)
 | false =>
   have HOU := Lib.hid hou
   unfold dv at DO IS SK
   have HS2 : Hid (NX w m { n with ou := false } w.drew) := by show NX _ _ _ _; have := HS.out; unfold NX NS at this ⊢; rw [← hou] at this; exact this
   have HR' : Hid (NdR w m { n with ou := false }) := by show NdR _ _ _; have := HR.out; unfold NdR lit at this ⊢; rw [← hou] at this; exact this
   clear hou
   go_enter Tryz.func58, Tryz.ntmps58
   go_wp2
   refine wp_region_det (S := NX w m { n with ou := false }) (by kernel_rfl) HS2.out ?_
   refine zDU fun hU => ?_
   try dsimp only [NX,NS] at hU
   refine zD 0 ?_
   refine zD 1 ?_
   refine zD 2 ?_
   refine zD 3 ?_
   refine zD 4 ?_
   refine zD 5 ?_
   refine zD 6 ?_
   refine zD 7 ?_ (hv := by (intro w hSw; go_simp; exact Came.call ((DO.out w hSw.1).mono fun e w' ⟨he, hf⟩ => ⟨he, hSw.fr HR'.out hf⟩) (by with_reducible rfl)))
   refine zD 8 ?_
   refine zD 9 ?_
   refine zD 10 ?_
   refine zD 11 ?_
   refine zD 12 ?_
   refine zD 13 ?_ (hv := by (intro w hSw; go_simp; exact Came.call ((SK.out w).mono fun e w' ⟨he, hf⟩ => ⟨he, hSw.fr HR'.out hf⟩) (by with_reducible rfl)))
   refine zD 14 ?_
   refine zD 15 ?_
   refine wpDet_done (by kernel_rfl) ?_ _
   rintro w3 ⟨hF, hN⟩
   have HF3 := Lib.hid hF
   have c82 : w3.cell? ⟨m.p, 82, none⟩ = some (.bool false) := hN.2.2.2.2.2.2.2.2.2.2.2.2.2.2.2.2.2.1
   have HR3 := Lib.hid (HR.out.keep hF)
   clear hF hN DO SK HS HS2 IS HR'
   cases b with
   | true =>
     have HE := Lib.hid (HLE.out HOU.out.symm rfl)
     clear HL1 HL2 HL3 HLE
     have c80 : w3.cell? ⟨m.p, 80, none⟩ = some m.vc := HR3.out.ns.2.2.2.2.2.2.2.2.2.2.2.2.2.2.2.1
     have f82 := HR3.out.fz 82
     have f80 := HR3.out.fz 80
     have HR6 := Lib.hid ((HR3.out.set (m' := m) (n' := { n with ou := true }) 82 (by omega) (.bool true) rfl rfl rfl rfl).set (m' := { m with vc := .slice none 0 0 }) (n' := { n with ou := true, cl := [] }) 80 (by omega) (.slice none 0 0) rfl rfl rfl rfl)
     have HF6 := Lib.hid (((HF3.out.mono (T := [m.p]) (by simp)).trans (Fr.setCell w3 m.p 82 (.bool true) (by simp))).trans (Fr.setCell _ m.p 80 (.slice none 0 0) (by simp)))
     have EV6 := Lib.hid (nevent_any { m with vc := .slice none 0 0 } { n with ou := true, cl := [] } 10 _ HR6.out)
     unfold Ev.v ev0 at EV6
     dsimp only [zLa] at EV6
     clear HR3
     go_wp2_with fail
     with_reducible refine (EV6.out).mono ?_
     rintro e w7 ⟨rfl, hf⟩
     have HR7 := Lib.hid (HR6.out.keep hf)
     have HF7 := Lib.hid (HF6.out.trans (hf.mono (by simp)))
     clear hf EV6 c82 c80 f82 f80 HR6 HF6 HF3
     go_wp2
     go_ret
     exact gives (by
      rw [HE.out.1, HE.out.2]
      have q := Fr.alloc w7 (.cells #[.int .i64 10, .int .i64 n.id, .int .i64 0, .int .i64 0, .int .i64 0, .int .i64 0, .int .i64 0, .int .i64 0, .int .i64 0] 48) []
      exact ⟨OwnV.one w7 _ (ev0 10 n.id 0 0) HF7.out.size, HR7.out.keep q, HF7.out.trans (q.mono (by simp))⟩)
   | false =>
     have HE := HL1.out HOU.out.symm rfl
     clear HL1 HL2 HL3 HLE
     go_wp2
     go_ret
     exact gives (by rw [HE.1, HE.2]; exact ⟨OwnV.nil _ _, HR3.out, HF3.out.mono (by simp)⟩)
def tellL (id : Int) (d : Dn) : List Ev := if d.cl = true then [ev0 6 id d.fl 0] else if d.mv ≠ 0 then [ev0 7 id d.fl d.mv] else if d.op = true then [ev0 5 id d.fl d.la] else []
theorem Fr.drewT {w w' : World} {S : List Nat} (h : Fr w w' S) : Fr w w'.drew S := h.trans (Fr.drew _ S)
set_option maxHeartbeats 1000000 in
set_option maxRecDepth 100000 in
theorem ntell_any (m : Mm) (n : Nd) (d : Dn) (w : World) (h : NdR w m n) :
 Calls Tryz.prog 126 #[.pointer (some ⟨m.p, 0, none⟩), d.v] w (Gives fun u w' => OwnV w' w.heap.size u (tellL n.id d) ∧ Fr w w' []) := by
 obtain ⟨op, cl, fl, la, mv, st⟩ := d
 have c4 : w.cell? ⟨m.p, 4, none⟩ = some (.int .i64 n.id) := h.ns.2.2.2.2.1
 have hlt := h.lt
 clear h
 unfold tellL
 dsimp only [Dn.v]
 have FA := Lib.hid (Fr.alloc w (.cells #[.bool op, .bool cl, .int .i64 fl, .int .i64 la, .int .i64 mv, .int .u64 st.c, .int .u64 st.u, .int .u64 st.d] 216) [])
 have HB := Lib.hid (row8 (heap_alloc_new w (.cells #[.bool op, .bool cl, .int .i64 fl, .int .i64 la, .int .i64 mv, .int .u64 st.c, .int .u64 st.u, .int .u64 st.d] 216)))
 have c4' := FA.out.cell c4 (by simp)
 have HSZ := Lib.hid FA.out.size
 clear c4
 have KEY : Hid (∀ (V : World) (x : Ev), Fr w V [] → OwnV (V.alloc (.cells #[.int .i64 x.ki, .int .i64 x.ca, .int .i64 x.la.f, .int .i64 x.la.d, .int .i64 x.la.g, .int .i64 x.ec, .int .i64 x.ef, .int .i64 x.fl, .int .i64 x.di] 48)) w.heap.size (.slice (some ⟨V.heap.size, 0, none⟩) 1 1) [x] ∧ Fr w (V.alloc (.cells #[.int .i64 x.ki, .int .i64 x.ca, .int .i64 x.la.f, .int .i64 x.la.d, .int .i64 x.la.g, .int .i64 x.ec, .int .i64 x.ef, .int .i64 x.fl, .int .i64 x.di] 48)) []) :=
  Lib.hid (fun V x k => ⟨OwnV.one V _ x k.size, k.trans (Fr.alloc _ _ [])⟩)
 cases cl with
 | true =>
   go_enter Tryz.func126, Tryz.ntmps126
   go_upto_region 1 with fail
   generalize w.alloc _ = V at FA HB HSZ c4' ⊢
   generalize w.heap.size = p at HB ⊢
   obtain ⟨y0, y1, y2, y3, y4, y5, y6, y7⟩ := HB.out
   go_wp2
   go_region
   all_goals
    go_wp2
    go_ret
    exact gives ⟨(KEY.out V (ev0 6 n.id fl 0) FA.out).1.keep (Fr.drew _ []), (KEY.out V (ev0 6 n.id fl 0) FA.out).2.drewT⟩
 | false =>
   by_cases hm : mv = 0
   · subst hm
     have e0 : ((0 : Int) != 0) = false := by decide
     cases op with
     | true =>
       go_enter Tryz.func126, Tryz.ntmps126
       go_upto_region 1 with fail
       generalize w.alloc _ = V at FA HB HSZ c4' ⊢
       generalize w.heap.size = p at HB ⊢
       obtain ⟨y0, y1, y2, y3, y4, y5, y6, y7⟩ := HB.out
       go_wp2
       go_quiet (fail)
       go_wp2
       go_region
       all_goals
        go_wp2
        go_ret
        first | exact gives (KEY.out (V.drewN (nq + 1)) (ev0 5 n.id fl la) (FA.out.trans (Fr.drewN _ _ []))) | exact gives ⟨(KEY.out (V.drewN nq) (ev0 5 n.id fl la) (FA.out.trans (Fr.drewN _ _ []))).1.keep (Fr.drew _ []), (KEY.out (V.drewN nq) (ev0 5 n.id fl la) (FA.out.trans (Fr.drewN _ _ []))).2.drewT⟩
     | false =>
       go_enter Tryz.func126, Tryz.ntmps126
       go_upto_region 1 with fail
       generalize w.alloc _ = V at FA HB HSZ c4' ⊢
       generalize w.heap.size = p at HB ⊢
       obtain ⟨y0, y1, y2, y3, y4, y5, y6, y7⟩ := HB.out
       go_wp2
       go_ret
       exact gives ⟨OwnV.nil _ _, FA.out⟩
   · have hm' : (mv != 0) = true := by simpa using hm
     have HT : Hid (tellL n.id ⟨op, false, fl, la, mv, st⟩ = [ev0 7 n.id fl mv]) := Lib.hid (by unfold tellL; simp [hm])
     unfold tellL at HT
     dsimp only at HT
     rw [HT.out]
     clear hm HT
     go_enter Tryz.func126, Tryz.ntmps126
     go_upto_region 1 with fail
     generalize w.alloc _ = V at FA HB HSZ c4' ⊢
     generalize w.heap.size = p at HB ⊢
     obtain ⟨y0, y1, y2, y3, y4, y5, y6, y7⟩ := HB.out
     go_wp2
     go_quiet (fail)
     go_wp2
     go_region
     all_goals
      go_wp2
      go_ret
      first | exact gives (KEY.out (V.drewN (nq + 1)) (ev0 7 n.id fl mv) (FA.out.trans (Fr.drewN _ _ []))) | exact gives ⟨(KEY.out (V.drewN nq) (ev0 7 n.id fl mv) (FA.out.trans (Fr.drewN _ _ []))).1.keep (Fr.drew _ []), (KEY.out (V.drewN nq) (ev0 7 n.id fl mv) (FA.out.trans (Fr.drewN _ _ []))).2.drewT⟩
end Go.Proofs.YtiflmkicnkbeaaaGreatDoor
namespace Go.Proofs.YtiflmkicnkbeaaaGreatDoor
open Go.RowKit Fm
set_option maxRecDepth 100000 in
theorem row_app (t e : TypeId) (i : TypeInfo) (z : Value) (size bytes : Nat) (ht : Tryz.prog.underlying t = some (.slice e)) (hi : Tryz.prog.info? e = some i) (hz : i.zero = some z) (hsize : i.size = size) (hby : i.bytes = bytes) (hzs : z.cells.size = size) (hsz : 0 < size) (hb : bytes ≤ 1000)
 (w : World) (B B2 : Nat) (v u : Value) (n m : Nat) (xs news : List Value) (hv : w.ownsRow B e size v n xs) (hu : w.ownsRow B2 e size u m news) (h1 : ∀ x ∈ news, x.oneCell' = true) (hB : B ≤ w.heap.size) (hn : n ≤ 1000000) (hm : m ≤ 1000000) :
 ∃ v' w', (∀ ty, (Builtin.append_ #[t, t] ty #[v, u]).run Tryz.prog w = .ok v' w') ∧ w'.ownsRow B e size v' (n + m) (xs ++ news) ∧ w.grownBy w' v.ownBlock ∧ (v'.ownBlock = v.ownBlock ∨ v'.ownBlock = some w.heap.size) := by
 obtain ⟨a, c, rfl⟩ := row_shape hu
 cases a with
 | none =>
   rcases hu.2 with ⟨he, h0⟩ | ⟨g, cap, cur, he, _⟩
   · simp only [Value.slice.injEq] at he
     obtain ⟨_, rfl, rfl⟩ := he
     have : news = [] := List.eq_nil_of_length_eq_zero (by have := hu.1; omega)
     subst this
     exact ⟨v, w, fun ty => run_append_owned_none (P := Tryz.prog) (w := w) B t ty e i size ht hi v n xs hv, by simpa using hv, grown_refl _ _, .inl rfl⟩
   · simp at he
 | some ad =>
   have hc : ∀ j x, news[j]? = some x → w.cell? (ad.add j) = some x := by
    intro j x hx
    rcases hu.2 with ⟨he, _⟩ | ⟨g, cap, cur, he, _⟩
    · simp at he
    · simp only [Value.slice.injEq, Option.some.injEq] at he
      obtain ⟨rfl, _, rfl⟩ := he
      have h2 := World.ownsRow.cellAt hu j (by have h3 := (List.getElem?_eq_some_iff.1 hx).1; rw [hu.1] at h3; exact h3)
      rw [Addr.add_lit, Nat.zero_add, h2]
      exact hx
   have hnb : (n + m) * bytes ≤ 140737488355328 := Nat.le_trans (Nat.mul_le_mul (show n + m ≤ 2000000 by omega) hb) (by decide)
   obtain ⟨v', w', hr, h2, h3, _, h5⟩ := run_append_own_at (P := Tryz.prog) w B t 0 e i z size bytes ht hi hz hsize hby hzs hsz v n xs hv ad m c news hu.1 hc h1 (by unfold maxLen; omega) hnb hB
   exact ⟨v', w', fun ty => hr, h2, h3, h5⟩
theorem fr_of_own {w w' : World} {v : Value} (h : w.grownBy w' v.ownBlock) : Fr w w' v.ownBlock.toList := by
 cases e : v.ownBlock with
 | none => rw [e] at h; exact Fr.of_grown h _
 | some g => rw [e] at h; exact Fr.of_grown_row h (by simp)
theorem appV (w : World) (B B2 : Nat) (v u : Value) (L M : List Ev) (hv : OwnV w B v L) (hu : OwnV w B2 u M) (hB : B ≤ w.heap.size) (hn : L.length ≤ 1000000) (hm : M.length ≤ 1000000) :
 ∃ v' w', (∀ ty, (Builtin.append_ #[31, 31] ty #[v, u]).run Tryz.prog w = .ok v' w') ∧ OwnV w' B v' (L ++ M) ∧ Fr w w' v.ownBlock.toList ∧ (v'.ownBlock = v.ownBlock ∨ v'.ownBlock = some w.heap.size) := by
 obtain ⟨i0, hi, hz0, hz1, hz2⟩ := info_parts infoV
 obtain ⟨v', w', h1, h2, h3, h4⟩ := row_app 31 48 i0 _ 9 72 Tryz.underlying31 hi hz0 hz1 hz2 rfl (by decide) (by decide) w B B2 v u _ _ _ _ hv hu (evs_one M) hB hn hm
 exact ⟨v', w', h1, by unfold OwnV; rw [evC_append, List.length_append]; exact h2, fr_of_own h3, h4⟩
theorem ft_one {w : World} {B : Nat} (x : FT) (h : x.own w B) : ∀ u ∈ x.c, u.oneCell' = true := by
 obtain ⟨a, c, e1⟩ := row_shape h.1
 obtain ⟨xs, h2, _⟩ := h.2
 obtain ⟨a2, c2, e2⟩ := h2.shape
 intro u hu
 simp [FT.c, e1, e2] at hu
 rcases hu with rfl | rfl | rfl | rfl | rfl | rfl | rfl | rfl | rfl | rfl | rfl <;> rfl
theorem FT.own.past {w w' : World} {B : Nat} {x : FT} {S : List Nat} (h : x.own w B) (k : Fr w w' S) (hS : ∀ p ∈ S, NoRg w p) : x.own w' B :=
 ⟨h.1.fr k (fun p hp => by obtain ⟨cs, T, hc, a, _⟩ := hS p hp; exact row_ne h.1 hc a), h.2.fr k hS⟩
theorem OwnF.noRg {w : World} {B : Nat} {v : Value} {l : List F} (h : OwnF w B v l) : ∀ p ∈ v.ownBlock.toList, NoRg w p := by
 obtain ⟨xs, _, h2, _⟩ := h
 intro p hp
 rcases h2.2 with ⟨rfl, _⟩ | ⟨g, cap, cur, rfl, _, hg, _⟩
 · simp [Value.ownBlock] at hp
 · simp [Value.ownBlock] at hp
   subst hp
   exact ⟨_, _, hg, by decide, by decide, by decide⟩
theorem appF (w : World) (B B2 : Nat) (v u : Value) (L M : List F) (hv : OwnF w B v L) (hu : OwnF w B2 u M) (hB : B ≤ w.heap.size) (hB2 : B ≤ B2) (hn : L.length ≤ 1000000) (hm : M.length ≤ 1000000) :
 ∃ v' w', (∀ ty, (Builtin.append_ #[30, 30] ty #[v, u]).run Tryz.prog w = .ok v' w') ∧ OwnF w' B v' (L ++ M) ∧ Fr w w' v.ownBlock.toList ∧ (v'.ownBlock = v.ownBlock ∨ v'.ownBlock = some w.heap.size) := by
 have hno := hv.noRg
 obtain ⟨xs, rfl, h2, h3⟩ := hv
 obtain ⟨ys, rfl, g2, g3⟩ := hu
 obtain ⟨i0, hi, hz0, hz1, hz2⟩ := info_parts infoFr
 obtain ⟨v', w', q1, q2, q3, q4⟩ := row_app 30 41 i0 _ 11 120 Tryz.underlying30 hi hz0 hz1 hz2 rfl (by decide) (by decide) w B B2 v u _ _ _ _ h2 g2 (by
  intro x hx
  obtain ⟨y, hy, hx⟩ := List.mem_flatMap.1 hx
  exact ft_one y (g3 y hy) x hx) hB (by simpa using hn) (by simpa using hm)
 have hf := fr_of_own q3
 refine ⟨v', w', q1, ⟨xs ++ ys, by simp, by rw [ftC_append, List.length_append]; exact q2, fun x hx => ?_⟩, hf, q4⟩
 rcases List.mem_append.1 hx with hx | hx
 · exact (h3 x hx).past hf hno
 · have h := (g3 x hx).past hf hno
   exact ⟨h.1.mono hB2, by obtain ⟨zs, a, b⟩ := h.2; exact ⟨zs, a.mono hB2, b⟩⟩
set_option maxHeartbeats 1000000 in
set_option maxRecDepth 100000 in
theorem nseen_any (m : Mm) (n : Nd) (w : World) (h : NdR w m n) (hs : Sr w m.sp m.q n.R) (hg : Gt w m.gp n.ga) :
 Calls Tryz.prog 130 #[.pointer (some ⟨m.p, 0, none⟩)] w fun e w' => e = .returned (.int .i64 n.grt) ∧ Fr w w' [] := by
 have HR := Lib.hid h
 have hlt := h.lt
 have RE := Lib.hid (fun W (hW : Fr w W []) => record_any m.sp m.q n.R W (hs.fr hW (by simp)))
 have SE := Lib.hid (fun W (hW : NdR W m n) => seenN_any m.p 14 _ n.pe n.sn W hW)
 have EP := Lib.hid (fun W (hW : Fr w W []) => epoch_any m.gp n.ga W (hg.keep hW))
 have HS := Lib.hid (NX.of h (Fr.drew w []))
 clear h hs hg
 go_enter Tryz.func130, Tryz.ntmps130
 go_wp2
 refine wp_region_det (S := NX w m n) (by kernel_rfl) HS.out ?_
 refine zDU fun hU => ?_
 try dsimp only [NX,NS] at hU
 refine zD 0 ?_
 refine zD 1 ?_
 refine zD 2 ?_
 refine zD 3 ?_
 refine zD 4 ?_ (hv := by (intro w hSw; go_simp; exact Came.call ((RE.out w hSw.1).mono fun e w' ⟨he, hf⟩ => ⟨he, hSw.fr HR.out hf⟩) (by with_reducible rfl)))
 refine zD 5 ?_
 refine zD 6 ?_
 refine zD 7 ?_
 refine zD 8 ?_
 refine zD 9 ?_ (hv := by (intro w hSw; go_simp; exact Came.call ((SE.out w (HR.out.keep hSw.1)).mono fun e w' ⟨he, hw⟩ => ⟨he, hw ▸ hSw⟩) (by with_reducible rfl)))
 refine zD 10 ?_
 refine zD 11 ?_
 refine zD 12 ?_
 refine zD 13 ?_
 refine zD 14 ?_ (hv := by (intro w hSw; go_simp; exact Came.call ((EP.out w hSw.1).mono fun e w' ⟨he, hf⟩ => ⟨he, hSw.fr HR.out hf⟩) (by with_reducible rfl)))
 refine zD 15 ?_
 refine zD 16 ?_
 refine zD 17 ?_
 refine wpDet_done (by kernel_rfl) ?_ _
 rintro w3 ⟨hF, _⟩
 go_wp2
 all_goals
  go_ret
  exact ⟨congrArg (fun z => Ending.returned (Value.int IntKind.i64 z)) (by unfold Nd.grt; omega), hF⟩
section
variable {w : World} {ops : Array Oper} {o : Oper} {a : Act} {Q : Exit → Act → World → Prop}
theorem step_appR {P : Program} {K : Act → World → Prop} {E : Prop} (hgd : o.guard = none) (s x : Operand) (t : TypeId) (ho : o.op = .call { callee := .builtin .append, args := #[s, x], argTypes := #[t, t] }) (v u : Value) (hs : a.eval s = v) (hx : a.eval x = u)
 {v' : Value} {w' : World} (hr : ∀ ty, (Builtin.append_ #[t, t] ty #[v, u]).run P w = .ok v' w') (h : K (a.put o.dst v') w') : if Region.wanted o (yielded ops a.tmps) = true then Oper.wp P o a w K Q else E := by
 have hw : Region.wanted o (yielded ops a.tmps) = true := by simp [Region.wanted, hgd]
 rw [if_pos hw]
 unfold Oper.wp
 simp [execOp, ho, resolve, invoke, builtin, hs, hx, hr, Result.andThen]
 exact h
end
theorem OwnF.one (w : World) (B : Nat) (x : FT) (hB : B ≤ w.heap.size) (hx : x.own w B) : OwnF (w.alloc (.cells #[.int .i64 x.f.ki, .int .i64 x.f.fr, .int .i64 x.f.dst, .int .i64 x.f.li, .int .i64 x.f.se, .bool x.f.ou, .int .i64 x.f.rg.co, .int .i64 x.f.rg.fo, .int .i64 x.f.rg.ho, x.vm, x.ve] 41)) B (.slice (some ⟨w.heap.size, 0, none⟩) 1 1) [x.f] :=
 ⟨[x], rfl, ⟨rfl, .inr ⟨w.heap.size, 1, _, rfl, hB, heap_alloc_new _ _, Nat.le_refl _, by decide, rfl, rfl⟩⟩, fun y hy => by obtain rfl := List.mem_singleton.1 hy; exact ⟨hx.1.keep (Fr.alloc _ _ []), hx.2.keep (Fr.alloc _ _ [])⟩⟩
theorem OwnF.block {w : World} {B : Nat} {v : Value} {l : List F} (h : OwnF w B v l) : ∀ r ∈ v.ownBlock.toList, B ≤ r ∧ r < w.heap.size := by
 obtain ⟨xs, _, h2, _⟩ := h
 intro r hr
 exact World.ownsRow.lt h2 r (by simpa using hr)
theorem beatsTo_yes (n : Nd) (k : Nat) (h : (k : Int) ≠ n.id) : n.beatsTo (k + 1) = n.beatsTo k ++ [n.beat k] := by
 simp [Nd.beatsTo, List.range_succ, List.filter_append, h]
theorem beatsTo_no (n : Nd) (k : Nat) (h : (k : Int) = n.id) : n.beatsTo (k + 1) = n.beatsTo k := by
 simp [Nd.beatsTo, List.range_succ, List.filter_append, h]
theorem beatsTo_len (n : Nd) (k : Nat) : (n.beatsTo k).length ≤ k := by
 unfold Nd.beatsTo
 rw [List.length_map]
 have := List.length_filter_le (fun i : Nat => decide ((i : Int) ≠ n.id)) (List.range k)
 simpa using this
set_option maxHeartbeats 2000000 in
set_option maxRecDepth 100000 in
theorem nbeats_any (m : Mm) (n : Nd) (C : Nat) (w : World) (h : NdR w m n) (hs : Sr w m.sp m.q n.R) (hg : Gt w m.gp n.ga) (hC : n.h.c = (C : Int)) (hC1 : C ≤ 1000) :
 Calls Tryz.prog 60 #[.pointer (some ⟨m.p, 0, none⟩)] w (Gives fun u w' => OwnF w' w.heap.size u n.beats ∧ Fr w w' []) := by
 have HR := Lib.hid h
 have hlt := h.lt
 have SN0 := Lib.hid (fun W (hW : Fr w W []) => nseen_any m n W (h.keep hW) (hs.fr hW (by simp)) (hg.keep hW))
 have HEND : Hid (n.beatsTo C = n.beats) := Lib.hid (by unfold Nd.beats; rw [hC]; rfl)
 obtain ⟨c0, _, _, _, c4, _⟩ := h.ns
 have C4 := Lib.hid c4
 rw [hC] at c0
 clear h hs hg hC c4
 go_enter Tryz.func60, Tryz.ntmps60
 go_wp2_with fail
 clear c0
 go_loopw [3, 10] (fun s3 s10 wx => ∃ k : Nat, s10 = .int .i64 k ∧ Hid (k ≤ C) ∧ Hid (OwnF wx w.heap.size s3 (n.beatsTo k)) ∧ Hid (Fr w wx [])) (fun _ s10 _ => C - (intOf s10).toNat)
 case atStart => exact ⟨0, rfl, Lib.hid (Nat.zero_le _), Lib.hid (OwnF.nil _ _), Lib.hid (Fr.refl _ _)⟩
 case round =>
  obtain ⟨k, rfl, HK, HO, HF⟩ := hrel
  have hk := HK.out
  by_cases hlt2 : k < C
  · have hltd : decide ((k : Int) < (C : Int)) = true := decide_eq_true (by omega)
    have c4 := HF.out.cell C4.out (by simp)
    by_cases hq : (k : Int) = n.id
    · have hne : ((k : Int) != n.id) = false := by simp [hq]
      have HO2 : Hid (OwnF wr w.heap.size u3 (n.beatsTo (k + 1))) := Lib.hid (by rw [beatsTo_no n k hq]; exact HO.out)
      clear hq HO
      go_wp2
      go_roundw
      case rel => exact ⟨k + 1, by go_num, Lib.hid (by omega), HO2, HF⟩
      case measure => simp [intOf]; omega
    · have hne : ((k : Int) != n.id) = true := by simpa using hq
      have HBT := Lib.hid (beatsTo_yes n k hq)
      have HRR := Lib.hid (HR.out.keep HF.out)
      have SN := Lib.hid (fun W (hW : Fr wr W []) => SN0.out W (HF.out.trans hW))
      have HS := Lib.hid (NX.of HRR.out (Fr.drew wr [])).2
      have HLN := Lib.hid (beatsTo_len n k)
      clear hq
      go_wp2
      refine wp_region_noPanic ?_
      refine wp_region_held_drew (S := NS m n) (by kernel_rfl) HS.out (fun hHeld => ?_)
      refine zHU fun hU => ?_
      try dsimp only [NS] at hU
      refine zH 0 ?_
      refine zH 1 ?_
      refine zH 2 ?_
      refine zH 3 ?_
      refine zH 4 ?_
      refine zH 5 ?_
      refine zH 6 ?_
      refine zH 7 ?_
      refine zH 8 ?_
      refine zH 9 ?_
      refine zH 10 ?_
      refine zH 12 ?_
      refine zH 13 ?_
      refine zH 14 ?_
      refine zH 15 ?_
      refine wpAnyH_ready (rs := [11]) (by kernel_rfl) (by simp) ?_
      refine AllReadyH.cons (o := _) rfl (fun K hK => ?_) AllReadyH.nil
      go_simp
      ((with_reducible refine (SN.out _ (Fr.drew wr [])).mono ?_); rintro e wt ⟨rfl, hf⟩; have HFT := Lib.hid ((Fr.drew wr []).trans hf); have hS2 := (HRR.out.keep HFT.out).ns; clear hf)
      go_wp2_with fail
      refine hK.out _ _ hS2 (fun hHeld => ?_)
      clear hK K
      try simp only [Act.put, List.setIfInBounds_toArray, List.set_cons_zero, List.set_cons_succ]
      clear hS2
      refine zH 16 ?_
      have HOT := Lib.hid (HO.out.keep HFT.out)
      have HX := Lib.hid (OwnF.one wt wt.heap.size ⟨n.beat k, .slice none 0 0, .slice none 0 0⟩ (Nat.le_refl _) ⟨OwnI.nil _ _, [], OwnE.nil _ _, rfl⟩)
      have HFA := Lib.hid (Fr.alloc wt (.cells #[.int .i64 1, .int .i64 n.id, .int .i64 k, .int .i64 n.li, .int .i64 n.grt, .bool n.ou, .int .i64 0, .int .i64 0, .int .i64 0, .slice none 0 0, .slice none 0 0] 41) [])
      dsimp only [Nd.beat, zeroR] at HX
      refine wpAnyH_ready (rs := [17]) (by kernel_rfl) (by simp) ?_
      refine AllReadyH.cons (o := _) rfl (fun K hK => ?_) AllReadyH.nil
      go_simp
      refine hK.out _ _ ((HRR.out.keep HFT.out).keep HFA.out).ns (fun hHeld => ?_)
      clear hK K
      try simp only [Act.put, List.setIfInBounds_toArray, List.set_cons_zero, List.set_cons_succ]
      have HOA := Lib.hid (HOT.out.keep HFA.out)
      have HSZ := Lib.hid (Nat.le_trans (HF.out.trans HFT.out).size HFA.out.size)
      have HSZ2 := Lib.hid (HF.out.trans HFT.out).size
      generalize World.alloc wt _ = W at HX HFA HOA HSZ hHeld ⊢
      obtain ⟨v', w', hr, ho, hf, _⟩ := appF W w.heap.size wt.heap.size u3 _ _ _ HOA.out HX.out HSZ.out HSZ2.out (by have := HLN.out; omega) (by simp)
      have HO2 : Hid (OwnF w' w.heap.size v' (n.beatsTo (k + 1))) := Lib.hid (by rw [HBT.out]; exact ho)
      have HF2 := Lib.hid ((HF.out.trans (HFT.out.trans HFA.out)).new hf (fun r hr => (HOA.out.block r hr).1))
      have HNX : Hid (NS m n w') := Lib.hid (HR.out.keep HF2.out).ns
      clear ho hf
      refine wpAnyH_ready (rs := [18]) (by kernel_rfl) (by simp) ?_
      refine AllReadyH.cons (o := _) rfl (fun K hK => ?_) AllReadyH.nil
      refine step_appR rfl _ _ _ rfl _ _ rfl rfl hr ?_
      refine hK.out _ _ HNX.out (fun hHeld => ?_)
      clear hK K
      try simp only [Act.put, List.setIfInBounds_toArray, List.set_cons_zero, List.set_cons_succ]
      refine zH 19 ?_
      refine wpAnyH_done (by kernel_rfl) ?_ _
      refine NoPanic.normal ?_
      clear hr
      go_wp2
      go_roundw
      case rel => exact ⟨k + 1, by go_num, Lib.hid (by omega), HO2, HF2⟩
      case measure => simp [intOf]; omega
  · obtain rfl : k = C := by omega
    have hltd : decide ((k : Int) < (k : Int)) = false := by simp
    have HO2 : Hid (OwnF wr w.heap.size u3 n.beats) := Lib.hid (by rw [← HEND.out]; exact HO.out)
    clear HO HEND
    go_wp2
    go_ret
    exact gives ⟨HO2.out, HF.out⟩
end Go.Proofs.YtiflmkicnkbeaaaGreatDoor
namespace Go.Proofs.YtiflmkicnkbeaaaGreatDoor
open Go.RowKit
theorem laC_set (D : List La) (i : Nat) (x : La) : (((laC D).set (i * 3) (.int .i64 x.f)).set (i * 3 + 1) (.int .i64 x.d)).set (i * 3 + 2) (.int .i64 x.g) = laC (D.set i x) := by
 induction D generalizing i with
 | nil => rfl
 | cons b l ih =>
   cases i with
   | zero => simp [laC_cons]
   | succ i =>
     rw [List.set_cons_succ, laC_cons, laC_cons, ← ih i, show (i + 1) * 3 = i * 3 + 1 + 1 + 1 by omega]
     simp
end Go.Proofs.YtiflmkicnkbeaaaGreatDoor
namespace Go.Proofs.YtiflmkicnkbeaaaGreatDoor
open Go.RowKit Fm
def FstIs {α : Type} (d : α) (l : List α) (p : α → Bool) (z : Int) : Prop := (z = -1 ∧ ∀ i, i < l.length → p (l.getD i d) = false) ∨ ∃ k : Nat, z = k ∧ k < l.length ∧ p (l.getD k d) = true ∧ ∀ i, i < k → p (l.getD i d) = false
theorem FstIs.at {α : Type} {d : α} {l : List α} {p : α → Bool} {z : Int} (h : FstIs d l p z) {k : Nat} (hk : k < l.length) (h1 : p (l.getD k d) = true) (h2 : ∀ i, i < k → p (l.getD i d) = false) : z = k := by
 rcases h with ⟨_, h⟩ | ⟨j, rfl, hj, h3, h4⟩
 · rw [h k hk] at h1; cases h1
 · rcases Nat.lt_trichotomy j k with q | q | q
   · rw [h2 j q] at h3; cases h3
   · rw [q]
   · rw [h4 k q] at h1; cases h1
theorem FstIs.no {α : Type} {d : α} {l : List α} {p : α → Bool} {z : Int} (h : FstIs d l p z) (h2 : ∀ i, i < l.length → p (l.getD i d) = false) : z = -1 := by
 rcases h with ⟨h, _⟩ | ⟨j, rfl, hj, h3, h4⟩
 · exact h
 · rw [h2 j hj] at h3; cases h3
theorem FstIs.some {α : Type} (d : α) (l : List α) (p : α → Bool) : ∃ z, FstIs d l p z := by
 by_cases h : ∃ k, k < l.length ∧ p (l.getD k d) = true
 · obtain ⟨k, hk⟩ := h
   induction k using Nat.strongRecOn with
   | _ k ih =>
     by_cases q : ∃ i, i < k ∧ p (l.getD i d) = true
     · obtain ⟨i, hi, hp⟩ := q
       exact ih i hi ⟨by omega, hp⟩
     · exact ⟨k, .inr ⟨k, rfl, hk.1, hk.2, fun i hi => by
        cases g : p (l.getD i d) with
        | false => rfl
        | true => exact absurd ⟨i, hi, g⟩ q⟩⟩
 · exact ⟨-1, .inl ⟨rfl, fun i hi => by
    cases g : p (l.getD i d) with
    | false => rfl
    | true => exact absurd ⟨i, hi, g⟩ h⟩⟩
def notP {α : Type} (p : α → Bool) (l : List α) : List α := l.filter fun x => !p x
theorem notP_step {α : Type} (d : α) (p : α → Bool) (l : List α) (j : Nat) (h : j < l.length) : notP p (l.take (j + 1)) = notP p (l.take j) ++ (if p (l.getD j d) = true then [] else [l.getD j d]) := by
 unfold notP
 have e : l.getD j d = l[j] := by simp [List.getD, h]
 rw [List.take_succ_eq_append_getElem h, List.filter_append, e]
 cases q : p l[j] <;> simp [q]
theorem notP_all {α : Type} (d : α) (p : α → Bool) (l : List α) (h : ∀ i, i < l.length → p (l.getD i d) = false) : notP p l = l := by
 unfold notP
 rw [List.filter_eq_self]
 intro x hx
 obtain ⟨i, hi, rfl⟩ := List.getElem_of_mem hx
 have := h i hi
 have e : l.getD i d = l[i] := by simp [List.getD, hi]
 rw [e] at this
 rw [this]; rfl
theorem notP_pre {α : Type} (d : α) (p : α → Bool) (l : List α) (k : Nat) (h : k < l.length) (h1 : p (l.getD k d) = true) (h2 : ∀ i, i < k → p (l.getD i d) = false) : l.take k = notP p (l.take (k + 1)) := by
 rw [notP_step d p l k h, if_pos h1, List.append_nil]
 refine (notP_all d p _ (fun i hi => ?_)).symm
 rw [List.length_take] at hi
 have e : (l.take k).getD i d = l.getD i d := by simp [List.getD, show i < k by omega]
 rw [e]; exact h2 i (by omega)
theorem row_cleared {w : World} {B b n c i sz : Nat} {T : TypeId} {xs zs : List Value} {cs : Array Value} (h : w.ownsRow B T sz (.slice (some ⟨b, 0, none⟩) n c) n xs) (hg : w.heap[b]? = some (.cells cs T (0, 0))) (hi : i ≤ n) (hz : zs.length = (n - i) * sz) :
 (w.setRow b (cs.toList.take (i * sz) ++ zs ++ cs.toList.drop (i * sz + (n - i) * sz)).toArray).ownsRow B T sz (.slice (some ⟨b, 0, none⟩) i c) i (xs.take (i * sz)) := by
 obtain ⟨cs', hgr, hB, hnc, hcm, hcs, htk⟩ := row_at h
 rw [hg] at hgr
 simp only [Option.some.injEq, Obj.cells.injEq, and_true] at hgr
 subst hgr
 have h1 := h.1
 have hle : i * sz ≤ n * sz := Nat.mul_le_mul_right sz hi
 have hle2 : n * sz ≤ c * sz := Nat.mul_le_mul_right sz hnc
 have hsum : i * sz + (n - i) * sz = n * sz := by rw [← Nat.add_mul]; congr 1; omega
 refine ⟨by rw [List.length_take, h1]; omega, .inr ⟨b, c, _, rfl, hB, setRow_heap w b _ _ _ _ hg, by omega, hcm, ?_, ?_⟩⟩
 · rw [List.size_toArray, List.length_append, List.length_append, List.length_take, List.length_drop, hz, Array.length_toList, hsum]
   omega
 · rw [List.append_assoc, List.take_append_of_le_length (by rw [List.length_take, Array.length_toList]; omega), List.take_take, Nat.min_self, ← htk, List.take_take, Nat.min_eq_left hle]
theorem laC_tk (L : List La) (i : Nat) : laC (L.take i) = (laC L).take (i * 3) := by
 induction L generalizing i with
 | nil => simp [laC]
 | cons x L ih =>
   cases i with
   | zero => simp [laC]
   | succ i => rw [List.take_succ_cons, laC_cons, laC_cons, ih, show (i + 1) * 3 = i * 3 + 1 + 1 + 1 by omega]; rfl
theorem i64s_tk (L : List Int) (i : Nat) : i64s (L.take i) = (i64s L).take (i * 1) := by rw [Nat.mul_one]; simp [i64s]
def put3 (w : World) (b o : Nat) (x : La) : World := ((w.setCell ⟨b, o, none⟩ (.int .i64 x.f)).setCell ⟨b, o + 1, none⟩ (.int .i64 x.d)).setCell ⟨b, o + 2, none⟩ (.int .i64 x.g)
theorem put3_fr (w : World) (b o : Nat) (x : La) : Fr w (put3 w b o x) [b] := ((Fr.setCell w b o _ (by simp)).trans (Fr.setCell _ b (o + 1) _ (by simp))).trans (Fr.setCell _ b (o + 2) _ (by simp))
theorem putL_own {w : World} {B b c n : Nat} {ys : List La} (h : OwnL w B (.slice (some ⟨b, 0, none⟩) n c) ys) (i : Nat) (x : La) : OwnL (put3 w b (i * 3) x) B (.slice (some ⟨b, 0, none⟩) n c) (ys.set i x) := by
 obtain ⟨cs, hg, hB, hn, hm, hs, ht⟩ := row_at h
 have hnn := row_n h
 have h1 : (laC (ys.set i x)).length = (ys.set i x).length * 3 := by
  have := h.1
  rw [← laC_set]
  simpa using this
 refine ⟨h1, .inr ⟨b, c, _, by rw [hnn, List.length_set], hB, heap_setCell_same _ b _ _ _ _ (heap_setCell_same _ b _ _ _ _ (heap_setCell_same _ b _ _ _ _ hg)), by rw [List.length_set]; exact hn, hm, by simpa using hs, ?_⟩⟩
 simp only [Array.toList_setIfInBounds, List.length_set]
 rw [List.take_set, List.take_set, List.take_set, ht]
 exact laC_set ys i x
theorem cellsL {w : World} {B b c n : Nat} {ys : List La} (h : OwnL w B (.slice (some ⟨b, 0, none⟩) n c) ys) (j : Nat) (hj : j < ys.length) :
 (w.cell? ⟨b, j * 3, none⟩ = some (.int .i64 (ys.getD j zLa).f) ∧ w.cell? ⟨b, j * 3 + 1, none⟩ = some (.int .i64 (ys.getD j zLa).d) ∧ w.cell? ⟨b, j * 3 + 2, none⟩ = some (.int .i64 (ys.getD j zLa).g)) ∧
 w.frozen? ⟨b, j * 3, none⟩ = false ∧ w.frozen? ⟨b, j * 3 + 1, none⟩ = false ∧ w.frozen? ⟨b, j * 3 + 2, none⟩ = false := by
 obtain rfl := row_n h
 obtain ⟨cs, hg, _⟩ := row_at h
 have h2 := World.ownsRow.cellAt h
 have h1 := h.1
 obtain ⟨g0, g1, g2⟩ := laC_get ys j hj
 exact ⟨⟨(h2 _ (by omega)).trans g0, (h2 _ (by omega)).trans g1, (h2 _ (by omega)).trans g2⟩, frozen_of_row _ _ _ _ _ hg, frozen_of_row _ _ _ _ _ hg, frozen_of_row _ _ _ _ _ hg⟩
theorem putI_own {w : World} {B b c n : Nat} {ys : List Int} (h : OwnI w B (.slice (some ⟨b, 0, none⟩) n c) ys) (i : Nat) (x : Int) : OwnI (w.setCell ⟨b, i, none⟩ (.int .i64 x)) B (.slice (some ⟨b, 0, none⟩) n c) (ys.set i x) := by
 obtain rfl := row_n h
 have h2 := (World.ownsRow.stored h i (.int .i64 x)).1
 unfold OwnI
 rw [List.length_set, show i64s (ys.set i x) = (i64s ys).set i (.int .i64 x) by simp [i64s, List.map_set]]
 exact h2
theorem cellsI {w : World} {B b c n : Nat} {ys : List Int} (h : OwnI w B (.slice (some ⟨b, 0, none⟩) n c) ys) (j : Nat) (hj : j < ys.length) :
 w.cell? ⟨b, j, none⟩ = some (.int .i64 (ys.getD j 0)) ∧ w.frozen? ⟨b, j, none⟩ = false := by
 obtain rfl := row_n h
 obtain ⟨cs, hg, _⟩ := row_at h
 have h2 := World.ownsRow.cellAt h
 refine ⟨(h2 _ (by omega)).trans (by simp [i64s, hj]), frozen_of_row _ _ _ _ _ hg⟩
theorem run_clearL (w : World) (g o m c : Nat) (cur : Array Value) (hg : w.heap[g]? = some (.cells cur 46 (0, 0))) (hm : 0 < m) (ho : o + m * 3 ≤ cur.size) :
 ∃ zs : List Value, zs.length = m * 3 ∧ ∀ ty, (Builtin.clear_ #[100] ty #[.slice (some ⟨g, o, none⟩) m c]).run Tryz.prog w = .ok (.tuple #[]) (w.setRow g (cur.toList.take o ++ zs ++ cur.toList.drop (o + m * 3)).toArray) := by
 obtain ⟨i0, hi0, hz0, hz1, hz2⟩ := info_parts infoL
 have hzl : (Builtin.zeroCells (Value.agg #[.int .i64 0, .int .i64 0, .int .i64 0]).cells m).toList.length = m * 3 := by simp [Builtin.zeroCells, Value.cells]
 have hone : ∀ v ∈ (Builtin.zeroCells (Value.agg #[.int .i64 0, .int .i64 0, .int .i64 0]).cells m).toList, v.oneCell' = true := by
  intro v hv
  simp only [Builtin.zeroCells, Value.cells, Array.toList_map, List.mem_map] at hv
  obtain ⟨k, _, rfl⟩ := hv
  have hk : k % 3 < 3 := Nat.mod_lt _ (by decide)
  show ((#[Value.int .i64 0, .int .i64 0, .int .i64 0] : Array Value)[k % 3]!).oneCell' = true
  rcases (by omega : k % 3 = 0 ∨ k % 3 = 1 ∨ k % 3 = 2) with q | q | q <;> rw [q] <;> rfl
 refine ⟨_, hzl, fun ty => ?_⟩
 have hst := run_storeCells_at Tryz.prog g o 46 (Builtin.zeroCells (Value.agg #[.int .i64 0, .int .i64 0, .int .i64 0]).cells m).toList 0 cur w hg (by rw [hzl]; simpa using ho) hone
 rw [hzl, Nat.add_zero] at hst
 obtain ⟨m', rfl⟩ : ∃ m', m = m' + 1 := ⟨m - 1, by omega⟩
 simp only [Builtin.clear_]
 simp [run_underlying Tryz.underlying100, zeroValue, typeInfo, hi0, hz0, hst, Result.andThen]
theorem clrdL {w : World} {B b n c i : Nat} {ys : List La} (h : OwnL w B (.slice (some ⟨b, 0, none⟩) n c) ys) (hi : i < n) :
 ∃ W, (∀ ty, (Builtin.clear_ #[100] ty #[.slice (some ⟨b, i * 3, none⟩) (n - i) (c - i)]).run Tryz.prog w = .ok (.tuple #[]) W) ∧ OwnL W B (.slice (some ⟨b, 0, none⟩) i c) (ys.take i) ∧ Fr w W [b] := by
 obtain ⟨cs, hgr, hB, hnc, hcm, hcs, htk⟩ := row_at h
 obtain rfl := row_n h
 have hle : i * 3 + (ys.length - i) * 3 ≤ cs.size := by rw [hcs, ← Nat.add_mul]; exact Nat.mul_le_mul_right 3 (by omega)
 obtain ⟨zs, hz, hrun⟩ := run_clearL w b (i * 3) (ys.length - i) (c - i) cs hgr (by omega) hle
 refine ⟨w.setRow b (cs.toList.take (i * 3) ++ zs ++ cs.toList.drop (i * 3 + (ys.length - i) * 3)).toArray, hrun, ?_, ⟨rfl, rfl, rfl, by simp [World.setRow], fun k _ hn => setRow_other w b k _ (fun e => hn (by simp [e]))⟩⟩
 have h2 := row_cleared h hgr (Nat.le_of_lt hi) hz
 unfold OwnL
 rw [laC_tk, List.length_take, Nat.min_eq_left (by omega)]
 exact h2
set_option maxHeartbeats 2000000 in
set_option maxRecDepth 100000 in
theorem idxFL (fid : FuncId) (hF : ∀ args W, (callFunc fid args).run Tryz.prog W = .ok (.enter fid args) W) (cap : Value) (v : Value) (l : List La) (p : La → Bool) (w : World) (h : HLs w v l) (hl : l.length ≤ 1000000) (CL : ∀ (x : La) W, Fr w W [] → Calls Tryz.prog fid #[.agg #[.int .i64 x.f, .int .i64 x.d, .int .i64 x.g], cap] W fun e w' => e = .returned (.bool (p x)) ∧ Fr W w' []) (z : Int) (hz : FstIs zLa l p z) :
 Calls Tryz.prog 196 #[v, .func (.func fid) #[] #[cap]] w fun e w' => e = .returned (.int .i64 z) ∧ Fr w w' [] := by
 obtain ⟨a, cp, rfl, p1, q1, r1⟩ := h
 unfold maxLen at q1
 obtain ⟨n, hn⟩ : ∃ n, n = l.length := ⟨_, rfl⟩
 have HN := Lib.hid hn
 have HCE := Lib.hid r1
 have HZ := Lib.hid hz
 have CLH := Lib.hid CL
 rw [← hn] at hl p1 HCE ⊢
 clear r1 hn hz CL
 go_enter Tryz.func196, Tryz.ntmps196
 go_wp2
 go_loopw [5, 8] (fun _ s8 wx => ∃ k : Nat, s8 = .int .i64 k ∧ Hid (k ≤ n) ∧ Hid (∀ i, i < k → p (l.getD i zLa) = false) ∧ Hid (Fr w wx [])) (fun _ s8 _ => n - (intOf s8).toNat)
 case atStart => exact ⟨0, rfl, Lib.hid (Nat.zero_le _), Lib.hid (fun i hi => absurd hi (Nat.not_lt_zero _)), Lib.hid (Fr.refl _ _)⟩
 case round =>
  obtain ⟨k, rfl, HK, HA, HF⟩ := hrel
  have hk := HK.out
  by_cases hlt : k < n
  · obtain ⟨b, off, rfl, hc⟩ := HCE.out (by omega)
    obtain ⟨x, hx⟩ : ∃ x, x = l.getD k zLa := ⟨_, rfl⟩
    have HX := Lib.hid hx
    obtain ⟨x0, x1, x2⟩ := hc k hlt
    rw [← hx] at x0 x1 x2
    have t0 := HF.out.cell x0 (by simp)
    have t1 := HF.out.cell x1 (by simp)
    have t2 := HF.out.cell x2 (by simp)
    clear x0 x1 x2
    obtain ⟨r, hr⟩ : ∃ r, r = p x := ⟨_, rfl⟩
    have HR := Lib.hid hr
    have C1 := Lib.hid (CLH.out x wr HF.out)
    rw [← hr] at C1
    clear hc hx hr
    cases r with
    | true =>
      have HP : Hid (z = (k : Int)) := Lib.hid (HZ.out.at (by have := HN.out; omega) (by rw [← HX.out]; exact HR.out.symm) HA.out)
      clear HA HX HR CLH
      go_wp2_with fail
      with_reducible refine (C1.out).mono ?_
      rintro e w1 ⟨rfl, hf⟩
      have HF1 := Lib.hid (HF.out.trans hf)
      clear hf C1
      go_wp2
      go_ret
      exact ⟨by rw [HP.out]; rfl, HF1.out⟩
    | false =>
      have HA2 : Hid (∀ i, i < k + 1 → p (l.getD i zLa) = false) := Lib.hid (fun i hi => by
       by_cases q : i = k
       · subst q; rw [← HX.out]; exact HR.out.symm
       · exact HA.out i (by omega))
      clear HA HX HR
      go_wp2_with fail
      with_reducible refine (C1.out).mono ?_
      rintro e w1 ⟨rfl, hf⟩
      have HF1 := Lib.hid (HF.out.trans hf)
      clear hf C1
      go_wp2
      go_roundw
      case rel => exact ⟨k + 1, by go_num, Lib.hid (by omega), HA2, HF1⟩
      case measure => simp [intOf]; omega
  · obtain rfl : k = n := by omega
    have HP : Hid (z = -1) := Lib.hid (HZ.out.no (by rw [← HN.out]; exact HA.out))
    clear HA CLH HCE
    go_wp2
    go_ret
    exact ⟨by rw [HP.out]; rfl, HF.out⟩
set_option maxHeartbeats 4000000 in
set_option maxRecDepth 100000 in
theorem delL (fid : FuncId) (hF : ∀ args W, (callFunc fid args).run Tryz.prog W = .ok (.enter fid args) W) (cap : Value) (v : Value) (xs : List La) (p : La → Bool) (B : Nat) (w : World) (h : OwnL w B v xs) (hl : xs.length ≤ 1000000) (hCL : ∀ (x : La) W, Fr w W v.ownBlock.toList → Calls Tryz.prog fid #[.agg #[.int .i64 x.f, .int .i64 x.d, .int .i64 x.g], cap] W fun e w' => e = .returned (.bool (p x)) ∧ Fr W w' []) :
 Calls Tryz.prog 121 #[v, .func (.func fid) #[] #[cap]] w (Gives fun u w' => OwnL w' B u (notP p xs) ∧ Fr w w' v.ownBlock.toList ∧ u.ownBlock = v.ownBlock) := by
 obtain ⟨z, hz⟩ := FstIs.some zLa xs p
 have IX := Lib.hid (idxFL fid hF cap v xs p w h.holds hl (fun x W hW => hCL x W (hW.mono (by simp))) z hz)
 obtain ⟨ua, uc, rfl⟩ := row_shape h
 rcases hz with ⟨rfl, hall⟩ | ⟨i0, rfl, hi0, hp0, hq0⟩
 · have HE1 : Hid (notP p xs = xs) := Lib.hid (notP_all zLa p xs hall)
   have HK := Lib.hid h
   clear h hall hl hCL
   go_enter Tryz.func121, Tryz.ntmps121
   go_wp2_with fail
   with_reducible refine (IX.out).mono ?_
   rintro e w1 ⟨rfl, hf⟩
   have HF := Lib.hid hf
   clear hf IX
   go_wp2
   go_ret
   exact gives ⟨by rw [HE1.out]; exact HK.out.keep HF.out, HF.out.mono (by simp), rfl⟩
 · obtain ⟨b, uc', he, hnc, hcm, _⟩ := row_head h (by omega)
   simp only [Value.slice.injEq] at he
   obtain ⟨rfl, hq, rfl⟩ := he
   clear hq
   obtain ⟨n, hn⟩ : ∃ n, n = xs.length := ⟨_, rfl⟩
   have HN := Lib.hid hn
   have HOX := Lib.hid h
   have CL : Hid (∀ (x : La) W, Fr w W [b] → Calls Tryz.prog fid #[.agg #[.int .i64 x.f, .int .i64 x.d, .int .i64 x.g], cap] W fun e w' => e = .returned (.bool (p x)) ∧ Fr W w' []) := Lib.hid hCL
   have HST : Hid (xs.take i0 = notP p (xs.take (i0 + 1))) := Lib.hid (notP_pre zLa p xs i0 hi0 hp0 hq0)
   have hi0n : i0 < n := by rw [hn]; exact hi0
   have hn6 : n ≤ 1000000 := by omega
   unfold maxLen at hcm
   rw [← hn] at HOX IX hnc ⊢
   clear h hCL hl hn hi0 hp0 hq0
   have HDP : Hid (∀ u W zs, OwnL W B u zs → zs = notP p xs → Fr w W [b] → u.ownBlock = some b → (OwnL W B u (notP p xs) ∧ Fr w W (Value.slice (some ⟨b, 0, none⟩) n uc).ownBlock.toList ∧ u.ownBlock = (Value.slice (some ⟨b, 0, none⟩) n uc).ownBlock)) := Lib.hid (fun u W zs h1 h2 h3 h4 => ⟨h2 ▸ h1, h3, h4⟩)
   go_enter Tryz.func121, Tryz.ntmps121
   go_wp2_with fail
   with_reducible refine (IX.out).mono ?_
   rintro e w1 ⟨rfl, hf⟩
   have HF1 := Lib.hid hf
   have HO1 := Lib.hid (HOX.out.keep hf)
   have hne1 : ((i0 : Int) == -1) = false := by simp
   clear hf IX
   go_wp2_with fail
   go_loopw [5, 6] (fun s5 s6 wx => ∃ (i j : Nat) (ys : List La), s5 = .int .i64 i ∧ s6 = .int .i64 j ∧ Hid (i < j ∧ j ≤ n) ∧ Hid (ys.length = n ∧ ys.take i = notP p (xs.take j) ∧ ys.drop j = xs.drop j) ∧ Hid (OwnL wx B (.slice (some ⟨b, 0, none⟩) n uc) ys) ∧ Hid (Fr w wx [b])) (fun _ s6 _ => n - (intOf s6).toNat)
   case atStart => exact ⟨i0, i0 + 1, xs, rfl, by go_num, Lib.hid ⟨Nat.lt_succ_self _, hi0n⟩, Lib.hid ⟨HN.out.symm, HST.out, rfl⟩, HO1, Lib.hid (HF1.out.mono (by simp))⟩
   case round =>
    clear HO1 HF1 HST HOX
    obtain ⟨i, j, ys, rfl, rfl, HIJ, HY, HO, HF⟩ := hrel
    obtain ⟨hij, hjn⟩ := HIJ.out
    clear HIJ
    by_cases hlt : j < n
    · have hyl : ys.length = n := HY.out.1
      have hjx : j < xs.length := by have := HN.out; omega
      obtain ⟨x, hx⟩ : ∃ x, x = ys.getD j zLa := ⟨_, rfl⟩
      have hex : xs.getD j zLa = x := by
       have := congrArg (fun l => l[0]?) HY.out.2.2
       simp only [List.getElem?_drop, Nat.add_zero] at this
       rw [hx, List.getD_eq_getElem?_getD, List.getD_eq_getElem?_getD, this]
      have HT := Lib.hid (show notP p (xs.take (j + 1)) = notP p (xs.take j) ++ (if p x = true then [] else [x]) by rw [← hex]; exact notP_step zLa p xs j hjx)
      obtain ⟨r, hr⟩ : ∃ r, r = p x := ⟨_, rfl⟩
      have HR := Lib.hid hr
      obtain ⟨⟨t0, t1, t2⟩, _⟩ := cellsL HO.out j (by omega)
      rw [← hx] at t0 t1 t2
      have FA := Lib.hid (Fr.alloc wr (.cells #[.int .i64 x.f, .int .i64 x.d, .int .i64 x.g] 46) [])
      have HP := Lib.hid (row3 (heap_alloc_new wr (.cells #[.int .i64 x.f, .int .i64 x.d, .int .i64 x.g] 46)))
      have C1 := Lib.hid (CL.out x _ (HF.out.trans (FA.out.mono (by simp))))
      rw [← hr] at C1
      obtain ⟨p0, p1, p2⟩ := HP.out
      have hbw : b < wr.heap.size := by
       obtain ⟨cs, hgr, _⟩ := row_at HO.out
       exact size_of_row hgr
      have HBW := Lib.hid hbw
      clear hbw
      clear hr hyl hex hjx hx
      cases r with
      | true =>
        have HY2 : Hid (ys.length = n ∧ ys.take i = notP p (xs.take (j + 1)) ∧ ys.drop (j + 1) = xs.drop (j + 1)) := Lib.hid ⟨HY.out.1, by rw [HT.out, if_pos HR.out.symm, List.append_nil]; exact HY.out.2.1, by
         have := congrArg (List.drop 1) HY.out.2.2
         simpa [List.drop_drop, Nat.add_comm] using this⟩
        clear HY HT HR
        go_wp2_with fail
        with_reducible refine (C1.out).mono ?_
        rintro e w4 ⟨rfl, hf⟩
        have HF4 := Lib.hid (HF.out.trans ((FA.out.trans hf).mono (by simp)))
        have HO4 := Lib.hid (HO.out.keep (FA.out.trans hf))
        clear hf C1 HF HO FA HP p0 p1 p2 t0 t1 t2
        go_wp2
        go_roundw
        case rel => exact ⟨i, j + 1, ys, rfl, by go_num, Lib.hid ⟨by omega, by omega⟩, HY2, HO4, HF4⟩
        case measure => simp [intOf]; omega
      | false =>
        have HY2 : Hid ((ys.set i x).length = n ∧ (ys.set i x).take (i + 1) = notP p (xs.take (j + 1)) ∧ (ys.set i x).drop (j + 1) = xs.drop (j + 1)) := Lib.hid ⟨by rw [List.length_set]; exact HY.out.1, by
         rw [HT.out, if_neg (by rw [← HR.out]; decide), set_take (by have := HY.out.1; omega), HY.out.2.1], by
         rw [List.drop_set_of_lt (by omega)]
         have := congrArg (List.drop 1) HY.out.2.2
         simpa [List.drop_drop, Nat.add_comm] using this⟩
        have hil : i < ys.length := by have := HY.out.1; omega
        have HIL := Lib.hid hil
        obtain ⟨pp, hpp⟩ : ∃ pp, pp = wr.heap.size := ⟨_, rfl⟩
        clear HY HT HR hil
        go_wp2_with fail
        with_reducible refine (C1.out).mono ?_
        rintro e w4 ⟨rfl, hf⟩
        have HF4 := Lib.hid (HF.out.trans ((FA.out.trans hf).mono (by simp)))
        have HO4 := Lib.hid (HO.out.keep (FA.out.trans hf))
        have l0 := hf.cell p0 (by simp)
        have l1 := hf.cell p1 (by simp)
        have l2 := hf.cell p2 (by simp)
        rw [← hpp] at l0 l1 l2 ⊢
        clear hf C1 HF HO FA HP p0 p1 p2 t0 t1 t2 hpp HBW
        obtain ⟨⟨k0, k1, k2⟩, f0, f1, f2⟩ := cellsL HO4.out i HIL.out
        have HO5 := Lib.hid (putL_own HO4.out i x)
        have HF5 := Lib.hid (HF4.out.trans (put3_fr w4 b (i * 3) x))
        unfold Go.Proofs.YtiflmkicnkbeaaaGreatDoor.put3 at HO5 HF5
        clear HO4 HF4
        go_wp2
        generalize World.setCell (World.setCell (World.setCell w4 _ _) _ _) _ _ = W5 at HO5 HF5 ⊢
        go_roundw
        case rel => exact ⟨i + 1, j + 1, _, by go_num, by go_num, Lib.hid ⟨by omega, by omega⟩, HY2, HO5, HF5⟩
        case measure => simp [intOf]; omega
    · obtain rfl : j = n := by omega
      obtain ⟨W, hrun, hown, hfr⟩ := clrdL HO.out hij
      have HEND : Hid (OwnL W B (.slice (some ⟨b, 0, none⟩) i uc) (ys.take i) ∧ ys.take i = notP p xs ∧ Fr w W [b]) := Lib.hid ⟨hown, by have := HY.out.2.1; rwa [HN.out, List.take_length] at this, HF.out.trans hfr⟩
      have hb1 : (i : Int) ≤ (uc : Int) := by omega
      have hb2 : ¬ (uc = i) := by omega
      have hb3 : i ≤ uc := by omega
      clear hown hfr HY HO HF CL
      go_wp2_with (at_builtin; refine wpList_clear rfl _ _ rfl _ rfl (hrun _) ?_)
      go_ret
      obtain ⟨h1, h2, h3⟩ := HEND.out
      exact gives (HDP.out _ _ _ h1 h2 h3 rfl)
theorem run_clearI (w : World) (g o m c : Nat) (cur : Array Value) (hg : w.heap[g]? = some (.cells cur 3 (0, 0))) (hm : 0 < m) (ho : o + m * 1 ≤ cur.size) :
 ∃ zs : List Value, zs.length = m * 1 ∧ ∀ ty, (Builtin.clear_ #[36] ty #[.slice (some ⟨g, o, none⟩) m c]).run Tryz.prog w = .ok (.tuple #[]) (w.setRow g (cur.toList.take o ++ zs ++ cur.toList.drop (o + m * 1)).toArray) := by
 obtain ⟨i0, hi0, hz0, hz1, hz2⟩ := info_parts infoI
 have hzl : (Builtin.zeroCells (Value.int .i64 0).cells m).toList.length = m * 1 := by simp [Builtin.zeroCells, Value.cells]
 have hone : ∀ v ∈ (Builtin.zeroCells (Value.int .i64 0).cells m).toList, v.oneCell' = true := by
  intro v hv
  simp only [Builtin.zeroCells, Value.cells, Array.toList_map, List.mem_map] at hv
  obtain ⟨k, _, rfl⟩ := hv
  show ((#[Value.int .i64 0] : Array Value)[k % 1]!).oneCell' = true
  rw [Nat.mod_one]; rfl
 refine ⟨_, hzl, fun ty => ?_⟩
 have hst := run_storeCells_at Tryz.prog g o 3 (Builtin.zeroCells (Value.int .i64 0).cells m).toList 0 cur w hg (by rw [hzl]; simpa using ho) hone
 rw [hzl, Nat.add_zero] at hst
 obtain ⟨m', rfl⟩ : ∃ m', m = m' + 1 := ⟨m - 1, by omega⟩
 simp only [Builtin.clear_]
 simp [run_underlying Tryz.underlying36, zeroValue, typeInfo, hi0, hz0, hst, Result.andThen]
theorem clrdI {w : World} {B b n c i : Nat} {ys : List Int} (h : OwnI w B (.slice (some ⟨b, 0, none⟩) n c) ys) (hi : i < n) :
 ∃ W, (∀ ty, (Builtin.clear_ #[36] ty #[.slice (some ⟨b, i, none⟩) (n - i) (c - i)]).run Tryz.prog w = .ok (.tuple #[]) W) ∧ OwnI W B (.slice (some ⟨b, 0, none⟩) i c) (ys.take i) ∧ Fr w W [b] := by
 obtain ⟨cs, hgr, hB, hnc, hcm, hcs, htk⟩ := row_at h
 obtain rfl := row_n h
 have hle : i * 1 + (ys.length - i) * 1 ≤ cs.size := by rw [hcs, ← Nat.add_mul]; exact Nat.mul_le_mul_right 1 (by omega)
 obtain ⟨zs, hz, hrun⟩ := run_clearI w b (i * 1) (ys.length - i) (c - i) cs hgr (by omega) hle
 refine ⟨w.setRow b (cs.toList.take (i * 1) ++ zs ++ cs.toList.drop (i * 1 + (ys.length - i) * 1)).toArray, (fun ty => by rw [← show (⟨b, i * 1, none⟩ : Addr) = ⟨b, i, none⟩ by rw [Nat.mul_one]]; exact hrun ty), ?_, ⟨rfl, rfl, rfl, by simp [World.setRow], fun k _ hn => setRow_other w b k _ (fun e => hn (by simp [e]))⟩⟩
 have h2 := row_cleared h hgr (Nat.le_of_lt hi) hz
 unfold OwnI
 rw [i64s_tk, List.length_take, Nat.min_eq_left (by omega)]
 exact h2
set_option maxHeartbeats 2000000 in
set_option maxRecDepth 100000 in
theorem idxFI (fid : FuncId) (hF : ∀ args W, (callFunc fid args).run Tryz.prog W = .ok (.enter fid args) W) (cap : Value) (v : Value) (l : List Int) (p : Int → Bool) (w : World) (h : HInts w v l) (hl : l.length ≤ 1000000) (CL : ∀ (x : Int) W, Fr w W [] → Calls Tryz.prog fid #[.int .i64 x, cap] W fun e w' => e = .returned (.bool (p x)) ∧ Fr W w' []) (z : Int) (hz : FstIs 0 l p z) :
 Calls Tryz.prog 280 #[v, .func (.func fid) #[] #[cap]] w fun e w' => e = .returned (.int .i64 z) ∧ Fr w w' [] := by
 obtain ⟨a, cp, rfl, p1, q1, r1⟩ := h
 unfold maxLen at q1
 obtain ⟨n, hn⟩ : ∃ n, n = l.length := ⟨_, rfl⟩
 have HN := Lib.hid hn
 have HCE := Lib.hid r1
 have HZ := Lib.hid hz
 have CLH := Lib.hid CL
 rw [← hn] at hl p1 HCE ⊢
 clear r1 hn hz CL
 go_enter Tryz.func280, Tryz.ntmps280
 go_wp2
 go_loopw [5, 8] (fun _ s8 wx => ∃ k : Nat, s8 = .int .i64 k ∧ Hid (k ≤ n) ∧ Hid (∀ i, i < k → p (l.getD i 0) = false) ∧ Hid (Fr w wx [])) (fun _ s8 _ => n - (intOf s8).toNat)
 case atStart => exact ⟨0, rfl, Lib.hid (Nat.zero_le _), Lib.hid (fun i hi => absurd hi (Nat.not_lt_zero _)), Lib.hid (Fr.refl _ _)⟩
 case round =>
  obtain ⟨k, rfl, HK, HA, HF⟩ := hrel
  have hk := HK.out
  by_cases hlt : k < n
  · obtain ⟨b, off, rfl, hc⟩ := HCE.out (by omega)
    obtain ⟨x, hx⟩ : ∃ x, x = l.getD k 0 := ⟨_, rfl⟩
    have HX := Lib.hid hx
    have x0 := hc k hlt
    rw [← hx] at x0
    have t0 := HF.out.cell x0 (by simp)
    clear x0
    obtain ⟨r, hr⟩ : ∃ r, r = p x := ⟨_, rfl⟩
    have HR := Lib.hid hr
    have C1 := Lib.hid (CLH.out x wr HF.out)
    rw [← hr] at C1
    clear hc hx hr
    cases r with
    | true =>
      have HP : Hid (z = (k : Int)) := Lib.hid (HZ.out.at (by have := HN.out; omega) (by rw [← HX.out]; exact HR.out.symm) HA.out)
      clear HA HX HR CLH
      go_wp2_with fail
      with_reducible refine (C1.out).mono ?_
      rintro e w1 ⟨rfl, hf⟩
      have HF1 := Lib.hid (HF.out.trans hf)
      clear hf C1
      go_wp2
      go_ret
      exact ⟨by rw [HP.out]; rfl, HF1.out⟩
    | false =>
      have HA2 : Hid (∀ i, i < k + 1 → p (l.getD i 0) = false) := Lib.hid (fun i hi => by
       by_cases q : i = k
       · subst q; rw [← HX.out]; exact HR.out.symm
       · exact HA.out i (by omega))
      clear HA HX HR
      go_wp2_with fail
      with_reducible refine (C1.out).mono ?_
      rintro e w1 ⟨rfl, hf⟩
      have HF1 := Lib.hid (HF.out.trans hf)
      clear hf C1
      go_wp2
      go_roundw
      case rel => exact ⟨k + 1, by go_num, Lib.hid (by omega), HA2, HF1⟩
      case measure => simp [intOf]; omega
  · obtain rfl : k = n := by omega
    have HP : Hid (z = -1) := Lib.hid (HZ.out.no (by rw [← HN.out]; exact HA.out))
    clear HA CLH HCE
    go_wp2
    go_ret
    exact ⟨by rw [HP.out]; rfl, HF.out⟩
set_option maxHeartbeats 4000000 in
set_option maxRecDepth 100000 in
theorem delI (fid : FuncId) (hF : ∀ args W, (callFunc fid args).run Tryz.prog W = .ok (.enter fid args) W) (cap : Value) (v : Value) (xs : List Int) (p : Int → Bool) (B : Nat) (w : World) (h : OwnI w B v xs) (hl : xs.length ≤ 1000000) (hCL : ∀ (x : Int) W, Fr w W v.ownBlock.toList → Calls Tryz.prog fid #[.int .i64 x, cap] W fun e w' => e = .returned (.bool (p x)) ∧ Fr W w' []) :
 Calls Tryz.prog 203 #[v, .func (.func fid) #[] #[cap]] w (Gives fun u w' => OwnI w' B u (notP p xs) ∧ Fr w w' v.ownBlock.toList ∧ u.ownBlock = v.ownBlock) := by
 obtain ⟨z, hz⟩ := FstIs.some 0 xs p
 have IX := Lib.hid (idxFI fid hF cap v xs p w h.holds hl (fun x W hW => hCL x W (hW.mono (by simp))) z hz)
 obtain ⟨ua, uc, rfl⟩ := row_shape h
 rcases hz with ⟨rfl, hall⟩ | ⟨i0, rfl, hi0, hp0, hq0⟩
 · have HE1 : Hid (notP p xs = xs) := Lib.hid (notP_all 0 p xs hall)
   have HK := Lib.hid h
   clear h hall hl hCL
   go_enter Tryz.func203, Tryz.ntmps203
   go_wp2_with fail
   with_reducible refine (IX.out).mono ?_
   rintro e w1 ⟨rfl, hf⟩
   have HF := Lib.hid hf
   clear hf IX
   go_wp2
   go_ret
   exact gives ⟨by rw [HE1.out]; exact HK.out.keep HF.out, HF.out.mono (by simp), rfl⟩
 · obtain ⟨b, uc', he, hnc, hcm, _⟩ := row_head h (by omega)
   simp only [Value.slice.injEq] at he
   obtain ⟨rfl, hq, rfl⟩ := he
   clear hq
   obtain ⟨n, hn⟩ : ∃ n, n = xs.length := ⟨_, rfl⟩
   have HN := Lib.hid hn
   have HOX := Lib.hid h
   have CL : Hid (∀ (x : Int) W, Fr w W [b] → Calls Tryz.prog fid #[.int .i64 x, cap] W fun e w' => e = .returned (.bool (p x)) ∧ Fr W w' []) := Lib.hid hCL
   have HST : Hid (xs.take i0 = notP p (xs.take (i0 + 1))) := Lib.hid (notP_pre 0 p xs i0 hi0 hp0 hq0)
   have hi0n : i0 < n := by rw [hn]; exact hi0
   have hn6 : n ≤ 1000000 := by omega
   unfold maxLen at hcm
   rw [← hn] at HOX IX hnc ⊢
   clear h hCL hl hn hi0 hp0 hq0
   have HDP : Hid (∀ u W zs, OwnI W B u zs → zs = notP p xs → Fr w W [b] → u.ownBlock = some b → (OwnI W B u (notP p xs) ∧ Fr w W (Value.slice (some ⟨b, 0, none⟩) n uc).ownBlock.toList ∧ u.ownBlock = (Value.slice (some ⟨b, 0, none⟩) n uc).ownBlock)) := Lib.hid (fun u W zs h1 h2 h3 h4 => ⟨h2 ▸ h1, h3, h4⟩)
   go_enter Tryz.func203, Tryz.ntmps203
   go_wp2_with fail
   with_reducible refine (IX.out).mono ?_
   rintro e w1 ⟨rfl, hf⟩
   have HF1 := Lib.hid hf
   have HO1 := Lib.hid (HOX.out.keep hf)
   have hne1 : ((i0 : Int) == -1) = false := by simp
   clear hf IX
   go_wp2_with fail
   go_loopw [5, 6] (fun s5 s6 wx => ∃ (i j : Nat) (ys : List Int), s5 = .int .i64 i ∧ s6 = .int .i64 j ∧ Hid (i < j ∧ j ≤ n) ∧ Hid (ys.length = n ∧ ys.take i = notP p (xs.take j) ∧ ys.drop j = xs.drop j) ∧ Hid (OwnI wx B (.slice (some ⟨b, 0, none⟩) n uc) ys) ∧ Hid (Fr w wx [b])) (fun _ s6 _ => n - (intOf s6).toNat)
   case atStart => exact ⟨i0, i0 + 1, xs, rfl, by go_num, Lib.hid ⟨Nat.lt_succ_self _, hi0n⟩, Lib.hid ⟨HN.out.symm, HST.out, rfl⟩, HO1, Lib.hid (HF1.out.mono (by simp))⟩
   case round =>
    clear HO1 HF1 HST HOX
    obtain ⟨i, j, ys, rfl, rfl, HIJ, HY, HO, HF⟩ := hrel
    obtain ⟨hij, hjn⟩ := HIJ.out
    clear HIJ
    by_cases hlt : j < n
    · have hyl : ys.length = n := HY.out.1
      have hjx : j < xs.length := by have := HN.out; omega
      obtain ⟨x, hx⟩ : ∃ x, x = ys.getD j 0 := ⟨_, rfl⟩
      have hex : xs.getD j 0 = x := by
       have := congrArg (fun l => l[0]?) HY.out.2.2
       simp only [List.getElem?_drop, Nat.add_zero] at this
       rw [hx, List.getD_eq_getElem?_getD, List.getD_eq_getElem?_getD, this]
      have HT := Lib.hid (show notP p (xs.take (j + 1)) = notP p (xs.take j) ++ (if p x = true then [] else [x]) by rw [← hex]; exact notP_step 0 p xs j hjx)
      obtain ⟨r, hr⟩ : ∃ r, r = p x := ⟨_, rfl⟩
      have HR := Lib.hid hr
      obtain ⟨t0, _⟩ := cellsI HO.out j (by omega)
      rw [← hx] at t0
      have FA := Lib.hid (Fr.refl wr [])
      have C1 := Lib.hid (CL.out x _ HF.out)
      rw [← hr] at C1
      clear hr hyl hex hjx hx
      cases r with
      | true =>
        have HY2 : Hid (ys.length = n ∧ ys.take i = notP p (xs.take (j + 1)) ∧ ys.drop (j + 1) = xs.drop (j + 1)) := Lib.hid ⟨HY.out.1, by rw [HT.out, if_pos HR.out.symm, List.append_nil]; exact HY.out.2.1, by
         have := congrArg (List.drop 1) HY.out.2.2
         simpa [List.drop_drop, Nat.add_comm] using this⟩
        clear HY HT HR
        go_wp2_with fail
        with_reducible refine (C1.out).mono ?_
        rintro e w4 ⟨rfl, hf⟩
        have HF4 := Lib.hid (HF.out.trans ((FA.out.trans hf).mono (by simp)))
        have HO4 := Lib.hid (HO.out.keep (FA.out.trans hf))
        clear hf C1 HF HO FA t0
        go_wp2
        go_roundw
        case rel => exact ⟨i, j + 1, ys, rfl, by go_num, Lib.hid ⟨by omega, by omega⟩, HY2, HO4, HF4⟩
        case measure => simp [intOf]; omega
      | false =>
        have HY2 : Hid ((ys.set i x).length = n ∧ (ys.set i x).take (i + 1) = notP p (xs.take (j + 1)) ∧ (ys.set i x).drop (j + 1) = xs.drop (j + 1)) := Lib.hid ⟨by rw [List.length_set]; exact HY.out.1, by
         rw [HT.out, if_neg (by rw [← HR.out]; decide), set_take (by have := HY.out.1; omega), HY.out.2.1], by
         rw [List.drop_set_of_lt (by omega)]
         have := congrArg (List.drop 1) HY.out.2.2
         simpa [List.drop_drop, Nat.add_comm] using this⟩
        have hil : i < ys.length := by have := HY.out.1; omega
        have HIL := Lib.hid hil
        clear HY HT HR hil
        go_wp2_with fail
        with_reducible refine (C1.out).mono ?_
        rintro e w4 ⟨rfl, hf⟩
        have HF4 := Lib.hid (HF.out.trans ((FA.out.trans hf).mono (by simp)))
        have HO4 := Lib.hid (HO.out.keep (FA.out.trans hf))
        clear hf C1 HF HO FA t0
        obtain ⟨k0, f0⟩ := cellsI HO4.out i HIL.out
        have HO5 := Lib.hid (putI_own HO4.out i x)
        have HF5 := Lib.hid (HF4.out.trans (Fr.setCell w4 b i (.int .i64 x) (by simp)))
        clear HO4 HF4
        go_wp2
        generalize World.setCell w4 _ _ = W5 at HO5 HF5 ⊢
        go_roundw
        case rel => exact ⟨i + 1, j + 1, _, by go_num, by go_num, Lib.hid ⟨by omega, by omega⟩, HY2, HO5, HF5⟩
        case measure => simp [intOf]; omega
    · obtain rfl : j = n := by omega
      obtain ⟨W, hrun, hown, hfr⟩ := clrdI HO.out hij
      have HEND : Hid (OwnI W B (.slice (some ⟨b, 0, none⟩) i uc) (ys.take i) ∧ ys.take i = notP p xs ∧ Fr w W [b]) := Lib.hid ⟨hown, by have := HY.out.2.1; rwa [HN.out, List.take_length] at this, HF.out.trans hfr⟩
      have hb1 : (i : Int) ≤ (uc : Int) := by omega
      have hb2 : ¬ (uc = i) := by omega
      have hb3 : i ≤ uc := by omega
      clear hown hfr HY HO HF CL
      go_wp2_with (at_builtin; refine wpList_clear rfl _ _ rfl _ rfl (hrun _) ?_)
      go_ret
      obtain ⟨h1, h2, h3⟩ := HEND.out
      exact gives (HDP.out _ _ _ h1 h2 h3 rfl)
end Go.Proofs.YtiflmkicnkbeaaaGreatDoor
namespace Go.Proofs.YtiflmkicnkbeaaaGreatDoor
open Go.RowKit
theorem set8 {w : World} {g : Nat} {a b c d e f h i : Value} {T : TypeId} (k : w.heap[g]? = some (.cells #[a, b, c, d, e, f, h, i] T (0, 0))) (v0 v1 v2 v3 v4 v5 v6 v7 : Value) :
 ((((((((w.setCell ⟨g, 0, none⟩ v0).setCell ⟨g, 1, none⟩ v1).setCell ⟨g, 2, none⟩ v2).setCell ⟨g, 3, none⟩ v3).setCell ⟨g, 4, none⟩ v4).setCell ⟨g, 5, none⟩ v5).setCell ⟨g, 6, none⟩ v6).setCell ⟨g, 7, none⟩ v7).heap[g]? = some (.cells #[v0, v1, v2, v3, v4, v5, v6, v7] T (0, 0)) := by
 have h1 : (w.setCell ⟨g, 0, none⟩ v0).heap[g]? = some (.cells #[v0, b, c, d, e, f, h, i] T (0, 0)) := by rw [heap_setCell_same _ g 0 _ _ _ k]; rfl
 have h2 : ((w.setCell ⟨g, 0, none⟩ v0).setCell ⟨g, 1, none⟩ v1).heap[g]? = some (.cells #[v0, v1, c, d, e, f, h, i] T (0, 0)) := by rw [heap_setCell_same _ g 1 _ _ _ h1]; rfl
 have h3 : (((w.setCell ⟨g, 0, none⟩ v0).setCell ⟨g, 1, none⟩ v1).setCell ⟨g, 2, none⟩ v2).heap[g]? = some (.cells #[v0, v1, v2, d, e, f, h, i] T (0, 0)) := by rw [heap_setCell_same _ g 2 _ _ _ h2]; rfl
 have h4 : ((((w.setCell ⟨g, 0, none⟩ v0).setCell ⟨g, 1, none⟩ v1).setCell ⟨g, 2, none⟩ v2).setCell ⟨g, 3, none⟩ v3).heap[g]? = some (.cells #[v0, v1, v2, v3, e, f, h, i] T (0, 0)) := by rw [heap_setCell_same _ g 3 _ _ _ h3]; rfl
 have h5 : (((((w.setCell ⟨g, 0, none⟩ v0).setCell ⟨g, 1, none⟩ v1).setCell ⟨g, 2, none⟩ v2).setCell ⟨g, 3, none⟩ v3).setCell ⟨g, 4, none⟩ v4).heap[g]? = some (.cells #[v0, v1, v2, v3, v4, f, h, i] T (0, 0)) := by rw [heap_setCell_same _ g 4 _ _ _ h4]; rfl
 have h6 : ((((((w.setCell ⟨g, 0, none⟩ v0).setCell ⟨g, 1, none⟩ v1).setCell ⟨g, 2, none⟩ v2).setCell ⟨g, 3, none⟩ v3).setCell ⟨g, 4, none⟩ v4).setCell ⟨g, 5, none⟩ v5).heap[g]? = some (.cells #[v0, v1, v2, v3, v4, v5, h, i] T (0, 0)) := by rw [heap_setCell_same _ g 5 _ _ _ h5]; rfl
 have h7 : (((((((w.setCell ⟨g, 0, none⟩ v0).setCell ⟨g, 1, none⟩ v1).setCell ⟨g, 2, none⟩ v2).setCell ⟨g, 3, none⟩ v3).setCell ⟨g, 4, none⟩ v4).setCell ⟨g, 5, none⟩ v5).setCell ⟨g, 6, none⟩ v6).heap[g]? = some (.cells #[v0, v1, v2, v3, v4, v5, v6, i] T (0, 0)) := by rw [heap_setCell_same _ g 6 _ _ _ h6]; rfl
 rw [heap_setCell_same _ g 7 _ _ _ h7]; rfl
theorem set8_fr (w : World) (g : Nat) (v0 v1 v2 v3 v4 v5 v6 v7 : Value) :
 Fr w ((((((((w.setCell ⟨g, 0, none⟩ v0).setCell ⟨g, 1, none⟩ v1).setCell ⟨g, 2, none⟩ v2).setCell ⟨g, 3, none⟩ v3).setCell ⟨g, 4, none⟩ v4).setCell ⟨g, 5, none⟩ v5).setCell ⟨g, 6, none⟩ v6).setCell ⟨g, 7, none⟩ v7) [g] :=
 (((((((Fr.setCell w g 0 v0 (S := [g]) (by simp)).trans (Fr.setCell _ g 1 v1 (S := [g]) (by simp))).trans (Fr.setCell _ g 2 v2 (S := [g]) (by simp))).trans (Fr.setCell _ g 3 v3 (S := [g]) (by simp))).trans (Fr.setCell _ g 4 v4 (S := [g]) (by simp))).trans (Fr.setCell _ g 5 v5 (S := [g]) (by simp))).trans (Fr.setCell _ g 6 v6 (S := [g]) (by simp))).trans (Fr.setCell _ g 7 v7 (S := [g]) (by simp))
end Go.Proofs.YtiflmkicnkbeaaaGreatDoor
namespace Go.Proofs.YtiflmkicnkbeaaaGreatDoor
open Go.RowKit Fm
structure Sm (m m' : Mm) : Prop where
 p : m'.p = m.p
 sp : m'.sp = m.sp
 gp : m'.gp = m.gp
 q : m'.q = m.q
 g : m'.g = m.g
 rp : m'.rp = m.rp
 vm : m'.vm = m.vm
 vc : m'.vc.ownBlock = m.vc.ownBlock
 vp : m'.vp.ownBlock = m.vp.ownBlock
set_option maxRecDepth 100000 in
theorem nride1_any (x : La) (b p : Nat) (s : RS) (w : World) (hb : w.cell? ⟨b, 0, none⟩ = some (.pointer (some ⟨p, 0, none⟩))) (hs : Rs w p s) (hn : s.n ≤ 64) :
 Calls Tryz.prog 122 #[.agg #[.int .i64 x.f, .int .i64 x.d, .int .i64 x.g], .pointer (some ⟨b, 0, none⟩)] w fun e w' => e = .returned (.bool (!s.isB x.f x.d x.g)) ∧ Fr w w' [] := by
 have FA := Lib.hid (Fr.alloc w (.cells #[.int .i64 x.f, .int .i64 x.d, .int .i64 x.g] 46) [])
 obtain ⟨y0, y1, y2⟩ := row3 (heap_alloc_new w (.cells #[.int .i64 x.f, .int .i64 x.d, .int .i64 x.g] 46))
 have IS := Lib.hid (riis_any p s x.f x.d x.g _ (hs.keep FA.out) hn _ rfl)
 have hb' := FA.out.cell hb (by simp)
 clear hs hn hb
 go_enter Tryz.func122, Tryz.ntmps122
 go_wp2_with fail
 with_reducible refine (IS.out).mono ?_
 rintro e w2 ⟨rfl, hf⟩
 have HF := Lib.hid (FA.out.trans hf)
 clear hf IS
 go_wp2
 go_ret
 exact ⟨rfl, HF.out⟩
set_option maxRecDepth 100000 in
theorem nserve1_any (z : Int) (b : Nat) (d : Dn) (w : World) (hb : NB w b d) (hk : d.st.ok) :
 Calls Tryz.prog 204 #[.int .i64 z, .pointer (some ⟨b, 0, none⟩)] w fun e w' => e = .returned (.bool (hasB d.st.c z)) ∧ Fr w w' [] := by
 have AT := Lib.hid (at_any d.st z w hk _ rfl)
 obtain ⟨_, _, _, _, _, c5, c6, c7⟩ := row8 hb
 clear hb hk
 dsimp only [Sp.v] at AT
 go_enter Tryz.func204, Tryz.ntmps204
 go_wp2_with fail
 with_reducible refine (AT.out).mono ?_
 rintro e w2 ⟨rfl, hf⟩
 have HF := Lib.hid hf
 clear hf AT
 go_wp2
 go_ret
 exact ⟨rfl, HF.out⟩
set_option maxRecDepth 100000 in
theorem nserve2_any (x : La) (b : Nat) (d : Dn) (w : World) (hb : NB w b d) (hk : d.st.ok) :
 Calls Tryz.prog 206 #[.agg #[.int .i64 x.f, .int .i64 x.d, .int .i64 x.g], .pointer (some ⟨b, 0, none⟩)] w fun e w' => e = .returned (.bool (d.st.hall x.f x.d)) ∧ Fr w w' [] := by
 have FA := Lib.hid (Fr.alloc w (.cells #[.int .i64 x.f, .int .i64 x.d, .int .i64 x.g] 46) [])
 obtain ⟨y0, y1, y2⟩ := row3 (heap_alloc_new w (.cells #[.int .i64 x.f, .int .i64 x.d, .int .i64 x.g] 46))
 have HA := Lib.hid (fun W => hall_any d.st x.f x.d W hk _ rfl)
 have hlt := size_of_row hb
 obtain ⟨_, _, _, _, _, c5, c6, c7⟩ := row8 (FA.out.heap hb (by simp))
 clear hb hk
 dsimp only [Sp.v] at HA
 go_enter Tryz.func206, Tryz.ntmps206
 go_wp2_with fail
 with_reducible refine (HA.out _).mono ?_
 rintro e w2 ⟨rfl, hf⟩
 have HF := Lib.hid (FA.out.trans hf)
 clear hf HA
 go_wp2
 go_ret
 exact ⟨rfl, HF.out⟩
theorem cfR (args : Array Value) (W : World) : (callFunc 122 args).run Tryz.prog W = .ok (.enter 122 args) W := by
 have := Tryz.func122
 go_simp
theorem cfS1 (args : Array Value) (W : World) : (callFunc 204 args).run Tryz.prog W = .ok (.enter 204 args) W := by
 have := Tryz.func204
 go_simp
theorem cfS2 (args : Array Value) (W : World) : (callFunc 206 args).run Tryz.prog W = .ok (.enter 206 args) W := by
 have := Tryz.func206
 go_simp
def Served (B : Nat) (m : Mm) (n : Nd) (d : Dn) (w : World) (w' : World) : Prop :=
 ∃ m', Sm m m' ∧ NdR w' m' { n with cs := notP (fun z => hasB d.st.c z) n.cs } ∧ OwnI w' B m'.vp (notP (fun z => hasB d.st.c z) n.cs) ∧ OwnL w' B m'.vc [] ∧ Fr w w' (m.p :: (m.vp.ownBlock.toList ++ m.vc.ownBlock.toList))
set_option maxHeartbeats 1000000 in
set_option maxRecDepth 100000 in
theorem nserve_none (B : Nat) (m : Mm) (n : Nd) (d : Dn) (w : World) (h : NdR w m n) (hc : OwnI w B m.vp n.cs) (hl : OwnL w B m.vc []) (hk : d.st.ok) (hn : n.cs.length ≤ 1000000) :
 Calls Tryz.prog 127 #[.pointer (some ⟨m.p, 0, none⟩), .pointer (some ⟨m.rp, 0, none⟩), d.v] w (Gives fun u w' => u = .slice none 0 0 ∧ Served B m n d w w') := by
 obtain ⟨p, sp, gp, q, g, rp, vm, vc, vp⟩ := m
 dsimp only at hc hl ⊢
 obtain ⟨la, lc, hvc⟩ := hl.shape
 rw [show ([] : List La).length = 0 from rfl] at hvc
 subst hvc
 have hlt : p < w.heap.size := h.lt
 have FA := Lib.hid (Fr.alloc w d.box [])
 have HB := Lib.hid (show NB (w.alloc d.box) w.heap.size d from heap_alloc_new w _)
 have HPV := Lib.hid (fun (e : some p = vp.ownBlock) => row_ne hc h.row.choose_spec (by decide) e.symm)
 have HPL := Lib.hid (fun (e : some p = (Value.slice la 0 lc).ownBlock) => row_ne hl h.row.choose_spec (by decide) e.symm)
 have HR := Lib.hid (h.keep FA.out)
 have HVB := Lib.hid (hc.block)
 have HLB := Lib.hid (hl.block)
 have HC := Lib.hid (hc.keep FA.out)
 have HL := Lib.hid (hl.keep FA.out)
 have HTN := Lib.hid (show ∀ r ∈ vp.ownBlock.toList, (Value.slice la 0 lc).ownBlock ≠ some r from fun r hr => by
  rcases hc.2 with ⟨rfl, _⟩ | ⟨g, cap, cur, rfl, _, hg, _⟩
  · simp [Value.ownBlock] at hr
  · simp [Value.ownBlock] at hr
    subst hr
    exact row_ne hl hg (by decide))
 have DI := Lib.hid (delI 204 cfS1 (.pointer (some ⟨w.heap.size, 0, none⟩)) vp n.cs (fun z => hasB d.st.c z) B (w.alloc d.box) HC.out hn (fun x W hW => nserve1_any x w.heap.size d W (hW.heap HB.out (by
  intro hm
  have := (hc.block _ (by simpa using hm)).2
  omega)) hk))
 have DL := Lib.hid (fun W (hW : OwnL W B (.slice la 0 lc) []) => delL 206 cfS2 (.pointer (some ⟨w.heap.size, 0, none⟩)) (.slice la 0 lc) [] (fun x => d.st.hall x.f x.d) B W hW (by simp))
 have SV := Lib.hid (fun (x : La) W (hW : NB W w.heap.size d) => nserve2_any x w.heap.size d W hW hk)
 clear h hc hl hk hn
 dsimp only [Dn.v, Dn.box] at *
 go_enter Tryz.func127, Tryz.ntmps127
 go_upto_region 1 with fail
 generalize w.alloc _ = V at FA HB HR HC HL DI ⊢
 have c81 : V.cell? ⟨p, 81, none⟩ = some vp := HR.out.ns.2.2.2.2.2.2.2.2.2.2.2.2.2.2.2.2.1
 go_wp2_with fail
 with_reducible refine (DI.out).mono ?_
 rintro e w1 ⟨u, rfl, ho, hf, hub⟩
 obtain ⟨ua, un, uc, rfl⟩ : ∃ a k c, u = .slice a k c := by obtain ⟨a, c, e⟩ := row_shape ho; exact ⟨a, _, c, e⟩
 have HR1 := Lib.hid (HR.out.fr hf (by intro hm; exact HPV.out (by simpa [eq_comm] using hm)))
 have HUB := Lib.hid hub
 have HF1 : Hid (Fr w w1 (p :: (vp.ownBlock.toList ++ (Value.slice la 0 lc).ownBlock.toList))) := Lib.hid (FA.out.comb hf (by simp) (fun x hx => .inl (by simp only [List.mem_cons, List.mem_append]; exact .inr (.inl hx))))
 have hset : Fr w1 (w1.setCell ⟨p, 81, none⟩ (.slice ua un uc)) [p] := Fr.setCell w1 p 81 (.slice ua un uc) (by simp)
 have HR2 := Lib.hid (HR1.out.set (m' := ⟨p, sp, gp, q, g, rp, vm, (.slice la 0 lc), (.slice ua un uc)⟩) (n' := { n with cs := notP (fun z => hasB d.st.c z) n.cs }) 81 (by omega) (.slice ua un uc) rfl rfl rfl rfl)
 have HO2 := Lib.hid (ho.far hset HR1.out.row.choose_spec (by decide))
 have HL2 := Lib.hid ((HL.out.fr hf (fun r hr => HTN.out r hr)).fr hset (fun r hr => by obtain rfl := List.mem_singleton.1 hr; exact fun e => HPL.out e.symm))
 have HB2 := Lib.hid ((hf.heap HB.out (by intro hm; have := (HVB.out _ (by simpa using hm)).2; omega) : NB w1 w.heap.size d))
 have HB3 := Lib.hid (hset.heap HB2.out (by intro hm; have := List.mem_singleton.1 hm; omega))
 have HF2 := Lib.hid (HF1.out.comb hset (fun x hx => .inl hx) (fun x hx => .inl (by rw [List.mem_singleton.1 hx]; simp)))
 have c81' : w1.cell? ⟨p, 81, none⟩ = some vp := HR1.out.ns.2.2.2.2.2.2.2.2.2.2.2.2.2.2.2.2.1
 have c80' : w1.cell? ⟨p, 80, none⟩ = some (.slice la 0 lc) := HR1.out.ns.2.2.2.2.2.2.2.2.2.2.2.2.2.2.2.1
 have f81 := HR1.out.fz 81
 clear ho hf hub hset HR HC HL HB HB2 DI HR1 HF1 c81 HVB
 go_wp2_with fail
 clear c81' c80' f81
 generalize World.setCell w1 _ _ = W2 at HR2 HO2 HL2 HB3 HF2 ⊢
 go_loopw [8, 26] (fun s8 s26 wx => s8 = .slice none 0 0 ∧ s26 = .int .i64 0 ∧ wx = W2) (fun _ _ _ => 0)
 case atStart => exact ⟨rfl, rfl, rfl⟩
 case round =>
  obtain ⟨rfl, rfl, rfl⟩ := hrel
  have c80 : wr.cell? ⟨p, 80, none⟩ = some (.slice la 0 lc) := HR2.out.ns.2.2.2.2.2.2.2.2.2.2.2.2.2.2.2.1
  have f80 := HR2.out.fz 80
  have D2 := Lib.hid (DL.out wr HL2.out (fun x W hW => SV.out x W (hW.heap HB3.out (by intro hm; have := (HLB.out _ (by simpa using hm)).2; omega))))
  go_wp2_with fail
  with_reducible refine (D2.out).mono ?_
  rintro e w3 ⟨u2, rfl, ho3, hf3, hub3⟩
  obtain ⟨ua2, un2, uc2, rfl⟩ : ∃ a k c, u2 = .slice a k c := by obtain ⟨a, c, e⟩ := row_shape ho3; exact ⟨a, _, c, e⟩
  have HR3 := HR2.out.fr hf3 (by intro hm; exact HPL.out (by simpa [eq_comm] using hm))
  have hset : Fr w3 (w3.setCell ⟨p, 80, none⟩ (.slice ua2 un2 uc2)) [p] := Fr.setCell w3 p 80 (.slice ua2 un2 uc2) (by simp)
  have HR4 := Lib.hid (HR3.set (m' := ⟨p, sp, gp, q, g, rp, vm, (.slice ua2 un2 uc2), (.slice ua un uc)⟩) (n' := { n with cs := notP (fun z => hasB d.st.c z) n.cs }) 80 (by omega) (.slice ua2 un2 uc2) rfl rfl rfl rfl)
  have HO4 := Lib.hid ((HO2.out.fr hf3 (fun r hr e => by
   rw [HUB.out] at e
   exact HTN.out r (by rw [e]; simp) (by simpa using hr))).far hset HR3.row.choose_spec (by decide))
  have HL4 := Lib.hid (ho3.fr hset (fun r hr => by obtain rfl := List.mem_singleton.1 hr; rw [hub3]; exact fun e => HPL.out e.symm))
  have HF4 := Lib.hid ((HF2.out.comb hf3 (fun x hx => .inl hx) (fun x hx => .inl (by simp only [List.mem_cons, List.mem_append]; exact .inr (.inr hx)))).comb hset (fun x hx => .inl hx) (fun x hx => .inl (by rw [List.mem_singleton.1 hx]; simp)))
  have HSM := Lib.hid (show Sm ⟨p, sp, gp, q, g, rp, vm, .slice la 0 lc, vp⟩ ⟨p, sp, gp, q, g, rp, vm, (.slice ua2 un2 uc2), (.slice ua un uc)⟩ from ⟨rfl, rfl, rfl, rfl, rfl, rfl, rfl, hub3, HUB.out⟩)
  have c80' : w3.cell? ⟨p, 80, none⟩ = some (.slice la 0 lc) := HR3.ns.2.2.2.2.2.2.2.2.2.2.2.2.2.2.2.1
  have f80' := HR3.fz 80
  have HL5 : Hid (OwnL (w3.setCell ⟨p, 80, none⟩ (.slice ua2 un2 uc2)) B (.slice ua2 un2 uc2) []) := HL4
  clear HR3 hset ho3 hf3 hub3 HR2 HO2 HL2 HF2 D2 c80 f80 HL4
  go_wp2
  go_ret
  exact gives ⟨rfl, ⟨p, sp, gp, q, g, rp, vm, (.slice ua2 un2 uc2), (.slice ua un uc)⟩, HSM.out, HR4.out, HO4.out, HL5.out, HF4.out⟩
end Go.Proofs.YtiflmkicnkbeaaaGreatDoor
namespace Go.Proofs.YtiflmkicnkbeaaaGreatDoor
open Go.RowKit
theorem tick_st_ok (h : Ho) (c : Ca) {s : Sp} (ok : s.ok) (ob : Bool) : (c.tick h s ob).2.st.ok := by
 rcases tick_opens h c ok ob with ⟨_, q⟩ | ⟨_, q, _⟩
 · exact (done_facts ok q).2.2.2.2.2.1
 · rw [q]; exact ⟨(by decide : (0 : Nat) < 18446744073709551616), (by decide : (0 : Nat) < 18446744073709551616), (by decide : (0 : Nat) < 18446744073709551616)⟩
end Go.Proofs.YtiflmkicnkbeaaaGreatDoor
