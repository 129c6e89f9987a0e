/- The law of plays: whatever tokens come, whatever is founded: which are taken, which are new, in which epoch, at which hop it is, are what the chapter says; a copy goes its own way: its walk. -/
import Derived.Test.YtlkpgpiklfbacaaGFirst
import Derived.Test.YtlkpgpiklfbacaaGRings
import Derived.Test.YtlkpgpiklfbacaaRGate2
import Derived.Deep.DeepCutAuto
import Derived.Deep.CutBlock
import Derived.Deep.RegionHeld3
namespace Go.Proofs.Ytlkpgpiklfbacaa
open Go.RowKit

theorem row8 {w : World} {g : Nat} {a b c d e f h i : Value} {T : TypeId} (hh : w.heap[g]? = some (.cells #[a, b, c, d, e, f, h, i] T (0, 0))) :
    w.cell? ⟨g, 0, none⟩ = some a ∧ w.cell? ⟨g, 1, none⟩ = some b ∧ w.cell? ⟨g, 2, none⟩ = some c ∧ w.cell? ⟨g, 3, none⟩ = some d ∧ w.cell? ⟨g, 4, none⟩ = some e ∧ w.cell? ⟨g, 5, none⟩ = some f ∧ w.cell? ⟨g, 6, none⟩ = some h ∧ w.cell? ⟨g, 7, none⟩ = some i :=
  ⟨by rw [cell_of_row w g 0 _ _ _ hh]; rfl, by rw [cell_of_row w g 1 _ _ _ hh]; rfl, by rw [cell_of_row w g 2 _ _ _ hh]; rfl, by rw [cell_of_row w g 3 _ _ _ hh]; rfl, by rw [cell_of_row w g 4 _ _ _ hh]; rfl, by rw [cell_of_row w g 5 _ _ _ hh]; rfl, by rw [cell_of_row w g 6 _ _ _ hh]; rfl, by rw [cell_of_row w g 7 _ _ _ hh]; rfl⟩
/-- What was there at the beginning stays, where a block of a later day turns. -/
theorem HInts.off {w0 w w' : World} {v : Value} {l : List Int} {p : Nat} (h : HInts w0 v l) (hf : Fr w0 w []) (hp : Fr w w' [p]) (hlt : w0.heap.size ≤ p) : HInts w' v l :=
  Holds.fr h (hf.comb hp (U := []) (by simp) (fun x hx => .inr (by obtain rfl := List.mem_singleton.1 hx; exact hlt))) (by simp)
/-- Both gates, and the copy. -/
structure BG (w : World) (p q : Nat) (s : GS) : Prop where
  g : Gt w p s
  x : RGt w q s
theorem BG.keep {w w' : World} {p q : Nat} {s : GS} (h : BG w p q s) (hf : Fr w w' []) : BG w' p q s := ⟨h.g.keep hf, h.x.keep hf⟩
/-- What stands while the first region is walked: the cells of what was told, both gates, the members. -/
def PS (W : World) (D p q : Nat) (s : GS) (K A B c f h : Int) (vm ve : Value) (ms : List Int) (a : World) : Prop := Fr W a [] ∧
  (a.cell? ⟨D, 0, none⟩ = some (.int .i64 K) ∧ a.cell? ⟨D, 1, none⟩ = some (.int .i64 A) ∧ a.cell? ⟨D, 2, none⟩ = some (.int .i64 B) ∧ a.cell? ⟨D, 3, none⟩ = some (.int .i64 c) ∧ a.cell? ⟨D, 4, none⟩ = some (.int .i64 f) ∧ a.cell? ⟨D, 5, none⟩ = some (.int .i64 h) ∧ a.cell? ⟨D, 6, none⟩ = some vm ∧ a.cell? ⟨D, 7, none⟩ = some ve) ∧
  HInts a vm ms ∧ BG a p q s
theorem PS.fr {W : World} {D p q : Nat} {s : GS} {K A B c f h : Int} {vm ve : Value} {ms : List Int} {a a' : World} (hh : PS W D p q s K A B c f h vm ve ms a) (k : Fr a a' []) : PS W D p q s K A B c f h vm ve ms a' := by
  obtain ⟨h0, ⟨h1, h2, h3, h4, h5, h6, h7, h8⟩, h9, h10⟩ := hh
  exact ⟨h0.trans k, ⟨k.cell h1 (by simp), k.cell h2 (by simp), k.cell h3 (by simp), k.cell h4 (by simp), k.cell h5 (by simp), k.cell h6 (by simp), k.cell h7 (by simp), k.cell h8 (by simp)⟩, h9.keep k, h10.keep k⟩
/-- What stands while the last region is walked: the gates, the document's cells, the copy. -/
def QS (W : World) (p q C : Nat) (s s0 : GS) (a : World) : Prop := Fr W a [] ∧
  (a.cell? ⟨q, 0, none⟩ = some (.int .i64 s.fl) ∧ a.cell? ⟨q, 1, none⟩ = some (.int .i64 s.c) ∧ a.cell? ⟨q, 2, none⟩ = some (.int .i64 s.f) ∧ a.cell? ⟨q, 3, none⟩ = some (.int .i64 s.h)) ∧ BG a p q s ∧ Gt a C s0
theorem QS.fr {W : World} {p q C : Nat} {s s0 : GS} {a a' : World} (hh : QS W p q C s s0 a) (k : Fr a a' []) : QS W p q C s s0 a' := by
  obtain ⟨h0, ⟨h1, h2, h3, h4⟩, h9, h10⟩ := hh
  exact ⟨h0.trans k, ⟨k.cell h1 (by simp), k.cell h2 (by simp), k.cell h3 (by simp), k.cell h4 (by simp)⟩, h9.keep k, h10.keep k⟩

set_option maxHeartbeats 8000000 in
set_option maxRecDepth 100000 in
theorem gplays_walk (n : Int) (v : Value) (l : List DV) (w : World) (h : HDs w v l) :
    Calls Try.prog 4 #[.int .i64 n, v] w fun e w' => e = .returned (.bool true) ∧ w.grownBy w' none := by
  obtain ⟨ad, cap, rfl, h1, h2, h3⟩ := h
  unfold maxLen at h2
  have HC := Lib.hid h3
  clear h3
  by_cases hl : l.length ≤ 60
  · go_enter Try.func4, Try.ntmps4
    go_wp2_with fail
    refine (first_any _).mono ?_
    rintro e w1 ⟨rfl, hf⟩
    have HF1 := Lib.hid hf
    clear hf
    go_wp2_with fail
    refine (new_any n w1).mono ?_
    rintro e w2 ⟨rfl, hg, hf⟩
    have HG2 := Lib.hid hg
    have HF2 := Lib.hid (HF1.out.trans hf)
    clear hg hf
    go_wp2_with fail
    refine (rnew_any n w2).mono ?_
    rintro e w3 ⟨rfl, hx, hf⟩
    have B3 := Lib.hid (show BG w3 w1.heap.size w2.heap.size ⟨0, 0, 0, max n 0⟩ from ⟨HG2.out.keep hf, hx⟩)
    have HF3 := Lib.hid (HF2.out.trans hf)
    have HSZ := Lib.hid (And.intro HF1.out.size (And.intro HG2.out.lt HF2.out.size))
    clear hx hf HG2
    go_wp2
    go_loopw [8] (fun i wx => ∃ (k : Nat) (s : GS), k ≤ l.length ∧ i = .int .i64 k ∧ BG wx w1.heap.size w2.heap.size s ∧ Fr w wx []) (fun i _ => l.length - (intOf i).toNat)
    case atStart => exact ⟨0, _, Nat.zero_le _, rfl, B3.out, HF3.out⟩
    case round =>
      obtain ⟨k, s, hk, rfl, hb, hf⟩ := hrel
      have B0 := Lib.hid hb
      have F0 := Lib.hid hf
      clear hb hf B3 HF3
      by_cases hlt : k < l.length
      · obtain ⟨b1, o1, rfl, hc⟩ := HC.out (by omega)
        obtain ⟨⟨K, A, B, ⟨⟨c, f, h, ms⟩, vm, ve⟩⟩, hx⟩ : ∃ x, x = l.getD k zDV := ⟨_, rfl⟩
        have hck := hc k hlt
        rw [← hx] at hck
        obtain ⟨⟨g0, g1, g2, g3, g4, g5, g6, g7⟩, hm, hv⟩ := hck
        dsimp only at g0 g1 g2 g3 g4 g5 g6 g7 hm hv
        obtain ⟨am, nm, cm, rfl⟩ := hm.sl
        obtain ⟨ae, ne, ce, rfl⟩ := hv
        have HM := Lib.hid hm
        clear hc hx hm
        replace g0 := F0.out.cell g0 (by simp)
        replace g1 := F0.out.cell g1 (by simp)
        replace g2 := F0.out.cell g2 (by simp)
        replace g3 := F0.out.cell g3 (by simp)
        replace g4 := F0.out.cell g4 (by simp)
        replace g5 := F0.out.cell g5 (by simp)
        replace g6 := F0.out.cell g6 (by simp)
        replace g7 := F0.out.cell g7 (by simp)
        have D0 := Lib.hid (heap_alloc_new wr (.cells #[.int .i64 K, .int .i64 A, .int .i64 B, .int .i64 c, .int .i64 f, .int .i64 h, .slice am nm cm, .slice ae ne ce] 43))
        have FA := Lib.hid (Fr.alloc wr (.cells #[.int .i64 K, .int .i64 A, .int .i64 B, .int .i64 c, .int .i64 f, .int .i64 h, .slice am nm cm, .slice ae ne ce] 43) [])
        have BA := Lib.hid (B0.out.keep FA.out)
        have HLE := Lib.hid (show w1.heap.size < wr.heap.size ∧ w2.heap.size < wr.heap.size from ⟨B0.out.g.lt, size_of_row B0.out.x⟩)
        by_cases hn : nm ≤ 20
        · by_cases he : ne ≤ 4
          · go_wp2_with fail
            refine (clone_any w1.heap.size s _ BA.out.g).mono ?_
            rintro e w4 ⟨u, rfl, hu0⟩
            obtain ⟨cq, hu, hcq, hc, hf⟩ : ∃ cq, u = .pointer (some ⟨cq, 0, none⟩) ∧ wr.heap.size < cq ∧ Gt w4 cq s ∧ Fr (wr.alloc (.cells #[.int .i64 K, .int .i64 A, .int .i64 B, .int .i64 c, .int .i64 f, .int .i64 h, .slice am nm cm, .slice ae ne ce] 43)) w4 [] := ⟨_, hu0.1, by simp, hu0.2.1, hu0.2.2⟩
            clear hu0
            subst hu
            have C4 := Lib.hid hc
            have HCQ := Lib.hid hcq
            have B4 := Lib.hid (BA.out.keep hf)
            have D4 := Lib.hid (hf.heap D0.out (by simp))
            have F4 := Lib.hid ((F0.out.trans FA.out).trans hf)
            clear hc hcq hf g0 g1 g2 g3 g4 g5 g6 g7
            go_wp2_with fail
            refine (hop_any cq s _ C4.out).mono ?_
            rintro e w' ⟨rfl, rfl⟩
            obtain ⟨wb, hwb⟩ : ∃ wb, wouldB s A B ⟨c, f, h, ms⟩ = wb := ⟨_, rfl⟩
            have HWB := Lib.hid hwb
            have HS := Lib.hid (show PS w' wr.heap.size w1.heap.size w2.heap.size s K A B c f h (.slice am nm cm) (.slice ae ne ce) ms w'.drew from ⟨Fr.drew _ [], row8 ((Fr.drew _ []).heap D4.out (by simp)), HM.out.keep (F4.out.trans (Fr.drew _ [])), B4.out.keep (Fr.drew _ [])⟩)
            clear hwb
            go_wp2
            refine wp_region_det (S := PS w' wr.heap.size w1.heap.size w2.heap.size s K A B c f h (.slice am nm cm) (.slice ae ne ce) ms) (by kernel_rfl) HS.out ?_
            refine wpDet_take (i := 0) (oi := _) (v := ?dv1) (by simp only [List.getElem?_toArray, List.getElem?_cons_zero]; rfl) (by kernel_rfl) (by kernel_rfl) (by kernel_rfl) (Or.inl ⟨by rfl, ?dy1⟩) ?dr1
            case dy1 => (intro w hSw; have hS0 := hSw; (try dsimp only [PS] at hSw); go_simp; refine Came.value ?_ hS0; with_reducible rfl)
            try simp only [Act.put, List.setIfInBounds_toArray, List.set_cons_zero, List.set_cons_succ]
            refine wpDet_take (i := 1) (oi := _) (v := ?dv2) (by simp only [List.getElem?_toArray, List.getElem?_cons_zero, List.getElem?_cons_succ]; rfl) (by kernel_rfl) (by kernel_rfl) (by kernel_rfl) (Or.inl ⟨by rfl, ?dy2⟩) ?dr2
            case dy2 => (intro w hSw; have hS0 := hSw; (try dsimp only [PS] at hSw); go_simp; refine Came.value ?_ hS0; with_reducible rfl)
            try simp only [Act.put, List.setIfInBounds_toArray, List.set_cons_zero, List.set_cons_succ]
            refine wpDet_take (i := 2) (oi := _) (v := ?dv3) (by simp only [List.getElem?_toArray, List.getElem?_cons_zero, List.getElem?_cons_succ]; rfl) (by kernel_rfl) (by kernel_rfl) (by kernel_rfl) (Or.inl ⟨by rfl, ?dy3⟩) ?dr3
            case dy3 => (intro w hSw; have hS0 := hSw; (try dsimp only [PS] at hSw); go_simp; refine Came.value ?_ hS0; with_reducible rfl)
            try simp only [Act.put, List.setIfInBounds_toArray, List.set_cons_zero, List.set_cons_succ]
            refine wpDet_take (i := 3) (oi := _) (v := ?dv4) (by simp only [List.getElem?_toArray, List.getElem?_cons_zero, List.getElem?_cons_succ]; rfl) (by kernel_rfl) (by kernel_rfl) (by kernel_rfl) (Or.inl ⟨by rfl, ?dy4⟩) ?dr4
            case dy4 => (intro w hSw; have hS0 := hSw; (try dsimp only [PS] at hSw); go_simp; refine Came.value ?_ hS0; with_reducible rfl)
            try simp only [Act.put, List.setIfInBounds_toArray, List.set_cons_zero, List.set_cons_succ]
            refine wpDet_take (i := 4) (oi := _) (v := ?dv5) (by simp only [List.getElem?_toArray, List.getElem?_cons_zero, List.getElem?_cons_succ]; rfl) (by kernel_rfl) (by kernel_rfl) (by kernel_rfl) (Or.inl ⟨by rfl, ?dy5⟩) ?dr5
            case dy5 => (intro w hSw; have hS0 := hSw; (try dsimp only [PS] at hSw); go_simp; refine Came.value ?_ hS0; with_reducible rfl)
            try simp only [Act.put, List.setIfInBounds_toArray, List.set_cons_zero, List.set_cons_succ]
            refine wpDet_take (i := 5) (oi := _) (v := ?dv6) (by simp only [List.getElem?_toArray, List.getElem?_cons_zero, List.getElem?_cons_succ]; rfl) (by kernel_rfl) (by kernel_rfl) (by kernel_rfl) (Or.inl ⟨by rfl, ?dy6⟩) ?dr6
            case dy6 => (intro w hSw; have hS0 := hSw; (try dsimp only [PS] at hSw); go_simp; refine Came.value ?_ hS0; with_reducible rfl)
            try simp only [Act.put, List.setIfInBounds_toArray, List.set_cons_zero, List.set_cons_succ]
            refine wpDet_take (i := 6) (oi := _) (v := ?dv7) (by simp only [List.getElem?_toArray, List.getElem?_cons_zero, List.getElem?_cons_succ]; rfl) (by kernel_rfl) (by kernel_rfl) (by kernel_rfl) (Or.inl ⟨by rfl, ?dy7⟩) ?dr7
            case dy7 => (intro w hSw; have hS0 := hSw; (try dsimp only [PS] at hSw); go_simp; refine Came.value ?_ hS0; with_reducible rfl)
            try simp only [Act.put, List.setIfInBounds_toArray, List.set_cons_zero, List.set_cons_succ]
            refine wpDet_take (i := 7) (oi := _) (v := ?dv8) (by simp only [List.getElem?_toArray, List.getElem?_cons_zero, List.getElem?_cons_succ]; rfl) (by kernel_rfl) (by kernel_rfl) (by kernel_rfl) (Or.inl ⟨by rfl, ?dy8⟩) ?dr8
            case dy8 => (intro w hSw; go_simp; exact Came.call ((would_any _ s A B ⟨c, f, h, ms⟩ _ _ w hSw.2.2.2.g hSw.2.2.1 (slice_sl _ _ _) _ HWB.out).mono fun e w' ⟨he, hf⟩ => ⟨he, hSw.fr hf⟩) (by with_reducible rfl))
            try simp only [Act.put, List.setIfInBounds_toArray, List.set_cons_zero, List.set_cons_succ]
            refine wpDet_take (i := 8) (oi := _) (v := ?dv9) (by simp only [List.getElem?_toArray, List.getElem?_cons_zero, List.getElem?_cons_succ]; rfl) (by kernel_rfl) (by kernel_rfl) (by kernel_rfl) (Or.inl ⟨by rfl, ?dy9⟩) ?dr9
            case dy9 => (intro w hSw; have hS0 := hSw; (try dsimp only [PS] at hSw); go_simp; refine Came.value ?_ hS0; with_reducible rfl)
            try simp only [Act.put, List.setIfInBounds_toArray, List.set_cons_zero, List.set_cons_succ]
            refine wpDet_take (i := 9) (oi := _) (v := ?dv10) (by simp only [List.getElem?_toArray, List.getElem?_cons_zero, List.getElem?_cons_succ]; rfl) (by kernel_rfl) (by kernel_rfl) (by kernel_rfl) (Or.inl ⟨by rfl, ?dy10⟩) ?dr10
            case dy10 => (intro w hSw; have hS0 := hSw; (try dsimp only [PS] at hSw); go_simp; refine Came.value ?_ hS0; with_reducible rfl)
            try simp only [Act.put, List.setIfInBounds_toArray, List.set_cons_zero, List.set_cons_succ]
            refine wpDet_take (i := 10) (oi := _) (v := ?dv11) (by simp only [List.getElem?_toArray, List.getElem?_cons_zero, List.getElem?_cons_succ]; rfl) (by kernel_rfl) (by kernel_rfl) (by kernel_rfl) (Or.inl ⟨by rfl, ?dy11⟩) ?dr11
            case dy11 => (intro w hSw; have hS0 := hSw; (try dsimp only [PS] at hSw); go_simp; refine Came.value ?_ hS0; with_reducible rfl)
            try simp only [Act.put, List.setIfInBounds_toArray, List.set_cons_zero, List.set_cons_succ]
            refine wpDet_take (i := 11) (oi := _) (v := ?dv12) (by simp only [List.getElem?_toArray, List.getElem?_cons_zero, List.getElem?_cons_succ]; rfl) (by kernel_rfl) (by kernel_rfl) (by kernel_rfl) (Or.inl ⟨by rfl, ?dy12⟩) ?dr12
            case dy12 => (intro w hSw; have hS0 := hSw; (try dsimp only [PS] at hSw); go_simp; refine Came.value ?_ hS0; with_reducible rfl)
            try simp only [Act.put, List.setIfInBounds_toArray, List.set_cons_zero, List.set_cons_succ]
            refine wpDet_take (i := 12) (oi := _) (v := ?dv13) (by simp only [List.getElem?_toArray, List.getElem?_cons_zero, List.getElem?_cons_succ]; rfl) (by kernel_rfl) (by kernel_rfl) (by kernel_rfl) (Or.inl ⟨by rfl, ?dy13⟩) ?dr13
            case dy13 => (intro w hSw; have hS0 := hSw; (try dsimp only [PS] at hSw); go_simp; refine Came.value ?_ hS0; with_reducible rfl)
            try simp only [Act.put, List.setIfInBounds_toArray, List.set_cons_zero, List.set_cons_succ]
            refine wpDet_take (i := 13) (oi := _) (v := ?dv14) (by simp only [List.getElem?_toArray, List.getElem?_cons_zero, List.getElem?_cons_succ]; rfl) (by kernel_rfl) (by kernel_rfl) (by kernel_rfl) (Or.inl ⟨by rfl, ?dy14⟩) ?dr14
            case dy14 => (intro w hSw; have hS0 := hSw; (try dsimp only [PS] at hSw); go_simp; refine Came.value ?_ hS0; with_reducible rfl)
            try simp only [Act.put, List.setIfInBounds_toArray, List.set_cons_zero, List.set_cons_succ]
            refine wpDet_take (i := 14) (oi := _) (v := ?dv15) (by simp only [List.getElem?_toArray, List.getElem?_cons_zero, List.getElem?_cons_succ]; rfl) (by kernel_rfl) (by kernel_rfl) (by kernel_rfl) (Or.inl ⟨by rfl, ?dy15⟩) ?dr15
            case dy15 => (intro w hSw; have hS0 := hSw; (try dsimp only [PS] at hSw); go_simp; refine Came.value ?_ hS0; with_reducible rfl)
            try simp only [Act.put, List.setIfInBounds_toArray, List.set_cons_zero, List.set_cons_succ]
            refine wpDet_take (i := 15) (oi := _) (v := ?dv16) (by simp only [List.getElem?_toArray, List.getElem?_cons_zero, List.getElem?_cons_succ]; rfl) (by kernel_rfl) (by kernel_rfl) (by kernel_rfl) (Or.inl ⟨by rfl, ?dy16⟩) ?dr16
            case dy16 => (intro w hSw; go_simp; exact Came.call ((rwould_any _ s A B ⟨c, f, h, ms⟩ _ _ w hSw.2.2.2.x hSw.2.2.1 (slice_sl _ _ _) _ HWB.out).mono fun e w' ⟨he, hf⟩ => ⟨he, hSw.fr hf⟩) (by with_reducible rfl))
            try simp only [Act.put, List.setIfInBounds_toArray, List.set_cons_zero, List.set_cons_succ]
            refine wpDet_take (i := 16) (oi := _) (v := ?dv17) (by simp only [List.getElem?_toArray, List.getElem?_cons_zero, List.getElem?_cons_succ]; rfl) (by kernel_rfl) (by kernel_rfl) (by kernel_rfl) (Or.inl ⟨by rfl, ?dy17⟩) ?dr17
            case dy17 => (intro w hSw; have hS0 := hSw; (try dsimp only [PS] at hSw); go_simp; refine Came.value ?_ hS0; with_reducible rfl)
            try simp only [Act.put, List.setIfInBounds_toArray, List.set_cons_zero, List.set_cons_succ]
            refine wpDet_done (by kernel_rfl) ?_ _
            rintro w5 ⟨hf5, ⟨d0, d1, d2, d3, d4, d5, d6, d7⟩, hm5, hb5⟩
            have M5 := Lib.hid hm5
            have B5 := Lib.hid hb5
            have C5 := Lib.hid (C4.out.keep hf5)
            have D5 := Lib.hid (hf5.heap D4.out (by simp))
            have F5 := Lib.hid (F4.out.trans hf5)
            clear hm5 hb5 hf5 HS
            go_upto_if 73 with fail
            go_cut [] (fun wc => ∃ s', BG wc w1.heap.size w2.heap.size s' ∧ Gt wc cq s ∧ Fr w wc [])
            case first =>
              by_cases hk1 : K = 1
              · subst hk1
                cases wb with
                | false =>
                  go_wp2_with fail
                  refine (take_no w1.heap.size s A B ⟨c, f, h, ms⟩ _ _ _ B5.out.g M5.out (slice_sl _ _ _) HWB.out).mono ?_
                  rintro e w6 ⟨rfl, hf⟩
                  have B6 := Lib.hid (B5.out.keep hf)
                  have M6 := Lib.hid (M5.out.keep hf)
                  have C6 := Lib.hid (C5.out.keep hf)
                  have F6 := Lib.hid (F5.out.trans hf)
                  obtain ⟨e0, e1, e2, e3, e4, e5, e6, e7⟩ := row8 (hf.heap D5.out (by simp))
                  clear hf d0 d1 d2 d3 d4 d5 d6 d7
                  go_wp2_with fail
                  refine (rtake_no w2.heap.size s A B ⟨c, f, h, ms⟩ _ _ _ B6.out.x M6.out (slice_sl _ _ _) HWB.out).mono ?_
                  rintro e w7 ⟨rfl, hf⟩
                  have B7 := Lib.hid (B6.out.keep hf)
                  have C7 := Lib.hid (C6.out.keep hf)
                  have F7 := Lib.hid (F6.out.trans hf)
                  clear hf e0 e1 e2 e3 e4 e5 e6 e7
                  go_wp2_with fail
                  go_meet
                  exact ⟨_, B7.out, C7.out, F7.out⟩
                | true =>
                  have hsz := HSZ.out
                  have hle := HLE.out
                  have hcq := HCQ.out
                  have hpl := F5.out.size
                  obtain ⟨fr, hfr⟩ : ∃ fr, freshB s ⟨c, f, h, ms⟩ = fr := ⟨_, rfl⟩
                  have HTY := take_yes w1.heap.size s A B ⟨c, f, h, ms⟩ _ _ _ B5.out.g M5.out (slice_sl ae ne ce) HWB.out
                  rw [hfr] at HTY
                  go_wp2_with fail
                  refine HTY.mono ?_
                  rintro e w6 ⟨rfl, hg, hf⟩
                  have hlp := B5.out.g.lt
                  have hlx := size_of_row B5.out.x
                  have G6 := Lib.hid hg
                  have X6 := Lib.hid (B5.out.x.fr hf (by simp; omega))
                  have C6 := Lib.hid (C5.out.fr hf (by simp; omega))
                  have M6 := Lib.hid (show HInts w6 (.slice am nm cm) ms from by
                    have hk := HM.out.keep F5.out
                    exact HInts.off HM.out F5.out hf (by omega))
                  have F6 := Lib.hid (F5.out.new hf (by simp; omega))
                  obtain ⟨e0, e1, e2, e3, e4, e5, e6, e7⟩ := row8 (hf.heap D5.out (by simp; omega))
                  clear hf hg HTY d0 d1 d2 d3 d4 d5 d6 d7
                  have HRY := rtake_yes w2.heap.size s A B ⟨c, f, h, ms⟩ _ _ _ X6.out M6.out (slice_sl ae ne ce) HWB.out
                  rw [hfr] at HRY
                  go_wp2_with fail
                  refine HRY.mono ?_
                  rintro e w7 ⟨rfl, hx, hf⟩
                  have B7 := Lib.hid (show BG w7 w1.heap.size w2.heap.size (s.tk ⟨c, f, h, ms⟩) from ⟨G6.out.fr hf (by simp; omega), hx⟩)
                  have C7 := Lib.hid (C6.out.fr hf (by simp; omega))
                  have F7 := Lib.hid (F6.out.new hf (by simp; omega))
                  clear hf hx HRY hsz hle hcq hpl hlp hlx hfr e0 e1 e2 e3 e4 e5 e6 e7
                  go_wp2_with fail
                  go_meet
                  exact ⟨_, B7.out, C7.out, F7.out⟩
              · have hkb : (K == 1) = false := by simp [hk1]
                clear hk1
                cases hfd : fndB s c f with
                | false =>
                  have H1 := Lib.hid (found_no w1.heap.size s c f w5.drew (B5.out.g.keep (Fr.drew _ [])) hfd)
                  have H2 := Lib.hid (fun W hW => rfound_no w2.heap.size s c f W hW hfd)
                  clear hfd
                  go_wp2_with fail
                  refine wp_region_noPanic ?_
                  refine wp_region_held_drew (S := (fun w' => w'.cell? ⟨wr.heap.size, 3, none⟩ = some (.int .i64 c) ∧ w'.cell? ⟨wr.heap.size, 4, none⟩ = some (.int .i64 f))) (by kernel_rfl) ⟨d3, d4⟩ (fun hHeld => ?_)
                  refine wpAnyH_take (i := 0) (oi := _) (v := ?fv0h18) (by simp only [List.getElem?_toArray, List.getElem?_cons_zero]; rfl) (by kernel_rfl) (by kernel_rfl) (by kernel_rfl) (fun _ _ _ h => h) (Or.inl ⟨by rfl, ?fy0h18⟩) (by assumption) ?fr0h18
                  case fy0h18 => (intro w hSw; (try dsimp only at hSw); go_simp; try with_reducible rfl)
                  try simp only [Act.put, List.setIfInBounds_toArray, List.set_cons_zero, List.set_cons_succ]
                  refine wpAnyH_take (i := 1) (oi := _) (v := ?fv1h18) (by simp only [List.getElem?_toArray, List.getElem?_cons_zero, List.getElem?_cons_succ]; rfl) (by kernel_rfl) (by kernel_rfl) (by kernel_rfl) (fun _ _ _ h => h) (Or.inl ⟨by rfl, ?fy1h18⟩) (by assumption) ?fr1h18
                  case fy1h18 => (intro w hSw; (try dsimp only at hSw); go_simp; try with_reducible rfl)
                  try simp only [Act.put, List.setIfInBounds_toArray, List.set_cons_zero, List.set_cons_succ]
                  refine wpAnyH_take (i := 2) (oi := _) (v := ?fv2h18) (by simp only [List.getElem?_toArray, List.getElem?_cons_zero, List.getElem?_cons_succ]; rfl) (by kernel_rfl) (by kernel_rfl) (by kernel_rfl) (fun _ _ _ h => h) (Or.inl ⟨by rfl, ?fy2h18⟩) (by assumption) ?fr2h18
                  case fy2h18 => (intro w hSw; (try dsimp only at hSw); go_simp; try with_reducible rfl)
                  try simp only [Act.put, List.setIfInBounds_toArray, List.set_cons_zero, List.set_cons_succ]
                  refine wpAnyH_take (i := 3) (oi := _) (v := ?fv3h18) (by simp only [List.getElem?_toArray, List.getElem?_cons_zero, List.getElem?_cons_succ]; rfl) (by kernel_rfl) (by kernel_rfl) (by kernel_rfl) (fun _ _ _ h => h) (Or.inl ⟨by rfl, ?fy3h18⟩) (by assumption) ?fr3h18
                  case fy3h18 => (intro w hSw; (try dsimp only at hSw); go_simp; try with_reducible rfl)
                  try simp only [Act.put, List.setIfInBounds_toArray, List.set_cons_zero, List.set_cons_succ]
                  refine wpAnyH_take (i := 5) (oi := _) (v := ?fv5h18) (by simp only [List.getElem?_toArray, List.getElem?_cons_zero, List.getElem?_cons_succ]; rfl) (by kernel_rfl) (by kernel_rfl) (by kernel_rfl) (fun _ _ _ h => h) (Or.inl ⟨by rfl, ?fy5h18⟩) (by assumption) ?fr5h18
                  case fy5h18 => (intro w hSw; (try dsimp only at hSw); go_simp; try with_reducible rfl)
                  try simp only [Act.put, List.setIfInBounds_toArray, List.set_cons_zero, List.set_cons_succ]
                  refine wpAnyH_take (i := 6) (oi := _) (v := ?fv6h18) (by simp only [List.getElem?_toArray, List.getElem?_cons_zero, List.getElem?_cons_succ]; rfl) (by kernel_rfl) (by kernel_rfl) (by kernel_rfl) (fun _ _ _ h => h) (Or.inl ⟨by rfl, ?fy6h18⟩) (by assumption) ?fr6h18
                  case fy6h18 => (intro w hSw; (try dsimp only at hSw); go_simp; try with_reducible rfl)
                  try simp only [Act.put, List.setIfInBounds_toArray, List.set_cons_zero, List.set_cons_succ]
                  refine wpAnyH_take (i := 7) (oi := _) (v := ?fv7h18) (by simp only [List.getElem?_toArray, List.getElem?_cons_zero, List.getElem?_cons_succ]; rfl) (by kernel_rfl) (by kernel_rfl) (by kernel_rfl) (fun _ _ _ h => h) (Or.inl ⟨by rfl, ?fy7h18⟩) (by assumption) ?fr7h18
                  case fy7h18 => (intro w hSw; (try dsimp only at hSw); go_simp; try with_reducible rfl)
                  try simp only [Act.put, List.setIfInBounds_toArray, List.set_cons_zero, List.set_cons_succ]
                  refine wpAnyH_take (i := 8) (oi := _) (v := ?fv8h18) (by simp only [List.getElem?_toArray, List.getElem?_cons_zero, List.getElem?_cons_succ]; rfl) (by kernel_rfl) (by kernel_rfl) (by kernel_rfl) (fun _ _ _ h => h) (Or.inl ⟨by rfl, ?fy8h18⟩) (by assumption) ?fr8h18
                  case fy8h18 => (intro w hSw; (try dsimp only at hSw); go_simp; try with_reducible rfl)
                  try simp only [Act.put, List.setIfInBounds_toArray, List.set_cons_zero, List.set_cons_succ]
                  refine wpAnyH_ready (rs := [4]) (by kernel_rfl) (by simp) ?_
                  refine AllReadyH.cons (o := _) rfl (fun K hK => ?_) AllReadyH.nil
                  go_simp
                  ((with_reducible refine H1.out.mono ?_); rintro e w6 ⟨rfl, hf6⟩; have D6 := (hf6.heap ((Fr.drew w5 []).heap D5.out (by simp)) (by simp)); have B6 := (B5.out.keep (Fr.drew w5 [])).keep hf6; obtain ⟨_, _, _, x3, x4, _⟩ := row8 D6)
                  go_wp2_with fail
                  refine hK.out _ _ ⟨x3, x4⟩ (fun hHeld => ?_)
                  clear hK K
                  try simp only [Act.put, List.setIfInBounds_toArray, List.set_cons_zero, List.set_cons_succ]
                  refine wpAnyH_ready (rs := [9]) (by kernel_rfl) (by simp) ?_
                  refine AllReadyH.cons (o := _) rfl (fun K hK => ?_) AllReadyH.nil
                  go_simp
                  ((with_reducible refine (H2.out _ B6.x).mono ?_); rintro e w7 ⟨rfl, hf7⟩; have D7 := hf7.heap D6 (by simp); obtain ⟨_, _, _, y3, y4, _⟩ := row8 D7)
                  go_wp2_with fail
                  refine hK.out _ _ ⟨y3, y4⟩ (fun hHeld => ?_)
                  clear hK K
                  try simp only [Act.put, List.setIfInBounds_toArray, List.set_cons_zero, List.set_cons_succ]
                  refine wpAnyH_take (i := 10) (oi := _) (v := ?fv10h18) (by simp only [List.getElem?_toArray, List.getElem?_cons_zero, List.getElem?_cons_succ]; rfl) (by kernel_rfl) (by kernel_rfl) (by kernel_rfl) (fun _ _ _ h => h) (Or.inl ⟨by rfl, ?fy10h18⟩) (by assumption) ?fr10h18
                  case fy10h18 => (intro w hSw; (try dsimp only at hSw); go_simp; try with_reducible rfl)
                  try simp only [Act.put, List.setIfInBounds_toArray, List.set_cons_zero, List.set_cons_succ]
                  refine wpAnyH_done (by kernel_rfl) ?_ _
                  refine NoPanic.normal ?_
                  have B7 := Lib.hid (B6.keep hf7)
                  have C7 := Lib.hid (((C5.out.keep (Fr.drew w5 [])).keep hf6).keep hf7)
                  have F7 := Lib.hid (((F5.out.trans (Fr.drew w5 [])).trans hf6).trans hf7)
                  clear hf6 hf7 D6 D7 B6 x3 x4 y3 y4 hHeld
                  go_wp2_with fail
                  go_meet
                  exact ⟨_, B7.out, C7.out, F7.out⟩
                | true =>
                  have H1 := Lib.hid (found_yes w1.heap.size s c f w5.drew (B5.out.g.keep (Fr.drew _ [])) hfd)
                  have H2 := Lib.hid (fun W hW => rfound_yes w2.heap.size s c f W hW hfd)
                  have HQ := Lib.hid (And.intro HSZ.out (And.intro HLE.out (And.intro HCQ.out F5.out.size)))
                  clear hfd
                  go_wp2_with fail
                  refine wp_region_noPanic ?_
                  refine wp_region_held_drew (S := (fun w' => w'.cell? ⟨wr.heap.size, 3, none⟩ = some (.int .i64 c) ∧ w'.cell? ⟨wr.heap.size, 4, none⟩ = some (.int .i64 f))) (by kernel_rfl) ⟨d3, d4⟩ (fun hHeld => ?_)
                  refine wpAnyH_take (i := 0) (oi := _) (v := ?fv0h19) (by simp only [List.getElem?_toArray, List.getElem?_cons_zero]; rfl) (by kernel_rfl) (by kernel_rfl) (by kernel_rfl) (fun _ _ _ h => h) (Or.inl ⟨by rfl, ?fy0h19⟩) (by assumption) ?fr0h19
                  case fy0h19 => (intro w hSw; (try dsimp only at hSw); go_simp; try with_reducible rfl)
                  try simp only [Act.put, List.setIfInBounds_toArray, List.set_cons_zero, List.set_cons_succ]
                  refine wpAnyH_take (i := 1) (oi := _) (v := ?fv1h19) (by simp only [List.getElem?_toArray, List.getElem?_cons_zero, List.getElem?_cons_succ]; rfl) (by kernel_rfl) (by kernel_rfl) (by kernel_rfl) (fun _ _ _ h => h) (Or.inl ⟨by rfl, ?fy1h19⟩) (by assumption) ?fr1h19
                  case fy1h19 => (intro w hSw; (try dsimp only at hSw); go_simp; try with_reducible rfl)
                  try simp only [Act.put, List.setIfInBounds_toArray, List.set_cons_zero, List.set_cons_succ]
                  refine wpAnyH_take (i := 2) (oi := _) (v := ?fv2h19) (by simp only [List.getElem?_toArray, List.getElem?_cons_zero, List.getElem?_cons_succ]; rfl) (by kernel_rfl) (by kernel_rfl) (by kernel_rfl) (fun _ _ _ h => h) (Or.inl ⟨by rfl, ?fy2h19⟩) (by assumption) ?fr2h19
                  case fy2h19 => (intro w hSw; (try dsimp only at hSw); go_simp; try with_reducible rfl)
                  try simp only [Act.put, List.setIfInBounds_toArray, List.set_cons_zero, List.set_cons_succ]
                  refine wpAnyH_take (i := 3) (oi := _) (v := ?fv3h19) (by simp only [List.getElem?_toArray, List.getElem?_cons_zero, List.getElem?_cons_succ]; rfl) (by kernel_rfl) (by kernel_rfl) (by kernel_rfl) (fun _ _ _ h => h) (Or.inl ⟨by rfl, ?fy3h19⟩) (by assumption) ?fr3h19
                  case fy3h19 => (intro w hSw; (try dsimp only at hSw); go_simp; try with_reducible rfl)
                  try simp only [Act.put, List.setIfInBounds_toArray, List.set_cons_zero, List.set_cons_succ]
                  refine wpAnyH_take (i := 5) (oi := _) (v := ?fv5h19) (by simp only [List.getElem?_toArray, List.getElem?_cons_zero, List.getElem?_cons_succ]; rfl) (by kernel_rfl) (by kernel_rfl) (by kernel_rfl) (fun _ _ _ h => h) (Or.inl ⟨by rfl, ?fy5h19⟩) (by assumption) ?fr5h19
                  case fy5h19 => (intro w hSw; (try dsimp only at hSw); go_simp; try with_reducible rfl)
                  try simp only [Act.put, List.setIfInBounds_toArray, List.set_cons_zero, List.set_cons_succ]
                  refine wpAnyH_take (i := 6) (oi := _) (v := ?fv6h19) (by simp only [List.getElem?_toArray, List.getElem?_cons_zero, List.getElem?_cons_succ]; rfl) (by kernel_rfl) (by kernel_rfl) (by kernel_rfl) (fun _ _ _ h => h) (Or.inl ⟨by rfl, ?fy6h19⟩) (by assumption) ?fr6h19
                  case fy6h19 => (intro w hSw; (try dsimp only at hSw); go_simp; try with_reducible rfl)
                  try simp only [Act.put, List.setIfInBounds_toArray, List.set_cons_zero, List.set_cons_succ]
                  refine wpAnyH_take (i := 7) (oi := _) (v := ?fv7h19) (by simp only [List.getElem?_toArray, List.getElem?_cons_zero, List.getElem?_cons_succ]; rfl) (by kernel_rfl) (by kernel_rfl) (by kernel_rfl) (fun _ _ _ h => h) (Or.inl ⟨by rfl, ?fy7h19⟩) (by assumption) ?fr7h19
                  case fy7h19 => (intro w hSw; (try dsimp only at hSw); go_simp; try with_reducible rfl)
                  try simp only [Act.put, List.setIfInBounds_toArray, List.set_cons_zero, List.set_cons_succ]
                  refine wpAnyH_take (i := 8) (oi := _) (v := ?fv8h19) (by simp only [List.getElem?_toArray, List.getElem?_cons_zero, List.getElem?_cons_succ]; rfl) (by kernel_rfl) (by kernel_rfl) (by kernel_rfl) (fun _ _ _ h => h) (Or.inl ⟨by rfl, ?fy8h19⟩) (by assumption) ?fr8h19
                  case fy8h19 => (intro w hSw; (try dsimp only at hSw); go_simp; try with_reducible rfl)
                  try simp only [Act.put, List.setIfInBounds_toArray, List.set_cons_zero, List.set_cons_succ]
                  refine wpAnyH_ready (rs := [4]) (by kernel_rfl) (by simp) ?_
                  refine AllReadyH.cons (o := _) rfl (fun K hK => ?_) AllReadyH.nil
                  go_simp
                  ((with_reducible refine H1.out.mono ?_); rintro e w6 ⟨rfl, hg6, hf6⟩; have hq := HQ.out; have D6 := (hf6.heap ((Fr.drew w5 []).heap D5.out (by simp)) (by simp; omega)); have X6 := (B5.out.x.keep (Fr.drew w5 [])).fr hf6 (by simp; omega); obtain ⟨_, _, _, x3, x4, _⟩ := row8 D6)
                  go_wp2_with fail
                  refine hK.out _ _ ⟨x3, x4⟩ (fun hHeld => ?_)
                  clear hK K
                  try simp only [Act.put, List.setIfInBounds_toArray, List.set_cons_zero, List.set_cons_succ]
                  refine wpAnyH_ready (rs := [9]) (by kernel_rfl) (by simp) ?_
                  refine AllReadyH.cons (o := _) rfl (fun K hK => ?_) AllReadyH.nil
                  go_simp
                  ((with_reducible refine (H2.out _ X6).mono ?_); rintro e w7 ⟨rfl, hx7, hf7⟩; have D7 := hf7.heap D6 (by simp; omega); obtain ⟨_, _, _, y3, y4, _⟩ := row8 D7)
                  go_wp2_with fail
                  refine hK.out _ _ ⟨y3, y4⟩ (fun hHeld => ?_)
                  clear hK K
                  try simp only [Act.put, List.setIfInBounds_toArray, List.set_cons_zero, List.set_cons_succ]
                  refine wpAnyH_take (i := 10) (oi := _) (v := ?fv10h19) (by simp only [List.getElem?_toArray, List.getElem?_cons_zero, List.getElem?_cons_succ]; rfl) (by kernel_rfl) (by kernel_rfl) (by kernel_rfl) (fun _ _ _ h => h) (Or.inl ⟨by rfl, ?fy10h19⟩) (by assumption) ?fr10h19
                  case fy10h19 => (intro w hSw; (try dsimp only at hSw); go_simp; try with_reducible rfl)
                  try simp only [Act.put, List.setIfInBounds_toArray, List.set_cons_zero, List.set_cons_succ]
                  refine wpAnyH_done (by kernel_rfl) ?_ _
                  refine NoPanic.normal ?_
                  have B7 := Lib.hid (show BG w7 w1.heap.size w2.heap.size ⟨c, f, 0, s.fl⟩ from ⟨hg6.fr hf7 (by simp; omega), hx7⟩)
                  have C7 := Lib.hid (((C5.out.keep (Fr.drew w5 [])).fr hf6 (by simp; omega)).fr hf7 (by simp; omega))
                  have F7 := Lib.hid (((F5.out.trans (Fr.drew w5 [])).new hf6 (by simp; omega)).new hf7 (by simp; omega))
                  clear hg6 hx7 hf6 hf7 D6 D7 X6 x3 x4 y3 y4 hHeld hq
                  go_wp2_with fail
                  go_meet
                  exact ⟨_, B7.out, C7.out, F7.out⟩
            case rest =>
              obtain ⟨s', hb, hc, hf⟩ := hcut
              have F6 := Lib.hid hf
              have HS := Lib.hid (show QS wc w1.heap.size w2.heap.size cq s' s wc.drew from ⟨Fr.drew _ [], (hb.x.keep (Fr.drew _ [])).cells, hb.keep (Fr.drew _ []), hc.keep (Fr.drew _ [])⟩)
              have hsm := ep_same s'.c s'.f s'.c s'.f
              rw [show decide (s'.c = s'.c ∧ s'.f = s'.f) = true by simp] at hsm
              have HSM := Lib.hid hsm
              clear hb hc hf hsm d0 d1 d2 d3 d4 d5 d6 d7
              go_wp2
              refine wp_region_det (S := QS wc w1.heap.size w2.heap.size cq s' s) (by kernel_rfl) HS.out ?_
              refine wpDet_take (i := 0) (oi := _) (v := ?dv20) (by simp only [List.getElem?_toArray, List.getElem?_cons_zero]; rfl) (by kernel_rfl) (by kernel_rfl) (by kernel_rfl) (Or.inl ⟨by rfl, ?dy20⟩) ?dr20
              case dy20 => (intro w hSw; have hS0 := hSw; (try dsimp only [QS] at hSw); go_simp; refine Came.value ?_ hS0; with_reducible rfl)
              try simp only [Act.put, List.setIfInBounds_toArray, List.set_cons_zero, List.set_cons_succ]
              refine wpDet_take (i := 1) (oi := _) (v := ?dv21) (by simp only [List.getElem?_toArray, List.getElem?_cons_zero, List.getElem?_cons_succ]; rfl) (by kernel_rfl) (by kernel_rfl) (by kernel_rfl) (Or.inl ⟨by rfl, ?dy21⟩) ?dr21
              case dy21 => (intro w hSw; go_simp; exact Came.call ((epoch_any _ _ w hSw.2.2.1.g).mono fun e w' ⟨he, hf⟩ => ⟨he, hSw.fr hf⟩) (by with_reducible rfl))
              try simp only [Act.put, List.setIfInBounds_toArray, List.set_cons_zero, List.set_cons_succ]
              refine wpDet_take (i := 2) (oi := _) (v := ?dv22) (by simp only [List.getElem?_toArray, List.getElem?_cons_zero, List.getElem?_cons_succ]; rfl) (by kernel_rfl) (by kernel_rfl) (by kernel_rfl) (Or.inl ⟨by rfl, ?dy22⟩) ?dr22
              case dy22 => (intro w hSw; have hS0 := hSw; (try dsimp only [QS] at hSw); go_simp; refine Came.value ?_ hS0; with_reducible rfl)
              try simp only [Act.put, List.setIfInBounds_toArray, List.set_cons_zero, List.set_cons_succ]
              refine wpDet_take (i := 3) (oi := _) (v := ?dv23) (by simp only [List.getElem?_toArray, List.getElem?_cons_zero, List.getElem?_cons_succ]; rfl) (by kernel_rfl) (by kernel_rfl) (by kernel_rfl) (Or.inl ⟨by rfl, ?dy23⟩) ?dr23
              case dy23 => (intro w hSw; have hS0 := hSw; (try dsimp only [QS] at hSw); go_simp; refine Came.value ?_ hS0; with_reducible rfl)
              try simp only [Act.put, List.setIfInBounds_toArray, List.set_cons_zero, List.set_cons_succ]
              refine wpDet_take (i := 4) (oi := _) (v := ?dv24) (by simp only [List.getElem?_toArray, List.getElem?_cons_zero, List.getElem?_cons_succ]; rfl) (by kernel_rfl) (by kernel_rfl) (by kernel_rfl) (Or.inl ⟨by rfl, ?dy24⟩) ?dr24
              case dy24 => (intro w hSw; have hS0 := hSw; (try dsimp only [QS] at hSw); go_simp; refine Came.value ?_ hS0; with_reducible rfl)
              try simp only [Act.put, List.setIfInBounds_toArray, List.set_cons_zero, List.set_cons_succ]
              refine wpDet_take (i := 5) (oi := _) (v := ?dv25) (by simp only [List.getElem?_toArray, List.getElem?_cons_zero, List.getElem?_cons_succ]; rfl) (by kernel_rfl) (by kernel_rfl) (by kernel_rfl) (Or.inl ⟨by rfl, ?dy25⟩) ?dr25
              case dy25 => (intro w hSw; have hS0 := hSw; (try dsimp only [QS] at hSw); go_simp; refine Came.value ?_ hS0; with_reducible rfl)
              try simp only [Act.put, List.setIfInBounds_toArray, List.set_cons_zero, List.set_cons_succ]
              refine wpDet_take (i := 6) (oi := _) (v := ?dv26) (by simp only [List.getElem?_toArray, List.getElem?_cons_zero, List.getElem?_cons_succ]; rfl) (by kernel_rfl) (by kernel_rfl) (by kernel_rfl) (Or.inl ⟨by rfl, ?dy26⟩) ?dr26
              case dy26 => (intro w hSw; go_simp; exact Came.call ((HSM.out w).mono fun e w' ⟨he, hf⟩ => ⟨he, hSw.fr hf⟩) (by with_reducible rfl))
              try simp only [Act.put, List.setIfInBounds_toArray, List.set_cons_zero, List.set_cons_succ]
              refine wpDet_take (i := 7) (oi := _) (v := ?dv27) (by simp only [List.getElem?_toArray, List.getElem?_cons_zero, List.getElem?_cons_succ]; rfl) (by kernel_rfl) (by kernel_rfl) (by kernel_rfl) (Or.inl ⟨by rfl, ?dy27⟩) ?dr27
              case dy27 => (intro w hSw; have hS0 := hSw; (try dsimp only [QS] at hSw); go_simp; refine Came.value ?_ hS0; with_reducible rfl)
              try simp only [Act.put, List.setIfInBounds_toArray, List.set_cons_zero, List.set_cons_succ]
              refine wpDet_take (i := 8) (oi := _) (v := ?dv28) (by simp only [List.getElem?_toArray, List.getElem?_cons_zero, List.getElem?_cons_succ]; rfl) (by kernel_rfl) (by kernel_rfl) (by kernel_rfl) (Or.inl ⟨by rfl, ?dy28⟩) ?dr28
              case dy28 => (intro w hSw; have hS0 := hSw; (try dsimp only [QS] at hSw); go_simp; refine Came.value ?_ hS0; with_reducible rfl)
              try simp only [Act.put, List.setIfInBounds_toArray, List.set_cons_zero, List.set_cons_succ]
              refine wpDet_take (i := 9) (oi := _) (v := ?dv29) (by simp only [List.getElem?_toArray, List.getElem?_cons_zero, List.getElem?_cons_succ]; rfl) (by kernel_rfl) (by kernel_rfl) (by kernel_rfl) (Or.inl ⟨by rfl, ?dy29⟩) ?dr29
              case dy29 => (intro w hSw; have hS0 := hSw; (try dsimp only [QS] at hSw); go_simp; refine Came.value ?_ hS0; with_reducible rfl)
              try simp only [Act.put, List.setIfInBounds_toArray, List.set_cons_zero, List.set_cons_succ]
              refine wpDet_take (i := 10) (oi := _) (v := ?dv30) (by simp only [List.getElem?_toArray, List.getElem?_cons_zero, List.getElem?_cons_succ]; rfl) (by kernel_rfl) (by kernel_rfl) (by kernel_rfl) (Or.inl ⟨by rfl, ?dy30⟩) ?dr30
              case dy30 => (intro w hSw; go_simp; exact Came.call ((hop_any _ _ w hSw.2.2.1.g).mono fun e w' ⟨he, hw⟩ => ⟨he, hw ▸ hSw⟩) (by with_reducible rfl))
              try simp only [Act.put, List.setIfInBounds_toArray, List.set_cons_zero, List.set_cons_succ]
              refine wpDet_take (i := 11) (oi := _) (v := ?dv31) (by simp only [List.getElem?_toArray, List.getElem?_cons_zero, List.getElem?_cons_succ]; rfl) (by kernel_rfl) (by kernel_rfl) (by kernel_rfl) (Or.inl ⟨by rfl, ?dy31⟩) ?dr31
              case dy31 => (intro w hSw; have hS0 := hSw; (try dsimp only [QS] at hSw); go_simp; refine Came.value ?_ hS0; with_reducible rfl)
              try simp only [Act.put, List.setIfInBounds_toArray, List.set_cons_zero, List.set_cons_succ]
              refine wpDet_take (i := 12) (oi := _) (v := ?dv32) (by simp only [List.getElem?_toArray, List.getElem?_cons_zero, List.getElem?_cons_succ]; rfl) (by kernel_rfl) (by kernel_rfl) (by kernel_rfl) (Or.inl ⟨by rfl, ?dy32⟩) ?dr32
              case dy32 => (intro w hSw; have hS0 := hSw; (try dsimp only [QS] at hSw); go_simp; refine Came.value ?_ hS0; with_reducible rfl)
              try simp only [Act.put, List.setIfInBounds_toArray, List.set_cons_zero, List.set_cons_succ]
              refine wpDet_take (i := 13) (oi := _) (v := ?dv33) (by simp only [List.getElem?_toArray, List.getElem?_cons_zero, List.getElem?_cons_succ]; rfl) (by kernel_rfl) (by kernel_rfl) (by kernel_rfl) (Or.inl ⟨by rfl, ?dy33⟩) ?dr33
              case dy33 => (intro w hSw; have hS0 := hSw; (try dsimp only [QS] at hSw); go_simp; refine Came.value ?_ hS0; with_reducible rfl)
              try simp only [Act.put, List.setIfInBounds_toArray, List.set_cons_zero, List.set_cons_succ]
              refine wpDet_take (i := 14) (oi := _) (v := ?dv34) (by simp only [List.getElem?_toArray, List.getElem?_cons_zero, List.getElem?_cons_succ]; rfl) (by kernel_rfl) (by kernel_rfl) (by kernel_rfl) (Or.inl ⟨by rfl, ?dy34⟩) ?dr34
              case dy34 => (intro w hSw; have hS0 := hSw; (try dsimp only [QS] at hSw); go_simp; refine Came.value ?_ hS0; with_reducible rfl)
              try simp only [Act.put, List.setIfInBounds_toArray, List.set_cons_zero, List.set_cons_succ]
              refine wpDet_take (i := 15) (oi := _) (v := ?dv35) (by simp only [List.getElem?_toArray, List.getElem?_cons_zero, List.getElem?_cons_succ]; rfl) (by kernel_rfl) (by kernel_rfl) (by kernel_rfl) (Or.inl ⟨by rfl, ?dy35⟩) ?dr35
              case dy35 => (intro w hSw; have hS0 := hSw; (try dsimp only [QS] at hSw); go_simp; refine Came.value ?_ hS0; with_reducible rfl)
              try simp only [Act.put, List.setIfInBounds_toArray, List.set_cons_zero, List.set_cons_succ]
              refine wpDet_take (i := 16) (oi := _) (v := ?dv36) (by simp only [List.getElem?_toArray, List.getElem?_cons_zero, List.getElem?_cons_succ]; rfl) (by kernel_rfl) (by kernel_rfl) (by kernel_rfl) (Or.inl ⟨by rfl, ?dy36⟩) ?dr36
              case dy36 => (intro w hSw; have hS0 := hSw; (try dsimp only [QS] at hSw); go_simp; refine Came.value ?_ hS0; with_reducible rfl)
              try simp only [Act.put, List.setIfInBounds_toArray, List.set_cons_zero, List.set_cons_succ]
              refine wpDet_take (i := 17) (oi := _) (v := ?dv37) (by simp only [List.getElem?_toArray, List.getElem?_cons_zero, List.getElem?_cons_succ]; rfl) (by kernel_rfl) (by kernel_rfl) (by kernel_rfl) (Or.inl ⟨by rfl, ?dy37⟩) ?dr37
              case dy37 => (intro w hSw; have hS0 := hSw; (try dsimp only [QS] at hSw); go_simp; refine Came.value ?_ hS0; with_reducible rfl)
              try simp only [Act.put, List.setIfInBounds_toArray, List.set_cons_zero, List.set_cons_succ]
              refine wpDet_take (i := 18) (oi := _) (v := ?dv38) (by simp only [List.getElem?_toArray, List.getElem?_cons_zero, List.getElem?_cons_succ]; rfl) (by kernel_rfl) (by kernel_rfl) (by kernel_rfl) (Or.inl ⟨by rfl, ?dy38⟩) ?dr38
              case dy38 => (intro w hSw; have hS0 := hSw; (try dsimp only [QS] at hSw); go_simp; refine Came.value ?_ hS0; with_reducible rfl)
              try simp only [Act.put, List.setIfInBounds_toArray, List.set_cons_zero, List.set_cons_succ]
              refine wpDet_take (i := 19) (oi := _) (v := ?dv39) (by simp only [List.getElem?_toArray, List.getElem?_cons_zero, List.getElem?_cons_succ]; rfl) (by kernel_rfl) (by kernel_rfl) (by kernel_rfl) (Or.inl ⟨by rfl, ?dy39⟩) ?dr39
              case dy39 => (intro w hSw; go_simp; exact Came.call ((floor_any _ _ w hSw.2.2.1.g).mono fun e w' ⟨he, hw⟩ => ⟨he, hw ▸ hSw⟩) (by with_reducible rfl))
              try simp only [Act.put, List.setIfInBounds_toArray, List.set_cons_zero, List.set_cons_succ]
              refine wpDet_take (i := 20) (oi := _) (v := ?dv40) (by simp only [List.getElem?_toArray, List.getElem?_cons_zero, List.getElem?_cons_succ]; rfl) (by kernel_rfl) (by kernel_rfl) (by kernel_rfl) (Or.inl ⟨by rfl, ?dy40⟩) ?dr40
              case dy40 => (intro w hSw; have hS0 := hSw; (try dsimp only [QS] at hSw); go_simp; refine Came.value ?_ hS0; with_reducible rfl)
              try simp only [Act.put, List.setIfInBounds_toArray, List.set_cons_zero, List.set_cons_succ]
              refine wpDet_take (i := 21) (oi := _) (v := ?dv41) (by simp only [List.getElem?_toArray, List.getElem?_cons_zero, List.getElem?_cons_succ]; rfl) (by kernel_rfl) (by kernel_rfl) (by kernel_rfl) (Or.inl ⟨by rfl, ?dy41⟩) ?dr41
              case dy41 => (intro w hSw; have hS0 := hSw; (try dsimp only [QS] at hSw); go_simp; refine Came.value ?_ hS0; with_reducible rfl)
              try simp only [Act.put, List.setIfInBounds_toArray, List.set_cons_zero, List.set_cons_succ]
              refine wpDet_take (i := 22) (oi := _) (v := ?dv42) (by simp only [List.getElem?_toArray, List.getElem?_cons_zero, List.getElem?_cons_succ]; rfl) (by kernel_rfl) (by kernel_rfl) (by kernel_rfl) (Or.inl ⟨by rfl, ?dy42⟩) ?dr42
              case dy42 => (intro w hSw; have hS0 := hSw; (try dsimp only [QS] at hSw); go_simp; refine Came.value ?_ hS0; with_reducible rfl)
              try simp only [Act.put, List.setIfInBounds_toArray, List.set_cons_zero, List.set_cons_succ]
              refine wpDet_take (i := 23) (oi := _) (v := ?dv43) (by simp only [List.getElem?_toArray, List.getElem?_cons_zero, List.getElem?_cons_succ]; rfl) (by kernel_rfl) (by kernel_rfl) (by kernel_rfl) (Or.inl ⟨by rfl, ?dy43⟩) ?dr43
              case dy43 => (intro w hSw; have hS0 := hSw; (try dsimp only [QS] at hSw); go_simp; refine Came.value ?_ hS0; with_reducible rfl)
              try simp only [Act.put, List.setIfInBounds_toArray, List.set_cons_zero, List.set_cons_succ]
              refine wpDet_take (i := 24) (oi := _) (v := ?dv44) (by simp only [List.getElem?_toArray, List.getElem?_cons_zero, List.getElem?_cons_succ]; rfl) (by kernel_rfl) (by kernel_rfl) (by kernel_rfl) (Or.inl ⟨by rfl, ?dy44⟩) ?dr44
              case dy44 => (intro w hSw; have hS0 := hSw; (try dsimp only [QS] at hSw); go_simp; refine Came.value ?_ hS0; with_reducible rfl)
              try simp only [Act.put, List.setIfInBounds_toArray, List.set_cons_zero, List.set_cons_succ]
              refine wpDet_take (i := 25) (oi := _) (v := ?dv45) (by simp only [List.getElem?_toArray, List.getElem?_cons_zero, List.getElem?_cons_succ]; rfl) (by kernel_rfl) (by kernel_rfl) (by kernel_rfl) (Or.inl ⟨by rfl, ?dy45⟩) ?dr45
              case dy45 => (intro w hSw; have hS0 := hSw; (try dsimp only [QS] at hSw); go_simp; refine Came.value ?_ hS0; with_reducible rfl)
              try simp only [Act.put, List.setIfInBounds_toArray, List.set_cons_zero, List.set_cons_succ]
              refine wpDet_take (i := 26) (oi := _) (v := ?dv46) (by simp only [List.getElem?_toArray, List.getElem?_cons_zero, List.getElem?_cons_succ]; rfl) (by kernel_rfl) (by kernel_rfl) (by kernel_rfl) (Or.inl ⟨by rfl, ?dy46⟩) ?dr46
              case dy46 => (intro w hSw; have hS0 := hSw; (try dsimp only [QS] at hSw); go_simp; refine Came.value ?_ hS0; with_reducible rfl)
              try simp only [Act.put, List.setIfInBounds_toArray, List.set_cons_zero, List.set_cons_succ]
              refine wpDet_take (i := 27) (oi := _) (v := ?dv47) (by simp only [List.getElem?_toArray, List.getElem?_cons_zero, List.getElem?_cons_succ]; rfl) (by kernel_rfl) (by kernel_rfl) (by kernel_rfl) (Or.inl ⟨by rfl, ?dy47⟩) ?dr47
              case dy47 => (intro w hSw; have hS0 := hSw; (try dsimp only [QS] at hSw); go_simp; refine Came.value ?_ hS0; with_reducible rfl)
              try simp only [Act.put, List.setIfInBounds_toArray, List.set_cons_zero, List.set_cons_succ]
              refine wpDet_take (i := 28) (oi := _) (v := ?dv48) (by simp only [List.getElem?_toArray, List.getElem?_cons_zero, List.getElem?_cons_succ]; rfl) (by kernel_rfl) (by kernel_rfl) (by kernel_rfl) (Or.inl ⟨by rfl, ?dy48⟩) ?dr48
              case dy48 => (intro w hSw; go_simp; exact Came.call ((hop_any _ _ w hSw.2.2.2).mono fun e w' ⟨he, hw⟩ => ⟨he, hw ▸ hSw⟩) (by with_reducible rfl))
              try simp only [Act.put, List.setIfInBounds_toArray, List.set_cons_zero, List.set_cons_succ]
              refine wpDet_take (i := 29) (oi := _) (v := ?dv49) (by simp only [List.getElem?_toArray, List.getElem?_cons_zero, List.getElem?_cons_succ]; rfl) (by kernel_rfl) (by kernel_rfl) (by kernel_rfl) (Or.inl ⟨by rfl, ?dy49⟩) ?dr49
              case dy49 => (intro w hSw; have hS0 := hSw; (try dsimp only [QS] at hSw); go_simp; refine Came.value ?_ hS0; with_reducible rfl)
              try simp only [Act.put, List.setIfInBounds_toArray, List.set_cons_zero, List.set_cons_succ]
              refine wpDet_take (i := 30) (oi := _) (v := ?dv50) (by simp only [List.getElem?_toArray, List.getElem?_cons_zero, List.getElem?_cons_succ]; rfl) (by kernel_rfl) (by kernel_rfl) (by kernel_rfl) (Or.inl ⟨by rfl, ?dy50⟩) ?dr50
              case dy50 => (intro w hSw; have hS0 := hSw; (try dsimp only [QS] at hSw); go_simp; refine Came.value ?_ hS0; with_reducible rfl)
              try simp only [Act.put, List.setIfInBounds_toArray, List.set_cons_zero, List.set_cons_succ]
              refine wpDet_take (i := 31) (oi := _) (v := ?dv51) (by simp only [List.getElem?_toArray, List.getElem?_cons_zero, List.getElem?_cons_succ]; rfl) (by kernel_rfl) (by kernel_rfl) (by kernel_rfl) (Or.inl ⟨by rfl, ?dy51⟩) ?dr51
              case dy51 => (intro w hSw; have hS0 := hSw; (try dsimp only [QS] at hSw); go_simp; refine Came.value ?_ hS0; with_reducible rfl)
              try simp only [Act.put, List.setIfInBounds_toArray, List.set_cons_zero, List.set_cons_succ]
              refine wpDet_done (by kernel_rfl) ?_ _
              rintro w7 ⟨hf7, _, hb7, _⟩
              have B7 := Lib.hid hb7
              have F7 := Lib.hid (F6.out.trans hf7)
              clear hb7 hf7
              go_wp2
              go_roundw
              case rel => exact ⟨k + 1, s', by omega, by go_num, B7.out, F7.out⟩
              case measure => simp [intOf]; omega
          · have he' : ((ne : Int) > 4) := by omega
            go_wp2
            go_ret
            exact ⟨rfl, (F0.out.trans FA.out).grown (by simp)⟩
        · have hn' : ((nm : Int) > 20) := by omega
          go_wp2
          go_ret
          exact ⟨rfl, (F0.out.trans FA.out).grown (by simp)⟩
      · obtain rfl : k = l.length := by omega
        go_wp2
        go_ret
        exact ⟨rfl, F0.out.grown (by simp)⟩
  · have hl' : ((l.length : Int) > 60) := by omega
    go_enter Try.func4, Try.ntmps4
    go_wp2_with fail
    refine (first_any _).mono ?_
    rintro e w1 ⟨rfl, hf⟩
    go_wp2
    go_ret
    exact ⟨rfl, hf.grown (by simp)⟩
end Go.Proofs.Ytlkpgpiklfbacaa
