/- The law of once: a token that was taken is not taken again, however often it comes, nor one of an elder hop, or epoch: its walk. -/
import Derived.Test.YtlkpgpiklfbacaaGFirst
import Derived.Test.YtlkpgpiklfbacaaGRings
namespace Go.Proofs.Ytlkpgpiklfbacaa
open Go.RowKit

/-- It is not ahead of the gate. -/
def Low (s : GS) (x : RN) : Prop := x.c < s.c ∨ (x.c = s.c ∧ (x.f < s.f ∨ (x.f = s.f ∧ x.h ≤ s.h)))
theorem would_parts {s : GS} {car to : Int} {r : RN} (h : wouldB s car to r = true) : car ∈ r.ms ∧ s.fl < r.c ∧ (s.c < r.c ∨ (s.c = r.c ∧ s.f < r.f) ∨ (s.c = r.c ∧ s.f = r.f ∧ s.h < r.h)) := by
  unfold wouldB allowsB at h
  simp only [Bool.and_eq_true, Bool.or_eq_true, decide_eq_true_eq, epLt] at h
  exact ⟨h.2.1, h.2.2.1.2, by omega⟩
theorem later_of {s : GS} {car to : Int} {r t : RN} (h : wouldB s car to r = true) (hl : Low s t) : epLt t.c t.f r.c r.f = true ∨ (epLt t.c t.f r.c r.f = false ∧ t.c = r.c ∧ t.f = r.f ∧ t.h < r.h) := by
  have := (would_parts h).2.2
  unfold Low at hl
  simp only [epLt, decide_eq_true_eq, decide_eq_false_iff_not]
  omega
theorem would_again (s : GS) (r x : RN) (car to : Int) (h : Low (s.tk r) x) : wouldB (s.tk r) car to x = false := by
  cases hw : wouldB (s.tk r) car to x with
  | false => rfl
  | true =>
    exfalso
    have := (would_parts hw).2.2
    unfold Low at h
    omega
theorem low_take {s : GS} {car to : Int} {r t : RN} (h : wouldB s car to r = true) (hl : Low s t) : Low (s.tk r) t := by
  have := (would_parts h).2.2
  unfold Low at hl ⊢
  simp only [GS.tk]
  omega
theorem low_self (s : GS) (r : RN) : Low (s.tk r) r := .inr ⟨rfl, .inr ⟨rfl, Int.le_refl _⟩⟩
/-- What stands while the region is walked: the elder token's cells, the new one's. -/
def OS (W : World) (q b o : Nat) (t r : RN) (tvm tve : Value) (a : World) : Prop := Fr W a [] ∧
  (a.cell? ⟨q, 0, none⟩ = some (.int .i64 t.c) ∧ a.cell? ⟨q, 1, none⟩ = some (.int .i64 t.f) ∧ a.cell? ⟨q, 2, none⟩ = some (.int .i64 t.h) ∧ a.cell? ⟨q, 3, none⟩ = some tvm ∧ a.cell? ⟨q, 4, none⟩ = some tve) ∧
  (a.cell? ⟨b, o, none⟩ = some (.int .i64 r.c) ∧ a.cell? ⟨b, o + 1, none⟩ = some (.int .i64 r.f) ∧ a.cell? ⟨b, o + 2, none⟩ = some (.int .i64 r.h))
theorem OS.fr {W : World} {q b o : Nat} {t r : RN} {tvm tve : Value} {a a' : World} (h : OS W q b o t r tvm tve a) (k : Fr a a' []) : OS W q b o t r tvm tve a' := by
  obtain ⟨h0, ⟨h1, h2, h3, h4, h5⟩, g0, g1, g2⟩ := h
  exact ⟨h0.trans k, ⟨k.cell h1 (by simp), k.cell h2 (by simp), k.cell h3 (by simp), k.cell h4 (by simp), k.cell h5 (by simp)⟩, k.cell g0 (by simp), k.cell g1 (by simp), k.cell g2 (by simp)⟩
theorem RV.one (w : World) (x : RV) (h : x.ok w) : ∀ u ∈ x.cl, u.oneCell' = true := by
  obtain ⟨a, n, c, e⟩ := h.1.sl
  obtain ⟨a', n', c', e'⟩ := h.2
  intro u hu
  simp only [RV.cl, List.mem_cons, List.not_mem_nil, or_false] at hu
  rcases hu with rfl | rfl | rfl | rfl | rfl
  · rfl
  · rfl
  · rfl
  · rw [e]; rfl
  · rw [e']; rfl
theorem getD_mem {α : Type} (T : List α) (d : α) (j : Nat) (h : j < T.length) : T.getD j d ∈ T := by simp [h]

set_option maxHeartbeats 8000000 in
set_option maxRecDepth 100000 in
theorem gonce_walk (n : Int) (v : Value) (l : List RV) (c0 : Int) (hwc : (Lit.int .i64 c0).wf = true) (w : World) (h : HRs w v l) :
    Calls Try.prog 5 #[.int .i64 n, v, .int .i64 c0] w fun e w' => e = .returned (.bool true) ∧ w.grownBy w' none := by
  obtain ⟨ad, cap, rfl, h1, h2, h3⟩ := h
  unfold maxLen at h2
  have HC := Lib.hid h3
  have bc := bounds_i64 hwc
  have HN := Lib.hid (fun W => numberTo_any c0 16 W (by omega) (by omega) bc.1 bc.2)
  generalize c0 % 16 = cr at HN
  obtain ⟨i0, hi, hz0, hz1, hz2⟩ := info_parts infoR
  clear h3 hwc bc
  by_cases hl : l.length ≤ 40
  · go_enter Try.func5, Try.ntmps5
    go_wp2_with fail
    refine (first_any _).mono ?_
    rintro e w1 ⟨rfl, hf⟩
    have HF1 := Lib.hid hf
    clear hf
    go_wp2_with fail
    refine (new_any n w1).mono ?_
    rintro e w2 ⟨rfl, hg, hf⟩
    have HG2 := Lib.hid hg
    have HF2 := Lib.hid (HF1.out.trans hf)
    have HSZ := Lib.hid HF1.out.size
    clear hg hf
    go_wp2_with fail
    refine (HN.out _).mono ?_
    rintro e w' ⟨rfl, rfl⟩
    go_wp2
    go_loopw [9, 10] (fun tv i wx => ∃ (k : Nat) (T : List RV) (s : GS), k ≤ l.length ∧ i = .int .i64 k ∧ OwnR wx w.heap.size tv T ∧ T.length ≤ k ∧ (∀ x ∈ T, x.ok w ∧ Low s x.r) ∧ n ≤ s.fl ∧ Gt wx w1.heap.size s ∧ Fr w wx []) (fun _ i _ => l.length - (intOf i).toNat)
    case atStart => exact ⟨0, [], _, Nat.zero_le _, rfl, OwnR.nil _ _, Nat.zero_le _, (by simp), (by simp; omega), HG2.out, HF2.out⟩
    case round =>
      obtain ⟨k, T, s, hk, rfl, ho, hTk, hlow, hfl, hg, hf⟩ := hrel
      have O0 := Lib.hid ho
      have G0 := Lib.hid hg
      have F0 := Lib.hid hf
      have LO := Lib.hid hlow
      clear ho hg hf hlow HG2 HF2
      by_cases hlt : k < l.length
      · obtain ⟨b1, o1, rfl, hc⟩ := HC.out (by omega)
        obtain ⟨⟨⟨c, f, h, ms⟩, vm, ve⟩, hx⟩ : ∃ x, x = l.getD k zRV := ⟨_, rfl⟩
        have hck := hc k hlt
        rw [← hx] at hck
        obtain ⟨⟨g0, g1, g2, g3, g4⟩, hm, hv⟩ := hck
        dsimp only at g0 g1 g2 g3 g4 hm hv
        have HOK := Lib.hid (show RV.ok w ⟨⟨c, f, h, ms⟩, vm, ve⟩ from ⟨hm, hv⟩)
        obtain ⟨am, nm, cm, rfl⟩ := hm.sl
        obtain ⟨ae, ne, ce, rfl⟩ := hv
        have K := Lib.hid (And.intro g0 (And.intro g1 (And.intro g2 (And.intro g3 g4))))
        have HM := Lib.hid hm
        clear hc hx hm
        replace g0 := F0.out.cell g0 (by simp)
        replace g1 := F0.out.cell g1 (by simp)
        replace g2 := F0.out.cell g2 (by simp)
        replace g3 := F0.out.cell g3 (by simp)
        replace g4 := F0.out.cell g4 (by simp)
        by_cases hn : nm ≤ 20
        · by_cases he : ne ≤ 4
          · cases hwd : wouldB s cr cr ⟨c, f, h, ms⟩ with
            | false =>
              have HWD := Lib.hid hwd
              clear hwd
              go_wp2_with fail
              refine (take_no w1.heap.size s cr cr ⟨c, f, h, ms⟩ _ _ _ G0.out (HM.out.keep F0.out) (slice_sl _ _ _) HWD.out).mono ?_
              rintro e w3 ⟨rfl, hf⟩
              have O3 := Lib.hid (row_keep O0.out hf)
              have G3 := Lib.hid (G0.out.keep hf)
              have F3 := Lib.hid (F0.out.trans hf)
              clear hf
              go_wp2
              go_roundw
              case rel => exact ⟨k + 1, T, s, by omega, by go_num, O3.out, by omega, LO.out, hfl, G3.out, F3.out⟩
              case measure => simp [intOf]; omega
            | true =>
              have HWD := Lib.hid hwd
              obtain ⟨wp1, wp2, _⟩ := would_parts hwd
              have hnc : n < c := by dsimp only at wp2; omega
              have HAM := Lib.hid (fun W (hW : Fr w W []) => among_any (.slice am nm cm) ms cr W (HM.out.keep hW) true (by rw [decide_eq_true wp1]))
              obtain ⟨at', ct, hu⟩ := row_shape O0.out
              obtain rfl := hu
              clear hwd wp1 wp2
              cases hfr : freshB s ⟨c, f, h, ms⟩ with
              | false =>
                go_wp2_with fail
                refine (take_yes w1.heap.size s cr cr ⟨c, f, h, ms⟩ _ _ _ G0.out (HM.out.keep F0.out) (slice_sl _ _ _) HWD.out).mono ?_
                rintro e w3 ⟨rfl, hg, hf⟩
                rw [hfr]
                have G3 := Lib.hid hg
                have O3 := Lib.hid (row_fr O0.out hf (by intro r hr; obtain rfl := List.mem_singleton.1 hr; exact row_ne O0.out G0.out (by decide)))
                have F3 := Lib.hid (F0.out.new hf (by simp; exact HSZ.out))
                clear hg hf hfr g0 g1 g2 g3 g4
                go_wp2
                go_loopw [13] (fun j wx => ∃ jj : Nat, jj ≤ T.length ∧ j = .int .i64 jj ∧ Fr w3 wx []) (fun j _ => T.length - (intOf j).toNat)
                case atStart => exact ⟨0, Nat.zero_le _, rfl, Fr.refl _ _⟩
                case round =>
                  obtain ⟨jj, hjk, rfl, hfw⟩ := hrel
                  have FW := Lib.hid hfw
                  have G4 := Lib.hid (G3.out.keep hfw)
                  have O4 := Lib.hid (show OwnR _ _ _ _ from row_keep O3.out hfw)
                  have F4 := Lib.hid (F3.out.trans hfw)
                  clear hfw
                  obtain ⟨k0, k1, k2, k3, k4⟩ := K.out
                  replace k0 := F4.out.cell k0 (by simp)
                  replace k1 := F4.out.cell k1 (by simp)
                  replace k2 := F4.out.cell k2 (by simp)
                  replace k3 := F4.out.cell k3 (by simp)
                  replace k4 := F4.out.cell k4 (by simp)
                  by_cases hjl : jj < T.length
                  · obtain ⟨g, ct', he', _, _, e0, e1, e2, e3, e4⟩ := OwnR.at O4.out jj hjl
                    simp only [Value.slice.injEq, true_and] at he'
                    obtain ⟨rfl, rfl⟩ := he'
                    obtain ⟨⟨htm, htv⟩, htl⟩ := LO.out _ (getD_mem T zRV jj hjl)
                    obtain ⟨⟨⟨tc, tf, th, tms⟩, tvm, tve⟩, ht⟩ : ∃ x, x = T.getD jj zRV := ⟨_, rfl⟩
                    rw [← ht] at e0 e1 e2 e3 e4 htm htv htl
                    dsimp only at e0 e1 e2 e3 e4 htm htv htl
                    obtain ⟨tam, tnm, tcm, rfl⟩ := htm.sl
                    obtain ⟨tae, tne, tce, rfl⟩ := htv
                    have HTM := Lib.hid htm
                    have HTL := Lib.hid (would_again s ⟨c, f, h, ms⟩ ⟨tc, tf, th, tms⟩ cr cr (low_take HWD.out htl))
                    have hlate := later_of HWD.out htl
                    dsimp only at hlate
                    have HQ := Lib.hid (heap_alloc_new wr (.cells #[.int .i64 tc, .int .i64 tf, .int .i64 th, .slice tam tnm tcm, .slice tae tne tce] 29))
                    have FA := Lib.hid ((Fr.alloc wr (.cells #[.int .i64 tc, .int .i64 tf, .int .i64 th, .slice tam tnm tcm, .slice tae tne tce] 29) []).trans (Fr.drew _ []))
                    have HS := Lib.hid (show OS w3 wr.heap.size b1 (o1 + k * 5) ⟨tc, tf, th, tms⟩ ⟨c, f, h, ms⟩ (.slice tam tnm tcm) (.slice tae tne tce) (wr.alloc (.cells #[.int .i64 tc, .int .i64 tf, .int .i64 th, .slice tam tnm tcm, .slice tae tne tce] 29)).drew from
                      ⟨FW.out.trans FA.out, row5 ((Fr.drew _ []).heap HQ.out (by simp)), FA.out.cell k0 (by simp), FA.out.cell k1 (by simp), FA.out.cell k2 (by simp)⟩)
                    clear htm ht htl
                    rcases hlate with hlate | ⟨hlate, hq1, hq2, hq3⟩
                    · have hrl := ep_rless tc tf c f
                      rw [hlate] at hrl
                      have HRL := Lib.hid hrl
                      clear hrl hlate
                      go_wp2
                      refine wp_region_det (S := OS w3 wr.heap.size b1 (o1 + k * 5) ⟨tc, tf, th, tms⟩ ⟨c, f, h, ms⟩ (.slice tam tnm tcm) (.slice tae tne tce)) (by kernel_rfl) HS.out ?_
                      refine wpDet_take (i := 0) (oi := _) (v := ?dv1) (by simp only [List.getElem?_toArray, List.getElem?_cons_zero]; rfl) (by kernel_rfl) (by kernel_rfl) (by kernel_rfl) (Or.inl ⟨by rfl, ?dy1⟩) ?dr1
                      case dy1 => (intro w hSw; have hS0 := hSw; (try dsimp only [OS] at hSw); go_simp; refine Came.value ?_ hS0; with_reducible rfl)
                      try simp only [Act.put, List.setIfInBounds_toArray, List.set_cons_zero, List.set_cons_succ]
                      refine wpDet_take (i := 1) (oi := _) (v := ?dv2) (by simp only [List.getElem?_toArray, List.getElem?_cons_zero, List.getElem?_cons_succ]; rfl) (by kernel_rfl) (by kernel_rfl) (by kernel_rfl) (Or.inl ⟨by rfl, ?dy2⟩) ?dr2
                      case dy2 => (intro w hSw; have hS0 := hSw; (try dsimp only [OS] at hSw); go_simp; refine Came.value ?_ hS0; with_reducible rfl)
                      try simp only [Act.put, List.setIfInBounds_toArray, List.set_cons_zero, List.set_cons_succ]
                      refine wpDet_take (i := 2) (oi := _) (v := ?dv3) (by simp only [List.getElem?_toArray, List.getElem?_cons_zero, List.getElem?_cons_succ]; rfl) (by kernel_rfl) (by kernel_rfl) (by kernel_rfl) (Or.inl ⟨by rfl, ?dy3⟩) ?dr3
                      case dy3 => (intro w hSw; have hS0 := hSw; (try dsimp only [OS] at hSw); go_simp; refine Came.value ?_ hS0; with_reducible rfl)
                      try simp only [Act.put, List.setIfInBounds_toArray, List.set_cons_zero, List.set_cons_succ]
                      refine wpDet_take (i := 3) (oi := _) (v := ?dv4) (by simp only [List.getElem?_toArray, List.getElem?_cons_zero, List.getElem?_cons_succ]; rfl) (by kernel_rfl) (by kernel_rfl) (by kernel_rfl) (Or.inl ⟨by rfl, ?dy4⟩) ?dr4
                      case dy4 => (intro w hSw; have hS0 := hSw; (try dsimp only [OS] at hSw); go_simp; refine Came.value ?_ hS0; with_reducible rfl)
                      try simp only [Act.put, List.setIfInBounds_toArray, List.set_cons_zero, List.set_cons_succ]
                      refine wpDet_take (i := 4) (oi := _) (v := ?dv5) (by simp only [List.getElem?_toArray, List.getElem?_cons_zero, List.getElem?_cons_succ]; rfl) (by kernel_rfl) (by kernel_rfl) (by kernel_rfl) (Or.inl ⟨by rfl, ?dy5⟩) ?dr5
                      case dy5 => (intro w hSw; have hS0 := hSw; (try dsimp only [OS] at hSw); go_simp; refine Came.value ?_ hS0; with_reducible rfl)
                      try simp only [Act.put, List.setIfInBounds_toArray, List.set_cons_zero, List.set_cons_succ]
                      refine wpDet_take (i := 5) (oi := _) (v := ?dv6) (by simp only [List.getElem?_toArray, List.getElem?_cons_zero, List.getElem?_cons_succ]; rfl) (by kernel_rfl) (by kernel_rfl) (by kernel_rfl) (Or.inl ⟨by rfl, ?dy6⟩) ?dr6
                      case dy6 => (intro w hSw; have hS0 := hSw; (try dsimp only [OS] at hSw); go_simp; refine Came.value ?_ hS0; with_reducible rfl)
                      try simp only [Act.put, List.setIfInBounds_toArray, List.set_cons_zero, List.set_cons_succ]
                      refine wpDet_take (i := 6) (oi := _) (v := ?dv7) (by simp only [List.getElem?_toArray, List.getElem?_cons_zero, List.getElem?_cons_succ]; rfl) (by kernel_rfl) (by kernel_rfl) (by kernel_rfl) (Or.inl ⟨by rfl, ?dy7⟩) ?dr7
                      case dy7 => (intro w hSw; have hS0 := hSw; (try dsimp only [OS] at hSw); go_simp; refine Came.value ?_ hS0; with_reducible rfl)
                      try simp only [Act.put, List.setIfInBounds_toArray, List.set_cons_zero, List.set_cons_succ]
                      refine wpDet_take (i := 7) (oi := _) (v := ?dv8) (by simp only [List.getElem?_toArray, List.getElem?_cons_zero, List.getElem?_cons_succ]; rfl) (by kernel_rfl) (by kernel_rfl) (by kernel_rfl) (Or.inl ⟨by rfl, ?dy8⟩) ?dr8
                      case dy8 => (intro w hSw; go_simp; exact Came.call ((HRL.out w).mono fun e w' ⟨he, hf⟩ => ⟨he, hSw.fr hf⟩) (by with_reducible rfl))
                      try simp only [Act.put, List.setIfInBounds_toArray, List.set_cons_zero, List.set_cons_succ]
                      refine wpDet_take (i := 8) (oi := _) (v := ?dv9) (by simp only [List.getElem?_toArray, List.getElem?_cons_zero, List.getElem?_cons_succ]; rfl) (by kernel_rfl) (by kernel_rfl) (by kernel_rfl) (Or.inl ⟨by rfl, ?dy9⟩) ?dr9
                      case dy9 => (intro w hSw; have hS0 := hSw; (try dsimp only [OS] at hSw); go_simp; refine Came.value ?_ hS0; with_reducible rfl)
                      try simp only [Act.put, List.setIfInBounds_toArray, List.set_cons_zero, List.set_cons_succ]
                      refine wpDet_take (i := 9) (oi := _) (v := undef) (by simp only [List.getElem?_toArray, List.getElem?_cons_zero, List.getElem?_cons_succ]; rfl) (by kernel_rfl) (by kernel_rfl) (by kernel_rfl) (Or.inr ⟨by rfl, rfl⟩) ?_
                      try simp only [Act.put, List.setIfInBounds_toArray, List.set_cons_zero, List.set_cons_succ]
                      refine wpDet_take (i := 10) (oi := _) (v := undef) (by simp only [List.getElem?_toArray, List.getElem?_cons_zero, List.getElem?_cons_succ]; rfl) (by kernel_rfl) (by kernel_rfl) (by kernel_rfl) (Or.inr ⟨by rfl, rfl⟩) ?_
                      try simp only [Act.put, List.setIfInBounds_toArray, List.set_cons_zero, List.set_cons_succ]
                      refine wpDet_take (i := 11) (oi := _) (v := undef) (by simp only [List.getElem?_toArray, List.getElem?_cons_zero, List.getElem?_cons_succ]; rfl) (by kernel_rfl) (by kernel_rfl) (by kernel_rfl) (Or.inr ⟨by rfl, rfl⟩) ?_
                      try simp only [Act.put, List.setIfInBounds_toArray, List.set_cons_zero, List.set_cons_succ]
                      refine wpDet_take (i := 12) (oi := _) (v := undef) (by simp only [List.getElem?_toArray, List.getElem?_cons_zero, List.getElem?_cons_succ]; rfl) (by kernel_rfl) (by kernel_rfl) (by kernel_rfl) (Or.inr ⟨by rfl, rfl⟩) ?_
                      try simp only [Act.put, List.setIfInBounds_toArray, List.set_cons_zero, List.set_cons_succ]
                      refine wpDet_take (i := 13) (oi := _) (v := undef) (by simp only [List.getElem?_toArray, List.getElem?_cons_zero, List.getElem?_cons_succ]; rfl) (by kernel_rfl) (by kernel_rfl) (by kernel_rfl) (Or.inr ⟨by rfl, rfl⟩) ?_
                      try simp only [Act.put, List.setIfInBounds_toArray, List.set_cons_zero, List.set_cons_succ]
                      refine wpDet_take (i := 14) (oi := _) (v := undef) (by simp only [List.getElem?_toArray, List.getElem?_cons_zero, List.getElem?_cons_succ]; rfl) (by kernel_rfl) (by kernel_rfl) (by kernel_rfl) (Or.inr ⟨by rfl, rfl⟩) ?_
                      try simp only [Act.put, List.setIfInBounds_toArray, List.set_cons_zero, List.set_cons_succ]
                      refine wpDet_take (i := 15) (oi := _) (v := undef) (by simp only [List.getElem?_toArray, List.getElem?_cons_zero, List.getElem?_cons_succ]; rfl) (by kernel_rfl) (by kernel_rfl) (by kernel_rfl) (Or.inr ⟨by rfl, rfl⟩) ?_
                      try simp only [Act.put, List.setIfInBounds_toArray, List.set_cons_zero, List.set_cons_succ]
                      refine wpDet_take (i := 16) (oi := _) (v := undef) (by simp only [List.getElem?_toArray, List.getElem?_cons_zero, List.getElem?_cons_succ]; rfl) (by kernel_rfl) (by kernel_rfl) (by kernel_rfl) (Or.inr ⟨by rfl, rfl⟩) ?_
                      try simp only [Act.put, List.setIfInBounds_toArray, List.set_cons_zero, List.set_cons_succ]
                      refine wpDet_take (i := 17) (oi := _) (v := undef) (by simp only [List.getElem?_toArray, List.getElem?_cons_zero, List.getElem?_cons_succ]; rfl) (by kernel_rfl) (by kernel_rfl) (by kernel_rfl) (Or.inr ⟨by rfl, rfl⟩) ?_
                      try simp only [Act.put, List.setIfInBounds_toArray, List.set_cons_zero, List.set_cons_succ]
                      refine wpDet_take (i := 18) (oi := _) (v := undef) (by simp only [List.getElem?_toArray, List.getElem?_cons_zero, List.getElem?_cons_succ]; rfl) (by kernel_rfl) (by kernel_rfl) (by kernel_rfl) (Or.inr ⟨by rfl, rfl⟩) ?_
                      try simp only [Act.put, List.setIfInBounds_toArray, List.set_cons_zero, List.set_cons_succ]
                      refine wpDet_take (i := 19) (oi := _) (v := undef) (by simp only [List.getElem?_toArray, List.getElem?_cons_zero, List.getElem?_cons_succ]; rfl) (by kernel_rfl) (by kernel_rfl) (by kernel_rfl) (Or.inr ⟨by rfl, rfl⟩) ?_
                      try simp only [Act.put, List.setIfInBounds_toArray, List.set_cons_zero, List.set_cons_succ]
                      refine wpDet_take (i := 20) (oi := _) (v := undef) (by simp only [List.getElem?_toArray, List.getElem?_cons_zero, List.getElem?_cons_succ]; rfl) (by kernel_rfl) (by kernel_rfl) (by kernel_rfl) (Or.inr ⟨by rfl, rfl⟩) ?_
                      try simp only [Act.put, List.setIfInBounds_toArray, List.set_cons_zero, List.set_cons_succ]
                      refine wpDet_take (i := 21) (oi := _) (v := undef) (by simp only [List.getElem?_toArray, List.getElem?_cons_zero, List.getElem?_cons_succ]; rfl) (by kernel_rfl) (by kernel_rfl) (by kernel_rfl) (Or.inr ⟨by rfl, rfl⟩) ?_
                      try simp only [Act.put, List.setIfInBounds_toArray, List.set_cons_zero, List.set_cons_succ]
                      refine wpDet_take (i := 22) (oi := _) (v := undef) (by simp only [List.getElem?_toArray, List.getElem?_cons_zero, List.getElem?_cons_succ]; rfl) (by kernel_rfl) (by kernel_rfl) (by kernel_rfl) (Or.inr ⟨by rfl, rfl⟩) ?_
                      try simp only [Act.put, List.setIfInBounds_toArray, List.set_cons_zero, List.set_cons_succ]
                      refine wpDet_take (i := 23) (oi := _) (v := undef) (by simp only [List.getElem?_toArray, List.getElem?_cons_zero, List.getElem?_cons_succ]; rfl) (by kernel_rfl) (by kernel_rfl) (by kernel_rfl) (Or.inr ⟨by rfl, rfl⟩) ?_
                      try simp only [Act.put, List.setIfInBounds_toArray, List.set_cons_zero, List.set_cons_succ]
                      refine wpDet_take (i := 24) (oi := _) (v := undef) (by simp only [List.getElem?_toArray, List.getElem?_cons_zero, List.getElem?_cons_succ]; rfl) (by kernel_rfl) (by kernel_rfl) (by kernel_rfl) (Or.inr ⟨by rfl, rfl⟩) ?_
                      try simp only [Act.put, List.setIfInBounds_toArray, List.set_cons_zero, List.set_cons_succ]
                      refine wpDet_take (i := 25) (oi := _) (v := undef) (by simp only [List.getElem?_toArray, List.getElem?_cons_zero, List.getElem?_cons_succ]; rfl) (by kernel_rfl) (by kernel_rfl) (by kernel_rfl) (Or.inr ⟨by rfl, rfl⟩) ?_
                      try simp only [Act.put, List.setIfInBounds_toArray, List.set_cons_zero, List.set_cons_succ]
                      refine wpDet_take (i := 26) (oi := _) (v := undef) (by simp only [List.getElem?_toArray, List.getElem?_cons_zero, List.getElem?_cons_succ]; rfl) (by kernel_rfl) (by kernel_rfl) (by kernel_rfl) (Or.inr ⟨by rfl, rfl⟩) ?_
                      try simp only [Act.put, List.setIfInBounds_toArray, List.set_cons_zero, List.set_cons_succ]
                      refine wpDet_take (i := 27) (oi := _) (v := ?dv28) (by simp only [List.getElem?_toArray, List.getElem?_cons_zero, List.getElem?_cons_succ]; rfl) (by kernel_rfl) (by kernel_rfl) (by kernel_rfl) (Or.inl ⟨by rfl, ?dy28⟩) ?dr28
                      case dy28 => (intro w hSw; have hS0 := hSw; (try dsimp only [OS] at hSw); go_simp; refine Came.value ?_ hS0; with_reducible rfl)
                      try simp only [Act.put, List.setIfInBounds_toArray, List.set_cons_zero, List.set_cons_succ]
                      refine wpDet_take (i := 28) (oi := _) (v := ?dv29) (by simp only [List.getElem?_toArray, List.getElem?_cons_zero, List.getElem?_cons_succ]; rfl) (by kernel_rfl) (by kernel_rfl) (by kernel_rfl) (Or.inl ⟨by rfl, ?dy29⟩) ?dr29
                      case dy29 => (intro w hSw; have hS0 := hSw; (try dsimp only [OS] at hSw); go_simp; refine Came.value ?_ hS0; with_reducible rfl)
                      try simp only [Act.put, List.setIfInBounds_toArray, List.set_cons_zero, List.set_cons_succ]
                      refine wpDet_done (by kernel_rfl) ?_ _
                      rintro w5 ⟨hf5, ⟨q0, q1, q2, q3, q4⟩, _⟩
                      have F5 := Lib.hid hf5
                      clear hf5
                      go_wp2_with fail
                      refine (would_any w1.heap.size _ cr cr ⟨tc, tf, th, tms⟩ _ _ _ (G3.out.keep F5.out) (HTM.out.keep (F3.out.trans F5.out)) (slice_sl _ _ _) false HTL.out).mono ?_
                      rintro e w6 ⟨rfl, hf⟩
                      have F6 := Lib.hid (F5.out.trans hf)
                      clear hf
                      go_wp2
                      go_roundw
                      case rel => exact ⟨jj + 1, by omega, by go_num, F6.out⟩
                      case measure => simp [intOf]; omega
                    · have hrl := ep_rless tc tf c f
                      rw [hlate] at hrl
                      have HRL := Lib.hid hrl
                      have hsm := ep_same tc tf c f
                      rw [decide_eq_true (And.intro hq1 hq2)] at hsm
                      have HSM := Lib.hid hsm
                      have hd : decide (th < h) = true := by simp [hq3]
                      clear hrl hlate hsm hq1 hq2 hq3
                      go_wp2
                      refine wp_region_det (S := OS w3 wr.heap.size b1 (o1 + k * 5) ⟨tc, tf, th, tms⟩ ⟨c, f, h, ms⟩ (.slice tam tnm tcm) (.slice tae tne tce)) (by kernel_rfl) HS.out ?_
                      refine wpDet_take (i := 0) (oi := _) (v := ?dv30) (by simp only [List.getElem?_toArray, List.getElem?_cons_zero]; rfl) (by kernel_rfl) (by kernel_rfl) (by kernel_rfl) (Or.inl ⟨by rfl, ?dy30⟩) ?dr30
                      case dy30 => (intro w hSw; have hS0 := hSw; (try dsimp only [OS] at hSw); go_simp; refine Came.value ?_ hS0; with_reducible rfl)
                      try simp only [Act.put, List.setIfInBounds_toArray, List.set_cons_zero, List.set_cons_succ]
                      refine wpDet_take (i := 1) (oi := _) (v := ?dv31) (by simp only [List.getElem?_toArray, List.getElem?_cons_zero, List.getElem?_cons_succ]; rfl) (by kernel_rfl) (by kernel_rfl) (by kernel_rfl) (Or.inl ⟨by rfl, ?dy31⟩) ?dr31
                      case dy31 => (intro w hSw; have hS0 := hSw; (try dsimp only [OS] at hSw); go_simp; refine Came.value ?_ hS0; with_reducible rfl)
                      try simp only [Act.put, List.setIfInBounds_toArray, List.set_cons_zero, List.set_cons_succ]
                      refine wpDet_take (i := 2) (oi := _) (v := ?dv32) (by simp only [List.getElem?_toArray, List.getElem?_cons_zero, List.getElem?_cons_succ]; rfl) (by kernel_rfl) (by kernel_rfl) (by kernel_rfl) (Or.inl ⟨by rfl, ?dy32⟩) ?dr32
                      case dy32 => (intro w hSw; have hS0 := hSw; (try dsimp only [OS] at hSw); go_simp; refine Came.value ?_ hS0; with_reducible rfl)
                      try simp only [Act.put, List.setIfInBounds_toArray, List.set_cons_zero, List.set_cons_succ]
                      refine wpDet_take (i := 3) (oi := _) (v := ?dv33) (by simp only [List.getElem?_toArray, List.getElem?_cons_zero, List.getElem?_cons_succ]; rfl) (by kernel_rfl) (by kernel_rfl) (by kernel_rfl) (Or.inl ⟨by rfl, ?dy33⟩) ?dr33
                      case dy33 => (intro w hSw; have hS0 := hSw; (try dsimp only [OS] at hSw); go_simp; refine Came.value ?_ hS0; with_reducible rfl)
                      try simp only [Act.put, List.setIfInBounds_toArray, List.set_cons_zero, List.set_cons_succ]
                      refine wpDet_take (i := 4) (oi := _) (v := ?dv34) (by simp only [List.getElem?_toArray, List.getElem?_cons_zero, List.getElem?_cons_succ]; rfl) (by kernel_rfl) (by kernel_rfl) (by kernel_rfl) (Or.inl ⟨by rfl, ?dy34⟩) ?dr34
                      case dy34 => (intro w hSw; have hS0 := hSw; (try dsimp only [OS] at hSw); go_simp; refine Came.value ?_ hS0; with_reducible rfl)
                      try simp only [Act.put, List.setIfInBounds_toArray, List.set_cons_zero, List.set_cons_succ]
                      refine wpDet_take (i := 5) (oi := _) (v := ?dv35) (by simp only [List.getElem?_toArray, List.getElem?_cons_zero, List.getElem?_cons_succ]; rfl) (by kernel_rfl) (by kernel_rfl) (by kernel_rfl) (Or.inl ⟨by rfl, ?dy35⟩) ?dr35
                      case dy35 => (intro w hSw; have hS0 := hSw; (try dsimp only [OS] at hSw); go_simp; refine Came.value ?_ hS0; with_reducible rfl)
                      try simp only [Act.put, List.setIfInBounds_toArray, List.set_cons_zero, List.set_cons_succ]
                      refine wpDet_take (i := 6) (oi := _) (v := ?dv36) (by simp only [List.getElem?_toArray, List.getElem?_cons_zero, List.getElem?_cons_succ]; rfl) (by kernel_rfl) (by kernel_rfl) (by kernel_rfl) (Or.inl ⟨by rfl, ?dy36⟩) ?dr36
                      case dy36 => (intro w hSw; have hS0 := hSw; (try dsimp only [OS] at hSw); go_simp; refine Came.value ?_ hS0; with_reducible rfl)
                      try simp only [Act.put, List.setIfInBounds_toArray, List.set_cons_zero, List.set_cons_succ]
                      refine wpDet_take (i := 7) (oi := _) (v := ?dv37) (by simp only [List.getElem?_toArray, List.getElem?_cons_zero, List.getElem?_cons_succ]; rfl) (by kernel_rfl) (by kernel_rfl) (by kernel_rfl) (Or.inl ⟨by rfl, ?dy37⟩) ?dr37
                      case dy37 => (intro w hSw; go_simp; exact Came.call ((HRL.out w).mono fun e w' ⟨he, hf⟩ => ⟨he, hSw.fr hf⟩) (by with_reducible rfl))
                      try simp only [Act.put, List.setIfInBounds_toArray, List.set_cons_zero, List.set_cons_succ]
                      refine wpDet_take (i := 8) (oi := _) (v := ?dv38) (by simp only [List.getElem?_toArray, List.getElem?_cons_zero, List.getElem?_cons_succ]; rfl) (by kernel_rfl) (by kernel_rfl) (by kernel_rfl) (Or.inl ⟨by rfl, ?dy38⟩) ?dr38
                      case dy38 => (intro w hSw; have hS0 := hSw; (try dsimp only [OS] at hSw); go_simp; refine Came.value ?_ hS0; with_reducible rfl)
                      try simp only [Act.put, List.setIfInBounds_toArray, List.set_cons_zero, List.set_cons_succ]
                      refine wpDet_take (i := 9) (oi := _) (v := ?dv39) (by simp only [List.getElem?_toArray, List.getElem?_cons_zero, List.getElem?_cons_succ]; rfl) (by kernel_rfl) (by kernel_rfl) (by kernel_rfl) (Or.inl ⟨by rfl, ?dy39⟩) ?dr39
                      case dy39 => (intro w hSw; have hS0 := hSw; (try dsimp only [OS] at hSw); go_simp; refine Came.value ?_ hS0; with_reducible rfl)
                      try simp only [Act.put, List.setIfInBounds_toArray, List.set_cons_zero, List.set_cons_succ]
                      refine wpDet_take (i := 10) (oi := _) (v := ?dv40) (by simp only [List.getElem?_toArray, List.getElem?_cons_zero, List.getElem?_cons_succ]; rfl) (by kernel_rfl) (by kernel_rfl) (by kernel_rfl) (Or.inl ⟨by rfl, ?dy40⟩) ?dr40
                      case dy40 => (intro w hSw; have hS0 := hSw; (try dsimp only [OS] at hSw); go_simp; refine Came.value ?_ hS0; with_reducible rfl)
                      try simp only [Act.put, List.setIfInBounds_toArray, List.set_cons_zero, List.set_cons_succ]
                      refine wpDet_take (i := 11) (oi := _) (v := ?dv41) (by simp only [List.getElem?_toArray, List.getElem?_cons_zero, List.getElem?_cons_succ]; rfl) (by kernel_rfl) (by kernel_rfl) (by kernel_rfl) (Or.inl ⟨by rfl, ?dy41⟩) ?dr41
                      case dy41 => (intro w hSw; have hS0 := hSw; (try dsimp only [OS] at hSw); go_simp; refine Came.value ?_ hS0; with_reducible rfl)
                      try simp only [Act.put, List.setIfInBounds_toArray, List.set_cons_zero, List.set_cons_succ]
                      refine wpDet_take (i := 12) (oi := _) (v := ?dv42) (by simp only [List.getElem?_toArray, List.getElem?_cons_zero, List.getElem?_cons_succ]; rfl) (by kernel_rfl) (by kernel_rfl) (by kernel_rfl) (Or.inl ⟨by rfl, ?dy42⟩) ?dr42
                      case dy42 => (intro w hSw; have hS0 := hSw; (try dsimp only [OS] at hSw); go_simp; refine Came.value ?_ hS0; with_reducible rfl)
                      try simp only [Act.put, List.setIfInBounds_toArray, List.set_cons_zero, List.set_cons_succ]
                      refine wpDet_take (i := 13) (oi := _) (v := ?dv43) (by simp only [List.getElem?_toArray, List.getElem?_cons_zero, List.getElem?_cons_succ]; rfl) (by kernel_rfl) (by kernel_rfl) (by kernel_rfl) (Or.inl ⟨by rfl, ?dy43⟩) ?dr43
                      case dy43 => (intro w hSw; have hS0 := hSw; (try dsimp only [OS] at hSw); go_simp; refine Came.value ?_ hS0; with_reducible rfl)
                      try simp only [Act.put, List.setIfInBounds_toArray, List.set_cons_zero, List.set_cons_succ]
                      refine wpDet_take (i := 14) (oi := _) (v := ?dv44) (by simp only [List.getElem?_toArray, List.getElem?_cons_zero, List.getElem?_cons_succ]; rfl) (by kernel_rfl) (by kernel_rfl) (by kernel_rfl) (Or.inl ⟨by rfl, ?dy44⟩) ?dr44
                      case dy44 => (intro w hSw; have hS0 := hSw; (try dsimp only [OS] at hSw); go_simp; refine Came.value ?_ hS0; with_reducible rfl)
                      try simp only [Act.put, List.setIfInBounds_toArray, List.set_cons_zero, List.set_cons_succ]
                      refine wpDet_take (i := 15) (oi := _) (v := ?dv45) (by simp only [List.getElem?_toArray, List.getElem?_cons_zero, List.getElem?_cons_succ]; rfl) (by kernel_rfl) (by kernel_rfl) (by kernel_rfl) (Or.inl ⟨by rfl, ?dy45⟩) ?dr45
                      case dy45 => (intro w hSw; have hS0 := hSw; (try dsimp only [OS] at hSw); go_simp; refine Came.value ?_ hS0; with_reducible rfl)
                      try simp only [Act.put, List.setIfInBounds_toArray, List.set_cons_zero, List.set_cons_succ]
                      refine wpDet_take (i := 16) (oi := _) (v := ?dv46) (by simp only [List.getElem?_toArray, List.getElem?_cons_zero, List.getElem?_cons_succ]; rfl) (by kernel_rfl) (by kernel_rfl) (by kernel_rfl) (Or.inl ⟨by rfl, ?dy46⟩) ?dr46
                      case dy46 => (intro w hSw; go_simp; exact Came.call ((HSM.out w).mono fun e w' ⟨he, hf⟩ => ⟨he, hSw.fr hf⟩) (by with_reducible rfl))
                      try simp only [Act.put, List.setIfInBounds_toArray, List.set_cons_zero, List.set_cons_succ]
                      refine wpDet_take (i := 17) (oi := _) (v := ?dv47) (by simp only [List.getElem?_toArray, List.getElem?_cons_zero, List.getElem?_cons_succ]; rfl) (by kernel_rfl) (by kernel_rfl) (by kernel_rfl) (Or.inl ⟨by rfl, ?dy47⟩) ?dr47
                      case dy47 => (intro w hSw; have hS0 := hSw; (try dsimp only [OS] at hSw); go_simp; refine Came.value ?_ hS0; with_reducible rfl)
                      try simp only [Act.put, List.setIfInBounds_toArray, List.set_cons_zero, List.set_cons_succ]
                      refine wpDet_take (i := 18) (oi := _) (v := ?dv48) (by simp only [List.getElem?_toArray, List.getElem?_cons_zero, List.getElem?_cons_succ]; rfl) (by kernel_rfl) (by kernel_rfl) (by kernel_rfl) (Or.inl ⟨by rfl, ?dy48⟩) ?dr48
                      case dy48 => (intro w hSw; have hS0 := hSw; (try dsimp only [OS] at hSw); go_simp; refine Came.value ?_ hS0; with_reducible rfl)
                      try simp only [Act.put, List.setIfInBounds_toArray, List.set_cons_zero, List.set_cons_succ]
                      refine wpDet_take (i := 19) (oi := _) (v := ?dv49) (by simp only [List.getElem?_toArray, List.getElem?_cons_zero, List.getElem?_cons_succ]; rfl) (by kernel_rfl) (by kernel_rfl) (by kernel_rfl) (Or.inl ⟨by rfl, ?dy49⟩) ?dr49
                      case dy49 => (intro w hSw; have hS0 := hSw; (try dsimp only [OS] at hSw); go_simp; refine Came.value ?_ hS0; with_reducible rfl)
                      try simp only [Act.put, List.setIfInBounds_toArray, List.set_cons_zero, List.set_cons_succ]
                      refine wpDet_take (i := 20) (oi := _) (v := ?dv50) (by simp only [List.getElem?_toArray, List.getElem?_cons_zero, List.getElem?_cons_succ]; rfl) (by kernel_rfl) (by kernel_rfl) (by kernel_rfl) (Or.inl ⟨by rfl, ?dy50⟩) ?dr50
                      case dy50 => (intro w hSw; have hS0 := hSw; (try dsimp only [OS] at hSw); go_simp; refine Came.value ?_ hS0; with_reducible rfl)
                      try simp only [Act.put, List.setIfInBounds_toArray, List.set_cons_zero, List.set_cons_succ]
                      refine wpDet_take (i := 21) (oi := _) (v := ?dv51) (by simp only [List.getElem?_toArray, List.getElem?_cons_zero, List.getElem?_cons_succ]; rfl) (by kernel_rfl) (by kernel_rfl) (by kernel_rfl) (Or.inl ⟨by rfl, ?dy51⟩) ?dr51
                      case dy51 => (intro w hSw; have hS0 := hSw; (try dsimp only [OS] at hSw); go_simp; refine Came.value ?_ hS0; with_reducible rfl)
                      try simp only [Act.put, List.setIfInBounds_toArray, List.set_cons_zero, List.set_cons_succ]
                      refine wpDet_take (i := 22) (oi := _) (v := ?dv52) (by simp only [List.getElem?_toArray, List.getElem?_cons_zero, List.getElem?_cons_succ]; rfl) (by kernel_rfl) (by kernel_rfl) (by kernel_rfl) (Or.inl ⟨by rfl, ?dy52⟩) ?dr52
                      case dy52 => (intro w hSw; have hS0 := hSw; (try dsimp only [OS] at hSw); go_simp; refine Came.value ?_ hS0; with_reducible rfl)
                      try simp only [Act.put, List.setIfInBounds_toArray, List.set_cons_zero, List.set_cons_succ]
                      refine wpDet_take (i := 23) (oi := _) (v := ?dv53) (by simp only [List.getElem?_toArray, List.getElem?_cons_zero, List.getElem?_cons_succ]; rfl) (by kernel_rfl) (by kernel_rfl) (by kernel_rfl) (Or.inl ⟨by rfl, ?dy53⟩) ?dr53
                      case dy53 => (intro w hSw; have hS0 := hSw; (try dsimp only [OS] at hSw); go_simp; refine Came.value ?_ hS0; with_reducible rfl)
                      try simp only [Act.put, List.setIfInBounds_toArray, List.set_cons_zero, List.set_cons_succ]
                      refine wpDet_take (i := 24) (oi := _) (v := ?dv54) (by simp only [List.getElem?_toArray, List.getElem?_cons_zero, List.getElem?_cons_succ]; rfl) (by kernel_rfl) (by kernel_rfl) (by kernel_rfl) (Or.inl ⟨by rfl, ?dy54⟩) ?dr54
                      case dy54 => (intro w hSw; have hS0 := hSw; (try dsimp only [OS] at hSw); go_simp; refine Came.value ?_ hS0; with_reducible rfl)
                      try simp only [Act.put, List.setIfInBounds_toArray, List.set_cons_zero, List.set_cons_succ]
                      refine wpDet_take (i := 25) (oi := _) (v := ?dv55) (by simp only [List.getElem?_toArray, List.getElem?_cons_zero, List.getElem?_cons_succ]; rfl) (by kernel_rfl) (by kernel_rfl) (by kernel_rfl) (Or.inl ⟨by rfl, ?dy55⟩) ?dr55
                      case dy55 => (intro w hSw; have hS0 := hSw; (try dsimp only [OS] at hSw); go_simp; refine Came.value ?_ hS0; with_reducible rfl)
                      try simp only [Act.put, List.setIfInBounds_toArray, List.set_cons_zero, List.set_cons_succ]
                      refine wpDet_take (i := 26) (oi := _) (v := ?dv56) (by simp only [List.getElem?_toArray, List.getElem?_cons_zero, List.getElem?_cons_succ]; rfl) (by kernel_rfl) (by kernel_rfl) (by kernel_rfl) (Or.inl ⟨by rfl, ?dy56⟩) ?dr56
                      case dy56 => (intro w hSw; have hS0 := hSw; (try dsimp only [OS] at hSw); go_simp; refine Came.value ?_ hS0; with_reducible rfl)
                      try simp only [Act.put, List.setIfInBounds_toArray, List.set_cons_zero, List.set_cons_succ]
                      refine wpDet_take (i := 27) (oi := _) (v := ?dv57) (by simp only [List.getElem?_toArray, List.getElem?_cons_zero, List.getElem?_cons_succ]; rfl) (by kernel_rfl) (by kernel_rfl) (by kernel_rfl) (Or.inl ⟨by rfl, ?dy57⟩) ?dr57
                      case dy57 => (intro w hSw; have hS0 := hSw; (try dsimp only [OS] at hSw); go_simp; refine Came.value ?_ hS0; with_reducible rfl)
                      try simp only [Act.put, List.setIfInBounds_toArray, List.set_cons_zero, List.set_cons_succ]
                      refine wpDet_take (i := 28) (oi := _) (v := ?dv58) (by simp only [List.getElem?_toArray, List.getElem?_cons_zero, List.getElem?_cons_succ]; rfl) (by kernel_rfl) (by kernel_rfl) (by kernel_rfl) (Or.inl ⟨by rfl, ?dy58⟩) ?dr58
                      case dy58 => (intro w hSw; have hS0 := hSw; (try dsimp only [OS] at hSw); go_simp; refine Came.value ?_ hS0; with_reducible rfl)
                      try simp only [Act.put, List.setIfInBounds_toArray, List.set_cons_zero, List.set_cons_succ]
                      refine wpDet_done (by kernel_rfl) ?_ _
                      rintro w5 ⟨hf5, ⟨q0, q1, q2, q3, q4⟩, _⟩
                      have F5 := Lib.hid hf5
                      clear hf5
                      go_wp2_with fail
                      refine (would_any w1.heap.size _ cr cr ⟨tc, tf, th, tms⟩ _ _ _ (G3.out.keep F5.out) (HTM.out.keep (F3.out.trans F5.out)) (slice_sl _ _ _) false HTL.out).mono ?_
                      rintro e w6 ⟨rfl, hf⟩
                      have F6 := Lib.hid (F5.out.trans hf)
                      clear hf
                      go_wp2
                      go_roundw
                      case rel => exact ⟨jj + 1, by omega, by go_num, F6.out⟩
                      case measure => simp [intOf]; omega
                  · obtain rfl : jj = T.length := by omega
                    have HWA := Lib.hid (would_again s ⟨c, f, h, ms⟩ ⟨c, f, h, ms⟩ cr cr (low_self s _))
                    go_wp2_with fail
                    refine (would_any w1.heap.size _ cr cr ⟨c, f, h, ms⟩ _ _ _ G4.out (HM.out.keep F4.out) (slice_sl _ _ _) false HWA.out).mono ?_
                    rintro e w5 ⟨rfl, hf⟩
                    have G5 := Lib.hid (G4.out.keep hf)
                    have O5 := Lib.hid (show OwnR _ _ _ _ from row_keep O4.out hf)
                    have F5 := Lib.hid (F4.out.trans hf)
                    have hsz := F5.out.size
                    replace k0 := hf.cell k0 (by simp)
                    replace k1 := hf.cell k1 (by simp)
                    replace k2 := hf.cell k2 (by simp)
                    replace k3 := hf.cell k3 (by simp)
                    replace k4 := hf.cell k4 (by simp)
                    clear hf
                    go_wp2_with fail
                    refine (HAM.out _ F5.out).mono ?_
                    rintro e w' ⟨rfl, hw⟩
                    obtain rfl : w5 = w' := hw.symm
                    clear hw
                    go_wp2_with (at_builtin; refine wpList_append_own _ rfl _ _ 49 rfl w.heap.size 29 i0 (.agg #[.int .i64 0, .int .i64 0, .int .i64 0, .slice none 0 0, .slice none 0 0]) 5 72 Try.underlying49 hi hz0 hz1 hz2 rfl (by decide) _ _ _ rfl (World.ownsRow.alloc O5.out _) ⟨w5.heap.size, 0, none⟩ 1 1 (RV.cl ⟨⟨c, f, h, ms⟩, .slice am nm cm, .slice ae ne ce⟩) rfl rfl (World.news_of_block (cs := #[.int .i64 c, .int .i64 f, .int .i64 h, .slice am nm cm, .slice ae ne ce]) (t := 29) (fr := (0, 0)) (heap_alloc_new _ _)) (RV.one w _ HOK.out) (by unfold maxLen; omega) (by omega) (by simp; omega) ?_; intro v' w6 hown hgrow _)
                    have O6 := Lib.hid (show OwnR w6 w.heap.size v' (T ++ [⟨⟨c, f, h, ms⟩, .slice am nm cm, .slice ae ne ce⟩]) by unfold OwnR; rw [rvC_snoc, List.length_append]; exact hown)
                    have G6 := Lib.hid (show Gt w6 w1.heap.size (s.tk ⟨c, f, h, ms⟩) from row_far hgrow (World.ownsRow.alloc O5.out _) (G5.out.keep (Fr.alloc w5 _ [])) (by decide))
                    have F6 := Lib.hid ((F5.out.trans (Fr.alloc w5 _ [])).grown_own hgrow (fun r hr => .inr (World.ownsRow.lt O5.out r hr).1))
                    clear hown hgrow
                    go_wp2
                    go_roundw
                    case rel =>
                      refine ⟨k + 1, _, s.tk ⟨c, f, h, ms⟩, by omega, by go_num, O6.out, by simp; omega, ?_, hfl, G6.out, F6.out⟩
                      intro x hx
                      rcases List.mem_append.1 hx with hx | hx
                      · exact ⟨(LO.out x hx).1, low_take HWD.out (LO.out x hx).2⟩
                      · obtain rfl := List.mem_singleton.1 hx
                        exact ⟨HOK.out, low_self s _⟩
                    case measure => simp [intOf]; omega
              | true =>
                go_wp2_with fail
                refine (take_yes w1.heap.size s cr cr ⟨c, f, h, ms⟩ _ _ _ G0.out (HM.out.keep F0.out) (slice_sl _ _ _) HWD.out).mono ?_
                rintro e w3 ⟨rfl, hg, hf⟩
                rw [hfr]
                have G3 := Lib.hid hg
                have O3 := Lib.hid (row_fr O0.out hf (by intro r hr; obtain rfl := List.mem_singleton.1 hr; exact row_ne O0.out G0.out (by decide)))
                have F3 := Lib.hid (F0.out.new hf (by simp; exact HSZ.out))
                clear hg hf hfr g0 g1 g2 g3 g4
                go_wp2
                go_loopw [13] (fun j wx => ∃ jj : Nat, jj ≤ T.length ∧ j = .int .i64 jj ∧ Fr w3 wx []) (fun j _ => T.length - (intOf j).toNat)
                case atStart => exact ⟨0, Nat.zero_le _, rfl, Fr.refl _ _⟩
                case round =>
                  obtain ⟨jj, hjk, rfl, hfw⟩ := hrel
                  have FW := Lib.hid hfw
                  have G4 := Lib.hid (G3.out.keep hfw)
                  have O4 := Lib.hid (show OwnR _ _ _ _ from row_keep O3.out hfw)
                  have F4 := Lib.hid (F3.out.trans hfw)
                  clear hfw
                  obtain ⟨k0, k1, k2, k3, k4⟩ := K.out
                  replace k0 := F4.out.cell k0 (by simp)
                  replace k1 := F4.out.cell k1 (by simp)
                  replace k2 := F4.out.cell k2 (by simp)
                  replace k3 := F4.out.cell k3 (by simp)
                  replace k4 := F4.out.cell k4 (by simp)
                  by_cases hjl : jj < T.length
                  · obtain ⟨g, ct', he', _, _, e0, e1, e2, e3, e4⟩ := OwnR.at O4.out jj hjl
                    simp only [Value.slice.injEq, true_and] at he'
                    obtain ⟨rfl, rfl⟩ := he'
                    obtain ⟨⟨htm, htv⟩, htl⟩ := LO.out _ (getD_mem T zRV jj hjl)
                    obtain ⟨⟨⟨tc, tf, th, tms⟩, tvm, tve⟩, ht⟩ : ∃ x, x = T.getD jj zRV := ⟨_, rfl⟩
                    rw [← ht] at e0 e1 e2 e3 e4 htm htv htl
                    dsimp only at e0 e1 e2 e3 e4 htm htv htl
                    obtain ⟨tam, tnm, tcm, rfl⟩ := htm.sl
                    obtain ⟨tae, tne, tce, rfl⟩ := htv
                    have HTM := Lib.hid htm
                    have HTL := Lib.hid (would_again s ⟨c, f, h, ms⟩ ⟨tc, tf, th, tms⟩ cr cr (low_take HWD.out htl))
                    have hlate := later_of HWD.out htl
                    dsimp only at hlate
                    have HQ := Lib.hid (heap_alloc_new wr (.cells #[.int .i64 tc, .int .i64 tf, .int .i64 th, .slice tam tnm tcm, .slice tae tne tce] 29))
                    have FA := Lib.hid ((Fr.alloc wr (.cells #[.int .i64 tc, .int .i64 tf, .int .i64 th, .slice tam tnm tcm, .slice tae tne tce] 29) []).trans (Fr.drew _ []))
                    have HS := Lib.hid (show OS w3 wr.heap.size b1 (o1 + k * 5) ⟨tc, tf, th, tms⟩ ⟨c, f, h, ms⟩ (.slice tam tnm tcm) (.slice tae tne tce) (wr.alloc (.cells #[.int .i64 tc, .int .i64 tf, .int .i64 th, .slice tam tnm tcm, .slice tae tne tce] 29)).drew from
                      ⟨FW.out.trans FA.out, row5 ((Fr.drew _ []).heap HQ.out (by simp)), FA.out.cell k0 (by simp), FA.out.cell k1 (by simp), FA.out.cell k2 (by simp)⟩)
                    clear htm ht htl
                    rcases hlate with hlate | ⟨hlate, hq1, hq2, hq3⟩
                    · have hrl := ep_rless tc tf c f
                      rw [hlate] at hrl
                      have HRL := Lib.hid hrl
                      clear hrl hlate
                      go_wp2
                      refine wp_region_det (S := OS w3 wr.heap.size b1 (o1 + k * 5) ⟨tc, tf, th, tms⟩ ⟨c, f, h, ms⟩ (.slice tam tnm tcm) (.slice tae tne tce)) (by kernel_rfl) HS.out ?_
                      refine wpDet_take (i := 0) (oi := _) (v := ?dv59) (by simp only [List.getElem?_toArray, List.getElem?_cons_zero]; rfl) (by kernel_rfl) (by kernel_rfl) (by kernel_rfl) (Or.inl ⟨by rfl, ?dy59⟩) ?dr59
                      case dy59 => (intro w hSw; have hS0 := hSw; (try dsimp only [OS] at hSw); go_simp; refine Came.value ?_ hS0; with_reducible rfl)
                      try simp only [Act.put, List.setIfInBounds_toArray, List.set_cons_zero, List.set_cons_succ]
                      refine wpDet_take (i := 1) (oi := _) (v := ?dv60) (by simp only [List.getElem?_toArray, List.getElem?_cons_zero, List.getElem?_cons_succ]; rfl) (by kernel_rfl) (by kernel_rfl) (by kernel_rfl) (Or.inl ⟨by rfl, ?dy60⟩) ?dr60
                      case dy60 => (intro w hSw; have hS0 := hSw; (try dsimp only [OS] at hSw); go_simp; refine Came.value ?_ hS0; with_reducible rfl)
                      try simp only [Act.put, List.setIfInBounds_toArray, List.set_cons_zero, List.set_cons_succ]
                      refine wpDet_take (i := 2) (oi := _) (v := ?dv61) (by simp only [List.getElem?_toArray, List.getElem?_cons_zero, List.getElem?_cons_succ]; rfl) (by kernel_rfl) (by kernel_rfl) (by kernel_rfl) (Or.inl ⟨by rfl, ?dy61⟩) ?dr61
                      case dy61 => (intro w hSw; have hS0 := hSw; (try dsimp only [OS] at hSw); go_simp; refine Came.value ?_ hS0; with_reducible rfl)
                      try simp only [Act.put, List.setIfInBounds_toArray, List.set_cons_zero, List.set_cons_succ]
                      refine wpDet_take (i := 3) (oi := _) (v := ?dv62) (by simp only [List.getElem?_toArray, List.getElem?_cons_zero, List.getElem?_cons_succ]; rfl) (by kernel_rfl) (by kernel_rfl) (by kernel_rfl) (Or.inl ⟨by rfl, ?dy62⟩) ?dr62
                      case dy62 => (intro w hSw; have hS0 := hSw; (try dsimp only [OS] at hSw); go_simp; refine Came.value ?_ hS0; with_reducible rfl)
                      try simp only [Act.put, List.setIfInBounds_toArray, List.set_cons_zero, List.set_cons_succ]
                      refine wpDet_take (i := 4) (oi := _) (v := ?dv63) (by simp only [List.getElem?_toArray, List.getElem?_cons_zero, List.getElem?_cons_succ]; rfl) (by kernel_rfl) (by kernel_rfl) (by kernel_rfl) (Or.inl ⟨by rfl, ?dy63⟩) ?dr63
                      case dy63 => (intro w hSw; have hS0 := hSw; (try dsimp only [OS] at hSw); go_simp; refine Came.value ?_ hS0; with_reducible rfl)
                      try simp only [Act.put, List.setIfInBounds_toArray, List.set_cons_zero, List.set_cons_succ]
                      refine wpDet_take (i := 5) (oi := _) (v := ?dv64) (by simp only [List.getElem?_toArray, List.getElem?_cons_zero, List.getElem?_cons_succ]; rfl) (by kernel_rfl) (by kernel_rfl) (by kernel_rfl) (Or.inl ⟨by rfl, ?dy64⟩) ?dr64
                      case dy64 => (intro w hSw; have hS0 := hSw; (try dsimp only [OS] at hSw); go_simp; refine Came.value ?_ hS0; with_reducible rfl)
                      try simp only [Act.put, List.setIfInBounds_toArray, List.set_cons_zero, List.set_cons_succ]
                      refine wpDet_take (i := 6) (oi := _) (v := ?dv65) (by simp only [List.getElem?_toArray, List.getElem?_cons_zero, List.getElem?_cons_succ]; rfl) (by kernel_rfl) (by kernel_rfl) (by kernel_rfl) (Or.inl ⟨by rfl, ?dy65⟩) ?dr65
                      case dy65 => (intro w hSw; have hS0 := hSw; (try dsimp only [OS] at hSw); go_simp; refine Came.value ?_ hS0; with_reducible rfl)
                      try simp only [Act.put, List.setIfInBounds_toArray, List.set_cons_zero, List.set_cons_succ]
                      refine wpDet_take (i := 7) (oi := _) (v := ?dv66) (by simp only [List.getElem?_toArray, List.getElem?_cons_zero, List.getElem?_cons_succ]; rfl) (by kernel_rfl) (by kernel_rfl) (by kernel_rfl) (Or.inl ⟨by rfl, ?dy66⟩) ?dr66
                      case dy66 => (intro w hSw; go_simp; exact Came.call ((HRL.out w).mono fun e w' ⟨he, hf⟩ => ⟨he, hSw.fr hf⟩) (by with_reducible rfl))
                      try simp only [Act.put, List.setIfInBounds_toArray, List.set_cons_zero, List.set_cons_succ]
                      refine wpDet_take (i := 8) (oi := _) (v := ?dv67) (by simp only [List.getElem?_toArray, List.getElem?_cons_zero, List.getElem?_cons_succ]; rfl) (by kernel_rfl) (by kernel_rfl) (by kernel_rfl) (Or.inl ⟨by rfl, ?dy67⟩) ?dr67
                      case dy67 => (intro w hSw; have hS0 := hSw; (try dsimp only [OS] at hSw); go_simp; refine Came.value ?_ hS0; with_reducible rfl)
                      try simp only [Act.put, List.setIfInBounds_toArray, List.set_cons_zero, List.set_cons_succ]
                      refine wpDet_take (i := 9) (oi := _) (v := undef) (by simp only [List.getElem?_toArray, List.getElem?_cons_zero, List.getElem?_cons_succ]; rfl) (by kernel_rfl) (by kernel_rfl) (by kernel_rfl) (Or.inr ⟨by rfl, rfl⟩) ?_
                      try simp only [Act.put, List.setIfInBounds_toArray, List.set_cons_zero, List.set_cons_succ]
                      refine wpDet_take (i := 10) (oi := _) (v := undef) (by simp only [List.getElem?_toArray, List.getElem?_cons_zero, List.getElem?_cons_succ]; rfl) (by kernel_rfl) (by kernel_rfl) (by kernel_rfl) (Or.inr ⟨by rfl, rfl⟩) ?_
                      try simp only [Act.put, List.setIfInBounds_toArray, List.set_cons_zero, List.set_cons_succ]
                      refine wpDet_take (i := 11) (oi := _) (v := undef) (by simp only [List.getElem?_toArray, List.getElem?_cons_zero, List.getElem?_cons_succ]; rfl) (by kernel_rfl) (by kernel_rfl) (by kernel_rfl) (Or.inr ⟨by rfl, rfl⟩) ?_
                      try simp only [Act.put, List.setIfInBounds_toArray, List.set_cons_zero, List.set_cons_succ]
                      refine wpDet_take (i := 12) (oi := _) (v := undef) (by simp only [List.getElem?_toArray, List.getElem?_cons_zero, List.getElem?_cons_succ]; rfl) (by kernel_rfl) (by kernel_rfl) (by kernel_rfl) (Or.inr ⟨by rfl, rfl⟩) ?_
                      try simp only [Act.put, List.setIfInBounds_toArray, List.set_cons_zero, List.set_cons_succ]
                      refine wpDet_take (i := 13) (oi := _) (v := undef) (by simp only [List.getElem?_toArray, List.getElem?_cons_zero, List.getElem?_cons_succ]; rfl) (by kernel_rfl) (by kernel_rfl) (by kernel_rfl) (Or.inr ⟨by rfl, rfl⟩) ?_
                      try simp only [Act.put, List.setIfInBounds_toArray, List.set_cons_zero, List.set_cons_succ]
                      refine wpDet_take (i := 14) (oi := _) (v := undef) (by simp only [List.getElem?_toArray, List.getElem?_cons_zero, List.getElem?_cons_succ]; rfl) (by kernel_rfl) (by kernel_rfl) (by kernel_rfl) (Or.inr ⟨by rfl, rfl⟩) ?_
                      try simp only [Act.put, List.setIfInBounds_toArray, List.set_cons_zero, List.set_cons_succ]
                      refine wpDet_take (i := 15) (oi := _) (v := undef) (by simp only [List.getElem?_toArray, List.getElem?_cons_zero, List.getElem?_cons_succ]; rfl) (by kernel_rfl) (by kernel_rfl) (by kernel_rfl) (Or.inr ⟨by rfl, rfl⟩) ?_
                      try simp only [Act.put, List.setIfInBounds_toArray, List.set_cons_zero, List.set_cons_succ]
                      refine wpDet_take (i := 16) (oi := _) (v := undef) (by simp only [List.getElem?_toArray, List.getElem?_cons_zero, List.getElem?_cons_succ]; rfl) (by kernel_rfl) (by kernel_rfl) (by kernel_rfl) (Or.inr ⟨by rfl, rfl⟩) ?_
                      try simp only [Act.put, List.setIfInBounds_toArray, List.set_cons_zero, List.set_cons_succ]
                      refine wpDet_take (i := 17) (oi := _) (v := undef) (by simp only [List.getElem?_toArray, List.getElem?_cons_zero, List.getElem?_cons_succ]; rfl) (by kernel_rfl) (by kernel_rfl) (by kernel_rfl) (Or.inr ⟨by rfl, rfl⟩) ?_
                      try simp only [Act.put, List.setIfInBounds_toArray, List.set_cons_zero, List.set_cons_succ]
                      refine wpDet_take (i := 18) (oi := _) (v := undef) (by simp only [List.getElem?_toArray, List.getElem?_cons_zero, List.getElem?_cons_succ]; rfl) (by kernel_rfl) (by kernel_rfl) (by kernel_rfl) (Or.inr ⟨by rfl, rfl⟩) ?_
                      try simp only [Act.put, List.setIfInBounds_toArray, List.set_cons_zero, List.set_cons_succ]
                      refine wpDet_take (i := 19) (oi := _) (v := undef) (by simp only [List.getElem?_toArray, List.getElem?_cons_zero, List.getElem?_cons_succ]; rfl) (by kernel_rfl) (by kernel_rfl) (by kernel_rfl) (Or.inr ⟨by rfl, rfl⟩) ?_
                      try simp only [Act.put, List.setIfInBounds_toArray, List.set_cons_zero, List.set_cons_succ]
                      refine wpDet_take (i := 20) (oi := _) (v := undef) (by simp only [List.getElem?_toArray, List.getElem?_cons_zero, List.getElem?_cons_succ]; rfl) (by kernel_rfl) (by kernel_rfl) (by kernel_rfl) (Or.inr ⟨by rfl, rfl⟩) ?_
                      try simp only [Act.put, List.setIfInBounds_toArray, List.set_cons_zero, List.set_cons_succ]
                      refine wpDet_take (i := 21) (oi := _) (v := undef) (by simp only [List.getElem?_toArray, List.getElem?_cons_zero, List.getElem?_cons_succ]; rfl) (by kernel_rfl) (by kernel_rfl) (by kernel_rfl) (Or.inr ⟨by rfl, rfl⟩) ?_
                      try simp only [Act.put, List.setIfInBounds_toArray, List.set_cons_zero, List.set_cons_succ]
                      refine wpDet_take (i := 22) (oi := _) (v := undef) (by simp only [List.getElem?_toArray, List.getElem?_cons_zero, List.getElem?_cons_succ]; rfl) (by kernel_rfl) (by kernel_rfl) (by kernel_rfl) (Or.inr ⟨by rfl, rfl⟩) ?_
                      try simp only [Act.put, List.setIfInBounds_toArray, List.set_cons_zero, List.set_cons_succ]
                      refine wpDet_take (i := 23) (oi := _) (v := undef) (by simp only [List.getElem?_toArray, List.getElem?_cons_zero, List.getElem?_cons_succ]; rfl) (by kernel_rfl) (by kernel_rfl) (by kernel_rfl) (Or.inr ⟨by rfl, rfl⟩) ?_
                      try simp only [Act.put, List.setIfInBounds_toArray, List.set_cons_zero, List.set_cons_succ]
                      refine wpDet_take (i := 24) (oi := _) (v := undef) (by simp only [List.getElem?_toArray, List.getElem?_cons_zero, List.getElem?_cons_succ]; rfl) (by kernel_rfl) (by kernel_rfl) (by kernel_rfl) (Or.inr ⟨by rfl, rfl⟩) ?_
                      try simp only [Act.put, List.setIfInBounds_toArray, List.set_cons_zero, List.set_cons_succ]
                      refine wpDet_take (i := 25) (oi := _) (v := undef) (by simp only [List.getElem?_toArray, List.getElem?_cons_zero, List.getElem?_cons_succ]; rfl) (by kernel_rfl) (by kernel_rfl) (by kernel_rfl) (Or.inr ⟨by rfl, rfl⟩) ?_
                      try simp only [Act.put, List.setIfInBounds_toArray, List.set_cons_zero, List.set_cons_succ]
                      refine wpDet_take (i := 26) (oi := _) (v := undef) (by simp only [List.getElem?_toArray, List.getElem?_cons_zero, List.getElem?_cons_succ]; rfl) (by kernel_rfl) (by kernel_rfl) (by kernel_rfl) (Or.inr ⟨by rfl, rfl⟩) ?_
                      try simp only [Act.put, List.setIfInBounds_toArray, List.set_cons_zero, List.set_cons_succ]
                      refine wpDet_take (i := 27) (oi := _) (v := ?dv86) (by simp only [List.getElem?_toArray, List.getElem?_cons_zero, List.getElem?_cons_succ]; rfl) (by kernel_rfl) (by kernel_rfl) (by kernel_rfl) (Or.inl ⟨by rfl, ?dy86⟩) ?dr86
                      case dy86 => (intro w hSw; have hS0 := hSw; (try dsimp only [OS] at hSw); go_simp; refine Came.value ?_ hS0; with_reducible rfl)
                      try simp only [Act.put, List.setIfInBounds_toArray, List.set_cons_zero, List.set_cons_succ]
                      refine wpDet_take (i := 28) (oi := _) (v := ?dv87) (by simp only [List.getElem?_toArray, List.getElem?_cons_zero, List.getElem?_cons_succ]; rfl) (by kernel_rfl) (by kernel_rfl) (by kernel_rfl) (Or.inl ⟨by rfl, ?dy87⟩) ?dr87
                      case dy87 => (intro w hSw; have hS0 := hSw; (try dsimp only [OS] at hSw); go_simp; refine Came.value ?_ hS0; with_reducible rfl)
                      try simp only [Act.put, List.setIfInBounds_toArray, List.set_cons_zero, List.set_cons_succ]
                      refine wpDet_done (by kernel_rfl) ?_ _
                      rintro w5 ⟨hf5, ⟨q0, q1, q2, q3, q4⟩, _⟩
                      have F5 := Lib.hid hf5
                      clear hf5
                      go_wp2_with fail
                      refine (would_any w1.heap.size _ cr cr ⟨tc, tf, th, tms⟩ _ _ _ (G3.out.keep F5.out) (HTM.out.keep (F3.out.trans F5.out)) (slice_sl _ _ _) false HTL.out).mono ?_
                      rintro e w6 ⟨rfl, hf⟩
                      have F6 := Lib.hid (F5.out.trans hf)
                      clear hf
                      go_wp2
                      go_roundw
                      case rel => exact ⟨jj + 1, by omega, by go_num, F6.out⟩
                      case measure => simp [intOf]; omega
                    · have hrl := ep_rless tc tf c f
                      rw [hlate] at hrl
                      have HRL := Lib.hid hrl
                      have hsm := ep_same tc tf c f
                      rw [decide_eq_true (And.intro hq1 hq2)] at hsm
                      have HSM := Lib.hid hsm
                      have hd : decide (th < h) = true := by simp [hq3]
                      clear hrl hlate hsm hq1 hq2 hq3
                      go_wp2
                      refine wp_region_det (S := OS w3 wr.heap.size b1 (o1 + k * 5) ⟨tc, tf, th, tms⟩ ⟨c, f, h, ms⟩ (.slice tam tnm tcm) (.slice tae tne tce)) (by kernel_rfl) HS.out ?_
                      refine wpDet_take (i := 0) (oi := _) (v := ?dv88) (by simp only [List.getElem?_toArray, List.getElem?_cons_zero]; rfl) (by kernel_rfl) (by kernel_rfl) (by kernel_rfl) (Or.inl ⟨by rfl, ?dy88⟩) ?dr88
                      case dy88 => (intro w hSw; have hS0 := hSw; (try dsimp only [OS] at hSw); go_simp; refine Came.value ?_ hS0; with_reducible rfl)
                      try simp only [Act.put, List.setIfInBounds_toArray, List.set_cons_zero, List.set_cons_succ]
                      refine wpDet_take (i := 1) (oi := _) (v := ?dv89) (by simp only [List.getElem?_toArray, List.getElem?_cons_zero, List.getElem?_cons_succ]; rfl) (by kernel_rfl) (by kernel_rfl) (by kernel_rfl) (Or.inl ⟨by rfl, ?dy89⟩) ?dr89
                      case dy89 => (intro w hSw; have hS0 := hSw; (try dsimp only [OS] at hSw); go_simp; refine Came.value ?_ hS0; with_reducible rfl)
                      try simp only [Act.put, List.setIfInBounds_toArray, List.set_cons_zero, List.set_cons_succ]
                      refine wpDet_take (i := 2) (oi := _) (v := ?dv90) (by simp only [List.getElem?_toArray, List.getElem?_cons_zero, List.getElem?_cons_succ]; rfl) (by kernel_rfl) (by kernel_rfl) (by kernel_rfl) (Or.inl ⟨by rfl, ?dy90⟩) ?dr90
                      case dy90 => (intro w hSw; have hS0 := hSw; (try dsimp only [OS] at hSw); go_simp; refine Came.value ?_ hS0; with_reducible rfl)
                      try simp only [Act.put, List.setIfInBounds_toArray, List.set_cons_zero, List.set_cons_succ]
                      refine wpDet_take (i := 3) (oi := _) (v := ?dv91) (by simp only [List.getElem?_toArray, List.getElem?_cons_zero, List.getElem?_cons_succ]; rfl) (by kernel_rfl) (by kernel_rfl) (by kernel_rfl) (Or.inl ⟨by rfl, ?dy91⟩) ?dr91
                      case dy91 => (intro w hSw; have hS0 := hSw; (try dsimp only [OS] at hSw); go_simp; refine Came.value ?_ hS0; with_reducible rfl)
                      try simp only [Act.put, List.setIfInBounds_toArray, List.set_cons_zero, List.set_cons_succ]
                      refine wpDet_take (i := 4) (oi := _) (v := ?dv92) (by simp only [List.getElem?_toArray, List.getElem?_cons_zero, List.getElem?_cons_succ]; rfl) (by kernel_rfl) (by kernel_rfl) (by kernel_rfl) (Or.inl ⟨by rfl, ?dy92⟩) ?dr92
                      case dy92 => (intro w hSw; have hS0 := hSw; (try dsimp only [OS] at hSw); go_simp; refine Came.value ?_ hS0; with_reducible rfl)
                      try simp only [Act.put, List.setIfInBounds_toArray, List.set_cons_zero, List.set_cons_succ]
                      refine wpDet_take (i := 5) (oi := _) (v := ?dv93) (by simp only [List.getElem?_toArray, List.getElem?_cons_zero, List.getElem?_cons_succ]; rfl) (by kernel_rfl) (by kernel_rfl) (by kernel_rfl) (Or.inl ⟨by rfl, ?dy93⟩) ?dr93
                      case dy93 => (intro w hSw; have hS0 := hSw; (try dsimp only [OS] at hSw); go_simp; refine Came.value ?_ hS0; with_reducible rfl)
                      try simp only [Act.put, List.setIfInBounds_toArray, List.set_cons_zero, List.set_cons_succ]
                      refine wpDet_take (i := 6) (oi := _) (v := ?dv94) (by simp only [List.getElem?_toArray, List.getElem?_cons_zero, List.getElem?_cons_succ]; rfl) (by kernel_rfl) (by kernel_rfl) (by kernel_rfl) (Or.inl ⟨by rfl, ?dy94⟩) ?dr94
                      case dy94 => (intro w hSw; have hS0 := hSw; (try dsimp only [OS] at hSw); go_simp; refine Came.value ?_ hS0; with_reducible rfl)
                      try simp only [Act.put, List.setIfInBounds_toArray, List.set_cons_zero, List.set_cons_succ]
                      refine wpDet_take (i := 7) (oi := _) (v := ?dv95) (by simp only [List.getElem?_toArray, List.getElem?_cons_zero, List.getElem?_cons_succ]; rfl) (by kernel_rfl) (by kernel_rfl) (by kernel_rfl) (Or.inl ⟨by rfl, ?dy95⟩) ?dr95
                      case dy95 => (intro w hSw; go_simp; exact Came.call ((HRL.out w).mono fun e w' ⟨he, hf⟩ => ⟨he, hSw.fr hf⟩) (by with_reducible rfl))
                      try simp only [Act.put, List.setIfInBounds_toArray, List.set_cons_zero, List.set_cons_succ]
                      refine wpDet_take (i := 8) (oi := _) (v := ?dv96) (by simp only [List.getElem?_toArray, List.getElem?_cons_zero, List.getElem?_cons_succ]; rfl) (by kernel_rfl) (by kernel_rfl) (by kernel_rfl) (Or.inl ⟨by rfl, ?dy96⟩) ?dr96
                      case dy96 => (intro w hSw; have hS0 := hSw; (try dsimp only [OS] at hSw); go_simp; refine Came.value ?_ hS0; with_reducible rfl)
                      try simp only [Act.put, List.setIfInBounds_toArray, List.set_cons_zero, List.set_cons_succ]
                      refine wpDet_take (i := 9) (oi := _) (v := ?dv97) (by simp only [List.getElem?_toArray, List.getElem?_cons_zero, List.getElem?_cons_succ]; rfl) (by kernel_rfl) (by kernel_rfl) (by kernel_rfl) (Or.inl ⟨by rfl, ?dy97⟩) ?dr97
                      case dy97 => (intro w hSw; have hS0 := hSw; (try dsimp only [OS] at hSw); go_simp; refine Came.value ?_ hS0; with_reducible rfl)
                      try simp only [Act.put, List.setIfInBounds_toArray, List.set_cons_zero, List.set_cons_succ]
                      refine wpDet_take (i := 10) (oi := _) (v := ?dv98) (by simp only [List.getElem?_toArray, List.getElem?_cons_zero, List.getElem?_cons_succ]; rfl) (by kernel_rfl) (by kernel_rfl) (by kernel_rfl) (Or.inl ⟨by rfl, ?dy98⟩) ?dr98
                      case dy98 => (intro w hSw; have hS0 := hSw; (try dsimp only [OS] at hSw); go_simp; refine Came.value ?_ hS0; with_reducible rfl)
                      try simp only [Act.put, List.setIfInBounds_toArray, List.set_cons_zero, List.set_cons_succ]
                      refine wpDet_take (i := 11) (oi := _) (v := ?dv99) (by simp only [List.getElem?_toArray, List.getElem?_cons_zero, List.getElem?_cons_succ]; rfl) (by kernel_rfl) (by kernel_rfl) (by kernel_rfl) (Or.inl ⟨by rfl, ?dy99⟩) ?dr99
                      case dy99 => (intro w hSw; have hS0 := hSw; (try dsimp only [OS] at hSw); go_simp; refine Came.value ?_ hS0; with_reducible rfl)
                      try simp only [Act.put, List.setIfInBounds_toArray, List.set_cons_zero, List.set_cons_succ]
                      refine wpDet_take (i := 12) (oi := _) (v := ?dv100) (by simp only [List.getElem?_toArray, List.getElem?_cons_zero, List.getElem?_cons_succ]; rfl) (by kernel_rfl) (by kernel_rfl) (by kernel_rfl) (Or.inl ⟨by rfl, ?dy100⟩) ?dr100
                      case dy100 => (intro w hSw; have hS0 := hSw; (try dsimp only [OS] at hSw); go_simp; refine Came.value ?_ hS0; with_reducible rfl)
                      try simp only [Act.put, List.setIfInBounds_toArray, List.set_cons_zero, List.set_cons_succ]
                      refine wpDet_take (i := 13) (oi := _) (v := ?dv101) (by simp only [List.getElem?_toArray, List.getElem?_cons_zero, List.getElem?_cons_succ]; rfl) (by kernel_rfl) (by kernel_rfl) (by kernel_rfl) (Or.inl ⟨by rfl, ?dy101⟩) ?dr101
                      case dy101 => (intro w hSw; have hS0 := hSw; (try dsimp only [OS] at hSw); go_simp; refine Came.value ?_ hS0; with_reducible rfl)
                      try simp only [Act.put, List.setIfInBounds_toArray, List.set_cons_zero, List.set_cons_succ]
                      refine wpDet_take (i := 14) (oi := _) (v := ?dv102) (by simp only [List.getElem?_toArray, List.getElem?_cons_zero, List.getElem?_cons_succ]; rfl) (by kernel_rfl) (by kernel_rfl) (by kernel_rfl) (Or.inl ⟨by rfl, ?dy102⟩) ?dr102
                      case dy102 => (intro w hSw; have hS0 := hSw; (try dsimp only [OS] at hSw); go_simp; refine Came.value ?_ hS0; with_reducible rfl)
                      try simp only [Act.put, List.setIfInBounds_toArray, List.set_cons_zero, List.set_cons_succ]
                      refine wpDet_take (i := 15) (oi := _) (v := ?dv103) (by simp only [List.getElem?_toArray, List.getElem?_cons_zero, List.getElem?_cons_succ]; rfl) (by kernel_rfl) (by kernel_rfl) (by kernel_rfl) (Or.inl ⟨by rfl, ?dy103⟩) ?dr103
                      case dy103 => (intro w hSw; have hS0 := hSw; (try dsimp only [OS] at hSw); go_simp; refine Came.value ?_ hS0; with_reducible rfl)
                      try simp only [Act.put, List.setIfInBounds_toArray, List.set_cons_zero, List.set_cons_succ]
                      refine wpDet_take (i := 16) (oi := _) (v := ?dv104) (by simp only [List.getElem?_toArray, List.getElem?_cons_zero, List.getElem?_cons_succ]; rfl) (by kernel_rfl) (by kernel_rfl) (by kernel_rfl) (Or.inl ⟨by rfl, ?dy104⟩) ?dr104
                      case dy104 => (intro w hSw; go_simp; exact Came.call ((HSM.out w).mono fun e w' ⟨he, hf⟩ => ⟨he, hSw.fr hf⟩) (by with_reducible rfl))
                      try simp only [Act.put, List.setIfInBounds_toArray, List.set_cons_zero, List.set_cons_succ]
                      refine wpDet_take (i := 17) (oi := _) (v := ?dv105) (by simp only [List.getElem?_toArray, List.getElem?_cons_zero, List.getElem?_cons_succ]; rfl) (by kernel_rfl) (by kernel_rfl) (by kernel_rfl) (Or.inl ⟨by rfl, ?dy105⟩) ?dr105
                      case dy105 => (intro w hSw; have hS0 := hSw; (try dsimp only [OS] at hSw); go_simp; refine Came.value ?_ hS0; with_reducible rfl)
                      try simp only [Act.put, List.setIfInBounds_toArray, List.set_cons_zero, List.set_cons_succ]
                      refine wpDet_take (i := 18) (oi := _) (v := ?dv106) (by simp only [List.getElem?_toArray, List.getElem?_cons_zero, List.getElem?_cons_succ]; rfl) (by kernel_rfl) (by kernel_rfl) (by kernel_rfl) (Or.inl ⟨by rfl, ?dy106⟩) ?dr106
                      case dy106 => (intro w hSw; have hS0 := hSw; (try dsimp only [OS] at hSw); go_simp; refine Came.value ?_ hS0; with_reducible rfl)
                      try simp only [Act.put, List.setIfInBounds_toArray, List.set_cons_zero, List.set_cons_succ]
                      refine wpDet_take (i := 19) (oi := _) (v := ?dv107) (by simp only [List.getElem?_toArray, List.getElem?_cons_zero, List.getElem?_cons_succ]; rfl) (by kernel_rfl) (by kernel_rfl) (by kernel_rfl) (Or.inl ⟨by rfl, ?dy107⟩) ?dr107
                      case dy107 => (intro w hSw; have hS0 := hSw; (try dsimp only [OS] at hSw); go_simp; refine Came.value ?_ hS0; with_reducible rfl)
                      try simp only [Act.put, List.setIfInBounds_toArray, List.set_cons_zero, List.set_cons_succ]
                      refine wpDet_take (i := 20) (oi := _) (v := ?dv108) (by simp only [List.getElem?_toArray, List.getElem?_cons_zero, List.getElem?_cons_succ]; rfl) (by kernel_rfl) (by kernel_rfl) (by kernel_rfl) (Or.inl ⟨by rfl, ?dy108⟩) ?dr108
                      case dy108 => (intro w hSw; have hS0 := hSw; (try dsimp only [OS] at hSw); go_simp; refine Came.value ?_ hS0; with_reducible rfl)
                      try simp only [Act.put, List.setIfInBounds_toArray, List.set_cons_zero, List.set_cons_succ]
                      refine wpDet_take (i := 21) (oi := _) (v := ?dv109) (by simp only [List.getElem?_toArray, List.getElem?_cons_zero, List.getElem?_cons_succ]; rfl) (by kernel_rfl) (by kernel_rfl) (by kernel_rfl) (Or.inl ⟨by rfl, ?dy109⟩) ?dr109
                      case dy109 => (intro w hSw; have hS0 := hSw; (try dsimp only [OS] at hSw); go_simp; refine Came.value ?_ hS0; with_reducible rfl)
                      try simp only [Act.put, List.setIfInBounds_toArray, List.set_cons_zero, List.set_cons_succ]
                      refine wpDet_take (i := 22) (oi := _) (v := ?dv110) (by simp only [List.getElem?_toArray, List.getElem?_cons_zero, List.getElem?_cons_succ]; rfl) (by kernel_rfl) (by kernel_rfl) (by kernel_rfl) (Or.inl ⟨by rfl, ?dy110⟩) ?dr110
                      case dy110 => (intro w hSw; have hS0 := hSw; (try dsimp only [OS] at hSw); go_simp; refine Came.value ?_ hS0; with_reducible rfl)
                      try simp only [Act.put, List.setIfInBounds_toArray, List.set_cons_zero, List.set_cons_succ]
                      refine wpDet_take (i := 23) (oi := _) (v := ?dv111) (by simp only [List.getElem?_toArray, List.getElem?_cons_zero, List.getElem?_cons_succ]; rfl) (by kernel_rfl) (by kernel_rfl) (by kernel_rfl) (Or.inl ⟨by rfl, ?dy111⟩) ?dr111
                      case dy111 => (intro w hSw; have hS0 := hSw; (try dsimp only [OS] at hSw); go_simp; refine Came.value ?_ hS0; with_reducible rfl)
                      try simp only [Act.put, List.setIfInBounds_toArray, List.set_cons_zero, List.set_cons_succ]
                      refine wpDet_take (i := 24) (oi := _) (v := ?dv112) (by simp only [List.getElem?_toArray, List.getElem?_cons_zero, List.getElem?_cons_succ]; rfl) (by kernel_rfl) (by kernel_rfl) (by kernel_rfl) (Or.inl ⟨by rfl, ?dy112⟩) ?dr112
                      case dy112 => (intro w hSw; have hS0 := hSw; (try dsimp only [OS] at hSw); go_simp; refine Came.value ?_ hS0; with_reducible rfl)
                      try simp only [Act.put, List.setIfInBounds_toArray, List.set_cons_zero, List.set_cons_succ]
                      refine wpDet_take (i := 25) (oi := _) (v := ?dv113) (by simp only [List.getElem?_toArray, List.getElem?_cons_zero, List.getElem?_cons_succ]; rfl) (by kernel_rfl) (by kernel_rfl) (by kernel_rfl) (Or.inl ⟨by rfl, ?dy113⟩) ?dr113
                      case dy113 => (intro w hSw; have hS0 := hSw; (try dsimp only [OS] at hSw); go_simp; refine Came.value ?_ hS0; with_reducible rfl)
                      try simp only [Act.put, List.setIfInBounds_toArray, List.set_cons_zero, List.set_cons_succ]
                      refine wpDet_take (i := 26) (oi := _) (v := ?dv114) (by simp only [List.getElem?_toArray, List.getElem?_cons_zero, List.getElem?_cons_succ]; rfl) (by kernel_rfl) (by kernel_rfl) (by kernel_rfl) (Or.inl ⟨by rfl, ?dy114⟩) ?dr114
                      case dy114 => (intro w hSw; have hS0 := hSw; (try dsimp only [OS] at hSw); go_simp; refine Came.value ?_ hS0; with_reducible rfl)
                      try simp only [Act.put, List.setIfInBounds_toArray, List.set_cons_zero, List.set_cons_succ]
                      refine wpDet_take (i := 27) (oi := _) (v := ?dv115) (by simp only [List.getElem?_toArray, List.getElem?_cons_zero, List.getElem?_cons_succ]; rfl) (by kernel_rfl) (by kernel_rfl) (by kernel_rfl) (Or.inl ⟨by rfl, ?dy115⟩) ?dr115
                      case dy115 => (intro w hSw; have hS0 := hSw; (try dsimp only [OS] at hSw); go_simp; refine Came.value ?_ hS0; with_reducible rfl)
                      try simp only [Act.put, List.setIfInBounds_toArray, List.set_cons_zero, List.set_cons_succ]
                      refine wpDet_take (i := 28) (oi := _) (v := ?dv116) (by simp only [List.getElem?_toArray, List.getElem?_cons_zero, List.getElem?_cons_succ]; rfl) (by kernel_rfl) (by kernel_rfl) (by kernel_rfl) (Or.inl ⟨by rfl, ?dy116⟩) ?dr116
                      case dy116 => (intro w hSw; have hS0 := hSw; (try dsimp only [OS] at hSw); go_simp; refine Came.value ?_ hS0; with_reducible rfl)
                      try simp only [Act.put, List.setIfInBounds_toArray, List.set_cons_zero, List.set_cons_succ]
                      refine wpDet_done (by kernel_rfl) ?_ _
                      rintro w5 ⟨hf5, ⟨q0, q1, q2, q3, q4⟩, _⟩
                      have F5 := Lib.hid hf5
                      clear hf5
                      go_wp2_with fail
                      refine (would_any w1.heap.size _ cr cr ⟨tc, tf, th, tms⟩ _ _ _ (G3.out.keep F5.out) (HTM.out.keep (F3.out.trans F5.out)) (slice_sl _ _ _) false HTL.out).mono ?_
                      rintro e w6 ⟨rfl, hf⟩
                      have F6 := Lib.hid (F5.out.trans hf)
                      clear hf
                      go_wp2
                      go_roundw
                      case rel => exact ⟨jj + 1, by omega, by go_num, F6.out⟩
                      case measure => simp [intOf]; omega
                  · obtain rfl : jj = T.length := by omega
                    have HWA := Lib.hid (would_again s ⟨c, f, h, ms⟩ ⟨c, f, h, ms⟩ cr cr (low_self s _))
                    go_wp2_with fail
                    refine (would_any w1.heap.size _ cr cr ⟨c, f, h, ms⟩ _ _ _ G4.out (HM.out.keep F4.out) (slice_sl _ _ _) false HWA.out).mono ?_
                    rintro e w5 ⟨rfl, hf⟩
                    have G5 := Lib.hid (G4.out.keep hf)
                    have O5 := Lib.hid (show OwnR _ _ _ _ from row_keep O4.out hf)
                    have F5 := Lib.hid (F4.out.trans hf)
                    have hsz := F5.out.size
                    replace k0 := hf.cell k0 (by simp)
                    replace k1 := hf.cell k1 (by simp)
                    replace k2 := hf.cell k2 (by simp)
                    replace k3 := hf.cell k3 (by simp)
                    replace k4 := hf.cell k4 (by simp)
                    clear hf
                    go_wp2_with fail
                    refine (HAM.out _ F5.out).mono ?_
                    rintro e w' ⟨rfl, hw⟩
                    obtain rfl : w5 = w' := hw.symm
                    clear hw
                    go_wp2_with (at_builtin; refine wpList_append_own _ rfl _ _ 49 rfl w.heap.size 29 i0 (.agg #[.int .i64 0, .int .i64 0, .int .i64 0, .slice none 0 0, .slice none 0 0]) 5 72 Try.underlying49 hi hz0 hz1 hz2 rfl (by decide) _ _ _ rfl (World.ownsRow.alloc O5.out _) ⟨w5.heap.size, 0, none⟩ 1 1 (RV.cl ⟨⟨c, f, h, ms⟩, .slice am nm cm, .slice ae ne ce⟩) rfl rfl (World.news_of_block (cs := #[.int .i64 c, .int .i64 f, .int .i64 h, .slice am nm cm, .slice ae ne ce]) (t := 29) (fr := (0, 0)) (heap_alloc_new _ _)) (RV.one w _ HOK.out) (by unfold maxLen; omega) (by omega) (by simp; omega) ?_; intro v' w6 hown hgrow _)
                    have O6 := Lib.hid (show OwnR w6 w.heap.size v' (T ++ [⟨⟨c, f, h, ms⟩, .slice am nm cm, .slice ae ne ce⟩]) by unfold OwnR; rw [rvC_snoc, List.length_append]; exact hown)
                    have G6 := Lib.hid (show Gt w6 w1.heap.size (s.tk ⟨c, f, h, ms⟩) from row_far hgrow (World.ownsRow.alloc O5.out _) (G5.out.keep (Fr.alloc w5 _ [])) (by decide))
                    have F6 := Lib.hid ((F5.out.trans (Fr.alloc w5 _ [])).grown_own hgrow (fun r hr => .inr (World.ownsRow.lt O5.out r hr).1))
                    clear hown hgrow
                    go_wp2
                    go_roundw
                    case rel =>
                      refine ⟨k + 1, _, s.tk ⟨c, f, h, ms⟩, by omega, by go_num, O6.out, by simp; omega, ?_, hfl, G6.out, F6.out⟩
                      intro x hx
                      rcases List.mem_append.1 hx with hx | hx
                      · exact ⟨(LO.out x hx).1, low_take HWD.out (LO.out x hx).2⟩
                      · obtain rfl := List.mem_singleton.1 hx
                        exact ⟨HOK.out, low_self s _⟩
                    case measure => simp [intOf]; omega
          · have he' : ((ne : Int) > 4) := by omega
            go_wp2
            go_ret
            exact ⟨rfl, F0.out.grown (by simp)⟩
        · have hn' : ((nm : Int) > 20) := by omega
          go_wp2
          go_ret
          exact ⟨rfl, F0.out.grown (by simp)⟩
      · obtain rfl : k = l.length := by omega
        go_wp2
        go_ret
        exact ⟨rfl, F0.out.grown (by simp)⟩
  · have hl' : ((l.length : Int) > 40) := by omega
    go_enter Try.func5, Try.ntmps5
    go_wp2_with fail
    refine (first_any _).mono ?_
    rintro e w1 ⟨rfl, hf⟩
    go_wp2
    go_ret
    exact ⟨rfl, hf.grown (by simp)⟩
end Go.Proofs.Ytlkpgpiklfbacaa
