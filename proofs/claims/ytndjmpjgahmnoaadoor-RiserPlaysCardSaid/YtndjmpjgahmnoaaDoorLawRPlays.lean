/- The law of plays: whatever is pressed, and cleared: what is lit, for the how manieth time, each answer, are what the chapter says; a copy goes its own way: its walk. -/
import Derived.Test.YtndjmpjgahmnoaaDoorRDoc4
import Derived.Test.YtndjmpjgahmnoaaDoorROpen
import Derived.Test.YtndjmpjgahmnoaaDoorRSee3
import Derived.Deep.DeepCutAuto
import Derived.Deep.CutBlock
import Derived.Deep.RegionHeld3
namespace Go.Proofs.YtndjmpjgahmnoaaDoor
open Go.RowKit

theorem row4 {w : World} {g : Nat} {a b c d : Value} {T : TypeId} (h : w.heap[g]? = some (.cells #[a, b, c, d] T (0, 0))) :
    w.cell? ⟨g, 0, none⟩ = some a ∧ w.cell? ⟨g, 1, none⟩ = some b ∧ w.cell? ⟨g, 2, none⟩ = some c ∧ w.cell? ⟨g, 3, none⟩ = some d :=
  ⟨by rw [cell_of_row w g 0 _ _ _ h]; rfl, by rw [cell_of_row w g 1 _ _ _ h]; rfl, by rw [cell_of_row w g 2 _ _ _ h]; rfl, by rw [cell_of_row w g 3 _ _ _ h]; rfl⟩
/-- Both risers. -/
structure BR (w : World) (p q : Nat) (s : RS) (m : Nat) : Prop where
  r : Rs w p s
  x : Rd w q s
  ok : s.ok
  g : ∀ k, 0 ≤ s.G k ∧ s.G k ≤ m
theorem BR.keep {w w' : World} {p q : Nat} {s : RS} {m : Nat} (h : BR w p q s m) (hf : Fr w w' []) : BR w' p q s m := ⟨h.r.keep hf, h.x.keep hf, h.ok, h.g⟩
theorem BR.next {w : World} {p q : Nat} {s : RS} {m : Nat} (h : BR w p q s m) : BR w p q s (m + 1) := ⟨h.r, h.x, h.ok, fun k => by have := h.g k; omega⟩
theorem press_g {s : RS} {m : Nat} (h : ∀ k, 0 ≤ s.G k ∧ s.G k ≤ m) (k : Nat) : ∀ j, 0 ≤ (s.press k).G j ∧ (s.press k).G j ≤ ((m + 1 : Nat) : Int) := by
  intro j
  have := h j
  by_cases e : j = k
  · subst e; simp [RS.press, updG]; omega
  · simp [RS.press, updG, e]; omega

/-- What stands while it is asked at the end. -/
def MS (W : World) (c : Nat) (f d : Int) (a : World) : Prop := Fr W a [] ∧ a.cell? ⟨c, 0, none⟩ = some (.int .i64 f) ∧ a.cell? ⟨c, 1, none⟩ = some (.int .i64 d)
theorem MS.fr {W : World} {c : Nat} {f d : Int} {a a' : World} (h : MS W c f d a) (k : Fr a a' []) : MS W c f d a' := ⟨h.1.trans k, k.cell h.2.1 (by simp), k.cell h.2.2 (by simp)⟩
set_option maxHeartbeats 8000000 in
set_option maxRecDepth 100000 in
theorem rplays_walk (x : Int) (v : Value) (l : List DV) (f d g : Int) (hx : (Lit.int .i64 x).wf = true) (w : World) (A : Nat → Addr) (hE : E13 w A w.heap.size) (h : HDs w v l) :
    Calls Tryd.prog 4 #[.int .i64 x, v, .agg #[.int .i64 f, .int .i64 d, .int .i64 g]] w fun e w' => e = .returned (.bool true) ∧ w.grownBy w' none := by
  obtain ⟨hx0, hx1⟩ := bounds_i64 hx
  obtain ⟨ad, cap, rfl, h1, h2, h3⟩ := h
  unfold maxLen at h2
  have HC := Lib.hid h3
  have HE := Lib.hid hE
  clear h3 hE hx
  have AB := Lib.hid (Fr.alloc w (.cells #[.int .i64 f, .int .i64 d, .int .i64 g] 32) [])
  have CB := Lib.hid (heap_alloc_new w (.cells #[.int .i64 f, .int .i64 d, .int .i64 g] 32))
  by_cases hbad : x < 2 ∨ 64 < x
  · have HB := Lib.hid hbad
    rcases (by omega : x < 2 ∨ (¬ x < 2 ∧ x > 64)) with hz | ⟨hz, hz2⟩
    all_goals
      clear hbad
      go_enter Tryd.func4, Tryd.ntmps4
      go_wp2_with fail
      refine (first_any _).mono ?_
      rintro e w1 ⟨rfl, hf⟩
      have F1 := Lib.hid (AB.out.trans hf)
      clear hf
      go_wp2_with fail
      refine (new_no x HB.out w1 A w.heap.size ((HE.out.fr F1.out (by simp)).evs [2])).mono ?_
      rintro e w2 ⟨rfl, hf⟩
      have F2 := Lib.hid (F1.out.trans hf)
      clear hf
      go_wp2_with fail
      refine (see_is A w.heap.size 3 _ _ (HE.out.fr F2.out (by simp)) (by decide) rfl).mono ?_
      rintro e w3 ⟨rfl, hg3⟩
      have F3 := Lib.hid (F2.out.trans (Fr.of_grown hg3 []))
      clear hg3
      go_wp2
      go_ret
      exact ⟨rfl, F3.out.grown (by simp)⟩
  · obtain ⟨n, rfl⟩ := Int.eq_ofNat_of_zero_le (show 0 ≤ x by omega)
    have hn2 : 2 ≤ n := by omega
    have hn64 : n ≤ 64 := by omega
    clear hbad hx0 hx1
    by_cases hl : l.length ≤ 60
    · go_enter Tryd.func4, Tryd.ntmps4
      go_wp2_with fail
      refine (first_any _).mono ?_
      rintro e w1 ⟨rfl, hf⟩
      have F1 := Lib.hid (AB.out.trans hf)
      have C1 := Lib.hid (hf.heap CB.out (by simp))
      clear hf
      go_wp2_with fail
      refine (new_yes n hn2 hn64 w1).mono ?_
      rintro e w2 ⟨rfl, hs, hf⟩
      have HP := Lib.hid (show w.heap.size < w1.heap.size from size_of_row C1.out)
      obtain ⟨p, hp⟩ : ∃ p, p = w1.heap.size := ⟨_, rfl⟩
      rw [← hp] at hs HP ⊢
      have A2 := Lib.hid (Fr.alloc w2 (.cells (zD.setIfInBounds 0 (.int .i64 (n : Int))) 51) [])
      have B3 := Lib.hid (show BR (w2.alloc (.cells (zD.setIfInBounds 0 (.int .i64 (n : Int))) 51)) p w2.heap.size (zS n) 0 from ⟨hs.keep A2.out, ⟨_, heap_alloc_new _ _, zD_set n⟩, zS_ok n hn64, fun k => by simp [zS]⟩)
      have F3 := Lib.hid ((F1.out.trans hf).trans A2.out)
      have C3 := Lib.hid (A2.out.heap (hf.heap C1.out (by simp)) (by simp))
      have HPQ := Lib.hid (show w.heap.size < p ∧ p < w2.heap.size from ⟨HP.out, hs.lt⟩)
      have hz := zeroRd
      have hne := zD_ne
      clear hs hf hp
      go_wp2
      generalize World.alloc w2 _ = w3 at *
      obtain ⟨q, hq⟩ : ∃ q, q = w2.heap.size := ⟨_, rfl⟩
      rw [← hq] at B3 HPQ ⊢
      clear hz hne hq
      go_loopw [11] (fun i wr => ∃ (k : Nat) (s : RS), k ≤ l.length ∧ i = .int .i64 k ∧ s.n = n ∧ BR wr p q s k ∧ wr.heap[w.heap.size]? = some (.cells #[.int .i64 f, .int .i64 d, .int .i64 g] 32 (0, 0)) ∧ Fr w wr []) (fun i _ => l.length - (intOf i).toNat)
      case atStart => exact ⟨0, zS n, Nat.zero_le _, rfl, rfl, B3.out, C3.out, F3.out⟩
      case round =>
        obtain ⟨k, s, hk, rfl, hsn, hb, hc, hf⟩ := hrel
        have B4 := Lib.hid hb
        have C4 := Lib.hid hc
        have F4 := Lib.hid hf
        have HSN := Lib.hid hsn
        clear hb hc hf hsn
        by_cases hlt : k < l.length
        · obtain ⟨b1, o1, rfl, hcell⟩ := HC.out (by omega)
          obtain ⟨⟨K, ⟨y, d0, g0⟩⟩, hy⟩ : ∃ y, y = l.getD k zDV := ⟨_, rfl⟩
          have hck := hcell k hlt
          rw [← hy] at hck
          obtain ⟨t0, t1, t2, t3⟩ := hck
          dsimp only at t0 t1 t2 t3
          replace t0 := F4.out.cell t0 (by simp)
          replace t1 := F4.out.cell t1 (by simp)
          replace t2 := F4.out.cell t2 (by simp)
          replace t3 := F4.out.cell t3 (by simp)
          clear hcell hy
          have D4 := Lib.hid (heap_alloc_new wr (.cells #[.int .i64 K, .int .i64 y, .int .i64 d0, .int .i64 g0] 37))
          have AD := Lib.hid (Fr.alloc wr (.cells #[.int .i64 K, .int .i64 y, .int .i64 d0, .int .i64 g0] 37) [])
          have HWR := Lib.hid (show p < wr.heap.size ∧ q < wr.heap.size ∧ w.heap.size < wr.heap.size from ⟨B4.out.r.lt, B4.out.x.lt, size_of_row C4.out⟩)
          have HN64 := Lib.hid (show s.n ≤ 64 by rw [HSN.out]; exact hn64)
          go_wp2_with fail
          refine (clone_any p s _ (B4.out.r.keep AD.out)).mono ?_
          rintro e w5 ⟨u, rfl, hu⟩
          obtain ⟨cq, hu, hcq, hc, hf⟩ : ∃ cq, u = .pointer (some ⟨cq, 0, none⟩) ∧ wr.heap.size < cq ∧ Rs w5 cq s ∧ Fr (wr.alloc (.cells #[.int .i64 K, .int .i64 y, .int .i64 d0, .int .i64 g0] 37)) w5 [] := ⟨_, hu.1, by simp, hu.2.1, hu.2.2⟩
          subst hu
          have HCQ := Lib.hid hcq
          have CL5 := Lib.hid hc
          have B5 := Lib.hid ((B4.out.keep AD.out).keep hf)
          have F5 := Lib.hid ((F4.out.trans AD.out).trans hf)
          have C5 := Lib.hid (hf.heap (AD.out.heap C4.out (by simp)) (by simp))
          have D5 := Lib.hid (hf.heap D4.out (by simp))
          clear hc hf hcq t0 t1 t2 t3
          obtain ⟨c0, hc0⟩ : ∃ c, s.lit.length = c := ⟨_, rfl⟩
          have HC0 := Lib.hid hc0
          clear hc0
          go_wp2_with fail
          refine (lit_any cq s _ CL5.out B5.out.ok).mono ?_
          rintro e w6 ⟨u, rfl, ho, hf⟩
          obtain ⟨au, cu, rfl⟩ := ho.shape
          rw [HC0.out]
          have CL6 := Lib.hid (CL5.out.keep hf)
          have B6 := Lib.hid (B5.out.keep hf)
          have F6 := Lib.hid (F5.out.trans hf)
          have C6 := Lib.hid (hf.heap C5.out (by simp))
          have D6 := Lib.hid (hf.heap D5.out (by simp))
          obtain ⟨e0, e1, e2, e3⟩ := row4 D6.out
          clear ho hf
          go_upto_if 72 with fail
          go_cut [] (fun wc => ∃ s', s'.n = n ∧ BR wc p q s' (k + 1) ∧ Rs wc cq s ∧ wc.heap[w.heap.size]? = some (.cells #[.int .i64 f, .int .i64 d, .int .i64 g] 32 (0, 0)) ∧ Fr w wc [])
          case first =>
            by_cases hk1 : K = 1
            · subst hk1
              by_cases hp : (mayB s.n y d0 && !s.L (keyN y d0)) = true
              · have hpm : mayB s.n y d0 = true := by revert hp; cases mayB s.n y d0 <;> simp
                have hpl : s.L (keyN y d0) = false := by revert hp; rw [hpm]; cases s.L (keyN y d0) <;> simp
                obtain ⟨j, hj⟩ : ∃ j, j = keyN y d0 := ⟨_, rfl⟩
                rw [← hj] at hpl
                have HK := Lib.hid (show Key s.n y d0 j by rw [hj]; exact may_key hpm)
                have HL := Lib.hid hpl
                have HG0 := Lib.hid (show 0 ≤ s.G j from (B6.out.g j).1)
                have HG1 := Lib.hid (show s.G j ≤ 1000 by have := (B6.out.g j).2; omega)
                have H1 := press_yes p s y d0 j w6 B6.out.r HN64.out HK.out HL.out HG0.out HG1.out
                have H2 := fun W hW => rpress_yes q s y d0 j W hW HN64.out HK.out HL.out HG0.out HG1.out
                obtain ⟨gg, hgg⟩ : ∃ gg, s.G j + 1 = gg := ⟨_, rfl⟩
                rw [hgg] at H1 H2
                have HH1 := Lib.hid H1
                have HH2 := Lib.hid H2
                clear hp hpm hpl hj H1 H2 hgg
                go_wp2_with fail
                refine HH1.out.mono ?_
                rintro e w7 ⟨rfl, hs, hf⟩
                have A7 := Lib.hid (Fr.alloc w7 (.cells #[.int .i64 y, .int .i64 d0, .int .i64 gg] 32) [])
                have L7 := Lib.hid (heap_alloc_new w7 (.cells #[.int .i64 y, .int .i64 d0, .int .i64 gg] 32))
                have hwr := HWR.out
                have hcq := HCQ.out
                have hpq := HPQ.out
                have S7 := Lib.hid (hs.keep A7.out)
                have X7 := Lib.hid ((B6.out.x.fr hf (by simp; omega)).keep A7.out)
                have CL7 := Lib.hid ((CL6.out.fr hf (by simp; omega)).keep A7.out)
                have F7 := Lib.hid ((F6.out.new hf (by simp; omega)).trans A7.out)
                have C7 := Lib.hid (A7.out.heap (hf.heap C6.out (by simp; omega)) (by simp))
                have D7 := Lib.hid (A7.out.heap (hf.heap D6.out (by simp; omega)) (by simp))
                have HL7 := Lib.hid (show q < w7.heap.size from (B6.out.x.fr hf (by simp; omega)).lt)
                clear hs hf e0 e1 e2 e3 hwr hcq hpq HH1
                obtain ⟨e0, e1, e2, e3⟩ := row4 D7.out
                go_wp2_with fail
                refine (HH2.out _ X7.out).mono ?_
                rintro e w8 ⟨rfl, hs, hf⟩
                have A8 := Lib.hid (Fr.alloc w8 (.cells #[.int .i64 y, .int .i64 d0, .int .i64 gg] 32) [])
                have L8' := Lib.hid (heap_alloc_new w8 (.cells #[.int .i64 y, .int .i64 d0, .int .i64 gg] 32))
                have hwr := HWR.out
                have hcq := HCQ.out
                have hpq := HPQ.out
                have B8 := Lib.hid (show BR (w8.alloc (.cells #[.int .i64 y, .int .i64 d0, .int .i64 gg] 32)) p q (s.press j) (k + 1) from ⟨(S7.out.fr hf (by simp; omega)).keep A8.out, hs.keep A8.out, B6.out.ok.press HK.out, press_g B6.out.g j⟩)
                have CL8 := Lib.hid ((CL7.out.fr hf (by simp; omega)).keep A8.out)
                have F8 := Lib.hid ((F7.out.new hf (by simp; omega)).trans A8.out)
                have C8 := Lib.hid (A8.out.heap (hf.heap C7.out (by simp; omega)) (by simp))
                have L8 := Lib.hid (A8.out.heap (hf.heap L7.out (by simp; have := HL7.out; omega)) (by simp))
                clear hs hf e0 e1 e2 e3 hwr hcq hpq HH2
                obtain ⟨r0, r1, r2⟩ := row3 L8.out
                obtain ⟨v0, v1, v2⟩ := row3 L8'.out
                go_wp2_with fail
                refine (latch_same ⟨y, d0, gg⟩ ⟨y, d0, gg⟩ _ true (by simp)).mono ?_
                rintro e w9 ⟨rfl, hf⟩
                have B9 := Lib.hid (B8.out.keep hf)
                have CL9 := Lib.hid (CL8.out.keep hf)
                have F9 := Lib.hid (F8.out.trans hf)
                have C9 := Lib.hid (hf.heap C8.out (by simp))
                clear hf r0 r1 r2 v0 v1 v2
                go_wp2_with fail
                go_meet
                exact ⟨s.press j, HSN.out, B9.out, CL9.out, C9.out, F9.out⟩
              · have hp' : (mayB s.n y d0 && !s.L (keyN y d0)) = false := by simpa using hp
                have HH1 := Lib.hid (press_no p s y d0 w6 B6.out.r HN64.out hp')
                have HH2 := Lib.hid (fun W hW => rpress_no q s y d0 W hW HN64.out hp')
                clear hp hp'
                go_wp2_with fail
                refine HH1.out.mono ?_
                rintro e w7 ⟨rfl, hf⟩
                have A7 := Lib.hid (Fr.alloc w7 (.cells #[.int .i64 0, .int .i64 0, .int .i64 0] 32) [])
                have L7 := Lib.hid (heap_alloc_new w7 (.cells #[.int .i64 0, .int .i64 0, .int .i64 0] 32))
                have B7 := Lib.hid ((B6.out.keep hf).keep A7.out)
                have CL7 := Lib.hid ((CL6.out.keep hf).keep A7.out)
                have F7 := Lib.hid ((F6.out.trans hf).trans A7.out)
                have C7 := Lib.hid (A7.out.heap (hf.heap C6.out (by simp)) (by simp))
                have D7 := Lib.hid (A7.out.heap (hf.heap D6.out (by simp)) (by simp))
                clear hf e0 e1 e2 e3 HH1
                obtain ⟨e0, e1, e2, e3⟩ := row4 D7.out
                go_wp2_with fail
                refine (HH2.out _ B7.out.x).mono ?_
                rintro e w8 ⟨rfl, hf⟩
                have A8 := Lib.hid (Fr.alloc w8 (.cells #[.int .i64 0, .int .i64 0, .int .i64 0] 32) [])
                have L8' := Lib.hid (heap_alloc_new w8 (.cells #[.int .i64 0, .int .i64 0, .int .i64 0] 32))
                have B8 := Lib.hid ((B7.out.keep hf).keep A8.out)
                have CL8 := Lib.hid ((CL7.out.keep hf).keep A8.out)
                have F8 := Lib.hid ((F7.out.trans hf).trans A8.out)
                have C8 := Lib.hid (A8.out.heap (hf.heap C7.out (by simp)) (by simp))
                have L8 := Lib.hid (A8.out.heap (hf.heap L7.out (by simp)) (by simp))
                clear hf e0 e1 e2 e3 HH2
                obtain ⟨r0, r1, r2⟩ := row3 L8.out
                obtain ⟨v0, v1, v2⟩ := row3 L8'.out
                go_wp2_with fail
                refine (latch_same zLa zLa _ true (by simp)).mono ?_
                rintro e w9 ⟨rfl, hf⟩
                have B9 := Lib.hid (B8.out.keep hf)
                have CL9 := Lib.hid (CL8.out.keep hf)
                have F9 := Lib.hid (F8.out.trans hf)
                have C9 := Lib.hid (hf.heap C8.out (by simp))
                clear hf r0 r1 r2 v0 v1 v2
                go_wp2_with fail
                go_meet
                exact ⟨s, HSN.out, B9.out.next, CL9.out, C9.out, F9.out⟩
            · have hkb : (K == 1) = false := by simp [hk1]
              clear hk1
              cases hi : s.isB y d0 g0 with
              | true =>
                have hi' := hi
                unfold RS.isB at hi'
                simp only [Bool.and_eq_true, decide_eq_true_eq] at hi'
                obtain ⟨⟨hpm, hpl⟩, hpg⟩ := hi'
                obtain ⟨j, hj⟩ : ∃ j, j = keyN y d0 := ⟨_, rfl⟩
                rw [← hj] at hpl hpg
                have HK := Lib.hid (show Key s.n y d0 j by rw [hj]; exact may_key hpm)
                have H1 := Lib.hid (clear_yes p s y d0 j g0 w6.drew (B6.out.r.keep (Fr.drew _ [])) HN64.out HK.out hpl hpg)
                have H2 := Lib.hid (fun W hW => rclear_yes q s y d0 j g0 W hW HN64.out HK.out hpl hpg)
                have HQ := Lib.hid (And.intro HWR.out (And.intro HCQ.out HPQ.out))
                clear hi hpm hpl hpg hj
                go_wp2_with fail
                refine wp_region_noPanic ?_
                refine wp_region_held_drew (S := (fun a => a.cell? ⟨wr.heap.size, 1, none⟩ = some (.int .i64 y) ∧ a.cell? ⟨wr.heap.size, 2, none⟩ = some (.int .i64 d0) ∧ a.cell? ⟨wr.heap.size, 3, none⟩ = some (.int .i64 g0))) (by kernel_rfl) ⟨e1, e2, e3⟩ (fun hHeld => ?_)
                refine wpAnyH_take (i := 0) (oi := _) (v := ?fv0h1) (by simp only [List.getElem?_toArray, List.getElem?_cons_zero]; rfl) (by kernel_rfl) (by kernel_rfl) (by kernel_rfl) (fun _ _ _ h => h) (Or.inl ⟨by rfl, ?fy0h1⟩) (by assumption) ?fr0h1
                case fy0h1 => (intro w hSw; (try dsimp only at hSw); go_simp; try with_reducible rfl)
                try simp only [Act.put, List.setIfInBounds_toArray, List.set_cons_zero, List.set_cons_succ]
                refine wpAnyH_take (i := 1) (oi := _) (v := ?fv1h1) (by simp only [List.getElem?_toArray, List.getElem?_cons_zero, List.getElem?_cons_succ]; rfl) (by kernel_rfl) (by kernel_rfl) (by kernel_rfl) (fun _ _ _ h => h) (Or.inl ⟨by rfl, ?fy1h1⟩) (by assumption) ?fr1h1
                case fy1h1 => (intro w hSw; (try dsimp only at hSw); go_simp; try with_reducible rfl)
                try simp only [Act.put, List.setIfInBounds_toArray, List.set_cons_zero, List.set_cons_succ]
                refine wpAnyH_take (i := 2) (oi := _) (v := ?fv2h1) (by simp only [List.getElem?_toArray, List.getElem?_cons_zero, List.getElem?_cons_succ]; rfl) (by kernel_rfl) (by kernel_rfl) (by kernel_rfl) (fun _ _ _ h => h) (Or.inl ⟨by rfl, ?fy2h1⟩) (by assumption) ?fr2h1
                case fy2h1 => (intro w hSw; (try dsimp only at hSw); go_simp; try with_reducible rfl)
                try simp only [Act.put, List.setIfInBounds_toArray, List.set_cons_zero, List.set_cons_succ]
                refine wpAnyH_take (i := 4) (oi := _) (v := ?fv4h1) (by simp only [List.getElem?_toArray, List.getElem?_cons_zero, List.getElem?_cons_succ]; rfl) (by kernel_rfl) (by kernel_rfl) (by kernel_rfl) (fun _ _ _ h => h) (Or.inl ⟨by rfl, ?fy4h1⟩) (by assumption) ?fr4h1
                case fy4h1 => (intro w hSw; (try dsimp only at hSw); go_simp; try with_reducible rfl)
                try simp only [Act.put, List.setIfInBounds_toArray, List.set_cons_zero, List.set_cons_succ]
                refine wpAnyH_take (i := 5) (oi := _) (v := ?fv5h1) (by simp only [List.getElem?_toArray, List.getElem?_cons_zero, List.getElem?_cons_succ]; rfl) (by kernel_rfl) (by kernel_rfl) (by kernel_rfl) (fun _ _ _ h => h) (Or.inl ⟨by rfl, ?fy5h1⟩) (by assumption) ?fr5h1
                case fy5h1 => (intro w hSw; (try dsimp only at hSw); go_simp; try with_reducible rfl)
                try simp only [Act.put, List.setIfInBounds_toArray, List.set_cons_zero, List.set_cons_succ]
                refine wpAnyH_take (i := 6) (oi := _) (v := ?fv6h1) (by simp only [List.getElem?_toArray, List.getElem?_cons_zero, List.getElem?_cons_succ]; rfl) (by kernel_rfl) (by kernel_rfl) (by kernel_rfl) (fun _ _ _ h => h) (Or.inl ⟨by rfl, ?fy6h1⟩) (by assumption) ?fr6h1
                case fy6h1 => (intro w hSw; (try dsimp only at hSw); go_simp; try with_reducible rfl)
                try simp only [Act.put, List.setIfInBounds_toArray, List.set_cons_zero, List.set_cons_succ]
                refine wpAnyH_ready (rs := [3]) (by kernel_rfl) (by simp) ?_
                refine AllReadyH.cons (o := _) rfl (fun K hK => ?_) AllReadyH.nil
                go_simp
                ((with_reducible refine H1.out.mono ?_); rintro e w7 ⟨rfl, hs7, hf7⟩; have hq := HQ.out; have X7 := (B6.out.x.keep (Fr.drew w6 [])).fr hf7 (by simp; omega); have D7 := hf7.heap ((Fr.drew w6 []).heap D6.out (by simp)) (by simp; omega); obtain ⟨_, y1, y2, y3⟩ := row4 D7)
                go_wp2_with fail
                refine hK.out _ _ ⟨y1, y2, y3⟩ (fun hHeld => ?_)
                clear hK K
                try simp only [Act.put, List.setIfInBounds_toArray, List.set_cons_zero, List.set_cons_succ]
                refine wpAnyH_ready (rs := [7]) (by kernel_rfl) (by simp) ?_
                refine AllReadyH.cons (o := _) rfl (fun K hK => ?_) AllReadyH.nil
                go_simp
                ((with_reducible refine (H2.out _ X7).mono ?_); rintro e w8 ⟨rfl, hs8, hf8⟩; have D8 := hf8.heap D7 (by simp; omega); obtain ⟨_, z1, z2, z3⟩ := row4 D8)
                go_wp2_with fail
                refine hK.out _ _ ⟨z1, z2, z3⟩ (fun hHeld => ?_)
                clear hK K
                try simp only [Act.put, List.setIfInBounds_toArray, List.set_cons_zero, List.set_cons_succ]
                refine wpAnyH_take (i := 8) (oi := _) (v := ?fv8h1) (by simp only [List.getElem?_toArray, List.getElem?_cons_zero, List.getElem?_cons_succ]; rfl) (by kernel_rfl) (by kernel_rfl) (by kernel_rfl) (fun _ _ _ h => h) (Or.inl ⟨by rfl, ?fy8h1⟩) (by assumption) ?fr8h1
                case fy8h1 => (intro w hSw; (try dsimp only at hSw); go_simp; try with_reducible rfl)
                try simp only [Act.put, List.setIfInBounds_toArray, List.set_cons_zero, List.set_cons_succ]
                refine wpAnyH_done (by kernel_rfl) ?_ _
                refine NoPanic.normal ?_
                have B8 := Lib.hid (show BR w8 p q (s.clear j) (k + 1) from ⟨hs7.fr hf8 (by simp; omega), hs8, B6.out.ok.clear j, fun i => by have := B6.out.g i; show 0 ≤ s.G i ∧ s.G i ≤ _; omega⟩)
                have CL8 := Lib.hid (((CL6.out.keep (Fr.drew w6 [])).fr hf7 (by simp; omega)).fr hf8 (by simp; omega))
                have F8 := Lib.hid (((F6.out.trans (Fr.drew w6 [])).new hf7 (by simp; omega)).new hf8 (by simp; omega))
                have C8 := Lib.hid (hf8.heap (hf7.heap ((Fr.drew w6 []).heap C6.out (by simp)) (by simp; omega)) (by simp; omega))
                clear hs7 hf7 hs8 hf8 X7 D7 D8 y1 y2 y3 z1 z2 z3 hHeld hq e0 e1 e2 e3
                go_wp2_with fail
                go_meet
                exact ⟨s.clear j, HSN.out, B8.out, CL8.out, C8.out, F8.out⟩
              | false =>
                have H1 := Lib.hid (clear_no p s y d0 g0 w6.drew (B6.out.r.keep (Fr.drew _ [])) HN64.out hi)
                have H2 := Lib.hid (fun W hW => rclear_no q s y d0 g0 W hW HN64.out hi)
                clear hi
                go_wp2_with fail
                refine wp_region_noPanic ?_
                refine wp_region_held_drew (S := (fun a => a.cell? ⟨wr.heap.size, 1, none⟩ = some (.int .i64 y) ∧ a.cell? ⟨wr.heap.size, 2, none⟩ = some (.int .i64 d0) ∧ a.cell? ⟨wr.heap.size, 3, none⟩ = some (.int .i64 g0))) (by kernel_rfl) ⟨e1, e2, e3⟩ (fun hHeld => ?_)
                refine wpAnyH_take (i := 0) (oi := _) (v := ?fv0h2) (by simp only [List.getElem?_toArray, List.getElem?_cons_zero]; rfl) (by kernel_rfl) (by kernel_rfl) (by kernel_rfl) (fun _ _ _ h => h) (Or.inl ⟨by rfl, ?fy0h2⟩) (by assumption) ?fr0h2
                case fy0h2 => (intro w hSw; (try dsimp only at hSw); go_simp; try with_reducible rfl)
                try simp only [Act.put, List.setIfInBounds_toArray, List.set_cons_zero, List.set_cons_succ]
                refine wpAnyH_take (i := 1) (oi := _) (v := ?fv1h2) (by simp only [List.getElem?_toArray, List.getElem?_cons_zero, List.getElem?_cons_succ]; rfl) (by kernel_rfl) (by kernel_rfl) (by kernel_rfl) (fun _ _ _ h => h) (Or.inl ⟨by rfl, ?fy1h2⟩) (by assumption) ?fr1h2
                case fy1h2 => (intro w hSw; (try dsimp only at hSw); go_simp; try with_reducible rfl)
                try simp only [Act.put, List.setIfInBounds_toArray, List.set_cons_zero, List.set_cons_succ]
                refine wpAnyH_take (i := 2) (oi := _) (v := ?fv2h2) (by simp only [List.getElem?_toArray, List.getElem?_cons_zero, List.getElem?_cons_succ]; rfl) (by kernel_rfl) (by kernel_rfl) (by kernel_rfl) (fun _ _ _ h => h) (Or.inl ⟨by rfl, ?fy2h2⟩) (by assumption) ?fr2h2
                case fy2h2 => (intro w hSw; (try dsimp only at hSw); go_simp; try with_reducible rfl)
                try simp only [Act.put, List.setIfInBounds_toArray, List.set_cons_zero, List.set_cons_succ]
                refine wpAnyH_take (i := 4) (oi := _) (v := ?fv4h2) (by simp only [List.getElem?_toArray, List.getElem?_cons_zero, List.getElem?_cons_succ]; rfl) (by kernel_rfl) (by kernel_rfl) (by kernel_rfl) (fun _ _ _ h => h) (Or.inl ⟨by rfl, ?fy4h2⟩) (by assumption) ?fr4h2
                case fy4h2 => (intro w hSw; (try dsimp only at hSw); go_simp; try with_reducible rfl)
                try simp only [Act.put, List.setIfInBounds_toArray, List.set_cons_zero, List.set_cons_succ]
                refine wpAnyH_take (i := 5) (oi := _) (v := ?fv5h2) (by simp only [List.getElem?_toArray, List.getElem?_cons_zero, List.getElem?_cons_succ]; rfl) (by kernel_rfl) (by kernel_rfl) (by kernel_rfl) (fun _ _ _ h => h) (Or.inl ⟨by rfl, ?fy5h2⟩) (by assumption) ?fr5h2
                case fy5h2 => (intro w hSw; (try dsimp only at hSw); go_simp; try with_reducible rfl)
                try simp only [Act.put, List.setIfInBounds_toArray, List.set_cons_zero, List.set_cons_succ]
                refine wpAnyH_take (i := 6) (oi := _) (v := ?fv6h2) (by simp only [List.getElem?_toArray, List.getElem?_cons_zero, List.getElem?_cons_succ]; rfl) (by kernel_rfl) (by kernel_rfl) (by kernel_rfl) (fun _ _ _ h => h) (Or.inl ⟨by rfl, ?fy6h2⟩) (by assumption) ?fr6h2
                case fy6h2 => (intro w hSw; (try dsimp only at hSw); go_simp; try with_reducible rfl)
                try simp only [Act.put, List.setIfInBounds_toArray, List.set_cons_zero, List.set_cons_succ]
                refine wpAnyH_ready (rs := [3]) (by kernel_rfl) (by simp) ?_
                refine AllReadyH.cons (o := _) rfl (fun K hK => ?_) AllReadyH.nil
                go_simp
                ((with_reducible refine H1.out.mono ?_); rintro e w7 ⟨rfl, hf7⟩; have X7 := (B6.out.x.keep (Fr.drew w6 [])).keep hf7; have D7 := hf7.heap ((Fr.drew w6 []).heap D6.out (by simp)) (by simp); obtain ⟨_, y1, y2, y3⟩ := row4 D7)
                go_wp2_with fail
                refine hK.out _ _ ⟨y1, y2, y3⟩ (fun hHeld => ?_)
                clear hK K
                try simp only [Act.put, List.setIfInBounds_toArray, List.set_cons_zero, List.set_cons_succ]
                refine wpAnyH_ready (rs := [7]) (by kernel_rfl) (by simp) ?_
                refine AllReadyH.cons (o := _) rfl (fun K hK => ?_) AllReadyH.nil
                go_simp
                ((with_reducible refine (H2.out _ X7).mono ?_); rintro e w8 ⟨rfl, hf8⟩; have D8 := hf8.heap D7 (by simp); obtain ⟨_, z1, z2, z3⟩ := row4 D8)
                go_wp2_with fail
                refine hK.out _ _ ⟨z1, z2, z3⟩ (fun hHeld => ?_)
                clear hK K
                try simp only [Act.put, List.setIfInBounds_toArray, List.set_cons_zero, List.set_cons_succ]
                refine wpAnyH_take (i := 8) (oi := _) (v := ?fv8h2) (by simp only [List.getElem?_toArray, List.getElem?_cons_zero, List.getElem?_cons_succ]; rfl) (by kernel_rfl) (by kernel_rfl) (by kernel_rfl) (fun _ _ _ h => h) (Or.inl ⟨by rfl, ?fy8h2⟩) (by assumption) ?fr8h2
                case fy8h2 => (intro w hSw; (try dsimp only at hSw); go_simp; try with_reducible rfl)
                try simp only [Act.put, List.setIfInBounds_toArray, List.set_cons_zero, List.set_cons_succ]
                refine wpAnyH_done (by kernel_rfl) ?_ _
                refine NoPanic.normal ?_
                have FX := ((Fr.drew w6 []).trans hf7).trans hf8
                have B8 := Lib.hid (B6.out.keep FX)
                have CL8 := Lib.hid (CL6.out.keep FX)
                have F8 := Lib.hid (F6.out.trans FX)
                have C8 := Lib.hid (FX.heap C6.out (by simp))
                clear hf7 hf8 X7 D7 D8 y1 y2 y3 z1 z2 z3 hHeld FX e0 e1 e2 e3
                go_wp2_with fail
                go_meet
                exact ⟨s, HSN.out, B8.out.next, CL8.out, C8.out, F8.out⟩
          case rest =>
            obtain ⟨s', hsn', hb, hcl, hc, hf⟩ := hcut
            have HSN' := Lib.hid hsn'
            have HN' := Lib.hid (show s'.n ≤ 64 by rw [hsn']; exact hn64)
            have HOKC := Lib.hid B4.out.ok
            have B7 := Lib.hid (hb.keep (Fr.drew wc []))
            have CL7 := Lib.hid (hcl.keep (Fr.drew wc []))
            have C7 := Lib.hid ((Fr.drew wc []).heap hc (by simp))
            have F7 := Lib.hid (hf.trans (Fr.drew wc []))
            obtain ⟨k0, k1, k2⟩ := row3 hc
            obtain ⟨bb, hbb⟩ : ∃ bb, s'.isB f d g = bb := ⟨_, rfl⟩
            have HBB := Lib.hid hbb
            obtain ⟨gb, hgb⟩ : ∃ gb, s'.genB f d = gb := ⟨_, rfl⟩
            have HGB := Lib.hid hgb
            have hcc : ((c0 : Int) != (c0 : Int)) = false := by simp
            clear hsn' hb hcl hc hf hbb hgb e0 e1 e2 e3 B4 C4 F4 B5 C5 F5 D5 CL5 B6 C6 F6 D6 CL6 D4 AD
            go_wp2_with fail
            refine wp_region_noPanic ?_
            refine wp_region_held_drew (S := (fun a => a.cell? ⟨w.heap.size, 0, none⟩ = some (.int .i64 f) ∧ a.cell? ⟨w.heap.size, 1, none⟩ = some (.int .i64 d) ∧ a.cell? ⟨w.heap.size, 2, none⟩ = some (.int .i64 g))) (by kernel_rfl) ⟨k0, k1, k2⟩ (fun hHeld => ?_)
            refine wpAnyH_take (i := 0) (oi := _) (v := ?fv0h3) (by simp only [List.getElem?_toArray, List.getElem?_cons_zero]; rfl) (by kernel_rfl) (by kernel_rfl) (by kernel_rfl) (fun _ _ _ h => h) (Or.inl ⟨by rfl, ?fy0h3⟩) (by assumption) ?fr0h3
            case fy0h3 => (intro w hSw; (try dsimp only at hSw); go_simp; try with_reducible rfl)
            try simp only [Act.put, List.setIfInBounds_toArray, List.set_cons_zero, List.set_cons_succ]
            refine wpAnyH_take (i := 2) (oi := _) (v := ?fv2h3) (by simp only [List.getElem?_toArray, List.getElem?_cons_zero, List.getElem?_cons_succ]; rfl) (by kernel_rfl) (by kernel_rfl) (by kernel_rfl) (fun _ _ _ h => h) (Or.inl ⟨by rfl, ?fy2h3⟩) (by assumption) ?fr2h3
            case fy2h3 => (intro w hSw; (try dsimp only at hSw); go_simp; try with_reducible rfl)
            try simp only [Act.put, List.setIfInBounds_toArray, List.set_cons_zero, List.set_cons_succ]
            refine wpAnyH_ready (rs := [1]) (by kernel_rfl) (by simp) ?_
            refine AllReadyH.cons (o := _) rfl (fun K hK => ?_) AllReadyH.nil
            go_simp
            ((with_reducible refine (lit_any p s' _ B7.out.r B7.out.ok).mono ?_); rintro e x1 ⟨u1, rfl, ho1, hf1⟩; have G1 := B7.out.keep hf1; have J1 := CL7.out.keep hf1; have E1 := F7.out.trans hf1; have I1 := hf1.heap C7.out (by simp); have U1 := ho1.holds)
            go_wp2_with fail
            refine hK.out _ _ (row3 I1) (fun hHeld => ?_)
            clear hK K
            try simp only [Act.put, List.setIfInBounds_toArray, List.set_cons_zero, List.set_cons_succ]
            refine wpAnyH_ready (rs := [3]) (by kernel_rfl) (by simp) ?_
            refine AllReadyH.cons (o := _) rfl (fun K hK => ?_) AllReadyH.nil
            go_simp
            ((with_reducible refine (rlit_any q s' _ G1.x HN'.out).mono ?_); rintro e x2 ⟨u2, rfl, ho2, hf2⟩; have G2 := G1.keep hf2; have J2 := J1.keep hf2; have E2 := E1.trans hf2; have I2 := hf2.heap I1 (by simp); have V1 := U1.keep hf2; have V2 := ho2.holds)
            go_wp2_with fail
            refine hK.out _ _ (row3 I2) (fun hHeld => ?_)
            clear hK K
            try simp only [Act.put, List.setIfInBounds_toArray, List.set_cons_zero, List.set_cons_succ]
            refine wpAnyH_ready (rs := [4]) (by kernel_rfl) (by simp) ?_
            refine AllReadyH.cons (o := _) rfl (fun K hK => ?_) AllReadyH.nil
            go_simp
            ((with_reducible refine (latchs_same _ _ _ _ _ V1 V2 true (by simp)).mono ?_); rintro e x3 ⟨rfl, hf3⟩; have G3 := G2.keep hf3; have J3 := J2.keep hf3; have E3 := E2.trans hf3; have I3 := hf3.heap I2 (by simp))
            go_wp2_with fail
            refine hK.out _ _ (row3 I3) (fun hHeld => ?_)
            clear hK K
            try simp only [Act.put, List.setIfInBounds_toArray, List.set_cons_zero, List.set_cons_succ]
            refine wpAnyH_take (i := 5) (oi := _) (v := ?fv5h3) (by simp only [List.getElem?_toArray, List.getElem?_cons_zero, List.getElem?_cons_succ]; rfl) (by kernel_rfl) (by kernel_rfl) (by kernel_rfl) (fun _ _ _ h => h) (Or.inl ⟨by rfl, ?fy5h3⟩) (by assumption) ?fr5h3
            case fy5h3 => (intro w hSw; (try dsimp only at hSw); go_simp; try with_reducible rfl)
            try simp only [Act.put, List.setIfInBounds_toArray, List.set_cons_zero, List.set_cons_succ]
            refine wpAnyH_take (i := 6) (oi := _) (v := ?fv6h3) (by simp only [List.getElem?_toArray, List.getElem?_cons_zero, List.getElem?_cons_succ]; rfl) (by kernel_rfl) (by kernel_rfl) (by kernel_rfl) (fun _ _ _ h => h) (Or.inl ⟨by rfl, ?fy6h3⟩) (by assumption) ?fr6h3
            case fy6h3 => (intro w hSw; (try dsimp only at hSw); go_simp; try with_reducible rfl)
            try simp only [Act.put, List.setIfInBounds_toArray, List.set_cons_zero, List.set_cons_succ]
            refine wpAnyH_take (i := 7) (oi := _) (v := ?fv7h3) (by simp only [List.getElem?_toArray, List.getElem?_cons_zero, List.getElem?_cons_succ]; rfl) (by kernel_rfl) (by kernel_rfl) (by kernel_rfl) (fun _ _ _ h => h) (Or.inl ⟨by rfl, ?fy7h3⟩) (by assumption) ?fr7h3
            case fy7h3 => (intro w hSw; (try dsimp only at hSw); go_simp; try with_reducible rfl)
            try simp only [Act.put, List.setIfInBounds_toArray, List.set_cons_zero, List.set_cons_succ]
            refine wpAnyH_take (i := 10) (oi := _) (v := ?fv10h3) (by simp only [List.getElem?_toArray, List.getElem?_cons_zero, List.getElem?_cons_succ]; rfl) (by kernel_rfl) (by kernel_rfl) (by kernel_rfl) (fun _ _ _ h => h) (Or.inl ⟨by rfl, ?fy10h3⟩) (by assumption) ?fr10h3
            case fy10h3 => (intro w hSw; (try dsimp only at hSw); go_simp; try with_reducible rfl)
            try simp only [Act.put, List.setIfInBounds_toArray, List.set_cons_zero, List.set_cons_succ]
            refine wpAnyH_ready (rs := [8]) (by kernel_rfl) (by simp) ?_
            refine AllReadyH.cons (o := _) rfl (fun K hK => ?_) AllReadyH.nil
            go_simp
            ((with_reducible refine (lit_any cq s _ J3 HOKC.out).mono ?_); rintro e x4 ⟨u4, rfl, ho4, hf4⟩; obtain ⟨a4, c4, rfl⟩ := ho4.shape; rw [HC0.out]; have G4 := G3.keep hf4; have E4 := E3.trans hf4; have I4 := hf4.heap I3 (by simp))
            go_wp2_with fail
            refine hK.out _ _ (row3 I4) (fun hHeld => ?_)
            clear hK K
            try simp only [Act.put, List.setIfInBounds_toArray, List.set_cons_zero, List.set_cons_succ]
            refine wpAnyH_take (i := 9) (oi := _) (v := ?fv9h3) (by simp only [List.getElem?_toArray, List.getElem?_cons_zero, List.getElem?_cons_succ]; rfl) (by kernel_rfl) (by kernel_rfl) (by kernel_rfl) (fun _ _ _ h => h) (Or.inl ⟨by rfl, ?fy9h3⟩) (by assumption) ?fr9h3
            case fy9h3 => (intro w hSw; (try dsimp only at hSw); go_simp; try with_reducible rfl)
            try simp only [Act.put, List.setIfInBounds_toArray, List.set_cons_zero, List.set_cons_succ]
            refine wpAnyH_take (i := 11) (oi := _) (v := ?fv11h3) (by simp only [List.getElem?_toArray, List.getElem?_cons_zero, List.getElem?_cons_succ]; rfl) (by kernel_rfl) (by kernel_rfl) (by kernel_rfl) (fun _ _ _ h => h) (Or.inl ⟨by rfl, ?fy11h3⟩) (by assumption) ?fr11h3
            case fy11h3 => (intro w hSw; (try dsimp only at hSw); go_simp; try with_reducible rfl)
            try simp only [Act.put, List.setIfInBounds_toArray, List.set_cons_zero, List.set_cons_succ]
            refine wpAnyH_take (i := 12) (oi := _) (v := ?fv12h3) (by simp only [List.getElem?_toArray, List.getElem?_cons_zero, List.getElem?_cons_succ]; rfl) (by kernel_rfl) (by kernel_rfl) (by kernel_rfl) (fun _ _ _ h => h) (Or.inl ⟨by rfl, ?fy12h3⟩) (by assumption) ?fr12h3
            case fy12h3 => (intro w hSw; (try dsimp only at hSw); go_simp; try with_reducible rfl)
            try simp only [Act.put, List.setIfInBounds_toArray, List.set_cons_zero, List.set_cons_succ]
            refine wpAnyH_take (i := 13) (oi := _) (v := ?fv13h3) (by simp only [List.getElem?_toArray, List.getElem?_cons_zero, List.getElem?_cons_succ]; rfl) (by kernel_rfl) (by kernel_rfl) (by kernel_rfl) (fun _ _ _ h => h) (Or.inl ⟨by rfl, ?fy13h3⟩) (by assumption) ?fr13h3
            case fy13h3 => (intro w hSw; (try dsimp only at hSw); go_simp; try with_reducible rfl)
            try simp only [Act.put, List.setIfInBounds_toArray, List.set_cons_zero, List.set_cons_succ]
            refine wpAnyH_take (i := 14) (oi := _) (v := ?fv14h3) (by simp only [List.getElem?_toArray, List.getElem?_cons_zero, List.getElem?_cons_succ]; rfl) (by kernel_rfl) (by kernel_rfl) (by kernel_rfl) (fun _ _ _ h => h) (Or.inl ⟨by rfl, ?fy14h3⟩) (by assumption) ?fr14h3
            case fy14h3 => (intro w hSw; (try dsimp only at hSw); go_simp; try with_reducible rfl)
            try simp only [Act.put, List.setIfInBounds_toArray, List.set_cons_zero, List.set_cons_succ]
            refine wpAnyH_take (i := 15) (oi := _) (v := ?fv15h3) (by simp only [List.getElem?_toArray, List.getElem?_cons_zero, List.getElem?_cons_succ]; rfl) (by kernel_rfl) (by kernel_rfl) (by kernel_rfl) (fun _ _ _ h => h) (Or.inl ⟨by rfl, ?fy15h3⟩) (by assumption) ?fr15h3
            case fy15h3 => (intro w hSw; (try dsimp only at hSw); go_simp; try with_reducible rfl)
            try simp only [Act.put, List.setIfInBounds_toArray, List.set_cons_zero, List.set_cons_succ]
            refine wpAnyH_take (i := 17) (oi := _) (v := ?fv17h3) (by simp only [List.getElem?_toArray, List.getElem?_cons_zero, List.getElem?_cons_succ]; rfl) (by kernel_rfl) (by kernel_rfl) (by kernel_rfl) (fun _ _ _ h => h) (Or.inl ⟨by rfl, ?fy17h3⟩) (by assumption) ?fr17h3
            case fy17h3 => (intro w hSw; (try dsimp only at hSw); go_simp; try with_reducible rfl)
            try simp only [Act.put, List.setIfInBounds_toArray, List.set_cons_zero, List.set_cons_succ]
            refine wpAnyH_take (i := 18) (oi := _) (v := ?fv18h3) (by simp only [List.getElem?_toArray, List.getElem?_cons_zero, List.getElem?_cons_succ]; rfl) (by kernel_rfl) (by kernel_rfl) (by kernel_rfl) (fun _ _ _ h => h) (Or.inl ⟨by rfl, ?fy18h3⟩) (by assumption) ?fr18h3
            case fy18h3 => (intro w hSw; (try dsimp only at hSw); go_simp; try with_reducible rfl)
            try simp only [Act.put, List.setIfInBounds_toArray, List.set_cons_zero, List.set_cons_succ]
            refine wpAnyH_ready (rs := [16]) (by kernel_rfl) (by simp) ?_
            refine AllReadyH.cons (o := _) rfl (fun K hK => ?_) AllReadyH.nil
            go_simp
            ((with_reducible refine (is_any p s' f d g _ G4.r HN'.out bb HBB.out).mono ?_); rintro e x5 ⟨rfl, hf5⟩; have G5 := G4.keep hf5; have E5 := E4.trans hf5; have I5 := hf5.heap I4 (by simp))
            go_wp2_with fail
            refine hK.out _ _ (row3 I5) (fun hHeld => ?_)
            clear hK K
            try simp only [Act.put, List.setIfInBounds_toArray, List.set_cons_zero, List.set_cons_succ]
            refine wpAnyH_ready (rs := [19]) (by kernel_rfl) (by simp) ?_
            refine AllReadyH.cons (o := _) rfl (fun K hK => ?_) AllReadyH.nil
            go_simp
            ((with_reducible refine (rlights_any q s' f d g _ G5.x HN'.out bb HBB.out).mono ?_); rintro e x6 ⟨rfl, hf6⟩; have G6 := G5.keep hf6; have E6 := E5.trans hf6; have I6 := hf6.heap I5 (by simp))
            go_wp2_with fail
            refine hK.out _ _ (row3 I6) (fun hHeld => ?_)
            clear hK K
            try simp only [Act.put, List.setIfInBounds_toArray, List.set_cons_zero, List.set_cons_succ]
            refine wpAnyH_take (i := 20) (oi := _) (v := ?fv20h3) (by simp only [List.getElem?_toArray, List.getElem?_cons_zero, List.getElem?_cons_succ]; rfl) (by kernel_rfl) (by kernel_rfl) (by kernel_rfl) (fun _ _ _ h => h) (Or.inl ⟨by rfl, ?fy20h3⟩) (by assumption) ?fr20h3
            case fy20h3 => (intro w hSw; (try dsimp only at hSw); go_simp; try with_reducible rfl)
            try simp only [Act.put, List.setIfInBounds_toArray, List.set_cons_zero, List.set_cons_succ]
            refine wpAnyH_take (i := 21) (oi := _) (v := ?fv21h3) (by simp only [List.getElem?_toArray, List.getElem?_cons_zero, List.getElem?_cons_succ]; rfl) (by kernel_rfl) (by kernel_rfl) (by kernel_rfl) (fun _ _ _ h => h) (Or.inl ⟨by rfl, ?fy21h3⟩) (by assumption) ?fr21h3
            case fy21h3 => (intro w hSw; (try dsimp only at hSw); go_simp; try with_reducible rfl)
            try simp only [Act.put, List.setIfInBounds_toArray, List.set_cons_zero, List.set_cons_succ]
            refine wpAnyH_take (i := 22) (oi := _) (v := ?fv22h3) (by simp only [List.getElem?_toArray, List.getElem?_cons_zero, List.getElem?_cons_succ]; rfl) (by kernel_rfl) (by kernel_rfl) (by kernel_rfl) (fun _ _ _ h => h) (Or.inl ⟨by rfl, ?fy22h3⟩) (by assumption) ?fr22h3
            case fy22h3 => (intro w hSw; (try dsimp only at hSw); go_simp; try with_reducible rfl)
            try simp only [Act.put, List.setIfInBounds_toArray, List.set_cons_zero, List.set_cons_succ]
            refine wpAnyH_take (i := 23) (oi := _) (v := ?fv23h3) (by simp only [List.getElem?_toArray, List.getElem?_cons_zero, List.getElem?_cons_succ]; rfl) (by kernel_rfl) (by kernel_rfl) (by kernel_rfl) (fun _ _ _ h => h) (Or.inl ⟨by rfl, ?fy23h3⟩) (by assumption) ?fr23h3
            case fy23h3 => (intro w hSw; (try dsimp only at hSw); go_simp; try with_reducible rfl)
            try simp only [Act.put, List.setIfInBounds_toArray, List.set_cons_zero, List.set_cons_succ]
            refine wpAnyH_take (i := 24) (oi := _) (v := ?fv24h3) (by simp only [List.getElem?_toArray, List.getElem?_cons_zero, List.getElem?_cons_succ]; rfl) (by kernel_rfl) (by kernel_rfl) (by kernel_rfl) (fun _ _ _ h => h) (Or.inl ⟨by rfl, ?fy24h3⟩) (by assumption) ?fr24h3
            case fy24h3 => (intro w hSw; (try dsimp only at hSw); go_simp; try with_reducible rfl)
            try simp only [Act.put, List.setIfInBounds_toArray, List.set_cons_zero, List.set_cons_succ]
            refine wpAnyH_take (i := 25) (oi := _) (v := ?fv25h3) (by simp only [List.getElem?_toArray, List.getElem?_cons_zero, List.getElem?_cons_succ]; rfl) (by kernel_rfl) (by kernel_rfl) (by kernel_rfl) (fun _ _ _ h => h) (Or.inl ⟨by rfl, ?fy25h3⟩) (by assumption) ?fr25h3
            case fy25h3 => (intro w hSw; (try dsimp only at hSw); go_simp; try with_reducible rfl)
            try simp only [Act.put, List.setIfInBounds_toArray, List.set_cons_zero, List.set_cons_succ]
            refine wpAnyH_take (i := 27) (oi := _) (v := ?fv27h3) (by simp only [List.getElem?_toArray, List.getElem?_cons_zero, List.getElem?_cons_succ]; rfl) (by kernel_rfl) (by kernel_rfl) (by kernel_rfl) (fun _ _ _ h => h) (Or.inl ⟨by rfl, ?fy27h3⟩) (by assumption) ?fr27h3
            case fy27h3 => (intro w hSw; (try dsimp only at hSw); go_simp; try with_reducible rfl)
            try simp only [Act.put, List.setIfInBounds_toArray, List.set_cons_zero, List.set_cons_succ]
            refine wpAnyH_take (i := 28) (oi := _) (v := ?fv28h3) (by simp only [List.getElem?_toArray, List.getElem?_cons_zero, List.getElem?_cons_succ]; rfl) (by kernel_rfl) (by kernel_rfl) (by kernel_rfl) (fun _ _ _ h => h) (Or.inl ⟨by rfl, ?fy28h3⟩) (by assumption) ?fr28h3
            case fy28h3 => (intro w hSw; (try dsimp only at hSw); go_simp; try with_reducible rfl)
            try simp only [Act.put, List.setIfInBounds_toArray, List.set_cons_zero, List.set_cons_succ]
            refine wpAnyH_take (i := 29) (oi := _) (v := ?fv29h3) (by simp only [List.getElem?_toArray, List.getElem?_cons_zero, List.getElem?_cons_succ]; rfl) (by kernel_rfl) (by kernel_rfl) (by kernel_rfl) (fun _ _ _ h => h) (Or.inl ⟨by rfl, ?fy29h3⟩) (by assumption) ?fr29h3
            case fy29h3 => (intro w hSw; (try dsimp only at hSw); go_simp; try with_reducible rfl)
            try simp only [Act.put, List.setIfInBounds_toArray, List.set_cons_zero, List.set_cons_succ]
            refine wpAnyH_ready (rs := [26]) (by kernel_rfl) (by simp) ?_
            refine AllReadyH.cons (o := _) rfl (fun K hK => ?_) AllReadyH.nil
            go_simp
            ((with_reducible refine (gen_any p s' f d _ G6.r HN'.out).mono ?_); rintro e x7 ⟨rfl, hf7⟩; rw [HGB.out]; have G7 := G6.keep hf7; have E7 := E6.trans hf7; have I7 := hf7.heap I6 (by simp))
            go_wp2_with fail
            refine hK.out _ _ (row3 I7) (fun hHeld => ?_)
            clear hK K
            try simp only [Act.put, List.setIfInBounds_toArray, List.set_cons_zero, List.set_cons_succ]
            refine wpAnyH_ready (rs := [30]) (by kernel_rfl) (by simp) ?_
            refine AllReadyH.cons (o := _) rfl (fun K hK => ?_) AllReadyH.nil
            go_simp
            ((with_reducible refine (rgen_any q s' f d _ G7.x HN'.out).mono ?_); rintro e x8 ⟨rfl, hf8⟩; rw [HGB.out]; have G8 := G7.keep hf8; have E8 := E7.trans hf8; have I8 := hf8.heap I7 (by simp))
            go_wp2_with fail
            refine hK.out _ _ (row3 I8) (fun hHeld => ?_)
            clear hK K
            try simp only [Act.put, List.setIfInBounds_toArray, List.set_cons_zero, List.set_cons_succ]
            refine wpAnyH_take (i := 31) (oi := _) (v := ?fv31h3) (by simp only [List.getElem?_toArray, List.getElem?_cons_zero, List.getElem?_cons_succ]; rfl) (by kernel_rfl) (by kernel_rfl) (by kernel_rfl) (fun _ _ _ h => h) (Or.inl ⟨by rfl, ?fy31h3⟩) (by assumption) ?fr31h3
            case fy31h3 => (intro w hSw; (try dsimp only at hSw); go_simp; try with_reducible rfl)
            try simp only [Act.put, List.setIfInBounds_toArray, List.set_cons_zero, List.set_cons_succ]
            refine wpAnyH_take (i := 32) (oi := _) (v := ?fv32h3) (by simp only [List.getElem?_toArray, List.getElem?_cons_zero, List.getElem?_cons_succ]; rfl) (by kernel_rfl) (by kernel_rfl) (by kernel_rfl) (fun _ _ _ h => h) (Or.inl ⟨by rfl, ?fy32h3⟩) (by assumption) ?fr32h3
            case fy32h3 => (intro w hSw; (try dsimp only at hSw); go_simp; try with_reducible rfl)
            try simp only [Act.put, List.setIfInBounds_toArray, List.set_cons_zero, List.set_cons_succ]
            refine wpAnyH_done (by kernel_rfl) ?_ _
            refine NoPanic.normal ?_
            have BE := Lib.hid G8
            have CE := Lib.hid I8
            have FE := Lib.hid E8
            clear hHeld G1 G2 G3 G4 G5 G6 G7 G8 J1 J2 J3 E1 E2 E3 E4 E5 E6 E7 E8 I1 I2 I3 I4 I5 I6 I7 I8 U1 V1 V2 ho1 ho2 ho4 hf1 hf2 hf3 hf4 hf5 hf6 hf7 hf8 k0 k1 k2
            go_wp2
            go_roundw
            case rel => exact ⟨k + 1, s', by omega, by go_num, HSN'.out, BE.out, CE.out, FE.out⟩
            case measure => simp [intOf]; omega
        · obtain rfl : k = l.length := by omega
          obtain ⟨mb, hmb⟩ : ∃ mb, mayB n f d = mb := ⟨_, rfl⟩
          have HV1 := Lib.hid (fun W => (show Calls Tryd.prog 14 #[.int .i64 (n : Int), .agg #[.int .i64 f, .int .i64 d]] W (fun e w' => e = .returned (.bool mb) ∧ Fr W w' []) by rw [← hmb]; exact may_any n hn64 f d W))
          have HV2 := Lib.hid (fun W => (show Calls Tryd.prog 25 #[.int .i64 (n : Int), .agg #[.int .i64 f, .int .i64 d]] W (fun e w' => e = .returned (.bool mb) ∧ Fr W w' []) by rw [← hmb]; exact rmay_any n hn64 f d W))
          have HS := Lib.hid (show MS wr w.heap.size f d wr.drew from ⟨Fr.drew _ _, (row3 ((Fr.drew wr []).heap C4.out (by simp))).1, (row3 ((Fr.drew wr []).heap C4.out (by simp))).2.1⟩)
          clear hmb
          go_wp2
          refine wp_region_det (S := MS wr w.heap.size f d) (by kernel_rfl) HS.out ?_
          refine wpDet_take (i := 0) (oi := _) (v := ?dv4) (by simp only [List.getElem?_toArray, List.getElem?_cons_zero]; rfl) (by kernel_rfl) (by kernel_rfl) (by kernel_rfl) (Or.inl ⟨by rfl, ?dy4⟩) ?dr4
          case dy4 => (intro w hSw; have hS0 := hSw; (try dsimp only [MS] at hSw); go_simp; refine Came.value ?_ hS0; with_reducible rfl)
          try simp only [Act.put, List.setIfInBounds_toArray, List.set_cons_zero, List.set_cons_succ]
          refine wpDet_take (i := 1) (oi := _) (v := ?dv5) (by simp only [List.getElem?_toArray, List.getElem?_cons_zero, List.getElem?_cons_succ]; rfl) (by kernel_rfl) (by kernel_rfl) (by kernel_rfl) (Or.inl ⟨by rfl, ?dy5⟩) ?dr5
          case dy5 => (intro w hSw; have hS0 := hSw; (try dsimp only [MS] at hSw); go_simp; refine Came.value ?_ hS0; with_reducible rfl)
          try simp only [Act.put, List.setIfInBounds_toArray, List.set_cons_zero, List.set_cons_succ]
          refine wpDet_take (i := 2) (oi := _) (v := ?dv6) (by simp only [List.getElem?_toArray, List.getElem?_cons_zero, List.getElem?_cons_succ]; rfl) (by kernel_rfl) (by kernel_rfl) (by kernel_rfl) (Or.inl ⟨by rfl, ?dy6⟩) ?dr6
          case dy6 => (intro w hSw; have hS0 := hSw; (try dsimp only [MS] at hSw); go_simp; refine Came.value ?_ hS0; with_reducible rfl)
          try simp only [Act.put, List.setIfInBounds_toArray, List.set_cons_zero, List.set_cons_succ]
          refine wpDet_take (i := 3) (oi := _) (v := ?dv7) (by simp only [List.getElem?_toArray, List.getElem?_cons_zero, List.getElem?_cons_succ]; rfl) (by kernel_rfl) (by kernel_rfl) (by kernel_rfl) (Or.inl ⟨by rfl, ?dy7⟩) ?dr7
          case dy7 => (intro w hSw; have hS0 := hSw; (try dsimp only [MS] at hSw); go_simp; refine Came.value ?_ hS0; with_reducible rfl)
          try simp only [Act.put, List.setIfInBounds_toArray, List.set_cons_zero, List.set_cons_succ]
          refine wpDet_take (i := 4) (oi := _) (v := ?dv8) (by simp only [List.getElem?_toArray, List.getElem?_cons_zero, List.getElem?_cons_succ]; rfl) (by kernel_rfl) (by kernel_rfl) (by kernel_rfl) (Or.inl ⟨by rfl, ?dy8⟩) ?dr8
          case dy8 => (intro w hSw; have hS0 := hSw; (try dsimp only [MS] at hSw); go_simp; refine Came.value ?_ hS0; with_reducible rfl)
          try simp only [Act.put, List.setIfInBounds_toArray, List.set_cons_zero, List.set_cons_succ]
          refine wpDet_take (i := 5) (oi := _) (v := ?dv9) (by simp only [List.getElem?_toArray, List.getElem?_cons_zero, List.getElem?_cons_succ]; rfl) (by kernel_rfl) (by kernel_rfl) (by kernel_rfl) (Or.inl ⟨by rfl, ?dy9⟩) ?dr9
          case dy9 => (intro w hSw; go_simp; exact Came.call ((HV1.out w).mono fun e w' ⟨he, hf⟩ => ⟨he, hSw.fr hf⟩) (by with_reducible rfl))
          try simp only [Act.put, List.setIfInBounds_toArray, List.set_cons_zero, List.set_cons_succ]
          refine wpDet_take (i := 6) (oi := _) (v := ?dv10) (by simp only [List.getElem?_toArray, List.getElem?_cons_zero, List.getElem?_cons_succ]; rfl) (by kernel_rfl) (by kernel_rfl) (by kernel_rfl) (Or.inl ⟨by rfl, ?dy10⟩) ?dr10
          case dy10 => (intro w hSw; have hS0 := hSw; (try dsimp only [MS] at hSw); go_simp; refine Came.value ?_ hS0; with_reducible rfl)
          try simp only [Act.put, List.setIfInBounds_toArray, List.set_cons_zero, List.set_cons_succ]
          refine wpDet_take (i := 7) (oi := _) (v := ?dv11) (by simp only [List.getElem?_toArray, List.getElem?_cons_zero, List.getElem?_cons_succ]; rfl) (by kernel_rfl) (by kernel_rfl) (by kernel_rfl) (Or.inl ⟨by rfl, ?dy11⟩) ?dr11
          case dy11 => (intro w hSw; have hS0 := hSw; (try dsimp only [MS] at hSw); go_simp; refine Came.value ?_ hS0; with_reducible rfl)
          try simp only [Act.put, List.setIfInBounds_toArray, List.set_cons_zero, List.set_cons_succ]
          refine wpDet_take (i := 8) (oi := _) (v := ?dv12) (by simp only [List.getElem?_toArray, List.getElem?_cons_zero, List.getElem?_cons_succ]; rfl) (by kernel_rfl) (by kernel_rfl) (by kernel_rfl) (Or.inl ⟨by rfl, ?dy12⟩) ?dr12
          case dy12 => (intro w hSw; have hS0 := hSw; (try dsimp only [MS] at hSw); go_simp; refine Came.value ?_ hS0; with_reducible rfl)
          try simp only [Act.put, List.setIfInBounds_toArray, List.set_cons_zero, List.set_cons_succ]
          refine wpDet_take (i := 9) (oi := _) (v := ?dv13) (by simp only [List.getElem?_toArray, List.getElem?_cons_zero, List.getElem?_cons_succ]; rfl) (by kernel_rfl) (by kernel_rfl) (by kernel_rfl) (Or.inl ⟨by rfl, ?dy13⟩) ?dr13
          case dy13 => (intro w hSw; go_simp; exact Came.call ((HV2.out w).mono fun e w' ⟨he, hf⟩ => ⟨he, hSw.fr hf⟩) (by with_reducible rfl))
          try simp only [Act.put, List.setIfInBounds_toArray, List.set_cons_zero, List.set_cons_succ]
          refine wpDet_take (i := 10) (oi := _) (v := ?dv14) (by simp only [List.getElem?_toArray, List.getElem?_cons_zero, List.getElem?_cons_succ]; rfl) (by kernel_rfl) (by kernel_rfl) (by kernel_rfl) (Or.inl ⟨by rfl, ?dy14⟩) ?dr14
          case dy14 => (intro w hSw; have hS0 := hSw; (try dsimp only [MS] at hSw); go_simp; refine Came.value ?_ hS0; with_reducible rfl)
          try simp only [Act.put, List.setIfInBounds_toArray, List.set_cons_zero, List.set_cons_succ]
          refine wpDet_take (i := 11) (oi := _) (v := ?dv15) (by simp only [List.getElem?_toArray, List.getElem?_cons_zero, List.getElem?_cons_succ]; rfl) (by kernel_rfl) (by kernel_rfl) (by kernel_rfl) (Or.inl ⟨by rfl, ?dy15⟩) ?dr15
          case dy15 => (intro w hSw; have hS0 := hSw; (try dsimp only [MS] at hSw); go_simp; refine Came.value ?_ hS0; with_reducible rfl)
          try simp only [Act.put, List.setIfInBounds_toArray, List.set_cons_zero, List.set_cons_succ]
          refine wpDet_take (i := 12) (oi := _) (v := ?dv16) (by simp only [List.getElem?_toArray, List.getElem?_cons_zero, List.getElem?_cons_succ]; rfl) (by kernel_rfl) (by kernel_rfl) (by kernel_rfl) (Or.inl ⟨by rfl, ?dy16⟩) ?dr16
          case dy16 => (intro w hSw; have hS0 := hSw; (try dsimp only [MS] at hSw); go_simp; refine Came.value ?_ hS0; with_reducible rfl)
          try simp only [Act.put, List.setIfInBounds_toArray, List.set_cons_zero, List.set_cons_succ]
          refine wpDet_done (by kernel_rfl) ?_ _
          rintro w5 ⟨hF, _⟩
          have F5 := Lib.hid (F4.out.trans hF)
          clear hF
          go_wp2
          go_ret
          exact ⟨rfl, F5.out.grown (by simp)⟩
    · have hl' : ((l.length : Int) > 60) := by omega
      go_enter Tryd.func4, Tryd.ntmps4
      go_wp2_with fail
      refine (first_any _).mono ?_
      rintro e w1 ⟨rfl, hf⟩
      have F1 := Lib.hid (AB.out.trans hf)
      clear hf
      go_wp2_with fail
      refine (new_yes n hn2 hn64 w1).mono ?_
      rintro e w2 ⟨rfl, hs, hf⟩
      have F2 := Lib.hid (F1.out.trans hf)
      clear hs hf
      go_wp2
      go_ret
      exact ⟨rfl, F2.out.grown (by simp)⟩
end Go.Proofs.YtndjmpjgahmnoaaDoor
