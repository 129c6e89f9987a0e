/- The law of being apart: what is pressed or cleared at one button changes no other one: its walk. -/
import Derived.Test.YtndjmpjgahmnoaaDoorRFirst
import Derived.Test.YtndjmpjgahmnoaaDoorRSame
import Derived.Test.YtndjmpjgahmnoaaDoorROpen
import Derived.Deep.DeepCutAuto
import Derived.Deep.CutBlock
namespace Go.Proofs.YtndjmpjgahmnoaaDoor
open Go.RowKit

/-- How the riser may be, where the call (f, d) was pressed first, and m things were told of others since. -/
structure ApS (s : RS) (f d : Int) (m : Nat) : Prop where
  n : s.n = 7
  ok : s.ok
  g0 : ∀ k, 0 ≤ s.G k
  g1 : ∀ k, s.G k ≤ m
  me : mayB 7 f d = true → s.L (keyN f d) = true ∧ s.G (keyN f d) = 1
theorem ApS.press {s : RS} {f d f' d' : Int} {m k : Nat} (h : ApS s f d m) (hk : Key 7 f' d' k) (hne : ¬ (f' = f ∧ d' = d)) : ApS (s.press k) f d (m + 1) := by
  have hkn : Key s.n f' d' k := by rw [h.n]; exact hk
  refine ⟨h.n, h.ok.press hkn, fun j => ?_, fun j => ?_, fun hm => ?_⟩
  · by_cases e : j = k
    · subst e; have := h.g0 j; simp [RS.press, updG]; omega
    · have := h.g0 j; simpa [RS.press, updG, e] using this
  · by_cases e : j = k
    · subst e; have := h.g1 j; simp [RS.press, updG]; omega
    · have := h.g1 j; simp [RS.press, updG, e]; omega
  · have hj : keyN f d ≠ k := fun e => by
      have h1 := may_key hm
      rw [e] at h1
      exact hne ⟨(hk.same h1).1, (hk.same h1).2⟩
    obtain ⟨a, b⟩ := h.me hm
    exact ⟨by simpa [RS.press, updB, hj] using a, by simpa [RS.press, updG, hj] using b⟩
theorem ApS.clear {s : RS} {f d f' d' : Int} {m k : Nat} (h : ApS s f d m) (hk : Key 7 f' d' k) (hne : ¬ (f' = f ∧ d' = d)) : ApS (s.clear k) f d (m + 1) := by
  refine ⟨h.n, h.ok.clear k, h.g0, fun j => by have := h.g1 j; show s.G j ≤ _; omega, fun hm => ?_⟩
  have hj : keyN f d ≠ k := fun e => by
    have h1 := may_key hm
    rw [e] at h1
    exact hne ⟨(hk.same h1).1, (hk.same h1).2⟩
  obtain ⟨a, b⟩ := h.me hm
  exact ⟨by simpa [RS.clear, updB, hj] using a, b⟩
theorem ApS.next {s : RS} {f d : Int} {m : Nat} (h : ApS s f d m) : ApS s f d (m + 1) := ⟨h.n, h.ok, h.g0, fun j => by have := h.g1 j; omega, h.me⟩
theorem zS_press_ap {f d : Int} (h : mayB 7 f d = true) : ApS ((zS 7).press (keyN f d)) f d 1 := by
  refine ⟨rfl, (zS_ok 7 (by omega)).press (may_key h), fun j => ?_, fun j => ?_, fun _ => ?_⟩
  · by_cases e : j = keyN f d <;> simp [RS.press, updG, zS, e]
  · by_cases e : j = keyN f d <;> simp [RS.press, updG, zS, e]
  · simp [RS.press, updB, updG, zS]
theorem zS_ap {f d : Int} (h : mayB 7 f d = false) : ApS (zS 7) f d 1 :=
  ⟨rfl, zS_ok 7 (by omega), fun j => by simp [zS], fun j => by simp [zS], fun hm => by rw [h] at hm; cases hm⟩
theorem press_len (s : RS) (k : Nat) (h : s.L k = false) (hk : k < 2 * s.n) : (s.press k).lit.length = s.lit.length + 1 := by
  rw [lit_cnt, lit_cnt]
  exact cnt_up _ k h _ hk
theorem clear_len (s : RS) (k : Nat) (h : s.L k = true) (hk : k < 2 * s.n) : (s.clear k).lit.length + 1 = s.lit.length := by
  rw [lit_cnt, lit_cnt]
  exact cnt_down _ k h _ hk
theorem press_is {s : RS} {f d : Int} {k : Nat} (hk : Key s.n f d k) (g : Int) (hg : s.G k + 1 = g) : (s.press k).isB f d g = true := by
  have hm : mayB (s.press k).n f d = true := hk.may
  unfold RS.isB
  rw [hm, hk.is]
  simp [RS.press, updB, updG, hg]

/-- What became of the first press. -/
def Pr1 (w : World) (p : Nat) (f d : Int) (b : Bool) (u : Value) (w' : World) : Prop := ∃ (x : La) (s : RS), u = .tuple #[.agg #[.int .i64 x.f, .int .i64 x.d, .int .i64 x.g], .bool b] ∧ Rs w' p s ∧ Fr w w' [p] ∧ ApS s f d 1 ∧ (b = true → x = ⟨f, d, 1⟩)
theorem press_first (p : Nat) (f d : Int) (w : World) (hs : Rs w p (zS 7)) (b : Bool) (hb : mayB 7 f d = b) :
    Calls Tryd.prog 9 #[.pointer (some ⟨p, 0, none⟩), .agg #[.int .i64 f, .int .i64 d]] w (Gives (Pr1 w p f d b)) := by
  cases b with
  | false =>
    refine (press_no p (zS 7) f d w hs (by decide) (by rw [show (zS 7).n = 7 from rfl, hb]; rfl)).mono ?_
    rintro e w' ⟨rfl, hf⟩
    exact gives ⟨zLa, zS 7, rfl, hs.keep hf, hf.mono (by simp), zS_ap hb, fun h => by cases h⟩
  | true =>
    refine (press_yes p (zS 7) f d _ w hs (by decide) (may_key hb) rfl (by simp [zS]) (by simp [zS])).mono ?_
    rintro e w' ⟨rfl, h, hf⟩
    exact gives ⟨⟨f, d, 1⟩, _, rfl, h, hf, zS_press_ap hb, fun _ => rfl⟩
/-- What stands while the call told is held against the first one. -/
def CS2 (W : World) (b o c : Nat) (x : La) (f d : Int) (a : World) : Prop := Fr W a [] ∧
  (a.cell? ⟨b, o + 1, none⟩ = some (.int .i64 x.f) ∧ a.cell? ⟨b, o + 1 + 1, none⟩ = some (.int .i64 x.d)) ∧ (a.cell? ⟨c, 0, none⟩ = some (.int .i64 f) ∧ a.cell? ⟨c, 1, none⟩ = some (.int .i64 d))
theorem CS2.fr {W : World} {b o c : Nat} {x : La} {f d : Int} {a a' : World} (h : CS2 W b o c x f d a) (k : Fr a a' []) : CS2 W b o c x f d a' :=
  ⟨h.1.trans k, ⟨k.cell h.2.1.1 (by simp), k.cell h.2.1.2 (by simp)⟩, k.cell h.2.2.1 (by simp), k.cell h.2.2.2 (by simp)⟩

set_option maxHeartbeats 4000000 in
set_option maxRecDepth 100000 in
theorem rapart_walk (v : Value) (l : List DV) (f d : Int) (w : World) (h : HDs w v l) :
    Calls Tryd.prog 3 #[v, .agg #[.int .i64 f, .int .i64 d]] w fun e w' => e = .returned (.bool true) ∧ w.grownBy w' none := by
  obtain ⟨ad, cap, rfl, h1, h2, h3⟩ := h
  unfold maxLen at h2
  have HC := Lib.hid h3
  clear h3
  have AB := Lib.hid (Fr.alloc w (.cells #[.int .i64 f, .int .i64 d] 24) [])
  have CB := Lib.hid (heap_alloc_new w (.cells #[.int .i64 f, .int .i64 d] 24))
  by_cases hl : l.length ≤ 30
  · go_enter Tryd.func3, Tryd.ntmps3
    go_wp2_with fail
    refine (first_any _).mono ?_
    rintro e w1 ⟨rfl, hf⟩
    have F1 := Lib.hid (AB.out.trans hf)
    have C1 := Lib.hid (hf.heap CB.out (by simp))
    clear hf
    go_wp2_with fail
    refine (new_at 7 _ (by rfl) (by omega) (by omega) _).mono ?_
    rintro e w2 ⟨rfl, hs, hf⟩
    have HP := Lib.hid (show w.heap.size < w1.heap.size by have := F1.out.size; exact size_of_row C1.out)
    obtain ⟨p, hp⟩ : ∃ p, p = w1.heap.size := ⟨_, rfl⟩
    rw [← hp] at hs HP ⊢
    have S2 := Lib.hid hs
    have F2 := Lib.hid (F1.out.trans hf)
    have C2 := Lib.hid (hf.heap C1.out (by simp))
    obtain ⟨q0, q1⟩ := row2 C2.out
    clear hs hf hp
    obtain ⟨b, hb⟩ : ∃ b, mayB 7 f d = b := ⟨_, rfl⟩
    have HB := Lib.hid hb
    clear hb
    go_wp2_with fail
    refine (press_first p f d _ S2.out b HB.out).mono ?_
    rintro e w3 ⟨u, rfl, hu⟩
    obtain ⟨x, s0, rfl, hs, hf, hap, hx⟩ := hu
    have X3 := Lib.hid (heap_alloc_new w3 (.cells #[.int .i64 x.f, .int .i64 x.d, .int .i64 x.g] 32))
    have A3 := Lib.hid (Fr.alloc w3 (.cells #[.int .i64 x.f, .int .i64 x.d, .int .i64 x.g] 32) [])
    have hpw3 : p < w3.heap.size := hs.lt
    have S3 := Lib.hid (hs.keep A3.out)
    have F3 := Lib.hid ((F2.out.new hf (by simp; have := HP.out; omega)).trans A3.out)
    have C3 := Lib.hid (A3.out.heap (hf.heap C2.out (by simp; have := HP.out; omega)) (by simp))
    have AP3 := Lib.hid hap
    have HX := Lib.hid hx
    have HPX := Lib.hid hpw3
    clear hs hf hap hx hpw3 q0 q1 S2 F2 C2
    go_wp2
    go_loopw [10] (fun i wr => ∃ (k : Nat) (s : RS), k ≤ l.length ∧ i = .int .i64 k ∧ ApS s f d (k + 1) ∧ Rs wr p s ∧ wr.heap[w.heap.size]? = some (.cells #[.int .i64 f, .int .i64 d] 24 (0, 0)) ∧ wr.heap[w3.heap.size]? = some (.cells #[.int .i64 x.f, .int .i64 x.d, .int .i64 x.g] 32 (0, 0)) ∧ Fr w wr []) (fun i _ => l.length - (intOf i).toNat)
    case atStart => exact ⟨0, s0, Nat.zero_le _, rfl, AP3.out, S3.out, C3.out, X3.out, F3.out⟩
    case round =>
      obtain ⟨k, s, hk, rfl, hap, hs, hc, hxx, hf⟩ := hrel
      have S4 := Lib.hid hs
      have F4 := Lib.hid hf
      have C4 := Lib.hid hc
      have X4 := Lib.hid hxx
      have AP := Lib.hid hap
      clear hs hf hc hxx hap S3 F3 C3 X3 AP3 A3
      by_cases hlt : k < l.length
      · obtain ⟨b1, o1, rfl, hcell⟩ := HC.out (by omega)
        obtain ⟨⟨K, y⟩, hy⟩ : ∃ y, y = l.getD k zDV := ⟨_, rfl⟩
        have hck := hcell k hlt
        rw [← hy] at hck
        obtain ⟨g0, g1, g2, g3⟩ := hck
        dsimp only at g0 g1 g2 g3
        clear hcell hy
        have G4 := Lib.hid (And.intro g0 (And.intro g1 (And.intro g2 g3)))
        have HS := Lib.hid (show CS2 wr b1 (o1 + k * 4) w.heap.size y f d wr.drew from ⟨Fr.drew _ _, ⟨(F4.out.trans (Fr.drew _ [])).cell g1 (by simp), (F4.out.trans (Fr.drew _ [])).cell (by rw [Nat.add_assoc]; exact g2) (by simp)⟩, (row2 ((Fr.drew wr []).heap C4.out (by simp)))⟩)
        clear g0 g1 g2 g3
        by_cases hsame : y.f = f ∧ y.d = d
        · have HV := Lib.hid (fun W => call_same y.f y.d f d W true (by simpa using hsame))
          clear hsame
          go_wp2
          refine wp_region_det (S := CS2 wr b1 (o1 + k * 4) w.heap.size y f d) (by kernel_rfl) HS.out ?_
          refine wpDet_take (i := 0) (oi := _) (v := ?dv1) (by simp only [List.getElem?_toArray, List.getElem?_cons_zero]; rfl) (by kernel_rfl) (by kernel_rfl) (by kernel_rfl) (Or.inl ⟨by rfl, ?dy1⟩) ?dr1
          case dy1 => (intro w hSw; have hS0 := hSw; (try dsimp only [CS2] at hSw); go_simp; refine Came.value ?_ hS0; with_reducible rfl)
          try simp only [Act.put, List.setIfInBounds_toArray, List.set_cons_zero, List.set_cons_succ]
          refine wpDet_take (i := 1) (oi := _) (v := ?dv2) (by simp only [List.getElem?_toArray, List.getElem?_cons_zero, List.getElem?_cons_succ]; rfl) (by kernel_rfl) (by kernel_rfl) (by kernel_rfl) (Or.inl ⟨by rfl, ?dy2⟩) ?dr2
          case dy2 => (intro w hSw; have hS0 := hSw; (try dsimp only [CS2] at hSw); go_simp; refine Came.value ?_ hS0; with_reducible rfl)
          try simp only [Act.put, List.setIfInBounds_toArray, List.set_cons_zero, List.set_cons_succ]
          refine wpDet_take (i := 2) (oi := _) (v := ?dv3) (by simp only [List.getElem?_toArray, List.getElem?_cons_zero, List.getElem?_cons_succ]; rfl) (by kernel_rfl) (by kernel_rfl) (by kernel_rfl) (Or.inl ⟨by rfl, ?dy3⟩) ?dr3
          case dy3 => (intro w hSw; have hS0 := hSw; (try dsimp only [CS2] at hSw); go_simp; refine Came.value ?_ hS0; with_reducible rfl)
          try simp only [Act.put, List.setIfInBounds_toArray, List.set_cons_zero, List.set_cons_succ]
          refine wpDet_take (i := 3) (oi := _) (v := ?dv4) (by simp only [List.getElem?_toArray, List.getElem?_cons_zero, List.getElem?_cons_succ]; rfl) (by kernel_rfl) (by kernel_rfl) (by kernel_rfl) (Or.inl ⟨by rfl, ?dy4⟩) ?dr4
          case dy4 => (intro w hSw; have hS0 := hSw; (try dsimp only [CS2] at hSw); go_simp; refine Came.value ?_ hS0; with_reducible rfl)
          try simp only [Act.put, List.setIfInBounds_toArray, List.set_cons_zero, List.set_cons_succ]
          refine wpDet_take (i := 4) (oi := _) (v := ?dv5) (by simp only [List.getElem?_toArray, List.getElem?_cons_zero, List.getElem?_cons_succ]; rfl) (by kernel_rfl) (by kernel_rfl) (by kernel_rfl) (Or.inl ⟨by rfl, ?dy5⟩) ?dr5
          case dy5 => (intro w hSw; have hS0 := hSw; (try dsimp only [CS2] at hSw); go_simp; refine Came.value ?_ hS0; with_reducible rfl)
          try simp only [Act.put, List.setIfInBounds_toArray, List.set_cons_zero, List.set_cons_succ]
          refine wpDet_take (i := 5) (oi := _) (v := ?dv6) (by simp only [List.getElem?_toArray, List.getElem?_cons_zero, List.getElem?_cons_succ]; rfl) (by kernel_rfl) (by kernel_rfl) (by kernel_rfl) (Or.inl ⟨by rfl, ?dy6⟩) ?dr6
          case dy6 => (intro w hSw; have hS0 := hSw; (try dsimp only [CS2] at hSw); go_simp; refine Came.value ?_ hS0; with_reducible rfl)
          try simp only [Act.put, List.setIfInBounds_toArray, List.set_cons_zero, List.set_cons_succ]
          refine wpDet_take (i := 6) (oi := _) (v := ?dv7) (by simp only [List.getElem?_toArray, List.getElem?_cons_zero, List.getElem?_cons_succ]; rfl) (by kernel_rfl) (by kernel_rfl) (by kernel_rfl) (Or.inl ⟨by rfl, ?dy7⟩) ?dr7
          case dy7 => (intro w hSw; have hS0 := hSw; (try dsimp only [CS2] at hSw); go_simp; refine Came.value ?_ hS0; with_reducible rfl)
          try simp only [Act.put, List.setIfInBounds_toArray, List.set_cons_zero, List.set_cons_succ]
          refine wpDet_take (i := 7) (oi := _) (v := ?dv8) (by simp only [List.getElem?_toArray, List.getElem?_cons_zero, List.getElem?_cons_succ]; rfl) (by kernel_rfl) (by kernel_rfl) (by kernel_rfl) (Or.inl ⟨by rfl, ?dy8⟩) ?dr8
          case dy8 => (intro w hSw; go_simp; exact Came.call ((HV.out w).mono fun e w' ⟨he, hf⟩ => ⟨he, hSw.fr hf⟩) (by with_reducible rfl))
          try simp only [Act.put, List.setIfInBounds_toArray, List.set_cons_zero, List.set_cons_succ]
          refine wpDet_done (by kernel_rfl) ?_ _
          rintro w4 ⟨hF, _, _⟩
          have F5 := Lib.hid (F4.out.trans hF)
          have S5 := Lib.hid (S4.out.keep hF)
          have C5 := Lib.hid (hF.heap C4.out (by simp))
          have X5 := Lib.hid (hF.heap X4.out (by simp))
          clear hF
          go_wp2
          go_roundw
          case rel => exact ⟨k + 1, s, by omega, by go_num, AP.out.next, S5.out, C5.out, X5.out, F5.out⟩
          case measure => simp [intOf]; omega
        · have HV := Lib.hid (fun W => call_same y.f y.d f d W false (by simpa using hsame))
          have HNE := Lib.hid hsame
          clear hsame
          go_wp2
          refine wp_region_det (S := CS2 wr b1 (o1 + k * 4) w.heap.size y f d) (by kernel_rfl) HS.out ?_
          refine wpDet_take (i := 0) (oi := _) (v := ?dv9) (by simp only [List.getElem?_toArray, List.getElem?_cons_zero]; rfl) (by kernel_rfl) (by kernel_rfl) (by kernel_rfl) (Or.inl ⟨by rfl, ?dy9⟩) ?dr9
          case dy9 => (intro w hSw; have hS0 := hSw; (try dsimp only [CS2] at hSw); go_simp; refine Came.value ?_ hS0; with_reducible rfl)
          try simp only [Act.put, List.setIfInBounds_toArray, List.set_cons_zero, List.set_cons_succ]
          refine wpDet_take (i := 1) (oi := _) (v := ?dv10) (by simp only [List.getElem?_toArray, List.getElem?_cons_zero, List.getElem?_cons_succ]; rfl) (by kernel_rfl) (by kernel_rfl) (by kernel_rfl) (Or.inl ⟨by rfl, ?dy10⟩) ?dr10
          case dy10 => (intro w hSw; have hS0 := hSw; (try dsimp only [CS2] at hSw); go_simp; refine Came.value ?_ hS0; with_reducible rfl)
          try simp only [Act.put, List.setIfInBounds_toArray, List.set_cons_zero, List.set_cons_succ]
          refine wpDet_take (i := 2) (oi := _) (v := ?dv11) (by simp only [List.getElem?_toArray, List.getElem?_cons_zero, List.getElem?_cons_succ]; rfl) (by kernel_rfl) (by kernel_rfl) (by kernel_rfl) (Or.inl ⟨by rfl, ?dy11⟩) ?dr11
          case dy11 => (intro w hSw; have hS0 := hSw; (try dsimp only [CS2] at hSw); go_simp; refine Came.value ?_ hS0; with_reducible rfl)
          try simp only [Act.put, List.setIfInBounds_toArray, List.set_cons_zero, List.set_cons_succ]
          refine wpDet_take (i := 3) (oi := _) (v := ?dv12) (by simp only [List.getElem?_toArray, List.getElem?_cons_zero, List.getElem?_cons_succ]; rfl) (by kernel_rfl) (by kernel_rfl) (by kernel_rfl) (Or.inl ⟨by rfl, ?dy12⟩) ?dr12
          case dy12 => (intro w hSw; have hS0 := hSw; (try dsimp only [CS2] at hSw); go_simp; refine Came.value ?_ hS0; with_reducible rfl)
          try simp only [Act.put, List.setIfInBounds_toArray, List.set_cons_zero, List.set_cons_succ]
          refine wpDet_take (i := 4) (oi := _) (v := ?dv13) (by simp only [List.getElem?_toArray, List.getElem?_cons_zero, List.getElem?_cons_succ]; rfl) (by kernel_rfl) (by kernel_rfl) (by kernel_rfl) (Or.inl ⟨by rfl, ?dy13⟩) ?dr13
          case dy13 => (intro w hSw; have hS0 := hSw; (try dsimp only [CS2] at hSw); go_simp; refine Came.value ?_ hS0; with_reducible rfl)
          try simp only [Act.put, List.setIfInBounds_toArray, List.set_cons_zero, List.set_cons_succ]
          refine wpDet_take (i := 5) (oi := _) (v := ?dv14) (by simp only [List.getElem?_toArray, List.getElem?_cons_zero, List.getElem?_cons_succ]; rfl) (by kernel_rfl) (by kernel_rfl) (by kernel_rfl) (Or.inl ⟨by rfl, ?dy14⟩) ?dr14
          case dy14 => (intro w hSw; have hS0 := hSw; (try dsimp only [CS2] at hSw); go_simp; refine Came.value ?_ hS0; with_reducible rfl)
          try simp only [Act.put, List.setIfInBounds_toArray, List.set_cons_zero, List.set_cons_succ]
          refine wpDet_take (i := 6) (oi := _) (v := ?dv15) (by simp only [List.getElem?_toArray, List.getElem?_cons_zero, List.getElem?_cons_succ]; rfl) (by kernel_rfl) (by kernel_rfl) (by kernel_rfl) (Or.inl ⟨by rfl, ?dy15⟩) ?dr15
          case dy15 => (intro w hSw; have hS0 := hSw; (try dsimp only [CS2] at hSw); go_simp; refine Came.value ?_ hS0; with_reducible rfl)
          try simp only [Act.put, List.setIfInBounds_toArray, List.set_cons_zero, List.set_cons_succ]
          refine wpDet_take (i := 7) (oi := _) (v := ?dv16) (by simp only [List.getElem?_toArray, List.getElem?_cons_zero, List.getElem?_cons_succ]; rfl) (by kernel_rfl) (by kernel_rfl) (by kernel_rfl) (Or.inl ⟨by rfl, ?dy16⟩) ?dr16
          case dy16 => (intro w hSw; go_simp; exact Came.call ((HV.out w).mono fun e w' ⟨he, hf⟩ => ⟨he, hSw.fr hf⟩) (by with_reducible rfl))
          try simp only [Act.put, List.setIfInBounds_toArray, List.set_cons_zero, List.set_cons_succ]
          refine wpDet_done (by kernel_rfl) ?_ _
          rintro w4 ⟨hF, _, _⟩
          have F5 := Lib.hid (F4.out.trans hF)
          have S5 := Lib.hid (S4.out.keep hF)
          have C5 := Lib.hid (hF.heap C4.out (by simp))
          have X5 := Lib.hid (hF.heap X4.out (by simp))
          clear hF
          have HN64 := Lib.hid (show s.n ≤ 64 by rw [AP.out.n]; omega)
          obtain ⟨c, hc⟩ : ∃ c, s.lit.length = c := ⟨_, rfl⟩
          have hc128 : c ≤ 128 := by rw [← hc]; exact Nat.le_trans (RS.litTo_len _ _) (by rw [AP.out.n]; omega)
          have HCN := Lib.hid hc
          clear hc
          go_wp2_with fail
          refine (lit_any p _ _ S5.out AP.out.ok).mono ?_
          rintro e w5 ⟨u, rfl, ho, hf⟩
          obtain ⟨au, cu, rfl⟩ := ho.shape
          rw [HCN.out]
          have F6 := Lib.hid (F5.out.trans hf)
          have S6 := Lib.hid (S5.out.keep hf)
          have C6 := Lib.hid (hf.heap C5.out (by simp))
          have X6 := Lib.hid (hf.heap X5.out (by simp))
          clear ho hf
          obtain ⟨g0, g1, g2, g3⟩ := G4.out
          replace g0 := F6.out.cell g0 (by simp)
          replace g1 := F6.out.cell g1 (by simp)
          replace g2 := F6.out.cell g2 (by simp)
          replace g3 := F6.out.cell g3 (by simp)
          have hb : b1 < w5.heap.size := World.block_lt_of_cell? w5 _ g0
          by_cases hk1 : K = 1
          · subst hk1
            by_cases hp : (mayB 7 y.f y.d && !s.L (keyN y.f y.d)) = true
            · have hpm : mayB 7 y.f y.d = true := by revert hp; cases mayB 7 y.f y.d <;> simp
              have hpl : s.L (keyN y.f y.d) = false := by revert hp; rw [hpm]; cases s.L (keyN y.f y.d) <;> simp
              have HK := Lib.hid (show Key 7 y.f y.d (keyN y.f y.d) from may_key hpm)
              obtain ⟨j, hj⟩ : ∃ j, j = keyN y.f y.d := ⟨_, rfl⟩
              rw [← hj] at HK hpl
              have HKN := Lib.hid (show Key s.n y.f y.d j by rw [AP.out.n]; exact HK.out)
              have HPL := Lib.hid hpl
              have HLEN := Lib.hid (show (s.press j).lit.length = c + 1 by rw [press_len s j hpl (by have := HKN.out.hi; omega), HCN.out])
              have HG0 := Lib.hid (show 0 ≤ s.G j from AP.out.g0 j)
              have HG1 := Lib.hid (show s.G j ≤ 1000 by have := AP.out.g1 j; omega)
              have AP' := Lib.hid (AP.out.press HK.out HNE.out)
              obtain ⟨gg, hgg⟩ : ∃ gg, s.G j + 1 = gg := ⟨_, rfl⟩
              have HIS := Lib.hid (press_is HKN.out gg hgg)
              have h1 := press_yes p s y.f y.d j w5 S6.out HN64.out HKN.out HPL.out HG0.out HG1.out
              rw [hgg] at h1
              have H1 := Lib.hid h1
              clear hp hpm hpl hj hgg h1
              go_wp2_with fail
              refine H1.out.mono ?_
              rintro e w6 ⟨rfl, hs, hf⟩
              have A7 := Lib.hid (Fr.alloc w6 (.cells #[.int .i64 y.f, .int .i64 y.d, .int .i64 gg] 32) [])
              have R7 := Lib.hid (heap_alloc_new w6 (.cells #[.int .i64 y.f, .int .i64 y.d, .int .i64 gg] 32))
              have hpn := HP.out
              have hpx := HPX.out
              have S7 := Lib.hid (hs.keep A7.out)
              have F7 := Lib.hid ((F6.out.new hf (by simp; omega)).trans A7.out)
              have C7 := Lib.hid (A7.out.heap (hf.heap C6.out (by simp; omega)) (by simp))
              have X7 := Lib.hid (A7.out.heap (hf.heap X6.out (by simp; omega)) (by simp))
              clear hs hf g0 g1 g2 g3 hb hpn hpx H1
              go_wp2_with fail
              refine (lit_any p _ _ S7.out AP'.out.ok).mono ?_
              rintro e w7 ⟨u, rfl, ho, hf⟩
              obtain ⟨av, cv, rfl⟩ := ho.shape
              rw [HLEN.out]
              have S8 := Lib.hid (S7.out.keep hf)
              have F8 := Lib.hid (F7.out.trans hf)
              have C8 := Lib.hid (hf.heap C7.out (by simp))
              have X8 := Lib.hid (hf.heap X7.out (by simp))
              obtain ⟨r0, r1, r2⟩ := row3 (hf.heap R7.out (by simp))
              clear ho hf
              have hcc : (((c + 1 : Nat) : Int) == (c : Int) + 1) = true := by simp
              go_wp2_with fail
              refine (is_any p _ _ _ _ _ S8.out (by show s.n ≤ 64; exact HN64.out) true HIS.out).mono ?_
              rintro e w8 ⟨rfl, hf⟩
              have S9 := Lib.hid (S8.out.keep hf)
              have F9 := Lib.hid (F8.out.trans hf)
              have C9 := Lib.hid (hf.heap C8.out (by simp))
              have X9 := Lib.hid (hf.heap X8.out (by simp))
              clear hf r0 r1 r2
              go_wp2
              go_roundw
              case rel => exact ⟨k + 1, _, by omega, by go_num, AP'.out, S9.out, C9.out, X9.out, F9.out⟩
              case measure => simp [intOf]; omega
            · have hp' : (mayB 7 y.f y.d && !s.L (keyN y.f y.d)) = false := by simpa using hp
              have H1 := Lib.hid (press_no p s y.f y.d w5 S6.out HN64.out (by rw [AP.out.n]; exact hp'))
              clear hp hp'
              go_wp2_with fail
              refine H1.out.mono ?_
              rintro e w6 ⟨rfl, hf⟩
              have A7 := Lib.hid (Fr.alloc w6 (.cells #[.int .i64 0, .int .i64 0, .int .i64 0] 32) [])
              have S7 := Lib.hid ((S6.out.keep hf).keep A7.out)
              have F7 := Lib.hid ((F6.out.trans hf).trans A7.out)
              have C7 := Lib.hid (A7.out.heap (hf.heap C6.out (by simp)) (by simp))
              have X7 := Lib.hid (A7.out.heap (hf.heap X6.out (by simp)) (by simp))
              clear hf g0 g1 g2 g3 hb H1
              go_wp2_with fail
              refine (lit_any p _ _ S7.out AP.out.ok).mono ?_
              rintro e w7 ⟨u, rfl, ho, hf⟩
              obtain ⟨av, cv, rfl⟩ := ho.shape
              rw [HCN.out]
              have S8 := Lib.hid (S7.out.keep hf)
              have F8 := Lib.hid (F7.out.trans hf)
              have C8 := Lib.hid (hf.heap C7.out (by simp))
              have X8 := Lib.hid (hf.heap X7.out (by simp))
              clear ho hf
              have hcc : ((c : Int) == (c : Int) + 1) = false := by simp; omega
              go_wp2
              go_roundw
              case rel => exact ⟨k + 1, s, by omega, by go_num, AP.out.next, S8.out, C8.out, X8.out, F8.out⟩
              case measure => simp [intOf]; omega
          · have hkb : (K == 1) = false := by simp [hk1]
            clear hk1
            cases hi : s.isB y.f y.d y.g with
            | true =>
              have hi' := hi
              unfold RS.isB at hi'
              simp only [Bool.and_eq_true, decide_eq_true_eq, AP.out.n] at hi'
              obtain ⟨⟨hpm, hpl⟩, hpg⟩ := hi'
              have HK := Lib.hid (show Key 7 y.f y.d (keyN y.f y.d) from may_key hpm)
              obtain ⟨j, hj⟩ : ∃ j, j = keyN y.f y.d := ⟨_, rfl⟩
              rw [← hj] at HK hpl hpg
              have HKN := Lib.hid (show Key s.n y.f y.d j by rw [AP.out.n]; exact HK.out)
              obtain ⟨c', hc'⟩ : ∃ c', (s.clear j).lit.length = c' := ⟨_, rfl⟩
              have hcc' : c' + 1 = c := by have := clear_len s j hpl (by have := HKN.out.hi; omega); rw [hc', HCN.out] at this; exact this
              have HLEN := Lib.hid hc'
              have AP' := Lib.hid (AP.out.clear HK.out HNE.out)
              have H1 := Lib.hid (clear_yes p s y.f y.d j y.g w5 S6.out HN64.out HKN.out hpl hpg)
              clear hi hpm hpl hpg hj hc'
              go_wp2_with fail
              refine H1.out.mono ?_
              rintro e w6 ⟨rfl, hs, hf⟩
              have hpn := HP.out
              have hpx := HPX.out
              have S7 := Lib.hid hs
              have F7 := Lib.hid (F6.out.new hf (by simp; omega))
              have C7 := Lib.hid (hf.heap C6.out (by simp; omega))
              have X7 := Lib.hid (hf.heap X6.out (by simp; omega))
              clear hs hf g0 g1 g2 g3 hb hpn hpx H1
              go_wp2_with fail
              refine (lit_any p _ _ S7.out AP'.out.ok).mono ?_
              rintro e w7 ⟨u, rfl, ho, hf⟩
              obtain ⟨av, cv, rfl⟩ := ho.shape
              rw [HLEN.out]
              have S8 := Lib.hid (S7.out.keep hf)
              have F8 := Lib.hid (F7.out.trans hf)
              have C8 := Lib.hid (hf.heap C7.out (by simp))
              have X8 := Lib.hid (hf.heap X7.out (by simp))
              clear ho hf
              have hcc : ((c' : Int) == (c : Int) - 1) = true := by simp; omega
              go_wp2
              go_roundw
              case rel => exact ⟨k + 1, _, by omega, by go_num, AP'.out, S8.out, C8.out, X8.out, F8.out⟩
              case measure => simp [intOf]; omega
            | false =>
              have H1 := Lib.hid (clear_no p s y.f y.d y.g w5 S6.out HN64.out hi)
              clear hi
              go_wp2_with fail
              refine H1.out.mono ?_
              rintro e w6 ⟨rfl, hf⟩
              have S7 := Lib.hid (S6.out.keep hf)
              have F7 := Lib.hid (F6.out.trans hf)
              have C7 := Lib.hid (hf.heap C6.out (by simp))
              have X7 := Lib.hid (hf.heap X6.out (by simp))
              clear hf g0 g1 g2 g3 hb H1
              go_wp2_with fail
              refine (lit_any p _ _ S7.out AP.out.ok).mono ?_
              rintro e w7 ⟨u, rfl, ho, hf⟩
              obtain ⟨av, cv, rfl⟩ := ho.shape
              rw [HCN.out]
              have S8 := Lib.hid (S7.out.keep hf)
              have F8 := Lib.hid (F7.out.trans hf)
              have C8 := Lib.hid (hf.heap C7.out (by simp))
              have X8 := Lib.hid (hf.heap X7.out (by simp))
              clear ho hf
              have hcc : ((c : Int) == (c : Int) - 1) = false := by simp; omega
              go_wp2
              go_roundw
              case rel => exact ⟨k + 1, s, by omega, by go_num, AP.out.next, S8.out, C8.out, X8.out, F8.out⟩
              case measure => simp [intOf]; omega
      · obtain rfl : k = l.length := by omega
        obtain ⟨q0, q1⟩ := row2 C4.out
        have HN64 := Lib.hid (show s.n ≤ 64 by rw [AP.out.n]; omega)
        cases b with
        | false =>
          go_wp2_with fail
          refine (may_at 7 _ (by rfl) (by omega) _ _ _ false HB.out).mono ?_
          rintro e w4 ⟨rfl, hf⟩
          have F5 := Lib.hid (F4.out.trans hf)
          clear hf q0 q1
          go_wp2
          go_ret
          exact ⟨rfl, F5.out.grown (by simp)⟩
        | true =>
          have hxe := HX.out rfl
          subst hxe
          obtain ⟨r0, r1, r2⟩ := row3 X4.out
          (try dsimp only at r0 r1 r2)
          obtain ⟨mL, mG⟩ := AP.out.me HB.out
          have HK := Lib.hid (show Key s.n f d (keyN f d) by rw [AP.out.n]; exact may_key HB.out)
          have HIS := Lib.hid (show s.isB f d 1 = true by unfold RS.isB; rw [AP.out.n, HB.out, mL, mG]; rfl)
          have HGN := Lib.hid (show s.genB f d = 1 by unfold RS.genB; rw [AP.out.n, HB.out, mG]; rfl)
          have HIN := Lib.hid (show (s.clear (keyN f d)).isB f d 1 = false by unfold RS.isB; rw [show (s.clear (keyN f d)).L (keyN f d) = false by simp [RS.clear, updB]]; simp)
          have HML := Lib.hid (And.intro mL mG)
          clear mL mG
          go_wp2_with fail
          refine (may_at 7 _ (by rfl) (by omega) _ _ _ true HB.out).mono ?_
          rintro e w4 ⟨rfl, hf⟩
          have F5 := Lib.hid (F4.out.trans hf)
          have S5 := Lib.hid (S4.out.keep hf)
          have C5 := Lib.hid (hf.heap C4.out (by simp))
          have X5 := Lib.hid (hf.heap X4.out (by simp))
          clear hf q0 q1 r0 r1 r2
          obtain ⟨r0, r1, r2⟩ := row3 X5.out
          (try dsimp only at r0 r1 r2)
          go_wp2_with fail
          refine (is_any p s f d 1 _ S5.out HN64.out true HIS.out).mono ?_
          rintro e w5 ⟨rfl, hf⟩
          have F6 := Lib.hid (F5.out.trans hf)
          have S6 := Lib.hid (S5.out.keep hf)
          have C6 := Lib.hid (hf.heap C5.out (by simp))
          have X6 := Lib.hid (hf.heap X5.out (by simp))
          clear hf r0 r1 r2
          obtain ⟨q0, q1⟩ := row2 C6.out
          have hgen := gen_any p s f d w5 S6.out HN64.out
          rw [HGN.out] at hgen
          have HGEN := Lib.hid hgen
          clear hgen
          go_wp2_with fail
          refine HGEN.out.mono ?_
          rintro e w6 ⟨rfl, hf⟩
          have F7 := Lib.hid (F6.out.trans hf)
          have S7 := Lib.hid (S6.out.keep hf)
          have X7 := Lib.hid (hf.heap X6.out (by simp))
          clear hf q0 q1 HGEN
          obtain ⟨r0, r1, r2⟩ := row3 X7.out
          (try dsimp only at r0 r1 r2)
          go_wp2_with fail
          refine (clear_yes p s f d _ 1 _ S7.out HN64.out HK.out HML.out.1 HML.out.2).mono ?_
          rintro e w7 ⟨rfl, hs, hf⟩
          have F8 := Lib.hid (F7.out.new hf (by simp; have := HP.out; omega))
          have S8 := Lib.hid hs
          have X8 := Lib.hid (hf.heap X7.out (by simp; have := HPX.out; omega))
          clear hs hf r0 r1 r2
          obtain ⟨r0, r1, r2⟩ := row3 X8.out
          (try dsimp only at r0 r1 r2)
          go_wp2_with fail
          refine (is_any p _ f d 1 _ S8.out (by show s.n ≤ 64; exact HN64.out) false HIN.out).mono ?_
          rintro e w8 ⟨rfl, hf⟩
          have F9 := Lib.hid (F8.out.trans hf)
          clear hf r0 r1 r2
          go_wp2
          go_ret
          exact ⟨rfl, F9.out.grown (by simp)⟩
  · have hl' : ((l.length : Int) > 30) := by omega
    go_enter Tryd.func3, Tryd.ntmps3
    go_wp2_with fail
    refine (first_any _).mono ?_
    rintro e w1 ⟨rfl, hf⟩
    have F1 := Lib.hid (AB.out.trans hf)
    clear hf
    go_wp2_with fail
    refine (new_at 7 _ (by rfl) (by omega) (by omega) _).mono ?_
    rintro e w2 ⟨rfl, hs, hf⟩
    have F2 := Lib.hid (F1.out.trans hf)
    clear hs hf
    go_wp2
    go_ret
    exact ⟨rfl, F2.out.grown (by simp)⟩
end Go.Proofs.YtndjmpjgahmnoaaDoor
