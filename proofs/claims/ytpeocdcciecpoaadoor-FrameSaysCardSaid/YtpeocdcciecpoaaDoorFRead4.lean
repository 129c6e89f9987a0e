/- What is behind a frame's head is read. -/
import Derived.Test.YtpeocdcciecpoaaDoorFRead3
namespace Go.Proofs.YtpeocdcciecpoaaDoor
open Go.RowKit Fm

theorem bool_any (p : Nat) (l : List Int) (k c : Nat) (w : World) (A : Nat → Addr) (B : Nat) (h : RS w A B p l k c) (x : Int) (k' c' : Nat) (hn : Fm.num 0 1 l k c = (x, k', c')) :
    Calls Tryd.prog 70 #[.pointer (some ⟨p, 0, none⟩)] w fun e w' => e = .returned (.bool (x == 1)) ∧ RS w' A B p l k' c' ∧ Fr w w' [p] := by
  have H := Lib.hid h
  have HN := Lib.hid hn
  clear h hn
  go_enter Tryd.func70, Tryd.ntmps70
  go_wp2_with fail
  refine (num_any p l k c 0 1 _ A B H.out x k' c' HN.out).mono ?_
  rintro e w1 ⟨rfl, h1, h2⟩
  go_wp2
  go_ret
  exact ⟨rfl, h1, h2⟩
theorem err_of (p : Nat) (l : List Int) (k c : Nat) (w : World) (A : Nat → Addr) (B : Nat) (h : RS w A B p l k c) (hc : c ≠ 0) :
    Calls Tryd.prog 72 #[.pointer (some ⟨p, 0, none⟩)] w (Gives fun u w' => AtErr w' A u k c ∧ Fr w w' []) :=
  (err_bad p l k w A B c h.rd hc).mono fun _ _ ⟨v, he, h1, h2⟩ => ⟨v, he, h1, Fr.of_grown h2 []⟩
theorem err_no (p : Nat) (l : List Int) (k : Nat) (w : World) (A : Nat → Addr) (B : Nat) (h : RS w A B p l k 0) :
    Calls Tryd.prog 72 #[.pointer (some ⟨p, 0, none⟩)] w fun e w' => e = .returned .nilIface ∧ w = w' := err_nil p l k w B h.rd
theorem left_of (p : Nat) (l : List Int) (k c : Nat) (w : World) (A : Nat → Addr) (B : Nat) (h : RS w A B p l k c) :
    Calls Tryd.prog 73 #[.pointer (some ⟨p, 0, none⟩)] w fun e w' => e = .returned (.int .i64 ((l.length - k : Nat) : Int)) ∧ Fr w w' [] :=
  (left_any p l k w B _ h.rd h.hk).mono fun _ _ ⟨he, h1⟩ => ⟨he, h1.fr []⟩

/-- What readBody hands back: of what was read the frame f, its place k, its error c. -/
def BodyE (A : Nat → Addr) (p : Nat) (l : List Int) (f : F) (k c : Nat) (w0 : World) (e : Ending) (w' : World) : Prop :=
  Fr w0 w' [p] ∧
  ((c ≠ 0 ∧ ∃ u, e = .returned (.tuple #[frV zeroF (.slice none 0 0) (.slice none 0 0), u]) ∧ AtErr w' A u k c) ∨
   (c = 0 ∧ k < l.length ∧ e = .returned (.tuple #[frV zeroF (.slice none 0 0) (.slice none 0 0), ev A 2])) ∨
   (c = 0 ∧ ¬ k < l.length ∧ ∃ vm ve xs, e = .returned (.tuple #[frV f vm ve, .nilIface]) ∧ OwnI w' w0.heap.size vm f.rg.ms ∧ OwnE w' w0.heap.size ve xs ∧ xs.map (·.1) = f.rg.es))
theorem setc {w : World} {g : Nat} {cs : Array Value} {T : TypeId} (h : w.heap[g]? = some (.cells cs T (0, 0))) (i : Nat) (v : Value) : (w.setCell ⟨g, i, none⟩ v).heap[g]? = some (.cells (cs.setIfInBounds i v) T (0, 0)) := heap_setCell_same w g i cs T v h
theorem frz11 {w : World} {g : Nat} {cs : Array Value} {T : TypeId} (h : w.heap[g]? = some (.cells cs T (0, 0))) (i : Nat) : w.frozen? ⟨g, i, none⟩ = false := frozen_of_row w g i _ _ h
theorem set11 (w : World) (g : Nat) (v0 v1 v2 v3 v4 v5 v6 v7 v8 v9 v10 : Value) : Fr w (((((((((((w.setCell ⟨g, 0, none⟩ v0).setCell ⟨g, 1, none⟩ v1).setCell ⟨g, 2, none⟩ v2).setCell ⟨g, 3, none⟩ v3).setCell ⟨g, 4, none⟩ v4).setCell ⟨g, 5, none⟩ v5).setCell ⟨g, 6, none⟩ v6).setCell ⟨g, 7, none⟩ v7).setCell ⟨g, 8, none⟩ v8).setCell ⟨g, 9, none⟩ v9).setCell ⟨g, 10, none⟩ v10) [g] :=
  ((((((((((Fr.setCell w g 0 v0 (by simp)).trans (Fr.setCell _ g 1 v1 (by simp))).trans (Fr.setCell _ g 2 v2 (by simp))).trans (Fr.setCell _ g 3 v3 (by simp))).trans (Fr.setCell _ g 4 v4 (by simp))).trans (Fr.setCell _ g 5 v5 (by simp))).trans (Fr.setCell _ g 6 v6 (by simp))).trans (Fr.setCell _ g 7 v7 (by simp))).trans (Fr.setCell _ g 8 v8 (by simp))).trans (Fr.setCell _ g 9 v9 (by simp))).trans (Fr.setCell _ g 10 v10 (by simp))
theorem AtErr.fr {w w' : World} {A : Nat → Addr} {u : Value} {k c : Nat} {S : List Nat} (h : AtErr w A u k c) (hf : Fr w w' S) (hS : ∀ r ∈ S, ∃ cs T, w.heap[r]? = some (.cells cs T (0, 0)) ∧ T ≠ 116) : AtErr w' A u k c := by
  obtain ⟨q, rfl, hq⟩ := h
  refine ⟨q, rfl, hf.heap hq (fun hm => ?_)⟩
  obtain ⟨cs, T, hc, hT⟩ := hS q hm
  rw [hq] at hc
  simp at hc
  exact hT hc.2.symm

set_option maxHeartbeats 4000000 in
set_option maxRecDepth 100000 in
theorem readBody_any (p : Nat) (l : List Int) (k c : Nat) (ki : Int) (w : World) (A : Nat → Addr) (B : Nat) (h : RS w A B p l k c) (f : F) (k' c' : Nat) (hn : Fm.rdBody ki l k c = (f, k', c')) :
    Calls Tryd.prog 41 #[.pointer (some ⟨p, 0, none⟩), .int .i64 ki] w (BodyE A p l f k' c' w) := by
  have HN := Lib.hid hn
  have HP := Lib.hid h.lt
  have HF0 := Lib.hid (Fr.alloc w (.cells #[.int .i64 0, .int .i64 0, .int .i64 0, .int .i64 0, .int .i64 0, .bool false, .int .i64 0, .int .i64 0, .int .i64 0, .slice none 0 0, .slice none 0 0] 29) [p])
  have HG0 := Lib.hid (heap_alloc_new w (.cells #[.int .i64 0, .int .i64 0, .int .i64 0, .int .i64 0, .int .i64 0, .bool false, .int .i64 0, .int .i64 0, .int .i64 0, .slice none 0 0, .slice none 0 0] 29))
  have H0 := Lib.hid (h.keep (Fr.alloc w (.cells #[.int .i64 0, .int .i64 0, .int .i64 0, .int .i64 0, .int .i64 0, .bool false, .int .i64 0, .int .i64 0, .int .i64 0, .slice none 0 0, .slice none 0 0] 29) []))
  obtain ⟨x1, k1, c1, h1⟩ : ∃ x k' c', Fm.num 0 15 l k c = (x, k', c') := ⟨_, _, _, rfl⟩
  obtain ⟨x2, k2, c2, h2⟩ : ∃ x k' c', Fm.num 0 15 l k1 c1 = (x, k', c') := ⟨_, _, _, rfl⟩
  have H1 := Lib.hid h1
  have H2 := Lib.hid h2
  clear h hn h1 h2
  by_cases hki : ki = 1
  · have e1 : (ki == 1) = true := by simp [hki]
    obtain ⟨x3, k3, c3, h3⟩ : ∃ x k' c', Fm.num 0 281474976710655 l k2 c2 = (x, k', c') := ⟨_, _, _, rfl⟩
    obtain ⟨x4, k4, c4, h4⟩ : ∃ x k' c', Fm.num 0 281474976710655 l k3 c3 = (x, k', c') := ⟨_, _, _, rfl⟩
    obtain ⟨x5, k5, c5, h5⟩ : ∃ x k' c', Fm.num 0 1 l k4 c4 = (x, k', c') := ⟨_, _, _, rfl⟩
    have H3 := Lib.hid h3
    have H4 := Lib.hid h4
    have H5 := Lib.hid h5
    have HRE : Hid (f = ⟨ki, x1, x2, x3, x4, x5 == 1, zeroR⟩ ∧ k' = k5 ∧ c' = c5) := by
      have := HN.out
      simp only [rdBody, Fm.bind, H1.out, H2.out, rdBeat, if_pos hki, H3.out, H4.out, H5.out, Fm.ret, Prod.mk.injEq] at this
      exact ⟨this.1.symm, this.2.1.symm, this.2.2.symm⟩
    obtain ⟨b5, hb5⟩ : ∃ b, b = (x5 == 1) := ⟨_, rfl⟩
    clear h3 h4 h5 hki
    go_enter Tryd.func41, Tryd.ntmps41
    go_wp2_with fail
    refine (readCar_any p l k c _ A B H0.out x1 k1 c1 H1.out).mono ?_
    rintro e w1 ⟨rfl, hs, hf⟩
    have S1 := Lib.hid hs
    have F1 := Lib.hid (HF0.out.trans hf)
    have G1 := Lib.hid (hf.heap HG0.out (by have := HP.out; simp; omega))
    clear hs hf
    go_wp2_with fail
    refine (readCar_any p l k1 c1 _ A B S1.out x2 k2 c2 H2.out).mono ?_
    rintro e w3 ⟨rfl, hs, hf⟩
    have S3 := Lib.hid hs
    have F3 := Lib.hid (F1.out.trans hf)
    have G3 := Lib.hid (hf.heap G1.out (by have := HP.out; simp; omega))
    clear hs hf S1 F1 G1
    have hab := Lib.hid (Fr.alloc w3 (.cells #[.int .i64 ki, .int .i64 x1, .int .i64 x2, .int .i64 0, .int .i64 0, .bool false, .int .i64 0, .int .i64 0, .int .i64 0, .slice none 0 0, .slice none 0 0] 29) [])
    have hbx := Lib.hid (heap_alloc_new w3 (.cells #[.int .i64 ki, .int .i64 x1, .int .i64 x2, .int .i64 0, .int .i64 0, .bool false, .int .i64 0, .int .i64 0, .int .i64 0, .slice none 0 0, .slice none 0 0] 29))
    have S5 := Lib.hid (S3.out.keep hab.out)
    have F5 := Lib.hid (F3.out.trans (hab.out.mono (by simp)))
    have G5 := Lib.hid (hab.out.heap G3.out (by simp))
    have HW4 := Lib.hid (show w.heap.size + 1 ≤ w3.heap.size from by have := size_of_row G3.out; omega)
    clear S3 F3 G3 hab
    go_wp2_with fail
    refine (num_any p l k2 c2 0 281474976710655 _ A B S5.out x3 k3 c3 H3.out).mono ?_
    rintro e w4 ⟨rfl, hs, hf⟩
    have S6 := Lib.hid hs
    have F6 := Lib.hid (F5.out.trans hf)
    have G6 := Lib.hid (hf.heap G5.out (by have := HP.out; simp; omega))
    have B6 := Lib.hid (hf.heap hbx.out (by have := HP.out; have := HW4.out; simp; omega))
    clear hs hf S5 F5 G5 hbx
    go_wp2_with fail
    refine (num_any p l k3 c3 0 281474976710655 _ A B S6.out x4 k4 c4 H4.out).mono ?_
    rintro e w5 ⟨rfl, hs, hf⟩
    have S7 := Lib.hid hs
    have F7 := Lib.hid (F6.out.trans hf)
    have G7 := Lib.hid (hf.heap G6.out (by have := HP.out; simp; omega))
    have B7 := Lib.hid (hf.heap B6.out (by have := HP.out; have := HW4.out; simp; omega))
    clear hs hf S6 F6 G6 B6
    go_wp2_with fail
    refine (bool_any p l k4 c4 _ A B S7.out x5 k5 c5 H5.out).mono ?_
    rintro e w6 ⟨rfl, hs, hf⟩
    rw [← hb5]
    have S8 := Lib.hid hs
    have F8 := Lib.hid (F7.out.trans hf)
    have G8 := Lib.hid (hf.heap G7.out (by have := HP.out; simp; omega))
    have B8 := Lib.hid (hf.heap B7.out (by have := HP.out; have := HW4.out; simp; omega))
    have q3 := (row11 B8.out).2.2.2.1
    have q4 := (row11 B8.out).2.2.2.2.1
    have q5 := (row11 B8.out).2.2.2.2.2.1
    have z3 := frz11 B8.out 3
    have z4 := frz11 B8.out 4
    have z5 := frz11 B8.out 5
    have HB5 := Lib.hid hb5
    clear hs hf S7 F7 G7 B7 hb5
    have FS := Lib.hid (((Fr.setCell w6 w3.heap.size 3 (.int .i64 x3) (S := [w3.heap.size]) (by simp)).trans (Fr.setCell _ w3.heap.size 4 (.int .i64 x4) (by simp))).trans (Fr.setCell _ w3.heap.size 5 (.bool b5) (by simp)))
    have BS := Lib.hid (setc (setc (setc B8.out 3 (.int .i64 x3)) 4 (.int .i64 x4)) 5 (.bool b5))
    have SS := Lib.hid (S8.out.fr FS.out (by have := HP.out; have := HW4.out; simp; omega) (by intro r hr; obtain rfl := List.mem_singleton.1 hr; have := S8.out.low; have := HP.out; have := HW4.out; omega) (by intro r hr; obtain rfl := List.mem_singleton.1 hr; exact ⟨_, _, B8.out, by decide⟩))
    have GS := Lib.hid (FS.out.heap G8.out (by have := HW4.out; simp; omega))
    have F9 := Lib.hid (F8.out.new FS.out (by have := HW4.out; simp; omega))
    generalize hW : ((w6.setCell ⟨w3.heap.size, 3, none⟩ (.int .i64 x3)).setCell ⟨w3.heap.size, 4, none⟩ (.int .i64 x4)).setCell ⟨w3.heap.size, 5, none⟩ (.bool b5) = w7 at BS SS GS F9
    have BS2 : Hid (w7.heap[w3.heap.size]? = some (.cells #[.int .i64 ki, .int .i64 x1, .int .i64 x2, .int .i64 x3, .int .i64 x4, .bool b5, .int .i64 0, .int .i64 0, .int .i64 0, .slice none 0 0, .slice none 0 0] 29 (0, 0))) := BS.out
    obtain rfl := HRE.out.2.1
    obtain rfl := HRE.out.2.2
    have HFE := Lib.hid HRE.out.1
    by_cases hc : c' = 0
    rotate_left
    · have HC := Lib.hid hc
      clear hc
      go_wp2_with fail
      refine (err_of p l k' c' _ A B SS.out HC.out).mono ?_
      rintro e w8 ⟨u, rfl, ⟨q, rfl, hq⟩, hf⟩
      have HQ := Lib.hid hq
      have HF8 := Lib.hid hf
      have GZ := Lib.hid (hf.heap GS.out (by simp))
      have gk := row11 GZ.out
      have y0 := frz11 GZ.out 0
      have y1 := frz11 GZ.out 1
      have y2 := frz11 GZ.out 2
      have y3 := frz11 GZ.out 3
      have y4 := frz11 GZ.out 4
      have y5 := frz11 GZ.out 5
      have y6 := frz11 GZ.out 6
      have y7 := frz11 GZ.out 7
      have y8 := frz11 GZ.out 8
      have y9 := frz11 GZ.out 9
      have y10 := frz11 GZ.out 10
      clear hq hf
      go_wp2
      have FZ := Lib.hid (set11 w8 w.heap.size (.int .i64 0) (.int .i64 0) (.int .i64 0) (.int .i64 0) (.int .i64 0) (.bool false) (.int .i64 0) (.int .i64 0) (.int .i64 0) (.slice none 0 0) (.slice none 0 0))
      have HR : Hid (BodyE A p l f k' c' w (.returned (.tuple #[frV zeroF (.slice none 0 0) (.slice none 0 0), .iface 112 (.pointer (some ⟨q, 0, none⟩))])) (((((((((((w8.setCell ⟨w.heap.size, 0, none⟩ (.int .i64 0)).setCell ⟨w.heap.size, 1, none⟩ (.int .i64 0)).setCell ⟨w.heap.size, 2, none⟩ (.int .i64 0)).setCell ⟨w.heap.size, 3, none⟩ (.int .i64 0)).setCell ⟨w.heap.size, 4, none⟩ (.int .i64 0)).setCell ⟨w.heap.size, 5, none⟩ (.bool false)).setCell ⟨w.heap.size, 6, none⟩ (.int .i64 0)).setCell ⟨w.heap.size, 7, none⟩ (.int .i64 0)).setCell ⟨w.heap.size, 8, none⟩ (.int .i64 0)).setCell ⟨w.heap.size, 9, none⟩ (.slice none 0 0)).setCell ⟨w.heap.size, 10, none⟩ (.slice none 0 0))) :=
        ⟨(F9.out.trans (HF8.out.mono (by simp))).new FZ.out (by simp), .inl ⟨HC.out, _, rfl, AtErr.fr ⟨q, rfl, HQ.out⟩ FZ.out (by intro r hr; obtain rfl := List.mem_singleton.1 hr; exact ⟨_, _, GZ.out, by decide⟩)⟩⟩
      exact bodyPost_ret (v := .tuple #[.agg #[.int .i64 0, .int .i64 0, .int .i64 0, .int .i64 0, .int .i64 0, .bool false, .int .i64 0, .int .i64 0, .int .i64 0, .slice none 0 0, .slice none 0 0], .iface 112 (.pointer (some ⟨q, 0, none⟩))]) (by simp [results, Tryd.results41, go_sem, gk]) rfl HR.out
    · subst hc
      obtain ⟨L, hL⟩ : ∃ L, L = l.length - k' := ⟨_, rfl⟩
      have HL := Lib.hid hL
      clear hL
      go_wp2_with fail
      refine (err_no p l k' _ A B SS.out).mono ?_
      rintro e w8 ⟨rfl, rfl⟩
      go_wp2_with fail
      refine (left_of p l k' 0 _ A B SS.out).mono ?_
      rintro e w9 ⟨rfl, hf⟩
      rw [← HL.out]
      have HF9 := Lib.hid hf
      have GZ := Lib.hid (hf.heap GS.out (by simp))
      have BZ := Lib.hid (hf.heap BS2.out (by simp))
      clear hf
      by_cases hlt : 0 < L
      · have hsh : w9.cell? ⟨2, 0, none⟩ = some (.iface 137 (.pointer (some (A 2)))) := (SS.out.keep HF9.out).e3.2.1.1
        have gk := row11 GZ.out
        have y0 := frz11 GZ.out 0
        have y1 := frz11 GZ.out 1
        have y2 := frz11 GZ.out 2
        have y3 := frz11 GZ.out 3
        have y4 := frz11 GZ.out 4
        have y5 := frz11 GZ.out 5
        have y6 := frz11 GZ.out 6
        have y7 := frz11 GZ.out 7
        have y8 := frz11 GZ.out 8
        have y9 := frz11 GZ.out 9
        have y10 := frz11 GZ.out 10
        have hne1 : w.heap.size ≠ 2 := by have h1 := SS.out.e3.2.1.2; have h2 := SS.out.low; have h3 := HP.out; omega
        have hne2 : 2 ≠ w.heap.size := fun e => hne1 e.symm
        have FZ := Lib.hid (set11 w9 w.heap.size (.int .i64 0) (.int .i64 0) (.int .i64 0) (.int .i64 0) (.int .i64 0) (.bool false) (.int .i64 0) (.int .i64 0) (.int .i64 0) (.slice none 0 0) (.slice none 0 0))
        go_wp2
        go_region
        all_goals go_wp2
        all_goals
          have HR : Hid (BodyE A p l f k' 0 w (.returned (.tuple #[frV zeroF (.slice none 0 0) (.slice none 0 0), ev A 2])) (((((((((((w9.setCell ⟨w.heap.size, 0, none⟩ (.int .i64 0)).setCell ⟨w.heap.size, 1, none⟩ (.int .i64 0)).setCell ⟨w.heap.size, 2, none⟩ (.int .i64 0)).setCell ⟨w.heap.size, 3, none⟩ (.int .i64 0)).setCell ⟨w.heap.size, 4, none⟩ (.int .i64 0)).setCell ⟨w.heap.size, 5, none⟩ (.bool false)).setCell ⟨w.heap.size, 6, none⟩ (.int .i64 0)).setCell ⟨w.heap.size, 7, none⟩ (.int .i64 0)).setCell ⟨w.heap.size, 8, none⟩ (.int .i64 0)).setCell ⟨w.heap.size, 9, none⟩ (.slice none 0 0)).setCell ⟨w.heap.size, 10, none⟩ (.slice none 0 0)).drew) :=
            ⟨((F9.out.trans (HF9.out.mono (by simp))).new FZ.out (by simp)).trans (Fr.drew _ _), .inr (.inl ⟨rfl, by have := HL.out; omega, rfl⟩)⟩
          exact bodyPost_ret (v := .tuple #[.agg #[.int .i64 0, .int .i64 0, .int .i64 0, .int .i64 0, .int .i64 0, .bool false, .int .i64 0, .int .i64 0, .int .i64 0, .slice none 0 0, .slice none 0 0], .iface 137 (.pointer (some (A 2)))]) (by simp [results, Tryd.results41, go_sem, gk]) rfl HR.out
      · have gk := row11 GZ.out
        have y0 := frz11 GZ.out 0
        have y1 := frz11 GZ.out 1
        have y2 := frz11 GZ.out 2
        have y3 := frz11 GZ.out 3
        have y4 := frz11 GZ.out 4
        have y5 := frz11 GZ.out 5
        have y6 := frz11 GZ.out 6
        have y7 := frz11 GZ.out 7
        have y8 := frz11 GZ.out 8
        have y9 := frz11 GZ.out 9
        have y10 := frz11 GZ.out 10
        have hk := row11 BZ.out
        have FZ := Lib.hid (set11 w9 w.heap.size (.int .i64 ki) (.int .i64 x1) (.int .i64 x2) (.int .i64 x3) (.int .i64 x4) (.bool b5) (.int .i64 0) (.int .i64 0) (.int .i64 0) (.slice none 0 0) (.slice none 0 0))
        go_wp2
        have HR : Hid (BodyE A p l f k' 0 w (.returned (.tuple #[.agg #[.int .i64 ki, .int .i64 x1, .int .i64 x2, .int .i64 x3, .int .i64 x4, .bool b5, .int .i64 0, .int .i64 0, .int .i64 0, .slice none 0 0, .slice none 0 0], .nilIface])) (((((((((((w9.setCell ⟨w.heap.size, 0, none⟩ (.int .i64 ki)).setCell ⟨w.heap.size, 1, none⟩ (.int .i64 x1)).setCell ⟨w.heap.size, 2, none⟩ (.int .i64 x2)).setCell ⟨w.heap.size, 3, none⟩ (.int .i64 x3)).setCell ⟨w.heap.size, 4, none⟩ (.int .i64 x4)).setCell ⟨w.heap.size, 5, none⟩ (.bool b5)).setCell ⟨w.heap.size, 6, none⟩ (.int .i64 0)).setCell ⟨w.heap.size, 7, none⟩ (.int .i64 0)).setCell ⟨w.heap.size, 8, none⟩ (.int .i64 0)).setCell ⟨w.heap.size, 9, none⟩ (.slice none 0 0)).setCell ⟨w.heap.size, 10, none⟩ (.slice none 0 0))) :=
          ⟨(F9.out.trans (HF9.out.mono (by simp))).new FZ.out (by simp), .inr (.inr ⟨rfl, by have := HL.out; have := SS.out.hk; omega, by rw [HFE.out]; rw [HB5.out]; exact ⟨_, _, [], rfl, ⟨rfl, .inl ⟨rfl, rfl⟩⟩, ⟨⟨rfl, .inl ⟨rfl, rfl⟩⟩, by simp⟩, rfl⟩⟩)⟩
        exact bodyPost_ret (v := .tuple #[.agg #[.int .i64 ki, .int .i64 x1, .int .i64 x2, .int .i64 x3, .int .i64 x4, .bool b5, .int .i64 0, .int .i64 0, .int .i64 0, .slice none 0 0, .slice none 0 0], .nilIface]) (by simp [results, Tryd.results41, go_sem, gk]) rfl HR.out
  · have e1 : (ki == 1) = false := by simp [hki]
    obtain ⟨R, k5, c5, h5⟩ : ∃ x k' c', Fm.rdRg l k2 c2 = (x, k', c') := ⟨_, _, _, rfl⟩
    have H5 := Lib.hid h5
    have HRE : Hid (f = ⟨ki, x1, x2, 0, 0, false, R⟩ ∧ k' = k5 ∧ c' = c5) := by
      have := HN.out
      simp only [rdBody, Fm.bind, H1.out, H2.out, rdToken, if_neg hki, H5.out, Fm.ret, Prod.mk.injEq] at this
      exact ⟨this.1.symm, this.2.1.symm, this.2.2.symm⟩
    clear h5 hki
    go_enter Tryd.func41, Tryd.ntmps41
    go_wp2_with fail
    refine (readCar_any p l k c _ A B H0.out x1 k1 c1 H1.out).mono ?_
    rintro e w1 ⟨rfl, hs, hf⟩
    have S1 := Lib.hid hs
    have F1 := Lib.hid (HF0.out.trans hf)
    have G1 := Lib.hid (hf.heap HG0.out (by have := HP.out; simp; omega))
    clear hs hf
    go_wp2_with fail
    refine (readCar_any p l k1 c1 _ A B S1.out x2 k2 c2 H2.out).mono ?_
    rintro e w3 ⟨rfl, hs, hf⟩
    have S3 := Lib.hid hs
    have F3 := Lib.hid (F1.out.trans hf)
    have G3 := Lib.hid (hf.heap G1.out (by have := HP.out; simp; omega))
    clear hs hf S1 F1 G1
    have hab := Lib.hid (Fr.alloc w3 (.cells #[.int .i64 ki, .int .i64 x1, .int .i64 x2, .int .i64 0, .int .i64 0, .bool false, .int .i64 0, .int .i64 0, .int .i64 0, .slice none 0 0, .slice none 0 0] 29) [])
    have hbx := Lib.hid (heap_alloc_new w3 (.cells #[.int .i64 ki, .int .i64 x1, .int .i64 x2, .int .i64 0, .int .i64 0, .bool false, .int .i64 0, .int .i64 0, .int .i64 0, .slice none 0 0, .slice none 0 0] 29))
    have S5 := Lib.hid (S3.out.keep hab.out)
    have F5 := Lib.hid (F3.out.trans (hab.out.mono (by simp)))
    have G5 := Lib.hid (hab.out.heap G3.out (by simp))
    have HW4 := Lib.hid (show w.heap.size + 1 ≤ w3.heap.size from by have := size_of_row G3.out; omega)
    clear S3 F3 G3 hab
    go_wp2_with fail
    refine (readRing_any p l k2 c2 _ A B S5.out R k5 c5 H5.out).mono ?_
    rintro e w6 ⟨v, rfl, vm, ve, xs, rfl, hom, hoe, hxs, hs, hf⟩
    obtain ⟨r1, r2, r3, ms, es⟩ := R
    unfold rgV
    obtain ⟨zm, cm, rfl⟩ := hom.holds.shape
    obtain ⟨ze, ce, hve⟩ := hoe.he.shape
    rw [List.length_map] at hve
    subst hve
    simp only at hom hxs
    have OM := Lib.hid (row_mono hom (show w.heap.size ≤ _ by have := HW4.out; simp; omega))
    have OE := Lib.hid (hoe.mono (show w.heap.size ≤ _ by have := HW4.out; simp; omega))
    have HXS := Lib.hid hxs
    have S8 := Lib.hid hs
    have F8 := Lib.hid (F5.out.trans hf)
    have G8 := Lib.hid (hf.heap G5.out (by have := HP.out; simp; omega))
    have B8 := Lib.hid (hf.heap hbx.out (by have := HP.out; have := HW4.out; simp; omega))
    have q6 := (row11 B8.out).2.2.2.2.2.2
    have z6 := frz11 B8.out 6
    have z7 := frz11 B8.out 7
    have z8 := frz11 B8.out 8
    have z9 := frz11 B8.out 9
    have z10 := frz11 B8.out 10
    clear hs hf hom hoe hxs S5 F5 G5 hbx
    have FS := Lib.hid (((((Fr.setCell w6 w3.heap.size 6 (.int .i64 r1) (S := [w3.heap.size]) (by simp)).trans (Fr.setCell _ w3.heap.size 7 (.int .i64 r2) (by simp))).trans (Fr.setCell _ w3.heap.size 8 (.int .i64 r3) (by simp))).trans (Fr.setCell _ w3.heap.size 9 (.slice zm ms.length cm) (by simp))).trans (Fr.setCell _ w3.heap.size 10 (.slice ze xs.length ce) (by simp)))
    have BS := Lib.hid (setc (setc (setc (setc (setc B8.out 6 (.int .i64 r1)) 7 (.int .i64 r2)) 8 (.int .i64 r3)) 9 (.slice zm ms.length cm)) 10 (.slice ze xs.length ce))
    have SS := Lib.hid (S8.out.fr FS.out (by have := HP.out; have := HW4.out; simp; omega) (by intro r hr; obtain rfl := List.mem_singleton.1 hr; have := S8.out.low; have := HP.out; have := HW4.out; omega) (by intro r hr; obtain rfl := List.mem_singleton.1 hr; exact ⟨_, _, B8.out, by decide⟩))
    have GS := Lib.hid (FS.out.heap G8.out (by have := HW4.out; simp; omega))
    have F9 := Lib.hid (F8.out.new FS.out (by have := HW4.out; simp; omega))
    have OM2 := Lib.hid (row_fr OM.out FS.out (by intro r hr; obtain rfl := List.mem_singleton.1 hr; exact row_ne OM.out B8.out (by decide)))
    have OE2 := Lib.hid (OE.out.fr FS.out (by intro r hr; obtain rfl := List.mem_singleton.1 hr; exact ⟨_, _, B8.out, by decide, by decide⟩))
    generalize hW : ((((w6.setCell ⟨w3.heap.size, 6, none⟩ (.int .i64 r1)).setCell ⟨w3.heap.size, 7, none⟩ (.int .i64 r2)).setCell ⟨w3.heap.size, 8, none⟩ (.int .i64 r3)).setCell ⟨w3.heap.size, 9, none⟩ (.slice zm ms.length cm)).setCell ⟨w3.heap.size, 10, none⟩ (.slice ze xs.length ce) = w7 at BS SS GS F9 OM2 OE2
    have BS2 : Hid (w7.heap[w3.heap.size]? = some (.cells #[.int .i64 ki, .int .i64 x1, .int .i64 x2, .int .i64 0, .int .i64 0, .bool false, .int .i64 r1, .int .i64 r2, .int .i64 r3, .slice zm ms.length cm, .slice ze xs.length ce] 29 (0, 0))) := BS.out
    obtain rfl := HRE.out.2.1
    obtain rfl := HRE.out.2.2
    have HFE := Lib.hid HRE.out.1
    by_cases hc : c' = 0
    rotate_left
    · have HC := Lib.hid hc
      clear hc
      go_wp2_with fail
      refine (err_of p l k' c' _ A B SS.out HC.out).mono ?_
      rintro e w8 ⟨u, rfl, ⟨q, rfl, hq⟩, hf⟩
      have HQ := Lib.hid hq
      have HF8 := Lib.hid hf
      have GZ := Lib.hid (hf.heap GS.out (by simp))
      have gk := row11 GZ.out
      have y0 := frz11 GZ.out 0
      have y1 := frz11 GZ.out 1
      have y2 := frz11 GZ.out 2
      have y3 := frz11 GZ.out 3
      have y4 := frz11 GZ.out 4
      have y5 := frz11 GZ.out 5
      have y6 := frz11 GZ.out 6
      have y7 := frz11 GZ.out 7
      have y8 := frz11 GZ.out 8
      have y9 := frz11 GZ.out 9
      have y10 := frz11 GZ.out 10
      clear hq hf
      go_wp2
      have FZ := Lib.hid (set11 w8 w.heap.size (.int .i64 0) (.int .i64 0) (.int .i64 0) (.int .i64 0) (.int .i64 0) (.bool false) (.int .i64 0) (.int .i64 0) (.int .i64 0) (.slice none 0 0) (.slice none 0 0))
      have HR : Hid (BodyE A p l f k' c' w (.returned (.tuple #[frV zeroF (.slice none 0 0) (.slice none 0 0), .iface 112 (.pointer (some ⟨q, 0, none⟩))])) (((((((((((w8.setCell ⟨w.heap.size, 0, none⟩ (.int .i64 0)).setCell ⟨w.heap.size, 1, none⟩ (.int .i64 0)).setCell ⟨w.heap.size, 2, none⟩ (.int .i64 0)).setCell ⟨w.heap.size, 3, none⟩ (.int .i64 0)).setCell ⟨w.heap.size, 4, none⟩ (.int .i64 0)).setCell ⟨w.heap.size, 5, none⟩ (.bool false)).setCell ⟨w.heap.size, 6, none⟩ (.int .i64 0)).setCell ⟨w.heap.size, 7, none⟩ (.int .i64 0)).setCell ⟨w.heap.size, 8, none⟩ (.int .i64 0)).setCell ⟨w.heap.size, 9, none⟩ (.slice none 0 0)).setCell ⟨w.heap.size, 10, none⟩ (.slice none 0 0))) :=
        ⟨(F9.out.trans (HF8.out.mono (by simp))).new FZ.out (by simp), .inl ⟨HC.out, _, rfl, AtErr.fr ⟨q, rfl, HQ.out⟩ FZ.out (by intro r hr; obtain rfl := List.mem_singleton.1 hr; exact ⟨_, _, GZ.out, by decide⟩)⟩⟩
      exact bodyPost_ret (v := .tuple #[.agg #[.int .i64 0, .int .i64 0, .int .i64 0, .int .i64 0, .int .i64 0, .bool false, .int .i64 0, .int .i64 0, .int .i64 0, .slice none 0 0, .slice none 0 0], .iface 112 (.pointer (some ⟨q, 0, none⟩))]) (by simp [results, Tryd.results41, go_sem, gk]) rfl HR.out
    · subst hc
      obtain ⟨L, hL⟩ : ∃ L, L = l.length - k' := ⟨_, rfl⟩
      have HL := Lib.hid hL
      clear hL
      go_wp2_with fail
      refine (err_no p l k' _ A B SS.out).mono ?_
      rintro e w8 ⟨rfl, rfl⟩
      go_wp2_with fail
      refine (left_of p l k' 0 _ A B SS.out).mono ?_
      rintro e w9 ⟨rfl, hf⟩
      rw [← HL.out]
      have HF9 := Lib.hid hf
      have GZ := Lib.hid (hf.heap GS.out (by simp))
      have BZ := Lib.hid (hf.heap BS2.out (by simp))
      clear hf
      by_cases hlt : 0 < L
      · have hsh : w9.cell? ⟨2, 0, none⟩ = some (.iface 137 (.pointer (some (A 2)))) := (SS.out.keep HF9.out).e3.2.1.1
        have gk := row11 GZ.out
        have y0 := frz11 GZ.out 0
        have y1 := frz11 GZ.out 1
        have y2 := frz11 GZ.out 2
        have y3 := frz11 GZ.out 3
        have y4 := frz11 GZ.out 4
        have y5 := frz11 GZ.out 5
        have y6 := frz11 GZ.out 6
        have y7 := frz11 GZ.out 7
        have y8 := frz11 GZ.out 8
        have y9 := frz11 GZ.out 9
        have y10 := frz11 GZ.out 10
        have hne1 : w.heap.size ≠ 2 := by have h1 := SS.out.e3.2.1.2; have h2 := SS.out.low; have h3 := HP.out; omega
        have hne2 : 2 ≠ w.heap.size := fun e => hne1 e.symm
        have FZ := Lib.hid (set11 w9 w.heap.size (.int .i64 0) (.int .i64 0) (.int .i64 0) (.int .i64 0) (.int .i64 0) (.bool false) (.int .i64 0) (.int .i64 0) (.int .i64 0) (.slice none 0 0) (.slice none 0 0))
        go_wp2
        go_region
        all_goals go_wp2
        all_goals
          have HR : Hid (BodyE A p l f k' 0 w (.returned (.tuple #[frV zeroF (.slice none 0 0) (.slice none 0 0), ev A 2])) (((((((((((w9.setCell ⟨w.heap.size, 0, none⟩ (.int .i64 0)).setCell ⟨w.heap.size, 1, none⟩ (.int .i64 0)).setCell ⟨w.heap.size, 2, none⟩ (.int .i64 0)).setCell ⟨w.heap.size, 3, none⟩ (.int .i64 0)).setCell ⟨w.heap.size, 4, none⟩ (.int .i64 0)).setCell ⟨w.heap.size, 5, none⟩ (.bool false)).setCell ⟨w.heap.size, 6, none⟩ (.int .i64 0)).setCell ⟨w.heap.size, 7, none⟩ (.int .i64 0)).setCell ⟨w.heap.size, 8, none⟩ (.int .i64 0)).setCell ⟨w.heap.size, 9, none⟩ (.slice none 0 0)).setCell ⟨w.heap.size, 10, none⟩ (.slice none 0 0)).drew) :=
            ⟨((F9.out.trans (HF9.out.mono (by simp))).new FZ.out (by simp)).trans (Fr.drew _ _), .inr (.inl ⟨rfl, by have := HL.out; omega, rfl⟩)⟩
          exact bodyPost_ret (v := .tuple #[.agg #[.int .i64 0, .int .i64 0, .int .i64 0, .int .i64 0, .int .i64 0, .bool false, .int .i64 0, .int .i64 0, .int .i64 0, .slice none 0 0, .slice none 0 0], .iface 137 (.pointer (some (A 2)))]) (by simp [results, Tryd.results41, go_sem, gk]) rfl HR.out
      · have gk := row11 GZ.out
        have y0 := frz11 GZ.out 0
        have y1 := frz11 GZ.out 1
        have y2 := frz11 GZ.out 2
        have y3 := frz11 GZ.out 3
        have y4 := frz11 GZ.out 4
        have y5 := frz11 GZ.out 5
        have y6 := frz11 GZ.out 6
        have y7 := frz11 GZ.out 7
        have y8 := frz11 GZ.out 8
        have y9 := frz11 GZ.out 9
        have y10 := frz11 GZ.out 10
        have hk := row11 BZ.out
        have FZ := Lib.hid (set11 w9 w.heap.size (.int .i64 ki) (.int .i64 x1) (.int .i64 x2) (.int .i64 0) (.int .i64 0) (.bool false) (.int .i64 r1) (.int .i64 r2) (.int .i64 r3) (.slice zm ms.length cm) (.slice ze xs.length ce))
        go_wp2
        have HR : Hid (BodyE A p l f k' 0 w (.returned (.tuple #[.agg #[.int .i64 ki, .int .i64 x1, .int .i64 x2, .int .i64 0, .int .i64 0, .bool false, .int .i64 r1, .int .i64 r2, .int .i64 r3, .slice zm ms.length cm, .slice ze xs.length ce], .nilIface])) (((((((((((w9.setCell ⟨w.heap.size, 0, none⟩ (.int .i64 ki)).setCell ⟨w.heap.size, 1, none⟩ (.int .i64 x1)).setCell ⟨w.heap.size, 2, none⟩ (.int .i64 x2)).setCell ⟨w.heap.size, 3, none⟩ (.int .i64 0)).setCell ⟨w.heap.size, 4, none⟩ (.int .i64 0)).setCell ⟨w.heap.size, 5, none⟩ (.bool false)).setCell ⟨w.heap.size, 6, none⟩ (.int .i64 r1)).setCell ⟨w.heap.size, 7, none⟩ (.int .i64 r2)).setCell ⟨w.heap.size, 8, none⟩ (.int .i64 r3)).setCell ⟨w.heap.size, 9, none⟩ (.slice zm ms.length cm)).setCell ⟨w.heap.size, 10, none⟩ (.slice ze xs.length ce))) :=
          ⟨(F9.out.trans (HF9.out.mono (by simp))).new FZ.out (by simp), .inr (.inr ⟨rfl, by have := HL.out; have := SS.out.hk; omega, by rw [HFE.out]; exact ⟨_, _, xs, rfl, row_fr (row_fr OM2.out HF9.out (by simp)) FZ.out (by intro r hr; obtain rfl := List.mem_singleton.1 hr; exact row_ne (row_fr OM2.out HF9.out (by simp)) GZ.out (by decide)), (OE2.out.fr HF9.out (by simp)).fr FZ.out (by intro r hr; obtain rfl := List.mem_singleton.1 hr; exact ⟨_, _, GZ.out, by decide, by decide⟩), HXS.out⟩⟩)⟩
        exact bodyPost_ret (v := .tuple #[.agg #[.int .i64 ki, .int .i64 x1, .int .i64 x2, .int .i64 0, .int .i64 0, .bool false, .int .i64 r1, .int .i64 r2, .int .i64 r3, .slice zm ms.length cm, .slice ze xs.length ce], .nilIface]) (by simp [results, Tryd.results41, go_sem, gk]) rfl HR.out
end Go.Proofs.YtpeocdcciecpoaaDoor
