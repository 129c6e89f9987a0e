/- Of two bids one is less, or they are the same; less than what is less is less. -/
import Derived.Test.YtfphihhcclfmnaaBiC
import Derived.Deep.DeepCutAuto
namespace Go.Proofs.Ytfphihhcclfmnaa
open Go.RowKit

/-- Three bids' boxes. -/
structure B3 (W : World) (a b c : Int × Int) (w : World) : Prop where
  f : Fr W w []
  a : w.heap[W.heap.size]? = some (bidBox a)
  b : w.heap[W.heap.size + 1]? = some (bidBox b)
  c : w.heap[W.heap.size + 2]? = some (bidBox c)
theorem B3.fr {W : World} {a b c : Int × Int} {w w' : World} (h : B3 W a b c w) (k : Fr w w' []) : B3 W a b c w' := ⟨h.f.trans k, k.heap h.a (by simp), k.heap h.b (by simp), k.heap h.c (by simp)⟩
theorem B3.new (w : World) (a b c : Int × Int) : B3 w a b c (((w.alloc (bidBox a)).alloc (bidBox b)).alloc (bidBox c)) := by
  obtain ⟨f, x, y⟩ := two_bids w a b
  have z := heap_alloc_new ((w.alloc (bidBox a)).alloc (bidBox b)) (bidBox c)
  rw [show ((w.alloc (bidBox a)).alloc (bidBox b)).heap.size = w.heap.size + 2 by simp] at z
  have k := Fr.alloc ((w.alloc (bidBox a)).alloc (bidBox b)) (bidBox c) []
  exact ⟨f.trans k, k.heap x (by simp), k.heap y (by simp), z⟩

set_option maxHeartbeats 8000000 in
set_option maxRecDepth 100000 in
theorem border_true (a b c : Int × Int) (w : World) : Calls Try.prog 5 #[bidV a, bidV b, bidV c] w fun x w' => x = .returned (.bool true) ∧ Fr w w' [] := by
  have TB := Lib.hid (B3.new w a b c)
  obtain ⟨g1, h1⟩ : ∃ g, g = ltB a b := ⟨_, rfl⟩
  obtain ⟨g2, h2⟩ : ∃ g, g = ltB b a := ⟨_, rfl⟩
  obtain ⟨g3, h3⟩ : ∃ g, g = ltB b c := ⟨_, rfl⟩
  obtain ⟨g4, h4⟩ : ∃ g, g = ltB a c := ⟨_, rfl⟩
  obtain ⟨sm, hs⟩ : ∃ g, g = decide (a.1 = b.1 ∧ a.2 = b.2) := ⟨_, rfl⟩
  have L1 := Lib.hid (fun W => bless_any a b W g1 h1)
  have L2 := Lib.hid (fun W => bless_any b a W g2 h2)
  have L3 := Lib.hid (fun W => bless_any b c W g3 h3)
  have L4 := Lib.hid (fun W => bless_any a c W g4 h4)
  have SM := Lib.hid (fun W => rsameBid_any a.1 a.2 b.1 b.2 sm hs W)
  have HG := Lib.hid (show (g1 = true ∧ g2 = false ∧ sm = false ∧ (g3 = true → g4 = true)) ∨ (g1 = false ∧ ((g2 = true ∧ sm = false) ∨ (g2 = false ∧ sm = true))) by
    cases e1 : g1 with
    | true =>
      have e : ltB a b = true := by rw [← h1, e1]
      refine .inl ⟨rfl, by rw [h2]; exact ltB_asymm e, ?_, fun q => by rw [h4]; rw [h3] at q; exact ltB_trans e q⟩
      rw [hs]
      refine decide_eq_false fun k => ?_
      rw [Prod.ext k.1 k.2, ltB_self] at e
      cases e
    | false =>
      have e : ltB a b = false := by rw [← h1, e1]
      refine .inr ⟨rfl, ?_⟩
      cases e2 : g2 with
      | true =>
        have e' : ltB b a = true := by rw [← h2, e2]
        refine .inl ⟨rfl, ?_⟩
        rw [hs]
        refine decide_eq_false fun k => ?_
        rw [Prod.ext k.1 k.2, ltB_self] at e'
        cases e'
      | false =>
        have e' : ltB b a = false := by rw [← h2, e2]
        have := ltB_same e e'
        exact .inr ⟨rfl, by rw [hs, this]; simp⟩)
  obtain ⟨y, hy⟩ := LeastB.some (l := [a, b, c]) (by simp)
  have LA := Lib.hid (fun W => bless_any a y W false (hy.2 a (by simp)).symm)
  have LB := Lib.hid (fun W => bless_any b y W false (hy.2 b (by simp)).symm)
  have LC := Lib.hid (fun W => bless_any c y W false (hy.2 c (by simp)).symm)
  have LE := Lib.hid (fun W g (h : W.heap[g]? = some (.cells (bdc [a, b, c]).toArray 24 (0, 0))) => bleast_some (.slice (some ⟨g, 0, none⟩) 3 3) [a, b, c] y W (hb_of_cells rfl (by decide) h) (by simp) hy)
  have LN := Lib.hid (fun W => bleast_none (.slice none 0 0) W nil_bids)
  have HT := Lib.hid (show ¬ b.2 ≤ a.2 → g1 = true from fun q => by rw [h1, ltB_iff]; omega)
  clear h1 h2 h3 h4 hs hy
  obtain ⟨a1', a2'⟩ := a
  obtain ⟨b1', b2'⟩ := b
  obtain ⟨c1', c2'⟩ := c
  obtain ⟨y1, y2⟩ := y
  dsimp only [bidV, bidBox, bdc, List.flatMap_cons, List.flatMap_nil, List.append_nil, List.cons_append, List.nil_append] at *
  go_enter Try.func5, Try.ntmps5
  go_wp2_with fail
  generalize World.alloc (World.alloc (World.alloc w _) _) _ = w0 at *
  with_reducible refine (bfirst_any _).mono ?_
  rintro v w1 ⟨rfl, hf⟩
  have T1 := Lib.hid (TB.out.fr hf)
  clear hf TB
  obtain ⟨a0, a1⟩ := brow T1.out.a
  obtain ⟨b0, b1⟩ := brow T1.out.b
  obtain ⟨c0, c1⟩ := brow T1.out.c
  go_wp2_with fail
  with_reducible refine (SM.out _).mono ?_
  rintro v w11 ⟨rfl, hf⟩
  have T11 := Lib.hid (T1.out.fr hf)
  clear hf a0 a1 b0 b1 c0 c1 T1
  go_upto_region 5 with fail
  go_cut [54] (fun s54 wx => s54 = .bool false ∧ Hid (B3 w (a1', a2') (b1', b2') (c1', c2') wx))
  case first =>
    rcases HG.out with ⟨rfl, rfl, rfl, HX⟩ | ⟨rfl, ⟨rfl, rfl⟩ | ⟨rfl, rfl⟩⟩
    · have HX := Lib.hid HX
      clear HG HT LA LB LC LE LN
      cases g3 with
      | false =>
        obtain ⟨a0, a1⟩ := brow T11.out.a
        obtain ⟨b0, b1⟩ := brow T11.out.b
        obtain ⟨c0, c1⟩ := brow T11.out.c
        go_wp2_with fail
        with_reducible refine (L1.out _).mono ?_
        rintro v w17 ⟨rfl, hf⟩
        have T17 := Lib.hid (T11.out.fr hf)
        clear hf a0 a1 b0 b1 c0 c1 T11
        obtain ⟨a0, a1⟩ := brow T17.out.a
        obtain ⟨b0, b1⟩ := brow T17.out.b
        obtain ⟨c0, c1⟩ := brow T17.out.c
        go_wp2_with fail
        with_reducible refine (L2.out _).mono ?_
        rintro v w18 ⟨rfl, hf⟩
        have T18 := Lib.hid (T17.out.fr hf)
        clear hf a0 a1 b0 b1 c0 c1 T17
        obtain ⟨a0, a1⟩ := brow T18.out.a
        obtain ⟨b0, b1⟩ := brow T18.out.b
        obtain ⟨c0, c1⟩ := brow T18.out.c
        go_wp2_with fail
        with_reducible refine (L1.out _).mono ?_
        rintro v w19 ⟨rfl, hf⟩
        have T19 := Lib.hid (T18.out.fr hf)
        clear hf a0 a1 b0 b1 c0 c1 T18
        obtain ⟨a0, a1⟩ := brow T19.out.a
        obtain ⟨b0, b1⟩ := brow T19.out.b
        obtain ⟨c0, c1⟩ := brow T19.out.c
        go_wp2_with fail
        with_reducible refine (L1.out _).mono ?_
        rintro v w20 ⟨rfl, hf⟩
        have T20 := Lib.hid (T19.out.fr hf)
        clear hf a0 a1 b0 b1 c0 c1 T19
        obtain ⟨a0, a1⟩ := brow T20.out.a
        obtain ⟨b0, b1⟩ := brow T20.out.b
        obtain ⟨c0, c1⟩ := brow T20.out.c
        go_wp2_with fail
        with_reducible refine (L3.out _).mono ?_
        rintro v w21 ⟨rfl, hf⟩
        have T21 := Lib.hid (T20.out.fr hf)
        clear hf a0 a1 b0 b1 c0 c1 T20
        go_wp2_with fail
        go_meet
        exact ⟨rfl, T21⟩
      | true =>
        obtain rfl : g4 = true := HX.out rfl
        clear HX
        obtain ⟨a0, a1⟩ := brow T11.out.a
        obtain ⟨b0, b1⟩ := brow T11.out.b
        obtain ⟨c0, c1⟩ := brow T11.out.c
        go_wp2_with fail
        with_reducible refine (L1.out _).mono ?_
        rintro v w22 ⟨rfl, hf⟩
        have T22 := Lib.hid (T11.out.fr hf)
        clear hf a0 a1 b0 b1 c0 c1 T11
        obtain ⟨a0, a1⟩ := brow T22.out.a
        obtain ⟨b0, b1⟩ := brow T22.out.b
        obtain ⟨c0, c1⟩ := brow T22.out.c
        go_wp2_with fail
        with_reducible refine (L2.out _).mono ?_
        rintro v w23 ⟨rfl, hf⟩
        have T23 := Lib.hid (T22.out.fr hf)
        clear hf a0 a1 b0 b1 c0 c1 T22
        obtain ⟨a0, a1⟩ := brow T23.out.a
        obtain ⟨b0, b1⟩ := brow T23.out.b
        obtain ⟨c0, c1⟩ := brow T23.out.c
        go_wp2_with fail
        with_reducible refine (L1.out _).mono ?_
        rintro v w24 ⟨rfl, hf⟩
        have T24 := Lib.hid (T23.out.fr hf)
        clear hf a0 a1 b0 b1 c0 c1 T23
        obtain ⟨a0, a1⟩ := brow T24.out.a
        obtain ⟨b0, b1⟩ := brow T24.out.b
        obtain ⟨c0, c1⟩ := brow T24.out.c
        go_wp2_with fail
        with_reducible refine (L1.out _).mono ?_
        rintro v w25 ⟨rfl, hf⟩
        have T25 := Lib.hid (T24.out.fr hf)
        clear hf a0 a1 b0 b1 c0 c1 T24
        obtain ⟨a0, a1⟩ := brow T25.out.a
        obtain ⟨b0, b1⟩ := brow T25.out.b
        obtain ⟨c0, c1⟩ := brow T25.out.c
        go_wp2_with fail
        with_reducible refine (L3.out _).mono ?_
        rintro v w26 ⟨rfl, hf⟩
        have T26 := Lib.hid (T25.out.fr hf)
        clear hf a0 a1 b0 b1 c0 c1 T25
        obtain ⟨a0, a1⟩ := brow T26.out.a
        obtain ⟨b0, b1⟩ := brow T26.out.b
        obtain ⟨c0, c1⟩ := brow T26.out.c
        go_wp2_with fail
        with_reducible refine (L4.out _).mono ?_
        rintro v w27 ⟨rfl, hf⟩
        have T27 := Lib.hid (T26.out.fr hf)
        clear hf a0 a1 b0 b1 c0 c1 T26
        go_wp2_with fail
        go_meet
        exact ⟨rfl, T27⟩
    · clear HG HT LA LB LC LE LN
      obtain ⟨a0, a1⟩ := brow T11.out.a
      obtain ⟨b0, b1⟩ := brow T11.out.b
      obtain ⟨c0, c1⟩ := brow T11.out.c
      go_wp2_with fail
      with_reducible refine (L1.out _).mono ?_
      rintro v w28 ⟨rfl, hf⟩
      have T28 := Lib.hid (T11.out.fr hf)
      clear hf a0 a1 b0 b1 c0 c1 T11
      obtain ⟨a0, a1⟩ := brow T28.out.a
      obtain ⟨b0, b1⟩ := brow T28.out.b
      obtain ⟨c0, c1⟩ := brow T28.out.c
      go_wp2_with fail
      with_reducible refine (L1.out _).mono ?_
      rintro v w29 ⟨rfl, hf⟩
      have T29 := Lib.hid (T28.out.fr hf)
      clear hf a0 a1 b0 b1 c0 c1 T28
      obtain ⟨a0, a1⟩ := brow T29.out.a
      obtain ⟨b0, b1⟩ := brow T29.out.b
      obtain ⟨c0, c1⟩ := brow T29.out.c
      go_wp2_with fail
      with_reducible refine (L2.out _).mono ?_
      rintro v w30 ⟨rfl, hf⟩
      have T30 := Lib.hid (T29.out.fr hf)
      clear hf a0 a1 b0 b1 c0 c1 T29
      obtain ⟨a0, a1⟩ := brow T30.out.a
      obtain ⟨b0, b1⟩ := brow T30.out.b
      obtain ⟨c0, c1⟩ := brow T30.out.c
      go_wp2_with fail
      with_reducible refine (L1.out _).mono ?_
      rintro v w31 ⟨rfl, hf⟩
      have T31 := Lib.hid (T30.out.fr hf)
      clear hf a0 a1 b0 b1 c0 c1 T30
      go_wp2_with fail
      go_meet
      exact ⟨rfl, T31⟩
    · clear HG HT LA LB LC LE LN
      obtain ⟨a0, a1⟩ := brow T11.out.a
      obtain ⟨b0, b1⟩ := brow T11.out.b
      obtain ⟨c0, c1⟩ := brow T11.out.c
      go_wp2_with fail
      with_reducible refine (L1.out _).mono ?_
      rintro v w32 ⟨rfl, hf⟩
      have T32 := Lib.hid (T11.out.fr hf)
      clear hf a0 a1 b0 b1 c0 c1 T11
      obtain ⟨a0, a1⟩ := brow T32.out.a
      obtain ⟨b0, b1⟩ := brow T32.out.b
      obtain ⟨c0, c1⟩ := brow T32.out.c
      go_wp2_with fail
      with_reducible refine (L1.out _).mono ?_
      rintro v w33 ⟨rfl, hf⟩
      have T33 := Lib.hid (T32.out.fr hf)
      clear hf a0 a1 b0 b1 c0 c1 T32
      obtain ⟨a0, a1⟩ := brow T33.out.a
      obtain ⟨b0, b1⟩ := brow T33.out.b
      obtain ⟨c0, c1⟩ := brow T33.out.c
      go_wp2_with fail
      with_reducible refine (L2.out _).mono ?_
      rintro v w34 ⟨rfl, hf⟩
      have T34 := Lib.hid (T33.out.fr hf)
      clear hf a0 a1 b0 b1 c0 c1 T33
      obtain ⟨a0, a1⟩ := brow T34.out.a
      obtain ⟨b0, b1⟩ := brow T34.out.b
      obtain ⟨c0, c1⟩ := brow T34.out.c
      go_wp2_with fail
      with_reducible refine (L1.out _).mono ?_
      rintro v w35 ⟨rfl, hf⟩
      have T35 := Lib.hid (T34.out.fr hf)
      clear hf a0 a1 b0 b1 c0 c1 T34
      go_wp2_with fail
      go_meet
      exact ⟨rfl, T35⟩
  case rest =>
    obtain ⟨rfl, T20⟩ := hcut
    clear T11 L2 L3 L4 SM HG
    obtain ⟨a0, a1⟩ := brow T20.out.a
    obtain ⟨b0, b1⟩ := brow T20.out.b
    obtain ⟨c0, c1⟩ := brow T20.out.c
    have H1 := Lib.hid (heap_alloc_new wc (.cells #[.int .i64 a1', .int .i64 a2', .int .i64 b1', .int .i64 b2', .int .i64 c1', .int .i64 c2'] 24))
    have LE1 := Lib.hid (LE.out _ _ H1.out)
    have T21 := Lib.hid (T20.out.fr (Fr.alloc wc (.cells #[.int .i64 a1', .int .i64 a2', .int .i64 b1', .int .i64 b2', .int .i64 c1', .int .i64 c2'] 24) []))
    go_wp2_with fail
    with_reducible refine (LE1.out).mono ?_
    rintro v w22 ⟨rfl, hf⟩
    have T22 := Lib.hid ((T21.out.fr hf).fr (Fr.alloc w22 (.cells #[.int .i64 y1, .int .i64 y2] 24) []))
    have Y22 := Lib.hid (heap_alloc_new w22 (.cells #[.int .i64 y1, .int .i64 y2] 24))
    clear hf a0 a1 b0 b1 c0 c1 H1 LE1 LE T20 T21
    go_upto_region 8 with fail
    obtain ⟨by', hby⟩ : ∃ g, w22.heap.size = g := ⟨_, rfl⟩
    rw [hby] at Y22
    rw [hby]
    clear hby
    generalize World.alloc w22 _ = w23 at *
    go_wp2_with fail
    with_reducible refine (LN.out _).mono ?_
    rintro v w24 ⟨rfl, hf⟩
    have T24 := Lib.hid ((T22.out.fr hf).fr (Fr.alloc w24 (.cells #[.int .i64 0, .int .i64 0] 24) []))
    have Y24 := Lib.hid ((hf.trans (Fr.alloc w24 (.cells #[.int .i64 0, .int .i64 0] 24) [])).heap Y22.out (by simp))
    clear hf T22 Y22 LN
    go_upto_region 9 with fail
    generalize World.alloc w24 _ = w25 at *
    obtain ⟨a0, a1⟩ := brow T24.out.a
    obtain ⟨b0, b1⟩ := brow T24.out.b
    obtain ⟨c0, c1⟩ := brow T24.out.c
    obtain ⟨z0, z1⟩ := brow Y24.out
    go_wp2_with fail
    with_reducible refine (LA.out _).mono ?_
    rintro v w26 ⟨rfl, hf⟩
    have T26 := Lib.hid (T24.out.fr hf)
    have Y26 := Lib.hid (hf.heap Y24.out (by simp))
    clear hf a0 a1 b0 b1 c0 c1 z0 z1 T24 Y24
    obtain ⟨a0, a1⟩ := brow T26.out.a
    obtain ⟨b0, b1⟩ := brow T26.out.b
    obtain ⟨c0, c1⟩ := brow T26.out.c
    obtain ⟨z0, z1⟩ := brow Y26.out
    go_wp2_with fail
    with_reducible refine (LB.out _).mono ?_
    rintro v w27 ⟨rfl, hf⟩
    have T27 := Lib.hid (T26.out.fr hf)
    have Y27 := Lib.hid (hf.heap Y26.out (by simp))
    clear hf a0 a1 b0 b1 c0 c1 z0 z1 T26 Y26
    obtain ⟨a0, a1⟩ := brow T27.out.a
    obtain ⟨b0, b1⟩ := brow T27.out.b
    obtain ⟨c0, c1⟩ := brow T27.out.c
    obtain ⟨z0, z1⟩ := brow Y27.out
    go_wp2_with fail
    with_reducible refine (LC.out _).mono ?_
    rintro v w28 ⟨rfl, hf⟩
    have T28 := Lib.hid (T27.out.fr hf)
    have Y28 := Lib.hid (hf.heap Y27.out (by simp))
    clear hf a0 a1 b0 b1 c0 c1 z0 z1 T27 Y27
    obtain ⟨a0, a1⟩ := brow T28.out.a
    obtain ⟨b0, b1⟩ := brow T28.out.b
    obtain ⟨c0, c1⟩ := brow T28.out.c
    by_cases q : b2' ≤ a2'
    · have d : decide (b2' ≤ a2') = true := decide_eq_true q
      go_wp2
      go_ret
      exact ⟨rfl, T28.out.f⟩
    · have d : decide (b2' ≤ a2') = false := decide_eq_false q
      obtain rfl : g1 = true := HT.out (by omega)
      go_wp2_with fail
      with_reducible refine (L1.out _).mono ?_
      rintro v w29 ⟨rfl, hf⟩
      have F29 := Lib.hid (T28.out.f.trans hf)
      clear hf
      go_wp2
      go_ret
      exact ⟨rfl, F29.out⟩
theorem border_walk (a b c : Int × Int) (W : World) : Calls Try.prog 5 #[bidV a, bidV b, bidV c] W fun x w' => x = .returned (.bool true) ∧ W.grownBy w' none :=
  (border_true a b c W).mono fun _ _ ⟨he, hf⟩ => ⟨he, hf.grown (by simp)⟩
end Go.Proofs.Ytfphihhcclfmnaa
