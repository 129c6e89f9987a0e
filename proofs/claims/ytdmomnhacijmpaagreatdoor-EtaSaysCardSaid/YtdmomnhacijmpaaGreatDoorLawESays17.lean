/- How long any car, with any stops, would take to any call, is what the chapter says; reckoned once, when it is first asked. -/
import Derived.Test.YtdmomnhacijmpaaGreatDoorREta
import Derived.Test.YtdmomnhacijmpaaGreatDoorRun2
namespace Go.Proofs.YtdmomnhacijmpaaGreatDoor
open Go.RowKit

theorem LE.beyond {W : World} {h : Ho} {c : Ca} {s : Sp} {q e : Int} {a a' : World} {p : Nat} (k : LE W h c s q e a) (f : Fr a a' [p]) (hp : W.heap.size + 3 < p) : LE W h c s q e a' :=
  ⟨k.f.new f (by simp; omega), f.heap k.h (by simp; omega), k.c.fr f (by simp; omega), f.heap k.s (by simp; omega), f.heap k.t (by simp; omega)⟩

set_option maxHeartbeats 8000000 in
set_option maxRecDepth 100000 in
theorem esays_true (h : Ho) (c : Ca) (s : Sp) (q e : Int) (hc : c.k ≤ 9223372036854775807) (ok : s.ok) (w : World) (hT : Tz w) :
    Calls Tryz.prog 3 #[h.v, c.v, s.v, callV q e] w fun x w' => x = .returned (.bool true) ∧ Fr w w' [] := by
  have TB := Lib.hid (LE.new w h c s q e)
  have HT := Lib.hid hT
  by_cases hk : h.ok
  · have V := Lib.hid (fun W => valid_any h W true (decide_eq_true hk).symm)
    obtain ⟨r, H⟩ := EtaV.some h c ok q e
    have OD := Lib.hid (fun W => reta_any h c s q e W hk ok r H)
    have OF := Lib.hid (fun W hT => eta_any h c s q e W hk ok hT hc r H)
    have NA := Lib.hid (fun W => new_any h c s q e W)
    have TF := Lib.hid (fun p W hT R => ticks_first h c s q e p W hk ok hT hc r H R)
    have TG := Lib.hid (fun p W R => ticks_again h c s q e r 1 p W R)
    have XA := Lib.hid (fun d st t n p W R hn => times_any h c s q e d st t n p W R hn)
    clear hT hk hc ok H
    obtain ⟨hc, hfl, hs, hd⟩ := h
    obtain ⟨⟨cp, ce, co, cr⟩, ck⟩ := c
    obtain ⟨sp, su, sd⟩ := s
    dsimp only [Ho.v, Ho.box, Ca.v, Ca.box, Sp.v, Sp.box, callV, callBox, runP] at *
    go_enter Tryz.func3, Tryz.ntmps3
    go_wp2_with fail
    generalize World.alloc (World.alloc (World.alloc (World.alloc w _) _) _) _ = w0 at *
    have Z0 := Lib.hid (HT.out.fr TB.out.f)
    with_reducible refine (efirst_any _ Z0.out).mono ?_
    rintro v w1 ⟨rfl, hf⟩
    have T1 := Lib.hid (TB.out.fr hf)
    clear hf TB Z0
    obtain ⟨i0, i1, i2, i3⟩ := T1.out.h.cells
    dsimp only at i0 i1 i2 i3
    go_wp2_with fail
    with_reducible refine (V.out _).mono ?_
    rintro v w2 ⟨rfl, hf⟩
    have T2 := Lib.hid (T1.out.fr hf)
    clear hf i0 i1 i2 i3 T1 V
    obtain ⟨i0, i1, i2, i3⟩ := T2.out.h.cells
    obtain ⟨c0, c1, c2, c3, c4⟩ := T2.out.c.cells
    obtain ⟨s0, s1, s2⟩ := arow T2.out.s
    obtain ⟨t0, t1⟩ := two_row T2.out.t
    dsimp only at i0 i1 i2 i3 c0 c1 c2 c3 c4 s0 s1 s2
    go_wp2_with fail
    with_reducible refine (OD.out _).mono ?_
    rintro v w3 ⟨rfl, hf⟩
    have T3 := Lib.hid (T2.out.fr hf)
    clear hf i0 i1 i2 i3 c0 c1 c2 c3 c4 s0 s1 s2 t0 t1 T2 OD
    obtain ⟨i0, i1, i2, i3⟩ := T3.out.h.cells
    obtain ⟨c0, c1, c2, c3, c4⟩ := T3.out.c.cells
    obtain ⟨s0, s1, s2⟩ := arow T3.out.s
    obtain ⟨t0, t1⟩ := two_row T3.out.t
    dsimp only at i0 i1 i2 i3 c0 c1 c2 c3 c4 s0 s1 s2
    go_wp2_with fail
    with_reducible refine (NA.out _).mono ?_
    rintro v w4 ⟨p, rfl, x4, l4, hf⟩
    have T4 := Lib.hid (T3.out.fr hf)
    have X4 := Lib.hid x4
    have L4 := Lib.hid (show w.heap.size + 3 < p from Nat.lt_of_lt_of_le (size_of_row T3.out.t) l4)
    clear hf i0 i1 i2 i3 c0 c1 c2 c3 c4 s0 s1 s2 t0 t1 T3 NA x4 l4
    have Y4 := Lib.hid (XA.out _ _ _ _ _ _ X4.out (.inl rfl))
    go_wp2_with fail
    with_reducible refine (Y4.out).mono ?_
    rintro v w5 ⟨rfl, rfl⟩
    have TF1 := Lib.hid (TF.out p _ (HT.out.fr T4.out.f) X4.out)
    clear Y4 TF
    go_wp2_with fail
    with_reducible refine (TF1.out).mono ?_
    rintro v w6 ⟨rfl, x6, f6⟩
    have T6 := Lib.hid (T4.out.beyond f6 L4.out)
    have X6 := Lib.hid x6
    have TG1 := Lib.hid (TG.out p _ X6.out)
    clear x6 f6 T4 X4 L4 TF1 TG
    go_wp2_with fail
    with_reducible refine (TG1.out).mono ?_
    rintro v w7 ⟨rfl, rfl⟩
    clear TG1
    have ZT := Lib.hid (HT.out.fr T6.out.f)
    obtain ⟨i0, i1, i2, i3⟩ := T6.out.h.cells
    obtain ⟨c0, c1, c2, c3, c4⟩ := T6.out.c.cells
    obtain ⟨s0, s1, s2⟩ := arow T6.out.s
    obtain ⟨t0, t1⟩ := two_row T6.out.t
    dsimp only at i0 i1 i2 i3 c0 c1 c2 c3 c4 s0 s1 s2
    go_wp2_with fail
    with_reducible refine (OF.out _ ZT.out).mono ?_
    rintro v w8 ⟨rfl, hf⟩
    have T8 := Lib.hid (T6.out.fr hf)
    have X8 := Lib.hid (X6.out.fr hf (by simp))
    clear hf i0 i1 i2 i3 c0 c1 c2 c3 c4 s0 s1 s2 t0 t1 T6 X6 ZT OF
    have Y8 := Lib.hid (XA.out _ _ _ _ _ _ X8.out (.inr rfl))
    clear XA
    go_wp2_with fail
    with_reducible refine (Y8.out).mono ?_
    rintro v w9 ⟨rfl, rfl⟩
    go_wp2
    go_ret
    exact ⟨rfl, T8.out.f⟩
  · have V := Lib.hid (fun W => valid_any h W false (decide_eq_false hk).symm)
    clear hk ok hc hT
    obtain ⟨hc, hfl, hs, hd⟩ := h
    obtain ⟨⟨cp, ce, co, cr⟩, ck⟩ := c
    obtain ⟨sp, su, sd⟩ := s
    dsimp only [Ho.v, Ho.box, Ca.v, Ca.box, Sp.v, Sp.box, callV, callBox] at *
    go_enter Tryz.func3, Tryz.ntmps3
    go_wp2_with fail
    generalize World.alloc (World.alloc (World.alloc (World.alloc w _) _) _) _ = w0 at *
    have Z0 := Lib.hid (HT.out.fr TB.out.f)
    with_reducible refine (efirst_any _ Z0.out).mono ?_
    rintro v w1 ⟨rfl, hf⟩
    have T1 := Lib.hid (TB.out.fr hf)
    clear hf TB Z0
    obtain ⟨i0, i1, i2, i3⟩ := T1.out.h.cells
    dsimp only at i0 i1 i2 i3
    go_wp2_with fail
    with_reducible refine (V.out _).mono ?_
    rintro v w2 ⟨rfl, hf⟩
    have T2 := Lib.hid (T1.out.fr hf)
    clear hf i0 i1 i2 i3 T1
    go_wp2
    go_ret
    exact ⟨rfl, T2.out.f⟩
theorem esays_walk (h : Ho) (c : Ca) (s : Sp) (q e : Int) (hc : c.k ≤ 9223372036854775807) (ok : s.ok) (W : World) (hT : Tz W) :
    Calls Tryz.prog 3 #[h.v, c.v, s.v, callV q e] W fun x w' => x = .returned (.bool true) ∧ W.grownBy w' none :=
  (esays_true h c s q e hc ok W hT).mono fun _ _ ⟨he, hf⟩ => ⟨he, hf.grown (by simp)⟩
end Go.Proofs.YtdmomnhacijmpaaGreatDoor
