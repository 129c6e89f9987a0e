import Derived.Test.YtiflmkicnkbeaaaGreatDoorZp02
import Derived.Test.YtiflmkicnkbeaaaGreatDoorZp09
import Derived.Deep.MidRow
import Derived.Deep.WholeRow
import Derived.BigRegion
import Derived.Laws.Tables
namespace Go.Proofs.YtiflmkicnkbeaaaGreatDoor
open Go.RowKit
structure RS where
 n : Nat
 L : Nat → Bool
 G : Nat → Int
structure Key (n : Nat) (f d : Int) (k : Nat) : Prop where
 lo : 0 < k
 hi : k + 1 < 2 * n
 fl : f = ((k / 2 : Nat) : Int)
 dr : d = 2 * ((k % 2 : Nat) : Int) - 1
def mayB (n : Nat) (f d : Int) : Bool := decide (0 ≤ f) && decide (f < n) && ((decide (d = 1) && decide (f < (n : Int) - 1)) || (decide (d = -1) && decide (0 < f)))
def keyN (f d : Int) : Nat := 2 * f.toNat + (if d = 1 then 1 else 0)
theorem Key.is {n : Nat} {f d : Int} {k : Nat} (h : Key n f d k) : keyN f d = k := by
 obtain ⟨h1, h2, rfl, rfl⟩ := h
 unfold keyN
 by_cases e : k % 2 = 1
 · rw [e, if_pos (by omega)]; omega
 · rw [if_neg (by omega)]; omega
theorem may_key {n : Nat} {f d : Int} (h : mayB n f d = true) : Key n f d (keyN f d) := by
 simp [mayB] at h
 obtain ⟨⟨h0, h1⟩, h2⟩ := h
 unfold keyN
 rcases h2 with ⟨rfl, h2⟩ | ⟨rfl, h2⟩
 · refine ⟨?_, ?_, ?_, ?_⟩ <;> simp <;> omega
 · refine ⟨?_, ?_, ?_, ?_⟩ <;> simp <;> omega
theorem Key.may {n : Nat} {f d : Int} {k : Nat} (h : Key n f d k) : mayB n f d = true := by
 obtain ⟨h1, h2, rfl, rfl⟩ := h
 simp [mayB]
 omega
theorem may_or (n : Nat) (f d : Int) : mayB n f d = false ∨ ∃ k, Key n f d k := by
 cases h : mayB n f d with
 | false => exact .inl rfl
 | true => exact .inr ⟨_, may_key h⟩
def RS.isB (s : RS) (f d g : Int) : Bool := mayB s.n f d && s.L (keyN f d) && decide (s.G (keyN f d) = g)
structure RsC (cs : Array Value) (s : RS) : Prop where
 size : cs.size = 257
 n : cs[0]? = some (.int .i64 (s.n : Int))
 at' : ∀ k, k < 128 → cs[1 + 2 * k]? = some (.bool (s.L k)) ∧ cs[1 + 2 * k + 1]? = some (.int .i64 (s.G k))
def Rs (w : World) (p : Nat) (s : RS) : Prop := ∃ cs, w.heap[p]? = some (.cells cs 174 (0, 0)) ∧ RsC cs s
theorem Rs.fr {w w' : World} {p : Nat} {s : RS} {S : List Nat} (h : Rs w p s) (hf : Fr w w' S) (hp : p ∉ S) : Rs w' p s := h.imp fun _ hh => ⟨hf.heap hh.1 hp, hh.2⟩
theorem Rs.keep {w w' : World} {p : Nat} {s : RS} (h : Rs w p s) (hf : Fr w w' []) : Rs w' p s := h.fr hf (by simp)
theorem Rs.n {w : World} {p : Nat} {s : RS} (h : Rs w p s) : w.cell? ⟨p, 0, none⟩ = some (.int .i64 (s.n : Int)) := by
 obtain ⟨cs, h1, h2, h3, h4⟩ := h
 rw [cell_of_row w p _ _ _ _ h1, h3]
theorem Rs.at' {w : World} {p : Nat} {s : RS} (h : Rs w p s) (k o : Nat) (hk : k < 128) (ho : o = 1 + 2 * k) : w.cell? ⟨p, o, none⟩ = some (.bool (s.L k)) ∧ w.cell? ⟨p, o + 1, none⟩ = some (.int .i64 (s.G k)) := by
 obtain ⟨cs, h1, h2, h3, h4⟩ := h
 subst ho
 exact ⟨by rw [cell_of_row w p _ _ _ _ h1, (h4 k hk).1], by rw [cell_of_row w p _ _ _ _ h1, (h4 k hk).2]⟩
def zS (n : Nat) : RS := ⟨n, fun _ => false, fun _ => 0⟩
def zRs (n : Int) : List Value := .int .i64 n :: (List.replicate 128 [Value.bool false, .int .i64 0]).flatten
theorem zpairs : ∀ (m k : Nat), k < m → ((List.replicate m [Value.bool false, .int .i64 0]).flatten)[2 * k]? = some (.bool false) ∧ ((List.replicate m [Value.bool false, .int .i64 0]).flatten)[2 * k + 1]? = some (.int .i64 0)
 | 0, k, h => by omega
 | m + 1, 0, _ => by simp [List.replicate_succ]
 | m + 1, k + 1, h => by
   have := zpairs m k (by omega)
   rw [List.replicate_succ, List.flatten_cons, show 2 * (k + 1) = 2 * k + 1 + 1 by omega]
   simpa using this
set_option maxRecDepth 100000 in
theorem zRs_ok (n : Nat) : RsC (zRs (n : Int)).toArray (zS n) := by
 refine ⟨rfl, rfl, fun k hk => ?_⟩
 obtain ⟨a, b⟩ := zpairs 128 k hk
 rw [Nat.add_comm 1]
 unfold zRs
 simp only [List.getElem?_toArray, List.getElem?_cons_succ]
 exact ⟨a, b⟩
end Go.Proofs.YtiflmkicnkbeaaaGreatDoor
namespace Go.Proofs.YtiflmkicnkbeaaaGreatDoor
open Go.RowKit
theorem mayB_lo {n : Nat} {f d : Int} (h : f < 0) : mayB n f d = false := by simp [mayB]; omega
theorem mayB_hi {n : Nat} {f d : Int} (h : (n : Int) ≤ f) : mayB n f d = false := by simp [mayB]; omega
theorem mayB_up {n : Nat} {f d : Int} (h0 : 0 ≤ f) (h1 : f < n) (hd : d = 1) : mayB n f d = decide (f < (n : Int) - 1) := by subst hd; simp [mayB, h0, h1]
theorem mayB_down {n : Nat} {f d : Int} (h0 : 0 ≤ f) (h1 : f < n) (hd : d = -1) : mayB n f d = decide (0 < f) := by subst hd; simp [mayB, h0, h1]
theorem mayB_none {n : Nat} {f d : Int} (h1 : d ≠ 1) (h2 : d ≠ -1) : mayB n f d = false := by simp [mayB, h1, h2]
set_option maxRecDepth 100000 in
theorem rimay_any (n : Nat) (hn : n ≤ 64) (f d : Int) (w : World) :
 Calls Tryz.prog 180 #[.int .i64 (n : Int), .agg #[.int .i64 f, .int .i64 d]] w fun e w' => e = .returned (.bool (mayB n f d)) ∧ Fr w w' [] := by
 have HF := Lib.hid (Fr.alloc w (.cells #[.int .i64 f, .int .i64 d] 44) [])
 by_cases h0 : f < 0
 · have HB := Lib.hid (mayB_lo (n := n) (d := d) h0)
   go_enter Tryz.func180, Tryz.ntmps180
   go_wp2
   go_ret
   exact ⟨by rw [HB.out]; rfl, HF.out⟩
 · by_cases h1 : (n : Int) ≤ f
   · have HB := Lib.hid (mayB_hi (n := n) (d := d) h1)
     go_enter Tryz.func180, Tryz.ntmps180
     go_wp2
     go_ret
     exact ⟨by rw [HB.out]; rfl, HF.out⟩
   · have h2 : f < (n : Int) := by omega
     by_cases hd : d = 1
     · have HB := Lib.hid (mayB_up (n := n) (d := d) (by omega) h2 hd)
       subst hd
       go_enter Tryz.func180, Tryz.ntmps180
       go_wp2
       go_ret
       exact ⟨by rw [HB.out]; rfl, HF.out⟩
     · by_cases hd2 : d = -1
       · have HB := Lib.hid (mayB_down (n := n) (d := d) (by omega) h2 hd2)
         subst hd2
         clear hd
         go_enter Tryz.func180, Tryz.ntmps180
         go_wp2
         go_ret
         exact ⟨by rw [HB.out]; rfl, HF.out⟩
       · have HB := Lib.hid (mayB_none (n := n) (f := f) hd hd2)
         have e1 : (d == 1) = false := by simp [hd]
         have e2 : (d == -1) = false := by simp [hd2]
         clear hd hd2
         go_enter Tryz.func180, Tryz.ntmps180
         go_wp2
         go_ret
         exact ⟨by rw [HB.out]; rfl, HF.out⟩
def BS (W : World) (p c : Nat) (n : Nat) (f d : Int) (a : World) : Prop := Fr W a [] ∧ a.cell? ⟨p, 0, none⟩ = some (.int .i64 (n : Int)) ∧ a.cell? ⟨c, 0, none⟩ = some (.int .i64 f) ∧ a.cell? ⟨c, 1, none⟩ = some (.int .i64 d)
theorem BS.fr {W a a' : World} {p c n : Nat} {f d : Int} (h : BS W p c n f d a) (k : Fr a a' []) : BS W p c n f d a' :=
 ⟨h.1.trans k, k.cell h.2.1 (by simp), k.cell h.2.2.1 (by simp), k.cell h.2.2.2 (by simp)⟩
theorem BS.new {w : World} {p : Nat} {s : RS} (f d : Int) (h : Rs w p s) : BS w p w.heap.size s.n f d (w.alloc (.cells #[.int .i64 f, .int .i64 d] 44)).drew := by
 have hf := (Fr.alloc w (.cells #[.int .i64 f, .int .i64 d] 44) []).trans (Fr.drew _ [])
 obtain ⟨h0, h1⟩ := row2 ((Fr.drew _ []).heap (heap_alloc_new w (.cells #[.int .i64 f, .int .i64 d] 44)) (by simp))
 exact ⟨hf, (h.keep hf).n, h0, h1⟩
set_option maxRecDepth 100000 in
theorem button_no (p : Nat) (s : RS) (f d : Int) (w : World) (hs : Rs w p s) (hn : s.n ≤ 64) (hm : mayB s.n f d = false) :
 Calls Tryz.prog 103 #[.pointer (some ⟨p, 0, none⟩), .agg #[.int .i64 f, .int .i64 d]] w fun e w' => e = .returned (.pointer none) ∧ Fr w w' [] := by
 have hv := rimay_any s.n hn f d
 rw [hm] at hv
 have HV := Lib.hid hv
 have HS := Lib.hid (BS.new f d hs)
 clear hs hv hm
 go_enter Tryz.func103, Tryz.ntmps103
 go_wp2
 refine wp_region_det (S := BS w p w.heap.size s.n f d) (by kernel_rfl) HS.out ?_
 refine zDU fun hU => ?_
 try dsimp only [BS] at hU
 refine zD 0 ?_
 refine zD 1 ?_
 refine zD 2 ?_
 refine zD 3 ?_
 refine zD 4 ?_
 refine zD 5 ?_ (hv := by (intro w hSw; go_simp; exact Came.call ((HV.out w).mono fun e w' ⟨he, hf⟩ => ⟨he, hSw.fr hf⟩) (by with_reducible rfl)))
 refine zD 6 ?_
 refine wpDet_done (by kernel_rfl) ?_ _
 rintro w1 ⟨hF, _, _⟩
 go_wp2
 go_ret
 exact ⟨rfl, hF⟩
set_option maxRecDepth 100000 in
theorem button_yes (p : Nat) (s : RS) (f d : Int) (k : Nat) (w : World) (hs : Rs w p s) (hn : s.n ≤ 64) (hk : Key s.n f d k) :
 Calls Tryz.prog 103 #[.pointer (some ⟨p, 0, none⟩), .agg #[.int .i64 f, .int .i64 d]] w fun e w' => e = .returned (.pointer (some ⟨p, 1 + 2 * k, none⟩)) ∧ Fr w w' [] := by
 have hv := rimay_any s.n hn f d
 rw [hk.may] at hv
 have HV := Lib.hid hv
 obtain ⟨hk1, hk2, hf, hd⟩ := hk
 obtain ⟨j, hj⟩ : ∃ j, j = k / 2 := ⟨_, rfl⟩
 rw [← hj] at hf
 subst hf
 have hj64 : j < 64 := by omega
 have HS := Lib.hid (BS.new (j : Int) d hs)
 rcases (by omega : k = 2 * j ∨ k = 2 * j + 1) with e | e
 · have hd' : d = -1 := by omega
   have HE := Lib.hid e
   subst hd'
   clear hs hv hk1 hk2 hj e hd
   go_enter Tryz.func103, Tryz.ntmps103
   go_wp2
   refine wp_region_det (S := BS w p w.heap.size s.n j (-1)) (by kernel_rfl) HS.out ?_
   refine zDU fun hU => ?_
   try dsimp only [BS] at hU
   refine zD 0 ?_
   refine zD 1 ?_
   refine zD 2 ?_
   refine zD 3 ?_
   refine zD 4 ?_
   refine zD 5 ?_ (hv := by (intro w hSw; go_simp; exact Came.call ((HV.out w).mono fun e w' ⟨he, hf⟩ => ⟨he, hSw.fr hf⟩) (by with_reducible rfl)))
   refine zD 6 ?_
   refine wpDet_done (by kernel_rfl) ?_ _
   rintro w1 ⟨hF, h0, h1, h2⟩
   have HF := Lib.hid hF
   clear hF
   go_wp2
   go_quiet (fail)
   go_wp2
   go_ret
   exact ⟨by rw [HE.out, show 1 + 2 * (2 * j) = 1 + j * 4 by omega]; rfl, HF.out.trans (Fr.drewN _ _ [])⟩
 · have hd' : d = 1 := by omega
   have HE := Lib.hid e
   subst hd'
   clear hs hv hk1 hk2 hj e hd
   go_enter Tryz.func103, Tryz.ntmps103
   go_wp2
   refine wp_region_det (S := BS w p w.heap.size s.n j 1) (by kernel_rfl) HS.out ?_
   refine zDU fun hU => ?_
   try dsimp only [BS] at hU
   refine zD 0 ?_
   refine zD 1 ?_
   refine zD 2 ?_
   refine zD 3 ?_
   refine zD 4 ?_
   refine zD 5 ?_ (hv := by (intro w hSw; go_simp; exact Came.call ((HV.out w).mono fun e w' ⟨he, hf⟩ => ⟨he, hSw.fr hf⟩) (by with_reducible rfl)))
   refine zD 6 ?_
   refine wpDet_done (by kernel_rfl) ?_ _
   rintro w1 ⟨hF, h0, h1, h2⟩
   have HF := Lib.hid hF
   clear hF
   go_wp2
   go_quiet (fail)
   go_wp2
   go_ret
   exact ⟨by rw [HE.out, show 1 + 2 * (2 * j + 1) = 1 + j * 4 + 2 by omega]; rfl, HF.out.trans (Fr.drewN _ _ [])⟩
end Go.Proofs.YtiflmkicnkbeaaaGreatDoor
namespace Go.Proofs.YtiflmkicnkbeaaaGreatDoor
open Go.RowKit
def zA : Array Value := (zRs 0).toArray
set_option maxRecDepth 100000 in
theorem zeroRs (W : World) : (zeroValue 174).run Tryz.prog W = .ok (.agg zA) W :=
 (zero_of_info (n := 257) (show (Tryz.prog.info? 174).map (fun i => (i.zero, i.size)) = some (some (.agg zA), 257) by kernel_rfl)).1 W
set_option maxRecDepth 100000 in
theorem zA_ne : zA ≠ #[] := by
 intro h
 have : zA.size = 257 := rfl
 rw [h] at this
 simp at this
theorem zA_set (n : Nat) : RsC (zA.setIfInBounds 0 (.int .i64 (n : Int))) (zS n) := by
 have h : zA.setIfInBounds 0 (.int .i64 (n : Int)) = (zRs (n : Int)).toArray := by
  unfold zA zRs
  rw [List.setIfInBounds_toArray, List.set_cons_zero]
 rw [h]
 exact zRs_ok n
set_option maxRecDepth 100000 in
theorem new_yes (n : Nat) (h0 : 2 ≤ n) (h1 : n ≤ 64) (w : World) : Calls Tryz.prog 26 #[.int .i64 (n : Int)] w fun e w' => e = .returned (.tuple #[.pointer (some ⟨w.heap.size, 0, none⟩), .nilIface]) ∧ Rs w' w.heap.size (zS n) ∧ Fr w w' [] := by
 have hz := zeroRs
 have hne := zA_ne
 have HA := Lib.hid (zA_set n)
 go_enter Tryz.func26, Tryz.ntmps26
 go_wp2
 go_ret2
 exact ⟨rfl, ⟨_, heap_alloc_new _ _, HA.out⟩, Fr.alloc _ _ _⟩
set_option maxRecDepth 100000 in
theorem riis_any (p : Nat) (s : RS) (f d g : Int) (w : World) (hs : Rs w p s) (hn : s.n ≤ 64) (b : Bool) (hb : s.isB f d g = b) :
 Calls Tryz.prog 123 #[.pointer (some ⟨p, 0, none⟩), .agg #[.int .i64 f, .int .i64 d, .int .i64 g]] w fun e w' => e = .returned (.bool b) ∧ Fr w w' [] := by
 have HF := Lib.hid (Fr.alloc w (.cells #[.int .i64 f, .int .i64 d, .int .i64 g] 46) [])
 have HB := Lib.hid (heap_alloc_new w (.cells #[.int .i64 f, .int .i64 d, .int .i64 g] 46))
 have HS := Lib.hid (hs.keep HF.out)
 clear hs
 rcases may_or s.n f d with hm | ⟨k, hk⟩
 · have hb' : b = false := by rw [← hb]; simp [RS.isB, hm]
   subst hb'
   clear hb
   go_enter Tryz.func123, Tryz.ntmps123
   go_wp2_with fail
   refine (button_no p s f d _ HS.out hn hm).mono ?_
   rintro e w1 ⟨rfl, hf⟩
   have HF1 := Lib.hid (HF.out.trans hf)
   clear hf
   go_wp2
   go_quiet (fail)
   go_wp2
   go_ret
   exact ⟨rfl, HF1.out.trans (Fr.drewN _ _ [])⟩
 · have hb' : (s.L k && decide (s.G k = g)) = b := by rw [← hb]; simp [RS.isB, hk.may, hk.is]
   clear hb
   have hk128 : k < 128 := by have := hk.hi; omega
   obtain ⟨o, ho⟩ : ∃ o, o = 1 + 2 * k := ⟨_, rfl⟩
   have HO := Lib.hid ho
   go_enter Tryz.func123, Tryz.ntmps123
   go_wp2_with fail
   refine (button_yes p s f d k _ HS.out hn hk).mono ?_
   rintro e w1 ⟨rfl, hf⟩
   have HF1 := Lib.hid (HF.out.trans hf)
   obtain ⟨c0, c1⟩ := (HS.out.keep hf).at' k o hk128 HO.out
   obtain ⟨_, _, c2⟩ := row3 (hf.heap HB.out (by simp))
   rw [← HO.out]
   clear hf ho hk
   obtain ⟨gk, hgk⟩ : ∃ x, x = s.G k := ⟨_, rfl⟩
   rw [← hgk] at c1 hb'
   clear hgk
   cases hl : s.L k with
   | false =>
     rw [hl] at c0 hb'
     obtain rfl : b = false := by rw [← hb']; rfl
     clear hl hb'
     go_wp2
     go_quiet (fail)
     go_wp2
     go_ret
     exact ⟨rfl, HF1.out.trans (Fr.drewN _ _ [])⟩
   | true =>
     rw [hl] at c0 hb'
     obtain rfl : b = (gk == g) := by rw [← hb']; exact Bool.eq_iff_iff.2 (by simp)
     clear hl hb'
     go_wp2
     go_quiet (fail)
     go_wp2
     go_ret
     exact ⟨rfl, HF1.out.trans (Fr.drewN _ _ [])⟩
end Go.Proofs.YtiflmkicnkbeaaaGreatDoor
