import Derived.Test.YtiflmkicnkbeaaaGreatDoorZp11
namespace Go.Proofs.YtiflmkicnkbeaaaGreatDoor
open Go.RowKit
structure TN (cs : Array Value) (o : Nat) (f : Nat → Pe) (s : Int) : Prop where
 size : o + 65 ≤ cs.size
 pe : ∀ i, i < 16 → pe4 cs (o + i * 4) (f i)
 seen : cs[o + 64]? = some (.int .i64 s)
def Tn (w : World) (p o : Nat) (Q : Array Value) (f : Nat → Pe) (s : Int) : Prop :=
 ∃ cs, w.heap[p]? = some (.cells cs 134 (0, 0)) ∧ TN cs o f s ∧ cs.size = Q.size ∧ ∀ i, i < o ∨ o + 65 ≤ i → cs[i]? = Q[i]?
theorem Tn.fr {w w' : World} {p o : Nat} {Q : Array Value} {f : Nat → Pe} {s : Int} {S : List Nat} (h : Tn w p o Q f s) (hf : Fr w w' S) (hp : p ∉ S) : Tn w' p o Q f s :=
 h.imp fun _ hh => ⟨hf.heap hh.1 hp, hh.2⟩
theorem Tn.lt {w : World} {p o : Nat} {Q : Array Value} {f : Nat → Pe} {s : Int} (h : Tn w p o Q f s) : p < w.heap.size := by
 obtain ⟨cs, h1, _⟩ := h; exact size_of_row h1
theorem Tn.congr {w : World} {p o : Nat} {Q : Array Value} {f g : Nat → Pe} {s : Int} (h : Tn w p o Q f s) (he : ∀ i, i < 16 → f i = g i) : Tn w p o Q g s := by
 obtain ⟨cs, h1, ⟨h2, h3, h4⟩, h5⟩ := h
 exact ⟨cs, h1, ⟨h2, fun i hi => by rw [← he i hi]; exact h3 i hi, h4⟩, h5⟩
theorem Tn.at {w : World} {p o : Nat} {Q : Array Value} {f : Nat → Pe} {s : Int} (h : Tn w p o Q f s) (i : Nat) (hi : i < 16) :
 w.cell? ⟨p, o + i * 4, none⟩ = some (.bool (f i).kn) ∧ w.cell? ⟨p, o + i * 4 + 1, none⟩ = some (.bool (f i).ou) ∧ w.cell? ⟨p, o + i * 4 + 2, none⟩ = some (.int .i64 (f i).li) ∧ w.cell? ⟨p, o + i * 4 + 3, none⟩ = some (.int .i64 (f i).ag) := by
 obtain ⟨cs, h1, ⟨h2, h3, h4⟩, h5⟩ := h
 obtain ⟨a, b, c, d⟩ := h3 i hi
 exact ⟨by rw [cell_of_row w p _ _ _ _ h1, a], by rw [cell_of_row w p _ _ _ _ h1, b], by rw [cell_of_row w p _ _ _ _ h1, c], by rw [cell_of_row w p _ _ _ _ h1, d]⟩
theorem Tn.sn {w : World} {p o : Nat} {Q : Array Value} {f : Nat → Pe} {s : Int} (h : Tn w p o Q f s) : w.cell? ⟨p, o + 64, none⟩ = some (.int .i64 s) := by
 obtain ⟨cs, h1, ⟨h2, h3, h4⟩, h5⟩ := h
 rw [cell_of_row w p _ _ _ _ h1, h4]
theorem Tn.fz {w : World} {p o : Nat} {Q : Array Value} {f : Nat → Pe} {s : Int} (h : Tn w p o Q f s) (j : Nat) : w.frozen? ⟨p, j, none⟩ = false := by
 obtain ⟨cs, h1, h2⟩ := h
 exact frozen_of_row _ _ _ _ _ h1
theorem Tn.setSn {w : World} {p o : Nat} {Q : Array Value} {f : Nat → Pe} {s : Int} (h : Tn w p o Q f s) (t : Int) : Tn (w.setCell ⟨p, o + 64, none⟩ (.int .i64 t)) p o Q f t := by
 obtain ⟨cs, h1, ⟨h2, h3, h4⟩, h5, h6⟩ := h
 refine ⟨_, heap_setCell_same _ _ _ _ _ _ h1, ⟨by simpa using h2, fun i hi => ?_, by rw [Array.getElem?_setIfInBounds_self_of_lt (by omega)]⟩, by simpa using h5, fun i hi => by rw [Array.getElem?_setIfInBounds_ne (by omega)]; exact h6 i hi⟩
 obtain ⟨a, b, c, d⟩ := h3 i hi
 refine ⟨?_, ?_, ?_, ?_⟩
 all_goals rw [Array.getElem?_setIfInBounds_ne (by omega)]; assumption
theorem Tn.setAg {w : World} {p o : Nat} {Q : Array Value} {f : Nat → Pe} {s : Int} (h : Tn w p o Q f s) (k : Nat) (hk : k < 16) (t : Int) : Tn (w.setCell ⟨p, o + k * 4 + 3, none⟩ (.int .i64 t)) p o Q (upP f k ⟨(f k).kn, (f k).ou, (f k).li, t⟩) s := by
 obtain ⟨cs, h1, ⟨h2, h3, h4⟩, h5, h6⟩ := h
 refine ⟨_, heap_setCell_same _ _ _ _ _ _ h1, ⟨by simpa using h2, fun i hi => ?_, by rw [Array.getElem?_setIfInBounds_ne (by omega)]; exact h4⟩, by simpa using h5, fun i hi => by rw [Array.getElem?_setIfInBounds_ne (by omega)]; exact h6 i hi⟩
 obtain ⟨a, b, c, d⟩ := h3 i hi
 by_cases e : i = k
 · subst e
   refine ⟨?_, ?_, ?_, ?_⟩
   · rw [Array.getElem?_setIfInBounds_ne (by omega)]; simpa [upP] using a
   · rw [Array.getElem?_setIfInBounds_ne (by omega)]; simpa [upP] using b
   · rw [Array.getElem?_setIfInBounds_ne (by omega)]; simpa [upP] using c
   · rw [Array.getElem?_setIfInBounds_self_of_lt (by omega)]; simp [upP]
 · have e' : upP f k ⟨(f k).kn, (f k).ou, (f k).li, t⟩ i = f i := by simp [upP, e]
   rw [e']
   refine ⟨?_, ?_, ?_, ?_⟩
   all_goals rw [Array.getElem?_setIfInBounds_ne (by omega)]; assumption
theorem Tn.setPe {w : World} {p o : Nat} {Q : Array Value} {f : Nat → Pe} {s : Int} (h : Tn w p o Q f s) (k : Nat) (hk : k < 16) (x : Pe) :
 Tn ((((w.setCell ⟨p, o + k * 4, none⟩ (.bool x.kn)).setCell ⟨p, o + k * 4 + 1, none⟩ (.bool x.ou)).setCell ⟨p, o + k * 4 + 2, none⟩ (.int .i64 x.li)).setCell ⟨p, o + k * 4 + 3, none⟩ (.int .i64 x.ag)) p o Q (upP f k x) s := by
 obtain ⟨cs, h1, ⟨h2, h3, h4⟩, h5, h6⟩ := h
 have g1 := heap_setCell_same _ _ (o + k * 4) _ _ (.bool x.kn) h1
 have g2 := heap_setCell_same _ _ (o + k * 4 + 1) _ _ (.bool x.ou) g1
 have g3 := heap_setCell_same _ _ (o + k * 4 + 2) _ _ (.int .i64 x.li) g2
 have g4 := heap_setCell_same _ _ (o + k * 4 + 3) _ _ (.int .i64 x.ag) g3
 refine ⟨_, g4, ⟨by simpa using h2, fun i hi => ?_, ?_⟩, by simpa using h5, fun i hi => ?_⟩
 · obtain ⟨a, b, c, d⟩ := h3 i hi
   by_cases e : i = k
   · subst e
     refine ⟨?_, ?_, ?_, ?_⟩
     · rw [Array.getElem?_setIfInBounds_ne (by omega), Array.getElem?_setIfInBounds_ne (by omega), Array.getElem?_setIfInBounds_ne (by omega), Array.getElem?_setIfInBounds_self_of_lt (by omega)]; simp [upP]
     · rw [Array.getElem?_setIfInBounds_ne (by omega), Array.getElem?_setIfInBounds_ne (by omega), Array.getElem?_setIfInBounds_self_of_lt (by simp; omega)]; simp [upP]
     · rw [Array.getElem?_setIfInBounds_ne (by omega), Array.getElem?_setIfInBounds_self_of_lt (by simp; omega)]; simp [upP]
     · rw [Array.getElem?_setIfInBounds_self_of_lt (by simp; omega)]; simp [upP]
   · have e' : upP f k x i = f i := by simp [upP, e]
     rw [e']
     refine ⟨?_, ?_, ?_, ?_⟩
     all_goals
      rw [Array.getElem?_setIfInBounds_ne (by omega), Array.getElem?_setIfInBounds_ne (by omega), Array.getElem?_setIfInBounds_ne (by omega), Array.getElem?_setIfInBounds_ne (by omega)]
      assumption
 · rw [Array.getElem?_setIfInBounds_ne (by omega), Array.getElem?_setIfInBounds_ne (by omega), Array.getElem?_setIfInBounds_ne (by omega), Array.getElem?_setIfInBounds_ne (by omega)]
   exact h4
 · rw [Array.getElem?_setIfInBounds_ne (by omega), Array.getElem?_setIfInBounds_ne (by omega), Array.getElem?_setIfInBounds_ne (by omega), Array.getElem?_setIfInBounds_ne (by omega)]
   exact h6 i hi
theorem Tn.range {w : World} {p o : Nat} {Q : Array Value} {f : Nat → Pe} {s : Int} (h : Tn w p o Q f s) : ∃ cs : Array Value, cs.size = 64 ∧ w.rangeAt p o cs.toList ∧ ∀ i, i < 16 → pe4 cs (i * 4) (f i) := by
 obtain ⟨cs, h1, ⟨h2, h3, h4⟩, h5⟩ := h
 refine ⟨cs.extract o (o + 64), by simp; omega, by simpa using World.rangeAt_of_block h1 o 64, fun i hi => ?_⟩
 obtain ⟨a, b, c, d⟩ := h3 i hi
 refine ⟨?_, ?_, ?_, ?_⟩
 all_goals
  rw [Array.getElem?_extract, if_pos (by omega)]
  first | assumption | simpa [Nat.add_assoc] using ‹_›
theorem seenN_any (p o : Nat) (Q : Array Value) (f : Nat → Pe) (s : Int) (w : World) (h : Tn w p o Q f s) :
 Calls Tryz.prog 210 #[.pointer (some ⟨p, o, none⟩)] w fun e w' => e = .returned (.int .i64 s) ∧ w = w' := by
 have c := h.sn
 clear h
 go_enter Tryz.func210, Tryz.ntmps210
 go_wp2
 go_ret
 exact ⟨rfl, rfl⟩
theorem hearN_no (p o : Nat) (Q : Array Value) (f : Nat → Pe) (s c l n : Int) (ob : Bool) (w : World) (h : Tn w p o Q f s) (hn : ¬ (0 ≤ c ∧ c < 16 ∧ 0 ≤ l ∧ 0 ≤ n ∧ (f c.toNat).li ≤ l)) :
 Calls Tryz.prog 56 #[.pointer (some ⟨p, o, none⟩), .int .i64 c, .int .i64 l, .int .i64 n, .bool ob] w fun e w' => e = .returned (.bool false) ∧ w = w' := by
 by_cases hc : 0 ≤ c ∧ c < 16
 · obtain ⟨h0, h1⟩ := hc
   obtain ⟨k, rfl⟩ := Int.eq_ofNat_of_zero_le h0
   obtain ⟨_, _, c2, _⟩ := h.at k (by omega)
   rw [Int.toNat_natCast] at hn
   clear h
   by_cases hl : l < 0
   · clear hn c2
     go_enter Tryz.func56, Tryz.ntmps56
     go_wp2_with fail
     refine (isCar_yes _ _ h0 h1).mono ?_
     rintro e w' ⟨rfl, rfl⟩
     go_wp2
     go_ret
     exact ⟨rfl, rfl⟩
   · by_cases hs : n < 0
     · clear hn c2
       go_enter Tryz.func56, Tryz.ntmps56
       go_wp2_with fail
       refine (isCar_yes _ _ h0 h1).mono ?_
       rintro e w' ⟨rfl, rfl⟩
       go_wp2
       go_ret
       exact ⟨rfl, rfl⟩
     · have hlt : l < (f k).li := by omega
       clear hn
       go_enter Tryz.func56, Tryz.ntmps56
       go_wp2_with fail
       refine (isCar_yes _ _ h0 h1).mono ?_
       rintro e w' ⟨rfl, rfl⟩
       go_wp2
       go_ret
       exact ⟨rfl, rfl⟩
 · clear h hn
   go_enter Tryz.func56, Tryz.ntmps56
   go_wp2_with fail
   refine (isCar_no _ _ hc).mono ?_
   rintro e w' ⟨rfl, rfl⟩
   go_wp2
   go_ret
   exact ⟨rfl, rfl⟩
theorem hearN_yes (p o : Nat) (Q : Array Value) (f : Nat → Pe) (s : Int) (k : Nat) (l n : Int) (ob : Bool) (w : World) (h : Tn w p o Q f s) (hk : k < 16) (hl : 0 ≤ l) (hn : 0 ≤ n) (hf : (f k).li ≤ l) :
 Calls Tryz.prog 56 #[.pointer (some ⟨p, o, none⟩), .int .i64 (k : Int), .int .i64 l, .int .i64 n, .bool ob] w fun e w' => e = .returned (.bool true) ∧ Tn w' p o Q (upP f k ⟨true, ob, l, 0⟩) (mx s n) ∧ Fr w w' [p] := by
 obtain ⟨c0, c1, c2, c3⟩ := h.at k hk
 have z0 := h.fz (o + k * 4)
 have z1 := h.fz (o + k * 4 + 1)
 have z2 := h.fz (o + k * 4 + 2)
 have z3 := h.fz (o + k * 4 + 3)
 have z4 := h.fz (o + 64)
 have c4 := h.sn
 have H1 := Lib.hid (h.setPe k hk ⟨true, ob, l, 0⟩)
 clear h
 have h1 : ¬ l < (f k).li := by omega
 have h2 : ¬ l < 0 := by omega
 have h3 : ¬ n < 0 := by omega
 have h4 : o + 64 ≠ o + k * 4 := by omega
 have h5 : o + 64 ≠ o + k * 4 + 1 := by omega
 have h6 : o + 64 ≠ o + k * 4 + 2 := by omega
 have h7 : o + 64 ≠ o + k * 4 + 3 := by omega
 clear hf
 go_enter Tryz.func56, Tryz.ntmps56
 go_wp2_with fail
 refine (isCar_yes _ _ (by omega) (by omega)).mono ?_
 rintro e w' ⟨rfl, rfl⟩
 go_wp2
 · have hg : s < n := by assumption
   go_ret
   exact ⟨rfl, by rw [show mx s n = n by simp [mx, hg]]; exact H1.out.setSn n, ((((Fr.setCell w p _ _ (by simp)).trans (Fr.setCell _ p _ _ (by simp))).trans (Fr.setCell _ p _ _ (by simp))).trans (Fr.setCell _ p _ _ (by simp))).trans (Fr.setCell _ p _ _ (by simp))⟩
 · have hg : ¬ s < n := by omega
   go_ret
   exact ⟨rfl, by rw [show mx s n = s by simp [mx, hg]]; exact H1.out.setSn s, ((((Fr.setCell w p _ _ (by simp)).trans (Fr.setCell _ p _ _ (by simp))).trans (Fr.setCell _ p _ _ (by simp))).trans (Fr.setCell _ p _ _ (by simp))).trans (Fr.setCell _ p _ _ (by simp))⟩
set_option maxRecDepth 100000 in
theorem tickN_any (p o : Nat) (Q : Array Value) (f : Nat → Pe) (s : Int) (w : World) (h : Tn w p o Q f s) (hA : AgOk f) :
 Calls Tryz.prog 129 #[.pointer (some ⟨p, o, none⟩)] w fun e w' => e = .returned (.tuple #[]) ∧ Tn w' p o Q (tkP f) s ∧ Fr w w' [p] := by
 obtain ⟨cs, hcs, hr, hpe⟩ := h.range
 have HT := Lib.hid h
 have HP := Lib.hid hpe
 have HA := Lib.hid hA
 have hi64 : (Tryz.prog.info? 130).map (·.size) = some cs.toList.length := by rw [Array.length_toList, hcs]; exact infoPs
 have HI := Lib.hid hi64
 have HR := Lib.hid hr
 clear h hpe hA hi64 hr hcs
 go_enter Tryz.func129, Tryz.ntmps129
 go_wp2_with (with_reducible refine wpList_load_mid rfl _ _ rfl p o rfl cs.toList _ HR.out Tryz.underlying130 rfl HI.out ?_)
 go_loopw [8] (fun i wr => ∃ k : Nat, k ≤ 16 ∧ i = .int .i64 k ∧ Tn wr p o Q (tkTo f k) s ∧ Fr w wr [p]) (fun i _ => 16 - (intOf i).toNat)
 case atStart => exact ⟨0, by omega, rfl, HT.out.congr (fun i _ => by simp [tkTo]), Fr.refl _ _⟩
 case round =>
  obtain ⟨k, hk, rfl, ht, hf⟩ := hrel
  by_cases hlt : k < 16
  · have hidx := run_peer (cs := cs) k hlt (HP.out k hlt)
    obtain ⟨x, hx⟩ : ∃ x, x = f k := ⟨_, rfl⟩
    rw [← hx] at hidx
    have HX := Lib.hid hx
    have T0 := Lib.hid ht
    have F0 := Lib.hid hf
    clear hx ht hf
    go_wp2_with fail
    refine (heard_any x _).mono ?_
    rintro e w2 ⟨rfl, hf2⟩
    have T2 := Lib.hid ((T0.out.fr (Fr.alloc wr (.cells #[.bool x.kn, .bool x.ou, .int .i64 x.li, .int .i64 x.ag] 129) []) (by simp)).fr hf2 (by simp))
    have F2 := Lib.hid (F0.out.trans (((Fr.alloc wr (.cells #[.bool x.kn, .bool x.ou, .int .i64 x.li, .int .i64 x.ag] 129) []).trans hf2).mono (by simp)))
    clear hf2 hidx
    cases hh : hd x with
    | false =>
      have HH := Lib.hid (show hd (f k) = false by rw [← HX.out]; exact hh)
      clear hh
      go_wp2
      go_roundw
      case rel => exact ⟨k + 1, by omega, by go_num, T2.out.congr (tkTo_succ_no f k HH.out), F2.out⟩
      case measure => simp [intOf]; omega
    | true =>
      have HH := Lib.hid (show hd (f k) = true by rw [← HX.out]; exact hh)
      obtain ⟨_, _, _, c3⟩ := T2.out.at k hlt
      rw [tkTo_at, ← HX.out] at c3
      have z3 := T2.out.fz (o + k * 4 + 3)
      have hag := HA.out k hlt
      rw [← HX.out] at hag
      obtain ⟨ha0, ha1⟩ := hag
      clear hh
      go_wp2
      go_region
      all_goals
       go_wp2
       go_roundw
       case rel => exact ⟨k + 1, by omega, by go_num, (show _ by have := T2.out.setAg k hlt (x.ag + 1); rw [HX.out] at this ⊢; exact (this.congr (tkTo_succ_yes f k HH.out)).fr (Fr.drew _ []) (by simp)), (F2.out.trans (Fr.setCell w2 p (o + k * 4 + 3) (.int .i64 (x.ag + 1)) (by simp))).trans (Fr.drew _ [p])⟩
       case measure => simp [intOf]; omega
  · obtain rfl : k = 16 := by omega
    have T0 := Lib.hid (ht.congr (tkTo_end f))
    have F0 := Lib.hid hf
    clear ht hf
    go_wp2
    go_end0
    exact ⟨rfl, T0.out, F0.out⟩
set_option maxRecDepth 100000 in
theorem aliveN_any (p o : Nat) (Q : Array Value) (f : Nat → Pe) (s : Int) (w : World) (h : Tn w p o Q f s) :
 Calls Tryz.prog 111 #[.pointer (some ⟨p, o, none⟩)] w (Gives fun u w' => OwnI w' w.heap.size u (alV f 16) ∧ Fr w w' []) := by
 obtain ⟨cs, hcs, hr, hpe⟩ := h.range
 obtain ⟨i0, hi, hz0, hz1, hz2⟩ := info_parts infoI
 have HP := Lib.hid hpe
 have hi64 : (Tryz.prog.info? 130).map (·.size) = some cs.toList.length := by rw [Array.length_toList, hcs]; exact infoPs
 have HI := Lib.hid hi64
 have HR := Lib.hid hr
 have HW := Lib.hid h.lt
 clear h hpe hi64 hr hcs
 go_enter Tryz.func111, Tryz.ntmps111
 go_wp2_with (with_reducible refine wpList_load_mid rfl _ _ rfl p o rfl cs.toList _ HR.out Tryz.underlying130 rfl HI.out ?_)
 go_loopw [3, 10] (fun a i wr => ∃ k : Nat, k ≤ 16 ∧ i = .int .i64 k ∧ OwnI wr w.heap.size a (alV f k) ∧ Fr w wr []) (fun _ i _ => 16 - (intOf i).toNat)
 case atStart => exact ⟨0, by omega, rfl, OwnI.nil _ _, Fr.refl _ _⟩
 case round =>
  obtain ⟨k, hk, rfl, ho, hf⟩ := hrel
  have O0 := Lib.hid ho
  have F0 := Lib.hid hf
  clear ho hf
  by_cases hlt : k < 16
  · have hidx := run_peer (cs := cs) k hlt (HP.out k hlt)
    obtain ⟨x, hx⟩ : ∃ x, x = f k := ⟨_, rfl⟩
    rw [← hx] at hidx
    have HX := Lib.hid hx
    clear hx
    go_wp2_with fail
    refine (heard_any x _).mono ?_
    rintro e w2 ⟨rfl, hf2⟩
    have B2 := Lib.hid (hf2.heap (heap_alloc_new wr (.cells #[.bool x.kn, .bool x.ou, .int .i64 x.li, .int .i64 x.ag] 129)) (by simp))
    have c1 : w2.cell? ⟨wr.heap.size, 1, none⟩ = some (.bool x.ou) := by rw [cell_of_row _ _ _ _ _ _ B2.out]; rfl
    have O2 := Lib.hid ((O0.out.keep (Fr.alloc wr (.cells #[.bool x.kn, .bool x.ou, .int .i64 x.li, .int .i64 x.ag] 129) [])).keep hf2)
    have F2 := Lib.hid ((F0.out.trans (Fr.alloc wr (.cells #[.bool x.kn, .bool x.ou, .int .i64 x.li, .int .i64 x.ag] 129) [])).trans hf2)
    have HL := Lib.hid (alV_len f k)
    clear hf2 hidx
    cases hh : hd x with
    | false =>
      have HH := Lib.hid (show on (f k) = false by rw [← HX.out]; simp [on, hh])
      clear hh
      go_wp2
      go_roundw
      case rel => exact ⟨k + 1, by omega, by go_num, by rw [alV_no f k HH.out]; exact O2.out, F2.out⟩
      case measure => simp [intOf]; omega
    | true =>
      cases hu : x.ou with
      | true =>
        have HH := Lib.hid (show on (f k) = false by rw [← HX.out]; simp [on, hh, hu])
        rw [hu] at c1
        clear hh hu
        go_wp2
        go_roundw
        case rel => exact ⟨k + 1, by omega, by go_num, by rw [alV_no f k HH.out]; exact O2.out, F2.out⟩
        case measure => simp [intOf]; omega
      | false =>
        have HH := Lib.hid (show on (f k) = true by rw [← HX.out]; simp [on, hh, hu])
        rw [hu] at c1
        clear hh hu
        go_wp2_with (at_builtin; refine wpList_append_own _ rfl _ _ 36 rfl w.heap.size 3 i0 (.int .i64 0) 1 8 Tryz.underlying36 hi hz0 hz1 hz2 rfl (by decide) _ _ _ rfl (World.ownsRow.alloc O2.out _) ⟨w2.heap.size, 0, none⟩ 1 1 [.int .i64 k] rfl rfl (cell_one_new _ _ _) (one_cell _ _) (by have := HL.out; unfold maxLen; omega) (by have := HL.out; omega) (by have := F2.out.size; simp; omega) ?_; intro v' w3 hown3 hg3 _)
        have F3 := Lib.hid ((F2.out.trans (Fr.alloc w2 (.cells #[.int .i64 (k : Int)] 3) [])).grown_own hg3 (fun r hr => .inr (O2.out.block r hr).1))
        have O3 := Lib.hid (show OwnI w3 w.heap.size v' (alV f (k + 1)) by rw [alV_yes f k HH.out]; exact OwnI.snoc hown3)
        clear hown3 hg3
        go_wp2
        go_roundw
        case rel => exact ⟨k + 1, by omega, by go_num, O3.out, F3.out⟩
        case measure => simp [intOf]; omega
  · obtain rfl : k = 16 := by omega
    go_wp2
    go_ret
    exact gives ⟨O0.out, F0.out⟩
end Go.Proofs.YtiflmkicnkbeaaaGreatDoor
