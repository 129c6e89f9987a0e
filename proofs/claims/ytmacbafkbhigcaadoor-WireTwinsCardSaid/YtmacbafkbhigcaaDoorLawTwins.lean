/- The walk of the law of twins: two readers of the same bytes go their own ways; what is behind what was read is left. -/
import Derived.Test.YtmacbafkbhigcaaDoorLawPuts
import Derived.Test.YtmacbafkbhigcaaDoorLawLengths
import Derived.Deep.RegionWith
namespace Go.Proofs.YtmacbafkbhigcaaDoor
open Go.RowKit

/-- Numbers, one behind the other. -/
def encs (l : List Int) : List Int := l.flatMap Wm.enc
theorem encs_snoc (l : List Int) (x : Int) : encs (l ++ [x]) = encs l ++ Wm.enc x := by simp [encs]
theorem encs_len (l : List Int) : l.length ≤ (encs l).length ∧ (encs l).length ≤ 10 * l.length := by
  induction l with
  | nil => simp [encs]
  | cons x l ih =>
    have := Wm.enc_len x
    have e : encs (x :: l) = Wm.enc x ++ encs l := by simp [encs]
    rw [e, List.length_append, List.length_cons]; omega
theorem encs_cut (l : List Int) (k : Nat) (hk : k < l.length) : (encs l).drop (encs (l.take k)).length = Wm.enc (l.getD k 0) ++ encs (l.drop (k + 1)) := by
  have e : encs l = encs (l.take k) ++ encs (l.drop k) := by
    simp only [encs, ← List.flatMap_append, List.take_append_drop]
  have e2 : l.drop k = l.getD k 0 :: l.drop (k + 1) := by rw [List.drop_eq_getElem_cons hk]; simp [hk]
  rw [e, List.drop_left, e2]
  simp [encs]
theorem encs_step (l : List Int) (k : Nat) (hk : k < l.length) : encs (l.take (k + 1)) = encs (l.take k) ++ Wm.enc (l.getD k 0) := by
  rw [take_snoc l k hk, encs_snoc]
theorem encs_take_le (l : List Int) (k : Nat) : (encs (l.take k)).length ≤ (encs l).length := by
  have e : encs l = encs (l.take k) ++ encs (l.drop k) := by simp only [encs, ← List.flatMap_append, List.take_append_drop]
  rw [e, List.length_append]; omega
theorem encs_take_lt (l : List Int) (k : Nat) (hk : k < l.length) : (encs (l.take k)).length < (encs l).length := by
  have e : encs l = encs (l.take k) ++ encs (l.drop k) := by simp only [encs, ← List.flatMap_append, List.take_append_drop]
  have := (encs_len (l.drop k)).1
  rw [List.length_drop] at this
  rw [e, List.length_append]; omega
def I64 (l : List Int) : Prop := ∀ x ∈ l, -9223372036854775808 ≤ x ∧ x ≤ 9223372036854775807
theorem encs_byte (l : List Int) (h : I64 l) : Wm.Byte (encs l) := by
  intro x hx
  simp only [encs, List.mem_flatMap] at hx
  obtain ⟨y, hy, hx⟩ := hx
  exact Wm.enc_byte y (h y hy).1 (h y hy).2 x hx
theorem i64_at {l : List Int} (h : I64 l) (k : Nat) (hk : k < l.length) : -9223372036854775808 ≤ l.getD k 0 ∧ l.getD k 0 ≤ 9223372036854775807 :=
  h _ (by simp [hk])
theorem nums_read (l : List Int) (tail : List Int) (h : I64 l) (k : Nat) (hk : k < l.length) :
    (l.getD k 0, (encs (l.take (k + 1))).length, 0) = Wm.numS (encs l ++ tail) (encs (l.take k)).length (-9223372036854775808) 9223372036854775807 := by
  have hx := i64_at h k hk
  have e : (encs l ++ tail).drop (encs (l.take k)).length = Wm.enc (l.getD k 0) ++ (encs (l.drop (k + 1)) ++ tail) := by
    rw [List.drop_append_of_le_length (encs_take_le l k), encs_cut l k hk, List.append_assoc]
  unfold Wm.numS
  rw [e, Wm.num_enc _ hx.1 hx.2, if_neg (by simp), if_neg (by omega), encs_step l k hk, List.length_append]

/-- Where a reader of numbers is behind so many. -/
def posn (l : List Int) (k : Nat) : Nat := (encs (l.take k)).length
theorem Rd.other {w w' : World} {B p q : Nat} {l m : List Int} {k j : Nat} {e f : Value} (h : Rd w B p l k e) (hq : Rd w B q m j f) (hne : p ≠ q) (hg : w.grownBy w' (some q)) : Rd w' B p l k e := by
  have hlt := h.lt
  obtain ⟨hB, v, hp, ho⟩ := h
  obtain ⟨_, v2, hp2, _⟩ := hq
  exact ⟨hB, v, by rw [hg.block p hlt (by simpa using hne)]; exact hp, ho.kept hg (fun r e => by cases e; exact ho.apart hp2 (by decide))⟩
/-- One number more is read. -/
theorem num_next (p : Nat) (l tail : List Int) (k : Nat) (W : World) (A : Nat → Addr) (B : Nat) (hl : I64 l) (hk : k < l.length) (ht : Wm.Byte tail) (h : Rd W B p (encs l ++ tail) (posn l k) .nilIface) (hE : E3 W A B) :
    Calls Tryd.prog 17 #[.pointer (some ⟨p, 0, none⟩), .int .i64 (-9223372036854775808), .int .i64 9223372036854775807] W fun e w' => e = .returned (.int .i64 (l.getD k 0)) ∧ Rd w' B p (encs l ++ tail) (posn l (k + 1)) .nilIface ∧ W.grownBy w' (some p) :=
  num_ok p (encs l ++ tail) (posn l k) _ _ W A B h (by have := encs_take_le l k; rw [List.length_append]; unfold posn; omega) (by
    intro x hx
    rcases List.mem_append.1 hx with h | h
    · exact encs_byte l hl x h
    · exact ht x h) hE _ (nums_read l tail hl k hk)

set_option maxHeartbeats 8000000 in
set_option maxRecDepth 100000 in
theorem twins_walk (v : Value) (l : List Int) (at0 : Int) (hl : I64 l) (hat : (Lit.int .i64 at0).wf = true) (w : World) (A : Nat → Addr) (hE : E3 w A w.heap.size) (hv : Holds .i64 w v l) :
    Calls Tryd.prog 8 #[v, .int .i64 at0] w fun e w' => e = .returned (.bool true) ∧ w.grownBy w' none := by
  obtain ⟨hat0, hat1⟩ := bounds_i64 hat
  have hvl := bytes_size hv
  unfold maxLen at hvl
  have HV := Lib.hid hv
  obtain ⟨a, cap, rfl, hcap, hcm, hcell⟩ := hv
  unfold maxLen at hcm
  have HE := Lib.hid hE
  have HCELL := Lib.hid hcell
  clear hE hcell
  by_cases h20 : 20 < l.length
  · go_enter Tryd.func8, Tryd.ntmps8
    go_wp2_with fail
    refine (first_any _).mono ?_
    rintro e w1 ⟨rfl, hg1⟩
    go_wp2
    go_ret
    exact ⟨rfl, hg1⟩
  · go_enter Tryd.func8, Tryd.ntmps8
    go_wp2_with fail
    refine (first_any _).mono ?_
    rintro e w1 ⟨rfl, hg1⟩
    go_wp2
    go_loopw [6, 7] (fun b i wr => ∃ k : Nat, k ≤ l.length ∧ i = .int .i64 k ∧ Bytes wr b (encs (l.take k)) ∧ w.grownBy wr none) (fun _ i _ => l.length - (intOf i).toNat)
    case atStart => exact ⟨0, Nat.zero_le _, rfl, nil_bytes, hg1⟩
    case round =>
      obtain ⟨k, hk, rfl, hb, hg⟩ := hrel
      have HB := Lib.hid hb
      clear hb
      by_cases hlt : k < l.length
      · obtain ⟨bb, off, rfl, hc⟩ := HCELL.out (by omega)
        have hcell := hg.cell (hc k hlt) (by simp)
        have hx := i64_at hl k hlt
        have hst := encs_step l k hlt
        have hln := encs_len (l.take k)
        have htl : (l.take k).length = k := by simp; omega
        rw [htl] at hln
        obtain ⟨x, hxx⟩ : ∃ x, x = l.getD k 0 := ⟨_, rfl⟩
        rw [← hxx] at hcell hx hst
        have HST := Lib.hid hst
        have HX := Lib.hid hx
        have HLN := Lib.hid hln
        clear hst hx hxx hc htl hln
        go_wp2_with (go_at_call 11; refine (put_any _ _ x _ HB.out (by have := HLN.out; omega) HX.out.1 HX.out.2).mono ?_; rintro e w2 ⟨b2, rfl, ho2, hg2⟩)
        have hn : Bytes w2 b2 (encs (l.take (k + 1))) := by rw [HST.out]; exact ho2.bytes
        have hgn := grown_trans hg hg2
        go_roundw
        case rel => exact ⟨k + 1, by omega, by go_num, hn, hgn⟩
        case measure => simp [intOf]; omega
      · obtain rfl : k = l.length := by omega
        rw [List.take_length] at HB
        have hbl := encs_len l
        have hcl := encs_byte l hl
        obtain ⟨E, hEE⟩ : ∃ E, E = encs l := ⟨_, rfl⟩
        rw [← hEE] at HB hbl hcl
        have HEE := Lib.hid hEE
        have HBL := Lib.hid hbl
        have HCL := Lib.hid hcl
        clear hEE hbl hcl
        have hb := HB.out
        obtain ⟨ab, cb, rfl, _⟩ := hb
        go_wp2_with fail
        refine (new_any _ E _ HB.out (by have := HBL.out; omega)).mono ?_
        rintro e w2 ⟨u2, rfl, px, rfl, hrx, hg2⟩
        have HRX := Lib.hid (hrx.mono3 (B' := w.heap.size) hg.size)
        have H2 := Lib.hid (grown_trans hg hg2)
        have HB2 := Lib.hid (HB.out.grown hg2)
        clear hrx
        go_wp2_with fail
        refine (new_any _ E _ HB2.out (by have := HBL.out; omega)).mono ?_
        rintro e w3 ⟨u3, rfl, py, rfl, hry, hg3⟩
        have hpy : w2.heap.size ≤ py := hry.1
        have hpx : px < w2.heap.size := HRX.out.lt
        have hxy : px ≠ py := by omega
        have HRY := Lib.hid (hry.mono3 (B' := w.heap.size) H2.out.size)
        have HRX3 := Lib.hid (HRX.out.grown hg3)
        have H3 := Lib.hid (grown_trans H2.out hg3)
        have HXY := Lib.hid hxy
        have HRB := Lib.hid (hry.2)
        clear hry hg2 hg3 hpy hpx hxy hg
        have hKe := Int.eq_ofNat_of_zero_le (Int.emod_nonneg at0 (show (l.length : Int) + 1 ≠ 0 by omega))
        obtain ⟨K, hK⟩ := hKe
        have hKl : K ≤ l.length := by have := Int.emod_lt_of_pos at0 (show (0 : Int) < (l.length : Int) + 1 by omega); omega
        have hnum := fun W => numberTo_any at0 ((l.length : Int) + 1) W (by omega) (by omega) hat0 hat1
        rw [hK] at hnum
        have HNUM := Lib.hid hnum
        clear hnum hK
        go_wp2_with fail
        refine (HNUM.out _).mono ?_
        rintro e w4 ⟨rfl, rfl⟩
        have hnx : ∀ (p k : Nat) (W : World), k < l.length → Rd W w.heap.size p E (posn l k) .nilIface → w.grownBy W none → Calls Tryd.prog 17 #[.pointer (some ⟨p, 0, none⟩), .int .i64 (-9223372036854775808), .int .i64 9223372036854775807] W fun e w' => e = .returned (.int .i64 (l.getD k 0)) ∧ Rd w' w.heap.size p E (posn l (k + 1)) .nilIface ∧ W.grownBy w' (some p) := by
          intro p k W hk hr hg
          have := num_next p l [] k W A w.heap.size hl hk (fun x hx => by simp at hx) (by rw [List.append_nil, ← HEE.out]; exact hr) (HE.out.kept hg (fun r e => by cases e))
          rw [List.append_nil, ← HEE.out] at this
          exact this
        have HNX := Lib.hid hnx
        clear hnx
        go_wp2
        go_loopw [11] (fun i wr => ∃ k : Nat, k ≤ K ∧ i = .int .i64 k ∧ Rd wr w.heap.size px E (posn l k) .nilIface ∧ Rd wr w.heap.size py E 0 .nilIface ∧ w.grownBy wr none) (fun i _ => K - (intOf i).toNat)
        case atStart => exact ⟨0, Nat.zero_le _, rfl, HRX3.out, HRY.out, H3.out⟩
        case round =>
          obtain ⟨k, hk, rfl, hrx, hry, hg⟩ := hrel
          have HRX4 := Lib.hid hrx
          have HRY4 := Lib.hid hry
          have HG4 := Lib.hid hg
          clear hrx hry hg
          by_cases hlt2 : k < K
          · obtain ⟨bb, off, rfl, hc⟩ := HCELL.out (by omega)
            obtain ⟨x, hxx⟩ : ∃ x, x = l.getD k 0 := ⟨_, rfl⟩
            have hcl := hc k (by omega)
            rw [← hxx] at hcl
            have hcells : ∀ W, w.grownBy W none → W.cell? ⟨bb, off + k, none⟩ = some (.int .i64 x) := fun W hW => hW.cell hcl (by simp)
            have HCS := Lib.hid hcells
            have hxc : ∀ W, w.grownBy W none → Rd W w.heap.size px E (posn l k) .nilIface → Calls Tryd.prog 17 #[.pointer (some ⟨px, 0, none⟩), .int .i64 (-9223372036854775808), .int .i64 9223372036854775807] W fun e w' => e = .returned (.int .i64 x) ∧ Rd w' w.heap.size px E (posn l (k + 1)) .nilIface ∧ W.grownBy w' (some px) := fun W h1 h2 => by rw [hxx]; exact HNX.out px k W (by omega) h2 h1
            have HXC := Lib.hid hxc
            have hcell1 := HCS.out _ HG4.out
            clear hxx hcl hc hcells hxc
            have hne : (x != x) = false := by simp
            go_wp2_with fail
            go_region_with (go_at_call 17; refine (HXC.out _ (grown_drew HG4.out) (HRX4.out.grown (grown_drew (grown_refl _ _)))).mono ?_; rintro e w5 ⟨rfl, hr5, hg5⟩; have hcell2 := HCS.out w5 (grown_new HG4.out (grown_trans (grown_drew (grown_refl _ _)) hg5) (fun r e => by cases e; exact HRX4.out.1)))
            all_goals
              have HRX5 := Lib.hid hr5
              have HRY5 := Lib.hid ((HRY4.out.grown (grown_drew (grown_refl wr none))).other (HRX4.out.grown (grown_drew (grown_refl wr none))) (fun e => HXY.out e.symm) hg5)
              have HG5 := Lib.hid (grown_new HG4.out (grown_trans (grown_drew (grown_refl _ _)) hg5) (fun r e => by cases e; exact HRX4.out.1))
              clear hr5 hg5 hcell2
              go_wp2
              go_roundw
              case rel => exact ⟨k + 1, by omega, by go_num, HRX5.out, HRY5.out, HG5.out⟩
              case measure => simp [intOf]; omega
          · obtain rfl : k = K := by omega
            go_wp2
            go_loopw [12] (fun i wr => ∃ j : Nat, j ≤ l.length ∧ i = .int .i64 j ∧ Rd wr w.heap.size px E (posn l k) .nilIface ∧ Rd wr w.heap.size py E (posn l j) .nilIface ∧ w.grownBy wr none) (fun i _ => l.length - (intOf i).toNat)
            case atStart => exact ⟨0, Nat.zero_le _, rfl, HRX4.out, HRY4.out, HG4.out⟩
            case round =>
              obtain ⟨j, hj, rfl, hrx, hry, hg⟩ := hrel
              have HRX6 := Lib.hid hrx
              have HRY6 := Lib.hid hry
              have HG6 := Lib.hid hg
              clear hrx hry hg
              by_cases hlt3 : j < l.length
              · obtain ⟨bb, off, rfl, hc⟩ := HCELL.out (by omega)
                obtain ⟨x, hxx⟩ : ∃ x, x = l.getD j 0 := ⟨_, rfl⟩
                have hcl := hc j (by omega)
                rw [← hxx] at hcl
                have hcells : ∀ W, w.grownBy W none → W.cell? ⟨bb, off + j, none⟩ = some (.int .i64 x) := fun W hW => hW.cell hcl (by simp)
                have HCS := Lib.hid hcells
                have hxc : ∀ W, w.grownBy W none → Rd W w.heap.size py E (posn l j) .nilIface → Calls Tryd.prog 17 #[.pointer (some ⟨py, 0, none⟩), .int .i64 (-9223372036854775808), .int .i64 9223372036854775807] W fun e w' => e = .returned (.int .i64 x) ∧ Rd w' w.heap.size py E (posn l (j + 1)) .nilIface ∧ W.grownBy w' (some py) := fun W h1 h2 => by rw [hxx]; exact HNX.out py j W (by omega) h2 h1
                have HXC := Lib.hid hxc
                have hcell1 := HCS.out _ HG6.out
                clear hxx hcl hc hcells hxc
                have hne : (x != x) = false := by simp
                go_wp2_with fail
                go_region_with (go_at_call 17; refine (HXC.out _ (grown_drew HG6.out) (HRY6.out.grown (grown_drew (grown_refl _ _)))).mono ?_; rintro e w5 ⟨rfl, hr5, hg5⟩; have hcell2 := HCS.out w5 (grown_new HG6.out (grown_trans (grown_drew (grown_refl _ _)) hg5) (fun r e => by cases e; exact HRY6.out.1)))
                all_goals
                  have HRY7 := Lib.hid hr5
                  have HRX7 := Lib.hid ((HRX6.out.grown (grown_drew (grown_refl wr none))).other (HRY6.out.grown (grown_drew (grown_refl wr none))) HXY.out hg5)
                  have HG7 := Lib.hid (grown_new HG6.out (grown_trans (grown_drew (grown_refl _ _)) hg5) (fun r e => by cases e; exact HRY6.out.1))
                  clear hr5 hg5 hcell2
                  go_wp2
                  go_roundw
                  case rel => exact ⟨j + 1, by omega, by go_num, HRX7.out, HRY7.out, HG7.out⟩
                  case measure => simp [intOf]; omega
              · obtain rfl : j = l.length := by omega
                have hP : posn l k + (E.length - posn l k) = E.length := by have := encs_take_le l k; rw [← HEE.out] at this; unfold posn; omega
                have hD : (E.length - posn l k = 0) ↔ k = l.length := by
                  constructor
                  · intro h
                    rcases Nat.lt_or_ge k l.length with hk' | hk'
                    · have := encs_take_lt l k hk'
                      rw [← HEE.out] at this; unfold posn at h; omega
                    · omega
                  · intro h
                    have : posn l k = E.length := by rw [h, HEE.out]; unfold posn; rw [List.take_length]
                    omega
                have hlx : ∀ W, wr.grownBy W none → Calls Tryd.prog 19 #[.pointer (some ⟨px, 0, none⟩)] W fun e w' => e = .returned (.int .i64 ((E.length - posn l k : Nat) : Int)) ∧ Drawn W w' := fun W hW => left_any px E (posn l k) W w.heap.size _ (HRX6.out.grown hW) (by omega)
                have hly : ∀ W, wr.grownBy W none → Calls Tryd.prog 19 #[.pointer (some ⟨py, 0, none⟩)] W fun e w' => e = .returned (.int .i64 0) ∧ Drawn W w' := fun W hW => by
                  have e : posn l l.length = E.length := by rw [HEE.out]; unfold posn; rw [List.take_length]
                  have := left_any py E (posn l l.length) W w.heap.size _ (HRY6.out.grown hW) (by omega)
                  rw [e, Nat.sub_self] at this
                  exact this
                obtain ⟨P, hPP⟩ : ∃ P, P = posn l k := ⟨_, rfl⟩
                obtain ⟨D, hDD⟩ : ∃ D, D = E.length - posn l k := ⟨_, rfl⟩
                rw [← hDD] at hP hD hlx
                rw [← hPP] at hP
                have hat : Calls Tryd.prog 23 #[.pointer (some ⟨px, 0, none⟩)] wr fun e w' => e = .returned (.int .i64 (P : Int)) ∧ wr = w' := by rw [hPP]; exact at_any px E (posn l k) wr w.heap.size _ HRX6.out
                have hsum : ((P : Int) + (D : Int) == (E.length : Int)) = true := by simp; omega
                have hPb : P ≤ 200 := by have := HBL.out; omega
                have hDb : D ≤ 200 := by have := HBL.out; omega
                have HLX := Lib.hid hlx
                have HLY := Lib.hid hly
                have HAT := Lib.hid hat
                have HERR := Lib.hid (fun (W : World) (hW : wr.grownBy W none) => err_nil px E (posn l k) W w.heap.size (HRX6.out.grown hW))
                have HD := Lib.hid hD
                clear hP hD hlx hly hPP hDD hat
                by_cases hkl : k = l.length
                · have hD0 := HD.out.2 hkl
                  have b1 : ((D : Int) == 0) = true := by simp [hD0]
                  have b2 : ((k : Int) == (l.length : Int)) = true := by simp [hkl]
                  clear hD0 hkl
                  go_wp2_with fail
                  refine HAT.out.mono ?_
                  rintro e w5 ⟨rfl, rfl⟩
                  go_wp2_with fail
                  refine (HLX.out _ (grown_refl _ _)).mono ?_
                  rintro e w6 ⟨rfl, hd6⟩
                  go_wp2_with fail
                  refine (HLY.out _ (hd6.grown none)).mono ?_
                  rintro e w7 ⟨rfl, hd7⟩
                  have h7 := grown_trans (hd6.grown none) (hd7.grown none)
                  go_wp2_with fail
                  refine (HERR.out _ h7).mono ?_
                  rintro e w8 ⟨rfl, rfl⟩
                  go_wp2_with fail
                  refine (HLX.out _ h7).mono ?_
                  rintro e w9 ⟨rfl, hd9⟩
                  go_wp2
                  go_ret
                  exact ⟨rfl, grown_trans HG6.out (grown_trans h7 (hd9.grown none))⟩
                · have hD0 : ¬ D = 0 := fun h => hkl (HD.out.1 h)
                  have b1 : ((D : Int) == 0) = false := by simp; omega
                  have b2 : ((k : Int) == (l.length : Int)) = false := by simp; omega
                  clear hD0 hkl
                  go_wp2_with fail
                  refine HAT.out.mono ?_
                  rintro e w5 ⟨rfl, rfl⟩
                  go_wp2_with fail
                  refine (HLX.out _ (grown_refl _ _)).mono ?_
                  rintro e w6 ⟨rfl, hd6⟩
                  go_wp2_with fail
                  refine (HLY.out _ (hd6.grown none)).mono ?_
                  rintro e w7 ⟨rfl, hd7⟩
                  have h7 := grown_trans (hd6.grown none) (hd7.grown none)
                  go_wp2_with fail
                  refine (HERR.out _ h7).mono ?_
                  rintro e w8 ⟨rfl, rfl⟩
                  go_wp2_with fail
                  refine (HLX.out _ h7).mono ?_
                  rintro e w9 ⟨rfl, hd9⟩
                  go_wp2
                  go_ret
                  exact ⟨rfl, grown_trans HG6.out (grown_trans h7 (hd9.grown none))⟩
end Go.Proofs.YtmacbafkbhigcaaDoor
