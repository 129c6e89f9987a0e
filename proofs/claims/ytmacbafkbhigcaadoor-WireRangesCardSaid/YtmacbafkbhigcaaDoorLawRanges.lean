/- The walk of the law of ranges: a number is read just if it is within; else its place is told, and nothing goes on. -/
import Derived.Test.YtmacbafkbhigcaaDoorLawForms
namespace Go.Proofs.YtmacbafkbhigcaaDoor
open Go.RowKit

/-- What an argument's slice may be: nil, or at some place. -/
def ArgShape (v : Value) (l : List Int) : Prop := (v = .slice none 0 0 ∧ l = []) ∨ ∃ x cap, v = .slice (some x) l.length cap

/-- What an argument's cells are to an append. -/
theorem arg_cells {w w' : World} {x : Addr} {cap : Nat} {l : List Int} (h : Bytes w (.slice (some x) l.length cap) l) (hg : w.grownBy w' none) :
    ∀ j u, (u8s l)[j]? = some u → w'.cell? (x.add j) = some u := by
  intro j u hj
  have hjl : j < l.length := by have := (List.getElem?_eq_some_iff.1 hj).1; simpa using this
  have e : (u8s l)[j]? = some (.int .u8 (l.getD j 0)) := by simp [u8s, hjl]
  rw [e] at hj
  obtain rfl := Option.some.inj hj
  obtain ⟨b, off, cap', he, hlt, hc⟩ := Holds.lt h (by omega)
  simp only [Value.slice.injEq, Option.some.injEq, true_and] at he
  obtain ⟨rfl, _⟩ := he
  rw [Addr.add_lit]
  exact hg.cell (hc j hjl) (by simp)
theorem own_app {w : World} {B : Nat} {v : Value} {l m : List Int} (h : w.ownsRow B 5 1 v (l.length + m.length) (u8s l ++ u8s m)) : Own w B v (l ++ m) := by
  unfold Own
  rw [u8s_append, List.length_append]
  exact h

set_option maxHeartbeats 4000000 in
set_option maxRecDepth 100000 in
theorem ranges_walk (n low high : Int) (v : Value) (L : List Int) (hn : (Lit.int .i64 n).wf = true) (hlo : (Lit.int .i64 low).wf = true) (hhi : (Lit.int .i64 high).wf = true) (w : World) (A : Nat → Addr) (hE : E13 w A w.heap.size)
    (hv : Bytes w v L) (hsh : ArgShape v L) (hL : Wm.Byte L) :
    Calls Tryd.prog 5 #[.int .i64 n, .int .i64 low, .int .i64 high, v] w fun e w' => e = .returned (.bool true) ∧ w.grownBy w' none := by
  obtain ⟨hn0, hn1⟩ := bounds_i64 hn
  obtain ⟨i0, hi, hz0, hz1, hz2⟩ := info_parts infoU8
  have hvl := bytes_size hv
  unfold maxLen at hvl
  by_cases h50 : 50 < L.length
  · have HV := Lib.hid hv
    clear hv
    rcases hsh with ⟨rfl, rfl⟩ | ⟨x, cap, rfl⟩
    · simp at h50
    · go_enter Tryd.func5, Tryd.ntmps5
      go_wp2_with fail
      refine (first_any _).mono ?_
      rintro e w1 ⟨rfl, hg1⟩
      go_wp2
      go_ret
      exact ⟨rfl, hg1⟩
  · have hnum : Wm.numF 0 0 ((Wm.enc n ++ L).drop 0) = (n, (Wm.enc n).length, 0) := by rw [List.drop_zero]; exact Wm.num_enc n hn0 hn1 L
    have hby : Wm.Byte (Wm.enc n ++ L) := by
      intro x hx
      rcases List.mem_append.1 hx with h | h
      · exact Wm.enc_byte n hn0 hn1 x h
      · exact hL x h
    have lx := Wm.enc_len n
    have HE := Lib.hid hE
    have HV := Lib.hid hv
    have HBY := Lib.hid hby
    have HNUM := Lib.hid hnum
    have hL50 : L.length ≤ 50 := by omega
    clear hE hv hby hnum hL h50
    rcases hsh with ⟨rfl, rfl⟩ | ⟨x, cap, rfl⟩
    · by_cases c1 : n < low
      · go_enter Tryd.func5, Tryd.ntmps5
        go_wp2_with fail
        refine (first_any _).mono ?_
        rintro e w1 ⟨rfl, hg1⟩
        go_wp2_with fail
        refine (put_any _ [] n _ nil_bytes (by simp) (by omega) (by omega)).mono ?_
        rintro e w2 ⟨x1, rfl, hox, hg2⟩
        rw [List.nil_append] at hox
        obtain ⟨X, hX⟩ : ∃ X, X = Wm.enc n := ⟨_, rfl⟩
        rw [← hX] at hox lx HBY HNUM
        clear hX
        obtain ⟨gx, cx, rfl, kx⟩ := hox.at_head (by omega)
        have HBX := Lib.hid hox.bytes
        have HLX := Lib.hid lx
        clear hox kx lx
        go_wp2_with fail
        refine (bytes_any _ X _ HBX.out (by have := HLX.out; omega)).mono ?_
        rintro e w3 ⟨z, rfl, hoz, hg3⟩
        have h13 := grown_trans hg1 (grown_trans hg2 hg3)
        have HOZ := Lib.hid hoz
        have H13 := Lib.hid h13
        have hw2 := (grown_trans hg1 hg2).size
        clear hoz h13 hg1 hg2
        have hsz3 := hg3.size
        go_wp2_with (at_builtin; refine wpList_append_own_none rfl _ _ 22 rfl w2.heap.size 5 i0 1 Tryd.underlying22 hi _ _ _ rfl HOZ.out rfl ?_)
        have ho4 : Own w3 w2.heap.size z (X ++ []) := by rw [List.append_nil]; exact HOZ.out
        have h4 := H13.out
        have HO4 := Lib.hid ho4
        have H4 := Lib.hid h4
        clear ho4 h4
        go_wp2_with fail
        refine (new_any _ (X ++ []) _ HO4.out.bytes (by rw [List.length_append]; have := HLX.out; first | omega | (simp; omega))).mono ?_
        rintro e w5 ⟨u5, rfl, p, rfl, hrd, hg5⟩
        have hrd' := hrd.mono (B' := w.heap.size) H4.out.size
        have hE5 := HE.out.kept (grown_trans H4.out hg5) (fun r e => by cases e)
        have HRD := Lib.hid hrd'
        have HE5 := Lib.hid hE5
        clear hrd hrd' hE5
        go_wp2_with fail
        refine (num_ok p (X ++ []) 0 _ _ _ A w.heap.size HRD.out (Nat.zero_le _) HBY.out HE5.out.three (0, 0, 3) (by unfold Wm.numS; rw [HNUM.out]; first | (rw [if_neg (by simp), if_neg (by omega)]; simp; done) | (rw [if_neg (by simp), if_pos (by omega)]))).mono ?_
        rintro e w6 ⟨rfl, hrd6, hg6⟩
        have hE6 := HE5.out.kept hg6 (fun r e => by cases e; exact HRD.out.1)
        have h6 := grown_new (grown_trans H4.out hg5) hg6 (fun r e => by cases e; exact HRD.out.1)
        have HRD6 := Lib.hid hrd6
        have HE6 := Lib.hid hE6
        have H6 := Lib.hid h6
        clear hrd6 hE6 h6 hg5 hg6
        go_wp2_with fail
        refine (num_bad p _ 0 _ _ _ A w.heap.size 3 HRD6.out (by decide)).mono ?_
        rintro e w7 ⟨rfl, rfl⟩
        go_wp2_with fail
        refine (bool_bad p _ 0 _ A w.heap.size 3 HRD6.out (by decide)).mono ?_
        rintro e w8 ⟨rfl, rfl⟩
        go_wp2_with fail
        refine (text_bad p _ 0 _ _ A w.heap.size 3 HRD6.out (by decide)).mono ?_
        rintro e w9 ⟨rfl, rfl⟩
        go_wp2_with fail
        refine (at_any p _ 0 _ w.heap.size _ HRD6.out).mono ?_
        rintro e w10 ⟨rfl, rfl⟩
        go_wp2_with fail
        refine (err_bad p _ 0 _ A w.heap.size 3 HRD6.out (by decide)).mono ?_
        rintro e w11 ⟨u11, rfl, hat, hg11⟩
        have HAT := Lib.hid hat
        clear hat
        go_wp2_with fail
        refine (placed_any _ _ _ (by decide)).mono ?_
        rintro e w12 ⟨rfl, hg12⟩
        go_wp2_with fail
        refine (same_code A w.heap.size 0 2 u11 _ ((HE6.out.kept hg11 (fun r e => by cases e)).kept hg12 (fun r e => by cases e)) (by decide) (HAT.out.grown hg12) _ _ (by decide) (by decide)).mono ?_
        rintro e w13 ⟨rfl, hg13⟩
        go_wp2
        go_ret
        exact ⟨rfl, grown_trans H6.out (grown_trans hg11 (grown_trans hg12 hg13))⟩
      · by_cases c2 : high < n
        · go_enter Tryd.func5, Tryd.ntmps5
          go_wp2_with fail
          refine (first_any _).mono ?_
          rintro e w1 ⟨rfl, hg1⟩
          go_wp2_with fail
          refine (put_any _ [] n _ nil_bytes (by simp) (by omega) (by omega)).mono ?_
          rintro e w2 ⟨x1, rfl, hox, hg2⟩
          rw [List.nil_append] at hox
          obtain ⟨X, hX⟩ : ∃ X, X = Wm.enc n := ⟨_, rfl⟩
          rw [← hX] at hox lx HBY HNUM
          clear hX
          obtain ⟨gx, cx, rfl, kx⟩ := hox.at_head (by omega)
          have HBX := Lib.hid hox.bytes
          have HLX := Lib.hid lx
          clear hox kx lx
          go_wp2_with fail
          refine (bytes_any _ X _ HBX.out (by have := HLX.out; omega)).mono ?_
          rintro e w3 ⟨z, rfl, hoz, hg3⟩
          have h13 := grown_trans hg1 (grown_trans hg2 hg3)
          have HOZ := Lib.hid hoz
          have H13 := Lib.hid h13
          have hw2 := (grown_trans hg1 hg2).size
          clear hoz h13 hg1 hg2
          have hsz3 := hg3.size
          go_wp2_with (at_builtin; refine wpList_append_own_none rfl _ _ 22 rfl w2.heap.size 5 i0 1 Tryd.underlying22 hi _ _ _ rfl HOZ.out rfl ?_)
          have ho4 : Own w3 w2.heap.size z (X ++ []) := by rw [List.append_nil]; exact HOZ.out
          have h4 := H13.out
          have HO4 := Lib.hid ho4
          have H4 := Lib.hid h4
          clear ho4 h4
          go_wp2_with fail
          refine (new_any _ (X ++ []) _ HO4.out.bytes (by rw [List.length_append]; have := HLX.out; first | omega | (simp; omega))).mono ?_
          rintro e w5 ⟨u5, rfl, p, rfl, hrd, hg5⟩
          have hrd' := hrd.mono (B' := w.heap.size) H4.out.size
          have hE5 := HE.out.kept (grown_trans H4.out hg5) (fun r e => by cases e)
          have HRD := Lib.hid hrd'
          have HE5 := Lib.hid hE5
          clear hrd hrd' hE5
          go_wp2_with fail
          refine (num_ok p (X ++ []) 0 _ _ _ A w.heap.size HRD.out (Nat.zero_le _) HBY.out HE5.out.three (0, 0, 3) (by unfold Wm.numS; rw [HNUM.out]; first | (rw [if_neg (by simp), if_neg (by omega)]; simp; done) | (rw [if_neg (by simp), if_pos (by omega)]))).mono ?_
          rintro e w6 ⟨rfl, hrd6, hg6⟩
          have hE6 := HE5.out.kept hg6 (fun r e => by cases e; exact HRD.out.1)
          have h6 := grown_new (grown_trans H4.out hg5) hg6 (fun r e => by cases e; exact HRD.out.1)
          have HRD6 := Lib.hid hrd6
          have HE6 := Lib.hid hE6
          have H6 := Lib.hid h6
          clear hrd6 hE6 h6 hg5 hg6
          go_wp2_with fail
          refine (num_bad p _ 0 _ _ _ A w.heap.size 3 HRD6.out (by decide)).mono ?_
          rintro e w7 ⟨rfl, rfl⟩
          go_wp2_with fail
          refine (bool_bad p _ 0 _ A w.heap.size 3 HRD6.out (by decide)).mono ?_
          rintro e w8 ⟨rfl, rfl⟩
          go_wp2_with fail
          refine (text_bad p _ 0 _ _ A w.heap.size 3 HRD6.out (by decide)).mono ?_
          rintro e w9 ⟨rfl, rfl⟩
          go_wp2_with fail
          refine (at_any p _ 0 _ w.heap.size _ HRD6.out).mono ?_
          rintro e w10 ⟨rfl, rfl⟩
          go_wp2_with fail
          refine (err_bad p _ 0 _ A w.heap.size 3 HRD6.out (by decide)).mono ?_
          rintro e w11 ⟨u11, rfl, hat, hg11⟩
          have HAT := Lib.hid hat
          clear hat
          go_wp2_with fail
          refine (placed_any _ _ _ (by decide)).mono ?_
          rintro e w12 ⟨rfl, hg12⟩
          go_wp2_with fail
          refine (same_code A w.heap.size 0 2 u11 _ ((HE6.out.kept hg11 (fun r e => by cases e)).kept hg12 (fun r e => by cases e)) (by decide) (HAT.out.grown hg12) _ _ (by decide) (by decide)).mono ?_
          rintro e w13 ⟨rfl, hg13⟩
          go_wp2
          go_ret
          exact ⟨rfl, grown_trans H6.out (grown_trans hg11 (grown_trans hg12 hg13))⟩
        · go_enter Tryd.func5, Tryd.ntmps5
          go_wp2_with fail
          refine (first_any _).mono ?_
          rintro e w1 ⟨rfl, hg1⟩
          go_wp2_with fail
          refine (put_any _ [] n _ nil_bytes (by simp) (by omega) (by omega)).mono ?_
          rintro e w2 ⟨x1, rfl, hox, hg2⟩
          rw [List.nil_append] at hox
          obtain ⟨X, hX⟩ : ∃ X, X = Wm.enc n := ⟨_, rfl⟩
          rw [← hX] at hox lx HBY HNUM
          clear hX
          obtain ⟨gx, cx, rfl, kx⟩ := hox.at_head (by omega)
          have HBX := Lib.hid hox.bytes
          have HLX := Lib.hid lx
          clear hox kx lx
          go_wp2_with fail
          refine (bytes_any _ X _ HBX.out (by have := HLX.out; omega)).mono ?_
          rintro e w3 ⟨z, rfl, hoz, hg3⟩
          have h13 := grown_trans hg1 (grown_trans hg2 hg3)
          have HOZ := Lib.hid hoz
          have H13 := Lib.hid h13
          have hw2 := (grown_trans hg1 hg2).size
          clear hoz h13 hg1 hg2
          have hsz3 := hg3.size
          go_wp2_with (at_builtin; refine wpList_append_own_none rfl _ _ 22 rfl w2.heap.size 5 i0 1 Tryd.underlying22 hi _ _ _ rfl HOZ.out rfl ?_)
          have ho4 : Own w3 w2.heap.size z (X ++ []) := by rw [List.append_nil]; exact HOZ.out
          have h4 := H13.out
          have HO4 := Lib.hid ho4
          have H4 := Lib.hid h4
          clear ho4 h4
          go_wp2_with fail
          refine (new_any _ (X ++ []) _ HO4.out.bytes (by rw [List.length_append]; have := HLX.out; first | omega | (simp; omega))).mono ?_
          rintro e w5 ⟨u5, rfl, p, rfl, hrd, hg5⟩
          have hrd' := hrd.mono (B' := w.heap.size) H4.out.size
          have hE5 := HE.out.kept (grown_trans H4.out hg5) (fun r e => by cases e)
          have HRD := Lib.hid hrd'
          have HE5 := Lib.hid hE5
          clear hrd hrd' hE5
          go_wp2_with fail
          refine (num_ok p (X ++ []) 0 _ _ _ A w.heap.size HRD.out (Nat.zero_le _) HBY.out HE5.out.three (n, X.length, 0) (by unfold Wm.numS; rw [HNUM.out]; first | (rw [if_neg (by simp), if_neg (by omega)]; simp; done) | (rw [if_neg (by simp), if_pos (by omega)]))).mono ?_
          rintro e w6 ⟨rfl, hrd6, hg6⟩
          have hE6 := HE5.out.kept hg6 (fun r e => by cases e; exact HRD.out.1)
          have h6 := grown_new (grown_trans H4.out hg5) hg6 (fun r e => by cases e; exact HRD.out.1)
          have HRD6 := Lib.hid hrd6
          have HE6 := Lib.hid hE6
          have H6 := Lib.hid h6
          clear hrd6 hE6 h6 hg5 hg6
          have hlen : (X ++ []).length - X.length = ([] : List Int).length := by rw [List.length_append]; omega
          have hleft : ∀ W, w6.grownBy W none → Calls Tryd.prog 19 #[.pointer (some ⟨p, 0, none⟩)] W fun e w' => e = .returned (.int .i64 (([] : List Int).length : Int)) ∧ Drawn W w' := fun W hW => by rw [← hlen]; exact left_any p (X ++ []) X.length W w.heap.size _ (HRD6.out.grown hW) (by rw [List.length_append]; omega)
          have HLEFT := Lib.hid hleft
          clear hlen hleft
          go_wp2_with fail
          refine (err_nil p _ X.length _ w.heap.size HRD6.out).mono ?_
          rintro e w7 ⟨rfl, rfl⟩
          go_wp2_with fail
          refine (at_any p _ X.length _ w.heap.size _ HRD6.out).mono ?_
          rintro e w8 ⟨rfl, rfl⟩
          go_wp2_with fail
          refine (HLEFT.out _ (grown_refl _ _)).mono ?_
          rintro e w9 ⟨rfl, hdr⟩
          go_wp2
          go_ret
          exact ⟨rfl, grown_trans H6.out (hdr.grown none)⟩
    · by_cases c1 : n < low
      · go_enter Tryd.func5, Tryd.ntmps5
        go_wp2_with fail
        refine (first_any _).mono ?_
        rintro e w1 ⟨rfl, hg1⟩
        go_wp2_with fail
        refine (put_any _ [] n _ nil_bytes (by simp) (by omega) (by omega)).mono ?_
        rintro e w2 ⟨x1, rfl, hox, hg2⟩
        rw [List.nil_append] at hox
        obtain ⟨X, hX⟩ : ∃ X, X = Wm.enc n := ⟨_, rfl⟩
        rw [← hX] at hox lx HBY HNUM
        clear hX
        obtain ⟨gx, cx, rfl, kx⟩ := hox.at_head (by omega)
        have HBX := Lib.hid hox.bytes
        have HLX := Lib.hid lx
        clear hox kx lx
        go_wp2_with fail
        refine (bytes_any _ X _ HBX.out (by have := HLX.out; omega)).mono ?_
        rintro e w3 ⟨z, rfl, hoz, hg3⟩
        have h13 := grown_trans hg1 (grown_trans hg2 hg3)
        have HOZ := Lib.hid hoz
        have H13 := Lib.hid h13
        have hw2 := (grown_trans hg1 hg2).size
        clear hoz h13 hg1 hg2
        have hsz3 := hg3.size
        go_wp2_with (at_builtin; refine wpList_append_own _ rfl _ _ 22 rfl w2.heap.size 5 i0 (.int .u8 0) 1 1 Tryd.underlying22 hi hz0 hz1 hz2 rfl (by decide) _ _ _ rfl HOZ.out x L.length cap (u8s L) rfl (by simp) (arg_cells HV.out H13.out) (u8s_one L) (by have := HLX.out; unfold maxLen; omega) (by have := HLX.out; omega) (by omega) ?_; intro v' w4 hown4 hg4 _)
        have ho4 := own_app hown4
        have h4 := grown_new H13.out hg4 (fun r hr => Nat.le_trans hw2 (HOZ.out.block r hr).1)
        have HO4 := Lib.hid ho4
        have H4 := Lib.hid h4
        clear ho4 h4 hown4 hg4
        go_wp2_with fail
        refine (new_any _ (X ++ L) _ HO4.out.bytes (by rw [List.length_append]; have := HLX.out; first | omega | (simp; omega))).mono ?_
        rintro e w5 ⟨u5, rfl, p, rfl, hrd, hg5⟩
        have hrd' := hrd.mono (B' := w.heap.size) H4.out.size
        have hE5 := HE.out.kept (grown_trans H4.out hg5) (fun r e => by cases e)
        have HRD := Lib.hid hrd'
        have HE5 := Lib.hid hE5
        clear hrd hrd' hE5
        go_wp2_with fail
        refine (num_ok p (X ++ L) 0 _ _ _ A w.heap.size HRD.out (Nat.zero_le _) HBY.out HE5.out.three (0, 0, 3) (by unfold Wm.numS; rw [HNUM.out]; first | (rw [if_neg (by simp), if_neg (by omega)]; simp; done) | (rw [if_neg (by simp), if_pos (by omega)]))).mono ?_
        rintro e w6 ⟨rfl, hrd6, hg6⟩
        have hE6 := HE5.out.kept hg6 (fun r e => by cases e; exact HRD.out.1)
        have h6 := grown_new (grown_trans H4.out hg5) hg6 (fun r e => by cases e; exact HRD.out.1)
        have HRD6 := Lib.hid hrd6
        have HE6 := Lib.hid hE6
        have H6 := Lib.hid h6
        clear hrd6 hE6 h6 hg5 hg6
        go_wp2_with fail
        refine (num_bad p _ 0 _ _ _ A w.heap.size 3 HRD6.out (by decide)).mono ?_
        rintro e w7 ⟨rfl, rfl⟩
        go_wp2_with fail
        refine (bool_bad p _ 0 _ A w.heap.size 3 HRD6.out (by decide)).mono ?_
        rintro e w8 ⟨rfl, rfl⟩
        go_wp2_with fail
        refine (text_bad p _ 0 _ _ A w.heap.size 3 HRD6.out (by decide)).mono ?_
        rintro e w9 ⟨rfl, rfl⟩
        go_wp2_with fail
        refine (at_any p _ 0 _ w.heap.size _ HRD6.out).mono ?_
        rintro e w10 ⟨rfl, rfl⟩
        go_wp2_with fail
        refine (err_bad p _ 0 _ A w.heap.size 3 HRD6.out (by decide)).mono ?_
        rintro e w11 ⟨u11, rfl, hat, hg11⟩
        have HAT := Lib.hid hat
        clear hat
        go_wp2_with fail
        refine (placed_any _ _ _ (by decide)).mono ?_
        rintro e w12 ⟨rfl, hg12⟩
        go_wp2_with fail
        refine (same_code A w.heap.size 0 2 u11 _ ((HE6.out.kept hg11 (fun r e => by cases e)).kept hg12 (fun r e => by cases e)) (by decide) (HAT.out.grown hg12) _ _ (by decide) (by decide)).mono ?_
        rintro e w13 ⟨rfl, hg13⟩
        go_wp2
        go_ret
        exact ⟨rfl, grown_trans H6.out (grown_trans hg11 (grown_trans hg12 hg13))⟩
      · by_cases c2 : high < n
        · go_enter Tryd.func5, Tryd.ntmps5
          go_wp2_with fail
          refine (first_any _).mono ?_
          rintro e w1 ⟨rfl, hg1⟩
          go_wp2_with fail
          refine (put_any _ [] n _ nil_bytes (by simp) (by omega) (by omega)).mono ?_
          rintro e w2 ⟨x1, rfl, hox, hg2⟩
          rw [List.nil_append] at hox
          obtain ⟨X, hX⟩ : ∃ X, X = Wm.enc n := ⟨_, rfl⟩
          rw [← hX] at hox lx HBY HNUM
          clear hX
          obtain ⟨gx, cx, rfl, kx⟩ := hox.at_head (by omega)
          have HBX := Lib.hid hox.bytes
          have HLX := Lib.hid lx
          clear hox kx lx
          go_wp2_with fail
          refine (bytes_any _ X _ HBX.out (by have := HLX.out; omega)).mono ?_
          rintro e w3 ⟨z, rfl, hoz, hg3⟩
          have h13 := grown_trans hg1 (grown_trans hg2 hg3)
          have HOZ := Lib.hid hoz
          have H13 := Lib.hid h13
          have hw2 := (grown_trans hg1 hg2).size
          clear hoz h13 hg1 hg2
          have hsz3 := hg3.size
          go_wp2_with (at_builtin; refine wpList_append_own _ rfl _ _ 22 rfl w2.heap.size 5 i0 (.int .u8 0) 1 1 Tryd.underlying22 hi hz0 hz1 hz2 rfl (by decide) _ _ _ rfl HOZ.out x L.length cap (u8s L) rfl (by simp) (arg_cells HV.out H13.out) (u8s_one L) (by have := HLX.out; unfold maxLen; omega) (by have := HLX.out; omega) (by omega) ?_; intro v' w4 hown4 hg4 _)
          have ho4 := own_app hown4
          have h4 := grown_new H13.out hg4 (fun r hr => Nat.le_trans hw2 (HOZ.out.block r hr).1)
          have HO4 := Lib.hid ho4
          have H4 := Lib.hid h4
          clear ho4 h4 hown4 hg4
          go_wp2_with fail
          refine (new_any _ (X ++ L) _ HO4.out.bytes (by rw [List.length_append]; have := HLX.out; first | omega | (simp; omega))).mono ?_
          rintro e w5 ⟨u5, rfl, p, rfl, hrd, hg5⟩
          have hrd' := hrd.mono (B' := w.heap.size) H4.out.size
          have hE5 := HE.out.kept (grown_trans H4.out hg5) (fun r e => by cases e)
          have HRD := Lib.hid hrd'
          have HE5 := Lib.hid hE5
          clear hrd hrd' hE5
          go_wp2_with fail
          refine (num_ok p (X ++ L) 0 _ _ _ A w.heap.size HRD.out (Nat.zero_le _) HBY.out HE5.out.three (0, 0, 3) (by unfold Wm.numS; rw [HNUM.out]; first | (rw [if_neg (by simp), if_neg (by omega)]; simp; done) | (rw [if_neg (by simp), if_pos (by omega)]))).mono ?_
          rintro e w6 ⟨rfl, hrd6, hg6⟩
          have hE6 := HE5.out.kept hg6 (fun r e => by cases e; exact HRD.out.1)
          have h6 := grown_new (grown_trans H4.out hg5) hg6 (fun r e => by cases e; exact HRD.out.1)
          have HRD6 := Lib.hid hrd6
          have HE6 := Lib.hid hE6
          have H6 := Lib.hid h6
          clear hrd6 hE6 h6 hg5 hg6
          go_wp2_with fail
          refine (num_bad p _ 0 _ _ _ A w.heap.size 3 HRD6.out (by decide)).mono ?_
          rintro e w7 ⟨rfl, rfl⟩
          go_wp2_with fail
          refine (bool_bad p _ 0 _ A w.heap.size 3 HRD6.out (by decide)).mono ?_
          rintro e w8 ⟨rfl, rfl⟩
          go_wp2_with fail
          refine (text_bad p _ 0 _ _ A w.heap.size 3 HRD6.out (by decide)).mono ?_
          rintro e w9 ⟨rfl, rfl⟩
          go_wp2_with fail
          refine (at_any p _ 0 _ w.heap.size _ HRD6.out).mono ?_
          rintro e w10 ⟨rfl, rfl⟩
          go_wp2_with fail
          refine (err_bad p _ 0 _ A w.heap.size 3 HRD6.out (by decide)).mono ?_
          rintro e w11 ⟨u11, rfl, hat, hg11⟩
          have HAT := Lib.hid hat
          clear hat
          go_wp2_with fail
          refine (placed_any _ _ _ (by decide)).mono ?_
          rintro e w12 ⟨rfl, hg12⟩
          go_wp2_with fail
          refine (same_code A w.heap.size 0 2 u11 _ ((HE6.out.kept hg11 (fun r e => by cases e)).kept hg12 (fun r e => by cases e)) (by decide) (HAT.out.grown hg12) _ _ (by decide) (by decide)).mono ?_
          rintro e w13 ⟨rfl, hg13⟩
          go_wp2
          go_ret
          exact ⟨rfl, grown_trans H6.out (grown_trans hg11 (grown_trans hg12 hg13))⟩
        · go_enter Tryd.func5, Tryd.ntmps5
          go_wp2_with fail
          refine (first_any _).mono ?_
          rintro e w1 ⟨rfl, hg1⟩
          go_wp2_with fail
          refine (put_any _ [] n _ nil_bytes (by simp) (by omega) (by omega)).mono ?_
          rintro e w2 ⟨x1, rfl, hox, hg2⟩
          rw [List.nil_append] at hox
          obtain ⟨X, hX⟩ : ∃ X, X = Wm.enc n := ⟨_, rfl⟩
          rw [← hX] at hox lx HBY HNUM
          clear hX
          obtain ⟨gx, cx, rfl, kx⟩ := hox.at_head (by omega)
          have HBX := Lib.hid hox.bytes
          have HLX := Lib.hid lx
          clear hox kx lx
          go_wp2_with fail
          refine (bytes_any _ X _ HBX.out (by have := HLX.out; omega)).mono ?_
          rintro e w3 ⟨z, rfl, hoz, hg3⟩
          have h13 := grown_trans hg1 (grown_trans hg2 hg3)
          have HOZ := Lib.hid hoz
          have H13 := Lib.hid h13
          have hw2 := (grown_trans hg1 hg2).size
          clear hoz h13 hg1 hg2
          have hsz3 := hg3.size
          go_wp2_with (at_builtin; refine wpList_append_own _ rfl _ _ 22 rfl w2.heap.size 5 i0 (.int .u8 0) 1 1 Tryd.underlying22 hi hz0 hz1 hz2 rfl (by decide) _ _ _ rfl HOZ.out x L.length cap (u8s L) rfl (by simp) (arg_cells HV.out H13.out) (u8s_one L) (by have := HLX.out; unfold maxLen; omega) (by have := HLX.out; omega) (by omega) ?_; intro v' w4 hown4 hg4 _)
          have ho4 := own_app hown4
          have h4 := grown_new H13.out hg4 (fun r hr => Nat.le_trans hw2 (HOZ.out.block r hr).1)
          have HO4 := Lib.hid ho4
          have H4 := Lib.hid h4
          clear ho4 h4 hown4 hg4
          go_wp2_with fail
          refine (new_any _ (X ++ L) _ HO4.out.bytes (by rw [List.length_append]; have := HLX.out; first | omega | (simp; omega))).mono ?_
          rintro e w5 ⟨u5, rfl, p, rfl, hrd, hg5⟩
          have hrd' := hrd.mono (B' := w.heap.size) H4.out.size
          have hE5 := HE.out.kept (grown_trans H4.out hg5) (fun r e => by cases e)
          have HRD := Lib.hid hrd'
          have HE5 := Lib.hid hE5
          clear hrd hrd' hE5
          go_wp2_with fail
          refine (num_ok p (X ++ L) 0 _ _ _ A w.heap.size HRD.out (Nat.zero_le _) HBY.out HE5.out.three (n, X.length, 0) (by unfold Wm.numS; rw [HNUM.out]; first | (rw [if_neg (by simp), if_neg (by omega)]; simp; done) | (rw [if_neg (by simp), if_pos (by omega)]))).mono ?_
          rintro e w6 ⟨rfl, hrd6, hg6⟩
          have hE6 := HE5.out.kept hg6 (fun r e => by cases e; exact HRD.out.1)
          have h6 := grown_new (grown_trans H4.out hg5) hg6 (fun r e => by cases e; exact HRD.out.1)
          have HRD6 := Lib.hid hrd6
          have HE6 := Lib.hid hE6
          have H6 := Lib.hid h6
          clear hrd6 hE6 h6 hg5 hg6
          have hlen : (X ++ L).length - X.length = (L : List Int).length := by rw [List.length_append]; omega
          have hleft : ∀ W, w6.grownBy W none → Calls Tryd.prog 19 #[.pointer (some ⟨p, 0, none⟩)] W fun e w' => e = .returned (.int .i64 ((L : List Int).length : Int)) ∧ Drawn W w' := fun W hW => by rw [← hlen]; exact left_any p (X ++ L) X.length W w.heap.size _ (HRD6.out.grown hW) (by rw [List.length_append]; omega)
          have HLEFT := Lib.hid hleft
          clear hlen hleft
          go_wp2_with fail
          refine (err_nil p _ X.length _ w.heap.size HRD6.out).mono ?_
          rintro e w7 ⟨rfl, rfl⟩
          go_wp2_with fail
          refine (at_any p _ X.length _ w.heap.size _ HRD6.out).mono ?_
          rintro e w8 ⟨rfl, rfl⟩
          go_wp2_with fail
          refine (HLEFT.out _ (grown_refl _ _)).mono ?_
          rintro e w9 ⟨rfl, hdr⟩
          go_wp2
          go_ret
          exact ⟨rfl, grown_trans H6.out (hdr.grown none)⟩
end Go.Proofs.YtmacbafkbhigcaaDoor
