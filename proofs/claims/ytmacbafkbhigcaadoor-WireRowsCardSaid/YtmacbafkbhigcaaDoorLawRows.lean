/- The walk of the law of rows: numbers and a text put one behind the other are read one by one; cut off anywhere it ends there. -/
import Derived.Test.YtmacbafkbhigcaaDoorLawTwins
import Derived.Test.YtmacbafkbhigcaaDoorLawForms
namespace Go.Proofs.YtmacbafkbhigcaaDoor
open Go.RowKit

theorem infoInt : (Tryd.prog.info? 3).map (fun i => (i.zero, i.size, i.bytes)) = some (some (.int .i64 0), 1, 8) := by kernel_rfl
def i64s (l : List Int) : List Value := l.map (Value.int .i64)
/-- A slice of ints that is the call's own. -/
def OwnI (w : World) (B : Nat) (v : Value) (l : List Int) : Prop := w.ownsRow B 3 1 v l.length (i64s l)
theorem OwnI.shape {w : World} {B : Nat} {v : Value} {l : List Int} (h : OwnI w B v l) : ∃ a cap, v = .slice a l.length cap := by
  rcases h.2 with ⟨rfl, h0⟩ | ⟨g, cap, cur, rfl, _⟩
  · exact ⟨none, 0, by rw [h0]⟩
  · exact ⟨_, _, rfl⟩
theorem OwnI.at_head {w : World} {B : Nat} {v : Value} {l : List Int} (h : OwnI w B v l) (h0 : 0 < l.length) : ∃ g cap, v = .slice (some ⟨g, 0, none⟩) l.length cap := by
  rcases h.2 with ⟨_, h1⟩ | ⟨g, cap, cur, rfl, _⟩
  · omega
  · exact ⟨g, cap, rfl⟩
theorem OwnI.cellAt {w : World} {B g n cap : Nat} {l : List Int} (h : OwnI w B (.slice (some ⟨g, 0, none⟩) n cap) l) (j : Nat) (hj : j < l.length) : w.cell? ⟨g, j, none⟩ = some (.int .i64 (l.getD j 0)) := by
  obtain ⟨a, c, he⟩ := h.shape
  obtain rfl : n = l.length := by simp at he; omega
  rw [World.ownsRow.cellAt h j (by omega)]
  simp [i64s, hj]
theorem OwnI.kept {w w' : World} {B : Nat} {v : Value} {l : List Int} {row : Option Nat} (h : OwnI w B v l) (hg : w.grownBy w' row) (hne : ∀ r, row = some r → v.ownBlock ≠ some r) : OwnI w' B v l :=
  World.ownsRow.kept h hg (by cases row with | none => cases v.ownBlock <;> simp | some r => exact .inr (hne r rfl))
theorem OwnI.block {w : World} {B : Nat} {v : Value} {l : List Int} (h : OwnI w B v l) : ∀ r, v.ownBlock = some r → B ≤ r ∧ r < w.heap.size := World.ownsRow.lt h
theorem ownI_one {w : World} {B : Nat} {v : Value} {l : List Int} {x : Int} (h : w.ownsRow B 3 1 v (l.length + 1) (i64s l ++ [.int .i64 x])) : OwnI w B v (l ++ [x]) := by
  have e : i64s (l ++ [x]) = i64s l ++ [.int .i64 x] := by simp [i64s]
  unfold OwnI
  rw [e]
  simpa using h
/-- A row of bytes and a row of ints are two. -/
theorem own_apart {w : World} {B B' : Nat} {v u : Value} {l m : List Int} (h : Own w B v l) (k : OwnI w B' u m) : ∀ r, u.ownBlock = some r → v.ownBlock ≠ some r := by
  intro r hr hv
  rcases h.2 with ⟨rfl, _⟩ | ⟨g, cap, cur, rfl, _, hg, _⟩
  · simp [Value.ownBlock] at hv
  · rcases k.2 with ⟨rfl, _⟩ | ⟨g', cap', cur', rfl, _, hg', _⟩
    · simp [Value.ownBlock] at hr
    · simp [Value.ownBlock] at hv hr
      subst hv; subst hr
      rw [hg] at hg'
      simp at hg'

/-- The places behind each number. -/
def ends (l : List Int) (k : Nat) : List Int := (List.range k).map fun i => (posn l (i + 1) : Int)
theorem ends_len (l : List Int) (k : Nat) : (ends l k).length = k := by simp [ends]
theorem ends_snoc (l : List Int) (k : Nat) : ends l (k + 1) = ends l k ++ [(posn l (k + 1) : Int)] := by simp [ends, List.range_succ]
theorem ends_get (l : List Int) (n i : Nat) (t : Int) (hi : i < n) : (ends l n ++ [t]).getD i 0 = (posn l (i + 1) : Int) := by
  simp [ends, List.getD, List.getElem?_append, hi]
theorem ends_last (l : List Int) (n : Nat) (t : Int) : (ends l n ++ [t]).getD n 0 = t := by
  simp [ends, List.getD]

/-- All bytes: the numbers, the text. -/
def rowBytes (l : List Int) (s : ByteArray) : List Int := encs l ++ (Wm.enc s.size ++ bs s)
theorem rowBytes_len (l : List Int) (s : ByteArray) : (rowBytes l s).length = (encs l).length + ((Wm.enc s.size).length + s.size) := by simp only [rowBytes, List.length_append, bs_len]
theorem posn_len (l : List Int) : posn l l.length = (encs l).length := by unfold posn; rw [List.take_length]
theorem posn_step (l : List Int) (i : Nat) (hi : i < l.length) : posn l (i + 1) = posn l i + (Wm.enc (l.getD i 0)).length := by
  unfold posn; rw [encs_step l i hi, List.length_append]
theorem posn_le (l : List Int) (i : Nat) : posn l i ≤ (encs l).length := encs_take_le l i
theorem row_drop (l : List Int) (s : ByteArray) (i : Nat) (hi : i < l.length) : ∃ r, (rowBytes l s).drop (posn l i) = Wm.enc (l.getD i 0) ++ r :=
  ⟨encs (l.drop (i + 1)) ++ (Wm.enc s.size ++ bs s), by
    unfold rowBytes posn
    rw [List.drop_append_of_le_length (encs_take_le l i), encs_cut l i hi, List.append_assoc]⟩
theorem rows_num (l : List Int) (s : ByteArray) (k i : Nat) (hl : I64 l) (hi : i < l.length) (_hk : k ≤ (rowBytes l s).length) (hp : posn l i ≤ k) :
    Wm.numS ((rowBytes l s).take k) (posn l i) (-9223372036854775808) 9223372036854775807 = if posn l (i + 1) ≤ k then (l.getD i 0, posn l (i + 1), 0) else (0, posn l i, 1) := by
  have hx := i64_at hl i hi
  obtain ⟨r, hr⟩ := row_drop l s i hi
  have hst := posn_step l i hi
  have e : ((rowBytes l s).take k).drop (posn l i) = (Wm.enc (l.getD i 0) ++ r).take (k - posn l i) := by rw [List.drop_take, hr]
  by_cases hf : posn l (i + 1) ≤ k
  · have e2 : (Wm.enc (l.getD i 0) ++ r).take (k - posn l i) = Wm.enc (l.getD i 0) ++ r.take (k - posn l i - (Wm.enc (l.getD i 0)).length) := by
      rw [List.take_append, List.take_of_length_le (by omega)]
    unfold Wm.numS
    rw [if_pos hf, e, e2, Wm.num_enc _ hx.1 hx.2, if_neg (by simp), if_neg (by omega), ← hst]
  · have e2 : (Wm.enc (l.getD i 0) ++ r).take (k - posn l i) = (Wm.enc (l.getD i 0)).take (k - posn l i) := by
      rw [List.take_append_of_le_length (by omega)]
    unfold Wm.numS
    rw [if_neg hf, e, e2, Wm.num_cut _ hx.1 hx.2 _ (by omega), if_pos (by simp)]
theorem rows_text (l : List Int) (s : ByteArray) (k : Nat) (hs : s.size ≤ 60) (_hk : k ≤ (rowBytes l s).length) (hp : posn l l.length ≤ k) :
    Wm.textS ((rowBytes l s).take k) (posn l l.length) 60 = if (rowBytes l s).length ≤ k then (bs s, (rowBytes l s).length, 0) else ([], posn l l.length, 1) := by
  have hpl := posn_len l
  have hrl := rowBytes_len l s
  have hd : (rowBytes l s).drop (posn l l.length) = Wm.enc s.size ++ bs s := by rw [hpl]; unfold rowBytes; rw [List.drop_left]
  have hd2 : (rowBytes l s).drop (posn l l.length + (Wm.enc s.size).length) = bs s := by rw [← List.drop_drop, hd, List.drop_left]
  have hbl := bs_len s
  by_cases hf : (rowBytes l s).length ≤ k
  · have hkk : (rowBytes l s).take k = rowBytes l s := List.take_of_length_le hf
    have hnum : Wm.numS (rowBytes l s) (posn l l.length) 0 60 = ((s.size : Int), posn l l.length + (Wm.enc s.size).length, 0) := by
      unfold Wm.numS
      rw [hd, Wm.num_enc s.size (by omega) (by omega), if_neg (by simp), if_neg (by omega)]
    rw [if_pos hf, hkk]
    unfold Wm.textS
    rw [hnum, if_neg (by simp), if_neg (by simp only; omega)]
    simp only [hd2, Int.toNat_natCast]
    rw [List.take_of_length_le (by omega), hrl, hpl, Nat.add_assoc]
  · rw [if_neg hf]
    have e : ((rowBytes l s).take k).drop (posn l l.length) = (Wm.enc s.size ++ bs s).take (k - posn l l.length) := by rw [List.drop_take, hd]
    have hlk : ((rowBytes l s).take k).length = k := by rw [List.length_take]; omega
    by_cases hh : (Wm.enc s.size).length ≤ k - posn l l.length
    · have e2 : (Wm.enc s.size ++ bs s).take (k - posn l l.length) = Wm.enc s.size ++ (bs s).take (k - posn l l.length - (Wm.enc s.size).length) := by
        rw [List.take_append, List.take_of_length_le hh]
      have hnum : Wm.numS ((rowBytes l s).take k) (posn l l.length) 0 60 = ((s.size : Int), posn l l.length + (Wm.enc s.size).length, 0) := by
        unfold Wm.numS
        rw [e, e2, Wm.num_enc s.size (by omega) (by omega), if_neg (by simp), if_neg (by omega)]
      unfold Wm.textS
      rw [hnum, if_neg (by simp), if_pos (by simp only; omega)]
    · have e2 : (Wm.enc s.size ++ bs s).take (k - posn l l.length) = (Wm.enc s.size).take (k - posn l l.length) := by
        rw [List.take_append_of_le_length (by omega)]
      have hnum : Wm.numS ((rowBytes l s).take k) (posn l l.length) 0 60 = (0, posn l l.length, 1) := by
        unfold Wm.numS
        rw [e, e2, Wm.num_cut s.size (by omega) (by omega) _ (by omega), if_pos (by simp)]
      unfold Wm.textS
      rw [hnum, if_pos (by simp)]
theorem rowBytes_byte (l : List Int) (s : ByteArray) (hl : I64 l) (hs : s.size ≤ 60) : Wm.Byte (rowBytes l s) := by
  intro x hx
  rcases List.mem_append.1 hx with h | h
  · exact encs_byte l hl x h
  · rcases List.mem_append.1 h with h | h
    · exact Wm.enc_byte s.size (by omega) (by omega) x h
    · exact bs_byte s x h

theorem E13.up {w : World} {A : Nat → Addr} {B B' : Nat} (h : E13 w A B) (hB : B ≤ B') : E13 w A B' :=
  ⟨fun i hi => ⟨(h.cell i hi).1, Nat.lt_of_lt_of_le (h.cell i hi).2 hB⟩, fun i hi => ⟨Nat.lt_of_lt_of_le (h.at' i hi).1 hB, (h.at' i hi).2⟩, h.apart⟩

set_option maxHeartbeats 16000000 in
set_option maxRecDepth 100000 in
theorem rows_walk (v : Value) (l : List Int) (s : ByteArray) (cut0 : Int) (hl : I64 l) (hcut : (Lit.int .i64 cut0).wf = true) (w : World) (A : Nat → Addr) (hE : E13 w A w.heap.size) (hv : Holds .i64 w v l) :
    Calls Tryd.prog 6 #[v, .string s, .int .i64 cut0] w fun e w' => e = .returned (.bool true) ∧ w.grownBy w' none := by
  obtain ⟨hcut0, hcut1⟩ := bounds_i64 hcut
  obtain ⟨i1, hi, hz0, hz1, hz2⟩ := info_parts infoInt
  have hvl := bytes_size hv
  unfold maxLen at hvl
  obtain ⟨a, cap, rfl, hcap, hcm, hcell⟩ := hv
  unfold maxLen at hcm
  have HE := Lib.hid hE
  have HCELL := Lib.hid hcell
  clear hE hcell
  by_cases h20 : 20 < l.length
  · go_enter Tryd.func6, Tryd.ntmps6
    go_wp2_with fail
    refine (first_any _).mono ?_
    rintro e w1 ⟨rfl, hg1⟩
    go_wp2
    go_ret
    exact ⟨rfl, hg1⟩
  by_cases h60 : 60 < s.size
  · go_enter Tryd.func6, Tryd.ntmps6
    go_wp2_with fail
    refine (first_any _).mono ?_
    rintro e w1 ⟨rfl, hg1⟩
    go_wp2
    go_ret
    exact ⟨rfl, hg1⟩
  · go_enter Tryd.func6, Tryd.ntmps6
    go_wp2_with fail
    refine (first_any _).mono ?_
    rintro e w1 ⟨rfl, hg1⟩
    go_wp2
    go_loopw [8, 9, 10] (fun b es i wr => ∃ k : Nat, k ≤ l.length ∧ i = .int .i64 k ∧ Own wr w.heap.size b (encs (l.take k)) ∧ OwnI wr w.heap.size es (ends l k) ∧ w.grownBy wr none) (fun _ _ i _ => l.length - (intOf i).toNat)
    case atStart => exact ⟨0, Nat.zero_le _, rfl, World.ownsRow_nil _ _ _ _, World.ownsRow_nil _ _ _ _, hg1⟩
    case round =>
      obtain ⟨k, hk, rfl, hb, he, hg⟩ := hrel
      have HB := Lib.hid hb
      have HES := Lib.hid he
      clear hb he
      by_cases hlt : k < l.length
      · obtain ⟨bb, off, rfl, hc⟩ := HCELL.out (by omega)
        have hcell := hg.cell (hc k hlt) (by simp)
        have hx := i64_at hl k hlt
        have hst := encs_step l k hlt
        have hln := encs_len (l.take (k + 1))
        have hln0 := encs_len (l.take k)
        have htl : (l.take (k + 1)).length = k + 1 := by simp; omega
        have htl0 : (l.take k).length = k := by simp; omega
        rw [htl] at hln
        rw [htl0] at hln0
        obtain ⟨x, hxx⟩ : ∃ x, x = l.getD k 0 := ⟨_, rfl⟩
        rw [← hxx] at hcell hx hst
        have HST := Lib.hid hst
        have HX := Lib.hid hx
        have HLN := Lib.hid hln
        have HLN0 := Lib.hid hln0
        clear hst hx hxx hc htl htl0 hln hln0
        go_wp2_with fail
        refine (put_any _ _ x _ HB.out.bytes (by have := HLN0.out; omega) HX.out.1 HX.out.2).mono ?_
        rintro e w2 ⟨b2, rfl, ho2, hg2⟩
        rw [← HST.out] at ho2
        have ho3 := ho2.mono (B' := w.heap.size) hg.size
        have he2 := HES.out.kept hg2 (fun r e => by cases e)
        obtain ⟨ab, cb, rfl⟩ := ho3.shape
        have hen := ends_len l k
        have hsz : w.heap.size ≤ w2.heap.size := (grown_trans hg hg2).size
        have HO3 := Lib.hid ho3
        have HE2 := Lib.hid he2
        have HG2 := Lib.hid (grown_trans hg hg2)
        have HEN := Lib.hid hen
        clear ho2 ho3 he2 hen hg hg2
        go_wp2_with (at_builtin; refine wpList_append_own _ rfl _ _ 44 rfl w.heap.size 3 i1 (.int .i64 0) 1 8 Tryd.underlying44 hi hz0 hz1 hz2 rfl (by decide) _ _ _ rfl (World.ownsRow.alloc HE2.out _) ⟨w2.heap.size, 0, none⟩ 1 1 [_] rfl rfl (cell_one_new _ _ _) (one_cell _ _) (by rw [HEN.out]; unfold maxLen; omega) (by rw [HEN.out]; omega) (by simp; omega) ?_; intro v' w4 hown4 hg4 _)
        have hg4' : (w2.alloc (.cells #[.int .i64 ((encs (l.take (k + 1))).length : Int)] 3)).grownBy w4 u9.ownBlock := hg4
        have hb4 := (HO3.out.kept (World.grownBy_alloc w2 _ none) (fun r e => by cases e)).kept hg4' (fun r hr => own_apart HO3.out HE2.out r hr)
        have he4 : OwnI w4 w.heap.size v' (ends l (k + 1)) := by rw [ends_snoc]; exact ownI_one hown4
        have hg5 := grown_new HG2.out (grown_trans (World.grownBy_alloc w2 _ _) hg4') (fun r hr => (HE2.out.block r hr).1)
        go_roundw
        case rel => exact ⟨k + 1, by omega, by go_num, hb4, he4, hg5⟩
        case measure => simp [intOf]; omega
      · obtain rfl : k = l.length := by omega
        rw [List.take_length] at HB
        have hel := encs_len l
        have HEL := Lib.hid hel
        clear hel
        go_wp2_with fail
        refine (putText_any _ _ s _ HB.out.bytes (by have := HEL.out; omega)).mono ?_
        rintro e w2 ⟨b2, rfl, ho2, hg2⟩
        have ho3 := ho2.mono (B' := w.heap.size) hg.size
        have he2 := HES.out.kept hg2 (fun r e => by cases e)
        have hrl := rowBytes_len l s
        have hels := Wm.enc_len s.size
        obtain ⟨T, hT⟩ : ∃ T, T = rowBytes l s := ⟨_, rfl⟩
        have ho4 : Own w2 w.heap.size b2 T := by rw [hT]; exact ho3
        rw [← hT] at hrl
        obtain ⟨ab, cb, hb2⟩ := ho4.shape
        subst hb2
        have hbT : T.length ≤ 270 := by have := HEL.out; omega
        have hsz : w.heap.size ≤ w2.heap.size := (grown_trans hg hg2).size
        have HO4 := Lib.hid ho4
        have HE2 := Lib.hid he2
        have HG2 := Lib.hid (grown_trans hg hg2)
        have HEN := Lib.hid (ends_len l l.length)
        have HT := Lib.hid hT
        have HRL := Lib.hid hrl
        clear ho2 ho3 ho4 he2 hg hg2 hT hrl
        go_wp2_with (at_builtin; refine wpList_append_own _ rfl _ _ 44 rfl w.heap.size 3 i1 (.int .i64 0) 1 8 Tryd.underlying44 hi hz0 hz1 hz2 rfl (by decide) _ _ _ rfl (World.ownsRow.alloc HE2.out _) ⟨w2.heap.size, 0, none⟩ 1 1 [_] rfl rfl (cell_one_new _ _ _) (one_cell _ _) (by rw [HEN.out]; unfold maxLen; omega) (by rw [HEN.out]; omega) (by simp; omega) ?_; intro v' w4 hown4 hg4 _)
        have hg4' : (w2.alloc (.cells #[.int .i64 (T.length : Int)] 3)).grownBy w4 u9.ownBlock := hg4
        have hb4 := (HO4.out.kept (World.grownBy_alloc w2 _ none) (fun r e => by cases e)).kept hg4' (fun r hr => own_apart HO4.out HE2.out r hr)
        have he4 : OwnI w4 w.heap.size v' (ends l l.length ++ [(T.length : Int)]) := ownI_one hown4
        have hg5 := grown_new HG2.out (grown_trans (World.grownBy_alloc w2 _ _) hg4') (fun r hr => (HE2.out.block r hr).1)
        have HB4 := Lib.hid hb4
        have HE4 := Lib.hid he4
        have HG5 := Lib.hid hg5
        clear hg4 hg4' hb4 he4 hg5 hown4
        obtain ⟨K, hK⟩ := Int.eq_ofNat_of_zero_le (Int.emod_nonneg cut0 (show (T.length : Int) + 1 ≠ 0 by omega))
        have hKl : K ≤ T.length := by have := Int.emod_lt_of_pos cut0 (show (0 : Int) < (T.length : Int) + 1 by omega); omega
        have hnum := fun W => numberTo_any cut0 ((T.length : Int) + 1) W (by omega) (by omega) hcut0 hcut1
        rw [hK] at hnum
        have HNUM := Lib.hid hnum
        clear hnum hK
        go_wp2_with fail
        refine (HNUM.out _).mono ?_
        rintro e w5 ⟨rfl, rfl⟩
        have hcutb := Holds.cut HB4.out.bytes K hKl
        have hcb : T.length ≤ cb := by
          obtain ⟨_, c', he, h1, _⟩ := HB4.out.bytes
          simp at he; omega
        have hkc : K ≤ cb := by omega
        have HCB := Lib.hid hcutb
        clear hcutb
        obtain ⟨D, hD⟩ : ∃ D, D = T.take K := ⟨_, rfl⟩
        rw [← hD] at HCB
        have hDl : D.length = K := by rw [hD, List.length_take]; omega
        have HD := Lib.hid hD
        have HDL := Lib.hid hDl
        clear hD hDl
        go_wp2_with fail
        refine (new_any _ D _ HCB.out (by have := HDL.out; omega)).mono ?_
        rintro e w6 ⟨u6, rfl, p, rfl, hrd, hg6⟩
        have hL2 : (ends l l.length ++ [(T.length : Int)]).length = l.length + 1 := by rw [List.length_append, ends_len]; rfl
        obtain ⟨g, c2, rfl⟩ := HE4.out.at_head (by omega)
        have hcells : ∀ j, j < l.length + 1 → w4.cell? ⟨g, j, none⟩ = some (.int .i64 ((ends l l.length ++ [(T.length : Int)]).getD j 0)) := fun j hj => HE4.out.cellAt j (by omega)
        obtain ⟨n2, hn2⟩ : ∃ n2, n2 = (ends l l.length ++ [(T.length : Int)]).length := ⟨_, rfl⟩
        rw [← hn2] at hL2
        rw [← hn2]
        have hn2' : l.length + 1 ≤ n2 := by omega
        have hpos0 : posn l 0 = 0 := by simp [posn, encs]
        have hbyD : Wm.Byte D := by
          rw [HD.out, HT.out]
          intro x hx
          exact rowBytes_byte l s hl (by omega) x (List.mem_of_mem_take hx)
        have hpl := posn_len l
        have hc1 : ∀ i, i < l.length → w4.cell? ⟨g, i, none⟩ = some (.int .i64 (posn l (i + 1) : Int)) := fun i hi => by rw [hcells i (by omega), ends_get l _ i _ hi]
        have hc2 : w4.cell? ⟨g, l.length, none⟩ = some (.int .i64 (T.length : Int)) := by rw [hcells _ (by omega), ends_last]
        have hnumS : ∀ i, i < l.length → posn l i ≤ K → Wm.numS D (posn l i) (-9223372036854775808) 9223372036854775807 = if posn l (i + 1) ≤ K then (l.getD i 0, posn l (i + 1), 0) else (0, posn l i, 1) := fun i hi hp => by
          rw [HD.out, HT.out]; exact rows_num l s K i hl hi (by rw [← HT.out]; exact hKl) hp
        have htextS : posn l l.length ≤ K → Wm.textS D (posn l l.length) 60 = if T.length ≤ K then (bs s, T.length, 0) else ([], posn l l.length, 1) := fun hp => by
          rw [HD.out, HT.out]; exact rows_text l s K (by omega) (by rw [← HT.out]; exact hKl) hp
        have hsmall : ∀ i, posn l i ≤ 200 := fun i => by have := posn_le l i; have := HEL.out; omega
        have HSM := Lib.hid hsmall
        have HC1 := Lib.hid hc1
        have HC2 := Lib.hid hc2
        have HNS := Lib.hid hnumS
        have HTS := Lib.hid htextS
        have HBY := Lib.hid hbyD
        have HRD := Lib.hid hrd
        have HG6 := Lib.hid hg6
        have HW4 := Lib.hid (HG5.out.size)
        have HP0 := Lib.hid hpos0
        clear hcells hn2 hL2 hpos0 hbyD hpl hc1 hc2 hnumS htextS hrd hg6 hsmall
        go_wp2
        go_loopw [13, 14] (fun at' i wr => ∃ j q : Nat, j ≤ l.length + 1 ∧ i = .int .i64 j ∧ at' = .int .i64 q ∧ q ≤ K ∧ (j ≤ l.length → q = posn l j) ∧ (j = l.length + 1 → q = T.length) ∧ Rd wr w4.heap.size p D q .nilIface ∧ w4.grownBy wr none) (fun _ i _ => l.length + 1 - (intOf i).toNat)
        case atStart => exact ⟨0, 0, by omega, rfl, rfl, by omega, fun _ => HP0.out.symm, fun h => by omega, HRD.out, HG6.out⟩
        case round =>
          obtain ⟨j, q, hj, rfl, rfl, hq, hq1, hq2, hr, hg⟩ := hrel
          have HR := Lib.hid hr
          have HG := Lib.hid hg
          have hE7 := (HE.out.up HW4.out).kept (grown_trans HG5.out hg) (fun r e => by cases e)
          have HE7 := Lib.hid hE7
          clear hr hg hE7
          rcases (show j < l.length ∨ j = l.length ∨ j = l.length + 1 by omega) with hjl | hjl | hjl
          · have hqj := hq1 (by omega)
            subst hqj
            obtain ⟨bb, off, rfl, hc⟩ := HCELL.out (by omega)
            obtain ⟨x, hxx⟩ : ∃ x, x = l.getD j 0 := ⟨_, rfl⟩
            have hns := HNS.out j hjl hq
            rw [← hxx] at hns
            have hcl0 := hc j hjl
            rw [← hxx] at hcl0
            have hce0 := HC1.out j hjl
            have hsm := HSM.out (j + 1)
            have hsm0 := HSM.out j
            obtain ⟨E, hE⟩ : ∃ E, E = posn l (j + 1) := ⟨_, rfl⟩
            rw [← hE] at hce0 hsm hns
            have hcl := (grown_trans HG5.out HG.out).cell hcl0 (by simp)
            have hce := HG.out.cell hce0 (by simp)
            have HCL := Lib.hid hcl0
            have HCE := Lib.hid hce0
            have HEQ := Lib.hid hE
            clear hxx hc hq1 hq2 hE hcl0 hce0
            by_cases hf : E ≤ K
            · rw [if_pos hf] at hns
              have HN := Lib.hid hns
              clear hns
              go_wp2_with fail
              refine (num_ok p D (posn l j) _ _ _ A w4.heap.size HR.out (by have := HDL.out; omega) HBY.out HE7.out.three _ HN.out.symm).mono ?_
              rintro e w6a ⟨rfl, hr7, hg7⟩
              have hr8 : Rd w6a w4.heap.size p D E .nilIface := hr7
              have hg8 := grown_new HG.out hg7 (fun r e => by cases e; exact HR.out.1)
              have hcl7 := (grown_trans HG5.out hg8).cell (HCL.out) (by simp)
              have hce7 := hg8.cell HCE.out (by simp)
              have HR7 := Lib.hid hr8
              have HG7 := Lib.hid hg8
              have hxx2 : (x != x) = false := by simp
              clear hr7 hg7 hr8 hg8
              go_wp2
              go_roundw
              case rel => exact ⟨j + 1, E, by omega, by go_num, rfl, hf, fun _ => HEQ.out, fun h => by omega, HR7.out, HG7.out⟩
              case measure => simp [intOf]; omega
            · rw [if_neg hf] at hns
              have HN := Lib.hid hns
              have hf2 : ¬ ((E : Int) ≤ (K : Int)) := by omega
              clear hns
              go_wp2_with fail
              refine (num_ok p D (posn l j) _ _ _ A w4.heap.size HR.out (by have := HDL.out; omega) HBY.out HE7.out.three _ HN.out.symm).mono ?_
              rintro e w6a ⟨rfl, hr7, hg7⟩
              have hr8 : Rd w6a w4.heap.size p D (posn l j) (ev A 1) := hr7
              have hg8 := grown_new HG.out hg7 (fun r e => by cases e; exact HR.out.1)
              have hcl7 := (grown_trans HG5.out hg8).cell (HCL.out) (by simp)
              have HRB := Lib.hid hr8
              have HEB := Lib.hid (HE7.out.kept hg7 (fun r e => by cases e; exact HR.out.1))
              have HGB := Lib.hid hg8
              clear hr7 hg7 hr8 hg8
              go_wp2_with fail
              refine (at_any p D _ _ w4.heap.size _ HRB.out).mono ?_
              rintro e w7 ⟨rfl, rfl⟩
              go_wp2_with fail
              refine (err_bad p D _ _ A w4.heap.size 1 HRB.out (by decide)).mono ?_
              rintro e w8 ⟨u8', rfl, hat, hg8⟩
              have HAT := Lib.hid hat
              clear hat
              go_wp2_with fail
              refine (placed_any _ _ _ (by decide)).mono ?_
              rintro e w9 ⟨rfl, hg9⟩
              go_wp2_with fail
              refine (same_code A w4.heap.size _ 0 u8' _ ((HEB.out.kept hg8 (fun r e => by cases e)).kept hg9 (fun r e => by cases e)) (by decide) (HAT.out.grown hg9) _ _ (by decide) rfl).mono ?_
              rintro e w10 ⟨rfl, hg10⟩
              go_wp2
              go_ret
              exact ⟨rfl, grown_trans (grown_trans HG5.out HGB.out) (grown_trans hg8 (grown_trans hg9 hg10))⟩
          · subst hjl
            have hqj := hq1 (by omega)
            subst hqj
            have hts := HTS.out hq
            have hce := HG.out.cell HC2.out (by simp)
            have hsm0 := HSM.out l.length
            clear hq1 hq2
            by_cases hf : T.length ≤ K
            · rw [if_pos hf] at hts
              have HN := Lib.hid hts
              have HSTR := Lib.hid (str_bs s)
              clear hts
              go_wp2_with fail
              refine (text_ok p D (posn l l.length) _ _ A w4.heap.size HR.out (by have := HDL.out; omega) HBY.out HE7.out.three (by omega) (by omega) _ HN.out.symm).mono ?_
              rintro e w6a ⟨rfl, hr7, hg7⟩
              have hr8 : Rd w6a w4.heap.size p D T.length .nilIface := hr7
              have hg8 := grown_new HG.out hg7 (fun r e => by cases e; exact HR.out.1)
              have hce7 := hg8.cell HC2.out (by simp)
              have HR7 := Lib.hid hr8
              have HG7 := Lib.hid hg8
              clear hr7 hg7 hr8 hg8
              rw [show strOfNums ((bs s, T.length, 0) : List Int × Nat × Nat).1 = s from HSTR.out]
              go_wp2
              go_roundw
              case rel => exact ⟨l.length + 1, T.length, Nat.le_refl _, by go_num, rfl, hf, fun h => by omega, fun _ => rfl, HR7.out, HG7.out⟩
              case measure => first | (simp [intOf]; done) | (simp [intOf]; omega)
            · rw [if_neg hf] at hts
              have HN := Lib.hid hts
              have hf2 : ¬ ((T.length : Int) ≤ (K : Int)) := by omega
              clear hts
              go_wp2_with fail
              refine (text_ok p D (posn l l.length) _ _ A w4.heap.size HR.out (by have := HDL.out; omega) HBY.out HE7.out.three (by omega) (by omega) _ HN.out.symm).mono ?_
              rintro e w6a ⟨rfl, hr7, hg7⟩
              have hr8 : Rd w6a w4.heap.size p D (posn l l.length) (ev A 1) := hr7
              have hg8 := grown_new HG.out hg7 (fun r e => by cases e; exact HR.out.1)
              have HRB := Lib.hid hr8
              have HEB := Lib.hid (HE7.out.kept hg7 (fun r e => by cases e; exact HR.out.1))
              have HGB := Lib.hid hg8
              clear hr7 hg7 hr8 hg8
              rw [show strOfNums (([], posn l l.length, 1) : List Int × Nat × Nat).1 = ByteArray.empty from rfl]
              go_wp2_with fail
              refine (at_any p D _ _ w4.heap.size _ HRB.out).mono ?_
              rintro e w7 ⟨rfl, rfl⟩
              go_wp2_with fail
              refine (err_bad p D _ _ A w4.heap.size 1 HRB.out (by decide)).mono ?_
              rintro e w8 ⟨u8', rfl, hat, hg8⟩
              have HAT := Lib.hid hat
              clear hat
              go_wp2_with fail
              refine (placed_any _ _ _ (by decide)).mono ?_
              rintro e w9 ⟨rfl, hg9⟩
              go_wp2_with fail
              refine (same_code A w4.heap.size _ 0 u8' _ ((HEB.out.kept hg8 (fun r e => by cases e)).kept hg9 (fun r e => by cases e)) (by decide) (HAT.out.grown hg9) _ _ (by decide) rfl).mono ?_
              rintro e w10 ⟨rfl, hg10⟩
              go_wp2
              go_ret
              exact ⟨rfl, grown_trans (grown_trans HG5.out HGB.out) (grown_trans hg8 (grown_trans hg9 hg10))⟩
          · subst hjl
            have hqT := hq2 rfl
            subst hqT
            have hleft : ∀ W, wr.grownBy W none → Calls Tryd.prog 19 #[.pointer (some ⟨p, 0, none⟩)] W fun e w' => e = .returned (.int .i64 0) ∧ Drawn W w' := fun W hW => by
              have := left_any p D T.length W w4.heap.size _ (HR.out.grown hW) (by have := HDL.out; omega)
              have e0 : D.length - T.length = 0 := by have := HDL.out; omega
              rw [e0] at this
              exact this
            have HLEFT := Lib.hid hleft
            clear hleft hq1 hq2
            go_wp2_with fail
            refine (err_nil p D _ _ w4.heap.size HR.out).mono ?_
            rintro e w7 ⟨rfl, rfl⟩
            go_wp2_with fail
            refine (HLEFT.out _ (grown_refl _ _)).mono ?_
            rintro e w8 ⟨rfl, hdr⟩
            go_wp2
            go_ret
            exact ⟨rfl, grown_trans (grown_trans HG5.out HG.out) (hdr.grown none)⟩
end Go.Proofs.YtmacbafkbhigcaaDoor
