/- The document's reader of numbers. -/
import Derived.Test.YtpeocdcciecpoaaDoorFRValid
import Derived.Test.YtpeocdcciecpoaaDoorFRead
import Derived.Test.YtpeocdcciecpoaaDoorSee
import Derived.IntWalk
import Derived.Deep.DeepCutAuto
namespace Go.Proofs.YtpeocdcciecpoaaDoor
open Go.RowKit Fm

/-- A reader's cells: its bytes, its place, its fault. -/
def rrC (v : Value) (k c : Nat) : Array Value := #[v, .int .i64 (k : Int), .int .i64 (dcode c), .bool (!decide (c = 0)), .int .i64 (if c = 0 then 0 else (k : Int))]
/-- The document's reader at p reads l from k on; its error is c. -/
def RR (w : World) (B p : Nat) (l : List Int) (k c : Nat) : Prop :=
  ∃ v, w.heap[p]? = some (.cells (rrC v k c) 85 (0, 0)) ∧ Bytes w v l ∧ (v.ownBlock ≠ some p ∧ (∀ r, v.ownBlock = some r → r < B) ∧ B ≤ p) ∧ k ≤ l.length ∧ c ≤ 13
theorem RR.keep {w w' : World} {B p : Nat} {l : List Int} {k c : Nat} (h : RR w B p l k c) (hg : Fr w w' []) : RR w' B p l k c := by
  obtain ⟨v, h1, h2, h3, h4⟩ := h
  exact ⟨v, hg.heap h1 (by simp), h2.keep hg, h3, h4⟩
theorem RR.fr {w w' : World} {B p : Nat} {l : List Int} {k c : Nat} {S : List Nat} (h : RR w B p l k c) (hg : Fr w w' S) (hp : p ∉ S) (hS : ∀ r ∈ S, B ≤ r) : RR w' B p l k c := by
  obtain ⟨v, h1, h2, h3, h4⟩ := h
  exact ⟨v, hg.heap h1 hp, h2.fr hg (fun r hr e => by have := h3.2.1 r e; have := hS r hr; omega), h3, h4⟩
theorem RR.low {w : World} {B p : Nat} {l : List Int} {k c : Nat} (h : RR w B p l k c) : B ≤ p := by
  obtain ⟨v, h1, h2, h3, h4⟩ := h; exact h3.2.2
theorem RR.hk {w : World} {B p : Nat} {l : List Int} {k c : Nat} (h : RR w B p l k c) : k ≤ l.length := by
  obtain ⟨v, h1, h2, h3, h4⟩ := h; exact h4.1
theorem RR.row {w w' : World} {B p : Nat} {l : List Int} {k c : Nat} (h : RR w B p l k c) {B' sz n : Nat} {T : TypeId} {v : Value} {xs : List Value} (ho : w.ownsRow B' T sz v n xs) (hgr : w.grownBy w' v.ownBlock) (hB : B ≤ B') (hT : 85 ≠ T) : RR w' B p l k c := by
  obtain ⟨v', h1, h2, h3, h4⟩ := h
  refine ⟨v', row_far hgr ho h1 hT, h2.kept hgr (fun r hr e => ?_), h3, h4⟩
  have h5 := h3.2.1 r e
  have h6 := (World.ownsRow.lt ho r hr).1
  omega
theorem RR.set {w : World} {B p : Nat} {l : List Int} {k c : Nat} (h : RR w B p l k c) {g : Nat} {cs : Array Value} {T : TypeId} (hg : w.heap[g]? = some (.cells cs T (0, 0))) (hB : B ≤ g) (hT : 85 ≠ T) (i : Nat) (v : Value) : RR (w.setCell ⟨g, i, none⟩ v) B p l k c := by
  refine h.fr (Fr.setCell w g i v (S := [g]) (by simp)) (fun hm => ?_) (by intro r hr; obtain rfl := List.mem_singleton.1 hr; exact hB)
  obtain rfl := List.mem_singleton.1 hm
  obtain ⟨v', h1, _⟩ := h
  rw [hg] at h1
  simp only [Option.some.injEq, Obj.cells.injEq] at h1
  exact hT h1.2.1.symm
theorem RR.row_ne {w : World} {B p : Nat} {l : List Int} {k c : Nat} (h : RR w B p l k c) {B' sz n : Nat} {T : TypeId} {v : Value} {xs : List Value} (ho : w.ownsRow B' T sz v n xs) (hT : 85 ≠ T) : ∀ r ∈ [p], v.ownBlock ≠ some r := by
  obtain ⟨v', h1, _⟩ := h
  intro r hr
  obtain rfl := List.mem_singleton.1 hr
  exact Go.Proofs.YtpeocdcciecpoaaDoor.row_ne ho h1 hT
theorem RR.lt {w : World} {B p : Nat} {l : List Int} {k c : Nat} (h : RR w B p l k c) : p < w.heap.size := by
  obtain ⟨v, h1, _⟩ := h; exact size_of_row h1

theorem rok (B p : Nat) (l : List Int) (k c : Nat) (w : World) (h : RR w B p l k c) (b : Bool) (hb : b = decide (c = 0)) :
    Calls Tryd.prog 46 #[.pointer (some ⟨p, 0, none⟩)] w fun e w' => e = .returned (.bool b) ∧ w = w' := by
  obtain ⟨v, hp, _⟩ := h
  unfold rrC at hp
  have h2 := (row5 hp).2.2.1
  rcases bcase hb with ⟨hc, rfl⟩ | ⟨hc, rfl⟩
  · subst hc
    have e : dcode 0 = 0 := rfl
    rw [e] at h2
    clear hp hb
    go_enter Tryd.func46, Tryd.ntmps46
    go_wp2
    go_ret
    exact ⟨rfl, rfl⟩
  · have e : (dcode c == 0) = false := by unfold dcode; rw [if_neg hc]; simp; omega
    clear hp hb hc
    go_enter Tryd.func46, Tryd.ntmps46
    go_wp2
    go_ret
    refine ⟨?_, rfl⟩
    simp [*]
theorem rleft (B p : Nat) (l : List Int) (k c : Nat) (w : World) (h : RR w B p l k c) (hl : l.length ≤ 140737488355328) :
    Calls Tryd.prog 47 #[.pointer (some ⟨p, 0, none⟩)] w fun e w' => e = .returned (.int .i64 ((l.length - k : Nat) : Int)) ∧ Fr w w' [] := by
  obtain ⟨v, hp, hb, _, hk, _⟩ := h
  obtain ⟨a, cap, rfl⟩ := hb.shape
  unfold rrC at hp
  have h0 := (row5 hp).1
  have h1 := (row5 hp).2.1
  have hw : IntKind.i64.wrap ((l.length : Int) - (k : Int)) = ((l.length - k : Nat) : Int) := by rw [IntWalk.i64_in _ (by omega)]; omega
  clear hp hb
  go_enter Tryd.func47, Tryd.ntmps47
  go_wp2
  go_quiet (fail)
  go_wp2
  go_ret
  exact ⟨rfl, Fr.drewN _ _ _⟩
/-- What a failure leaves. -/
theorem rfail (B p : Nat) (l : List Int) (k c : Nat) (w : World) (h : RR w B p l k 0) (hc : 0 < c) (hc2 : c ≤ 13) (code : Int) (hcode : code = 100 + (c : Int)) :
    Calls Tryd.prog 75 #[.pointer (some ⟨p, 0, none⟩), .int .i64 code, .int .i64 (k : Int)] w fun e w' => e = .returned (.tuple #[]) ∧ RR w' B p l k c ∧ Fr w w' [p] := by
  obtain ⟨v, hp, hb, hne, hk, _⟩ := h
  have HP := Lib.hid hp
  have HB := Lib.hid hb
  have HNE := Lib.hid hne
  have HK := Lib.hid hk
  have HC := Lib.hid (show 0 < c ∧ c ≤ 13 ∧ code = 100 + (c : Int) from ⟨hc, hc2, hcode⟩)
  clear hp hb hne hk hc hc2 hcode
  go_enter Tryd.func75, Tryd.ntmps75
  go_wp2_with fail
  refine (placed_any code (k : Int) _ (by have := HC.out; omega)).mono ?_
  rintro e w1 ⟨rfl, hg1⟩
  unfold flt
  have F1 := Lib.hid (Fr.of_grown hg1 [])
  have P1 := Lib.hid (F1.out.heap HP.out (by simp))
  unfold rrC at P1
  have q := row5 P1.out
  have y1 := frozen_of_row _ _ 1 _ _ P1.out
  have y2 := frozen_of_row _ _ 2 _ _ P1.out
  have y3 := frozen_of_row _ _ 3 _ _ P1.out
  have y4 := frozen_of_row _ _ 4 _ _ P1.out
  clear hg1
  go_wp2
  have g2 : (w1.setCell ⟨p, 2, none⟩ (.int .i64 code)).heap[p]? = some (.cells #[v, .int .i64 (k : Int), .int .i64 code, .bool (!decide (0 = 0)), .int .i64 (if 0 = 0 then 0 else (k : Int))] 85 (0, 0)) := heap_setCell_same w1 p 2 _ _ (.int .i64 code) P1.out
  have g3 : ((w1.setCell ⟨p, 2, none⟩ (.int .i64 code)).setCell ⟨p, 3, none⟩ (.bool true)).heap[p]? = some (.cells #[v, .int .i64 (k : Int), .int .i64 code, .bool true, .int .i64 (if 0 = 0 then 0 else (k : Int))] 85 (0, 0)) := heap_setCell_same _ p 3 _ _ (.bool true) g2
  have g4 : (((w1.setCell ⟨p, 2, none⟩ (.int .i64 code)).setCell ⟨p, 3, none⟩ (.bool true)).setCell ⟨p, 4, none⟩ (.int .i64 (k : Int))).heap[p]? = some (.cells #[v, .int .i64 (k : Int), .int .i64 code, .bool true, .int .i64 (k : Int)] 85 (0, 0)) := heap_setCell_same _ p 4 _ _ (.int .i64 (k : Int)) g3
  have g5 : ((((w1.setCell ⟨p, 2, none⟩ (.int .i64 code)).setCell ⟨p, 3, none⟩ (.bool true)).setCell ⟨p, 4, none⟩ (.int .i64 (k : Int))).setCell ⟨p, 1, none⟩ (.int .i64 (k : Int))).heap[p]? = some (.cells #[v, .int .i64 (k : Int), .int .i64 code, .bool true, .int .i64 (k : Int)] 85 (0, 0)) := heap_setCell_same _ p 1 _ _ (.int .i64 (k : Int)) g4
  have hfr : Fr w1 ((((w1.setCell ⟨p, 2, none⟩ (.int .i64 code)).setCell ⟨p, 3, none⟩ (.bool true)).setCell ⟨p, 4, none⟩ (.int .i64 (k : Int))).setCell ⟨p, 1, none⟩ (.int .i64 (k : Int))) [p] := (((Fr.setCell _ p 2 _ (by simp)).trans (Fr.setCell _ p 3 _ (by simp))).trans (Fr.setCell _ p 4 _ (by simp))).trans (Fr.setCell _ p 1 _ (by simp))
  have HFR := Lib.hid ((F1.out.mono (by simp)).trans hfr)
  have hrow : rrC v k c = #[v, .int .i64 (k : Int), .int .i64 code, .bool true, .int .i64 (k : Int)] := by
    have h1 := HC.out.1
    unfold rrC dcode
    rw [if_neg (by omega), if_neg (by omega), HC.out.2.2, decide_eq_false (by omega)]
    rfl
  have HR : Hid (RR ((((w1.setCell ⟨p, 2, none⟩ (.int .i64 code)).setCell ⟨p, 3, none⟩ (.bool true)).setCell ⟨p, 4, none⟩ (.int .i64 (k : Int))).setCell ⟨p, 1, none⟩ (.int .i64 (k : Int))) B p l k c) :=
    ⟨v, by rw [hrow]; exact g5, HB.out.fr HFR.out (by intro r hr; obtain rfl := List.mem_singleton.1 hr; exact HNE.out.1), HNE.out, HK.out, HC.out.2.1⟩
  clear g2 g3 g4 g5 hfr hrow
  go_end0
  exact ⟨rfl, HR.out, HFR.out⟩

theorem rr_put {w : World} {B p : Nat} {l : List Int} {k m : Nat} {v : Value} (hp : w.heap[p]? = some (.cells (rrC v k 0) 85 (0, 0))) (hb : Bytes w v l) (hne : v.ownBlock ≠ some p ∧ (∀ r, v.ownBlock = some r → r < B) ∧ B ≤ p) (hm : m < l.length) :
    RR (w.setCell ⟨p, 1, none⟩ (.int .i64 ((m : Int) + 1))) B p l (m + 1) 0 := by
  have S := Fr.setCell w p 1 (.int .i64 ((m : Int) + 1)) (S := [p]) (by simp)
  refine ⟨v, ?_, hb.fr S (by intro r hr; obtain rfl := List.mem_singleton.1 hr; exact hne.1), hne, by omega, by omega⟩
  rw [heap_setCell_same w p 1 _ _ (.int .i64 ((m : Int) + 1)) hp]
  rfl
theorem and1_nat (V : Nat) (h : V < 18446744073709551616) : bits .and .u64 (V : Int) 1 = ((V % 2 : Nat) : Int) := by
  rw [Lib.u64_and1 _ (by omega) (by omega)]; omega
theorem val_odd (V : Nat) (h : V < 18446744073709551616) (ho : V % 2 = 1) : bits .xor .i64 (-1) (RowKit.wrap64 ((V : Int) / 2)) = Wm.unzz V := by
  rw [IntWalk.wrap64_in _ (by omega)]
  unfold Wm.unzz
  rw [if_neg (by omega)]
  have := Lib.i64_not (V / 2) (by omega)
  rw [show ((V : Int) / 2) = ((V / 2 : Nat) : Int) by omega]
  exact this
theorem val_even (V : Nat) (h : V < 18446744073709551616) (ho : ¬ V % 2 = 1) : RowKit.wrap64 ((V : Int) / 2) = Wm.unzz V := by
  rw [IntWalk.wrap64_in _ (by omega)]
  unfold Wm.unzz
  rw [if_pos (by omega)]
  omega
set_option maxHeartbeats 8000000 in
set_option maxRecDepth 100000 in
theorem rnum (B p : Nat) (l : List Int) (k c : Nat) (low high : Int) (w : World) (h : RR w B p l k c) (hb : Wm.Byte l) (hl : l.length ≤ 140737488355328) (x : Int) (k' c' : Nat) (hn : Fm.num low high l k c = (x, k', c')) :
    Calls Tryd.prog 43 #[.pointer (some ⟨p, 0, none⟩), .int .i64 low, .int .i64 high] w fun e w' => e = .returned (.int .i64 x) ∧ RR w' B p l k' c' ∧ Fr w w' [p] := by
  by_cases hc : c = 0
  rotate_left
  · unfold Fm.num at hn
    rw [if_neg hc] at hn
    simp only [Prod.mk.injEq] at hn
    obtain ⟨rfl, rfl, rfl⟩ := hn
    have H := Lib.hid h
    have HN := Lib.hid (no hc)
    clear h hc
    go_enter Tryd.func43, Tryd.ntmps43
    go_wp2_with fail
    refine (rok _ p l k c _ H.out _ HN.out).mono ?_
    rintro e w1 ⟨rfl, rfl⟩
    go_wp2
    go_ret
    exact ⟨rfl, H.out, Fr.refl _ _⟩
  subst hc
  unfold Fm.num at hn
  rw [if_pos rfl] at hn
  have H := Lib.hid h
  obtain ⟨v, hp, hbv, hne, hk, _⟩ := h
  obtain ⟨n0, sz, cd, hr⟩ : ∃ n0 sz cd, (n0, sz, cd) = Wm.numF 0 0 (l.drop k) := ⟨_, _, _, rfl⟩
  rw [Wm.numS, ← hr] at hn
  simp only at hn
  have HR := Lib.hid hr
  have HN := Lib.hid hn
  have HP := Lib.hid hp
  have HBV := Lib.hid hbv
  have HNE := Lib.hid hne
  unfold rrC at hp
  obtain ⟨a, cap, rfl, h1, h2, h3⟩ := hbv
  unfold maxLen at h2
  have q0 := (row5 hp).1
  have q1 := (row5 hp).2.1
  have y1 := frozen_of_row _ _ 1 _ _ hp
  clear hr hn hp hne
  go_enter Tryd.func43, Tryd.ntmps43
  go_wp2_with fail
  refine (rok _ p l k 0 _ H.out true (yes rfl)).mono ?_
  rintro e w1 ⟨rfl, rfl⟩
  go_wp2
  go_loop [7, 8] (fun z i => ∃ j m U : Nat, m = k + j ∧ m ≤ l.length ∧ j ≤ 9 ∧ i = .int .i64 m ∧ z = .int .u64 U ∧ U < 2 ^ (7 * j) ∧ Wm.numF j U (l.drop m) = Wm.numF 0 0 (l.drop k)) (fun _ i => l.length - (intOf i).toNat)
  case atStart => exact ⟨0, k, 0, by omega, hk, by omega, rfl, rfl, by simp, rfl⟩
  case round =>
    obtain ⟨j, m, U, hm, hml, hj9, rfl, rfl, hU, hn⟩ := hrel
    have HU := Lib.hid hU
    have HM := Lib.hid hm
    have hwj : IntKind.i64.wrap ((m : Int) - (k : Int)) = (j : Int) := by rw [IntWalk.i64_in _ (by omega)]; omega
    clear hU hm
    by_cases hlt : m < l.length
    · obtain ⟨b, off, rfl, hc⟩ := h3 (by omega)
      obtain ⟨y, hy⟩ : ∃ y, y = l.getD m 0 := ⟨_, rfl⟩
      have hcell := hc m hlt
      rw [← hy] at hcell
      have hd : l.drop m = y :: l.drop (m + 1) := by rw [hy, List.drop_eq_getElem_cons hlt]; simp [hlt]
      have hxb := hb y (by rw [hy]; simp [hlt])
      rw [hd] at hn
      clear hd hy hc h3
      by_cases t1 : j = 9 ∧ 1 < y
      · obtain ⟨hk9', hx1⟩ := t1
        have HF : Hid ((x, k', c') = (0, k, 2)) := by
          show _ = _
          have h0 : (n0, sz, cd) = (0, 0, 2) := by rw [HR.out, ← hn]; show (if _ then _ else _) = _; rw [if_pos (by omega)]
          simp only [Prod.mk.injEq] at h0
          rw [← HN.out, h0.2.2, if_pos (by decide)]
        subst hk9'
        clear hn
        go_wp2_with fail
        refine (rfail _ p l k 2 _ H.out (by decide) (by decide) 102 (by rfl)).mono ?_
        rintro e w2 ⟨rfl, hr2, hf2⟩
        have HR2 := Lib.hid hr2
        have F2 := Lib.hid hf2
        clear hr2 hf2
        go_wp2
        go_ret
        have hF := HF.out
        simp only [Prod.mk.injEq] at hF
        obtain ⟨rfl, rfl, rfl⟩ := hF
        exact ⟨rfl, HR2.out, F2.out⟩
      · by_cases t2 : 0 < j ∧ y = 0
        · obtain ⟨hk0, hx0⟩ := t2
          have HF : Hid ((x, k', c') = (0, k, 2)) := by
            show _ = _
            have h0 : (n0, sz, cd) = (0, 0, 2) := by rw [HR.out, ← hn]; show (if _ then _ else _) = _; rw [if_pos (by omega)]
            simp only [Prod.mk.injEq] at h0
            rw [← HN.out, h0.2.2, if_pos (by decide)]
          subst hx0
          clear hn t1
          by_cases hj' : j = 9
          all_goals
            go_wp2_with fail
            refine (rfail _ p l k 2 _ H.out (by decide) (by decide) 102 (by rfl)).mono ?_
            rintro e w2 ⟨rfl, hr2, hf2⟩
            have HR2 := Lib.hid hr2
            have F2 := Lib.hid hf2
            clear hr2 hf2
            go_wp2
            go_ret
            have hF := HF.out
            simp only [Prod.mk.injEq] at hF
            obtain ⟨rfl, rfl, rfl⟩ := hF
            exact ⟨rfl, HR2.out, F2.out⟩
        · by_cases t3 : y < 128
          · have HF : Hid ((n0, sz, cd) = (Wm.unzz (U + (y % 128).toNat * 2 ^ (7 * j)), j + 1, 0)) := by
              show _ = _; rw [HR.out, ← hn]; show (if _ then _ else if _ then _ else _) = _; rw [if_neg (by omega), if_pos t3]
            clear hn
            have HS := Lib.hid (Wm.or_small j U y hj9 HU.out hxb.1 hxb.2 (by omega)).2
            have HWM : Hid (IntKind.i64.wrap ((m : Int) + 1) = ((m + 1 : Nat) : Int)) := by show _ = _; rw [IntWalk.i64_in _ (by omega)]; omega
            have HF2 := Lib.hid HF.out
            have HF3 : Hid ((x, k', c') = if (Wm.unzz (U + (y % 128).toNat * 2 ^ (7 * j))) < low ∨ high < Wm.unzz (U + (y % 128).toNat * 2 ^ (7 * j)) then (0, k, 3) else (Wm.unzz (U + (y % 128).toNat * 2 ^ (7 * j)), m + 1, 0)) := by
              show _ = _
              have hF := HF.out
              simp only [Prod.mk.injEq] at hF
              rw [← HN.out, hF.2.2, if_neg (by decide), hF.1, hF.2.1, show k + (j + 1) = m + 1 by have := HM.out; omega]
            rcases (show j = 9 ∨ j = 0 ∨ (0 < j ∧ j < 9) by omega) with hk' | hk' | hk'
            · subst hk'
              have hx1 : ¬ 1 < y := by omega
              have hx0 : ¬ y = 0 := by omega
              clear t1 t2 HF HF2
              obtain ⟨V, hV⟩ : ∃ V, U + (y % 128).toNat * 2 ^ (7 * 9) = V := ⟨_, rfl⟩
              have hor : bits .or .u64 (U : Int) (IntKind.u64.wrap (IntKind.u64.wrap (bits .and .u8 y 127) * 9223372036854775808)) = (V : Int) := by rw [← hV]; exact Wm.or_code9 U y HU.out hxb.1 (by omega)
              rw [hV] at HS HF3
              clear hV
              have hand := and1_nat V HS.out
              obtain ⟨N, hN⟩ : ∃ N, N = Wm.unzz V := ⟨_, rfl⟩
              rw [← hN] at HF3
              have hrg : (N < low) ∨ (¬ N < low ∧ high < N) ∨ (¬ N < low ∧ ¬ high < N) := by omega
              by_cases hodd : V % 2 = 1
              · rw [hodd] at hand
                have hval := val_odd V HS.out hodd
                rw [← hN] at hval
                clear hN hodd
                rcases hrg with r1 | ⟨r1, r2⟩ | ⟨r1, r2⟩
                · have HF4 : Hid ((x, k', c') = (0, k, 3)) := by show _ = _; rw [HF3.out, if_pos (.inl r1)]
                  go_wp2_with fail
                  refine (rfail _ p l k 3 _ H.out (by decide) (by decide) 103 (by rfl)).mono ?_
                  rintro e w2 ⟨rfl, hr2, hf2⟩
                  have HR2 := Lib.hid hr2
                  have F2 := Lib.hid hf2
                  clear hr2 hf2
                  go_wp2
                  go_ret
                  have hF := HF4.out
                  simp only [Prod.mk.injEq] at hF
                  obtain ⟨rfl, rfl, rfl⟩ := hF
                  exact ⟨rfl, HR2.out, F2.out⟩
                · have HF4 : Hid ((x, k', c') = (0, k, 3)) := by show _ = _; rw [HF3.out, if_pos (.inr r2)]
                  go_wp2_with fail
                  refine (rfail _ p l k 3 _ H.out (by decide) (by decide) 103 (by rfl)).mono ?_
                  rintro e w2 ⟨rfl, hr2, hf2⟩
                  have HR2 := Lib.hid hr2
                  have F2 := Lib.hid hf2
                  clear hr2 hf2
                  go_wp2
                  go_ret
                  have hF := HF4.out
                  simp only [Prod.mk.injEq] at hF
                  obtain ⟨rfl, rfl, rfl⟩ := hF
                  exact ⟨rfl, HR2.out, F2.out⟩
                · have HF4 : Hid ((x, k', c') = (N, m + 1, 0)) := by show _ = _; rw [HF3.out, if_neg (by omega)]
                  go_wp2
                  go_ret
                  have hF := HF4.out
                  simp only [Prod.mk.injEq] at hF
                  obtain ⟨rfl, rfl, rfl⟩ := hF
                  exact ⟨rfl, rr_put HP.out HBV.out HNE.out hlt, Fr.setCell _ _ _ _ (by simp)⟩
              · rw [show V % 2 = 0 by omega] at hand
                have hval := val_even V HS.out hodd
                rw [← hN] at hval
                clear hN hodd
                rcases hrg with r1 | ⟨r1, r2⟩ | ⟨r1, r2⟩
                · have HF4 : Hid ((x, k', c') = (0, k, 3)) := by show _ = _; rw [HF3.out, if_pos (.inl r1)]
                  go_wp2_with fail
                  refine (rfail _ p l k 3 _ H.out (by decide) (by decide) 103 (by rfl)).mono ?_
                  rintro e w2 ⟨rfl, hr2, hf2⟩
                  have HR2 := Lib.hid hr2
                  have F2 := Lib.hid hf2
                  clear hr2 hf2
                  go_wp2
                  go_ret
                  have hF := HF4.out
                  simp only [Prod.mk.injEq] at hF
                  obtain ⟨rfl, rfl, rfl⟩ := hF
                  exact ⟨rfl, HR2.out, F2.out⟩
                · have HF4 : Hid ((x, k', c') = (0, k, 3)) := by show _ = _; rw [HF3.out, if_pos (.inr r2)]
                  go_wp2_with fail
                  refine (rfail _ p l k 3 _ H.out (by decide) (by decide) 103 (by rfl)).mono ?_
                  rintro e w2 ⟨rfl, hr2, hf2⟩
                  have HR2 := Lib.hid hr2
                  have F2 := Lib.hid hf2
                  clear hr2 hf2
                  go_wp2
                  go_ret
                  have hF := HF4.out
                  simp only [Prod.mk.injEq] at hF
                  obtain ⟨rfl, rfl, rfl⟩ := hF
                  exact ⟨rfl, HR2.out, F2.out⟩
                · have HF4 : Hid ((x, k', c') = (N, m + 1, 0)) := by show _ = _; rw [HF3.out, if_neg (by omega)]
                  go_wp2
                  go_ret
                  have hF := HF4.out
                  simp only [Prod.mk.injEq] at hF
                  obtain ⟨rfl, rfl, rfl⟩ := hF
                  exact ⟨rfl, rr_put HP.out HBV.out HNE.out hlt, Fr.setCell _ _ _ _ (by simp)⟩
            · subst hk'
              clear t1 t2 HF HF2
              obtain ⟨V, hV⟩ : ∃ V, U + (y % 128).toNat * 2 ^ (7 * 0) = V := ⟨_, rfl⟩
              have hor : bits .or .u64 (U : Int) (IntKind.u64.wrap (IntKind.u64.wrap (bits .and .u8 y 127))) = (V : Int) := by rw [← hV]; exact Wm.or_code0 U y HU.out hxb.1 hxb.2
              rw [hV] at HS HF3
              clear hV
              have hand := and1_nat V HS.out
              obtain ⟨N, hN⟩ : ∃ N, N = Wm.unzz V := ⟨_, rfl⟩
              rw [← hN] at HF3
              have hrg : (N < low) ∨ (¬ N < low ∧ high < N) ∨ (¬ N < low ∧ ¬ high < N) := by omega
              by_cases hodd : V % 2 = 1
              · rw [hodd] at hand
                have hval := val_odd V HS.out hodd
                rw [← hN] at hval
                clear hN hodd
                rcases hrg with r1 | ⟨r1, r2⟩ | ⟨r1, r2⟩
                · have HF4 : Hid ((x, k', c') = (0, k, 3)) := by show _ = _; rw [HF3.out, if_pos (.inl r1)]
                  go_wp2_with fail
                  refine (rfail _ p l k 3 _ H.out (by decide) (by decide) 103 (by rfl)).mono ?_
                  rintro e w2 ⟨rfl, hr2, hf2⟩
                  have HR2 := Lib.hid hr2
                  have F2 := Lib.hid hf2
                  clear hr2 hf2
                  go_wp2
                  go_ret
                  have hF := HF4.out
                  simp only [Prod.mk.injEq] at hF
                  obtain ⟨rfl, rfl, rfl⟩ := hF
                  exact ⟨rfl, HR2.out, F2.out⟩
                · have HF4 : Hid ((x, k', c') = (0, k, 3)) := by show _ = _; rw [HF3.out, if_pos (.inr r2)]
                  go_wp2_with fail
                  refine (rfail _ p l k 3 _ H.out (by decide) (by decide) 103 (by rfl)).mono ?_
                  rintro e w2 ⟨rfl, hr2, hf2⟩
                  have HR2 := Lib.hid hr2
                  have F2 := Lib.hid hf2
                  clear hr2 hf2
                  go_wp2
                  go_ret
                  have hF := HF4.out
                  simp only [Prod.mk.injEq] at hF
                  obtain ⟨rfl, rfl, rfl⟩ := hF
                  exact ⟨rfl, HR2.out, F2.out⟩
                · have HF4 : Hid ((x, k', c') = (N, m + 1, 0)) := by show _ = _; rw [HF3.out, if_neg (by omega)]
                  go_wp2
                  go_ret
                  have hF := HF4.out
                  simp only [Prod.mk.injEq] at hF
                  obtain ⟨rfl, rfl, rfl⟩ := hF
                  exact ⟨rfl, rr_put HP.out HBV.out HNE.out hlt, Fr.setCell _ _ _ _ (by simp)⟩
              · rw [show V % 2 = 0 by omega] at hand
                have hval := val_even V HS.out hodd
                rw [← hN] at hval
                clear hN hodd
                rcases hrg with r1 | ⟨r1, r2⟩ | ⟨r1, r2⟩
                · have HF4 : Hid ((x, k', c') = (0, k, 3)) := by show _ = _; rw [HF3.out, if_pos (.inl r1)]
                  go_wp2_with fail
                  refine (rfail _ p l k 3 _ H.out (by decide) (by decide) 103 (by rfl)).mono ?_
                  rintro e w2 ⟨rfl, hr2, hf2⟩
                  have HR2 := Lib.hid hr2
                  have F2 := Lib.hid hf2
                  clear hr2 hf2
                  go_wp2
                  go_ret
                  have hF := HF4.out
                  simp only [Prod.mk.injEq] at hF
                  obtain ⟨rfl, rfl, rfl⟩ := hF
                  exact ⟨rfl, HR2.out, F2.out⟩
                · have HF4 : Hid ((x, k', c') = (0, k, 3)) := by show _ = _; rw [HF3.out, if_pos (.inr r2)]
                  go_wp2_with fail
                  refine (rfail _ p l k 3 _ H.out (by decide) (by decide) 103 (by rfl)).mono ?_
                  rintro e w2 ⟨rfl, hr2, hf2⟩
                  have HR2 := Lib.hid hr2
                  have F2 := Lib.hid hf2
                  clear hr2 hf2
                  go_wp2
                  go_ret
                  have hF := HF4.out
                  simp only [Prod.mk.injEq] at hF
                  obtain ⟨rfl, rfl, rfl⟩ := hF
                  exact ⟨rfl, HR2.out, F2.out⟩
                · have HF4 : Hid ((x, k', c') = (N, m + 1, 0)) := by show _ = _; rw [HF3.out, if_neg (by omega)]
                  go_wp2
                  go_ret
                  have hF := HF4.out
                  simp only [Prod.mk.injEq] at hF
                  obtain ⟨rfl, rfl, rfl⟩ := hF
                  exact ⟨rfl, rr_put HP.out HBV.out HNE.out hlt, Fr.setCell _ _ _ _ (by simp)⟩
            · have hx0 : ¬ y = 0 := by omega
              have hk1 : ¬ j = 9 := by omega
              clear t1 t2 HF HF2
              obtain ⟨V, hV⟩ : ∃ V, U + (y % 128).toNat * 2 ^ (7 * j) = V := ⟨_, rfl⟩
              have hor : bits .or .u64 (U : Int) (IntKind.u64.wrap (IntKind.u64.wrap (bits .and .u8 y 127) * 2 ^ (7 * j))) = (V : Int) := by rw [← hV]; exact Wm.or_code j U y hj9 HU.out hxb.1 hxb.2 (by omega)
              rw [hV] at HS HF3
              clear hV
              go_upto_region 16 with fail
              clear hor hx0 hk1 hk' hj9 hwj hcell hxb
              have hand := and1_nat V HS.out
              obtain ⟨N, hN⟩ : ∃ N, N = Wm.unzz V := ⟨_, rfl⟩
              rw [← hN] at HF3
              have hrg : (N < low) ∨ (¬ N < low ∧ high < N) ∨ (¬ N < low ∧ ¬ high < N) := by omega
              by_cases hodd : V % 2 = 1
              · rw [hodd] at hand
                have hval := val_odd V HS.out hodd
                rw [← hN] at hval
                clear hN hodd
                rcases hrg with r1 | ⟨r1, r2⟩ | ⟨r1, r2⟩
                · have HF4 : Hid ((x, k', c') = (0, k, 3)) := by show _ = _; rw [HF3.out, if_pos (.inl r1)]
                  go_wp2_with fail
                  refine (rfail _ p l k 3 _ H.out (by decide) (by decide) 103 (by rfl)).mono ?_
                  rintro e w2 ⟨rfl, hr2, hf2⟩
                  have HR2 := Lib.hid hr2
                  have F2 := Lib.hid hf2
                  clear hr2 hf2
                  go_wp2
                  go_ret
                  have hF := HF4.out
                  simp only [Prod.mk.injEq] at hF
                  obtain ⟨rfl, rfl, rfl⟩ := hF
                  exact ⟨rfl, HR2.out, F2.out⟩
                · have HF4 : Hid ((x, k', c') = (0, k, 3)) := by show _ = _; rw [HF3.out, if_pos (.inr r2)]
                  go_wp2_with fail
                  refine (rfail _ p l k 3 _ H.out (by decide) (by decide) 103 (by rfl)).mono ?_
                  rintro e w2 ⟨rfl, hr2, hf2⟩
                  have HR2 := Lib.hid hr2
                  have F2 := Lib.hid hf2
                  clear hr2 hf2
                  go_wp2
                  go_ret
                  have hF := HF4.out
                  simp only [Prod.mk.injEq] at hF
                  obtain ⟨rfl, rfl, rfl⟩ := hF
                  exact ⟨rfl, HR2.out, F2.out⟩
                · have HF4 : Hid ((x, k', c') = (N, m + 1, 0)) := by show _ = _; rw [HF3.out, if_neg (by omega)]
                  go_wp2
                  go_ret
                  have hF := HF4.out
                  simp only [Prod.mk.injEq] at hF
                  obtain ⟨rfl, rfl, rfl⟩ := hF
                  exact ⟨rfl, rr_put HP.out HBV.out HNE.out hlt, Fr.setCell _ _ _ _ (by simp)⟩
              · rw [show V % 2 = 0 by omega] at hand
                have hval := val_even V HS.out hodd
                rw [← hN] at hval
                clear hN hodd
                rcases hrg with r1 | ⟨r1, r2⟩ | ⟨r1, r2⟩
                · have HF4 : Hid ((x, k', c') = (0, k, 3)) := by show _ = _; rw [HF3.out, if_pos (.inl r1)]
                  go_wp2_with fail
                  refine (rfail _ p l k 3 _ H.out (by decide) (by decide) 103 (by rfl)).mono ?_
                  rintro e w2 ⟨rfl, hr2, hf2⟩
                  have HR2 := Lib.hid hr2
                  have F2 := Lib.hid hf2
                  clear hr2 hf2
                  go_wp2
                  go_ret
                  have hF := HF4.out
                  simp only [Prod.mk.injEq] at hF
                  obtain ⟨rfl, rfl, rfl⟩ := hF
                  exact ⟨rfl, HR2.out, F2.out⟩
                · have HF4 : Hid ((x, k', c') = (0, k, 3)) := by show _ = _; rw [HF3.out, if_pos (.inr r2)]
                  go_wp2_with fail
                  refine (rfail _ p l k 3 _ H.out (by decide) (by decide) 103 (by rfl)).mono ?_
                  rintro e w2 ⟨rfl, hr2, hf2⟩
                  have HR2 := Lib.hid hr2
                  have F2 := Lib.hid hf2
                  clear hr2 hf2
                  go_wp2
                  go_ret
                  have hF := HF4.out
                  simp only [Prod.mk.injEq] at hF
                  obtain ⟨rfl, rfl, rfl⟩ := hF
                  exact ⟨rfl, HR2.out, F2.out⟩
                · have HF4 : Hid ((x, k', c') = (N, m + 1, 0)) := by show _ = _; rw [HF3.out, if_neg (by omega)]
                  go_wp2
                  go_ret
                  have hF := HF4.out
                  simp only [Prod.mk.injEq] at hF
                  obtain ⟨rfl, rfl, rfl⟩ := hF
                  exact ⟨rfl, rr_put HP.out HBV.out HNE.out hlt, Fr.setCell _ _ _ _ (by simp)⟩
          · have HNF : Hid (Wm.numF (j + 1) (U + (y % 128).toNat * 2 ^ (7 * j)) (l.drop (m + 1)) = Wm.numF 0 0 (l.drop k)) := by
              show _ = _; rw [← hn]; symm; show (if _ then _ else if _ then _ else _) = _; rw [if_neg (by omega), if_neg t3]
            clear hn
            have HS := Lib.hid (Wm.or_small j U y hj9 HU.out hxb.1 hxb.2 (by omega)).1
            rcases (show j = 0 ∨ (0 < j ∧ j < 9) by omega) with hk' | hk'
            · subst hk'
              clear t1 t2
              obtain ⟨V, hV⟩ : ∃ V, U + (y % 128).toNat * 2 ^ (7 * 0) = V := ⟨_, rfl⟩
              have hor : bits .or .u64 (U : Int) (IntKind.u64.wrap (IntKind.u64.wrap (bits .and .u8 y 127))) = (V : Int) := by rw [← hV]; exact Wm.or_code0 U y HU.out hxb.1 hxb.2
              rw [hV] at HS HNF
              clear hV
              have hmx : m ≤ 140737488355328 := by omega
              go_wp2
              go_round
              case rel => exact ⟨0 + 1, m + 1, V, by have := HM.out; omega, by omega, by omega, by go_num, rfl, HS.out, HNF.out⟩
              case measure => simp [intOf]; omega
            · have hx0 : ¬ y = 0 := by omega
              have hk1 : ¬ j = 9 := by omega
              clear t1 t2
              obtain ⟨V, hV⟩ : ∃ V, U + (y % 128).toNat * 2 ^ (7 * j) = V := ⟨_, rfl⟩
              have hor : bits .or .u64 (U : Int) (IntKind.u64.wrap (IntKind.u64.wrap (bits .and .u8 y 127) * 2 ^ (7 * j))) = (V : Int) := by rw [← hV]; exact Wm.or_code j U y hj9 HU.out hxb.1 hxb.2 (by omega)
              rw [hV] at HS HNF
              clear hV
              have hmx : m ≤ 140737488355328 := by omega
              go_wp2
              go_round
              case rel => exact ⟨j + 1, m + 1, V, by have := HM.out; omega, by omega, by omega, by go_num, rfl, HS.out, HNF.out⟩
              case measure => simp [intOf]; omega
    · have hd : l.drop m = [] := List.drop_eq_nil_of_le (by omega)
      rw [hd] at hn
      have HF : Hid ((x, k', c') = (0, k, 1)) := by
        show _ = _
        have h0 : (n0, sz, cd) = (0, 0, 1) := by rw [HR.out, ← hn]; rfl
        simp only [Prod.mk.injEq] at h0
        rw [← HN.out, h0.2.2, if_pos (by decide)]
      clear hd hn h3
      go_wp2_with fail
      refine (rfail _ p l k 1 _ H.out (by decide) (by decide) 101 (by rfl)).mono ?_
      rintro e w2 ⟨rfl, hr2, hf2⟩
      have HR2 := Lib.hid hr2
      have F2 := Lib.hid hf2
      clear hr2 hf2
      go_wp2
      go_ret
      have hF := HF.out
      simp only [Prod.mk.injEq] at hF
      obtain ⟨rfl, rfl, rfl⟩ := hF
      exact ⟨rfl, HR2.out, F2.out⟩

theorem rbool (B p : Nat) (l : List Int) (k c : Nat) (w : World) (h : RR w B p l k c) (hb : Wm.Byte l) (hl : l.length ≤ 140737488355328) (x : Int) (k' c' : Nat) (hn : Fm.num 0 1 l k c = (x, k', c')) :
    Calls Tryd.prog 44 #[.pointer (some ⟨p, 0, none⟩)] w fun e w' => e = .returned (.bool (x == 1)) ∧ RR w' B p l k' c' ∧ Fr w w' [p] := by
  have HR := Lib.hid (rnum B p l k c 0 1 w h hb hl x k' c' hn)
  clear h hn
  go_enter Tryd.func44, Tryd.ntmps44
  go_wp2_with fail
  refine HR.out.mono ?_
  rintro e w1 ⟨rfl, hr, hf⟩
  have H := Lib.hid hr
  have F := Lib.hid hf
  clear hr hf HR
  go_wp2
  go_ret
  exact ⟨rfl, H.out, F.out⟩
end Go.Proofs.YtpeocdcciecpoaaDoor
