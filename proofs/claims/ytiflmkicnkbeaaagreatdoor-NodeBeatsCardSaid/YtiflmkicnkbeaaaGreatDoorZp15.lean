import Derived.Test.YtiflmkicnkbeaaaGreatDoorZp02
import Derived.Test.YtiflmkicnkbeaaaGreatDoorZp04
import Derived.Lib.AppendZerosOnto
import Derived.Lib.Walk
import Derived.Laws.BitsLemmas
import Derived.Deep.DeepCutAuto
namespace Go.Proofs.YtiflmkicnkbeaaaGreatDoor
open Go.RowKit
theorem zcellsi_len (k : Nat) : (Builtin.zeroCells (Value.int .i64 0).cells k).size = k * 1 := by
 simp [Builtin.zeroCells, Value.cells]
set_option maxHeartbeats 1000000 in
set_option maxRecDepth 100000 in
theorem igrow_any (n : Nat) (w : World) (hn : n ≤ 1000000) : Calls Tryz.prog 281 #[.slice none 0 0, .int .i64 n] w (Gives fun u w' => OwnI w' w.heap.size u [] ∧ Fr w w' []) := by
 obtain ⟨i0, hi0, hz0, hz1, hz2⟩ := info_parts infoI
 by_cases h0 : n = 0
 · subst h0
   go_enter Tryz.func281, Tryz.ntmps281
   go_wp2
   go_ret
   exact gives ⟨OwnI.nil _ _, Fr.refl _ _⟩
 · have hold : (Builtin.firstCells i0.size 0 (.slice none 0 0)).run Tryz.prog w.drew = .ok ([] : List Value).toArray w.drew := run_firstCells_none w.drew i0.size 0 0 0
   have hgf : Builtin.nextslicecap (0 + n) 0 * i0.bytes ≤ 281474976710656 := growslice_fits (by omega) (by rw [hz2]; omega)
   have hap := fun ty => Lib.run_append_grow_zeros (P := Tryz.prog) w 36 3 ty 3 i0 _ .i64 .i64 Tryz.underlying36 Tryz.underlying3 hi0 hz0 none 0 0 [] hold n (by omega) (by rw [hz1]; decide) (by omega) (by omega) (by rw [hz2]; omega) hgf
   have hGn : 0 + n ≤ grownCap w (0 + n) 0 3 := grownCap_ge w _ _ _
   have hGm := grownCap_le_maxLen w (0 + n) 0 3 (by unfold maxLen; omega)
   obtain ⟨G, hG⟩ : ∃ G, G = grownCap w (0 + n) 0 3 := ⟨_, rfl⟩
   rw [← hG] at hap hGn hGm
   rw [Nat.zero_add] at hap hGn
   obtain ⟨cs, hcs⟩ : ∃ cs, cs = ([] : List Value).toArray ++ Builtin.zeroCells (Value.int .i64 0).cells n ++ Builtin.zeroCells (Value.int .i64 0).cells (G - n) := ⟨_, rfl⟩
   rw [← hcs] at hap
   have hsz : cs.size = G * 1 := by
    rw [hcs, Array.size_append, Array.size_append, zcellsi_len, zcellsi_len]
    simp only [List.size_toArray, List.length_nil]
    omega
   have HO : Hid (OwnI (w.drew.alloc (.cells cs 3)) w.heap.size (.slice (some ⟨w.heap.size, 0, none⟩) 0 G) []) :=
    ⟨rfl, .inr ⟨w.heap.size, G, cs, rfl, Nat.le_refl _, heap_alloc_new w.drew _, Nat.zero_le _, hGm, hsz, by simp [i64s]⟩⟩
   have HF : Hid (Fr w (w.drew.alloc (.cells cs 3)) []) := (Fr.drew w []).trans (Fr.alloc _ _ [])
   unfold maxLen at hGm
   have hnp : (n : Int) > 0 := by omega
   clear hG hcs hsz hold hgf
   go_enter Tryz.func281, Tryz.ntmps281
   go_wp2_with (at_builtin; refine Lib.wpList_append_run _ rfl _ _ _ _ rfl _ _ rfl rfl _ _ (hap _) ?_)
   go_ret
   exact gives ⟨HO.out, HF.out⟩
abbrev VI := Value × List Int
def zVI : VI := (.slice none 0 0, [])
def totI : List VI → Nat
 | [] => 0
 | p :: vs => p.2.length + totI vs
def catI (vs : List VI) : List Int := vs.flatMap (·.2)
theorem catI_len : ∀ vs : List VI, (catI vs).length = totI vs
 | [] => rfl
 | p :: vs => by
   have := catI_len vs
   unfold catI at *
   rw [List.flatMap_cons, List.length_append, this]
   rfl
theorem catI_app (vs ws : List VI) : catI (vs ++ ws) = catI vs ++ catI ws := by simp [catI]
theorem take_vi (vs : List VI) (k : Nat) (h : k < vs.length) : vs.take (k + 1) = vs.take k ++ [vs.getD k zVI] := by
 rw [List.take_succ_eq_append_getElem h]; simp [h]
theorem toti_take (vs : List VI) (k : Nat) (h : k < vs.length) : totI (vs.take (k + 1)) = totI (vs.take k) + (vs.getD k zVI).2.length := by
 rw [← catI_len, ← catI_len, take_vi vs k h, catI_app, List.length_append]; simp [catI]
theorem cati_take (vs : List VI) (k : Nat) (h : k < vs.length) : catI (vs.take (k + 1)) = catI (vs.take k) ++ (vs.getD k zVI).2 := by
 rw [take_vi vs k h, catI_app]; simp [catI]
theorem toti_le (vs : List VI) (k : Nat) : totI (vs.take k) ≤ totI vs := by
 have h : totI vs = totI (vs.take k) + totI (vs.drop k) := by
  rw [← catI_len, ← catI_len, ← catI_len, ← List.length_append, ← catI_app, List.take_append_drop]
 omega
def HIf (w : World) (v : Value) (l : List Int) : Prop := HInts w v l ∧ (v = .slice none 0 0 ∨ ∃ x c, v = .slice (some x) l.length c)
theorem HIf.keep {w w' : World} {v : Value} {l : List Int} (h : HIf w v l) (k : Fr w w' []) : HIf w' v l := ⟨Holds.keep h.1 k, h.2⟩
theorem OwnI.hif {w : World} {B : Nat} {v : Value} {l : List Int} (h : OwnI w B v l) : HIf w v l := ⟨h.holds, h.form⟩
theorem i64s_more (l m : List Int) : i64s (l ++ m) = i64s l ++ i64s m := by simp [i64s]
theorem owni_more {w0 w w6 : World} {B : Nat} {l m : List Int} {v v' : Value} (ho : w6.ownsRow B 3 1 v' (l.length + m.length) (i64s l ++ i64s m)) (hf : Fr w0 w [])
 (hg : w.grownBy w6 v.ownBlock) (hb : ∀ r, v.ownBlock = some r → w0.heap.size ≤ r) : OwnI w6 B v' (l ++ m) ∧ Fr w0 w6 [] := by
 refine ⟨?_, hf.grown_own hg (fun r hr => .inr (hb r hr))⟩
 unfold OwnI
 rw [List.length_append, i64s_more]
 exact ho
set_option maxHeartbeats 2000000 in
set_option maxRecDepth 100000 in
theorem iconcat_any (g : Nat) (vs : List VI) (w : World) (hl : vs.length ≤ 1000) (ht : totI vs ≤ 1000000) (hc : ∀ i, i < vs.length → w.cell? ⟨g, i, none⟩ = some (vs.getD i zVI).1) (hv : ∀ i, i < vs.length → HIf w (vs.getD i zVI).1 (vs.getD i zVI).2) :
 Calls Tryz.prog 214 #[.slice (some ⟨g, 0, none⟩) vs.length vs.length] w (Gives fun u w' => OwnI w' w.heap.size u (catI vs) ∧ Fr w w' []) := by
 obtain ⟨i0, hi0, hz0, hz1, hz2⟩ := info_parts infoI
 obtain ⟨n, hn⟩ : ∃ n, n = vs.length := ⟨_, rfl⟩
 have HN := Lib.hid hn
 have HC := Lib.hid hc
 have HV := Lib.hid hv
 have HT := Lib.hid ht
 obtain ⟨t, htt⟩ : ∃ t, t = totI vs := ⟨_, rfl⟩
 have HTT := Lib.hid htt
 rw [← htt] at ht
 rw [← hn] at hl ⊢
 have GR := Lib.hid (igrow_any t w ht)
 clear hc hv hn htt
 go_enter Tryz.func214, Tryz.ntmps214
 go_wp2
 go_loopw [3, 5, 11] (fun s3 _ s11 wx => ∃ k m : Nat, s3 = .int .i64 m ∧ s11 = .int .i64 k ∧ Hid (k ≤ n) ∧ Hid (m = totI (vs.take k)) ∧ w = wx) (fun _ _ s11 _ => n - (intOf s11).toNat)
 case atStart => exact ⟨0, 0, rfl, rfl, Lib.hid (Nat.zero_le _), Lib.hid rfl, rfl⟩
 case round =>
  obtain ⟨k, m, rfl, rfl, HK, HM, rfl⟩ := hrel
  have hk := HK.out
  by_cases hlt : k < n
  · have hcell := HC.out k (by have := HN.out; omega)
    obtain ⟨⟨a, c, hav, p1, q1, r1⟩, _⟩ := HV.out k (by have := HN.out; omega)
    obtain ⟨q, hq⟩ : ∃ q, q = (vs.getD k zVI).2.length := ⟨_, rfl⟩
    rw [hav, ← hq] at hcell
    have hs := toti_take vs k (by have := HN.out; omega)
    rw [← hq, ← HM.out] at hs
    have hb := toti_le vs (k + 1)
    rw [hs] at hb
    have hb2 := HT.out
    have HM2 : Hid (m + q = totI (vs.take (k + 1))) := Lib.hid hs.symm
    have hmq : m + q ≤ 1000000 := by omega
    have hnn : ¬ (((m : Int) + (q : Int)) < 0) := by omega
    clear hq hs hb hb2 hav p1 q1 r1 HM
    go_wp2
    go_roundw
    case rel => exact ⟨k + 1, m + q, by go_num, by go_num, Lib.hid (by omega), HM2, by trivial⟩
    case measure => simp [intOf]; omega
  · obtain rfl : k = n := by omega
    have HE : Hid (m = t) := by
     show _ = _
     rw [HM.out, HN.out, List.take_length, HTT.out]
    obtain rfl := HE.out
    clear HM HE
    go_wp2_with fail
    with_reducible refine (GR.out).mono ?_
    rintro e w1 ⟨u, rfl, ho, hf⟩
    have HO := Lib.hid ho
    have HF := Lib.hid hf
    clear ho hf GR
    go_wp2
    go_loopw [6, 8, 27] (fun s6 _ s27 wx => ∃ j : Nat, s27 = .int .i64 j ∧ Hid (j ≤ k) ∧ Hid (OwnI wx w.heap.size s6 (catI (vs.take j))) ∧ Hid (Fr w wx [])) (fun _ _ s27 _ => k - (intOf s27).toNat)
    case atStart => exact ⟨0, rfl, Lib.hid (Nat.zero_le _), HO, HF⟩
    case round =>
     obtain ⟨j, rfl, HJ, HOj, HFj⟩ := hrel
     have hj := HJ.out
     by_cases hlt : j < k
     · have hcell := HFj.out.cell (HC.out j (by have := HN.out; omega)) (by simp)
       have hvj := (HV.out j (by have := HN.out; omega)).keep HFj.out
       have hct := cati_take vs j (by have := HN.out; omega)
       have hb := toti_le vs (j + 1)
       rw [← catI_len, hct, List.length_append] at hb
       have hb2 := HT.out
       obtain ⟨⟨v, l⟩, hvl⟩ : ∃ p, p = vs.getD j zVI := ⟨_, rfl⟩
       rw [← hvl] at hcell hvj hct hb
       dsimp only at hcell hvj hct hb
       have HCT := Lib.hid hct
       obtain ⟨M, hM⟩ : ∃ M, M = catI (vs.take j) := ⟨_, rfl⟩
       rw [← hM] at HOj hb HCT
       obtain ⟨ua, uc, hu⟩ := row_shape HOj.out
       have HVJ := Lib.hid hvj
       obtain ⟨⟨a, c, rfl, p1, q1, r1⟩, hform⟩ := hvj
       have hbig : M.length + l.length ≤ 1000000 := by omega
       clear hvl hct hM hb hb2 r1 HO HF
       cases a with
       | none =>
         have hl0 : l = [] ∧ c = 0 := by
          rcases hform with h | ⟨x, c', h⟩
          · simp only [Value.slice.injEq] at h
            exact ⟨List.eq_nil_of_length_eq_zero h.2.1, h.2.2⟩
          · simp at h
         obtain ⟨rfl, rfl⟩ := hl0
         clear hform
         have HO2 : Hid (OwnI wr w.heap.size (.slice ua M.length uc) (catI (vs.take (j + 1)))) := by
          show OwnI _ _ _ _
          rw [HCT.out, List.append_nil, ← hu]
          exact HOj.out
         clear HVJ
         go_wp2_with (at_builtin; refine wpList_append_own_none rfl _ _ 36 rfl w.heap.size 3 i0 1 Tryz.underlying36 hi0 _ _ _ rfl HOj.out rfl ?_)
         go_roundw
         case rel => exact ⟨j + 1, by go_num, Lib.hid (by omega), HO2, HFj⟩
         case measure => simp [intOf]; omega
       | some ad =>
         clear hform
         go_wp2_with (at_builtin; refine wpList_append_own _ rfl _ _ 36 rfl w.heap.size 3 i0 (.int .i64 0) 1 8 Tryz.underlying36 hi0 hz0 hz1 hz2 rfl (by decide) _ _ _ rfl HOj.out ad l.length c (i64s l) rfl (by simp) (HInts.args HVJ.out.1) (i64s_one l) (by unfold maxLen; omega) (by omega) HFj.out.size ?_; intro v' w3 hown3 hg3 _)
         have HQ := Lib.hid (owni_more (m := l) hown3 HFj.out hg3 (fun r hr => (HOj.out.block r hr).1))
         have HO2 : Hid (OwnI w3 w.heap.size v' (catI (vs.take (j + 1)))) := by
          show OwnI _ _ _ _
          rw [HCT.out]
          exact HQ.out.1
         have HF2 := Lib.hid HQ.out.2
         clear hown3 hg3 HQ HVJ
         go_wp2
         go_roundw
         case rel => exact ⟨j + 1, by go_num, Lib.hid (by omega), HO2, HF2⟩
         case measure => simp [intOf]; omega
     · obtain rfl : j = k := by omega
       have HO2 := HOj.out
       rw [HN.out, List.take_length] at HO2
       have HO2 := Lib.hid HO2
       clear HOj HO HF
       go_wp2
       go_ret
       exact gives ⟨HO2.out, HFj.out⟩
end Go.Proofs.YtiflmkicnkbeaaaGreatDoor
namespace Go.Proofs.YtiflmkicnkbeaaaGreatDoor
open Go.RowKit
def longB (t c : Int) : Bool := decide (4 * c + 8 < t)
theorem and3 (t : Int) : bits BinOp.and IntKind.i64 t 3 = t % 4 := by
 have h : (BitVec.ofInt 64 t &&& BitVec.ofInt 64 3).toNat = (t % 4).toNat := by
  rw [BitVec.toNat_and, BitVec.toNat_ofInt, show (BitVec.ofInt 64 3).toNat = 2 ^ 2 - 1 from by decide, Nat.and_two_pow_sub_one_eq_mod]
  omega
 show IntKind.i64.wrap ((BitVec.ofInt 64 t &&& BitVec.ofInt 64 3).toNat : Int) = _
 rw [h]
 rw [IntKind.wrap_i64]
 omega
theorem longer_any (t c : Int) (ht : -9223372036854775808 ≤ t ∧ t ≤ 9223372036854775807) (w : World) :
 Calls Tryz.prog 212 #[.int .i64 t, .int .i64 c] w fun e w' => e = .returned (.bool (longB t c)) ∧ w' = w := by
 have h3 := and3 t
 obtain ⟨m, hm⟩ : ∃ m, m = bits BinOp.and IntKind.i64 t 3 := ⟨_, rfl⟩
 obtain ⟨q, hq⟩ : ∃ q, q = t / 4 - 2 := ⟨_, rfl⟩
 obtain ⟨b, hb⟩ : ∃ b, b = longB t c := ⟨_, rfl⟩
 rw [← hb]
 unfold longB at hb
 rw [← hm] at h3
 have e1 : (c < t / 4 - 2) = (c < q) := by rw [hq]
 by_cases h1 : c < t / 4 - 2
 · obtain rfl : b = true := by rw [hb, decide_eq_true_iff]; omega
   clear hb hm h3 e1 hq
   go_enter Tryz.func212, Tryz.ntmps212
   go_wp2
   go_ret
   exact ⟨rfl, rfl⟩
 · by_cases h2 : t / 4 - 2 = c
   · have hE : (0 < bits BinOp.and IntKind.i64 t 3) = (b = true) := by
      rw [← hm, hb, decide_eq_true_iff]; exact propext (by omega)
     clear hb hm h3 e1 hq
     go_enter Tryz.func212, Tryz.ntmps212
     go_wp2
     go_ret
     exact ⟨rfl, rfl⟩
   · obtain rfl : b = false := by rw [hb, decide_eq_false_iff_not]; omega
     have e2 : (t / 4 - 2 == c) = false := by simp [h2]
     clear hb hm h3 e1 hq
     go_enter Tryz.func212, Tryz.ntmps212
     go_wp2
     go_ret
     exact ⟨rfl, rfl⟩
end Go.Proofs.YtiflmkicnkbeaaaGreatDoor
namespace Go.Proofs.YtiflmkicnkbeaaaGreatDoor
open Go.RowKit
def membs (A : List Int) (c : Int) : List Int := setOf (A ++ [c])
theorem mem_membs {A : List Int} {c x : Int} : x ∈ membs A c ↔ x ∈ A ∨ x = c := by unfold membs; rw [mem_setOf]; simp
theorem membs_le (A : List Int) (c : Int) : (membs A c).length ≤ A.length + 1 := by
 have := setOf_length (A ++ [c]); unfold membs; simpa using this
theorem membs_pos (A : List Int) (c : Int) : 0 < (membs A c).length := List.length_pos_of_mem (mem_membs.2 (.inr rfl))
def foundB (A R : List Int) (ca cs : Int) (ou an : Bool) (si fo : Int) : Bool :=
 !ou && (decide ((membs A ca).getD 0 0 = ca) && (longB fo cs && (!an || (!decide (R = membs A ca) || longB si cs))))
def C8 (g : Nat) (a b c d e f h i : Value) (w : World) : Prop :=
 w.cell? ⟨g, 0, none⟩ = some a ∧ w.cell? ⟨g, 1, none⟩ = some b ∧ w.cell? ⟨g, 2, none⟩ = some c ∧ w.cell? ⟨g, 3, none⟩ = some d ∧ w.cell? ⟨g, 4, none⟩ = some e ∧ w.cell? ⟨g, 5, none⟩ = some f ∧ w.cell? ⟨g, 6, none⟩ = some h ∧ w.cell? ⟨g, 7, none⟩ = some i
theorem row8 {w : World} {g : Nat} {a b c d e f h i : Value} {T : TypeId} (k : w.heap[g]? = some (.cells #[a, b, c, d, e, f, h, i] T (0, 0))) : C8 g a b c d e f h i w :=
 ⟨by rw [cell_of_row w g 0 _ _ _ k]; rfl, by rw [cell_of_row w g 1 _ _ _ k]; rfl, by rw [cell_of_row w g 2 _ _ _ k]; rfl, by rw [cell_of_row w g 3 _ _ _ k]; rfl, by rw [cell_of_row w g 4 _ _ _ k]; rfl, by rw [cell_of_row w g 5 _ _ _ k]; rfl, by rw [cell_of_row w g 6 _ _ _ k]; rfl, by rw [cell_of_row w g 7 _ _ _ k]; rfl⟩
theorem C8.fr {g : Nat} {a b c d e f h i : Value} {w w' : World} (k : C8 g a b c d e f h i w) (hf : Fr w w' []) : C8 g a b c d e f h i w' :=
 ⟨hf.cell k.1 (by simp), hf.cell k.2.1 (by simp), hf.cell k.2.2.1 (by simp), hf.cell k.2.2.2.1 (by simp), hf.cell k.2.2.2.2.1 (by simp), hf.cell k.2.2.2.2.2.1 (by simp), hf.cell k.2.2.2.2.2.2.1 (by simp), hf.cell k.2.2.2.2.2.2.2 (by simp)⟩
theorem HIf.sh {w : World} {v : Value} {l : List Int} (h : HIf w v l) : ∃ a n c, v = .slice a n c := by
 obtain ⟨⟨a, c, rfl, _⟩, _⟩ := h; exact ⟨_, _, _, rfl⟩
theorem ints_sh {w : World} {v : Value} {l : List Int} (h : HInts w v l) : ∃ a n c, v = .slice a n c := by
 obtain ⟨a, c, rfl, _⟩ := h; exact ⟨_, _, _, rfl⟩
theorem hints_of_cells {w : World} {g n : Nat} {l : List Int} (hn : l.length = n) (hm : n ≤ maxLen) (h : w.heap[g]? = some (.cells (i64s l).toArray 3 (0, 0))) : HIf w (.slice (some ⟨g, 0, none⟩) n n) l := by
 subst hn
 refine ⟨⟨_, _, rfl, Nat.le_refl _, hm, fun _ => ⟨g, 0, rfl, fun i hi => ?_⟩⟩, .inr ⟨_, _, rfl⟩⟩
 rw [Nat.zero_add, cell_of_row _ _ _ _ _ _ h]
 simp [i64s, hi]
theorem concat2 {W : World} {g1 g2 : Nat} {va : Value} {A : List Int} {x : Int} (hl : A.length ≤ 1000) (h1 : HIf W va A) (hb : W.heap[g1]? = some (.cells #[.int .i64 x] 3 (0, 0))) (hr : W.heap[g2]? = some (.cells #[va, .slice (some ⟨g1, 0, none⟩) 1 1] 36 (0, 0))) :
 Calls Tryz.prog 214 #[.slice (some ⟨g2, 0, none⟩) 2 2] W (Gives fun u w' => OwnI w' W.heap.size u (A ++ [x]) ∧ Fr W w' []) := by
 have hB : HIf W (.slice (some ⟨g1, 0, none⟩) 1 1) [x] := hints_of_cells (l := [x]) rfl (by decide) hb
 have hcat : catI [(va, A), (.slice (some ⟨g1, 0, none⟩) 1 1, [x])] = A ++ [x] := by simp [catI]
 have ht : totI [(va, A), (.slice (some ⟨g1, 0, none⟩) 1 1, [x])] = A.length + 1 := by rw [← catI_len, hcat]; simp
 have := iconcat_any g2 [(va, A), (.slice (some ⟨g1, 0, none⟩) 1 1, [x])] W (by simp) (by rw [ht]; omega)
  (fun i hi => by
   rw [cell_of_row _ _ _ _ _ _ hr]
   match i, hi with
   | 0, _ => rfl
   | 1, _ => rfl
   | i + 2, hi => exact absurd hi (by simp))
  (fun i hi => by
   match i, hi with
   | 0, _ => exact h1
   | 1, _ => exact hB
   | i + 2, hi => exact absurd hi (by simp))
 rw [hcat] at this
 exact this
set_option maxHeartbeats 2000000 in
set_option maxRecDepth 100000 in
theorem members_any (ca cs : Int) (ou an : Bool) (va vr : Value) (si fo : Int) (A : List Int) (w : World) (hA : HIf w va A) (hl : A.length ≤ 1000) (hr : ∃ a n c, vr = .slice a n c) :
 Calls Tryz.prog 136 #[.agg #[.int .i64 ca, .int .i64 cs, .bool ou, .bool an, va, vr, .int .i64 si, .int .i64 fo]] w (Gives fun u w' => OwnI w' w.heap.size u (membs A ca) ∧ Fr w w' []) := by
 obtain ⟨ra, rn, rc, rfl⟩ := hr
 obtain ⟨aa, an', ac, hva⟩ := hA.sh
 have HA := Lib.hid hA
 clear hA
 subst hva
 obtain ⟨O, hO⟩ : ∃ O, O = Obj.cells #[.int .i64 ca, .int .i64 cs, .bool ou, .bool an, .slice aa an' ac, .slice ra rn rc, .int .i64 si, .int .i64 fo] 223 := ⟨_, rfl⟩
 have HO := Lib.hid (show (w.alloc O).heap[w.heap.size]? = some O from heap_alloc_new w O)
 have HF := Lib.hid (Fr.alloc w O [])
 rw [hO] at HO HF
 clear hO
 go_enter Tryz.func136, Tryz.ntmps136
 go_upto_region 1 with fail
 generalize w.alloc _ = V at HO HF ⊢
 obtain ⟨y0, y1, y2, y3, y4, y5, y6, y7⟩ := row8 HO.out
 obtain ⟨W1, hW1⟩ : ∃ W1, W1 = V.alloc (.cells #[.int .i64 ca] 3) := ⟨_, rfl⟩
 have HK1 := Lib.hid (show W1.heap[V.heap.size]? = some (.cells #[.int .i64 ca] 3 (0, 0)) ∧ Fr V W1 [] ∧ W1.heap.size = V.heap.size + 1 from by rw [hW1]; exact ⟨heap_alloc_new V _, Fr.alloc V _ [], by simp⟩)
 obtain ⟨W2, hW2⟩ : ∃ W2, W2 = W1.alloc (.cells #[.slice aa an' ac, .slice (some ⟨V.heap.size, 0, none⟩) 1 1] 36) := ⟨_, rfl⟩
 have HK2 := Lib.hid (show W2.heap[V.heap.size + 1]? = some (.cells #[.slice aa an' ac, .slice (some ⟨V.heap.size, 0, none⟩) 1 1] 36 (0, 0)) ∧ Fr W1 W2 [] from by rw [hW2, ← HK1.out.2.2]; exact ⟨heap_alloc_new W1 _, Fr.alloc W1 _ []⟩)
 have HFW := Lib.hid (HF.out.trans (HK1.out.2.1.trans HK2.out.2))
 have CC := Lib.hid (concat2 hl (HA.out.keep HFW.out) (HK2.out.2.heap HK1.out.1 (by simp)) HK2.out.1)
 rw [hW2, hW1] at CC
 go_wp2_with fail
 with_reducible refine (CC.out).mono ?_
 rintro e w3 ⟨u, rfl, ho, hf⟩
 rw [← hW1, ← hW2] at ho hf
 clear hW1 hW2 CC
 have HO3 := Lib.hid ho
 have HF3 := Lib.hid (HFW.out.trans hf)
 clear ho hf
 go_wp2_with fail
 with_reducible refine (set_any u (A ++ [ca]) w3 HO3.out.holds HO3.out.form (by simp; omega)).mono ?_
 rintro e w4 ⟨u2, rfl, ho, hf⟩
 have HO4 := Lib.hid (ho.mono HF3.out.size)
 have HF4 := Lib.hid (HF3.out.trans hf)
 clear ho hf
 go_wp2
 go_ret
 exact gives ⟨HO4.out, HF4.out⟩
end Go.Proofs.YtiflmkicnkbeaaaGreatDoor
namespace Go.Proofs.YtiflmkicnkbeaaaGreatDoor
open Go.RowKit
theorem longer_at (t c : Int) (ht : -9223372036854775808 ≤ t ∧ t ≤ 9223372036854775807) (w : World) (n : Nat) (b : Bool) (hb : b = longB t c) :
 Calls Tryz.prog 212 #[.int .i64 t, .int .i64 c] (w.drewN n) fun e w' => e = .returned (.bool b) ∧ ∃ m, w' = w.drewN m := by
 subst hb
 exact (longer_any t c ht _).mono fun _ _ ⟨he, hw⟩ => ⟨he, n, hw⟩
theorem own_first {w : World} {B : Nat} {u : Value} {l : List Int} (h : OwnI w B u l) (h0 : 0 < l.length) : ∃ g c, u = .slice (some ⟨g, 0, none⟩) l.length c ∧ w.cell? ⟨g, 0, none⟩ = some (.int .i64 (l.getD 0 0)) := by
 obtain ⟨g, c, rfl, _⟩ := row_head h h0
 obtain ⟨a, c', he, _, _, hc⟩ := h.holds
 simp only [Value.slice.injEq, true_and] at he
 obtain ⟨rfl, _⟩ := he
 obtain ⟨b, off, e, k⟩ := hc h0
 simp only [Option.some.injEq, Addr.mk.injEq, and_true] at e
 obtain ⟨rfl, rfl⟩ := e
 exact ⟨_, _, rfl, k 0 h0⟩
set_option maxHeartbeats 4000000 in
set_option maxRecDepth 100000 in
theorem should_any (ca cs : Int) (ou an : Bool) (va vr : Value) (si fo : Int) (A R : List Int) (w : World) (hA : HIf w va A) (hl : A.length ≤ 1000) (hR : HInts w vr R) (hs : -9223372036854775808 ≤ si ∧ si ≤ 9223372036854775807) (hf : -9223372036854775808 ≤ fo ∧ fo ≤ 9223372036854775807) (b : Bool) (hb : b = foundB A R ca cs ou an si fo) :
 Calls Tryz.prog 133 #[.agg #[.int .i64 ca, .int .i64 cs, .bool ou, .bool an, va, vr, .int .i64 si, .int .i64 fo]] w fun e w' => e = .returned (.bool b) ∧ Fr w w' [] := by
 obtain ⟨ra, rn, rc, hvr⟩ := ints_sh hR
 obtain ⟨aa, n, ac, hva⟩ := hA.sh
 have HA := Lib.hid hA
 have HR := Lib.hid hR
 have HB := Lib.hid hb
 have HS := Lib.hid hs
 have HO' := Lib.hid hf
 have HLE := Lib.hid (membs_le A ca)
 have HPO := Lib.hid (membs_pos A ca)
 clear hA hR hb hs hf
 subst hva hvr
 obtain ⟨O, hO⟩ : ∃ O, O = Obj.cells #[.int .i64 ca, .int .i64 cs, .bool ou, .bool an, .slice aa n ac, .slice ra rn rc, .int .i64 si, .int .i64 fo] 223 := ⟨_, rfl⟩
 have HO := Lib.hid (show (w.alloc O).heap[w.heap.size]? = some O from heap_alloc_new w O)
 have HF := Lib.hid (Fr.alloc w O [])
 rw [hO] at HO HF
 clear hO
 obtain ⟨M, hM⟩ : ∃ M, M = membs A ca := ⟨_, rfl⟩
 have MB := Lib.hid (fun W (hW : Fr w W []) => members_any ca cs ou an (.slice aa n ac) (.slice ra rn rc) si fo A W (HA.out.keep hW) hl ⟨_, _, _, rfl⟩)
 have HBE : Hid (b = (!ou && (decide (M.getD 0 0 = ca) && (longB fo cs && (!an || (!decide (R = M) || longB si cs)))))) := by
  show _ = _; rw [HB.out, hM]; rfl
 rw [← hM] at HLE HPO MB
 clear hM HB
 go_enter Tryz.func133, Tryz.ntmps133
 go_upto_region 1 with fail
 generalize w.alloc _ = V at HO HF ⊢
 obtain ⟨g, hg⟩ : ∃ g, g = w.heap.size := ⟨_, rfl⟩
 rw [← hg] at HO ⊢
 clear hg
 obtain ⟨y0, y1, y2, y3, y4, y5, y6, y7⟩ := row8 HO.out
 have MV := Lib.hid (MB.out V HF.out)
 clear MB
 go_wp2_with fail
 with_reducible refine (MV.out).mono ?_
 rintro e w1 ⟨u, rfl, ho, hf⟩
 have C1 := Lib.hid ((row8 HO.out).fr hf)
 have F1 := Lib.hid (HF.out.trans hf)
 have O1 := Lib.hid ho
 clear hf y0 y1 y2 y3 y4 y5 y6 y7 MV
 obtain ⟨gm, cm, hu, hc0⟩ := own_first ho HPO.out
 subst hu
 clear ho
 obtain ⟨m0, hm0⟩ : ∃ m0, m0 = M.getD 0 0 := ⟨_, rfl⟩
 rw [← hm0] at hc0 HBE
 clear hm0
 obtain ⟨ml, hml⟩ : ∃ ml, ml = M.length := ⟨_, rfl⟩
 have HML := Lib.hid hml
 have hpos := HPO.out
 have hml1 := HLE.out
 rw [← hml] at hpos hml1 ⊢
 have O2 : Hid (OwnI w1 V.heap.size (.slice (some ⟨gm, 0, none⟩) ml cm) M) := by rw [hml]; exact O1
 clear O1 hml
 obtain ⟨y0, y1, y2, y3, y4, y5, y6, y7⟩ := C1.out
 cases ou with
 | true =>
   obtain rfl : b = false := by rw [HBE.out]; rfl
   go_wp2
   go_quiet (fail)
   have HE := Lib.hid (F1.out.trans (Fr.drewN w1 nq []))
   go_wp2
   go_ret
   exact ⟨rfl, HE.out⟩
 | false =>
   by_cases h0 : m0 = ca
   · subst h0
     have e0 : (m0 != m0) = false := by simp
     obtain ⟨q, hq⟩ : ∃ q, q = longB fo cs := ⟨_, rfl⟩
     have LF := Lib.hid (fun W k => longer_at fo cs HO'.out W k q hq)
     rw [← hq] at HBE
     clear hq
     cases q with
     | false =>
       obtain rfl : b = false := by rw [HBE.out]; simp
       go_wp2
       go_quiet ((go_at_call 212; with_reducible exact LF.out _ _))
       have HE := Lib.hid (F1.out.trans (Fr.drewN w1 nq []))
       go_wp2
       go_ret
       exact ⟨rfl, HE.out⟩
     | true =>
       cases an with
       | false =>
         obtain rfl : b = true := by rw [HBE.out]; simp
         go_wp2
         go_quiet ((go_at_call 212; with_reducible exact LF.out _ _))
         have HE := Lib.hid (F1.out.trans (Fr.drewN w1 nq []))
         go_wp2
         go_ret
         exact ⟨rfl, HE.out⟩
       | true =>
         obtain ⟨d, hd⟩ : ∃ d, d = decide (R = M) := ⟨_, rfl⟩
         have SM := Lib.hid (fun W (hW : Fr w W []) (hW1 : Fr w1 W []) => same_any (.slice ra rn rc) R (.slice (some ⟨gm, 0, none⟩) ml cm) M W (HR.out.keep hW) (O2.out.keep hW1).holds d hd)
         rw [← hd] at HBE
         clear hd
         go_wp2
         go_quiet ((go_at_call 212; with_reducible exact LF.out _ _))
         have HE := Lib.hid (F1.out.trans (Fr.drewN w1 nq []))
         have SM1 := Lib.hid (SM.out _ HE.out (Fr.drewN w1 nq []))
         clear SM
         go_wp2_with fail
         with_reducible refine (SM1.out).mono ?_
         rintro e w2 ⟨rfl, k, hw2⟩
         have HE2 : Hid (Fr w w2 []) := by show Fr w w2 []; rw [hw2]; exact HE.out.trans (Fr.drewN _ k [])
         obtain ⟨y0, y1, y2, y3, y4, y5, y6, y7⟩ : C8 g (.int .i64 m0) (.int .i64 cs) (.bool false) (.bool true) (.slice aa n ac) (.slice ra rn rc) (.int .i64 si) (.int .i64 fo) w2 := by
          rw [hw2]; exact (C1.out.fr (Fr.drewN w1 nq [])).fr (Fr.drewN _ k [])
         clear hw2
         cases d with
         | false =>
           obtain rfl : b = true := by rw [HBE.out]; simp
           go_wp2
           go_ret
           exact ⟨rfl, HE2.out⟩
         | true =>
           have LS := Lib.hid (longer_any si cs HS.out w2)
           obtain ⟨q, hq⟩ : ∃ q, q = longB si cs := ⟨_, rfl⟩
           rw [← hq] at LS HBE
           clear hq
           obtain rfl : b = q := by rw [HBE.out]; simp
           go_wp2_with fail
           with_reducible refine (LS.out).mono ?_
           rintro e w3 ⟨rfl, rfl⟩
           go_wp2
           go_ret
           exact ⟨rfl, HE2.out⟩
   · have e0 : (m0 != ca) = true := by simp [h0]
     obtain rfl : b = false := by rw [HBE.out]; simp [h0]
     clear h0
     go_wp2
     go_quiet (fail)
     have HE := Lib.hid (F1.out.trans (Fr.drewN w1 nq []))
     go_wp2
     go_ret
     exact ⟨rfl, HE.out⟩
end Go.Proofs.YtiflmkicnkbeaaaGreatDoor
