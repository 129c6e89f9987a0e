/- The reader's other calls: behind an error; Bool, At, Left, Err. -/
import Derived.Test.YtmacbafkbhigcaaDoorRead
import Derived.RegionTactic
import Derived.ChangeAlike
import Derived.Laws.BytesArg
namespace Go.Proofs.YtmacbafkbhigcaaDoor
open Go.RowKit

set_option maxRecDepth 100000 in
theorem num_bad (p : Nat) (l : List Int) (k : Nat) (low high : Int) (w : World) (A : Nat → Addr) (B c : Nat) (h : Rd w B p l k (ev A c)) (hc : c ≠ 0) :
    Calls Tryd.prog 17 #[.pointer (some ⟨p, 0, none⟩), .int .i64 low, .int .i64 high] w fun e w' => e = .returned (.int .i64 0) ∧ w = w' := by
  obtain ⟨hB, v, hp, ho⟩ := h
  have hev : ev A c = .iface 69 (.pointer (some (A c))) := if_neg hc
  rw [hev] at hp
  obtain ⟨c0, c1, c2, f1, f2⟩ := Rd.cells hp
  go_enter Tryd.func17, Tryd.ntmps17
  go_wp2
  go_ret
  exact ⟨rfl, rfl⟩

theorem at_any (p : Nat) (l : List Int) (k : Nat) (w : World) (B : Nat) (e : Value) (h : Rd w B p l k e) :
    Calls Tryd.prog 23 #[.pointer (some ⟨p, 0, none⟩)] w fun e w' => e = .returned (.int .i64 (k : Int)) ∧ w = w' := by
  obtain ⟨hB, v, hp, ho⟩ := h
  obtain ⟨c0, c1, c2, f1, f2⟩ := Rd.cells hp
  go_enter Tryd.func23, Tryd.ntmps23
  go_wp2
  go_ret
  exact ⟨rfl, rfl⟩

set_option maxRecDepth 100000 in
theorem left_any (p : Nat) (l : List Int) (k : Nat) (w : World) (B : Nat) (e : Value) (h : Rd w B p l k e) (hk : k ≤ l.length) :
    Calls Tryd.prog 19 #[.pointer (some ⟨p, 0, none⟩)] w fun e w' => e = .returned (.int .i64 ((l.length - k : Nat) : Int)) ∧ Drawn w w' := by
  obtain ⟨hB, v, hp, ho⟩ := h
  have hsl := bytes_size ho.bytes
  unfold maxLen at hsl
  obtain ⟨a, cap, rfl⟩ := ho.shape
  obtain ⟨c0, c1, c2, f1, f2⟩ := Rd.cells hp
  go_enter Tryd.func19, Tryd.ntmps19
  go_wp2
  go_quiet (fail)
  go_wp2
  go_ret
  refine ⟨?_, _, rfl⟩
  rw [show ((l.length - k : Nat) : Int) = (l.length : Int) - (k : Int) by omega]
  rfl

theorem err_nil (p : Nat) (l : List Int) (k : Nat) (w : World) (B : Nat) (h : Rd w B p l k .nilIface) :
    Calls Tryd.prog 20 #[.pointer (some ⟨p, 0, none⟩)] w fun e w' => e = .returned .nilIface ∧ w = w' := by
  obtain ⟨hB, v, hp, ho⟩ := h
  obtain ⟨c0, c1, c2, f1, f2⟩ := Rd.cells hp
  go_enter Tryd.func20, Tryd.ntmps20
  go_wp2
  go_ret
  exact ⟨rfl, rfl⟩

/-- An error with a place: a new At. -/
def AtErr (w : World) (A : Nat → Addr) (u : Value) (k c : Nat) : Prop :=
  ∃ q, u = .iface 56 (.pointer (some ⟨q, 0, none⟩)) ∧ w.heap[q]? = some (.cells #[.int .i64 (k : Int), ev A c] 58 (0, 0))

set_option maxRecDepth 100000 in
theorem err_bad (p : Nat) (l : List Int) (k : Nat) (w : World) (A : Nat → Addr) (B c : Nat) (h : Rd w B p l k (ev A c)) (hc : c ≠ 0) :
    Calls Tryd.prog 20 #[.pointer (some ⟨p, 0, none⟩)] w (Gives fun u w' => AtErr w' A u k c ∧ w.grownBy w' none) := by
  obtain ⟨hB, v, hp, ho⟩ := h
  have hev : ev A c = .iface 69 (.pointer (some (A c))) := if_neg hc
  rw [hev] at hp
  obtain ⟨c0, c1, c2, f1, f2⟩ := Rd.cells hp
  have HE := Lib.hid hev
  clear hev
  go_enter Tryd.func20, Tryd.ntmps20
  go_wp2
  go_region
  all_goals go_wp2
  all_goals go_ret
  all_goals exact gives ⟨⟨w.heap.size, rfl, by rw [HE.out]; exact heap_alloc_new w _⟩, grown_drew (World.grownBy_alloc w _ none)⟩

theorem bool_ok (p : Nat) (l : List Int) (k : Nat) (w : World) (A : Nat → Addr) (B : Nat) (h : Rd w B p l k .nilIface) (hk : k ≤ l.length) (hb : Wm.Byte l) (hE : E3 w A B)
    (s : Int × Nat × Nat) (hs : s = Wm.numS l k 0 1) :
    Calls Tryd.prog 24 #[.pointer (some ⟨p, 0, none⟩)] w fun e w' => e = .returned (.bool (s.1 == 1)) ∧ Rd w' B p l s.2.1 (ev A s.2.2) ∧ w.grownBy w' (some p) := by
  have HS := Lib.hid hs
  clear hs
  go_enter Tryd.func24, Tryd.ntmps24
  go_wp2_with fail
  refine (num_ok p l k 0 1 _ A B h hk hb hE s HS.out).mono ?_
  rintro e w1 ⟨rfl, h1, h2⟩
  go_wp2
  go_ret
  exact ⟨rfl, h1, h2⟩
theorem bool_bad (p : Nat) (l : List Int) (k : Nat) (w : World) (A : Nat → Addr) (B c : Nat) (h : Rd w B p l k (ev A c)) (hc : c ≠ 0) :
    Calls Tryd.prog 24 #[.pointer (some ⟨p, 0, none⟩)] w fun e w' => e = .returned (.bool false) ∧ w = w' := by
  go_enter Tryd.func24, Tryd.ntmps24
  go_wp2_with fail
  refine (num_bad p l k 0 1 _ A B c h hc).mono ?_
  rintro e w1 ⟨rfl, rfl⟩
  go_wp2
  go_ret
  exact ⟨rfl, rfl⟩

theorem convert_any (w : World) (v : Value) (l : List Int) (h : Bytes w v l) : (Go.convert 22 9 v).run Tryd.prog w = .ok (.string (strOfNums l)) w := by
  obtain ⟨a, cap, rfl, h1, h2, h3⟩ := h
  by_cases h0 : 0 < l.length
  · obtain ⟨b, off, rfl, hc⟩ := h3 h0
    exact run_convert_bytes_arg w 22 5 Tryd.underlying22 Tryd.underlying5 b off l.length cap l rfl hc 9 Tryd.underlying9
  · obtain rfl : l = [] := List.eq_nil_of_length_eq_zero (by omega)
    rw [run_convert_bytes_string w 22 9 5 a _ cap Tryd.underlying22 Tryd.underlying5 Tryd.underlying9]
    cases a with
    | none => simp [Conv.bytesToString, strOfNums]; rfl
    | some ad =>
      exact run_bytesToString (P := Tryd.prog) w ad 0 cap [] (by simp [loadCells, loadCellsFrom])

theorem Holds.cut {kd : IntKind} {w : World} {a : Option Addr} {cap : Nat} {l : List Int} (h : Holds kd w (.slice a l.length cap) l) (n : Nat) (hn : n ≤ l.length) : Holds kd w (.slice a n cap) (l.take n) := by
  obtain ⟨a', cap', he, h1, h2, h3⟩ := h
  simp only [Value.slice.injEq, true_and] at he
  obtain ⟨rfl, rfl⟩ := he
  have hl : (l.take n).length = n := by simp; omega
  refine ⟨a, cap, by rw [hl], by omega, h2, fun h0 => ?_⟩
  rw [hl] at h0
  obtain ⟨b, off, rfl, hc⟩ := h3 (by omega)
  refine ⟨b, off, rfl, fun i hi => ?_⟩
  rw [hl] at hi
  rw [hc i (by omega)]
  simp [List.getD, hi]

set_option maxHeartbeats 1000000 in
set_option maxRecDepth 100000 in
theorem text_ok (p : Nat) (l : List Int) (k : Nat) (most : Int) (w : World) (A : Nat → Addr) (B : Nat) (h : Rd w B p l k .nilIface) (hk : k ≤ l.length) (hb : Wm.Byte l) (hE : E3 w A B)
    (hm0 : -9223372036854775808 ≤ most) (hm1 : most ≤ 9223372036854775807)
    (s : List Int × Nat × Nat) (hs : s = Wm.textS l k most) :
    Calls Tryd.prog 18 #[.pointer (some ⟨p, 0, none⟩), .int .i64 most] w fun e w' => e = .returned (.string (strOfNums s.1)) ∧ Rd w' B p l s.2.1 (ev A s.2.2) ∧ w.grownBy w' (some p) := by
  have hat := Wm.numS_at l k 0 most hk
  have hpl := Wm.numS_place l k 0 most
  have hin := Wm.numS_in l k 0 most
  obtain ⟨n, j, cd, hr⟩ : ∃ n j cd, (n, j, cd) = Wm.numS l k 0 most := ⟨_, _, _, rfl⟩
  rw [Wm.textS, ← hr] at hs
  rw [← hr] at hat hpl hin
  simp only at hs hat hpl hin
  have HR := Lib.hid hr
  have hcell : w.cell? ⟨p, 1, none⟩ = some (.int .i64 (k : Int)) := by
    obtain ⟨hB, v, hp, ho⟩ := h
    exact (Rd.cells hp).2.1
  have hpp : ∃ v, w.heap[p]? = some (.cells #[v, .int .i64 (k : Int), .nilIface] 53 (0, 0)) := by
    obtain ⟨hB, v, hp, ho⟩ := h
    exact ⟨v, hp⟩
  obtain ⟨v0, hp0⟩ := hpp
  clear hr
  by_cases hcd : cd = 0
  · subst hcd
    obtain ⟨hn0, hn1⟩ := hin rfl
    obtain ⟨N, rfl⟩ := Int.eq_ofNat_of_zero_le hn0
    rw [if_neg (by decide)] at hs
    by_cases hlong : ((l.length - j : Nat) : Int) < (N : Int)
    · rw [if_pos hlong] at hs
      have HS := Lib.hid hs
      clear hs hpl hin
      go_enter Tryd.func18, Tryd.ntmps18
      go_wp2_with fail
      refine (num_ok p l k 0 most _ A B h hk hb hE _ HR.out).mono ?_
      rintro e w1 ⟨rfl, h1, h2⟩
      have hE1 := hE.kept h2 (fun r e => by cases e; exact h.1)
      have HL1 := Lib.hid h1
      obtain ⟨hB1, v1, hp1, ho1⟩ := h1
      rw [show ev A 0 = .nilIface from rfl] at hp1
      obtain ⟨c0, c1, c2, f1, f2⟩ := Rd.cells hp1
      have he1 := hE1.1.1
      have hev1 : ev A 1 = .iface 69 (.pointer (some (A 1))) := rfl
      go_wp2_with fail
      refine (left_any p l j _ B _ HL1.out hat).mono ?_
      rintro e w2 ⟨rfl, m, rfl⟩
      go_wp2
      go_ret
      rw [HS.out]
      obtain ⟨x1, x2, x3⟩ := Rd.put (w := w1.drewN m) hp1 ho1 1 (.int .i64 (k : Int))
      obtain ⟨y1, y2, y3⟩ := Rd.put (w := (w1.drewN m).setCell ⟨p, 1, none⟩ (.int .i64 (k : Int))) x1 x2 2 (ev A 1)
      exact ⟨rfl, ⟨hB1, _, y1, y2⟩, grown_trans h2 (grown_trans (grown_drewN (grown_refl w1 (some p)) m) (grown_trans x3 y3))⟩
    · rw [if_neg hlong] at hs
      have HS := Lib.hid hs
      clear hs hpl hin
      go_enter Tryd.func18, Tryd.ntmps18
      go_wp2_with fail
      refine (num_ok p l k 0 most _ A B h hk hb hE _ HR.out).mono ?_
      rintro e w1 ⟨rfl, h1, h2⟩
      have hE1 := hE.kept h2 (fun r e => by cases e; exact h.1)
      have HL1 := Lib.hid h1
      obtain ⟨hB1, v1, hp1, ho1⟩ := h1
      rw [show ev A 0 = .nilIface from rfl] at hp1
      have hsl := bytes_size ho1.bytes
      unfold maxLen at hsl
      have key : ∃ a cap, v1 = .slice a l.length cap ∧ l.length ≤ cap ∧ cap ≤ 9223372036854775807 ∧ (cap ≠ j → ∃ g, a = some ⟨g, 0, none⟩) ∧ Bytes w1 (.slice (if cap = j then a else a.map (Addr.add · j)) (l.length - j) (cap - j)) (l.drop j) := by
        have hB := ho1.bytes
        obtain ⟨a, cap, hv⟩ := ho1.shape
        subst hv
        have hd := Holds.drop hB j hat
        obtain ⟨a', cap', he, q1, q2, q3⟩ := hB
        simp only [Value.slice.injEq, true_and] at he
        obtain ⟨rfl, rfl⟩ := he
        unfold maxLen at q2
        refine ⟨a, cap, rfl, q1, by omega, fun hne => ?_, hd⟩
        rcases ho1.2 with ⟨e, h0⟩ | ⟨g, c', cur, e, _⟩
        · simp at e; omega
        · simp at e; exact ⟨g, e.1⟩
      obtain ⟨a, cap, rfl, q1, q2, q3, hd⟩ := key
      obtain ⟨c0, c1, c2, f1, f2⟩ := Rd.cells hp1
      have hlen : (l.drop j).length = l.length - j := List.length_drop
      rw [← hlen] at hd
      have hd2 := Holds.cut hd N (by omega)
      clear hd hlen
      by_cases hck : cap = j
      · rw [if_pos hck, show cap - j = 0 by omega] at hd2
        obtain rfl : N = 0 := by omega
        have hcv := fun W : World => fun hg : w1.grownBy W none => convert_any W _ _ (hd2.grown hg)
        have hbd : j + 0 ≤ l.length := by omega
        go_wp2_with fail
        refine (left_any p l j _ B _ HL1.out hat).mono ?_
        rintro e w2 ⟨rfl, m, rfl⟩
        have hc2 := fun n => hcv (w1.drewN n) (grown_drewN (grown_refl w1 none) n)
        clear hcv
        go_wp2
        go_quiet (fail)
        go_wp2
        go_ret
        obtain ⟨x1, x2, x3⟩ := Rd.put (w := w1.drewN (m + nq)) hp1 ho1 1 (.int .i64 (j : Int))
        rw [HS.out]
        refine ⟨rfl, ⟨hB1, _, x1, x2⟩, grown_trans h2 (grown_trans (grown_drewN (grown_refl w1 (some p)) (m + nq)) x3)⟩
      · rw [if_neg hck] at hd2
        obtain ⟨g, rfl⟩ := q3 hck
        simp only [Option.map_some, Addr.add_lit, Nat.zero_add] at hd2
        have hcv := fun W : World => fun hg : w1.grownBy W none => convert_any W _ _ (hd2.grown hg)
        have hbd : j + N ≤ l.length := by omega
        go_wp2_with fail
        refine (left_any p l j _ B _ HL1.out hat).mono ?_
        rintro e w2 ⟨rfl, m, rfl⟩
        have hc2 := fun n => hcv (w1.drewN n) (grown_drewN (grown_refl w1 none) n)
        clear hcv
        go_wp2
        go_quiet (fail)
        go_wp2
        go_ret
        obtain ⟨x1, x2, x3⟩ := Rd.put (w := w1.drewN (m + nq)) hp1 ho1 1 (.int .i64 ((j : Int) + (N : Int)))
        rw [HS.out]
        refine ⟨rfl, ⟨hB1, _, x1, x2⟩, grown_trans h2 (grown_trans (grown_drewN (grown_refl w1 (some p)) (m + nq)) x3)⟩
  · rw [if_pos hcd] at hs
    obtain ⟨rfl, rfl⟩ := hpl hcd
    have HS := Lib.hid hs
    have hev : ev A cd = .iface 69 (.pointer (some (A cd))) := if_neg hcd
    have HEV := Lib.hid hev
    clear hs hev hpl hin
    go_enter Tryd.func18, Tryd.ntmps18
    go_wp2_with fail
    refine (num_ok p l j 0 most _ A B h hk hb hE _ HR.out).mono ?_
    rintro e w1 ⟨rfl, h1, h2⟩
    obtain ⟨hB1, v1, hp1, ho1⟩ := h1
    have hp2 := hp1
    rw [HEV.out] at hp2
    obtain ⟨c0, c1, c2, f1, f2⟩ := Rd.cells hp2
    have HP1 := Lib.hid hp1
    clear hp1
    go_wp2
    go_ret
    rw [HS.out]
    exact ⟨rfl, ⟨hB1, v1, HP1.out, ho1⟩, h2⟩

theorem text_bad (p : Nat) (l : List Int) (k : Nat) (most : Int) (w : World) (A : Nat → Addr) (B c : Nat) (h : Rd w B p l k (ev A c)) (hc : c ≠ 0) :
    Calls Tryd.prog 18 #[.pointer (some ⟨p, 0, none⟩), .int .i64 most] w fun e w' => e = .returned (.string ByteArray.empty) ∧ w = w' := by
  have h' := Lib.hid h
  obtain ⟨hB, v, hp, ho⟩ := h
  have hev : ev A c = .iface 69 (.pointer (some (A c))) := if_neg hc
  rw [hev] at hp
  obtain ⟨c0, c1, c2, f1, f2⟩ := Rd.cells hp
  clear hev
  go_enter Tryd.func18, Tryd.ntmps18
  go_wp2_with fail
  refine (num_bad p l k 0 most _ A B c h'.out hc).mono ?_
  rintro e w1 ⟨rfl, rfl⟩
  go_wp2
  go_ret
  exact ⟨rfl, rfl⟩
end Go.Proofs.YtmacbafkbhigcaaDoor
