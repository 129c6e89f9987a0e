/- The reader of numbers and texts: what it holds, each of its calls. -/
import Derived.Test.YtpeocdcciecpoaaDoorPut
import Derived.Test.YtpeocdcciecpoaaDoorErr
namespace Go.Proofs.YtpeocdcciecpoaaDoor
open Go.RowKit

/-- The reader at block p: its own copy of the bytes l, its place, its first error. -/
def Rd (w : World) (B p : Nat) (l : List Int) (at' : Nat) (ev : Value) : Prop :=
  B ≤ p ∧ ∃ v, w.heap[p]? = some (.cells #[v, .int .i64 (at' : Int), ev] 126 (0, 0)) ∧ Own w B v l

theorem Rd.lt {w : World} {B p : Nat} {l : List Int} {k : Nat} {ev : Value} (h : Rd w B p l k ev) : p < w.heap.size := by
  obtain ⟨_, v, hp, _⟩ := h
  exact (Array.getElem?_eq_some_iff.1 hp).1
theorem Rd.grown {w w' : World} {B p : Nat} {l : List Int} {k : Nat} {ev : Value} (h : Rd w B p l k ev) (hg : w.grownBy w' none) : Rd w' B p l k ev := by
  have hlt := h.lt
  obtain ⟨hB, v, hp, ho⟩ := h
  exact ⟨hB, v, by rw [hg.block p hlt (by simp)]; exact hp, ho.kept hg (fun r e => by cases e)⟩
/-- The three cells of a reader. -/
theorem Rd.cells {w : World} {p : Nat} {v a e : Value} (hp : w.heap[p]? = some (.cells #[v, a, e] 126 (0, 0))) :
    w.cell? ⟨p, 0, none⟩ = some v ∧ w.cell? ⟨p, 1, none⟩ = some a ∧ w.cell? ⟨p, 2, none⟩ = some e ∧ w.frozen? ⟨p, 1, none⟩ = false ∧ w.frozen? ⟨p, 2, none⟩ = false := by
  refine ⟨?_, ?_, ?_, ?_, ?_⟩
  · rw [cell_of_row w p 0 _ _ _ hp]; rfl
  · rw [cell_of_row w p 1 _ _ _ hp]; rfl
  · rw [cell_of_row w p 2 _ _ _ hp]; rfl
  · exact frozen_of_row w p 1 _ _ hp
  · exact frozen_of_row w p 2 _ _ hp

set_option maxRecDepth 100000 in
theorem new_any (v : Value) (l : List Int) (w : World) (h : Bytes w v l) (hr : l.length ≤ 140737488355328) :
    Calls Tryd.prog 74 #[v] w (Gives fun u w' => ∃ p, u = .pointer (some ⟨p, 0, none⟩) ∧ Rd w' w.heap.size p l 0 .nilIface ∧ w.grownBy w' none) := by
  obtain ⟨a, cap, rfl, h1, h2, h3⟩ := h
  unfold maxLen at h2
  obtain ⟨Z, hZ, hmk⟩ := make_more w l.length l.length (by omega) (by omega) (l.length : Int) rfl
  have HZ := Lib.hid hZ
  clear hZ
  go_enter Tryd.func74, Tryd.ntmps74
  go_wp2_with (first | (with_reducible refine wpList_copy_splice rfl (.tmp 7) (.tmp 8) 30 30 rfl 5 Tryd.underlying30 sizeU8 _ _ _ _ _ _ rfl rfl w.heap.size 0 Z 5 ?c1 (u8s l) ?c2 ?c3 ?c4 (u8s_one l) w.heap.size w ?c5 (Nat.le_refl _) ?_))
  case c1 => exact heap_alloc_new w _
  case c2 => simp
  case c3 =>
    intro h0
    obtain ⟨b, off, rfl, hc⟩ := h3 (by simpa using h0)
    have key : ∀ j u, (u8s l)[j]? = some u → (w.alloc (.cells Z.toArray 5)).cell? ((⟨b, off, none⟩ : Addr).add j) = some u := ?_
    · first | exact ⟨rfl, _, rfl, key⟩ | exact ⟨_, rfl, key⟩
    intro j u hj
    have hjl : j < l.length := by have := (List.getElem?_eq_some_iff.1 hj).1; simpa using this
    have e : (u8s l)[j]? = some (.int .u8 (l.getD j 0)) := by simp [u8s, hjl]
    rw [e] at hj
    obtain rfl := Option.some.inj hj
    have hlt := World.block_lt_of_cell? w _ (hc j hjl)
    rw [Addr.add_lit, World.cell?_alloc_lt _ _ _ hlt]
    exact hc j hjl
  case c4 => have := HZ.out; simp; omega
  case c5 => exact (Below.refl _ _).alloc (Nat.le_refl _) _
  · intro w2 hg2 hb2
    have hown0 : Own w2 w.heap.size (.slice (some ⟨w.heap.size, 0, none⟩) l.length l.length) l :=
      own_of_heap hg2.out (Nat.le_refl _) rfl (by rw [length_splice _ _ _ (by have := HZ.out; simp; omega)]; exact HZ.out) (by omega) (by unfold maxLen; omega) (by simp [splice])
    have hgr0 : w.grownBy w2 none := grown_below hb2
    have HO0 := Lib.hid hown0
    clear hg2 hown0
    go_wp2
    go_ret
    exact gives ⟨w2.heap.size, rfl, ⟨hgr0.size, _, heap_alloc_new w2 _, HO0.out.kept (World.grownBy_alloc w2 _ none) (fun r e => by cases e)⟩, grown_trans hgr0 (World.grownBy_alloc w2 _ none)⟩

theorem unzigzag_any (u : Nat) (w : World) (h1 : u < 18446744073709551616) :
    Calls Tryd.prog 94 #[.int .u64 u] w fun e w' => e = .returned (.int .i64 (Wm.unzz u)) ∧ w = w' := by
  have hz := Lib.hid (Wm.unzz_walk u h1)
  go_enter Tryd.func94, Tryd.ntmps94
  go_wp2
  go_ret
  refine ⟨?_, rfl⟩
  show Ending.returned (.int .i64 _) = _
  rw [hz.out]

set_option maxRecDepth 100000 in
theorem number_any (v : Value) (l : List Int) (w : World) (A : Nat → Addr) (B : Nat) (h : Bytes w v l) (hb : Wm.Byte l) (hE : E3 w A B) (r : Int × Nat × Nat) (hr : r = Wm.numF 0 0 l) :
    Calls Tryd.prog 87 #[v] w fun e w' => e = .returned (.tuple #[.int .i64 r.1, .int .i64 (r.2.1 : Int), ev A r.2.2]) ∧ Drawn w w' := by
  obtain ⟨a, cap, rfl, h1, h2, h3⟩ := h
  unfold maxLen at h2
  obtain ⟨⟨e1, _⟩, ⟨e2, _⟩, _⟩ := hE
  have HR := Lib.hid hr
  clear hr
  go_enter Tryd.func87, Tryd.ntmps87
  go_wp2
  go_loop [5, 10] (fun u i => ∃ k U : Nat, k ≤ l.length ∧ k ≤ 9 ∧ i = .int .i64 k ∧ u = .int .u64 U ∧ U < 2 ^ (7 * k) ∧ Wm.numF k U (l.drop k) = Wm.numF 0 0 l) (fun _ i => l.length - (intOf i).toNat)
  case atStart => exact ⟨0, 0, by omega, by omega, rfl, rfl, by simp, by simp⟩
  case round =>
    obtain ⟨k, U, hk, hk9, rfl, rfl, hU, hn⟩ := hrel
    have HU := Lib.hid hU
    clear hU
    by_cases hlt : k < l.length
    · obtain ⟨b, off, rfl, hc⟩ := h3 (by omega)
      obtain ⟨x, hx⟩ : ∃ x, x = l.getD k 0 := ⟨_, rfl⟩
      have hcell := hc k hlt
      rw [← hx] at hcell
      have hd : l.drop k = x :: l.drop (k + 1) := by rw [hx, List.drop_eq_getElem_cons hlt]; simp [hlt]
      have hxb := hb x (by rw [hx]; simp [hlt])
      rw [hd] at hn
      clear hd hx hc h3
      by_cases t1 : k = 9 ∧ 1 < x
      · obtain ⟨hk9', hx1⟩ := t1
        have HF : Hid (r = (0, 0, 2)) := by
          show _ = _; rw [HR.out, ← hn]; show (if _ then _ else _) = _; rw [if_pos (by omega)]
        subst hk9'
        clear hn
        go_wp2
        go_quiet (fail)
        go_wp2
        go_ret3
        exact ⟨by rw [HF.out]; rfl, _, rfl⟩
      · by_cases t2 : 0 < k ∧ x = 0
        · obtain ⟨hk0, hx0⟩ := t2
          have HF : Hid (r = (0, 0, 2)) := by
            show _ = _; rw [HR.out, ← hn]; show (if _ then _ else _) = _; rw [if_pos (by omega)]
          subst hx0
          clear hn t1
          go_wp2
          all_goals
            go_quiet (fail)
            go_wp2
            go_ret3
            exact ⟨by rw [HF.out]; rfl, _, rfl⟩
        · by_cases t3 : x < 128
          · have HF : Hid (r = (Wm.unzz (U + (x % 128).toNat * 2 ^ (7 * k)), k + 1, 0)) := by
              show _ = _; rw [HR.out, ← hn]; show (if _ then _ else if _ then _ else _) = _; rw [if_neg (by omega), if_pos t3]
            clear hn
            have HS := Lib.hid (Wm.or_small k U x hk9 HU.out hxb.1 hxb.2 (by omega)).2
            rcases (show k = 9 ∨ k = 0 ∨ (0 < k ∧ k < 9) by omega) with hk' | hk' | hk'
            · subst hk'
              have hx1 : ¬ 1 < x := by omega
              have hx0 : ¬ x = 0 := by omega
              clear t1 t2
              obtain ⟨V, hV⟩ : ∃ V, U + (x % 128).toNat * 2 ^ (7 * 9) = V := ⟨_, rfl⟩
              rw [hV] at HS HF
              have HV := Lib.hid hV
              clear hV
              go_wp2_with fail
              rw [Wm.or_code9 U x HU.out hxb.1 (by omega), HV.out]
              refine (unzigzag_any _ _ HS.out).mono ?_
              rintro e w' ⟨rfl, rfl⟩
              go_wp2
              go_ret3
              exact ⟨by rw [HF.out]; rfl, 0, rfl⟩
            · subst hk'
              rw [Nat.add_zero] at hcell
              clear t1 t2
              obtain ⟨V, hV⟩ : ∃ V, U + (x % 128).toNat * 2 ^ (7 * 0) = V := ⟨_, rfl⟩
              rw [hV] at HS HF
              have HV := Lib.hid hV
              clear hV
              go_wp2_with fail
              rw [Wm.or_code0 U x HU.out hxb.1 hxb.2, HV.out]
              refine (unzigzag_any _ _ HS.out).mono ?_
              rintro e w' ⟨rfl, rfl⟩
              go_wp2
              go_ret3
              exact ⟨by rw [HF.out]; rfl, 0, rfl⟩
            · have hx0 : ¬ x = 0 := by omega
              have hk1 : ¬ k = 9 := by omega
              clear t1 t2
              obtain ⟨V, hV⟩ : ∃ V, U + (x % 128).toNat * 2 ^ (7 * k) = V := ⟨_, rfl⟩
              rw [hV] at HS HF
              have HV := Lib.hid hV
              clear hV
              go_wp2_with fail
              rw [Wm.or_code k U x hk9 HU.out hxb.1 hxb.2 (by omega), HV.out]
              refine (unzigzag_any _ _ HS.out).mono ?_
              rintro e w' ⟨rfl, rfl⟩
              go_wp2
              go_ret3
              exact ⟨by rw [HF.out]; rfl, 0, rfl⟩
          · have HN : Hid (Wm.numF (k + 1) (U + (x % 128).toNat * 2 ^ (7 * k)) (l.drop (k + 1)) = Wm.numF 0 0 l) := by
              show _ = _; rw [← hn]; symm; show (if _ then _ else if _ then _ else _) = _; rw [if_neg (by omega), if_neg t3]
            clear hn
            have HS := Lib.hid (Wm.or_small k U x hk9 HU.out hxb.1 hxb.2 (by omega)).1
            rcases (show k = 0 ∨ (0 < k ∧ k < 9) by omega) with hk' | hk'
            · subst hk'
              rw [Nat.add_zero] at hcell
              clear t1 t2
              obtain ⟨V, hV⟩ : ∃ V, U + (x % 128).toNat * 2 ^ (7 * 0) = V := ⟨_, rfl⟩
              rw [hV] at HS HN
              have HV := Lib.hid hV
              clear hV
              go_wp2
              rw [Wm.or_code0 U x HU.out hxb.1 hxb.2, HV.out]
              go_round
              case rel => exact ⟨1, _, by omega, by omega, rfl, rfl, HS.out, HN.out⟩
              case measure => simp [intOf]; omega
            · have hx0 : ¬ x = 0 := by omega
              have hk1 : ¬ k = 9 := by omega
              clear t1 t2
              obtain ⟨V, hV⟩ : ∃ V, U + (x % 128).toNat * 2 ^ (7 * k) = V := ⟨_, rfl⟩
              rw [hV] at HS HN
              have HV := Lib.hid hV
              clear hV
              go_wp2
              rw [Wm.or_code k U x hk9 HU.out hxb.1 hxb.2 (by omega), HV.out]
              go_round
              case rel => exact ⟨k + 1, _, by omega, by omega, by go_num, rfl, HS.out, HN.out⟩
              case measure => simp [intOf]; omega
    · have hd : l.drop k = [] := List.drop_eq_nil_of_le (by omega)
      rw [hd] at hn
      have HF : Hid (r = (0, 0, 1)) := by show _ = _; rw [HR.out, ← hn]; rfl
      clear hd hn h3
      go_wp2
      go_quiet (fail)
      go_wp2
      go_ret3
      exact ⟨by rw [HF.out]; rfl, _, rfl⟩

/-- One cell of a reader is written. -/
theorem Rd.put {w : World} {B p : Nat} {l : List Int} {v x e : Value} (hp : w.heap[p]? = some (.cells #[v, x, e] 126 (0, 0))) (ho : Own w B v l) (j : Nat) (u : Value) :
    (w.setCell ⟨p, j, none⟩ u).heap[p]? = some (.cells (#[v, x, e].setIfInBounds j u) 126 (0, 0)) ∧ Own (w.setCell ⟨p, j, none⟩ u) B v l ∧ w.grownBy (w.setCell ⟨p, j, none⟩ u) (some p) := by
  have hg : w.grownBy (w.setCell ⟨p, j, none⟩ u) (some p) := ⟨rfl, rfl, rfl, by simp, fun k _ hk => heap_setCell_other w ⟨p, j, none⟩ k u (fun e => hk (by simp [e]))⟩
  exact ⟨heap_setCell_same w p j _ _ u hp, ho.kept hg (fun r e => by cases e; exact ho.apart hp (by decide)), hg⟩

set_option maxHeartbeats 1000000 in
set_option maxRecDepth 100000 in
theorem num_ok (p : Nat) (l : List Int) (k : Nat) (low high : Int) (w : World) (A : Nat → Addr) (B : Nat) (h : Rd w B p l k .nilIface) (hk : k ≤ l.length) (hb : Wm.Byte l) (hE : E3 w A B)
    (s : Int × Nat × Nat) (hs : s = Wm.numS l k low high) :
    Calls Tryd.prog 69 #[.pointer (some ⟨p, 0, none⟩), .int .i64 low, .int .i64 high] w fun e w' => e = .returned (.int .i64 s.1) ∧ Rd w' B p l s.2.1 (ev A s.2.2) ∧ w.grownBy w' (some p) := by
  obtain ⟨hB, v, hp, ho⟩ := h
  obtain ⟨n0, sz, cd, hr⟩ : ∃ n0 sz cd, (n0, sz, cd) = Wm.numF 0 0 (l.drop k) := ⟨_, _, _, rfl⟩
  have hdb : Wm.Byte (l.drop k) := fun x hx => hb x (List.mem_of_mem_drop hx)
  have hsize := Wm.numF_size (l.drop k) 0 0
  rw [← hr] at hsize
  simp only [Nat.zero_add, List.length_drop] at hsize
  rw [Wm.numS, ← hr] at hs
  simp only at hs
  have HR := Lib.hid hr
  clear hr
  have hsl := bytes_size ho.bytes
  unfold maxLen at hsl
  have key : ∃ a cap, v = .slice a l.length cap ∧ l.length ≤ cap ∧ cap ≤ 9223372036854775807 ∧ (cap ≠ k → ∃ g, a = some ⟨g, 0, none⟩) ∧ Bytes w (.slice (if cap = k then a else a.map (Addr.add · k)) (l.length - k) (cap - k)) (l.drop k) := by
    have hB := ho.bytes
    obtain ⟨a, cap, hv⟩ := ho.shape
    subst hv
    have hd := Holds.drop hB k hk
    obtain ⟨a', cap', he, q1, q2, q3⟩ := hB
    simp only [Value.slice.injEq, true_and] at he
    obtain ⟨rfl, rfl⟩ := he
    unfold maxLen at q2
    refine ⟨a, cap, rfl, q1, by omega, fun hne => ?_, hd⟩
    rcases ho.2 with ⟨e, h0⟩ | ⟨g, c', cur, e, _⟩
    · simp at e; omega
    · simp at e; exact ⟨g, e.1⟩
  obtain ⟨a, cap, rfl, q1, q2, q3, hd⟩ := key
  obtain ⟨c0, c1, c2, f1, f2⟩ := Rd.cells hp
  have hcall : ∀ (n : Nat) (u : Value), Bytes w u (l.drop k) → Calls Tryd.prog 87 #[u] (w.drewN n) fun e w' => e = .returned (.tuple #[.int .i64 n0, .int .i64 (sz : Int), ev A cd]) ∧ ∃ m, w' = (w.drewN n).drewN m :=
    fun n u hu => number_any u (l.drop k) (w.drewN n) A B (hu.grown (grown_drewN (grown_refl w none) n)) hdb (hE.kept (grown_drewN (grown_refl w none) n) (fun r e => by cases e)) (n0, sz, cd) HR.out
  have HC := Lib.hid hcall
  have HO := Lib.hid ho
  clear hcall hdb ho
  by_cases hcd : cd = 0
  · subst hcd
    have HSZ := Lib.hid (hsize rfl)
    clear hsize
    have hev : ev A 0 = .nilIface := rfl
    by_cases hrange : n0 < low ∨ high < n0
    · rw [if_neg (by decide), if_pos hrange] at hs
      have HS := Lib.hid hs
      clear hs
      have he3 := hE.2.2.1
      have hev3 : ev A 3 = .iface 137 (.pointer (some (A 3))) := rfl
      by_cases hlo : n0 < low
      · clear hrange
        by_cases hck : cap = k
        · rw [if_pos hck, show cap - k = 0 by omega] at hd
          go_enter Tryd.func69, Tryd.ntmps69
          go_wp2
          go_quiet ((go_at_call 87; exact Calls.quiet_of (HC.out _ _ hd)))
          go_wp2
          go_ret
          obtain ⟨x1, x2, x3⟩ := Rd.put (w := w.drewN nq) hp HO.out 2 (ev A 3)
          rw [HS.out]
          exact ⟨rfl, ⟨hB, _, x1, x2⟩, grown_trans (grown_drewN (grown_refl w (some p)) nq) x3⟩
        · rw [if_neg hck] at hd
          obtain ⟨g, rfl⟩ := q3 hck
          simp only [Option.map_some, Addr.add_lit, Nat.zero_add] at hd
          go_enter Tryd.func69, Tryd.ntmps69
          go_wp2
          go_quiet ((go_at_call 87; exact Calls.quiet_of (HC.out _ _ hd)))
          go_wp2
          go_ret
          obtain ⟨x1, x2, x3⟩ := Rd.put (w := w.drewN nq) hp HO.out 2 (ev A 3)
          rw [HS.out]
          exact ⟨rfl, ⟨hB, _, x1, x2⟩, grown_trans (grown_drewN (grown_refl w (some p)) nq) x3⟩
      · have hhi : high < n0 := by omega
        clear hrange
        by_cases hck : cap = k
        · rw [if_pos hck, show cap - k = 0 by omega] at hd
          go_enter Tryd.func69, Tryd.ntmps69
          go_wp2
          go_quiet ((go_at_call 87; exact Calls.quiet_of (HC.out _ _ hd)))
          go_wp2
          go_ret
          obtain ⟨x1, x2, x3⟩ := Rd.put (w := w.drewN nq) hp HO.out 2 (ev A 3)
          rw [HS.out]
          exact ⟨rfl, ⟨hB, _, x1, x2⟩, grown_trans (grown_drewN (grown_refl w (some p)) nq) x3⟩
        · rw [if_neg hck] at hd
          obtain ⟨g, rfl⟩ := q3 hck
          simp only [Option.map_some, Addr.add_lit, Nat.zero_add] at hd
          go_enter Tryd.func69, Tryd.ntmps69
          go_wp2
          go_quiet ((go_at_call 87; exact Calls.quiet_of (HC.out _ _ hd)))
          go_wp2
          go_ret
          obtain ⟨x1, x2, x3⟩ := Rd.put (w := w.drewN nq) hp HO.out 2 (ev A 3)
          rw [HS.out]
          exact ⟨rfl, ⟨hB, _, x1, x2⟩, grown_trans (grown_drewN (grown_refl w (some p)) nq) x3⟩
    · rw [if_neg (by decide), if_neg hrange] at hs
      have hlo : ¬ n0 < low := by omega
      have hhi : ¬ high < n0 := by omega
      have HS := Lib.hid hs
      have hbd : k + sz ≤ 9223372036854775807 := by have := HSZ.out; omega
      clear hs hrange
      by_cases hck : cap = k
      · rw [if_pos hck, show cap - k = 0 by omega] at hd
        go_enter Tryd.func69, Tryd.ntmps69
        go_wp2
        go_quiet ((go_at_call 87; exact Calls.quiet_of (HC.out _ _ hd)))
        go_wp2
        go_ret
        obtain ⟨x1, x2, x3⟩ := Rd.put (w := w.drewN nq) hp HO.out 1 (.int .i64 ((k + sz : Nat) : Int))
        rw [HS.out]
        exact ⟨rfl, ⟨hB, _, x1, x2⟩, grown_trans (grown_drewN (grown_refl w (some p)) nq) x3⟩
      · rw [if_neg hck] at hd
        obtain ⟨g, rfl⟩ := q3 hck
        simp only [Option.map_some, Addr.add_lit, Nat.zero_add] at hd
        go_enter Tryd.func69, Tryd.ntmps69
        go_wp2
        go_quiet ((go_at_call 87; exact Calls.quiet_of (HC.out _ _ hd)))
        go_wp2
        go_ret
        obtain ⟨x1, x2, x3⟩ := Rd.put (w := w.drewN nq) hp HO.out 1 (.int .i64 ((k + sz : Nat) : Int))
        rw [HS.out]
        exact ⟨rfl, ⟨hB, _, x1, x2⟩, grown_trans (grown_drewN (grown_refl w (some p)) nq) x3⟩
  · rw [if_pos hcd] at hs
    have HS := Lib.hid hs
    have hev : ev A cd = .iface 137 (.pointer (some (A cd))) := if_neg hcd
    clear hs hsize
    by_cases hck : cap = k
    · rw [if_pos hck, show cap - k = 0 by omega] at hd
      go_enter Tryd.func69, Tryd.ntmps69
      go_wp2
      go_quiet ((go_at_call 87; exact Calls.quiet_of (HC.out _ _ hd)))
      go_wp2
      go_ret
      obtain ⟨x1, x2, x3⟩ := Rd.put (w := w.drewN nq) hp HO.out 2 (ev A cd)
      rw [HS.out]
      rw [← hev]
      exact ⟨rfl, ⟨hB, _, x1, x2⟩, grown_trans (grown_drewN (grown_refl w (some p)) nq) x3⟩
    · rw [if_neg hck] at hd
      obtain ⟨g, rfl⟩ := q3 hck
      simp only [Option.map_some, Addr.add_lit, Nat.zero_add] at hd
      go_enter Tryd.func69, Tryd.ntmps69
      go_wp2
      go_quiet ((go_at_call 87; exact Calls.quiet_of (HC.out _ _ hd)))
      go_wp2
      go_ret
      obtain ⟨x1, x2, x3⟩ := Rd.put (w := w.drewN nq) hp HO.out 2 (ev A cd)
      rw [HS.out]
      rw [← hev]
      exact ⟨rfl, ⟨hB, _, x1, x2⟩, grown_trans (grown_drewN (grown_refl w (some p)) nq) x3⟩
end Go.Proofs.YtpeocdcciecpoaaDoor
