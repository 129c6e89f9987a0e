/- The document's table: what lies in memory, as plain data; its Hear, Tick, Alive. -/
import Derived.Test.YtgpdpembddajhaaHear
import Derived.Test.YtgpdpembddajhaaTick
import Derived.Test.YtgpdpembddajhaaAlive
import Derived.BigRegion
namespace Go.Proofs.Ytgpdpembddajhaa
open Go.RowKit

/-- The cells of the document's table. -/
structure RC (cs : Array Value) (f : Nat → Pe) (s : Int) : Prop where
  size : cs.size = 81
  li : ∀ i, i < 16 → cs[i]? = some (.int .i64 (f i).li)
  kn : ∀ i, i < 16 → cs[16 + i]? = some (.bool (f i).kn)
  he : ∀ i, i < 16 → cs[32 + i]? = some (.bool (hd (f i)))
  ou : ∀ i, i < 16 → cs[48 + i]? = some (.bool (f i).ou)
  ag : ∀ i, i < 16 → cs[64 + i]? = some (.int .i64 (f i).ag)
  seen : cs[80]? = some (.int .i64 s)
def Rl (w : World) (q : Nat) (f : Nat → Pe) (s : Int) : Prop := ∃ cs, w.heap[q]? = some (.cells cs 45 (0, 0)) ∧ RC cs f s
/-- Who is not known has life 0. -/
def KnOk (f : Nat → Pe) : Prop := ∀ i, i < 16 → (f i).kn = false → (f i).li = 0
theorem Rl.fr {w w' : World} {p : Nat} {f : Nat → Pe} {s : Int} {S : List Nat} (h : Rl w p f s) (hf : Fr w w' S) (hp : p ∉ S) : Rl w' p f s :=
  h.imp fun _ hh => ⟨hf.heap hh.1 hp, hh.2⟩
theorem Rl.lt {w : World} {p : Nat} {f : Nat → Pe} {s : Int} (h : Rl w p f s) : p < w.heap.size := by
  obtain ⟨cs, h1, _⟩ := h; exact size_of_row h1
theorem Rl.fz {w : World} {p : Nat} {f : Nat → Pe} {s : Int} (h : Rl w p f s) (j : Nat) : w.frozen? ⟨p, j, none⟩ = false := by
  obtain ⟨cs, h1, h2⟩ := h
  exact frozen_of_row _ _ _ _ _ h1
theorem Rl.at {w : World} {q : Nat} {f : Nat → Pe} {s : Int} (h : Rl w q f s) (i : Nat) (hi : i < 16) :
    w.cell? ⟨q, i, none⟩ = some (.int .i64 (f i).li) ∧ w.cell? ⟨q, 16 + i, none⟩ = some (.bool (f i).kn) ∧ w.cell? ⟨q, 32 + i, none⟩ = some (.bool (hd (f i))) ∧ w.cell? ⟨q, 48 + i, none⟩ = some (.bool (f i).ou) ∧ w.cell? ⟨q, 64 + i, none⟩ = some (.int .i64 (f i).ag) := by
  obtain ⟨cs, h1, h2⟩ := h
  exact ⟨by rw [cell_of_row w q _ _ _ _ h1, h2.li i hi], by rw [cell_of_row w q _ _ _ _ h1, h2.kn i hi], by rw [cell_of_row w q _ _ _ _ h1, h2.he i hi], by rw [cell_of_row w q _ _ _ _ h1, h2.ou i hi], by rw [cell_of_row w q _ _ _ _ h1, h2.ag i hi]⟩
theorem Rl.sn {w : World} {q : Nat} {f : Nat → Pe} {s : Int} (h : Rl w q f s) : w.cell? ⟨q, 80, none⟩ = some (.int .i64 s) := by
  obtain ⟨cs, h1, h2⟩ := h
  rw [cell_of_row w q _ _ _ _ h1, h2.seen]
theorem Rl.congr {w : World} {p : Nat} {f g : Nat → Pe} {s : Int} (h : Rl w p f s) (he : ∀ i, i < 16 → f i = g i) : Rl w p g s := by
  obtain ⟨cs, h1, h2⟩ := h
  exact ⟨cs, h1, h2.size, fun i hi => by rw [← he i hi]; exact h2.li i hi, fun i hi => by rw [← he i hi]; exact h2.kn i hi, fun i hi => by rw [← he i hi]; exact h2.he i hi, fun i hi => by rw [← he i hi]; exact h2.ou i hi, fun i hi => by rw [← he i hi]; exact h2.ag i hi, h2.seen⟩
theorem get_set (cs : Array Value) (a b : Nat) (x : Value) (ha : a < cs.size) : (cs.setIfInBounds a x)[b]? = if b = a then some x else cs[b]? := by
  by_cases e : b = a
  · subst e; rw [if_pos rfl, Array.getElem?_setIfInBounds_self_of_lt ha]
  · rw [if_neg e, Array.getElem?_setIfInBounds_ne (by omega)]
/-- What the document's Hear writes. -/
theorem Rl.hear {w : World} {q : Nat} {f : Nat → Pe} {s : Int} (h : Rl w q f s) (k : Nat) (hk : k < 16) (l : Int) (o : Bool) (t : Int) :
    Rl ((((((w.setCell ⟨q, 16 + k, none⟩ (.bool true)).setCell ⟨q, k, none⟩ (.int .i64 l)).setCell ⟨q, 32 + k, none⟩ (.bool true)).setCell ⟨q, 48 + k, none⟩ (.bool o)).setCell ⟨q, 64 + k, none⟩ (.int .i64 0)).setCell ⟨q, 80, none⟩ (.int .i64 t)) q (upP f k ⟨true, o, l, 0⟩) t := by
  obtain ⟨cs, h1, h2⟩ := h
  have hs := h2.size
  have g1 := heap_setCell_same _ _ (16 + k) _ _ (.bool true) h1
  have g2 := heap_setCell_same _ _ k _ _ (.int .i64 l) g1
  have g3 := heap_setCell_same _ _ (32 + k) _ _ (.bool true) g2
  have g4 := heap_setCell_same _ _ (48 + k) _ _ (.bool o) g3
  have g5 := heap_setCell_same _ _ (64 + k) _ _ (.int .i64 0) g4
  have g6 := heap_setCell_same _ _ 80 _ _ (.int .i64 t) g5
  refine ⟨_, g6, by simpa using hs, fun i hi => ?_, fun i hi => ?_, fun i hi => ?_, fun i hi => ?_, fun i hi => ?_, ?_⟩
  all_goals
    rw [get_set _ _ _ _ (by simp; omega), get_set _ _ _ _ (by simp; omega), get_set _ _ _ _ (by simp; omega), get_set _ _ _ _ (by simp; omega), get_set _ _ _ _ (by simp; omega), get_set _ _ _ _ (by omega)]
  · by_cases e : i = k
    · subst e
      rw [if_neg (by omega), if_neg (by omega), if_neg (by omega), if_neg (by omega), if_pos rfl]; simp [upP]
    · rw [if_neg (by omega), if_neg (by omega), if_neg (by omega), if_neg (by omega), if_neg (by omega), if_neg (by omega), h2.li i hi]; simp [upP, e]
  · by_cases e : i = k
    · subst e
      rw [if_neg (by omega), if_neg (by omega), if_neg (by omega), if_neg (by omega), if_neg (by omega), if_pos rfl]; simp [upP]
    · rw [if_neg (by omega), if_neg (by omega), if_neg (by omega), if_neg (by omega), if_neg (by omega), if_neg (by omega), h2.kn i hi]; simp [upP, e]
  · by_cases e : i = k
    · subst e
      rw [if_neg (by omega), if_neg (by omega), if_neg (by omega), if_pos rfl]; simp [upP, hd]
    · rw [if_neg (by omega), if_neg (by omega), if_neg (by omega), if_neg (by omega), if_neg (by omega), if_neg (by omega), h2.he i hi]; simp [upP, e]
  · by_cases e : i = k
    · subst e
      rw [if_neg (by omega), if_neg (by omega), if_pos rfl]; simp [upP]
    · rw [if_neg (by omega), if_neg (by omega), if_neg (by omega), if_neg (by omega), if_neg (by omega), if_neg (by omega), h2.ou i hi]; simp [upP, e]
  · by_cases e : i = k
    · subst e
      rw [if_neg (by omega), if_pos rfl]; simp [upP]
    · rw [if_neg (by omega), if_neg (by omega), if_neg (by omega), if_neg (by omega), if_neg (by omega), if_neg (by omega), h2.ag i hi]; simp [upP, e]
  · rw [if_pos rfl]
/-- What a round of the document's Tick writes. -/
theorem Rl.tick {w : World} {q : Nat} {f : Nat → Pe} {s : Int} (h : Rl w q f s) (k : Nat) (hk : k < 16) (hh : hd (f k) = true) :
    Rl ((w.setCell ⟨q, 64 + k, none⟩ (.int .i64 ((f k).ag + 1))).setCell ⟨q, 32 + k, none⟩ (.bool (decide ((f k).ag + 1 ≤ 3)))) q (upP f k ⟨(f k).kn, (f k).ou, (f k).li, (f k).ag + 1⟩) s := by
  obtain ⟨cs, h1, h2⟩ := h
  have hs := h2.size
  have hkn : (f k).kn = true := (Bool.and_eq_true_iff.1 hh).1
  have g1 := heap_setCell_same _ _ (64 + k) _ _ (.int .i64 ((f k).ag + 1)) h1
  have g2 := heap_setCell_same _ _ (32 + k) _ _ (.bool (decide ((f k).ag + 1 ≤ 3))) g1
  refine ⟨_, g2, by simpa using hs, fun i hi => ?_, fun i hi => ?_, fun i hi => ?_, fun i hi => ?_, fun i hi => ?_, ?_⟩
  all_goals
    rw [get_set _ _ _ _ (by simp; omega), get_set _ _ _ _ (by omega)]
  · rw [if_neg (by omega), if_neg (by omega), h2.li i hi]
    by_cases e : i = k
    · subst e; simp [upP]
    · simp [upP, e]
  · rw [if_neg (by omega), if_neg (by omega), h2.kn i hi]
    by_cases e : i = k
    · subst e; simp [upP]
    · simp [upP, e]
  · by_cases e : i = k
    · subst e
      rw [if_pos rfl]; simp [upP, hd, hkn]
    · rw [if_neg (by omega), if_neg (by omega), h2.he i hi]; simp [upP, e]
  · rw [if_neg (by omega), if_neg (by omega), h2.ou i hi]
    by_cases e : i = k
    · subst e; simp [upP]
    · simp [upP, e]
  · by_cases e : i = k
    · subst e
      rw [if_neg (by omega), if_pos rfl]; simp [upP]
    · rw [if_neg (by omega), if_neg (by omega), h2.ag i hi]; simp [upP, e]
  · rw [if_neg (by omega), if_neg (by omega), h2.seen]

theorem rhear_no (q : Nat) (f : Nat → Pe) (s c l n : Int) (o : Bool) (w : World) (h : Rl w q f s) (hK : KnOk f) (hn : ¬ (0 ≤ c ∧ c < 16 ∧ 0 ≤ l ∧ 0 ≤ n ∧ (f c.toNat).li ≤ l)) :
    Calls Try.prog 17 #[.pointer (some ⟨q, 0, none⟩), .int .i64 c, .int .i64 l, .int .i64 n, .bool o] w fun e w' => e = .returned (.bool false) ∧ w = w' := by
  by_cases h0 : c < 0
  · clear h hn hK
    go_enter Try.func17, Try.ntmps17
    go_wp2
    go_ret
    exact ⟨rfl, rfl⟩
  · by_cases h1 : 16 ≤ c
    · clear h hn hK
      go_enter Try.func17, Try.ntmps17
      go_wp2
      go_ret
      exact ⟨rfl, rfl⟩
    · obtain ⟨k, rfl⟩ := Int.eq_ofNat_of_zero_le (show 0 ≤ c by omega)
      obtain ⟨c0, c1, _⟩ := h.at k (by omega)
      rw [Int.toNat_natCast] at hn
      have hk0 := hK k (by omega)
      clear h hK
      by_cases hl : l < 0
      · clear hn c0 c1 hk0
        go_enter Try.func17, Try.ntmps17
        go_wp2
        go_ret
        exact ⟨rfl, rfl⟩
      · by_cases hs : n < 0
        · clear hn c0 c1 hk0
          go_enter Try.func17, Try.ntmps17
          go_wp2
          go_ret
          exact ⟨rfl, rfl⟩
        · have hlt : l < (f k).li := by omega
          have hkn : (f k).kn = true := by
            cases e : (f k).kn with
            | true => rfl
            | false => have := hk0 e; omega
          rw [hkn] at c1
          clear hn hk0 hkn
          go_enter Try.func17, Try.ntmps17
          go_wp2
          go_ret
          exact ⟨rfl, rfl⟩
set_option maxHeartbeats 1000000 in
set_option maxRecDepth 100000 in
theorem rhear_yes (q : Nat) (f : Nat → Pe) (s : Int) (k : Nat) (l n : Int) (o : Bool) (w : World) (h : Rl w q f s) (hk : k < 16) (hl : 0 ≤ l) (hn : 0 ≤ n) (hf : (f k).li ≤ l) :
    Calls Try.prog 17 #[.pointer (some ⟨q, 0, none⟩), .int .i64 (k : Int), .int .i64 l, .int .i64 n, .bool o] w fun e w' => e = .returned (.bool true) ∧ Rl w' q (upP f k ⟨true, o, l, 0⟩) (mx s n) ∧ Fr w w' [q] := by
  obtain ⟨c0, c1, c2, c3, c4⟩ := h.at k hk
  have z0 := h.fz k
  have z1 := h.fz (16 + k)
  have z2 := h.fz (32 + k)
  have z3 := h.fz (48 + k)
  have z4 := h.fz (64 + k)
  have z5 := h.fz 80
  have c5 := h.sn
  have H1 := Lib.hid (fun t => h.hear k hk l o t)
  clear h
  have h1 : ¬ l < (f k).li := by omega
  have h2 : ¬ l < 0 := by omega
  have h3 : ¬ n < 0 := by omega
  have h4 : ¬ (80 : Nat) = k := by omega
  have h5 : ¬ (80 : Nat) = 16 + k := by omega
  have h6 : ¬ (80 : Nat) = 32 + k := by omega
  have h7 : ¬ (80 : Nat) = 48 + k := by omega
  have h8 : ¬ (80 : Nat) = 64 + k := by omega
  clear hf
  cases hkn : (f k).kn
  all_goals
    rw [hkn] at c1
    clear hkn
    go_enter Try.func17, Try.ntmps17
    go_wp2
    all_goals
      go_ret
      refine ⟨rfl, ?_, (((((Fr.setCell w q _ _ (by simp)).trans (Fr.setCell _ q _ _ (by simp))).trans (Fr.setCell _ q _ _ (by simp))).trans (Fr.setCell _ q _ _ (by simp))).trans (Fr.setCell _ q _ _ (by simp))).trans (Fr.setCell _ q _ _ (by simp))⟩
      first
        | (rw [show mx s n = n by unfold mx; omega]; exact H1.out n)
        | (rw [show mx s n = s by unfold mx; omega]; exact H1.out s)

set_option maxHeartbeats 1000000 in
set_option maxRecDepth 100000 in
theorem rtick_any (q : Nat) (f : Nat → Pe) (s : Int) (w : World) (h : Rl w q f s) (hA : AgOk f) :
    Calls Try.prog 18 #[.pointer (some ⟨q, 0, none⟩)] w fun e w' => e = .returned (.tuple #[]) ∧ Rl w' q (tkP f) s ∧ Fr w w' [q] := by
  have HT := Lib.hid h
  have HA := Lib.hid hA
  clear h hA
  go_enter Try.func18, Try.ntmps18
  go_wp2
  go_loopw [2] (fun i wr => ∃ k : Nat, k ≤ 16 ∧ i = .int .i64 k ∧ Rl wr q (tkTo f k) s ∧ Fr w wr [q]) (fun i _ => 16 - (intOf i).toNat)
  case atStart => exact ⟨0, by omega, rfl, HT.out.congr (fun i _ => by simp [tkTo]), Fr.refl _ _⟩
  case round =>
    obtain ⟨k, hk, rfl, ht, hf⟩ := hrel
    have T0 := Lib.hid ht
    have F0 := Lib.hid hf
    clear ht hf
    by_cases hlt : k < 16
    · obtain ⟨_, _, c2, _, c4⟩ := T0.out.at k hlt
      rw [tkTo_at] at c2 c4
      obtain ⟨x, hx⟩ : ∃ x, x = f k := ⟨_, rfl⟩
      rw [← hx] at c2 c4
      have hag := HA.out k hlt
      rw [← hx] at hag
      obtain ⟨ha0, ha1⟩ := hag
      have z2 := T0.out.fz (32 + k)
      have z4 := T0.out.fz (64 + k)
      have HX := Lib.hid hx
      clear hx
      cases hh : hd x with
      | false =>
        have HH := Lib.hid (show hd (f k) = false by rw [← HX.out]; exact hh)
        rw [hh] at c2
        clear hh
        go_wp2
        go_roundw
        case rel => exact ⟨k + 1, by omega, by go_num, T0.out.congr (tkTo_succ_no f k HH.out), F0.out⟩
        case measure => simp [intOf]; omega
      | true =>
        have HH := Lib.hid (show hd (f k) = true by rw [← HX.out]; exact hh)
        have HTK := Lib.hid (show Rl _ q (tkTo f (k + 1)) s from (T0.out.tick k hlt (by rw [tkTo_at]; exact HH.out)).congr (by have := tkTo_succ_yes f k HH.out; rw [tkTo_at] at this ⊢; exact this))
        rw [tkTo_at, ← HX.out] at HTK
        rw [hh] at c2
        have h32 : ¬ 32 + k = 64 + k := by omega
        clear hh
        go_wp2
        go_region
        all_goals
          go_wp2
          go_region
          all_goals
            go_wp2
            go_roundw
            case rel => exact ⟨k + 1, by omega, by go_num, (HTK.out.fr (Fr.drew _ []) (by simp)).fr (Fr.drew _ []) (by simp), ((F0.out.trans ((Fr.setCell wr q (64 + k) _ (by simp)).trans (Fr.setCell _ q (32 + k) _ (by simp)))).trans (Fr.drew _ [q])).trans (Fr.drew _ [q])⟩
            case measure => simp [intOf]; omega
    · obtain rfl : k = 16 := by omega
      have T1 := Lib.hid (T0.out.congr (tkTo_end f))
      clear T0
      go_wp2
      go_end0
      exact ⟨rfl, T1.out, F0.out⟩

set_option maxHeartbeats 1000000 in
set_option maxRecDepth 100000 in
theorem ralive_any (q : Nat) (f : Nat → Pe) (s : Int) (w : World) (h : Rl w q f s) :
    Calls Try.prog 19 #[.pointer (some ⟨q, 0, none⟩)] w (Gives fun u w' => OwnI w' w.heap.size u (alV f 16) ∧ Fr w w' []) := by
  obtain ⟨i0, hi, hz0, hz1, hz2⟩ := info_parts infoI
  have HT := Lib.hid h
  clear h
  go_enter Try.func19, Try.ntmps19
  go_wp2
  go_loopw [3, 4] (fun a i wr => ∃ k : Nat, k ≤ 16 ∧ i = .int .i64 k ∧ OwnI wr w.heap.size a (alV f k) ∧ Fr w wr []) (fun _ i _ => 16 - (intOf i).toNat)
  case atStart => exact ⟨0, by omega, rfl, OwnI.nil _ _, Fr.refl _ _⟩
  case round =>
    obtain ⟨k, hk, rfl, ho, hf⟩ := hrel
    have O0 := Lib.hid ho
    have F0 := Lib.hid hf
    clear ho hf
    by_cases hlt : k < 16
    · obtain ⟨_, _, c2, c3, _⟩ := (HT.out.fr F0.out (by simp)).at k hlt
      have HL := Lib.hid (alV_len f k)
      cases hh : hd (f k) with
      | false =>
        have HH := Lib.hid (show on (f k) = false by simp [on, hh])
        rw [hh] at c2
        clear hh
        go_wp2
        go_roundw
        case rel => exact ⟨k + 1, by omega, by go_num, by rw [alV_no f k HH.out]; exact O0.out, F0.out⟩
        case measure => simp [intOf]; omega
      | true =>
        cases hu : (f k).ou with
        | true =>
          have HH := Lib.hid (show on (f k) = false by simp [on, hh, hu])
          rw [hh] at c2
          rw [hu] at c3
          clear hh hu
          go_wp2
          go_roundw
          case rel => exact ⟨k + 1, by omega, by go_num, by rw [alV_no f k HH.out]; exact O0.out, F0.out⟩
          case measure => simp [intOf]; omega
        | false =>
          have HH := Lib.hid (show on (f k) = true by simp [on, hh, hu])
          rw [hh] at c2
          rw [hu] at c3
          clear hh hu
          go_wp2_with (at_builtin; refine wpList_append_own _ rfl _ _ 22 rfl w.heap.size 3 i0 (.int .i64 0) 1 8 Try.underlying22 hi hz0 hz1 hz2 rfl (by decide) _ _ _ rfl (World.ownsRow.alloc O0.out _) ⟨wr.heap.size, 0, none⟩ 1 1 [.int .i64 k] rfl rfl (cell_one_new _ _ _) (one_cell _ _) (by have := HL.out; unfold maxLen; omega) (by have := HL.out; omega) (by have := F0.out.size; simp; omega) ?_; intro v' w3 hown3 hg3 _)
          have F3 := Lib.hid ((F0.out.trans (Fr.alloc wr (.cells #[.int .i64 (k : Int)] 3) [])).grown_own hg3 (fun r hr => .inr (O0.out.block r hr).1))
          have O3 := Lib.hid (show OwnI w3 w.heap.size v' (alV f (k + 1)) by rw [alV_yes f k HH.out]; exact OwnI.snoc hown3)
          clear hown3 hg3
          go_wp2
          go_roundw
          case rel => exact ⟨k + 1, by omega, by go_num, O3.out, F3.out⟩
          case measure => simp [intOf]; omega
    · obtain rfl : k = 16 := by omega
      go_wp2
      go_ret
      exact gives ⟨O0.out, F0.out⟩
end Go.Proofs.Ytgpdpembddajhaa
