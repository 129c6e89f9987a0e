/- The law of the mail's order: what is put is taken in order; two that are swapped stand in each other's place, and swapped again as they were: its walk. -/
import Derived.Test.YtlkmpmhbidhfcaaMTake
import Derived.Test.YtlkmpmhbidhfcaaMSwap
import Derived.Test.YtlkmpmhbidhfcaaMAll
import Derived.Test.YtlkmpmhbidhfcaaMFirst
import Derived.Test.YtlkmpmhbidhfcaaSameB
import Derived.Test.YtlkmpmhbidhfcaaNum
namespace Go.Proofs.Ytlkmpmhbidhfcaa
open Go.RowKit

def fO (i : Nat) : Lt := ((i : Int), strOfNums [((i % 256 : Nat) : Int)])
theorem fO_nums (i : Nat) : numsOf (fO i).2 = [((i % 256 : Nat) : Int)] := numsOf_str _ (by intro x hx; obtain rfl := List.mem_singleton.1 hx; omega)
theorem fO_size (i : Nat) : (fO i).2.size ≤ 1000000 := by rw [fO, str_size]; simp
theorem fO_small (n : Nat) : ∀ x ∈ mkL fO n, x.2.size ≤ 1000000 := by
  intro x hx
  obtain ⟨i, _, rfl⟩ := List.mem_map.1 hx
  exact fO_size i
theorem gd (L : List Lt) (m : Nat) (h : m < L.length) : L.getD m dL = L[m] := by simp [h]
theorem swp_get (L : List Lt) (i k m : Nat) (_hi : i < L.length) (_hk : k < L.length) (hm : m < L.length) : (swp L i k).getD m dL = if m = k then L.getD i dL else if m = i then L.getD k dL else L.getD m dL := by
  rw [gd (swp L i k) m (by rw [swp_len]; exact hm), gd L m hm]
  unfold swp
  rw [List.getElem_set, List.getElem_set]
  by_cases h1 : m = k
  · rw [if_pos h1.symm, if_pos h1]
  · rw [if_neg (fun e => h1 e.symm), if_neg h1]
    by_cases h2 : m = i
    · rw [if_pos h2.symm, if_pos h2]
    · rw [if_neg (fun e => h2 e.symm), if_neg h2]
theorem swp_swp (L : List Lt) (i k : Nat) (hi : i < L.length) (hk : k < L.length) : swp (swp L i k) k i = L := by
  refine List.ext_getElem (by rw [swp_len, swp_len]) (fun m h1 h2 => ?_)
  have hl := swp_len L i k
  have e := swp_get (swp L i k) k i m (by omega) (by omega) (by omega)
  rw [gd _ m h1] at e
  rw [e, swp_get L i k k hi hk hk, swp_get L i k i hi hk hi, swp_get L i k m hi hk h2]
  by_cases h3 : m = i
  · subst h3
    rw [if_pos rfl, if_pos rfl, gd L m h2]
  · by_cases h4 : m = k
    · subst h4
      rw [if_neg h3, if_pos rfl, if_neg (fun e => h3 e.symm), if_pos rfl, gd L m h2]
    · rw [if_neg h3, if_neg h4, if_neg h4, if_neg h3, gd L m h2]
theorem small_swp {L : List Lt} {i k : Nat} (h : ∀ x ∈ L, x.2.size ≤ 1000000) : ∀ x ∈ swp L i k, x.2.size ≤ 1000000 := by
  intro x hx
  rcases List.mem_or_eq_of_mem_set hx with h1 | rfl
  · rcases List.mem_or_eq_of_mem_set h1 with h2 | rfl
    · exact h x h2
    · exact small_of h k
  · exact small_of h i
theorem Ml.keepHI {w w' : World} {B p : Nat} {v : Value} {L : List Lt} {n : Nat} (h : Ml w B p v L n) (hf : Fr w w' (mbs p v)) {B' g k : Nat} {M : List Lt} (hi : HI w B' g M k) : HI w' B' g M k :=
  hi.keep hf (by obtain ⟨_, cs, h1, _⟩ := hi; exact h.apart h1 (by decide) (by decide)) (fun r hr cs fz e => h.apart e (by decide) (by decide) hr)
set_option maxHeartbeats 20000000 in
set_option maxRecDepth 100000 in
theorem morder_walk (a b d : Int) (ha : (Lit.int .i64 a).wf = true) (hb : (Lit.int .i64 b).wf = true) (hd : (Lit.int .i64 d).wf = true) (w : World) :
    Calls Try.prog 6 #[.int .i64 a, .int .i64 b, .int .i64 d] w fun e w' => e = .returned (.bool true) ∧ w.grownBy w' none := by
  obtain ⟨N, hN, _, hnum⟩ := numberTo_nat a 30 (by omega) (by omega) ha
  obtain ⟨i, hi, _, hnum2'⟩ := numberTo_nat b (N + 2) (by omega) (by omega) hb
  have hnum2 : ∀ w : World, Calls Try.prog 8 #[.int .i64 b, .int .i64 ((N : Int) + 2)] w fun e w' => e = .returned (.int .i64 (i : Int)) ∧ w = w' := hnum2'
  obtain ⟨k, hk, _, hnum3'⟩ := numberTo_nat d (N + 2) (by omega) (by omega) hd
  have hnum3 : ∀ w : World, Calls Try.prog 8 #[.int .i64 d, .int .i64 ((N : Int) + 2)] w fun e w' => e = .returned (.int .i64 (k : Int)) ∧ w = w' := hnum3'
  clear hnum2' hnum3'
  go_enter Try.func6, Try.ntmps6
  go_wp2_with fail
  refine (first_any _).mono ?_
  rintro e w1 ⟨rfl, hf⟩
  have F1 := Lib.hid hf
  clear hf
  go_wp2_with fail
  refine (hnum _).mono ?_
  rintro e w2 ⟨rfl, rfl⟩
  clear hnum
  go_wp2_with fail
  refine (hnum2 _).mono ?_
  rintro e w2 ⟨rfl, rfl⟩
  clear hnum2
  go_wp2_with fail
  refine (hnum3 _).mono ?_
  rintro e w2 ⟨rfl, rfl⟩
  clear hnum3
  have F2 := Lib.hid (F1.out.trans (Fr.alloc w1 (.cells #[.slice none 0 0, .int .i64 0] 26) []))
  have M2 := Lib.hid (new_mail w1)
  have HS := Lib.hid F1.out.size
  go_wp2
  go_loopw [9] (fun j wr => ∃ (q : Nat) (v : Value), q ≤ N + 2 ∧ j = .int .i64 q ∧ Ml wr w1.heap.size w1.heap.size v (mkL fO q) 0 ∧ Fr w wr []) (fun j _ => N + 2 - (intOf j).toNat)
  case atStart => exact ⟨0, _, Nat.zero_le _, rfl, M2.out, F2.out⟩
  case round =>
    obtain ⟨q, v, hq, rfl, hm, hf⟩ := hrel
    have M := Lib.hid hm
    have F := Lib.hid hf
    clear hm hf
    by_cases hlt : q < N + 2
    · have hw8 := u8_of_nat q
      obtain ⟨y, hy⟩ : ∃ y, y = ((q % 256 : Nat) : Int) := ⟨_, rfl⟩
      rw [← hy] at hw8
      have HY := Lib.hid hy
      have M3 := Lib.hid (M.out.keep (Fr.alloc wr (.cells (u8s [y]).toArray 5) []))
      have F3 := Lib.hid (F.out.trans (Fr.alloc wr (.cells (u8s [y]).toArray 5) []))
      have B3 := Lib.hid (bytes_new (heap_alloc_new wr (.cells (u8s [y]).toArray 5)) (by simp))
      have hlen : (mkL fO q).length < 4096 := by rw [mkL_len]; omega
      clear hy
      go_wp2_with fail
      refine (put_yes w1.heap.size w1.heap.size v _ 0 (q : Int) _ [y] _ M3.out B3.out (by omega) hlen).mono ?_
      rintro e w4 ⟨rfl, h⟩
      have F4 := Lib.hid (h.step M3.out (by have := HS.out; omega) F3.out)
      obtain ⟨v4, m4, hg⟩ := h
      have M4 := Lib.hid (show Ml w4 w1.heap.size w1.heap.size v4 (mkL fO (q + 1)) 0 by
        rw [← mkL_snoc, fO, ← HY.out]
        exact m4)
      clear m4 hg hlen hw8
      go_wp2
      go_roundw
      case rel => exact ⟨q + 1, v4, by omega, by go_num, M4.out, F4.out⟩
      case measure => simp [intOf]; omega
    · have hqN : q = N + 2 := by omega
      have M3 := Lib.hid (show Ml wr w1.heap.size w1.heap.size v (mkL fO (N + 2)) 0 by have := M.out; rwa [hqN] at this)
      have HL := Lib.hid (mkL_len fO (N + 2))
      obtain ⟨L, hL⟩ : ∃ L, L = mkL fO (N + 2) := ⟨_, rfl⟩
      have HSM := Lib.hid (fO_small (N + 2))
      have HGET := Lib.hid (fun q => mkL_get fO (N + 2) q)
      rw [← hL] at M3 HL HSM HGET
      clear M hqN hL
      go_wp2_with fail
      refine (all_any _ _ _ _ _ _ M3.out (by rw [HL.out]; omega) (fun q _ => small_of HSM.out q)).mono ?_
      rintro e w4 ⟨u, rfl, hq⟩
      unfold AllQ at hq
      rw [HL.out] at hq
      obtain ⟨g1, rfl, hi1, hf1⟩ := hq
      have M4 := Lib.hid (M3.out.keep hf1)
      have F4 := Lib.hid (F.out.trans hf1)
      have I4 := Lib.hid hi1
      clear hi1 hf1 M3
      go_wp2_with fail
      refine (swap_any _ _ _ _ _ i k _ M4.out (by rw [HL.out]; exact hi) (by rw [HL.out]; exact hk)).mono ?_
      rintro e w5 ⟨rfl, h⟩
      have F5 := Lib.hid (h.step M4.out (by have := HS.out; omega) F4.out)
      obtain ⟨v5, m5, hg⟩ := h
      have M5 := Lib.hid m5
      have I5 := Lib.hid (M4.out.keepHI hg I4.out)
      clear m5 hg
      go_wp2_with fail
      refine (swap_any _ _ _ _ _ k i _ M5.out (by rw [swp_len, HL.out]; exact hk) (by rw [swp_len, HL.out]; exact hi)).mono ?_
      rintro e w6 ⟨rfl, h⟩
      rw [swp_swp L i k (by rw [HL.out]; exact hi) (by rw [HL.out]; exact hk)] at h
      have F6 := Lib.hid (h.step M5.out (by have := HS.out; omega) F5.out)
      obtain ⟨v6, m6, hg⟩ := h
      have M6 := Lib.hid m6
      have I6 := Lib.hid (M5.out.keepHI hg I5.out)
      clear m6 hg M4 M5 I4 I5
      go_wp2_with fail
      refine (all_any _ _ _ _ _ _ M6.out (by rw [HL.out]; omega) (fun q _ => small_of HSM.out q)).mono ?_
      rintro e w7 ⟨u, rfl, hq⟩
      unfold AllQ at hq
      rw [HL.out] at hq
      obtain ⟨g2, rfl, hi2, hf2⟩ := hq
      have M7 := Lib.hid (M6.out.keep hf2)
      have F7 := Lib.hid (F6.out.trans hf2)
      have I7 := Lib.hid (I6.out.fr hf2)
      have J7 := Lib.hid hi2
      clear hi2 hf2 M6 I6
      go_wp2
      go_loopw [12] (fun j wr => ∃ (q : Nat), q ≤ N + 2 ∧ j = .int .i64 q ∧ Fr w7 wr []) (fun j _ => N + 2 - (intOf j).toNat)
      case atStart => exact ⟨0, Nat.zero_le _, rfl, Fr.refl _ _⟩
      case round =>
        clear F
        obtain ⟨q, hq, rfl, hf⟩ := hrel
        have F := Lib.hid hf
        clear hf
        by_cases hlt : q < N + 2
        · obtain ⟨s1, e1, e2, e3⟩ := (I7.out.fr F.out).at q hlt
          obtain ⟨s2, e4, e5, e6⟩ := (J7.out.fr F.out).at q hlt
          rw [HGET.out q hlt] at e1 e3 e4 e6
          rw [fO_nums] at e3 e6
          rw [Nat.mul_comm 2 q] at e1 e2 e4 e5
          obtain ⟨y, hy⟩ : ∃ y, y = ((q % 256 : Nat) : Int) := ⟨_, rfl⟩
          rw [← hy] at e3 e6
          obtain ⟨t, ht⟩ : ∃ t, t = (fO q).1 := ⟨_, rfl⟩
          rw [← ht] at e1 e4
          have E3 := Lib.hid e3
          have E6 := Lib.hid e6
          clear e3 e6 hy ht
          go_wp2
          go_quiet ((go_at_call 13; exact same_at s2 [y] s1 [y] wr _ E6.out E3.out (by simp) true (by simp)))
          go_wp2
          go_roundw
          case rel => exact ⟨q + 1, by omega, by go_num, F.out.trans (Fr.drewN _ _ _)⟩
          case measure => simp [intOf]; omega
        · have M8 := Lib.hid (M7.out.keep F.out)
          have F8 := Lib.hid (F7.out.trans F.out)
          clear M7 F7 F I7 J7
          go_wp2_with fail
          refine (swap_any _ _ _ _ _ i k _ M8.out (by rw [HL.out]; exact hi) (by rw [HL.out]; exact hk)).mono ?_
          rintro e w9 ⟨rfl, h⟩
          have F9 := Lib.hid (h.step M8.out (by have := HS.out; omega) F8.out)
          obtain ⟨v9, m9, _⟩ := h
          have HSW := Lib.hid (small_swp (L := L) (i := i) (k := k) HSM.out)
          have HSG := Lib.hid (fun m (hm : m < N + 2) => swp_get L i k m (by rw [HL.out]; exact hi) (by rw [HL.out]; exact hk) (by rw [HL.out]; exact hm))
          have HSL : Hid ((swp L i k).length = N + 2) := by show _ = _; rw [swp_len, HL.out]
          obtain ⟨R, hR⟩ : ∃ R, R = swp L i k := ⟨_, rfl⟩
          rw [← hR] at m9 HSW HSG HSL
          have M9 := Lib.hid (show Ml w9 w1.heap.size w1.heap.size v9 (R.drop 0) 0 from m9)
          clear m9 M8 F8 hR
          go_wp2
          go_loopw [13] (fun j wr => ∃ (q : Nat) (v : Value), q ≤ N + 2 ∧ j = .int .i64 q ∧ Ml wr w1.heap.size w1.heap.size v (R.drop q) 0 ∧ Fr w wr []) (fun j _ => N + 2 - (intOf j).toNat)
          case atStart => exact ⟨0, _, Nat.zero_le _, rfl, M9.out, F9.out⟩
          case round =>
            clear F9 M9
            obtain ⟨q, v, hq, rfl, hm, hf⟩ := hrel
            have M := Lib.hid hm
            have F := Lib.hid hf
            clear hm hf
            by_cases hlt : q < N + 2
            · have hlen : 0 < (R.drop q).length := by rw [List.length_drop, HSL.out]; omega
              have hg0 : (R.drop q).getD 0 dL = R.getD q dL := by simp
              have hgq := HSG.out q hlt
              rw [HGET.out i hi, HGET.out k hk, HGET.out q hlt] at hgq
              by_cases hqk : q = k
              · have hqk' : ((q : Int) == (k : Int)) = true := by simp [hqk]
                by_cases hqi : q = i
                · have hqi' : ((q : Int) == (i : Int)) = true := by simp [hqi]
                  rw [if_pos hqk] at hgq
                  clear hqk hqi
                  have hgw : (R.drop q).getD 0 dL = fO i := by rw [hg0, hgq]
                  have HG := Lib.hid hgw
                  clear hgw hg0 hgq
                  go_wp2_with fail
                  refine (take_any w1.heap.size w1.heap.size v _ 0 0 _ M.out hlen (by rw [HG.out]; exact fO_size _)).mono ?_
                  rintro e w4 ⟨u, rfl, xx, rfl, hit, h⟩
                  rw [HG.out, fO_nums] at hit
                  rw [show (R.drop q).eraseIdx 0 = R.drop (q + 1) by rw [List.eraseIdx_zero, List.tail_drop]] at h
                  have F4 := Lib.hid (h.step M.out (by have := HS.out; omega) F.out)
                  obtain ⟨v4, m4, _⟩ := h
                  obtain ⟨g4, c4, cs4, fz4, rfl, _, hby, _⟩ := hit
                  have M4 := Lib.hid m4
                  have hw8 := u8_of_nat i
                  obtain ⟨y, hy⟩ : ∃ y, y = ((i % 256 : Nat) : Int) := ⟨_, rfl⟩
                  rw [← hy] at hw8 hby
                  have Y4 := Lib.hid hby
                  clear hby m4 hy
                  have FA := Lib.hid ((Fr.alloc w4 (.cells #[.int .i64 (i : Int), .slice (some ⟨g4, 0, none⟩) 1 c4] 31) []).trans (Fr.alloc (w4.alloc (.cells #[.int .i64 (i : Int), .slice (some ⟨g4, 0, none⟩) 1 c4] 31)) (.cells (u8s [y]).toArray 5) []))
                  have HY := Lib.hid (show Bytes ((w4.alloc (.cells #[.int .i64 (i : Int), .slice (some ⟨g4, 0, none⟩) 1 c4] 31)).alloc (.cells (u8s [y]).toArray 5)) (.slice (some ⟨w4.heap.size + 1, 0, none⟩) 1 1) [y] by
                    have h := bytes_new (heap_alloc_new (w4.alloc (.cells #[.int .i64 (i : Int), .slice (some ⟨g4, 0, none⟩) 1 c4] 31)) (.cells (u8s [y]).toArray 5)) (by simp)
                    rwa [show (w4.alloc (.cells #[.int .i64 (i : Int), .slice (some ⟨g4, 0, none⟩) 1 c4] 31)).heap.size = w4.heap.size + 1 by simp] at h)
                  go_wp2_with fail
                  refine (same_any _ [y] _ [y] _ (Y4.out.keep FA.out) HY.out (by simp) true (by simp)).mono ?_
                  rintro e w5 ⟨rfl, hg⟩
                  have M5 := Lib.hid ((M4.out.keep FA.out).keep (Fr.of_grown hg []))
                  have F5 := Lib.hid ((F4.out.trans FA.out).trans (Fr.of_grown hg []))
                  clear hg hw8
                  go_wp2
                  go_roundw
                  case rel => exact ⟨q + 1, v4, by omega, by go_num, M5.out, F5.out⟩
                  case measure => simp [intOf]; omega
                · have hqi' : ((q : Int) == (i : Int)) = false := by simp; omega
                  rw [if_pos hqk] at hgq
                  clear hqk hqi
                  have hgw : (R.drop q).getD 0 dL = fO i := by rw [hg0, hgq]
                  have HG := Lib.hid hgw
                  clear hgw hg0 hgq
                  go_wp2_with fail
                  refine (take_any w1.heap.size w1.heap.size v _ 0 0 _ M.out hlen (by rw [HG.out]; exact fO_size _)).mono ?_
                  rintro e w4 ⟨u, rfl, xx, rfl, hit, h⟩
                  rw [HG.out, fO_nums] at hit
                  rw [show (R.drop q).eraseIdx 0 = R.drop (q + 1) by rw [List.eraseIdx_zero, List.tail_drop]] at h
                  have F4 := Lib.hid (h.step M.out (by have := HS.out; omega) F.out)
                  obtain ⟨v4, m4, _⟩ := h
                  obtain ⟨g4, c4, cs4, fz4, rfl, _, hby, _⟩ := hit
                  have M4 := Lib.hid m4
                  have hw8 := u8_of_nat i
                  obtain ⟨y, hy⟩ : ∃ y, y = ((i % 256 : Nat) : Int) := ⟨_, rfl⟩
                  rw [← hy] at hw8 hby
                  have Y4 := Lib.hid hby
                  clear hby m4 hy
                  have FA := Lib.hid ((Fr.alloc w4 (.cells #[.int .i64 (i : Int), .slice (some ⟨g4, 0, none⟩) 1 c4] 31) []).trans (Fr.alloc (w4.alloc (.cells #[.int .i64 (i : Int), .slice (some ⟨g4, 0, none⟩) 1 c4] 31)) (.cells (u8s [y]).toArray 5) []))
                  have HY := Lib.hid (show Bytes ((w4.alloc (.cells #[.int .i64 (i : Int), .slice (some ⟨g4, 0, none⟩) 1 c4] 31)).alloc (.cells (u8s [y]).toArray 5)) (.slice (some ⟨w4.heap.size + 1, 0, none⟩) 1 1) [y] by
                    have h := bytes_new (heap_alloc_new (w4.alloc (.cells #[.int .i64 (i : Int), .slice (some ⟨g4, 0, none⟩) 1 c4] 31)) (.cells (u8s [y]).toArray 5)) (by simp)
                    rwa [show (w4.alloc (.cells #[.int .i64 (i : Int), .slice (some ⟨g4, 0, none⟩) 1 c4] 31)).heap.size = w4.heap.size + 1 by simp] at h)
                  go_wp2_with fail
                  refine (same_any _ [y] _ [y] _ (Y4.out.keep FA.out) HY.out (by simp) true (by simp)).mono ?_
                  rintro e w5 ⟨rfl, hg⟩
                  have M5 := Lib.hid ((M4.out.keep FA.out).keep (Fr.of_grown hg []))
                  have F5 := Lib.hid ((F4.out.trans FA.out).trans (Fr.of_grown hg []))
                  clear hg hw8
                  go_wp2
                  go_roundw
                  case rel => exact ⟨q + 1, v4, by omega, by go_num, M5.out, F5.out⟩
                  case measure => simp [intOf]; omega
              · have hqk' : ((q : Int) == (k : Int)) = false := by simp; omega
                by_cases hqi : q = i
                · have hqi' : ((q : Int) == (i : Int)) = true := by simp [hqi]
                  rw [if_neg hqk, if_pos hqi] at hgq
                  clear hqk hqi
                  have hgw : (R.drop q).getD 0 dL = fO k := by rw [hg0, hgq]
                  have HG := Lib.hid hgw
                  clear hgw hg0 hgq
                  go_wp2_with fail
                  refine (take_any w1.heap.size w1.heap.size v _ 0 0 _ M.out hlen (by rw [HG.out]; exact fO_size _)).mono ?_
                  rintro e w4 ⟨u, rfl, xx, rfl, hit, h⟩
                  rw [HG.out, fO_nums] at hit
                  rw [show (R.drop q).eraseIdx 0 = R.drop (q + 1) by rw [List.eraseIdx_zero, List.tail_drop]] at h
                  have F4 := Lib.hid (h.step M.out (by have := HS.out; omega) F.out)
                  obtain ⟨v4, m4, _⟩ := h
                  obtain ⟨g4, c4, cs4, fz4, rfl, _, hby, _⟩ := hit
                  have M4 := Lib.hid m4
                  have hw8 := u8_of_nat k
                  obtain ⟨y, hy⟩ : ∃ y, y = ((k % 256 : Nat) : Int) := ⟨_, rfl⟩
                  rw [← hy] at hw8 hby
                  have Y4 := Lib.hid hby
                  clear hby m4 hy
                  have FA := Lib.hid ((Fr.alloc w4 (.cells #[.int .i64 (k : Int), .slice (some ⟨g4, 0, none⟩) 1 c4] 31) []).trans (Fr.alloc (w4.alloc (.cells #[.int .i64 (k : Int), .slice (some ⟨g4, 0, none⟩) 1 c4] 31)) (.cells (u8s [y]).toArray 5) []))
                  have HY := Lib.hid (show Bytes ((w4.alloc (.cells #[.int .i64 (k : Int), .slice (some ⟨g4, 0, none⟩) 1 c4] 31)).alloc (.cells (u8s [y]).toArray 5)) (.slice (some ⟨w4.heap.size + 1, 0, none⟩) 1 1) [y] by
                    have h := bytes_new (heap_alloc_new (w4.alloc (.cells #[.int .i64 (k : Int), .slice (some ⟨g4, 0, none⟩) 1 c4] 31)) (.cells (u8s [y]).toArray 5)) (by simp)
                    rwa [show (w4.alloc (.cells #[.int .i64 (k : Int), .slice (some ⟨g4, 0, none⟩) 1 c4] 31)).heap.size = w4.heap.size + 1 by simp] at h)
                  go_wp2_with fail
                  refine (same_any _ [y] _ [y] _ (Y4.out.keep FA.out) HY.out (by simp) true (by simp)).mono ?_
                  rintro e w5 ⟨rfl, hg⟩
                  have M5 := Lib.hid ((M4.out.keep FA.out).keep (Fr.of_grown hg []))
                  have F5 := Lib.hid ((F4.out.trans FA.out).trans (Fr.of_grown hg []))
                  clear hg hw8
                  go_wp2
                  go_roundw
                  case rel => exact ⟨q + 1, v4, by omega, by go_num, M5.out, F5.out⟩
                  case measure => simp [intOf]; omega
                · have hqi' : ((q : Int) == (i : Int)) = false := by simp; omega
                  rw [if_neg hqk, if_neg hqi] at hgq
                  clear hqk hqi
                  have hgw : (R.drop q).getD 0 dL = fO q := by rw [hg0, hgq]
                  have HG := Lib.hid hgw
                  clear hgw hg0 hgq
                  go_wp2_with fail
                  refine (take_any w1.heap.size w1.heap.size v _ 0 0 _ M.out hlen (by rw [HG.out]; exact fO_size _)).mono ?_
                  rintro e w4 ⟨u, rfl, xx, rfl, hit, h⟩
                  rw [HG.out, fO_nums] at hit
                  rw [show (R.drop q).eraseIdx 0 = R.drop (q + 1) by rw [List.eraseIdx_zero, List.tail_drop]] at h
                  have F4 := Lib.hid (h.step M.out (by have := HS.out; omega) F.out)
                  obtain ⟨v4, m4, _⟩ := h
                  obtain ⟨g4, c4, cs4, fz4, rfl, _, hby, _⟩ := hit
                  have M4 := Lib.hid m4
                  have hw8 := u8_of_nat q
                  obtain ⟨y, hy⟩ : ∃ y, y = ((q % 256 : Nat) : Int) := ⟨_, rfl⟩
                  rw [← hy] at hw8 hby
                  have Y4 := Lib.hid hby
                  clear hby m4 hy
                  have FA := Lib.hid ((Fr.alloc w4 (.cells #[.int .i64 (q : Int), .slice (some ⟨g4, 0, none⟩) 1 c4] 31) []).trans (Fr.alloc (w4.alloc (.cells #[.int .i64 (q : Int), .slice (some ⟨g4, 0, none⟩) 1 c4] 31)) (.cells (u8s [y]).toArray 5) []))
                  have HY := Lib.hid (show Bytes ((w4.alloc (.cells #[.int .i64 (q : Int), .slice (some ⟨g4, 0, none⟩) 1 c4] 31)).alloc (.cells (u8s [y]).toArray 5)) (.slice (some ⟨w4.heap.size + 1, 0, none⟩) 1 1) [y] by
                    have h := bytes_new (heap_alloc_new (w4.alloc (.cells #[.int .i64 (q : Int), .slice (some ⟨g4, 0, none⟩) 1 c4] 31)) (.cells (u8s [y]).toArray 5)) (by simp)
                    rwa [show (w4.alloc (.cells #[.int .i64 (q : Int), .slice (some ⟨g4, 0, none⟩) 1 c4] 31)).heap.size = w4.heap.size + 1 by simp] at h)
                  go_wp2_with fail
                  refine (same_any _ [y] _ [y] _ (Y4.out.keep FA.out) HY.out (by simp) true (by simp)).mono ?_
                  rintro e w5 ⟨rfl, hg⟩
                  have M5 := Lib.hid ((M4.out.keep FA.out).keep (Fr.of_grown hg []))
                  have F5 := Lib.hid ((F4.out.trans FA.out).trans (Fr.of_grown hg []))
                  clear hg hw8
                  go_wp2
                  go_roundw
                  case rel => exact ⟨q + 1, v4, by omega, by go_num, M5.out, F5.out⟩
                  case measure => simp [intOf]; omega
            · have M0 := Lib.hid (show Ml wr w1.heap.size w1.heap.size v [] 0 by have := M.out; rwa [List.drop_eq_nil_of_le (by rw [HSL.out]; omega)] at this)
              clear M
              go_wp2_with fail
              refine (len_any _ _ _ _ _ _ M0.out).mono ?_
              rintro e w5 ⟨rfl, rfl⟩
              go_wp2_with fail
              refine (swap_none _ _ _ _ _ 0 0 _ M0.out (by simp)).mono ?_
              rintro e w5 ⟨rfl, rfl⟩
              go_wp2
              go_ret
              exact ⟨rfl, F.out.grown (by simp)⟩
end Go.Proofs.Ytlkmpmhbidhfcaa
