/- The law of lives: a greater life of a car is heard, and its elder ones are not any more; a copy goes its own way: its walk. -/
import Derived.Test.YtgpdpembddajhaaTFirst
import Derived.Test.YtgpdpembddajhaaNum
import Derived.Lib.MinMax
namespace Go.Proofs.Ytgpdpembddajhaa
open Go.RowKit

theorem upP_same (f : Nat → Pe) (k : Nat) (x : Pe) : upP f k x k = x := by simp [upP]
theorem upP_other (f : Nat → Pe) (k : Nat) (x : Pe) (j : Nat) (h : j ≠ k) : upP f k x j = f j := by simp [upP, h]
theorem Tb.not_int {w w' : World} {p : Nat} {f : Nat → Pe} {s : Int} (h : Tb w p f s) (hf : Fr w w' [p]) {B : Nat} {v : Value} {l : List Int} (ho : OwnI w B v l) : OwnI w' B v l := by
  obtain ⟨cs, h1, _⟩ := h
  exact ho.far hf h1 (by decide)
/-- Car 4 alone was heard; its greatest life. -/
structure LS (f : Nat → Pe) (M : Int) : Prop where
  ag : AgOk f
  off : ∀ j, j ≠ 4 → f j = zP
  li : (M = -1 ∧ (f 4).li = 0) ∨ (0 ≤ M ∧ (f 4).li = M ∧ (f 4).kn = true)
theorem LS.up {f : Nat → Pe} {M : Int} (h : LS f M) (o : Bool) (n : Int) (hn : 0 ≤ n) : LS (upP f 4 ⟨true, o, n, 0⟩) n :=
  ⟨h.ag.up 4 _ (by simp) (by simp), fun j hj => by rw [upP_other _ _ _ _ hj]; exact h.off j hj, .inr ⟨hn, by rw [upP_same], by rw [upP_same]⟩⟩

set_option maxHeartbeats 2000000 in
set_option maxRecDepth 100000 in
theorem tlives_walk (v : Value) (l : List Int) (hw : ∀ n ∈ l, (Lit.int .i64 n).wf = true) (w : World) (h : HInts w v l) :
    Calls Try.prog 3 #[v] w fun e w' => e = .returned (.bool true) ∧ w.grownBy w' none := by
  obtain ⟨a, cap, rfl, h1, h2, h3⟩ := h
  unfold maxLen at h2
  have HC := Lib.hid h3
  have HW := Lib.hid hw
  have hz := zeroTb
  clear h3 hw
  by_cases hl : l.length ≤ 20
  · go_enter Try.func3, Try.ntmps3
    go_wp2_with fail
    refine (first_any _).mono ?_
    rintro e w1 ⟨rfl, hf⟩
    have T1 := Lib.hid (new_tb w1)
    have F1 := Lib.hid (hf.trans (Fr.alloc w1 (.cells zTb 28) []))
    have HP := Lib.hid hf.size
    clear hf
    go_wp2
    go_loopw [5, 6] (fun m i wr => ∃ (k : Nat) (f : Nat → Pe) (M : Int), k ≤ l.length ∧ i = .int .i64 k ∧ m = .int .i64 M ∧ LS f M ∧ Tb wr w1.heap.size f 0 ∧ Fr w wr []) (fun _ i _ => l.length - (intOf i).toNat)
    case atStart => exact ⟨0, _, _, by omega, rfl, rfl, ⟨AgOk.new, fun _ _ => rfl, .inl ⟨rfl, rfl⟩⟩, T1.out, F1.out⟩
    case round =>
      obtain ⟨k, f, M, hk, rfl, rfl, hs, ht, hf⟩ := hrel
      have S0 := Lib.hid hs
      have T0 := Lib.hid ht
      have F0 := Lib.hid hf
      clear hs ht hf T1 F1
      by_cases hlt : k < l.length
      · obtain ⟨b, off, rfl, hc⟩ := HC.out (by omega)
        obtain ⟨x, hx⟩ : ∃ x, x = l.getD k 0 := ⟨_, rfl⟩
        have hck := F0.out.cell (hc k hlt) (by simp)
        rw [← hx] at hck
        obtain ⟨n, hn, _, hnum⟩ := numberTo_nat x 9 (by omega) (by omega) (HW.out x (by rw [hx, List.getD_eq_getElem?_getD, List.getElem?_eq_getElem hlt]; exact List.getElem_mem hlt))
        have HN := Lib.hid hnum
        clear hc hx hnum
        go_wp2_with fail
        refine (HN.out _).mono ?_
        rintro e w2 ⟨rfl, rfl⟩
        by_cases hge : M ≤ (n : Int)
        · have hmx : max M (n : Int) = (n : Int) := Int.max_eq_right hge
          have hli : (f 4).li ≤ (n : Int) := by rcases S0.out.li with ⟨_, e⟩ | ⟨_, e, _⟩ <;> omega
          have HLI := Lib.hid hli
          clear hli
          go_wp2_with fail
          refine (hear_yes w1.heap.size f 0 4 n 0 _ _ T0.out (by omega) (by omega) (by omega) HLI.out).mono ?_
          rintro e w3 ⟨rfl, ht, hf⟩
          obtain ⟨o, ht⟩ : ∃ o, Tb w3 w1.heap.size (upP f 4 ⟨true, o, n, 0⟩) 0 := ⟨_, ht⟩
          have T3 := Lib.hid ht
          have S3 := Lib.hid (S0.out.up o (n : Int) (by omega))
          have F3 := Lib.hid (F0.out.new hf (by have := HP.out; simp; omega))
          have HL := Lib.hid (life_yes w1.heap.size _ 0 4 w3 T3.out (by omega))
          rw [upP_same] at HL
          clear ht hf
          go_wp2_with fail
          refine HL.out.mono ?_
          rintro e w4 ⟨rfl, hf⟩
          have T4 := Lib.hid (T3.out.fr hf (by simp))
          have F4 := Lib.hid (F3.out.trans hf)
          clear hf
          go_wp2
          go_roundw
          case rel => exact ⟨k + 1, _, n, by omega, by go_num, rfl, S3.out, T4.out, F4.out⟩
          case measure => simp [intOf]; omega
        · have hmx : max M (n : Int) = M := Int.max_eq_left (by omega)
          have hli : ¬ (f 4).li ≤ (n : Int) := by rcases S0.out.li with ⟨_, e⟩ | ⟨_, e, _⟩ <;> omega
          have he : (f 4).li = M := by rcases S0.out.li with ⟨_, e⟩ | ⟨_, e, _⟩ <;> omega
          have HLI := Lib.hid (show ¬ ((0 : Int) ≤ 4 ∧ (4 : Int) < 16 ∧ 0 ≤ (n : Int) ∧ (0 : Int) ≤ 0 ∧ (f (4 : Int).toNat).li ≤ (n : Int)) from fun h => hli h.2.2.2.2)
          have HE := Lib.hid he
          have HKN := Lib.hid (show (f 4).kn = true by rcases S0.out.li with ⟨_, e⟩ | ⟨_, _, e⟩; omega; exact e)
          clear hli he
          go_wp2_with fail
          refine (hear_no w1.heap.size f 0 4 n 0 _ _ T0.out HLI.out).mono ?_
          rintro e w3 ⟨rfl, rfl⟩
          have HL := Lib.hid (life_yes w1.heap.size _ 0 4 _ T0.out (by omega))
          rw [HE.out, HKN.out] at HL
          go_wp2_with fail
          refine HL.out.mono ?_
          rintro e w4 ⟨rfl, hf⟩
          have T4 := Lib.hid (T0.out.fr hf (by simp))
          have F4 := Lib.hid (F0.out.trans hf)
          clear hf
          go_wp2
          go_roundw
          case rel => exact ⟨k + 1, _, M, by omega, by go_num, rfl, S0.out, T4.out, F4.out⟩
          case measure => simp [intOf]; omega
      · obtain rfl : k = l.length := by omega
        go_wp2_with fail
        refine (clone_any w1.heap.size f 0 _ T0.out).mono ?_
        rintro e w2 ⟨u, rfl, rfl, hc, hf⟩
        have C2 := Lib.hid hc
        have T2 := Lib.hid (T0.out.fr hf (by simp))
        have F2 := Lib.hid (F0.out.trans hf)
        have HQ := Lib.hid (show w1.heap.size < wr.heap.size from T0.out.lt)
        clear hc hf
        go_wp2_with fail
        refine (alive_any w1.heap.size f 0 _ T2.out).mono ?_
        rintro e w3 ⟨u, rfl, ho, hf⟩
        have O3 := Lib.hid ho
        have C3 := Lib.hid (C2.out.fr hf (by simp))
        have T3 := Lib.hid (T2.out.fr hf (by simp))
        have F3 := Lib.hid (F2.out.trans hf)
        clear ho hf
        go_wp2_with fail
        refine (tick_any wr.heap.size f 0 _ C3.out S0.out.ag).mono ?_
        rintro e w4 ⟨rfl, hc, hf⟩
        have O4 := Lib.hid (C3.out.not_int hf O3.out)
        have C4 := Lib.hid hc
        have T4 := Lib.hid (T3.out.fr hf (by have := HQ.out; simp; omega))
        have F4 := Lib.hid (F3.out.new hf (by have := F0.out.size; simp; omega))
        clear hc hf
        have hk5 : (tkP f 5).li ≤ 1 := by
          have : f 5 = zP := S0.out.off 5 (by decide)
          simp [tkP, tk, this, zP, hd]
        have HK5 := Lib.hid hk5
        clear hk5
        go_wp2_with fail
        refine (hear_yes wr.heap.size (tkP f) 0 5 1 77 false _ C4.out (by omega) (by omega) (by omega) HK5.out).mono ?_
        rintro e w5 ⟨rfl, hc, hf⟩
        have O5 := Lib.hid (C4.out.not_int hf O4.out)
        have C5 := Lib.hid (show Tb w5 wr.heap.size (upP (tkP f) 5 ⟨true, false, 1, 0⟩) 77 from hc)
        have T5 := Lib.hid (T4.out.fr hf (by have := HQ.out; simp; omega))
        have F5 := Lib.hid (F4.out.new hf (by have := F0.out.size; simp; omega))
        clear hc hf
        have HL := Lib.hid (life_yes w1.heap.size f 0 5 _ T5.out (by omega))
        rw [show f 5 = zP from S0.out.off 5 (by decide)] at HL
        go_wp2_with fail
        refine HL.out.mono ?_
        rintro e w6 ⟨rfl, hf⟩
        have O6 := Lib.hid (O5.out.keep hf)
        have C6 := Lib.hid (C5.out.fr hf (by simp))
        have T6 := Lib.hid (T5.out.fr hf (by simp))
        have F6 := Lib.hid (F5.out.trans hf)
        clear hf
        have hkn : zP.kn = false := rfl
        go_wp2_with fail
        refine (seen_any w1.heap.size f 0 _ T6.out).mono ?_
        rintro e w7 ⟨rfl, rfl⟩
        go_wp2_with fail
        refine (seen_any wr.heap.size _ 77 _ C6.out).mono ?_
        rintro e w7 ⟨rfl, rfl⟩
        go_wp2_with fail
        refine (alive_any w1.heap.size f 0 _ T6.out).mono ?_
        rintro e w7 ⟨u2, rfl, ho, hf⟩
        have Q7 := Lib.hid ho.holds
        have O7 := Lib.hid (O6.out.keep hf).holds
        have F7 := Lib.hid (F6.out.trans hf)
        clear ho hf
        go_wp2_with fail
        refine (sameI_any _ _ _ _ _ Q7.out O7.out (by have := alV_len f 16; omega) true (by simp)).mono ?_
        rintro e w8 ⟨rfl, hg⟩
        go_wp2
        go_ret
        exact ⟨rfl, grown_trans (F7.out.grown (by simp)) hg⟩
  · have hl' : ((l.length : Int) > 20) := by omega
    go_enter Try.func3, Try.ntmps3
    go_wp2_with fail
    refine (first_any _).mono ?_
    rintro e w1 ⟨rfl, hf⟩
    go_wp2
    go_ret
    exact ⟨rfl, hf.grown (by simp)⟩
end Go.Proofs.Ytgpdpembddajhaa
