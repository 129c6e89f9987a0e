/- The law of hops: in one epoch hops are taken only rising, whatever comes between; of copies the first alone; a greater epoch begins anew: its walk. -/
import Derived.Test.YtlkpgpiklfbacaaGFirst
namespace Go.Proofs.Ytlkpgpiklfbacaa
open Go.RowKit

/-- The members: 0, 1, .. -/
def upTo : Nat → List Int
  | 0 => []
  | n + 1 => upTo n ++ [(n : Int)]
theorem upTo_len : ∀ n, (upTo n).length = n
  | 0 => rfl
  | n + 1 => by simp [upTo, upTo_len n]
theorem zero_upTo : ∀ n, 0 < n → (0 : Int) ∈ upTo n
  | 0, h => absurd h (by decide)
  | 1, _ => by simp [upTo]
  | n + 2, _ => by
    have := zero_upTo (n + 1) (by omega)
    show (0 : Int) ∈ upTo (n + 1) ++ [((n + 1 : Nat) : Int)]
    exact List.mem_append.2 (.inl this)
theorem would_hop (ml : List Int) (hz : (0 : Int) ∈ ml) (t h : Int) : wouldB ⟨1, 1, t, 0⟩ 0 0 ⟨1, 1, h, ml⟩ = decide (t < h) := by
  unfold wouldB
  rw [show allowsB ⟨1, 1, t, 0⟩ 1 1 = true by simp [allowsB, epOk]]
  dsimp only
  rw [decide_eq_true hz, show epLt 1 1 1 1 = false by decide]
  simp
theorem would_one (ml : List Int) (hz : (0 : Int) ∈ ml) (h : Int) : wouldB ⟨0, 0, 0, 0⟩ 0 0 ⟨1, 1, h, ml⟩ = true := by
  unfold wouldB
  rw [show allowsB ⟨0, 0, 0, 0⟩ 1 1 = true by decide]
  dsimp only
  rw [decide_eq_true hz, show epLt 0 0 1 1 = true by decide]
  rfl
theorem would_two (s : GS) (ml : List Int) (hz : (0 : Int) ∈ ml) (hs : s = ⟨0, 0, 0, 0⟩ ∨ ∃ t, s = ⟨1, 1, t, 0⟩) : wouldB s 0 0 ⟨1, 2, 0, ml⟩ = true ∧ freshB s ⟨1, 2, 0, ml⟩ = true ∧ s.tk ⟨1, 2, 0, ml⟩ = ⟨1, 2, 0, 0⟩ := by
  rcases hs with rfl | ⟨t, rfl⟩
  · unfold wouldB
    rw [show allowsB ⟨0, 0, 0, 0⟩ 1 2 = true by decide]
    dsimp only
    rw [decide_eq_true hz, show epLt 0 0 1 2 = true by decide]
    exact ⟨rfl, rfl, rfl⟩
  · unfold wouldB
    rw [show allowsB ⟨1, 1, t, 0⟩ 1 2 = true by simp [allowsB, epOk]]
    dsimp only
    rw [decide_eq_true hz, show epLt 1 1 1 2 = true by decide]
    exact ⟨rfl, rfl, rfl⟩
theorem would_same (ml : List Int) : wouldB ⟨1, 2, 0, 0⟩ 0 0 ⟨1, 2, 0, ml⟩ = false := by
  unfold wouldB
  dsimp only
  rw [show epLt 1 2 1 2 = false by decide]
  simp

set_option maxHeartbeats 4000000 in
set_option maxRecDepth 100000 in
theorem ghops_walk (v : Value) (l : List Int) (m0 : Int) (hwl : ∀ n ∈ l, (Lit.int .i64 n).wf = true) (hwm : (Lit.int .i64 m0).wf = true) (w : World) (hh : HInts w v l) :
    Calls Try.prog 7 #[v, .int .i64 m0] w fun e w' => e = .returned (.bool true) ∧ w.grownBy w' none := by
  obtain ⟨ad, cap, rfl, h1, h2, h3⟩ := hh
  unfold maxLen at h2
  have HC := Lib.hid h3
  have HWL := Lib.hid hwl
  have bm := bounds_i64 hwm
  have HN := Lib.hid (fun W => numberTo_any m0 5 W (by omega) (by omega) bm.1 bm.2)
  obtain ⟨N, hN⟩ : ∃ N : Nat, (N : Int) = m0 % 5 := ⟨(m0 % 5).toNat, by omega⟩
  have hN5 : N < 5 := by omega
  rw [← hN] at HN
  obtain ⟨i0, hi, hz0, hz1, hz2⟩ := info_parts infoI
  clear h3 hwl bm hwm hN
  by_cases hl : l.length ≤ 40
  · go_enter Try.func7, Try.ntmps7
    go_wp2_with fail
    refine (first_any _).mono ?_
    rintro e w1 ⟨rfl, hf⟩
    have HF1 := Lib.hid hf
    clear hf
    go_wp2
    go_loopw [6, 7] (fun mv i wr => ∃ k : Nat, k ≤ N + 1 ∧ i = .int .i64 k ∧ OwnI wr w1.heap.size mv (upTo k) ∧ Fr w1 wr []) (fun _ i _ => N + 1 - (intOf i).toNat)
    case atStart => exact ⟨0, Nat.zero_le _, rfl, OwnI.nil _ _, Fr.refl _ _⟩
    case round =>
      obtain ⟨k, hk, rfl, hown, hg⟩ := hrel
      have HO := Lib.hid hown
      have HG := Lib.hid hg
      clear hown hg
      by_cases hlt : k < N + 1
      · have hle : (k : Int) ≤ (N : Int) := by omega
        have HLN := Lib.hid (upTo_len k)
        have hsz := HG.out.size
        go_wp2_with fail
        refine (HN.out _).mono ?_
        rintro e w' ⟨rfl, rfl⟩
        go_wp2_with (at_builtin; refine wpList_append_own _ rfl _ _ 26 rfl w1.heap.size 3 i0 (.int .i64 0) 1 8 Try.underlying26 hi hz0 hz1 hz2 rfl (by decide) _ _ _ rfl (World.ownsRow.alloc HO.out _) ⟨wr.heap.size, 0, none⟩ 1 1 [.int .i64 (k : Int)] rfl rfl (cell_one_new _ _ _) (one_cell _ _) (by rw [HLN.out]; unfold maxLen; omega) (by rw [HLN.out]; omega) (by simp; omega) ?_; intro v' w2 hown2 hg2 _)
        have hgr : Fr w1 w2 [] := (HG.out.trans (Fr.alloc wr _ [])).grown_own hg2 (fun r hr => .inr (HO.out.block r hr).1)
        have ho2 : OwnI w2 w1.heap.size v' (upTo (k + 1)) := OwnI.snoc hown2
        have HG2 := Lib.hid hgr
        have HO2 := Lib.hid ho2
        clear hgr ho2 hown2 hg2
        go_wp2
        go_roundw
        case rel => exact ⟨k + 1, by omega, by go_num, HO2.out, HG2.out⟩
        case measure => simp [intOf]; omega
      · obtain rfl : k = N + 1 := by omega
        have hle : ¬ (((N + 1 : Nat) : Int) ≤ (N : Int)) := by omega
        have HZ := Lib.hid (zero_upTo (N + 1) (by omega))
        generalize upTo (N + 1) = ml at HO HZ
        have hd : decide (((N + 1 : Nat) : Int) ≤ (N : Int)) = false := by simp only [decide_eq_false_iff_not]; exact hle
        obtain ⟨am, nm, cm, hu⟩ := HO.out.holds.sl
        obtain rfl := hu
        go_wp2_with fail
        refine (HN.out _).mono ?_
        rintro e w' ⟨rfl, rfl⟩
        obtain ⟨P, hP⟩ : ∃ P, wr.heap.size = P := ⟨_, rfl⟩
        have HNE : Hid ((Value.slice am nm cm).ownBlock ≠ some P) := by
          show _
          intro e
          have := (HO.out.block P e).2
          omega
        have hnew := new_any 0 wr
        rw [hP] at hnew
        have HNW := Lib.hid hnew
        clear hnew
        go_wp2_with fail
        refine HNW.out.mono ?_
        rintro e w2 ⟨rfl, hg, hf⟩
        have HG2 := Lib.hid hg
        have HM := Lib.hid (HO.out.holds.keep hf)
        have HF2 := Lib.hid (HG.out.trans hf)
        have hsz := HG.out.size
        rw [hP] at hsz
        have HSZ := Lib.hid hsz
        clear hg hf hle hd hP HO HG HNW hsz
        go_wp2
        go_loopw [9, 10] (fun la i wx => ∃ (k : Nat) (t : Int) (s : GS), k ≤ l.length ∧ i = .int .i64 k ∧ la = .int .i64 t ∧ ((k = 0 ∧ t = 0 ∧ s = ⟨0, 0, 0, 0⟩) ∨ (0 < k ∧ s = ⟨1, 1, t, 0⟩)) ∧ Gt wx P s ∧ HInts wx (.slice am nm cm) ml ∧ Fr w1 wx []) (fun _ i _ => l.length - (intOf i).toNat)
        case atStart => exact ⟨0, 0, _, Nat.zero_le _, rfl, rfl, .inl ⟨rfl, rfl, rfl⟩, HG2.out, HM.out, HF2.out⟩
        case round =>
          obtain ⟨k, t, s, hk, rfl, rfl, hs, hg, hm, hf⟩ := hrel
          have GX := Lib.hid hg
          have MX := Lib.hid hm
          have FX := Lib.hid hf
          clear hg hm hf
          by_cases hlt : k < l.length
          · obtain ⟨b1, o1, rfl, k1⟩ := HC.out (by omega)
            have g1 := (HF1.out.trans FX.out).cell (k1 k hlt) (by simp)
            have hb := bounds_i64 (HWL.out (l.getD k 0) (by simp [hlt]))
            obtain ⟨z, hz⟩ : ∃ z, z = l.getD k 0 := ⟨_, rfl⟩
            rw [← hz] at g1 hb
            have HNZ := Lib.hid (fun W => numberTo_any z 30 W (by omega) (by omega) hb.1 hb.2)
            obtain ⟨h, hh⟩ : ∃ h, z % 30 = h := ⟨_, rfl⟩
            rw [hh] at HNZ
            clear hz hb hh k1
            have RA := Lib.hid (heap_alloc_new wr (.cells #[.int .i64 1, .int .i64 1, .int .i64 h, .slice am nm cm, .slice none 0 0] 29))
            have FA := Lib.hid (Fr.alloc wr (.cells #[.int .i64 1, .int .i64 1, .int .i64 h, .slice am nm cm, .slice none 0 0] 29) [])
            have GA := Lib.hid (GX.out.keep FA.out)
            have MA := Lib.hid (MX.out.keep FA.out)
            have FA2 := Lib.hid (FX.out.trans FA.out)
            rcases hs with ⟨rfl, rfl, rfl⟩ | ⟨hk0, rfl⟩
            · rw [Nat.add_zero] at g1
              go_wp2_with fail
              refine (HNZ.out _).mono ?_
              rintro e w' ⟨rfl, rfl⟩
              go_wp2_with fail
              refine (take_yes P ⟨0, 0, 0, 0⟩ 0 0 ⟨1, 1, h, ml⟩ _ _ _ GA.out MA.out (slice_sl _ _ _) (would_one ml HZ.out h)).mono ?_
              rintro e w3 ⟨rfl, hg, hf⟩
              rw [show freshB ⟨0, 0, 0, 0⟩ ⟨1, 1, h, ml⟩ = true by simp [freshB]]
              have G3 := Lib.hid (show Gt w3 P ⟨1, 1, h, 0⟩ from hg)
              have M3 := Lib.hid (MA.out.fr hf (by intro r hr; obtain rfl := List.mem_singleton.1 hr; exact HNE.out))
              have F3 := Lib.hid (FA2.out.new hf (by have := HSZ.out; simp; omega))
              clear hg hf
              go_wp2_with fail
              refine (hop_any P ⟨1, 1, h, 0⟩ _ G3.out).mono ?_
              rintro e w' ⟨rfl, rfl⟩
              go_wp2
              go_roundw
              case rel => exact ⟨0 + 1, h, _, by omega, by go_num, rfl, .inr ⟨by omega, rfl⟩, G3.out, M3.out, F3.out⟩
              case measure => simp [intOf]; omega
            · have hk1 : ((k : Int) == 0) = false := by simp; omega
              by_cases hth : t < h
              · have hmx : max t h = h := by omega
                have hwd : wouldB ⟨1, 1, t, 0⟩ 0 0 ⟨1, 1, h, ml⟩ = true := by rw [would_hop ml HZ.out, decide_eq_true hth]
                have HWD := Lib.hid hwd
                clear hwd
                go_wp2_with fail
                refine (HNZ.out _).mono ?_
                rintro e w' ⟨rfl, rfl⟩
                go_wp2_with fail
                refine (take_yes P ⟨1, 1, t, 0⟩ 0 0 ⟨1, 1, h, ml⟩ _ _ _ GA.out MA.out (slice_sl _ _ _) HWD.out).mono ?_
                rintro e w3 ⟨rfl, hg, hf⟩
                rw [show freshB ⟨1, 1, t, 0⟩ ⟨1, 1, h, ml⟩ = false by simp [freshB]]
                have G3 := Lib.hid (show Gt w3 P ⟨1, 1, h, 0⟩ from hg)
                have M3 := Lib.hid (MA.out.fr hf (by intro r hr; obtain rfl := List.mem_singleton.1 hr; exact HNE.out))
                have F3 := Lib.hid (FA2.out.new hf (by have := HSZ.out; simp; omega))
                clear hg hf
                go_wp2_with fail
                refine (hop_any P ⟨1, 1, h, 0⟩ _ G3.out).mono ?_
                rintro e w' ⟨rfl, rfl⟩
                go_wp2
                go_roundw
                case rel => exact ⟨k + 1, h, _, by omega, by go_num, rfl, .inr ⟨by omega, rfl⟩, G3.out, M3.out, F3.out⟩
                case measure => simp [intOf]; omega
              · have hmx : max t h = t := by omega
                have hwd : wouldB ⟨1, 1, t, 0⟩ 0 0 ⟨1, 1, h, ml⟩ = false := by rw [would_hop ml HZ.out, decide_eq_false hth]
                have HWD := Lib.hid hwd
                clear hwd
                go_wp2_with fail
                refine (HNZ.out _).mono ?_
                rintro e w' ⟨rfl, rfl⟩
                go_wp2_with fail
                refine (take_no P ⟨1, 1, t, 0⟩ 0 0 ⟨1, 1, h, ml⟩ _ _ _ GA.out MA.out (slice_sl _ _ _) HWD.out).mono ?_
                rintro e w3 ⟨rfl, hf⟩
                have G3 := Lib.hid (GA.out.keep hf)
                have M3 := Lib.hid (MA.out.keep hf)
                have F3 := Lib.hid (FA2.out.trans hf)
                clear hf
                by_cases hq : t = h
                · have hqb : (t == h) = true := by simp [hq]
                  clear hq
                  go_wp2_with fail
                  refine (hop_any P ⟨1, 1, t, 0⟩ _ G3.out).mono ?_
                  rintro e w' ⟨rfl, rfl⟩
                  go_wp2
                  go_roundw
                  case rel => exact ⟨k + 1, t, _, by omega, by go_num, rfl, .inr ⟨by omega, rfl⟩, G3.out, M3.out, F3.out⟩
                  case measure => simp [intOf]; omega
                · have hqb : (t == h) = false := by simp [hq]
                  clear hq
                  go_wp2_with fail
                  refine (hop_any P ⟨1, 1, t, 0⟩ _ G3.out).mono ?_
                  rintro e w' ⟨rfl, rfl⟩
                  go_wp2
                  go_roundw
                  case rel => exact ⟨k + 1, t, _, by omega, by go_num, rfl, .inr ⟨by omega, rfl⟩, G3.out, M3.out, F3.out⟩
                  case measure => simp [intOf]; omega
          · obtain rfl : k = l.length := by omega
            have HS := Lib.hid (would_two s ml HZ.out (hs.imp (fun h => h.2.2) (fun h => ⟨t, h.2⟩)))
            have RA := Lib.hid (heap_alloc_new wr (.cells #[.int .i64 1, .int .i64 2, .int .i64 0, .slice am nm cm, .slice none 0 0] 29))
            have FA := Lib.hid (Fr.alloc wr (.cells #[.int .i64 1, .int .i64 2, .int .i64 0, .slice am nm cm, .slice none 0 0] 29) [])
            have GA := Lib.hid (GX.out.keep FA.out)
            have MA := Lib.hid (MX.out.keep FA.out)
            have FA2 := Lib.hid (FX.out.trans FA.out)
            have hPl := GX.out.lt
            clear hs
            go_wp2_with fail
            refine (take_yes P s 0 0 ⟨1, 2, 0, ml⟩ _ _ _ GA.out MA.out (slice_sl _ _ _) HS.out.1).mono ?_
            rintro e w3 ⟨rfl, hg, hf⟩
            rw [HS.out.2.1]
            rw [HS.out.2.2] at hg
            have G3 := Lib.hid hg
            have M3 := Lib.hid (MA.out.fr hf (by intro r hr; obtain rfl := List.mem_singleton.1 hr; exact HNE.out))
            have R3 := Lib.hid (hf.heap RA.out (by simp; omega))
            have F3 := Lib.hid (FA2.out.new hf (by have := HSZ.out; simp; omega))
            clear hg hf hPl
            obtain ⟨r0, r1, r2, r3, r4⟩ := row5 R3.out
            go_wp2_with fail
            refine (hop_any P ⟨1, 2, 0, 0⟩ _ G3.out).mono ?_
            rintro e w' ⟨rfl, rfl⟩
            go_wp2_with fail
            refine (would_any P ⟨1, 2, 0, 0⟩ 0 0 ⟨1, 2, 0, ml⟩ _ _ _ G3.out M3.out (slice_sl _ _ _) false (would_same ml)).mono ?_
            rintro e w4 ⟨rfl, hf⟩
            go_wp2
            go_ret
            exact ⟨rfl, ((HF1.out.trans F3.out).trans hf).grown (by simp)⟩
  · have hl' : ((l.length : Int) > 40) := by omega
    go_enter Try.func7, Try.ntmps7
    go_wp2_with fail
    refine (first_any _).mono ?_
    rintro e w1 ⟨rfl, hf⟩
    go_wp2
    go_ret
    exact ⟨rfl, hf.grown (by simp)⟩
end Go.Proofs.Ytlkpgpiklfbacaa
