/- CallsPlay: whatever is put, deleted, kept: what is there, in order, each answer, are what the chapter says; a copy goes its own way. -/
import Derived.Test.YtfopmpaoigdelaaKFirst
import Derived.Test.YtfopmpaoigdelaaKDoc3
import Derived.Test.YtfopmpaoigdelaaKOpen
import Derived.Deep.DeepCutAuto
import Derived.Deep.CutBlock
namespace Go.Proofs.Ytfopmpaoigdelaa
open Go.RowKit

theorem del_lt {L : List La} (h : Sd L) (f d : Int) : decide ((delL L f d).length < L.length) = hasL L f d := by
  rw [del_len h f d]
  cases hb : hasL L f d with
  | true => have := (h.del_yes f d hb).2; simp; omega
  | false => simp
theorem row5 {w : World} {g : Nat} {a b c d e : Value} {T : TypeId} (h : w.heap[g]? = some (.cells #[a, b, c, d, e] T (0, 0))) :
    w.cell? ⟨g, 0, none⟩ = some a ∧ w.cell? ⟨g, 1, none⟩ = some b ∧ w.cell? ⟨g, 2, none⟩ = some c ∧ w.cell? ⟨g, 3, none⟩ = some d ∧ w.cell? ⟨g, 4, none⟩ = some e :=
  ⟨by rw [cell_of_row w g 0 _ _ _ h]; rfl, by rw [cell_of_row w g 1 _ _ _ h]; rfl, by rw [cell_of_row w g 2 _ _ _ h]; rfl, by rw [cell_of_row w g 3 _ _ _ h]; rfl, by rw [cell_of_row w g 4 _ _ _ h]; rfl⟩
theorem getS_any (B p : Nat) (s : Value) (L : List La) (f d : Int) (w : World) (h : Ss w B p s L) (hl : L.length ≤ 1000000) (x : La) (hx : x = getL L f d) (b : Bool) (hb : b = hasL L f d) :
    Calls Try.prog 9 #[.pointer (some ⟨p, 0, none⟩), .agg #[.int .i64 f, .int .i64 d]] w fun e w' => e = .returned (.tuple #[.agg #[.int .i64 x.f, .int .i64 x.d, .int .i64 x.g], .bool b]) ∧ Fr w w' [] := by
  cases hq : hasL L f d with
  | true => rw [hb, hq]; exact getS_yes B p s L f d w h hl hq x hx
  | false => rw [hb, hq, hx, get_no hq]; exact getS_no B p s L f d w h hl hq
theorem has_snoc (L : List La) (f d : Int) (k : Nat) (hk : k < L.length) : hasL (L.take (k + 1)) f d = (hasL (L.take k) f d || isAt f d (L.getD k zLa)) := by
  unfold hasL
  rw [la_snoc L k hk, List.any_append]
  simp
/-- Behind the set's own turns what lies low stays. -/
theorem Fr.low {w w' : World} {S : List Nat} {q k : Nat} {o : Obj} (h : Fr w w' S) (hS : ∀ r ∈ S, q ≤ r) (hk : k < q) (ho : w.heap[k]? = some o) : w'.heap[k]? = some o :=
  h.heap ho (fun hm => by have := hS k hm; omega)
/-- No block of its own in common. -/
def Ap (s1 s2 : Value) : Prop := ∀ r, s1.ownBlock = some r → s2.ownBlock ≠ some r
theorem own_past {w w' : World} {B q : Nat} {s v : Value} {T L : List La} (ho : OwnL w B v T) (hs : Ss w B q s L) (ha : Ap v s) (hf : Fr w w' (sbs q s)) : OwnL w' B v T := by
  refine ho.fr hf (fun r hr e => ?_)
  rcases mem_sbs.1 hr with e' | e'
  · subst e'; exact row_ne ho hs.1 (by decide) e
  · exact ha r e e'
/-- A set high up stays. -/
theorem set_past {w w' : World} {b q c : Nat} {s sc : Value} {T : List La} (h : Ss w b c sc T) (hm : ∀ r ∈ sbs q s, r < b) (hc : b ≤ c) (hf : Fr w w' (sbs q s)) : Ss w' b c sc T :=
  h.fr hf (fun hm' => by have := hm c hm'; omega) (fun r hr e => by have := hm r hr; have := (h.own r e).1; omega)
/-- What stands between two things told. -/
structure KP (W : World) (n0 q : Nat) (af ad bf bd : Int) (hv s : Value) (L : List La) (a : World) : Prop where
  st : Ss a q q s L
  hl : OwnL a q hv L
  ap : Ap hv s
  ra : a.heap[n0]? = some (.cells #[.int .i64 af, .int .i64 ad] 23 (0, 0))
  rb : a.heap[n0 + 1]? = some (.cells #[.int .i64 bf, .int .i64 bd] 23 (0, 0))
  fr : Fr W a []
theorem KP.keep {W a a' : World} {n0 q : Nat} {af ad bf bd : Int} {hv s : Value} {L : List La} (h : KP W n0 q af ad bf bd hv s L a) (k : Fr a a' []) : KP W n0 q af ad bf bd hv s L a' :=
  ⟨h.st.keep k, h.hl.keep k, h.ap, k.heap h.ra (by simp), k.heap h.rb (by simp), h.fr.trans k⟩
/-- The set turns, and the document's list is a new one. -/
theorem KP.turn {W a a' a'' : World} {n0 q : Nat} {af ad bf bd : Int} {hv s u : Value} {L L' : List La} (h : KP W n0 q af ad bf bd hv s L a) (hn0 : n0 + 1 < q) (hW : W.heap.size ≤ q) (hn : NewQ a L' u a') (ht : Turned a' q q s L' a'') :
    ∃ s', KP W n0 q af ad bf bd u s' L' a'' := by
  obtain ⟨s', hs', hf, ho⟩ := ht
  have hlow := sbs_new (h.st.keep hn.2) (Nat.le_refl q) (Nat.le_refl q)
  have hq : q ≤ a.heap.size := Nat.le_of_lt h.st.lt
  have hap : Ap u s := fun r hr e => by have h1 := (hn.1.block r hr).1; have h2 := (h.st.own r e).2; omega
  refine ⟨s', hs', own_past (row_mono hn.1 hq) (h.st.keep hn.2) hap hf, fun r hr e => ?_, (hf.low hlow (by omega) (hn.2.heap h.ra (by simp))), (hf.low hlow hn0 (hn.2.heap h.rb (by simp))), (h.fr.trans hn.2).new hf (fun r hr => by have := hlow r hr; omega)⟩
  rcases ho r e with e' | e'
  · exact hap r hr e'
  · have := (hn.1.block r hr).2; omega

set_option maxHeartbeats 4000000 in
set_option maxRecDepth 100000 in
theorem plays_true (v : Value) (l : List KD) (af ad bf bd : Int) (w : World) (hv : HKDs w v l) :
    Calls Try.prog 4 #[v, .agg #[.int .i64 af, .int .i64 ad], .agg #[.int .i64 bf, .int .i64 bd]] w fun e w' => e = .returned (.bool true) ∧ Fr w w' [] := by
  obtain ⟨va, vc, rfl, p1, m1, r1⟩ := hv
  unfold maxLen at m1
  have HC := Lib.hid r1
  obtain ⟨n, hn⟩ : ∃ n, n = l.length := ⟨_, rfl⟩
  rw [← hn] at p1 HC ⊢
  clear r1 hn
  have HF0 := Lib.hid (SC.boxes w af ad bf bd).1
  have HA0 := Lib.hid ((Fr.alloc _ (.cells #[.int .i64 bf, .int .i64 bd] 23) []).heap (heap_alloc_new w (.cells #[.int .i64 af, .int .i64 ad] 23)) (by simp))
  have hB0 := heap_alloc_new (w.alloc (.cells #[.int .i64 af, .int .i64 ad] 23)) (.cells #[.int .i64 bf, .int .i64 bd] 23)
  rw [show (w.alloc (.cells #[.int .i64 af, .int .i64 ad] 23)).heap.size = w.heap.size + 1 by simp] at hB0
  have HB0 := Lib.hid hB0
  clear hB0
  by_cases hs60 : n ≤ 60
  · go_enter Try.func4, Try.ntmps4
    go_wp2_with fail
    refine (first_any _).mono ?_
    rintro e w1 ⟨rfl, hf⟩
    obtain ⟨q, hq⟩ : ∃ q, q = w1.heap.size := ⟨_, rfl⟩
    have hA1 := Fr.alloc w1 (.cells #[.slice none 0 0] 29) []
    have hS1 := Ss.new w1 q
    rw [← hq] at hS1
    have HQ := Lib.hid (show w.heap.size + 1 < q from hq ▸ Nat.lt_of_lt_of_le (size_of_row HB0.out) hf.size)
    have HK0 := Lib.hid (show KP w w.heap.size q af ad bf bd (.slice none 0 0) (.slice none 0 0) [] (w1.alloc (.cells #[.slice none 0 0] 29)) from
      ⟨hS1, OwnL.nil _ _, fun r hr => by simp [Value.ownBlock] at hr, (hf.trans hA1).heap HA0.out (by simp), (hf.trans hA1).heap HB0.out (by simp), (HF0.out.trans hf).trans hA1⟩)
    have HQE := Lib.hid hq
    have HWQ := Lib.hid (show w.heap.size ≤ q from hq ▸ Nat.le_trans HF0.out.size hf.size)
    clear hf hA1 hS1 hq
    go_wp2
    rw [← HQE.out]
    go_loopw [9, 10] (fun s9 s10 wr => ∃ i : Nat, i ≤ n ∧ s10 = .int .i64 i ∧ ∃ s L, L.length ≤ i ∧ Hid (KP w w.heap.size q af ad bf bd s9 s L wr)) (fun _ i _ => n - (intOf i).toNat)
    case atStart => exact ⟨0, Nat.zero_le _, rfl, _, [], Nat.le_refl _, HK0.out⟩
    case round =>
      clear HK0
      obtain ⟨i, hi, rfl, s, L, hL, HK⟩ := hrel
      by_cases hlt : i < n
      · obtain ⟨bk, off, rfl, hc⟩ := HC.out (by omega)
        obtain ⟨⟨K, x, Kp⟩, hx⟩ : ∃ x, x = l.getD i zKD := ⟨_, rfl⟩
        obtain ⟨vb, hck⟩ := hc i hlt
        rw [← hx] at hck
        obtain ⟨g0, g1, g2, g3, g4, hKp⟩ := hck
        dsimp only at g0 g1 g2 g3 g4 hKp
        obtain ⟨ka, kc, rfl, kp1, kp2⟩ := hKp.len
        obtain ⟨nk, hnk⟩ : ∃ nk, nk = Kp.length := ⟨_, rfl⟩
        have HNK := Lib.hid hnk
        rw [← hnk] at g4 hKp kp1
        unfold maxLen at kp2
        have HKP := Lib.hid hKp
        replace g0 := HK.out.fr.cell g0 (by simp)
        replace g1 := HK.out.fr.cell g1 (by simp)
        replace g2 := HK.out.fr.cell g2 (by simp)
        replace g3 := HK.out.fr.cell g3 (by simp)
        replace g4 := HK.out.fr.cell g4 (by simp)
        have D0 := Lib.hid (heap_alloc_new wr (.cells #[.int .i64 K, .int .i64 x.f, .int .i64 x.d, .int .i64 x.g, .slice ka nk kc] 42))
        have KA := Lib.hid (HK.out.keep (Fr.alloc wr (.cells #[.int .i64 K, .int .i64 x.f, .int .i64 x.d, .int .i64 x.g, .slice ka nk kc] 42) []))
        clear hc hx hnk hKp HK
        by_cases hn20 : nk ≤ 20
        · have hL60 : L.length ≤ 60 := by omega
          obtain ⟨bd0, hbd⟩ : ∃ bd0, bd0 = wr.heap.size := ⟨_, rfl⟩
          have HBD := Lib.hid hbd
          go_wp2_with fail
          refine (cloneS_any q q s L _ KA.out.st (by omega)).mono ?_
          rintro e w4 ⟨u, rfl, cq, sc, rfl, hcs, hcq, hcf⟩
          have HCM := Lib.hid KA.out.st.mem
          have HCQ := Lib.hid hcq
          have HCS := Lib.hid hcs
          have K4 := Lib.hid (KA.out.keep hcf)
          have D4 := Lib.hid (hcf.heap D0.out (by simp))
          have HLC := Lib.hid (len_any _ _ _ _ _ HCS.out)
          have HWB := Lib.hid (show wr.heap.size < (wr.alloc (.cells #[.int .i64 K, .int .i64 x.f, .int .i64 x.d, .int .i64 x.g, .slice ka nk kc] 42)).heap.size by simp)
          obtain ⟨b, hb⟩ : ∃ b, b = (wr.alloc (.cells #[.int .i64 K, .int .i64 x.f, .int .i64 x.d, .int .i64 x.g, .slice ka nk kc] 42)).heap.size := ⟨_, rfl⟩
          rw [← hb] at HCM HCQ HCS HWB
          rw [← hbd] at D4 HWB
          clear hcs hcq hcf g0 g1 g2 g3 g4 D0 KA hb
          go_wp2_with fail
          refine HLC.out.mono ?_
          rintro e w5 ⟨rfl, rfl⟩
          obtain ⟨d0, d1, d2, d3, d4⟩ := row5 D4.out
          rw [hbd] at d0 d1 d2 d3 d4
          clear HLC hbd
          go_upto_block 2 with fail
          go_cut [9] (fun s9 wx => ∃ s' L', L'.length ≤ i + 1 ∧ Hid (KP w w.heap.size q af ad bf bd s9 s' L' wx) ∧ Hid (Ss wx b cq sc L))
          case first =>
            by_cases hk1 : K = 1
            · subst hk1
              obtain ⟨pb, hpb⟩ : ∃ pb, pb = !hasL L x.f x.d := ⟨_, rfl⟩
              have HPL := Lib.hid (putLatch_any q _ L x _ K4.out.hl K4.out.st.2.2 (by omega) pb hpb)
              have hne : (pb != pb) = false := by simp
              have HPB := Lib.hid hpb
              clear hpb
              go_wp2_with fail
              refine HPL.out.mono ?_
              rintro e w6 ⟨u, rfl, hNQ⟩
              have HNQ := Lib.hid hNQ
              obtain ⟨e0, e1, e2, e3, e4⟩ := row5 (hNQ.2.heap D4.out (by simp))
              rw [HBD.out] at e0 e1 e2 e3 e4
              have HPS := Lib.hid (putS_any q q s L x w6 (K4.out.st.keep hNQ.2) (Nat.le_of_lt (K4.out.st.keep hNQ.2).lt) (by omega) pb HPB.out)
              clear hNQ d0 d1 d2 d3 d4
              go_wp2_with fail
              refine HPS.out.mono ?_
              rintro e w7 ⟨rfl, s', hs', hf, ho⟩
              have HC7 := Lib.hid (set_past (HCS.out.keep HNQ.out.2) HCM.out HCQ.out hf)
              have HK7 := Lib.hid (K4.out.turn HQ.out (by have := HQ.out; have := HWQ.out; omega) HNQ.out ⟨s', hs', hf, ho⟩)
              have HLE := Lib.hid (show (putL L x).length ≤ i + 1 by have := put_le L K4.out.st.2.2 x; omega)
              clear hs' hf ho e0 e1 e2 e3 e4
              go_wp2_with fail
              obtain ⟨s'', HK8⟩ := HK7.out
              go_meet
              exact ⟨s'', _, HLE.out, HK8, HC7⟩
            · have hkb : (K == 1) = false := by simp [hk1]
              by_cases hk2 : K = 2
              · subst hk2
                obtain ⟨pb, hpb⟩ : ∃ pb, pb = hasL L x.f x.d := ⟨_, rfl⟩
                have HPL := Lib.hid (delLatch_any _ L x.f x.d _ K4.out.hl.holds (by omega) pb (by rw [hpb, del_lt K4.out.st.2.2]))
                have hne : (pb != pb) = false := by simp
                have HPB := Lib.hid hpb
                clear hpb hk1
                go_wp2_with fail
                refine HPL.out.mono ?_
                rintro e w6 ⟨u, rfl, hNQ⟩
                have HNQ := Lib.hid hNQ
                obtain ⟨e0, e1, e2, e3, e4⟩ := row5 (hNQ.2.heap D4.out (by simp))
                rw [HBD.out] at e0 e1 e2 e3 e4
                have HPS := Lib.hid (delS_any q q s L x.f x.d w6 (K4.out.st.keep hNQ.2) (by omega) pb HPB.out)
                clear hNQ d0 d1 d2 d3 d4
                go_wp2_with fail
                refine HPS.out.mono ?_
                rintro e w7 ⟨rfl, s', hs', hf, ho⟩
                have HC7 := Lib.hid (set_past (HCS.out.keep HNQ.out.2) HCM.out HCQ.out hf)
                have HK7 := Lib.hid (K4.out.turn HQ.out (by have := HQ.out; have := HWQ.out; omega) HNQ.out ⟨s', hs', hf, ho⟩)
                have HLE := Lib.hid (show (delL L x.f x.d).length ≤ i + 1 by have := del_le L x.f x.d; omega)
                clear hs' hf ho e0 e1 e2 e3 e4
                go_wp2_with fail
                obtain ⟨s'', HK8⟩ := HK7.out
                go_meet
                exact ⟨s'', _, HLE.out, HK8, HC7⟩
              · have hkb2 : (K == 2) = false := by simp [hk2]
                by_cases hk3 : K = 3
                · subst hk3
                  have HPL := Lib.hid (keepLatch_any _ L _ Kp _ K4.out.hl.holds (HKP.out.keep K4.out.fr) (by omega))
                  obtain ⟨ha, hcp, hhv⟩ := K4.out.hl.shape
                  obtain ⟨N, hN⟩ : ∃ N, N = L.length := ⟨_, rfl⟩
                  obtain ⟨M, hM⟩ : ∃ M, M = (keepL L Kp).length := ⟨_, rfl⟩
                  have hMN : M ≤ N := by rw [hM, hN]; exact keep_le L Kp
                  have hwr : IntKind.i64.wrap ((N : Int) - (M : Int)) = (N : Int) - (M : Int) := by rw [IntKind.wrap_i64]; omega
                  have HN := Lib.hid hN
                  have HM := Lib.hid hM
                  rw [← hN] at hhv hL60
                  subst hhv
                  clear hN hM hk1 hk2
                  go_wp2_with fail
                  refine HPL.out.mono ?_
                  rintro e w6 ⟨u, rfl, hNQ⟩
                  have HNQ := Lib.hid hNQ
                  obtain ⟨ua, uc, hu⟩ := hNQ.1.shape
                  rw [← HM.out] at hu
                  subst hu
                  obtain ⟨e0, e1, e2, e3, e4⟩ := row5 (hNQ.2.heap D4.out (by simp))
                  rw [HBD.out] at e0 e1 e2 e3 e4
                  have HPS := Lib.hid (keepS_any q q s L _ Kp w6 (K4.out.st.keep hNQ.2) (HKP.out.keep (K4.out.fr.trans hNQ.2)) (Nat.le_of_lt (K4.out.st.keep hNQ.2).lt) (by have := HN.out; omega))
                  rw [← HM.out, ← HN.out] at HPS
                  clear hNQ d0 d1 d2 d3 d4
                  go_wp2_with fail
                  refine HPS.out.mono ?_
                  rintro e w7 ⟨rfl, s', hs', hf, ho⟩
                  have HC7 := Lib.hid (set_past (HCS.out.keep HNQ.out.2) HCM.out HCQ.out hf)
                  have HK7 := Lib.hid (K4.out.turn HQ.out (by have := HQ.out; have := HWQ.out; omega) HNQ.out ⟨s', hs', hf, ho⟩)
                  have HLE := Lib.hid (show (keepL L Kp).length ≤ i + 1 by have := HM.out; have := HN.out; omega)
                  clear hs' hf ho e0 e1 e2 e3 e4
                  go_wp2_with fail
                  obtain ⟨s'', HK8⟩ := HK7.out
                  go_meet
                  exact ⟨s'', _, HLE.out, HK8, HC7⟩
                · have hkb3 : (K == 3) = false := by simp [hk3]
                  have HLE := Lib.hid (show L.length ≤ i + 1 by omega)
                  clear hk1 hk2 hk3
                  go_wp2_with fail
                  go_meet
                  exact ⟨s, _, HLE.out, K4, HCS⟩
          case rest =>
            obtain ⟨s', L', hL', HK5, HC5⟩ := hcut
            obtain ⟨ha5, hc5, hu9⟩ := HK5.out.hl.shape
            obtain ⟨N5, hN5⟩ : ∃ N5, N5 = L'.length := ⟨_, rfl⟩
            obtain ⟨NL, hNL⟩ : ∃ NL, NL = L.length := ⟨_, rfl⟩
            have HN5 := Lib.hid hN5
            have HNL := Lib.hid hNL
            have HAL := Lib.hid (all_any q q s' L' wc HK5.out.st (by omega))
            rw [← hN5] at hu9
            subst hu9
            rw [← hNL] at hL60
            rw [← hN5] at hL'
            clear hN5 hNL hL
            rw [← HNL.out]
            go_wp2_with fail
            refine HAL.out.mono ?_
            rintro e w6 ⟨u3, rfl, hO, hF⟩
            have HK6 := Lib.hid (HK5.out.keep hF)
            have HC6 := Lib.hid (HC5.out.keep hF)
            have HSAME := Lib.hid (latchs_same u3 L' _ L' w6 hO.holds HK6.out.hl.holds true (by simp))
            clear hO hF
            go_wp2_with fail
            with_reducible refine HSAME.out.mono ?_
            rintro e w7 ⟨rfl, hF⟩
            have HK7 := Lib.hid (HK6.out.keep hF)
            have HLN := Lib.hid (len_any _ _ _ _ _ HK7.out.st)
            have HLC := Lib.hid (len_any _ _ _ _ _ (HC6.out.keep hF))
            rw [← HN5.out] at HLN
            rw [← HNL.out] at HLC
            clear hF
            go_wp2_with fail
            refine HLN.out.mono ?_
            rintro e w8 ⟨rfl, rfl⟩
            go_wp2_with fail
            refine HLC.out.mono ?_
            rintro e w9 ⟨rfl, rfl⟩
            go_wp2
            go_roundw
            case rel => exact ⟨i + 1, by omega, by go_num, s', L', by have := HN5.out; omega, HK7⟩
            case measure => simp [intOf]; omega
        · have HFE := Lib.hid KA.out.fr
          go_wp2
          go_ret
          exact ⟨rfl, HFE.out⟩
      · obtain rfl : n = i := by omega
        obtain ⟨ha5, hc5, hu9⟩ := HK.out.hl.shape
        obtain ⟨N, hN⟩ : ∃ N, N = L.length := ⟨_, rfl⟩
        have HN := Lib.hid hN
        rw [← hN] at hu9 hL
        subst hu9
        obtain ⟨hb, hhb⟩ : ∃ hb, hb = hasL L af ad := ⟨_, rfl⟩
        have HHB := Lib.hid hhb
        obtain ⟨y, hy⟩ : ∃ y, y = getL L af ad := ⟨_, rfl⟩
        have HY := Lib.hid hy
        have HG := Lib.hid (getS_any q q s L af ad wr HK.out.st (by omega) y hy hb hhb)
        obtain ⟨a0, a1⟩ := row2 HK.out.ra
        clear hN hhb hy
        go_wp2_with fail
        refine HG.out.mono ?_
        rintro e w2 ⟨rfl, hF⟩
        have HK2 := Lib.hid (HK.out.keep (hF.trans (Fr.alloc w2 (.cells #[.int .i64 y.f, .int .i64 y.d, .int .i64 y.g] 25) [])))
        have HX2 := Lib.hid (heap_alloc_new w2 (.cells #[.int .i64 y.f, .int .i64 y.d, .int .i64 y.g] 25))
        obtain ⟨_, _, hve, hn1, hn2, hr⟩ := HK2.out.hl.holds
        simp only [Value.slice.injEq] at hve
        obtain ⟨hva, _hvl, hvc⟩ := hve
        subst hva
        subst hvc
        clear _hvl
        rw [← HN.out] at hn1 hr
        unfold maxLen at hn2
        have HR := Lib.hid hr
        clear hF hr a0 a1 HG
        go_wp2
        go_loopw [21, 22] (fun s21 s22 wx => ∃ i : Nat, i ≤ N ∧ s22 = .int .i64 i ∧ ∃ hi : Bool, s21 = .bool hi ∧ Hid (hi = hasL (L.take i) af ad) ∧ Hid (Fr (w2.alloc (.cells #[.int .i64 y.f, .int .i64 y.d, .int .i64 y.g] 25)) wx [])) (fun _ i _ => N - (intOf i).toNat)
        case atStart => exact ⟨0, Nat.zero_le _, rfl, false, rfl, (by simp [hasL] : false = hasL (L.take 0) af ad), (Fr.refl _ _ : Fr _ _ _)⟩
        case round =>
          obtain ⟨i, hi', rfl, hi, rfl, HHI, HG⟩ := hrel
          by_cases hlt : i < N
          · obtain ⟨bk, off, rfl, hc⟩ := HR.out (by omega)
            obtain ⟨x, hx⟩ : ∃ x, x = L.getD i zLa := ⟨_, rfl⟩
            have hc1 := hc i hlt
            have hsn := has_snoc L af ad i (by have := HN.out; omega)
            rw [← hx] at hc1 hsn
            have hin : x ∈ L := by rw [hx, List.getD_eq_getElem?_getD, List.getElem?_eq_getElem (by have := HN.out; omega)]; exact List.getElem_mem _
            have hra := HG.out.heap HK2.out.ra (by simp)
            obtain ⟨a0, a1⟩ := row2 hra
            have HKF := Lib.hid (HG.out.trans (Fr.drew wr []))
            have HX := Lib.hid hc1
            have HSB := Lib.hid (show SB wr bk (off + i * 3) w.heap.size x af ad wr.drew from
              ⟨Fr.drew wr [], ⟨HKF.out.cell hc1.1 (by simp), HKF.out.cell hc1.2.1 (by simp), HKF.out.cell hc1.2.2 (by simp)⟩, (Fr.drew wr []).cell a0 (by simp), (Fr.drew wr []).cell a1 (by simp)⟩)
            by_cases hat : x.at af ad
            · have HV0 := Lib.hid (fun W => call_same x.f x.d af ad W true (decide_eq_true hat))
              have hyx : y = x := by
                have hh : hasL L x.f x.d = true := has_iff.2 ⟨x, hin, rfl, rfl⟩
                have := (get_in HK2.out.st.2.2 hh).2 hin
                rw [HY.out, ← hat.1, ← hat.2]
                exact this
              have HSN : Hid (true = hasL (L.take (i + 1)) af ad) := by show _ = _; rw [hsn]; simp [isAt, hat]
              have HYX := Lib.hid hyx
              clear hx hc hc1 hsn hin hra a0 a1 hat hyx
              have HV := HV0
              go_wp2
              refine wp_region_det (S := SB wr bk (off + i * 3) w.heap.size x af ad) (by kernel_rfl) HSB.out ?_
              refine wpDet_take (i := 0) (oi := _) (v := ?dv1) (by simp only [List.getElem?_toArray, List.getElem?_cons_zero]; rfl) (by kernel_rfl) (by kernel_rfl) (by kernel_rfl) (Or.inl ⟨by rfl, ?dy1⟩) ?dr1
              case dy1 => (intro w hSw; have hS0 := hSw; (try dsimp only [SB] at hSw); go_simp; refine Came.value ?_ hS0; with_reducible rfl)
              try simp only [Act.put, List.setIfInBounds_toArray, List.set_cons_zero, List.set_cons_succ]
              refine wpDet_take (i := 1) (oi := _) (v := ?dv2) (by simp only [List.getElem?_toArray, List.getElem?_cons_zero, List.getElem?_cons_succ]; rfl) (by kernel_rfl) (by kernel_rfl) (by kernel_rfl) (Or.inl ⟨by rfl, ?dy2⟩) ?dr2
              case dy2 => (intro w hSw; have hS0 := hSw; (try dsimp only [SB] at hSw); go_simp; refine Came.value ?_ hS0; with_reducible rfl)
              try simp only [Act.put, List.setIfInBounds_toArray, List.set_cons_zero, List.set_cons_succ]
              refine wpDet_take (i := 2) (oi := _) (v := ?dv3) (by simp only [List.getElem?_toArray, List.getElem?_cons_zero, List.getElem?_cons_succ]; rfl) (by kernel_rfl) (by kernel_rfl) (by kernel_rfl) (Or.inl ⟨by rfl, ?dy3⟩) ?dr3
              case dy3 => (intro w hSw; have hS0 := hSw; (try dsimp only [SB] at hSw); go_simp; refine Came.value ?_ hS0; with_reducible rfl)
              try simp only [Act.put, List.setIfInBounds_toArray, List.set_cons_zero, List.set_cons_succ]
              refine wpDet_take (i := 3) (oi := _) (v := ?dv4) (by simp only [List.getElem?_toArray, List.getElem?_cons_zero, List.getElem?_cons_succ]; rfl) (by kernel_rfl) (by kernel_rfl) (by kernel_rfl) (Or.inl ⟨by rfl, ?dy4⟩) ?dr4
              case dy4 => (intro w hSw; have hS0 := hSw; (try dsimp only [SB] at hSw); go_simp; refine Came.value ?_ hS0; with_reducible rfl)
              try simp only [Act.put, List.setIfInBounds_toArray, List.set_cons_zero, List.set_cons_succ]
              refine wpDet_take (i := 4) (oi := _) (v := ?dv5) (by simp only [List.getElem?_toArray, List.getElem?_cons_zero, List.getElem?_cons_succ]; rfl) (by kernel_rfl) (by kernel_rfl) (by kernel_rfl) (Or.inl ⟨by rfl, ?dy5⟩) ?dr5
              case dy5 => (intro w hSw; have hS0 := hSw; (try dsimp only [SB] at hSw); go_simp; refine Came.value ?_ hS0; with_reducible rfl)
              try simp only [Act.put, List.setIfInBounds_toArray, List.set_cons_zero, List.set_cons_succ]
              refine wpDet_take (i := 5) (oi := _) (v := ?dv6) (by simp only [List.getElem?_toArray, List.getElem?_cons_zero, List.getElem?_cons_succ]; rfl) (by kernel_rfl) (by kernel_rfl) (by kernel_rfl) (Or.inl ⟨by rfl, ?dy6⟩) ?dr6
              case dy6 => (intro w hSw; have hS0 := hSw; (try dsimp only [SB] at hSw); go_simp; refine Came.value ?_ hS0; with_reducible rfl)
              try simp only [Act.put, List.setIfInBounds_toArray, List.set_cons_zero, List.set_cons_succ]
              refine wpDet_take (i := 6) (oi := _) (v := ?dv7) (by simp only [List.getElem?_toArray, List.getElem?_cons_zero, List.getElem?_cons_succ]; rfl) (by kernel_rfl) (by kernel_rfl) (by kernel_rfl) (Or.inl ⟨by rfl, ?dy7⟩) ?dr7
              case dy7 => (intro w hSw; go_simp; exact Came.call ((HV.out w).mono fun e w' ⟨he, hf⟩ => ⟨he, hSw.fr hf⟩) (by with_reducible rfl))
              try simp only [Act.put, List.setIfInBounds_toArray, List.set_cons_zero, List.set_cons_succ]
              refine wpDet_done (by kernel_rfl) ?_ _
              rintro w5 ⟨hF, _, _⟩
              have HG5 := Lib.hid (HG.out.trans hF)
              clear hF HV HV0 HSB HKF
              have HV := Lib.hid (fun W => latch_same x y W true (by simp [HYX.out]))
              obtain ⟨z0, z1, z2⟩ := row3 (HG5.out.heap HX2.out (by simp))
              have HSH := Lib.hid (show SH w5 bk (off + i * 3) w2.heap.size x y w5.drew from
                ⟨Fr.drew w5 [], ⟨(HG5.out.trans (Fr.drew w5 [])).cell HX.out.1 (by simp), (HG5.out.trans (Fr.drew w5 [])).cell HX.out.2.1 (by simp), (HG5.out.trans (Fr.drew w5 [])).cell HX.out.2.2 (by simp)⟩, (Fr.drew w5 []).cell z0 (by simp), (Fr.drew w5 []).cell z1 (by simp), (Fr.drew w5 []).cell z2 (by simp)⟩)
              clear z0 z1 z2
              go_wp2
              refine wp_region_det (S := SH w5 bk (off + i * 3) w2.heap.size x y) (by kernel_rfl) HSH.out ?_
              refine wpDet_take (i := 0) (oi := _) (v := ?dv8) (by simp only [List.getElem?_toArray, List.getElem?_cons_zero]; rfl) (by kernel_rfl) (by kernel_rfl) (by kernel_rfl) (Or.inl ⟨by rfl, ?dy8⟩) ?dr8
              case dy8 => (intro w hSw; have hS0 := hSw; (try dsimp only [SH] at hSw); go_simp; refine Came.value ?_ hS0; with_reducible rfl)
              try simp only [Act.put, List.setIfInBounds_toArray, List.set_cons_zero, List.set_cons_succ]
              refine wpDet_take (i := 1) (oi := _) (v := ?dv9) (by simp only [List.getElem?_toArray, List.getElem?_cons_zero, List.getElem?_cons_succ]; rfl) (by kernel_rfl) (by kernel_rfl) (by kernel_rfl) (Or.inl ⟨by rfl, ?dy9⟩) ?dr9
              case dy9 => (intro w hSw; have hS0 := hSw; (try dsimp only [SH] at hSw); go_simp; refine Came.value ?_ hS0; with_reducible rfl)
              try simp only [Act.put, List.setIfInBounds_toArray, List.set_cons_zero, List.set_cons_succ]
              refine wpDet_take (i := 2) (oi := _) (v := ?dv10) (by simp only [List.getElem?_toArray, List.getElem?_cons_zero, List.getElem?_cons_succ]; rfl) (by kernel_rfl) (by kernel_rfl) (by kernel_rfl) (Or.inl ⟨by rfl, ?dy10⟩) ?dr10
              case dy10 => (intro w hSw; have hS0 := hSw; (try dsimp only [SH] at hSw); go_simp; refine Came.value ?_ hS0; with_reducible rfl)
              try simp only [Act.put, List.setIfInBounds_toArray, List.set_cons_zero, List.set_cons_succ]
              refine wpDet_take (i := 3) (oi := _) (v := ?dv11) (by simp only [List.getElem?_toArray, List.getElem?_cons_zero, List.getElem?_cons_succ]; rfl) (by kernel_rfl) (by kernel_rfl) (by kernel_rfl) (Or.inl ⟨by rfl, ?dy11⟩) ?dr11
              case dy11 => (intro w hSw; have hS0 := hSw; (try dsimp only [SH] at hSw); go_simp; refine Came.value ?_ hS0; with_reducible rfl)
              try simp only [Act.put, List.setIfInBounds_toArray, List.set_cons_zero, List.set_cons_succ]
              refine wpDet_take (i := 4) (oi := _) (v := ?dv12) (by simp only [List.getElem?_toArray, List.getElem?_cons_zero, List.getElem?_cons_succ]; rfl) (by kernel_rfl) (by kernel_rfl) (by kernel_rfl) (Or.inl ⟨by rfl, ?dy12⟩) ?dr12
              case dy12 => (intro w hSw; have hS0 := hSw; (try dsimp only [SH] at hSw); go_simp; refine Came.value ?_ hS0; with_reducible rfl)
              try simp only [Act.put, List.setIfInBounds_toArray, List.set_cons_zero, List.set_cons_succ]
              refine wpDet_take (i := 5) (oi := _) (v := ?dv13) (by simp only [List.getElem?_toArray, List.getElem?_cons_zero, List.getElem?_cons_succ]; rfl) (by kernel_rfl) (by kernel_rfl) (by kernel_rfl) (Or.inl ⟨by rfl, ?dy13⟩) ?dr13
              case dy13 => (intro w hSw; go_simp; exact Came.call ((HV.out w).mono fun e w' ⟨he, hf⟩ => ⟨he, hSw.fr hf⟩) (by with_reducible rfl))
              try simp only [Act.put, List.setIfInBounds_toArray, List.set_cons_zero, List.set_cons_succ]
              refine wpDet_take (i := 6) (oi := _) (v := ?dv14) (by simp only [List.getElem?_toArray, List.getElem?_cons_zero, List.getElem?_cons_succ]; rfl) (by kernel_rfl) (by kernel_rfl) (by kernel_rfl) (Or.inl ⟨by rfl, ?dy14⟩) ?dr14
              case dy14 => (intro w hSw; have hS0 := hSw; (try dsimp only [SH] at hSw); go_simp; refine Came.value ?_ hS0; with_reducible rfl)
              try simp only [Act.put, List.setIfInBounds_toArray, List.set_cons_zero, List.set_cons_succ]
              refine wpDet_done (by kernel_rfl) ?_ _
              rintro w6 ⟨hF, _, _⟩
              have HG6 := Lib.hid (HG5.out.trans hF)
              clear hF
              go_wp2
              go_roundw
              case rel => exact ⟨i + 1, by omega, by go_num, true, rfl, HSN, HG6⟩
              case measure => simp [intOf]; omega
            · have HV := Lib.hid (fun W => call_same x.f x.d af ad W false (decide_eq_false hat))
              have HSN : Hid (hi = hasL (L.take (i + 1)) af ad) := by show _ = _; rw [hsn, HHI.out]; simp [isAt, hat]
              clear hx hc hc1 hsn hin hra a0 a1 hat
              go_wp2
              refine wp_region_det (S := SB wr bk (off + i * 3) w.heap.size x af ad) (by kernel_rfl) HSB.out ?_
              refine wpDet_take (i := 0) (oi := _) (v := ?dv15) (by simp only [List.getElem?_toArray, List.getElem?_cons_zero]; rfl) (by kernel_rfl) (by kernel_rfl) (by kernel_rfl) (Or.inl ⟨by rfl, ?dy15⟩) ?dr15
              case dy15 => (intro w hSw; have hS0 := hSw; (try dsimp only [SB] at hSw); go_simp; refine Came.value ?_ hS0; with_reducible rfl)
              try simp only [Act.put, List.setIfInBounds_toArray, List.set_cons_zero, List.set_cons_succ]
              refine wpDet_take (i := 1) (oi := _) (v := ?dv16) (by simp only [List.getElem?_toArray, List.getElem?_cons_zero, List.getElem?_cons_succ]; rfl) (by kernel_rfl) (by kernel_rfl) (by kernel_rfl) (Or.inl ⟨by rfl, ?dy16⟩) ?dr16
              case dy16 => (intro w hSw; have hS0 := hSw; (try dsimp only [SB] at hSw); go_simp; refine Came.value ?_ hS0; with_reducible rfl)
              try simp only [Act.put, List.setIfInBounds_toArray, List.set_cons_zero, List.set_cons_succ]
              refine wpDet_take (i := 2) (oi := _) (v := ?dv17) (by simp only [List.getElem?_toArray, List.getElem?_cons_zero, List.getElem?_cons_succ]; rfl) (by kernel_rfl) (by kernel_rfl) (by kernel_rfl) (Or.inl ⟨by rfl, ?dy17⟩) ?dr17
              case dy17 => (intro w hSw; have hS0 := hSw; (try dsimp only [SB] at hSw); go_simp; refine Came.value ?_ hS0; with_reducible rfl)
              try simp only [Act.put, List.setIfInBounds_toArray, List.set_cons_zero, List.set_cons_succ]
              refine wpDet_take (i := 3) (oi := _) (v := ?dv18) (by simp only [List.getElem?_toArray, List.getElem?_cons_zero, List.getElem?_cons_succ]; rfl) (by kernel_rfl) (by kernel_rfl) (by kernel_rfl) (Or.inl ⟨by rfl, ?dy18⟩) ?dr18
              case dy18 => (intro w hSw; have hS0 := hSw; (try dsimp only [SB] at hSw); go_simp; refine Came.value ?_ hS0; with_reducible rfl)
              try simp only [Act.put, List.setIfInBounds_toArray, List.set_cons_zero, List.set_cons_succ]
              refine wpDet_take (i := 4) (oi := _) (v := ?dv19) (by simp only [List.getElem?_toArray, List.getElem?_cons_zero, List.getElem?_cons_succ]; rfl) (by kernel_rfl) (by kernel_rfl) (by kernel_rfl) (Or.inl ⟨by rfl, ?dy19⟩) ?dr19
              case dy19 => (intro w hSw; have hS0 := hSw; (try dsimp only [SB] at hSw); go_simp; refine Came.value ?_ hS0; with_reducible rfl)
              try simp only [Act.put, List.setIfInBounds_toArray, List.set_cons_zero, List.set_cons_succ]
              refine wpDet_take (i := 5) (oi := _) (v := ?dv20) (by simp only [List.getElem?_toArray, List.getElem?_cons_zero, List.getElem?_cons_succ]; rfl) (by kernel_rfl) (by kernel_rfl) (by kernel_rfl) (Or.inl ⟨by rfl, ?dy20⟩) ?dr20
              case dy20 => (intro w hSw; have hS0 := hSw; (try dsimp only [SB] at hSw); go_simp; refine Came.value ?_ hS0; with_reducible rfl)
              try simp only [Act.put, List.setIfInBounds_toArray, List.set_cons_zero, List.set_cons_succ]
              refine wpDet_take (i := 6) (oi := _) (v := ?dv21) (by simp only [List.getElem?_toArray, List.getElem?_cons_zero, List.getElem?_cons_succ]; rfl) (by kernel_rfl) (by kernel_rfl) (by kernel_rfl) (Or.inl ⟨by rfl, ?dy21⟩) ?dr21
              case dy21 => (intro w hSw; go_simp; exact Came.call ((HV.out w).mono fun e w' ⟨he, hf⟩ => ⟨he, hSw.fr hf⟩) (by with_reducible rfl))
              try simp only [Act.put, List.setIfInBounds_toArray, List.set_cons_zero, List.set_cons_succ]
              refine wpDet_done (by kernel_rfl) ?_ _
              rintro w5 ⟨hF, _, _⟩
              have HG5 := Lib.hid (HG.out.trans hF)
              clear hF
              go_wp2
              go_roundw
              case rel => exact ⟨i + 1, by omega, by go_num, hi, rfl, HSN, HG5⟩
              case measure => simp [intOf]; omega
          · obtain rfl : N = i := by omega
            have hhb : hi = hb := by rw [HHI.out, HHB.out, HN.out, List.take_length]
            subst hhb
            have HK3 := Lib.hid (HK2.out.keep HG.out)
            have HHA := Lib.hid (fun W' (k : Fr wr W' []) => has_any q q s L af ad W' (HK3.out.st.keep k) (by have := HN.out; omega) hi HHB.out)
            obtain ⟨lb, hlb⟩ : ∃ lb, lb = decide (Lt2 af ad bf bd) := ⟨_, rfl⟩
            have HL1 := Lib.hid (fun W => less_any af ad bf bd W lb hlb)
            have HL2 := Lib.hid (fun W => lessCall_any af ad bf bd W lb hlb)
            obtain ⟨a0, a1⟩ := row2 HK3.out.ra
            obtain ⟨b0, b1⟩ := row2 HK3.out.rb
            have HSC := Lib.hid (show SC wr w.heap.size (w.heap.size + 1) af ad bf bd wr.drew from ⟨Fr.drew wr [], ⟨(Fr.drew wr []).cell a0 (by simp), (Fr.drew wr []).cell a1 (by simp)⟩, (Fr.drew wr []).cell b0 (by simp), (Fr.drew wr []).cell b1 (by simp)⟩)
            have hh1 : (hi == hi) = true := by simp
            have hh2 : (lb == lb) = true := by simp
            clear a0 a1 b0 b1 hlb
            go_wp2
            refine wp_region_det (S := SC wr w.heap.size (w.heap.size + 1) af ad bf bd) (by kernel_rfl) HSC.out ?_
            refine wpDet_take (i := 0) (oi := _) (v := ?dv22) (by simp only [List.getElem?_toArray, List.getElem?_cons_zero]; rfl) (by kernel_rfl) (by kernel_rfl) (by kernel_rfl) (Or.inl ⟨by rfl, ?dy22⟩) ?dr22
            case dy22 => (intro w hSw; have hS0 := hSw; (try dsimp only [SC] at hSw); go_simp; refine Came.value ?_ hS0; with_reducible rfl)
            try simp only [Act.put, List.setIfInBounds_toArray, List.set_cons_zero, List.set_cons_succ]
            refine wpDet_take (i := 1) (oi := _) (v := ?dv23) (by simp only [List.getElem?_toArray, List.getElem?_cons_zero, List.getElem?_cons_succ]; rfl) (by kernel_rfl) (by kernel_rfl) (by kernel_rfl) (Or.inl ⟨by rfl, ?dy23⟩) ?dr23
            case dy23 => (intro w hSw; have hS0 := hSw; (try dsimp only [SC] at hSw); go_simp; refine Came.value ?_ hS0; with_reducible rfl)
            try simp only [Act.put, List.setIfInBounds_toArray, List.set_cons_zero, List.set_cons_succ]
            refine wpDet_take (i := 2) (oi := _) (v := ?dv24) (by simp only [List.getElem?_toArray, List.getElem?_cons_zero, List.getElem?_cons_succ]; rfl) (by kernel_rfl) (by kernel_rfl) (by kernel_rfl) (Or.inl ⟨by rfl, ?dy24⟩) ?dr24
            case dy24 => (intro w hSw; have hS0 := hSw; (try dsimp only [SC] at hSw); go_simp; refine Came.value ?_ hS0; with_reducible rfl)
            try simp only [Act.put, List.setIfInBounds_toArray, List.set_cons_zero, List.set_cons_succ]
            refine wpDet_take (i := 3) (oi := _) (v := ?dv25) (by simp only [List.getElem?_toArray, List.getElem?_cons_zero, List.getElem?_cons_succ]; rfl) (by kernel_rfl) (by kernel_rfl) (by kernel_rfl) (Or.inl ⟨by rfl, ?dy25⟩) ?dr25
            case dy25 => (intro w hSw; have hS0 := hSw; (try dsimp only [SC] at hSw); go_simp; refine Came.value ?_ hS0; with_reducible rfl)
            try simp only [Act.put, List.setIfInBounds_toArray, List.set_cons_zero, List.set_cons_succ]
            refine wpDet_take (i := 4) (oi := _) (v := ?dv26) (by simp only [List.getElem?_toArray, List.getElem?_cons_zero, List.getElem?_cons_succ]; rfl) (by kernel_rfl) (by kernel_rfl) (by kernel_rfl) (Or.inl ⟨by rfl, ?dy26⟩) ?dr26
            case dy26 => (intro w hSw; have hS0 := hSw; (try dsimp only [SC] at hSw); go_simp; refine Came.value ?_ hS0; with_reducible rfl)
            try simp only [Act.put, List.setIfInBounds_toArray, List.set_cons_zero, List.set_cons_succ]
            refine wpDet_take (i := 5) (oi := _) (v := ?dv27) (by simp only [List.getElem?_toArray, List.getElem?_cons_zero, List.getElem?_cons_succ]; rfl) (by kernel_rfl) (by kernel_rfl) (by kernel_rfl) (Or.inl ⟨by rfl, ?dy27⟩) ?dr27
            case dy27 => (intro w hSw; have hS0 := hSw; (try dsimp only [SC] at hSw); go_simp; refine Came.value ?_ hS0; with_reducible rfl)
            try simp only [Act.put, List.setIfInBounds_toArray, List.set_cons_zero, List.set_cons_succ]
            refine wpDet_take (i := 6) (oi := _) (v := ?dv28) (by simp only [List.getElem?_toArray, List.getElem?_cons_zero, List.getElem?_cons_succ]; rfl) (by kernel_rfl) (by kernel_rfl) (by kernel_rfl) (Or.inl ⟨by rfl, ?dy28⟩) ?dr28
            case dy28 => (intro w hSw; have hS0 := hSw; (try dsimp only [SC] at hSw); go_simp; refine Came.value ?_ hS0; with_reducible rfl)
            try simp only [Act.put, List.setIfInBounds_toArray, List.set_cons_zero, List.set_cons_succ]
            refine wpDet_take (i := 7) (oi := _) (v := ?dv29) (by simp only [List.getElem?_toArray, List.getElem?_cons_zero, List.getElem?_cons_succ]; rfl) (by kernel_rfl) (by kernel_rfl) (by kernel_rfl) (Or.inl ⟨by rfl, ?dy29⟩) ?dr29
            case dy29 => (intro w hSw; have hS0 := hSw; (try dsimp only [SC] at hSw); go_simp; refine Came.value ?_ hS0; with_reducible rfl)
            try simp only [Act.put, List.setIfInBounds_toArray, List.set_cons_zero, List.set_cons_succ]
            refine wpDet_take (i := 8) (oi := _) (v := ?dv30) (by simp only [List.getElem?_toArray, List.getElem?_cons_zero, List.getElem?_cons_succ]; rfl) (by kernel_rfl) (by kernel_rfl) (by kernel_rfl) (Or.inl ⟨by rfl, ?dy30⟩) ?dr30
            case dy30 => (intro w hSw; have hS0 := hSw; (try dsimp only [SC] at hSw); go_simp; refine Came.value ?_ hS0; with_reducible rfl)
            try simp only [Act.put, List.setIfInBounds_toArray, List.set_cons_zero, List.set_cons_succ]
            refine wpDet_take (i := 9) (oi := _) (v := ?dv31) (by simp only [List.getElem?_toArray, List.getElem?_cons_zero, List.getElem?_cons_succ]; rfl) (by kernel_rfl) (by kernel_rfl) (by kernel_rfl) (Or.inl ⟨by rfl, ?dy31⟩) ?dr31
            case dy31 => (intro w hSw; go_simp; exact Came.call ((HHA.out w hSw.1).mono fun e w' ⟨he, hf⟩ => ⟨he, hSw.fr hf⟩) (by with_reducible rfl))
            try simp only [Act.put, List.setIfInBounds_toArray, List.set_cons_zero, List.set_cons_succ]
            refine wpDet_take (i := 10) (oi := _) (v := ?dv32) (by simp only [List.getElem?_toArray, List.getElem?_cons_zero, List.getElem?_cons_succ]; rfl) (by kernel_rfl) (by kernel_rfl) (by kernel_rfl) (Or.inl ⟨by rfl, ?dy32⟩) ?dr32
            case dy32 => (intro w hSw; have hS0 := hSw; (try dsimp only [SC] at hSw); go_simp; refine Came.value ?_ hS0; with_reducible rfl)
            try simp only [Act.put, List.setIfInBounds_toArray, List.set_cons_zero, List.set_cons_succ]
            refine wpDet_take (i := 11) (oi := _) (v := ?dv33) (by simp only [List.getElem?_toArray, List.getElem?_cons_zero, List.getElem?_cons_succ]; rfl) (by kernel_rfl) (by kernel_rfl) (by kernel_rfl) (Or.inl ⟨by rfl, ?dy33⟩) ?dr33
            case dy33 => (intro w hSw; have hS0 := hSw; (try dsimp only [SC] at hSw); go_simp; refine Came.value ?_ hS0; with_reducible rfl)
            try simp only [Act.put, List.setIfInBounds_toArray, List.set_cons_zero, List.set_cons_succ]
            refine wpDet_take (i := 12) (oi := _) (v := ?dv34) (by simp only [List.getElem?_toArray, List.getElem?_cons_zero, List.getElem?_cons_succ]; rfl) (by kernel_rfl) (by kernel_rfl) (by kernel_rfl) (Or.inl ⟨by rfl, ?dy34⟩) ?dr34
            case dy34 => (intro w hSw; have hS0 := hSw; (try dsimp only [SC] at hSw); go_simp; refine Came.value ?_ hS0; with_reducible rfl)
            try simp only [Act.put, List.setIfInBounds_toArray, List.set_cons_zero, List.set_cons_succ]
            refine wpDet_take (i := 13) (oi := _) (v := ?dv35) (by simp only [List.getElem?_toArray, List.getElem?_cons_zero, List.getElem?_cons_succ]; rfl) (by kernel_rfl) (by kernel_rfl) (by kernel_rfl) (Or.inl ⟨by rfl, ?dy35⟩) ?dr35
            case dy35 => (intro w hSw; have hS0 := hSw; (try dsimp only [SC] at hSw); go_simp; refine Came.value ?_ hS0; with_reducible rfl)
            try simp only [Act.put, List.setIfInBounds_toArray, List.set_cons_zero, List.set_cons_succ]
            refine wpDet_take (i := 14) (oi := _) (v := ?dv36) (by simp only [List.getElem?_toArray, List.getElem?_cons_zero, List.getElem?_cons_succ]; rfl) (by kernel_rfl) (by kernel_rfl) (by kernel_rfl) (Or.inl ⟨by rfl, ?dy36⟩) ?dr36
            case dy36 => (intro w hSw; have hS0 := hSw; (try dsimp only [SC] at hSw); go_simp; refine Came.value ?_ hS0; with_reducible rfl)
            try simp only [Act.put, List.setIfInBounds_toArray, List.set_cons_zero, List.set_cons_succ]
            refine wpDet_take (i := 15) (oi := _) (v := ?dv37) (by simp only [List.getElem?_toArray, List.getElem?_cons_zero, List.getElem?_cons_succ]; rfl) (by kernel_rfl) (by kernel_rfl) (by kernel_rfl) (Or.inl ⟨by rfl, ?dy37⟩) ?dr37
            case dy37 => (intro w hSw; have hS0 := hSw; (try dsimp only [SC] at hSw); go_simp; refine Came.value ?_ hS0; with_reducible rfl)
            try simp only [Act.put, List.setIfInBounds_toArray, List.set_cons_zero, List.set_cons_succ]
            refine wpDet_take (i := 16) (oi := _) (v := ?dv38) (by simp only [List.getElem?_toArray, List.getElem?_cons_zero, List.getElem?_cons_succ]; rfl) (by kernel_rfl) (by kernel_rfl) (by kernel_rfl) (Or.inl ⟨by rfl, ?dy38⟩) ?dr38
            case dy38 => (intro w hSw; go_simp; exact Came.call ((HL1.out w).mono fun e w' ⟨he, hf⟩ => ⟨he, hSw.fr hf⟩) (by with_reducible rfl))
            try simp only [Act.put, List.setIfInBounds_toArray, List.set_cons_zero, List.set_cons_succ]
            refine wpDet_take (i := 17) (oi := _) (v := ?dv39) (by simp only [List.getElem?_toArray, List.getElem?_cons_zero, List.getElem?_cons_succ]; rfl) (by kernel_rfl) (by kernel_rfl) (by kernel_rfl) (Or.inl ⟨by rfl, ?dy39⟩) ?dr39
            case dy39 => (intro w hSw; have hS0 := hSw; (try dsimp only [SC] at hSw); go_simp; refine Came.value ?_ hS0; with_reducible rfl)
            try simp only [Act.put, List.setIfInBounds_toArray, List.set_cons_zero, List.set_cons_succ]
            refine wpDet_take (i := 18) (oi := _) (v := ?dv40) (by simp only [List.getElem?_toArray, List.getElem?_cons_zero, List.getElem?_cons_succ]; rfl) (by kernel_rfl) (by kernel_rfl) (by kernel_rfl) (Or.inl ⟨by rfl, ?dy40⟩) ?dr40
            case dy40 => (intro w hSw; have hS0 := hSw; (try dsimp only [SC] at hSw); go_simp; refine Came.value ?_ hS0; with_reducible rfl)
            try simp only [Act.put, List.setIfInBounds_toArray, List.set_cons_zero, List.set_cons_succ]
            refine wpDet_take (i := 19) (oi := _) (v := ?dv41) (by simp only [List.getElem?_toArray, List.getElem?_cons_zero, List.getElem?_cons_succ]; rfl) (by kernel_rfl) (by kernel_rfl) (by kernel_rfl) (Or.inl ⟨by rfl, ?dy41⟩) ?dr41
            case dy41 => (intro w hSw; go_simp; exact Came.call ((HL2.out w).mono fun e w' ⟨he, hf⟩ => ⟨he, hSw.fr hf⟩) (by with_reducible rfl))
            try simp only [Act.put, List.setIfInBounds_toArray, List.set_cons_zero, List.set_cons_succ]
            refine wpDet_take (i := 20) (oi := _) (v := ?dv42) (by simp only [List.getElem?_toArray, List.getElem?_cons_zero, List.getElem?_cons_succ]; rfl) (by kernel_rfl) (by kernel_rfl) (by kernel_rfl) (Or.inl ⟨by rfl, ?dy42⟩) ?dr42
            case dy42 => (intro w hSw; have hS0 := hSw; (try dsimp only [SC] at hSw); go_simp; refine Came.value ?_ hS0; with_reducible rfl)
            try simp only [Act.put, List.setIfInBounds_toArray, List.set_cons_zero, List.set_cons_succ]
            refine wpDet_take (i := 21) (oi := _) (v := ?dv43) (by simp only [List.getElem?_toArray, List.getElem?_cons_zero, List.getElem?_cons_succ]; rfl) (by kernel_rfl) (by kernel_rfl) (by kernel_rfl) (Or.inl ⟨by rfl, ?dy43⟩) ?dr43
            case dy43 => (intro w hSw; have hS0 := hSw; (try dsimp only [SC] at hSw); go_simp; refine Came.value ?_ hS0; with_reducible rfl)
            try simp only [Act.put, List.setIfInBounds_toArray, List.set_cons_zero, List.set_cons_succ]
            refine wpDet_take (i := 22) (oi := _) (v := ?dv44) (by simp only [List.getElem?_toArray, List.getElem?_cons_zero, List.getElem?_cons_succ]; rfl) (by kernel_rfl) (by kernel_rfl) (by kernel_rfl) (Or.inl ⟨by rfl, ?dy44⟩) ?dr44
            case dy44 => (intro w hSw; have hS0 := hSw; (try dsimp only [SC] at hSw); go_simp; refine Came.value ?_ hS0; with_reducible rfl)
            try simp only [Act.put, List.setIfInBounds_toArray, List.set_cons_zero, List.set_cons_succ]
            refine wpDet_done (by kernel_rfl) ?_ _
            rintro w7 ⟨hF, _, _⟩
            have HFF := Lib.hid (HK3.out.fr.trans hF)
            clear hF
            go_wp2
            go_ret
            exact ⟨rfl, HFF.out⟩
  · go_enter Try.func4, Try.ntmps4
    go_wp2_with fail
    refine (first_any _).mono ?_
    rintro e w1 ⟨rfl, hf⟩
    have HF1 := Lib.hid (HF0.out.trans hf)
    clear hf
    go_wp2
    go_ret
    exact ⟨rfl, HF1.out⟩
theorem kplays_walk (v : Value) (l : List KD) (af ad bf bd : Int) (w : World) (hv : HKDs w v l) : Calls Try.prog 4 #[v, .agg #[.int .i64 af, .int .i64 ad], .agg #[.int .i64 bf, .int .i64 bd]] w fun e w' => e = .returned (.bool true) ∧ w.grownBy w' none :=
  (plays_true v l af ad bf bd w hv).mono fun _ _ ⟨he, hf⟩ => ⟨he, hf.grown (by simp)⟩
end Go.Proofs.Ytfopmpaoigdelaa
