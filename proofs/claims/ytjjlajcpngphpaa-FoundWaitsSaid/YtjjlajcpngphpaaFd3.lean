/- Package found: whether a ring is founded; the laws' example. -/
import Derived.Test.YtjjlajcpngphpaaFd2
import Derived.Deep.DeepCutAuto
namespace Go.Proofs.Ytjjlajcpngphpaa
open Go.RowKit

theorem longer_at (t c : Int) (ht : -9223372036854775808 ≤ t ∧ t ≤ 9223372036854775807) (w : World) (n : Nat) (b : Bool) (hb : b = longB t c) :
    Calls Try.prog 16 #[.int .i64 t, .int .i64 c] (w.drewN n) fun e w' => e = .returned (.bool b) ∧ ∃ m, w' = w.drewN m := by
  subst hb
  exact (longer_any t c ht _).mono fun _ _ ⟨he, hw⟩ => ⟨he, n, hw⟩
theorem own_first {w : World} {B : Nat} {u : Value} {l : List Int} (h : OwnI w B u l) (h0 : 0 < l.length) : ∃ g c, u = .slice (some ⟨g, 0, none⟩) l.length c ∧ w.cell? ⟨g, 0, none⟩ = some (.int .i64 (l.getD 0 0)) := by
  obtain ⟨g, c, rfl, _⟩ := row_head h h0
  obtain ⟨a, c', he, _, _, hc⟩ := h.holds
  simp only [Value.slice.injEq, true_and] at he
  obtain ⟨rfl, _⟩ := he
  obtain ⟨b, off, e, k⟩ := hc h0
  simp only [Option.some.injEq, Addr.mk.injEq, and_true] at e
  obtain ⟨rfl, rfl⟩ := e
  exact ⟨_, _, rfl, k 0 h0⟩
set_option maxHeartbeats 4000000 in
set_option maxRecDepth 100000 in
theorem should_any (ca cs : Int) (ou an : Bool) (va vr : Value) (si fo : Int) (A R : List Int) (w : World) (hA : HIf w va A) (hl : A.length ≤ 1000) (hR : HInts w vr R) (hs : -9223372036854775808 ≤ si ∧ si ≤ 9223372036854775807) (hf : -9223372036854775808 ≤ fo ∧ fo ≤ 9223372036854775807) (b : Bool) (hb : b = foundB A R ca cs ou an si fo) :
    Calls Try.prog 7 #[.agg #[.int .i64 ca, .int .i64 cs, .bool ou, .bool an, va, vr, .int .i64 si, .int .i64 fo]] w fun e w' => e = .returned (.bool b) ∧ Fr w w' [] := by
  obtain ⟨ra, rn, rc, hvr⟩ := ints_sh hR
  obtain ⟨aa, n, ac, hva⟩ := hA.sh
  have HA := Lib.hid hA
  have HR := Lib.hid hR
  have HB := Lib.hid hb
  have HS := Lib.hid hs
  have HO' := Lib.hid hf
  have HLE := Lib.hid (membs_le A ca)
  have HPO := Lib.hid (membs_pos A ca)
  clear hA hR hb hs hf
  subst hva hvr
  obtain ⟨O, hO⟩ : ∃ O, O = Obj.cells #[.int .i64 ca, .int .i64 cs, .bool ou, .bool an, .slice aa n ac, .slice ra rn rc, .int .i64 si, .int .i64 fo] 24 := ⟨_, rfl⟩
  have HO := Lib.hid (show (w.alloc O).heap[w.heap.size]? = some O from heap_alloc_new w O)
  have HF := Lib.hid (Fr.alloc w O [])
  rw [hO] at HO HF
  clear hO
  obtain ⟨M, hM⟩ : ∃ M, M = membs A ca := ⟨_, rfl⟩
  have MB := Lib.hid (fun W (hW : Fr w W []) => members_any ca cs ou an (.slice aa n ac) (.slice ra rn rc) si fo A W (HA.out.keep hW) hl ⟨_, _, _, rfl⟩)
  have HBE : Hid (b = (!ou && (decide (M.getD 0 0 = ca) && (longB fo cs && (!an || (!decide (R = M) || longB si cs)))))) := by
    show _ = _; rw [HB.out, hM]; rfl
  rw [← hM] at HLE HPO MB
  clear hM HB
  go_enter Try.func7, Try.ntmps7
  go_upto_region 1 with fail
  generalize w.alloc _ = V at HO HF ⊢
  obtain ⟨g, hg⟩ : ∃ g, g = w.heap.size := ⟨_, rfl⟩
  rw [← hg] at HO ⊢
  clear hg
  obtain ⟨y0, y1, y2, y3, y4, y5, y6, y7⟩ := row8 HO.out
  have MV := Lib.hid (MB.out V HF.out)
  clear MB
  go_wp2_with fail
  with_reducible refine (MV.out).mono ?_
  rintro e w1 ⟨u, rfl, ho, hf⟩
  have C1 := Lib.hid ((row8 HO.out).fr hf)
  have F1 := Lib.hid (HF.out.trans hf)
  have O1 := Lib.hid ho
  clear hf y0 y1 y2 y3 y4 y5 y6 y7 MV
  obtain ⟨gm, cm, hu, hc0⟩ := own_first ho HPO.out
  subst hu
  clear ho
  obtain ⟨m0, hm0⟩ : ∃ m0, m0 = M.getD 0 0 := ⟨_, rfl⟩
  rw [← hm0] at hc0 HBE
  clear hm0
  obtain ⟨ml, hml⟩ : ∃ ml, ml = M.length := ⟨_, rfl⟩
  have HML := Lib.hid hml
  have hpos := HPO.out
  have hml1 := HLE.out
  rw [← hml] at hpos hml1 ⊢
  have O2 : Hid (OwnI w1 V.heap.size (.slice (some ⟨gm, 0, none⟩) ml cm) M) := by rw [hml]; exact O1
  clear O1 hml
  obtain ⟨y0, y1, y2, y3, y4, y5, y6, y7⟩ := C1.out
  cases ou with
  | true =>
    obtain rfl : b = false := by rw [HBE.out]; rfl
    go_wp2
    go_quiet (fail)
    have HE := Lib.hid (F1.out.trans (Fr.drewN w1 nq []))
    go_wp2
    go_ret
    exact ⟨rfl, HE.out⟩
  | false =>
    by_cases h0 : m0 = ca
    · subst h0
      have e0 : (m0 != m0) = false := by simp
      obtain ⟨q, hq⟩ : ∃ q, q = longB fo cs := ⟨_, rfl⟩
      have LF := Lib.hid (fun W k => longer_at fo cs HO'.out W k q hq)
      rw [← hq] at HBE
      clear hq
      cases q with
      | false =>
        obtain rfl : b = false := by rw [HBE.out]; simp
        go_wp2
        go_quiet ((go_at_call 16; with_reducible exact LF.out _ _))
        have HE := Lib.hid (F1.out.trans (Fr.drewN w1 nq []))
        go_wp2
        go_ret
        exact ⟨rfl, HE.out⟩
      | true =>
        cases an with
        | false =>
          obtain rfl : b = true := by rw [HBE.out]; simp
          go_wp2
          go_quiet ((go_at_call 16; with_reducible exact LF.out _ _))
          have HE := Lib.hid (F1.out.trans (Fr.drewN w1 nq []))
          go_wp2
          go_ret
          exact ⟨rfl, HE.out⟩
        | true =>
          obtain ⟨d, hd⟩ : ∃ d, d = decide (R = M) := ⟨_, rfl⟩
          have SM := Lib.hid (fun W (hW : Fr w W []) (hW1 : Fr w1 W []) => same_any (.slice ra rn rc) R (.slice (some ⟨gm, 0, none⟩) ml cm) M W (HR.out.keep hW) (O2.out.keep hW1).holds d hd)
          rw [← hd] at HBE
          clear hd
          go_wp2
          go_quiet ((go_at_call 16; with_reducible exact LF.out _ _))
          have HE := Lib.hid (F1.out.trans (Fr.drewN w1 nq []))
          have SM1 := Lib.hid (SM.out _ HE.out (Fr.drewN w1 nq []))
          clear SM
          go_wp2_with fail
          with_reducible refine (SM1.out).mono ?_
          rintro e w2 ⟨rfl, k, hw2⟩
          have HE2 : Hid (Fr w w2 []) := by show Fr w w2 []; rw [hw2]; exact HE.out.trans (Fr.drewN _ k [])
          obtain ⟨y0, y1, y2, y3, y4, y5, y6, y7⟩ : C8 g (.int .i64 m0) (.int .i64 cs) (.bool false) (.bool true) (.slice aa n ac) (.slice ra rn rc) (.int .i64 si) (.int .i64 fo) w2 := by
            rw [hw2]; exact (C1.out.fr (Fr.drewN w1 nq [])).fr (Fr.drewN _ k [])
          clear hw2
          cases d with
          | false =>
            obtain rfl : b = true := by rw [HBE.out]; simp
            go_wp2
            go_ret
            exact ⟨rfl, HE2.out⟩
          | true =>
            have LS := Lib.hid (longer_any si cs HS.out w2)
            obtain ⟨q, hq⟩ : ∃ q, q = longB si cs := ⟨_, rfl⟩
            rw [← hq] at LS HBE
            clear hq
            obtain rfl : b = q := by rw [HBE.out]; simp
            go_wp2_with fail
            with_reducible refine (LS.out).mono ?_
            rintro e w3 ⟨rfl, rfl⟩
            go_wp2
            go_ret
            exact ⟨rfl, HE2.out⟩
    · have e0 : (m0 != ca) = true := by simp [h0]
      obtain rfl : b = false := by rw [HBE.out]; simp [h0]
      clear h0
      go_wp2
      go_quiet (fail)
      have HE := Lib.hid (F1.out.trans (Fr.drewN w1 nq []))
      go_wp2
      go_ret
      exact ⟨rfl, HE.out⟩
/-- The laws' example. -/
theorem fofirst_any (w : World) : Calls Try.prog 6 #[] w fun e w' => e = .returned (.bool true) ∧ Fr w w' [] := by
  have SH := Lib.hid (should_any 0 0 true false (.slice none 0 0) (.slice none 0 0) 0 1000 [] [] w (HIf.nil w) (by simp) (nil_ints w) (by omega) (by omega) false rfl)
  have PA := Lib.hid (fun W => patience_any 1 (by omega) W)
  go_enter Try.func6, Try.ntmps6
  go_wp2_with fail
  with_reducible refine (SH.out).mono ?_
  rintro e w2 ⟨rfl, hf⟩
  have HF := Lib.hid hf
  clear hf
  go_wp2_with fail
  with_reducible refine (PA.out _).mono ?_
  rintro e w3 ⟨rfl, rfl⟩
  go_wp2
  go_ret
  exact ⟨rfl, HF.out⟩
end Go.Proofs.Ytjjlajcpngphpaa
