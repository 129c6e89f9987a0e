/- Stage 19's laws: a ring that is light. Slices of calls: of the call's own, those that came in; whether two are the same: the document's. What package ledger's functions have to answer, that the laws can be walked; the laws' own example. The document's ledger: purged. The document's ledger: what is wanted, whose it is, a new ring. The document's ledger: whose it is, a new ring. The document's ledger: where a call's entry stands, a bid put. The document's ledger: a bid put on a call's entry. Package ledger: passed on; what clones, what hands out a ring. -/
import Derived.Test.YtldheaamcnmlgaaGreatLgVal
import Derived.Test.YtldheaamcnmlgaaGreatGLb
import Derived.Test.YtldheaamcnmlgaaGreatGLd
import Derived.Test.YtldheaamcnmlgaaGreatGLc
import Derived.Test.YtldheaamcnmlgaaGreatLgC2
namespace Go.Proofs.YtldheaamcnmlgaaGreat
open Go.RowKit Fm

def LightR (r : Rg) : Prop := (∀ e ∈ r.es, e.bs.length ≤ 16) ∧ r.ms.length ≤ 16 ∧ r.es.length ≤ 30 ∧ ringC r = 0
instance (r : Rg) : Decidable (LightR r) := by unfold LightR; infer_instance
set_option maxHeartbeats 4000000 in
set_option maxRecDepth 100000 in
theorem light_any (r : Rg) (vm ve : Value) (b : Bool) (hb : b = decide (LightR r)) (w : World) (hm : HInts w vm r.ms) (he : HE w ve r.es) :
    Calls Tryz.prog 5 #[rgV r vm ve] w fun e w' => e = .returned (.bool b) ∧ Fr w w' [] := by
  obtain ⟨co, fo, ho, ms, es⟩ := r
  dsimp only at hm he
  obtain ⟨z, hz⟩ : ∃ z, z = dcode (ringC ⟨co, fo, ho, ms, es⟩) := ⟨_, rfl⟩
  have HB0 := Lib.hid hb
  have HZC := Lib.hid hz
  have VR := Lib.hid (fun W (hW : Fr w W []) => rvalidRing_any co fo ho ms es vm ve W (hm.keep hW) (he.keep hW))
  rw [← hz] at VR
  obtain ⟨am, cm, rfl, pm, qm, rm⟩ := hm
  obtain ⟨ae, ce, rfl, pe, qe, re⟩ := he
  unfold maxLen at qm qe
  have HLS := Lib.hid re
  obtain ⟨n, hn⟩ : ∃ n, n = es.length := ⟨_, rfl⟩
  have HN := Lib.hid hn
  obtain ⟨m, hmm⟩ : ∃ m, m = ms.length := ⟨_, rfl⟩
  have HM := Lib.hid hmm
  rw [← hn] at pe HLS VR
  rw [← hmm] at pm VR
  unfold rgV
  dsimp only
  rw [← hn, ← hmm]
  clear rm re hb hz hn hmm
  have HTW := Lib.hid (heap_alloc_new w (.cells #[.int .i64 co, .int .i64 fo, .int .i64 ho, .slice am m cm, .slice ae n ce] 27))
  have HF2 := Lib.hid (Fr.alloc w (.cells #[.int .i64 co, .int .i64 fo, .int .i64 ho, .slice am m cm, .slice ae n ce] 27) [])
  go_enter Tryz.func5, Tryz.ntmps5
  go_upto_region 1 with fail
  generalize World.alloc w _ = V at HTW HF2 ⊢
  have HC1 := Lib.hid (show C5 w.heap.size (.int .i64 co) (.int .i64 fo) (.int .i64 ho) (.slice am m cm) (.slice ae n ce) V from row5 HTW.out)
  obtain ⟨y0, y1, y2, y3, y4⟩ := HC1.out
  go_wp2_with fail
  go_loop [3] (fun s3 => ∃ i : Nat, i ≤ n ∧ s3 = .int .i64 i ∧ Hid (∀ j, j < i → (es.getD j zeroE).bs.length ≤ 16)) (fun s3 => n - (intOf s3).toNat)
  case atStart => exact ⟨0, Nat.zero_le _, rfl, Lib.hid (fun j hj => by omega)⟩
  case round =>
    obtain ⟨i, hi, rfl, HA⟩ := hrel
    by_cases hlt : i < n
    · have hltd : decide ((i : Int) < (n : Int)) = true := decide_eq_true (by omega)
      obtain ⟨bl, off, rfl, hc⟩ := HLS.out (by omega)
      obtain ⟨vb, _, _, _, t3, _, hvb⟩ := hc i hlt
      obtain ⟨e, he⟩ : ∃ e, e = es.getD i zeroE := ⟨_, rfl⟩
      rw [← he] at hvb
      obtain ⟨ab, cb, rfl, _⟩ := hvb
      obtain ⟨k, hk⟩ : ∃ k, k = e.bs.length := ⟨_, rfl⟩
      rw [← hk] at t3
      have t4 := HF2.out.cell t3 (by simp)
      have HK := Lib.hid (show k = (es.getD i zeroE).bs.length by rw [hk, he])
      clear hc hk he t3
      by_cases h16 : k ≤ 16
      · have d16 : decide ((16 : Int) < (k : Int)) = false := decide_eq_false (by omega)
        have HA2 : Hid (∀ j, j < i + 1 → (es.getD j zeroE).bs.length ≤ 16) := Lib.hid (fun j hj => by
          by_cases q : j < i
          · exact HA.out j q
          · obtain rfl : j = i := by omega
            rw [← HK.out]; exact h16)
        clear HA
        go_wp2
        go_round
        case rel => exact ⟨i + 1, by omega, by go_num, HA2⟩
        case measure => simp [intOf]; omega
      · have d16 : decide ((16 : Int) < (k : Int)) = true := decide_eq_true (by omega)
        have HT : Hid (b = false) := by
          show _ = _
          rw [HB0.out, decide_eq_false_iff_not]
          intro h
          have := h.1 (es.getD i zeroE) (getD_mem (l := es) (by have := HN.out; omega) zeroE)
          rw [← HK.out] at this
          omega
        go_wp2
        go_ret
        exact ⟨by rw [HT.out]; rfl, HF2.out⟩
    · have hltd : decide ((i : Int) < (n : Int)) = false := decide_eq_false (by omega)
      obtain rfl : i = n := by omega
      have HAL : Hid (∀ e ∈ es, e.bs.length ≤ 16) := Lib.hid (fun e he => by
        obtain ⟨j, hj, rfl⟩ := List.mem_iff_getElem.1 he
        have := HA.out j (by have := HN.out; omega)
        rwa [List.getD_eq_getElem?_getD, List.getElem?_eq_getElem hj] at this)
      clear HA HLS
      by_cases h16 : m ≤ 16
      · have d16 : decide ((m : Int) ≤ 16) = true := decide_eq_true (by omega)
        by_cases h30 : i ≤ 30
        · have d30 : decide ((i : Int) ≤ 30) = true := decide_eq_true (by omega)
          have VV := Lib.hid (VR.out V HF2.out)
          by_cases hz0 : z = 0
          · have HT : Hid (b = true) := by
              show _ = _
              rw [HB0.out, decide_eq_true_iff]
              refine ⟨HAL.out, by rw [← HM.out]; exact h16, by rw [← HN.out]; exact h30, ?_⟩
              have := HZC.out
              rw [hz0] at this
              by_cases q : ringC ⟨co, fo, ho, ms, es⟩ = 0
              · exact q
              · exact absurd this (by unfold dcode; rw [if_neg q]; omega)
            have e0 : (z == 0) = true := by simp [hz0]
            clear hz0 VR
            go_wp2_with ((with_reducible refine VV.out.mono ?_); rintro e w1 ⟨rfl, hf1⟩)
            go_ret
            exact ⟨by rw [HT.out]; rfl, HF2.out.trans hf1⟩
          · have HT : Hid (b = false) := by
              show _ = _
              rw [HB0.out, decide_eq_false_iff_not]
              intro h
              refine hz0 ?_
              rw [HZC.out]
              unfold dcode
              rw [if_pos h.2.2.2]
            have e0 : (z == 0) = false := by simp [hz0]
            clear hz0 VR
            go_wp2_with ((with_reducible refine VV.out.mono ?_); rintro e w1 ⟨rfl, hf1⟩)
            go_ret
            exact ⟨by rw [HT.out]; rfl, HF2.out.trans hf1⟩
        · have d30 : decide ((i : Int) ≤ 30) = false := decide_eq_false (by omega)
          have HT : Hid (b = false) := by
            show _ = _
            rw [HB0.out, decide_eq_false_iff_not]
            intro h
            have := h.2.2.1
            rw [← HN.out] at this
            exact h30 this
          go_wp2
          go_ret
          exact ⟨by rw [HT.out]; rfl, HF2.out⟩
      · have d16 : decide ((m : Int) ≤ 16) = false := decide_eq_false (by omega)
        have HT : Hid (b = false) := by
          show _ = _
          rw [HB0.out, decide_eq_false_iff_not]
          intro h
          have := h.2.1
          rw [← HM.out] at this
          exact h16 this
        go_wp2
        go_ret
        exact ⟨by rw [HT.out]; rfl, HF2.out⟩
end Go.Proofs.YtldheaamcnmlgaaGreat

namespace Go.Proofs.YtldheaamcnmlgaaGreat
open Go.RowKit

/-- The slice v holds the calls (FHold's, and: a nil one has no room). -/
def HCl (w : World) (v : Value) (l : List (Int × Int)) : Prop :=
  ∃ a cap, v = .slice a l.length cap ∧ (l.length ≤ cap ∧ (a = none → cap = 0)) ∧ cap ≤ maxLen ∧ (0 < l.length → ∃ b off, a = some ⟨b, off, none⟩ ∧ ∀ i, i < l.length →
    w.cell? ⟨b, off + i * 2, none⟩ = some (.int .i64 (l.getD i (0, 0)).1) ∧ w.cell? ⟨b, off + i * 2 + 1, none⟩ = some (.int .i64 (l.getD i (0, 0)).2))
theorem HCl.shape {w : World} {v : Value} {l : List (Int × Int)} (h : HCl w v l) : ∃ a cap, v = .slice a l.length cap := by
  obtain ⟨a, cap, h, _⟩ := h; exact ⟨a, cap, h⟩
theorem HCl.fr {w w' : World} {v : Value} {l : List (Int × Int)} {S : List Nat} (h : HCl w v l) (hg : Fr w w' S) (hne : ∀ r ∈ S, v.ownBlock ≠ some r) : HCl w' v l := by
  obtain ⟨a, cap, rfl, h1, h2, h3⟩ := h
  refine ⟨a, cap, rfl, h1, h2, fun h0 => ?_⟩
  obtain ⟨b, off, rfl, hc⟩ := h3 h0
  exact ⟨b, off, rfl, fun i hi => ⟨hg.cell (hc i hi).1 (fun hm => hne b hm rfl), hg.cell (hc i hi).2 (fun hm => hne b hm rfl)⟩⟩
theorem HCl.keep {w w' : World} {v : Value} {l : List (Int × Int)} (h : HCl w v l) (hg : Fr w w' []) : HCl w' v l := h.fr hg (by simp)
theorem nil_calls {w : World} : HCl w (.slice none 0 0) [] := ⟨none, 0, rfl, by simp, by decide, fun h => absurd h (by simp)⟩
def cdc (l : List (Int × Int)) : List Value := l.flatMap fun b => [.int .i64 b.1, .int .i64 b.2]
theorem cdc_len (l : List (Int × Int)) : (cdc l).length = l.length * 2 := by
  induction l with
  | nil => rfl
  | cons b l ih => simp only [cdc, List.flatMap_cons, List.length_append, List.length_cons, List.length_nil] at *; omega
theorem cdc_snoc (l : List (Int × Int)) (b : Int × Int) : cdc (l ++ [b]) = cdc l ++ [.int .i64 b.1, .int .i64 b.2] := by simp [cdc]
theorem cdc_app (l m : List (Int × Int)) : cdc (l ++ m) = cdc l ++ cdc m := by simp [cdc]
theorem cdc_get (l : List (Int × Int)) (i : Nat) (h : i < l.length) : (cdc l)[i * 2]? = some (.int .i64 (l.getD i (0, 0)).1) ∧ (cdc l)[i * 2 + 1]? = some (.int .i64 (l.getD i (0, 0)).2) := by
  induction l generalizing i with
  | nil => simp at h
  | cons b l ih =>
    cases i with
    | zero => simp [cdc]
    | succ i =>
      have h' : i < l.length := by simpa using h
      have := ih i h'
      have e : cdc (b :: l) = .int .i64 b.1 :: .int .i64 b.2 :: cdc l := by simp [cdc]
      rw [e, show (i + 1) * 2 = i * 2 + 1 + 1 by omega]
      simpa using this
theorem infoCl : (Tryz.prog.info? 32).map (fun i => (i.zero, i.size, i.bytes)) = some (some (.agg #[.int .i64 0, .int .i64 0]), 2, 16) := by kernel_rfl
/-- The slice v is the call's own, and holds the calls. -/
def OwnCl (w : World) (B : Nat) (v : Value) (l : List (Int × Int)) : Prop := w.ownsRow B 32 2 v l.length (cdc l)
theorem OwnCl.nil (w : World) (B : Nat) : OwnCl w B (.slice none 0 0) [] := ⟨rfl, .inl ⟨rfl, rfl⟩⟩
theorem OwnCl.fr {w w' : World} {B : Nat} {v : Value} {l : List (Int × Int)} {S : List Nat} (h : OwnCl w B v l) (hg : Fr w w' S) (hne : ∀ r ∈ S, v.ownBlock ≠ some r) : OwnCl w' B v l := row_fr h hg hne
theorem OwnCl.keep {w w' : World} {B : Nat} {v : Value} {l : List (Int × Int)} (h : OwnCl w B v l) (hg : Fr w w' []) : OwnCl w' B v l := h.fr hg (by simp)
theorem OwnCl.mono {w : World} {B B' : Nat} {v : Value} {l : List (Int × Int)} (h : OwnCl w B v l) (hB : B' ≤ B) : OwnCl w B' v l := row_mono h hB
theorem OwnCl.snoc {w : World} {B : Nat} {v : Value} {l : List (Int × Int)} {b : Int × Int} (h : w.ownsRow B 32 2 v (l.length + 1) (cdc l ++ [.int .i64 b.1, .int .i64 b.2])) : OwnCl w B v (l ++ [b]) := by
  unfold OwnCl
  rw [cdc_snoc]
  simpa using h
theorem OwnCl.block {w : World} {B : Nat} {v : Value} {l : List (Int × Int)} (h : OwnCl w B v l) : ∀ r, v.ownBlock = some r → B ≤ r ∧ r < w.heap.size := World.ownsRow.lt h
theorem OwnCl.shape {w : World} {B : Nat} {v : Value} {l : List (Int × Int)} (h : OwnCl w B v l) : ∃ a c, v = .slice a l.length c := row_shape h
theorem OwnCl.holds {w : World} {B : Nat} {v : Value} {l : List (Int × Int)} (h : OwnCl w B v l) : HCl w v l := by
  by_cases h0 : 0 < l.length
  · obtain ⟨g, c, rfl, hc, hm, _⟩ := row_head h h0
    have h2 := World.ownsRow.cellAt h
    refine ⟨_, c, rfl, ⟨hc, by simp⟩, hm, fun _ => ⟨g, 0, rfl, fun i hi => ?_⟩⟩
    obtain ⟨g0, g1⟩ := cdc_get l i hi
    rw [Nat.zero_add]
    exact ⟨(h2 _ (by omega)).trans g0, (h2 _ (by omega)).trans g1⟩
  · obtain rfl := List.eq_nil_of_length_eq_zero (by omega : l.length = 0)
    rcases h.2 with ⟨rfl, _⟩ | ⟨g, cap, cur, rfl, hb, hg, hn, hm, _⟩
    · exact ⟨none, 0, rfl, by simp, by decide, fun h => absurd h (by simp)⟩
    · exact ⟨_, cap, rfl, ⟨hn, by simp⟩, hm, fun h => absurd h (by simp)⟩
/-- Two calls, where they lie. -/
def CallS (w0 : World) (b1 o1 b2 o2 : Nat) (x x' y y' : Int) (a : World) : Prop :=
  Fr w0 a [] ∧ a.cell? ⟨b1, o1, none⟩ = some (.int .i64 x) ∧ a.cell? ⟨b1, o1 + 1, none⟩ = some (.int .i64 x') ∧ a.cell? ⟨b2, o2, none⟩ = some (.int .i64 y) ∧ a.cell? ⟨b2, o2 + 1, none⟩ = some (.int .i64 y')
theorem CallS.keep {w0 : World} {b1 o1 b2 o2 : Nat} {x x' y y' : Int} {a c : World} (h : CallS w0 b1 o1 b2 o2 x x' y y' a) (k : Fr a c []) : CallS w0 b1 o1 b2 o2 x x' y y' c :=
  ⟨h.1.trans k, k.cell h.2.1 (by simp), k.cell h.2.2.1 (by simp), k.cell h.2.2.2.1 (by simp), k.cell h.2.2.2.2 (by simp)⟩
set_option maxRecDepth 100000 in
theorem rsameCalls_any (v1 : Value) (l : List (Int × Int)) (v2 : Value) (m : List (Int × Int)) (w : World) (h1 : HCl w v1 l) (h2 : HCl w v2 m) (b : Bool) (hb : b = true ↔ l = m) :
    Calls Tryz.prog 19 #[v1, v2] w fun e w' => e = .returned (.bool b) ∧ Fr w w' [] := by
  obtain ⟨a1, c1, rfl, p1, q1, r1⟩ := h1
  obtain ⟨a2, c2, rfl, p2, q2, r2⟩ := h2
  unfold maxLen at q1 q2
  have HCl := Lib.hid hb
  clear hb
  by_cases hl : l.length = m.length
  · have hne : ((l.length : Int) != (m.length : Int)) = false := by simp [hl]
    have HL := Lib.hid hl
    clear hl
    go_enter Tryz.func19, Tryz.ntmps19
    go_wp2
    go_loopw [5] (fun i wr => ∃ k : Nat, k ≤ l.length ∧ i = .int .i64 k ∧ l.take k = m.take k ∧ Fr w wr []) (fun i _ => l.length - (intOf i).toNat)
    case atStart => exact ⟨0, Nat.zero_le _, rfl, by simp, Fr.refl _ _⟩
    case round =>
      obtain ⟨k, hk, rfl, hpre, hg⟩ := hrel
      have HP := Lib.hid hpre
      have HG := Lib.hid hg
      clear hpre
      by_cases hlt : k < l.length
      · have hlt2 : k < m.length := by have := HL.out; omega
        obtain ⟨b1, o1, rfl, k1⟩ := r1 (by omega)
        obtain ⟨b2, o2, rfl, k2⟩ := r2 (by omega)
        obtain ⟨x, hx⟩ : ∃ x, x = (l.getD k (0, 0)).1 := ⟨_, rfl⟩
        obtain ⟨x', hx'⟩ : ∃ x, x = (l.getD k (0, 0)).2 := ⟨_, rfl⟩
        obtain ⟨y, hy⟩ : ∃ y, y = (m.getD k (0, 0)).1 := ⟨_, rfl⟩
        obtain ⟨y', hy'⟩ : ∃ y, y = (m.getD k (0, 0)).2 := ⟨_, rfl⟩
        have g1 : wr.cell? ⟨b1, o1 + k * 2, none⟩ = some (.int .i64 x) := by rw [hx]; exact hg.cell (k1 k hlt).1 (by simp)
        have g1' : wr.cell? ⟨b1, o1 + k * 2 + 1, none⟩ = some (.int .i64 x') := by rw [hx']; exact hg.cell (k1 k hlt).2 (by simp)
        have g2 : wr.cell? ⟨b2, o2 + k * 2, none⟩ = some (.int .i64 y) := by rw [hy]; exact hg.cell (k2 k hlt2).1 (by simp)
        have g2' : wr.cell? ⟨b2, o2 + k * 2 + 1, none⟩ = some (.int .i64 y') := by rw [hy']; exact hg.cell (k2 k hlt2).2 (by simp)
        by_cases hxy : x = y ∧ x' = y'
        · have HN := Lib.hid (pre_step (0, 0) HL.out HP.out hlt (Prod.ext (by rw [← hx, ← hy, hxy.1]) (by rw [← hx', ← hy', hxy.2])))
          obtain ⟨rfl, rfl⟩ := hxy
          clear hx hy hx' hy' k1 k2 r1 r2 hg
          have HS0 : CallS wr b1 (o1 + k * 2) b2 (o2 + k * 2) x x' x x' wr := ⟨Fr.refl _ _, g1, g1', g2, g2'⟩
          go_wp2
          refine wp_region_det (S := CallS wr b1 (o1 + k * 2) b2 (o2 + k * 2) x x' x x') (by kernel_rfl) (HS0.keep (Fr.drew _ _)) ?_
          refine wpDet_take (i := 0) (oi := _) (v := ?dv1) (by simp only [List.getElem?_toArray, List.getElem?_cons_zero]; rfl) (by kernel_rfl) (by kernel_rfl) (by kernel_rfl) (Or.inl ⟨by rfl, ?dy1⟩) ?dr1
          case dy1 => (intro w hSw; have hS0 := hSw; (try dsimp only [CallS] at hSw); go_simp; refine Came.value ?_ hS0; with_reducible rfl)
          try simp only [Act.put, List.setIfInBounds_toArray, List.set_cons_zero, List.set_cons_succ]
          refine wpDet_take (i := 1) (oi := _) (v := ?dv2) (by simp only [List.getElem?_toArray, List.getElem?_cons_zero, List.getElem?_cons_succ]; rfl) (by kernel_rfl) (by kernel_rfl) (by kernel_rfl) (Or.inl ⟨by rfl, ?dy2⟩) ?dr2
          case dy2 => (intro w hSw; have hS0 := hSw; (try dsimp only [CallS] at hSw); go_simp; refine Came.value ?_ hS0; with_reducible rfl)
          try simp only [Act.put, List.setIfInBounds_toArray, List.set_cons_zero, List.set_cons_succ]
          refine wpDet_take (i := 2) (oi := _) (v := ?dv3) (by simp only [List.getElem?_toArray, List.getElem?_cons_zero, List.getElem?_cons_succ]; rfl) (by kernel_rfl) (by kernel_rfl) (by kernel_rfl) (Or.inl ⟨by rfl, ?dy3⟩) ?dr3
          case dy3 => (intro w hSw; have hS0 := hSw; (try dsimp only [CallS] at hSw); go_simp; refine Came.value ?_ hS0; with_reducible rfl)
          try simp only [Act.put, List.setIfInBounds_toArray, List.set_cons_zero, List.set_cons_succ]
          refine wpDet_take (i := 3) (oi := _) (v := ?dv4) (by simp only [List.getElem?_toArray, List.getElem?_cons_zero, List.getElem?_cons_succ]; rfl) (by kernel_rfl) (by kernel_rfl) (by kernel_rfl) (Or.inl ⟨by rfl, ?dy4⟩) ?dr4
          case dy4 => (intro w hSw; have hS0 := hSw; (try dsimp only [CallS] at hSw); go_simp; refine Came.value ?_ hS0; with_reducible rfl)
          try simp only [Act.put, List.setIfInBounds_toArray, List.set_cons_zero, List.set_cons_succ]
          refine wpDet_take (i := 4) (oi := _) (v := ?dv5) (by simp only [List.getElem?_toArray, List.getElem?_cons_zero, List.getElem?_cons_succ]; rfl) (by kernel_rfl) (by kernel_rfl) (by kernel_rfl) (Or.inl ⟨by rfl, ?dy5⟩) ?dr5
          case dy5 => (intro w hSw; have hS0 := hSw; (try dsimp only [CallS] at hSw); go_simp; refine Came.value ?_ hS0; with_reducible rfl)
          try simp only [Act.put, List.setIfInBounds_toArray, List.set_cons_zero, List.set_cons_succ]
          refine wpDet_take (i := 5) (oi := _) (v := ?dv6) (by simp only [List.getElem?_toArray, List.getElem?_cons_zero, List.getElem?_cons_succ]; rfl) (by kernel_rfl) (by kernel_rfl) (by kernel_rfl) (Or.inl ⟨by rfl, ?dy6⟩) ?dr6
          case dy6 => (intro w hSw; have hS0 := hSw; (try dsimp only [CallS] at hSw); go_simp; refine Came.value ?_ hS0; with_reducible rfl)
          try simp only [Act.put, List.setIfInBounds_toArray, List.set_cons_zero, List.set_cons_succ]
          refine wpDet_take (i := 6) (oi := _) (v := ?dv7) (by simp only [List.getElem?_toArray, List.getElem?_cons_zero, List.getElem?_cons_succ]; rfl) (by kernel_rfl) (by kernel_rfl) (by kernel_rfl) (Or.inl ⟨by rfl, ?dy7⟩) ?dr7
          case dy7 => (intro w hSw; have hS0 := hSw; (try dsimp only [CallS] at hSw); go_simp; refine Came.value ?_ hS0; with_reducible rfl)
          try simp only [Act.put, List.setIfInBounds_toArray, List.set_cons_zero, List.set_cons_succ]
          refine wpDet_take (i := 7) (oi := _) (v := ?dv8) (by simp only [List.getElem?_toArray, List.getElem?_cons_zero, List.getElem?_cons_succ]; rfl) (by kernel_rfl) (by kernel_rfl) (by kernel_rfl) (Or.inl ⟨by rfl, ?dy8⟩) ?dr8
          case dy8 => (intro w hSw; have hS0 := hSw; (try dsimp only [CallS] at hSw); go_simp; refine Came.value ?_ hS0; with_reducible rfl)
          try simp only [Act.put, List.setIfInBounds_toArray, List.set_cons_zero, List.set_cons_succ]
          refine wpDet_take (i := 8) (oi := _) (v := ?dv9) (by simp only [List.getElem?_toArray, List.getElem?_cons_zero, List.getElem?_cons_succ]; rfl) (by kernel_rfl) (by kernel_rfl) (by kernel_rfl) (Or.inl ⟨by rfl, ?dy9⟩) ?dr9
          case dy9 => (intro w hSw; go_simp; exact Came.call ((sameCall_any _ _ _ _ true (yes ⟨rfl, rfl⟩) w).mono fun e w' ⟨he, hf⟩ => ⟨he, hSw.keep hf⟩) (by with_reducible rfl))
          try simp only [Act.put, List.setIfInBounds_toArray, List.set_cons_zero, List.set_cons_succ]
          refine wpDet_take (i := 9) (oi := _) (v := ?dv10) (by simp only [List.getElem?_toArray, List.getElem?_cons_zero, List.getElem?_cons_succ]; rfl) (by kernel_rfl) (by kernel_rfl) (by kernel_rfl) (Or.inl ⟨by rfl, ?dy10⟩) ?dr10
          case dy10 => (intro w hSw; have hS0 := hSw; (try dsimp only [CallS] at hSw); go_simp; refine Came.value ?_ hS0; with_reducible rfl)
          try simp only [Act.put, List.setIfInBounds_toArray, List.set_cons_zero, List.set_cons_succ]
          refine wpDet_done (by kernel_rfl) ?_ _
          rintro w1 hS1
          have HS1 := Lib.hid hS1
          clear hS1
          go_wp2
          go_roundw
          case rel => exact ⟨k + 1, by omega, by go_num, HN.out, HG.out.trans HS1.out.1⟩
          case measure => simp [intOf]; omega
        · have HN : Hid (b = false) := by
            show _ = _
            cases b with
            | false => rfl
            | true => exact absurd (HCl.out.1 rfl) (pre_no (0, 0) (k := k) (by intro e; exact hxy ⟨by rw [hx, hy, e], by rw [hx', hy', e]⟩))
          have HX := Lib.hid hxy
          clear hxy hx hy hx' hy' k1 k2 r1 r2 hg
          have HS0 : CallS wr b1 (o1 + k * 2) b2 (o2 + k * 2) x x' y y' wr := ⟨Fr.refl _ _, g1, g1', g2, g2'⟩
          go_wp2
          refine wp_region_det (S := CallS wr b1 (o1 + k * 2) b2 (o2 + k * 2) x x' y y') (by kernel_rfl) (HS0.keep (Fr.drew _ _)) ?_
          refine wpDet_take (i := 0) (oi := _) (v := ?dv11) (by simp only [List.getElem?_toArray, List.getElem?_cons_zero]; rfl) (by kernel_rfl) (by kernel_rfl) (by kernel_rfl) (Or.inl ⟨by rfl, ?dy11⟩) ?dr11
          case dy11 => (intro w hSw; have hS0 := hSw; (try dsimp only [CallS] at hSw); go_simp; refine Came.value ?_ hS0; with_reducible rfl)
          try simp only [Act.put, List.setIfInBounds_toArray, List.set_cons_zero, List.set_cons_succ]
          refine wpDet_take (i := 1) (oi := _) (v := ?dv12) (by simp only [List.getElem?_toArray, List.getElem?_cons_zero, List.getElem?_cons_succ]; rfl) (by kernel_rfl) (by kernel_rfl) (by kernel_rfl) (Or.inl ⟨by rfl, ?dy12⟩) ?dr12
          case dy12 => (intro w hSw; have hS0 := hSw; (try dsimp only [CallS] at hSw); go_simp; refine Came.value ?_ hS0; with_reducible rfl)
          try simp only [Act.put, List.setIfInBounds_toArray, List.set_cons_zero, List.set_cons_succ]
          refine wpDet_take (i := 2) (oi := _) (v := ?dv13) (by simp only [List.getElem?_toArray, List.getElem?_cons_zero, List.getElem?_cons_succ]; rfl) (by kernel_rfl) (by kernel_rfl) (by kernel_rfl) (Or.inl ⟨by rfl, ?dy13⟩) ?dr13
          case dy13 => (intro w hSw; have hS0 := hSw; (try dsimp only [CallS] at hSw); go_simp; refine Came.value ?_ hS0; with_reducible rfl)
          try simp only [Act.put, List.setIfInBounds_toArray, List.set_cons_zero, List.set_cons_succ]
          refine wpDet_take (i := 3) (oi := _) (v := ?dv14) (by simp only [List.getElem?_toArray, List.getElem?_cons_zero, List.getElem?_cons_succ]; rfl) (by kernel_rfl) (by kernel_rfl) (by kernel_rfl) (Or.inl ⟨by rfl, ?dy14⟩) ?dr14
          case dy14 => (intro w hSw; have hS0 := hSw; (try dsimp only [CallS] at hSw); go_simp; refine Came.value ?_ hS0; with_reducible rfl)
          try simp only [Act.put, List.setIfInBounds_toArray, List.set_cons_zero, List.set_cons_succ]
          refine wpDet_take (i := 4) (oi := _) (v := ?dv15) (by simp only [List.getElem?_toArray, List.getElem?_cons_zero, List.getElem?_cons_succ]; rfl) (by kernel_rfl) (by kernel_rfl) (by kernel_rfl) (Or.inl ⟨by rfl, ?dy15⟩) ?dr15
          case dy15 => (intro w hSw; have hS0 := hSw; (try dsimp only [CallS] at hSw); go_simp; refine Came.value ?_ hS0; with_reducible rfl)
          try simp only [Act.put, List.setIfInBounds_toArray, List.set_cons_zero, List.set_cons_succ]
          refine wpDet_take (i := 5) (oi := _) (v := ?dv16) (by simp only [List.getElem?_toArray, List.getElem?_cons_zero, List.getElem?_cons_succ]; rfl) (by kernel_rfl) (by kernel_rfl) (by kernel_rfl) (Or.inl ⟨by rfl, ?dy16⟩) ?dr16
          case dy16 => (intro w hSw; have hS0 := hSw; (try dsimp only [CallS] at hSw); go_simp; refine Came.value ?_ hS0; with_reducible rfl)
          try simp only [Act.put, List.setIfInBounds_toArray, List.set_cons_zero, List.set_cons_succ]
          refine wpDet_take (i := 6) (oi := _) (v := ?dv17) (by simp only [List.getElem?_toArray, List.getElem?_cons_zero, List.getElem?_cons_succ]; rfl) (by kernel_rfl) (by kernel_rfl) (by kernel_rfl) (Or.inl ⟨by rfl, ?dy17⟩) ?dr17
          case dy17 => (intro w hSw; have hS0 := hSw; (try dsimp only [CallS] at hSw); go_simp; refine Came.value ?_ hS0; with_reducible rfl)
          try simp only [Act.put, List.setIfInBounds_toArray, List.set_cons_zero, List.set_cons_succ]
          refine wpDet_take (i := 7) (oi := _) (v := ?dv18) (by simp only [List.getElem?_toArray, List.getElem?_cons_zero, List.getElem?_cons_succ]; rfl) (by kernel_rfl) (by kernel_rfl) (by kernel_rfl) (Or.inl ⟨by rfl, ?dy18⟩) ?dr18
          case dy18 => (intro w hSw; have hS0 := hSw; (try dsimp only [CallS] at hSw); go_simp; refine Came.value ?_ hS0; with_reducible rfl)
          try simp only [Act.put, List.setIfInBounds_toArray, List.set_cons_zero, List.set_cons_succ]
          refine wpDet_take (i := 8) (oi := _) (v := ?dv19) (by simp only [List.getElem?_toArray, List.getElem?_cons_zero, List.getElem?_cons_succ]; rfl) (by kernel_rfl) (by kernel_rfl) (by kernel_rfl) (Or.inl ⟨by rfl, ?dy19⟩) ?dr19
          case dy19 => (intro w hSw; go_simp; exact Came.call ((sameCall_any _ _ _ _ false (no HX.out) w).mono fun e w' ⟨he, hf⟩ => ⟨he, hSw.keep hf⟩) (by with_reducible rfl))
          try simp only [Act.put, List.setIfInBounds_toArray, List.set_cons_zero, List.set_cons_succ]
          refine wpDet_take (i := 9) (oi := _) (v := ?dv20) (by simp only [List.getElem?_toArray, List.getElem?_cons_zero, List.getElem?_cons_succ]; rfl) (by kernel_rfl) (by kernel_rfl) (by kernel_rfl) (Or.inl ⟨by rfl, ?dy20⟩) ?dr20
          case dy20 => (intro w hSw; have hS0 := hSw; (try dsimp only [CallS] at hSw); go_simp; refine Came.value ?_ hS0; with_reducible rfl)
          try simp only [Act.put, List.setIfInBounds_toArray, List.set_cons_zero, List.set_cons_succ]
          refine wpDet_done (by kernel_rfl) ?_ _
          rintro w1 hS1
          have HS1 := Lib.hid hS1
          clear hS1
          go_wp2
          go_ret
          exact ⟨by rw [HN.out]; rfl, HG.out.trans HS1.out.1⟩
      · obtain rfl : k = l.length := by omega
        have HN : Hid (b = true) := HCl.out.2 (pre_all HL.out HP.out)
        clear r1 r2 hg
        go_wp2
        go_ret
        exact ⟨by rw [HN.out]; rfl, HG.out⟩
  · have hne : ((l.length : Int) != (m.length : Int)) = true := by simp; omega
    have HN : Hid (b = false) := by
      show _ = _
      cases b with
      | false => rfl
      | true => exact absurd (congrArg List.length (HCl.out.1 rfl)) hl
    clear hl r1 r2
    go_enter Tryz.func19, Tryz.ntmps19
    go_wp2
    go_ret
    exact ⟨by rw [HN.out]; rfl, Fr.refl _ _⟩
end Go.Proofs.YtldheaamcnmlgaaGreat

namespace Go.Proofs.YtldheaamcnmlgaaGreat
open Go.RowKit Fm

def GRing (r : Rg) (w : World) (u : Value) (w' : World) : Prop := HR w' u r ∧ Fr w w' []
def GTwo (r : Rg) (b : Bool) (w : World) (u : Value) (w' : World) : Prop := ∃ x, u = .tuple #[x, .bool b] ∧ HR w' x r ∧ Fr w w' []
def GAward (r : Rg) (w : World) (u : Value) (w' : World) : Prop := ∃ x v, u = .tuple #[x, v] ∧ HR w' x (awardR r) ∧ HE w' v (wonR r) ∧ Fr w w' []
def Small (r : Rg) : Prop := r.ms.length ≤ 100 ∧ r.es.length ≤ 200 ∧ ∀ e ∈ r.es, e.bs.length ≤ 100
/-- What the laws ask of the ledger's functions: to be proved of the code that lands. -/
structure LgIs : Prop where
  new : ∀ (co fo : Int) (v : Value) (l : List Int) (w : World), HInts w v l → l.length ≤ 100 → Calls Tryz.prog 25 #[.agg #[.int .i64 co, .int .i64 fo], v] w (Gives (GRing (newR co fo l) w))
  purge : ∀ (r : Rg) (vm ve vl : Value) (L : List La) (w : World), HInts w vm r.ms → HE w ve r.es → Small r → HLs w vl L → L.length ≤ 200 → Calls Tryz.prog 15 #[rgV r vm ve, vl] w (Gives (GRing (purgeR r L) w))
  add : ∀ (r : Rg) (vm ve vl : Value) (L : List La) (w : World), HInts w vm r.ms → HE w ve r.es → Small r → HLs w vl L → L.length ≤ 200 → Calls Tryz.prog 17 #[rgV r vm ve, vl] w (Gives (GRing (addR r L) w))
  wants : ∀ (r : Rg) (vm ve : Value) (car : Int) (w : World), HInts w vm r.ms → HE w ve r.es → Small r → Calls Tryz.prog 20 #[rgV r vm ve, .int .i64 car] w (Gives fun u w' => HCl w' u (wantsR r car) ∧ Fr w w' [])
  bid : ∀ (r : Rg) (vm ve : Value) (b : Int × Int) (f d : Int) (w : World), HInts w vm r.ms → HE w ve r.es → Small r → Calls Tryz.prog 7 #[rgV r vm ve, bidV b, .agg #[.int .i64 f, .int .i64 d]] w (Gives (GTwo (bidR r b (placeE r.es f d)) (bidRB r b (placeE r.es f d)) w))
  award : ∀ (r : Rg) (vm ve : Value) (w : World), HInts w vm r.ms → HE w ve r.es → Small r → Calls Tryz.prog 9 #[rgV r vm ve] w (Gives (GAward r w))
  mine : ∀ (r : Rg) (vm ve : Value) (car : Int) (w : World), HInts w vm r.ms → HE w ve r.es → Small r → (∀ e ∈ r.es, -1 ≤ e.aw) → Calls Tryz.prog 23 #[rgV r vm ve, .int .i64 car] w (Gives fun u w' => HLs w' u (mineR r car) ∧ Fr w w' [])
  pass : ∀ (r : Rg) (vm ve : Value) (w : World), HInts w vm r.ms → HE w ve r.es → Small r → (-9223372036854775808 ≤ r.ho ∧ r.ho ≤ 9223372036854775807) → Calls Tryz.prog 11 #[rgV r vm ve] w (Gives (GTwo (passR r) (passB r) w))
/-- A ring in a new box. -/
theorem box_ring (w : World) (v0 v1 v2 v3 v4 : Value) : (w.alloc (.cells #[v0, v1, v2, v3, v4] 27)).heap[w.heap.size]? = some (.cells #[v0, v1, v2, v3, v4] 27 (0, 0)) ∧ Fr w (w.alloc (.cells #[v0, v1, v2, v3, v4] 27)) [] :=
  ⟨heap_alloc_new w _, Fr.alloc w _ []⟩
theorem set_first : setOf [2, 0, 2] = [0, 2] := rises_unique (setOf_rises _) (by simp [Rises]) (fun x => by rw [mem_setOf]; simp; omega)
set_option maxHeartbeats 2000000 in
set_option maxRecDepth 100000 in
theorem lfirst_any (LG : LgIs) (w : World) : Calls Tryz.prog 4 #[] w fun e w' => e = .returned (.bool true) ∧ Fr w w' [] := by
  have HR0 := row_newL w [.int .i64 2, .int .i64 0, .int .i64 2] 3
  have FA := Lib.hid (Fr.alloc w (.cells #[.int .i64 2, .int .i64 0, .int .i64 2] 3) [])
  have HI : Hid (HInts (w.alloc (.cells #[.int .i64 2, .int .i64 0, .int .i64 2] 3)) (.slice (some ⟨w.heap.size, 0, none⟩) 3 3) [2, 0, 2]) := Lib.hid ⟨_, 3, rfl, Nat.le_refl _, by decide, fun _ => ⟨_, _, rfl, fun i hi => by
    have hi : i < 3 := hi
    have := HR0 i (.int .i64 ([2, 0, 2].getD i 0)) (by rcases (show i = 0 ∨ i = 1 ∨ i = 2 by omega) with rfl | rfl | rfl <;> rfl)
    rwa [Addr.add_lit] at this⟩⟩
  have NW := Lib.hid (LG.new 1 0 _ [2, 0, 2] _ HI.out (by decide))
  clear HR0
  go_enter Tryz.func4, Tryz.ntmps4
  go_wp2_with fail
  with_reducible refine (NW.out).mono ?_
  rintro e w1 ⟨u, rfl, ⟨vm, ve, rfl, hm, he⟩, hf1⟩
  unfold rgV newR at *
  rw [set_first] at hm
  dsimp only at hm he ⊢
  have HM := Lib.hid hm
  have HE0 := Lib.hid he
  have HF1 := Lib.hid (FA.out.trans hf1)
  obtain ⟨am, cm, rfl, pm, qm, rm⟩ := hm
  obtain ⟨ae, ce, rfl, pe, qe, re⟩ := he
  obtain ⟨bm, om, rfl, hcm⟩ := rm (by decide)
  have HC0 := Lib.hid (hcm 0 (by decide))
  clear re hcm NW HI FA hf1
  dsimp only [List.length_cons, List.length_nil] at *
  have HBX := Lib.hid (box_ring w1 (.int .i64 1) (.int .i64 0) (.int .i64 0) (.slice (some ⟨bm, om, none⟩) 2 cm) (.slice ae 0 ce))
  go_upto_region 2 with fail
  generalize World.alloc w1 _ = W at HBX ⊢
  obtain ⟨y0, y1, y2, y3, y4⟩ := row5 HBX.out.1
  have AW := Lib.hid (LG.award ⟨1, 0, 0, [0, 2], []⟩ (.slice (some ⟨bm, om, none⟩) 2 cm) (.slice ae 0 ce) W (HM.out.keep HBX.out.2) (HE0.out.keep HBX.out.2) ⟨by decide, by decide, by simp⟩)
  unfold rgV at AW
  dsimp only at AW
  go_wp2_with fail
  with_reducible refine (AW.out).mono ?_
  rintro e w2 ⟨u, rfl, x, v, rfl, ⟨um, ue, rfl, hum, hue⟩, hv, hf2⟩
  have e1 : awardR (⟨1, 0, 0, [0, 2], []⟩ : Rg) = ⟨1, 0, 0, [0, 2], []⟩ := rfl
  have e2 : wonR (⟨1, 0, 0, [0, 2], []⟩ : Rg) = [] := rfl
  rw [e1] at hum hue ⊢
  rw [e2] at hv
  clear e1 e2
  unfold rgV
  dsimp only at hum hue ⊢
  obtain ⟨au, cu, rfl, _⟩ := hum
  obtain ⟨aw, cw, rfl, _⟩ := hue
  obtain ⟨av, cv, rfl, _⟩ := hv
  have HF2 := Lib.hid hf2
  clear hf2 AW y0 y1 y2 y3 y4
  dsimp only [List.length_cons, List.length_nil] at *
  have HBY := Lib.hid (box_ring w2 (.int .i64 1) (.int .i64 0) (.int .i64 0) (.slice au 2 cu) (.slice aw 0 cw))
  go_upto_region 3 with fail
  generalize World.alloc w2 _ = W2 at HBY ⊢
  have HFB := Lib.hid (HF2.out.trans HBY.out.2)
  obtain ⟨y0, y1, y2, y3, y4⟩ := row5 (HFB.out.heap HBX.out.1 (by simp))
  have c0 : W2.cell? ⟨bm, om, none⟩ = some (.int .i64 0) := (HBX.out.2.trans HFB.out).cell HC0.out (by simp)
  have HFZ := Lib.hid ((HF1.out.trans HBX.out.2).trans HFB.out)
  go_wp2
  go_ret
  exact ⟨rfl, HFZ.out⟩
end Go.Proofs.YtldheaamcnmlgaaGreat

namespace Go.Proofs.YtldheaamcnmlgaaGreat
open Go.RowKit Fm

theorem purge_step (es : List En) (L : List La) (k : Nat) (h : k < es.length) : purgeE (es.take (k + 1)) L = purgeE (es.take k) L ++ (if laOf (es.getD k zeroE) ∈ L then [es.getD k zeroE] else []) := by
  unfold purgeE
  rw [take_en es k h, List.filter_append]
  congr 1
  by_cases q : laOf (es.getD k zeroE) ∈ L
  · rw [if_pos q, List.filter_cons, if_pos (decide_eq_true q)]; rfl
  · rw [if_neg q, List.filter_cons, if_neg (by simpa using q)]; rfl
/-- What Purge answers. -/
def RingE (r : Rg) (w : World) (u : Value) (w' : World) : Prop := HR w' u r ∧ Fr w w' []
set_option maxHeartbeats 4000000 in
set_option maxRecDepth 100000 in
theorem rpurge_any (r : Rg) (vm ve vl : Value) (L : List La) (w : World) (hm : HInts w vm r.ms) (he : HE w ve r.es) (hml : r.ms.length ≤ 1000) (hel : r.es.length ≤ 1000) (hbl : ∀ e ∈ r.es, e.bs.length ≤ 1000) (hl : HLs w vl L) :
    Calls Tryz.prog 16 #[rgV r vm ve, vl] w (Gives (RingE (purgeR r L) w)) := by
  obtain ⟨i0, hi0, hz0, hz1, hz2⟩ := info_parts infoE
  have HLL := Lib.hid hl
  clear hl
  obtain ⟨co, fo, ho, ms, es⟩ := r
  dsimp only at hm he hml hel hbl
  have HMV := Lib.hid hm
  have HEV := Lib.hid he
  obtain ⟨am, cm, rfl, pm, qm, rm⟩ := hm
  obtain ⟨ae, ce, rfl, pe, qe, re⟩ := he
  unfold maxLen at qm qe
  have HBL := Lib.hid hbl
  have HEL := Lib.hid hel
  have HML := Lib.hid hml
  have HLS := Lib.hid re
  obtain ⟨n, hn⟩ : ∃ n, n = es.length := ⟨_, rfl⟩
  have HN := Lib.hid hn
  obtain ⟨m, hmm⟩ : ∃ m, m = ms.length := ⟨_, rfl⟩
  rw [← hn] at hel pe HLS HEV
  rw [← hmm] at hml pm HMV
  unfold rgV
  dsimp only
  rw [← hn, ← hmm]
  clear rm re hbl hn hmm
  have HTW := Lib.hid (two_boxes w (.cells #[.int .i64 co, .int .i64 fo, .int .i64 ho, .slice am m cm, .slice ae n ce] 27) (.cells #[.int .i64 0, .int .i64 0, .int .i64 0, .slice none 0 0, .slice none 0 0] 27))
  have HF2 := Lib.hid ((Fr.alloc w (.cells #[.int .i64 co, .int .i64 fo, .int .i64 ho, .slice am m cm, .slice ae n ce] 27) []).trans (Fr.alloc _ (.cells #[.int .i64 0, .int .i64 0, .int .i64 0, .slice none 0 0, .slice none 0 0] 27) []))
  have HSZ := Lib.hid (show ((w.alloc (.cells #[.int .i64 co, .int .i64 fo, .int .i64 ho, .slice am m cm, .slice ae n ce] 27)).alloc (.cells #[.int .i64 0, .int .i64 0, .int .i64 0, .slice none 0 0, .slice none 0 0] 27)).heap.size = w.heap.size + 2 by simp)
  have CR := Lib.hid (fun W (hW : Fr w W []) => copyR_any ⟨co, fo, ho, ms, es⟩ _ _ W (HMV.out.keep hW) (HEV.out.keep hW) HML.out HEL.out HBL.out)
  unfold purgeR
  dsimp only
  go_enter Tryz.func16, Tryz.ntmps16
  go_upto_region 1 with fail
  generalize (w.alloc _).alloc _ = V at HTW HF2 HSZ ⊢
  have HC1 := Lib.hid (show C5 w.heap.size (.int .i64 co) (.int .i64 fo) (.int .i64 ho) (.slice am m cm) (.slice ae n ce) V from row5 HTW.out.1)
  obtain ⟨y0, y1, y2, y3, y4⟩ := HC1.out
  have CR1 := Lib.hid (CR.out V HF2.out)
  unfold rgV at CR1
  dsimp only at CR1
  clear CR
  have HSF := Lib.hid (fun (W : World) (hW : Fr V W []) => (HC1.out.fr hW (by simp) : C5 w.heap.size (.int .i64 co) (.int .i64 fo) (.int .i64 ho) (.slice am m cm) (.slice ae n ce) W))
  have HL2 := Lib.hid (fun (y : La) (b : Bool) (hb : b = decide (y ∈ L)) (W : World) (hW : Fr w W []) => hasLatch_any vl L y W (HLL.out.keep hW) b hb)
  go_wp2_with fail
  with_reducible refine (CR1.out).mono ?_
  rintro e w1 ⟨u, rfl, hcr⟩
  obtain ⟨vm, ve, xs, hu, HRB0, hxs⟩ := RB.of_copy hcr
  subst hu
  have HRB := Lib.hid HRB0
  have HXS := Lib.hid hxs
  clear hcr HRB0 hxs CR1 y0 y1 y2 y3 y4
  unfold rgV
  dsimp only at HRB HXS ⊢
  obtain ⟨ua, uc, rfl⟩ := HRB.out.oe.shape
  obtain ⟨va, vc, rfl⟩ := row_shape HRB.out.oi
  go_upto_region 2 with fail
  generalize w1.heap.size = g at HRB ⊢
  generalize World.alloc w1 _ = w2 at HRB ⊢
  obtain ⟨q0, q1, q2, q3, q4⟩ := row5 HRB.out.row
  obtain ⟨f0, f1, f2, f3, f4⟩ := fz5 HRB.out.row
  have HRB2 := Lib.hid HRB.out.gone
  clear HRB
  go_upto_region 3 with fail
  generalize World.setCell w2 _ _ = w3 at HRB2 ⊢
  clear q0 q1 q2 q3 q4 f0 f1 f2 f3 f4 HXS
  generalize Value.slice va ms.length vc = um at HRB2 ⊢
  go_wp2_with fail
  go_loopw [6] (fun s6 wx => ∃ (k : Nat) (ve : Value) (xs : List (En × Value)), s6 = .int .i64 k ∧ Hid (k ≤ n) ∧ Hid (RB V g co fo ho um ve ms xs wx) ∧ Hid (xs.map (·.1) = purgeE (es.take k) L)) (fun s6 _ => n - (intOf s6).toNat)
  case atStart => exact ⟨0, _, [], rfl, Lib.hid (Nat.zero_le _), HRB2, Lib.hid (by simp [purgeE])⟩
  case round =>
    clear HRB2
    obtain ⟨k, ve, xs, rfl, HK, HRB, HX⟩ := hrel
    have hk := HK.out
    obtain ⟨y0, y1, y2, y3, y4⟩ := HSF.out _ HRB.out.f
    by_cases hlt : k < n
    · obtain ⟨bk, off, rfl, hc⟩ := HLS.out (by omega)
      obtain ⟨vb, x0, x1, x2, x3, x4, hb⟩ := hc k hlt
      obtain ⟨e, hee⟩ : ∃ e, e = es.getD k zeroE := ⟨_, rfl⟩
      rw [← hee] at x0 x1 x2 x4 hb
      have hmem : e ∈ es := by
        have hk' : k < es.length := by have := HN.out; omega
        rw [hee, List.getD_eq_getElem?_getD, List.getElem?_eq_getElem hk']
        exact List.getElem_mem hk'
      have HT := Lib.hid (show purgeE (es.take (k + 1)) L = purgeE (es.take k) L ++ (if laOf e ∈ L then [e] else []) by rw [hee]; exact purge_step es L k (by have := HN.out; omega))
      have HXLe : Hid (xs.length ≤ k) := by
        show _ ≤ _
        have h1 := congrArg List.length HX.out
        rw [List.length_map] at h1
        have h2 := List.length_filter_le (fun e => decide (laOf e ∈ L)) (es.take k)
        rw [List.length_take] at h2
        unfold purgeE at h1
        omega
      obtain ⟨b, hbb⟩ : ∃ b, b = decide (laOf e ∈ L) := ⟨_, rfl⟩
      have HL3 := Lib.hid (HL2.out (laOf e) b hbb wr (HF2.out.trans HRB.out.f))
      have HEW := Lib.hid (show wr.cell? ⟨bk, off + k * 5, none⟩ = some (.int .i64 e.fl) ∧ wr.cell? ⟨bk, off + k * 5 + 1, none⟩ = some (.int .i64 e.di) ∧ wr.cell? ⟨bk, off + k * 5 + 2, none⟩ = some (.int .i64 e.ge) from ⟨(HF2.out.trans HRB.out.f).cell x0 (by simp), (HF2.out.trans HRB.out.f).cell x1 (by simp), (HF2.out.trans HRB.out.f).cell x2 (by simp)⟩)
      obtain ⟨t0, t1, t2⟩ := HEW.out
      unfold laOf at HL3
      dsimp only at HL3
      replace hee := Lib.hid hee
      cases b with
      | false =>
        have HX2 : Hid (xs.map (·.1) = purgeE (es.take (k + 1)) L) := by
          show _ = _
          rw [HT.out, if_neg (of_decide_eq_false hbb.symm), List.append_nil, HX.out]
        clear hc hee hmem x0 x1 x2 x3 x4 hb hbb HX
        go_wp2_with fail
        with_reducible refine (HL3.out).mono ?_
        rintro e w4 ⟨rfl, hf⟩
        have HRN := Lib.hid (HRB.out.fr hf)
        clear hf HL3 HRB y0 y1 y2 y3 y4 t0 t1 t2
        go_wp2
        go_roundw
        case rel => exact ⟨k + 1, _, _, by go_num, Lib.hid (by omega), HRN, HX2⟩
        case measure => simp [intOf]; omega
      | true =>
        have HTT := Lib.hid (show purgeE (es.take (k + 1)) L = purgeE (es.take k) L ++ [e] by rw [HT.out, if_pos (of_decide_eq_true hbb.symm)])
        clear HT hbb
        go_wp2_with fail
        with_reducible refine (HL3.out).mono ?_
        rintro e' w4 ⟨rfl, hf⟩
        have HRB4 := Lib.hid (HRB.out.fr hf)
        clear hf HL3 HRB y0 y1 y2 y3 y4 t0 t1 t2 HEW
        have HRB := HRB4
        clear HRB4
        obtain ⟨y0, y1, y2, y3, y4⟩ := HSF.out _ HRB.out.f
        obtain ⟨zb, zc, rfl⟩ := hb.shape
        obtain ⟨e0, e1, e2, el, e4⟩ := e
        dsimp only at x0 x1 x2 x3 x4 hb
        have HEC := Lib.hid (And.intro (HF2.out.cell x0 (by simp)) (And.intro (HF2.out.cell x1 (by simp)) (And.intro (HF2.out.cell x2 (by simp)) (And.intro (HF2.out.cell x3 (by simp)) (HF2.out.cell x4 (by simp))))))
        obtain ⟨ua, uc, rfl⟩ := HRB.out.oe.shape
        have HSE : Hid (∀ W, Fr V W [] → C5 g (.int .i64 co) (.int .i64 fo) (.int .i64 ho) um (.slice ua xs.length uc) W → E5 V w.heap.size g bk (off + k * 5) co fo ho (.slice am m cm) (.slice (some ⟨bk, off, none⟩) n ce) um (.slice ua xs.length uc) ⟨e0, e1, e2, el, e4⟩ (.slice zb el.length zc) W) :=
          Lib.hid (fun W hW h3 => ⟨hW, HSF.out W hW, h3, hW.cell HEC.out.1 (by simp), hW.cell HEC.out.2.1 (by simp), hW.cell HEC.out.2.2.1 (by simp), hW.cell HEC.out.2.2.2.1 (by simp), hW.cell HEC.out.2.2.2.2 (by simp)⟩)
        have CE := Lib.hid (fun W (hW : Fr w W []) => copyE_any ⟨e0, e1, e2, el, e4⟩ (.slice zb el.length zc) W (hb.keep hW) (HBL.out _ hmem))
        have HR0 := Lib.hid (HRB.out.fr (Fr.drew w4 []))
        have HXL : Hid (xs.length ≤ k) := HXLe
        clear hc hee hmem x0 x1 x2 x3 x4 hb HRB
        obtain ⟨q0, q1, q2, q3, q4⟩ := row5 HR0.out.row
        go_wp2_with fail
        refine wp_region_noPanic ?_
        refine wp_region_heldL (S := E5 V w.heap.size g bk (off + k * 5) co fo ho (.slice am m cm) (.slice (some ⟨bk, off, none⟩) n ce) um (.slice ua xs.length uc) ⟨e0, e1, e2, el, e4⟩ (.slice zb el.length zc)) 11 (by kernel_rfl) (HSE.out _ HR0.out.f HR0.out.c5) (fun hHeld => ?_)
        refine wpHL_take (j := 11) (by decide) (by kernel_rfl) (i := 0) (oi := _) (v := ?fv0h1n2) (by simp only [List.getElem?_toArray, List.getElem?_cons_zero]; rfl) (by kernel_rfl) (by kernel_rfl) (by kernel_rfl) (fun _ _ _ h => h) (Or.inl ⟨by rfl, ?fy0h1n2⟩) (by assumption) ?fr0h1n2
        case fy0h1n2 => (intro w hSw; (try dsimp only [E5, C5] at hSw); go_simp; try with_reducible rfl)
        try simp only [Act.put, List.setIfInBounds_toArray, List.set_cons_zero, List.set_cons_succ]
        refine wpHL_take (j := 11) (by decide) (by kernel_rfl) (i := 1) (oi := _) (v := ?fv1h1n2) (by simp only [List.getElem?_toArray, List.getElem?_cons_zero, List.getElem?_cons_succ]; rfl) (by kernel_rfl) (by kernel_rfl) (by kernel_rfl) (fun _ _ _ h => h) (Or.inl ⟨by rfl, ?fy1h1n2⟩) (by assumption) ?fr1h1n2
        case fy1h1n2 => (intro w hSw; (try dsimp only [E5, C5] at hSw); go_simp; try with_reducible rfl)
        try simp only [Act.put, List.setIfInBounds_toArray, List.set_cons_zero, List.set_cons_succ]
        refine wpHL_take (j := 11) (by decide) (by kernel_rfl) (i := 2) (oi := _) (v := ?fv2h1n2) (by simp only [List.getElem?_toArray, List.getElem?_cons_zero, List.getElem?_cons_succ]; rfl) (by kernel_rfl) (by kernel_rfl) (by kernel_rfl) (fun _ _ _ h => h) (Or.inl ⟨by rfl, ?fy2h1n2⟩) (by assumption) ?fr2h1n2
        case fy2h1n2 => (intro w hSw; (try dsimp only [E5, C5] at hSw); go_simp; try with_reducible rfl)
        try simp only [Act.put, List.setIfInBounds_toArray, List.set_cons_zero, List.set_cons_succ]
        refine wpHL_take (j := 11) (by decide) (by kernel_rfl) (i := 3) (oi := _) (v := ?fv3h1n2) (by simp only [List.getElem?_toArray, List.getElem?_cons_zero, List.getElem?_cons_succ]; rfl) (by kernel_rfl) (by kernel_rfl) (by kernel_rfl) (fun _ _ _ h => h) (Or.inl ⟨by rfl, ?fy3h1n2⟩) (by assumption) ?fr3h1n2
        case fy3h1n2 => (intro w hSw; (try dsimp only [E5, C5] at hSw); go_simp; try with_reducible rfl)
        try simp only [Act.put, List.setIfInBounds_toArray, List.set_cons_zero, List.set_cons_succ]
        refine wpHL_take (j := 11) (by decide) (by kernel_rfl) (i := 4) (oi := _) (v := ?fv4h1n2) (by simp only [List.getElem?_toArray, List.getElem?_cons_zero, List.getElem?_cons_succ]; rfl) (by kernel_rfl) (by kernel_rfl) (by kernel_rfl) (fun _ _ _ h => h) (Or.inl ⟨by rfl, ?fy4h1n2⟩) (by assumption) ?fr4h1n2
        case fy4h1n2 => (intro w hSw; (try dsimp only [E5, C5] at hSw); go_simp; try with_reducible rfl)
        try simp only [Act.put, List.setIfInBounds_toArray, List.set_cons_zero, List.set_cons_succ]
        refine wpHL_take (j := 11) (by decide) (by kernel_rfl) (i := 5) (oi := _) (v := ?fv5h1n2) (by simp only [List.getElem?_toArray, List.getElem?_cons_zero, List.getElem?_cons_succ]; rfl) (by kernel_rfl) (by kernel_rfl) (by kernel_rfl) (fun _ _ _ h => h) (Or.inl ⟨by rfl, ?fy5h1n2⟩) (by assumption) ?fr5h1n2
        case fy5h1n2 => (intro w hSw; (try dsimp only [E5, C5] at hSw); go_simp; try with_reducible rfl)
        try simp only [Act.put, List.setIfInBounds_toArray, List.set_cons_zero, List.set_cons_succ]
        refine wpHL_take (j := 11) (by decide) (by kernel_rfl) (i := 6) (oi := _) (v := ?fv6h1n2) (by simp only [List.getElem?_toArray, List.getElem?_cons_zero, List.getElem?_cons_succ]; rfl) (by kernel_rfl) (by kernel_rfl) (by kernel_rfl) (fun _ _ _ h => h) (Or.inl ⟨by rfl, ?fy6h1n2⟩) (by assumption) ?fr6h1n2
        case fy6h1n2 => (intro w hSw; (try dsimp only [E5, C5] at hSw); go_simp; try with_reducible rfl)
        try simp only [Act.put, List.setIfInBounds_toArray, List.set_cons_zero, List.set_cons_succ]
        generalize w4.drew = W0 at HR0 hHeld ⊢
        unfold enV at CE
        dsimp only at CE
        refine wpHL_ready (rs := [7]) (by kernel_rfl) (by simp) ?_
        refine AllReadyHL.cons (o := _) (by decide) (by simp only [List.getElem?_toArray, List.getElem?_cons_zero, List.getElem?_cons_succ]; rfl) (fun K hK => ?_) AllReadyHL.nil
        go_simp
        ((with_reducible refine (CE.out _ (HF2.out.trans HR0.out.f)).mono ?_); rintro e W1 ⟨u, rfl, ⟨vb2, rfl, ho1, hf⟩⟩; obtain ⟨ub, ud, rfl⟩ := ho1.shape; have HR1 := Lib.hid (HR0.out.fr hf); have HB1 := Lib.hid (OwnB.mono ho1 HR0.out.f.size); have hS := HSE.out _ HR1.out.f HR1.out.c5; unfold enV; dsimp only; clear ho1 hf)
        go_wp2_with fail
        refine hK.out _ _ hS (fun hHeld => ?_)
        clear hK K
        try simp only [Act.put, List.setIfInBounds_toArray, List.set_cons_zero, List.set_cons_succ]
        clear hS HR0
        refine wpHL_ready (rs := [8]) (by kernel_rfl) (by simp) ?_
        refine AllReadyHL.cons (o := _) (by decide) (by simp only [List.getElem?_toArray, List.getElem?_cons_zero, List.getElem?_cons_succ]; rfl) (fun K hK => ?_) AllReadyHL.nil
        go_simp
        have HR2 := Lib.hid (HR1.out.fr (Fr.alloc W1 (.cells #[.int .i64 e0, .int .i64 e1, .int .i64 e2, .slice ub el.length ud, .int .i64 e4] 56) []))
        have HB2 := Lib.hid (HB1.out.keep (Fr.alloc W1 (.cells #[.int .i64 e0, .int .i64 e1, .int .i64 e2, .slice ub el.length ud, .int .i64 e4] 56) []))
        have hS := HSE.out _ HR2.out.f HR2.out.c5
        refine hK.out _ _ hS (fun hHeld => ?_)
        clear hK K
        try simp only [Act.put, List.setIfInBounds_toArray, List.set_cons_zero, List.set_cons_succ]
        clear hS HR1 HB1
        refine wpHL_ready (rs := [9]) (by kernel_rfl) (by simp) ?_
        refine AllReadyHL.cons (o := _) (by decide) (by simp only [List.getElem?_toArray, List.getElem?_cons_zero, List.getElem?_cons_succ]; rfl) (fun K hK => ?_) AllReadyHL.nil
        refine step_append_lies _ (by rfl) _ _ _ (by rfl) V.heap.size 56 i0 (.agg #[.int .i64 0, .int .i64 0, .int .i64 0, .slice none 0 0, .int .i64 0]) 5 56 Tryz.underlying25 hi0 hz0 hz1 hz2 rfl (by decide) (.slice ua xs.length uc) xs.length (encs xs) (by rfl) HR2.out.oe.1 ⟨W1.heap.size, 0, none⟩ 1 1 (enc1 (⟨e0, e1, e2, el, e4⟩, .slice ub el.length ud)) (by rfl) rfl (row_newL _ _ _) (en_one _ _ _ _) (by decide) (by unfold maxLen; have := HXL.out; omega) (by have := HXL.out; omega) HR2.out.f.size _ rfl ?_
        intro g cap W3 hown hgr _ _
        have HA := Lib.hid (HR2.out.app (x := (⟨e0, e1, e2, el, e4⟩, .slice ub el.length ud)) HB2.out hown hgr)
        have hS := HSE.out _ HA.out.f (row5 HA.out.row)
        clear hown hgr
        refine hK.out _ _ hS (fun hHeld => ?_)
        clear hK K
        try simp only [Act.put, List.setIfInBounds_toArray, List.set_cons_zero, List.set_cons_succ]
        clear hS HR2 HB2
        refine wpHL_take (j := 11) (by decide) (by kernel_rfl) (i := 10) (oi := _) (v := ?fv10h1n3) (by simp only [List.getElem?_toArray, List.getElem?_cons_zero, List.getElem?_cons_succ]; rfl) (by kernel_rfl) (by kernel_rfl) (by kernel_rfl) (fun _ _ _ h => h) (Or.inl ⟨by rfl, ?fy10h1n3⟩) (by assumption) ?fr10h1n3
        case fy10h1n3 => (intro w hSw; (try dsimp only [E5, C5] at hSw); go_simp; try with_reducible rfl)
        try simp only [Act.put, List.setIfInBounds_toArray, List.set_cons_zero, List.set_cons_succ]
        obtain ⟨t0, t1⟩ := HA.out.cells
        have HRN := Lib.hid HA.out.store
        clear HA hHeld
        refine wpHL_last (by kernel_rfl) (by kernel_rfl) (by simp only [List.getElem?_toArray, List.getElem?_cons_zero, List.getElem?_cons_succ]; rfl) ?_
        intro K hK
        go_simp
        clear t0 t1
        generalize World.setCell W3 _ _ = W4 at HRN ⊢

        have HX2 : Hid ((xs ++ [((⟨e0, e1, e2, el, e4⟩ : En), Value.slice ub el.length ud)]).map (·.1) = purgeE (es.take (k + 1)) L) := by show _ = _; rw [List.map_append, HX.out, HTT.out]; rfl
        refine hK.out _ _ ?_
        refine NoPanic.normal ?_
        clear HXL CE
        go_wp2_with fail
        go_roundw
        case rel => exact ⟨k + 1, _, _, by go_num, Lib.hid (by omega), HRN, HX2⟩
        case measure => simp [intOf]; omega
    · obtain rfl : k = n := by omega
      have HXE : Hid (xs.map (·.1) = purgeE es L) := by have := HX.out; rwa [HN.out, List.take_length] at this
      obtain ⟨ua, uc, rfl⟩ := HRB.out.oe.shape
      obtain ⟨va, vc, rfl⟩ := row_shape HRB.out.oi
      obtain ⟨q0, q1, q2, q3, q4⟩ := row5 HRB.out.row
      have HZ2 := Lib.hid (HRB.out.f.heap HTW.out.2 (by simp))
      obtain ⟨z0, z1, z2, z3, z4⟩ := row5 HZ2.out
      obtain ⟨f0, f1, f2, f3, f4⟩ := fz5 HZ2.out
      obtain ⟨⟨e0, e1, e2, e3, e4⟩, HENDa⟩ := HRB.out.ret HF2.out HTW.out.2 (by omega)
      have HEND := Lib.hid HENDa
      clear HENDa HZ2 HRB
      go_wp2
      generalize World.setCell (World.setCell (World.setCell (World.setCell (World.setCell wr _ _) _ _) _ _) _ _) _ _ = W at e0 e1 e2 e3 e4 HEND ⊢
      exact bodyPost_ret (v := .agg #[.int .i64 co, .int .i64 fo, .int .i64 ho, .slice va ms.length vc, .slice ua xs.length uc]) (by simp [results, Tryz.results16, go_sem, e0, e1, e2, e3, e4]) rfl (gives ⟨⟨_, _, rfl, HEND.out.1, HXE.out ▸ HEND.out.2.1⟩, HEND.out.2.2⟩)
end Go.Proofs.YtldheaamcnmlgaaGreat

namespace Go.Proofs.YtldheaamcnmlgaaGreat
open Go.RowKit Fm

theorem want_step (es : List En) (car : Int) (k : Nat) (h : k < es.length) : ((es.take (k + 1)).filter (wantE car)).map callOf = ((es.take k).filter (wantE car)).map callOf ++ (if wantE car (es.getD k zeroE) = true then [callOf (es.getD k zeroE)] else []) := by
  rw [take_en es k h, List.filter_append, List.map_append]
  congr 1
  by_cases q : wantE car (es.getD k zeroE) = true
  · rw [if_pos q, List.filter_cons, if_pos q]; rfl
  · rw [if_neg q, List.filter_cons, if_neg q]; rfl
theorem mine_step (es : List En) (car : Int) (k : Nat) (h : k < es.length) : ((es.take (k + 1)).filter fun e => decide (e.aw = car)).map laOf = ((es.take k).filter fun e => decide (e.aw = car)).map laOf ++ (if (es.getD k zeroE).aw = car then [laOf (es.getD k zeroE)] else []) := by
  rw [take_en es k h, List.filter_append, List.map_append]
  congr 1
  by_cases q : (es.getD k zeroE).aw = car
  · rw [if_pos q, List.filter_cons, if_pos (decide_eq_true q)]; rfl
  · rw [if_neg q, List.filter_cons, if_neg (by simpa using q)]; rfl
def mineK (es : List En) (car : Int) (k : Nat) : List La := if 0 ≤ car then ((es.take k).filter fun e => decide (e.aw = car)).map laOf else []
theorem mineK_step (es : List En) (car : Int) (k : Nat) (h : k < es.length) : mineK es car (k + 1) = mineK es car k ++ (if (es.getD k zeroE).aw = car ∧ 0 ≤ car then [laOf (es.getD k zeroE)] else []) := by
  unfold mineK
  by_cases q : 0 ≤ car
  · rw [if_pos q, if_pos q, mine_step es car k h]
    congr 1
    simp [q]
  · rw [if_neg q, if_neg q, if_neg (fun x => q x.2)]; rfl
theorem mineK_len (es : List En) (car : Int) (k : Nat) : (mineK es car k).length ≤ k := by
  unfold mineK
  split
  · rw [List.length_map]
    exact Nat.le_trans (List.length_filter_le _ _) (by rw [List.length_take]; omega)
  · simp
/-- What Wants, Mine answer. -/
def WantsE (l : List (Int × Int)) (w : World) (u : Value) (w' : World) : Prop := HCl w' u l ∧ Fr w w' []
def MineE (l : List La) (w : World) (u : Value) (w' : World) : Prop := HLs w' u l ∧ Fr w w' []
set_option maxHeartbeats 4000000 in
set_option maxRecDepth 100000 in
theorem rwants_any (r : Rg) (vm ve : Value) (car : Int) (w : World) (hm : HInts w vm r.ms) (he : HE w ve r.es) (hml : r.ms.length ≤ 1000) (hel : r.es.length ≤ 1000) (hbl : ∀ e ∈ r.es, e.bs.length ≤ 1000) :
    Calls Tryz.prog 21 #[rgV r vm ve, .int .i64 car] w (Gives (WantsE (wantsR r car) w)) := by
  obtain ⟨i0, hi0, hz0, hz1, hz2⟩ := info_parts infoCl
  obtain ⟨co, fo, ho, ms, es⟩ := r
  dsimp only at hm he hml hel hbl
  have HMV := Lib.hid hm
  have HEV := Lib.hid he
  obtain ⟨am, cm, rfl, pm, qm, rm⟩ := hm
  obtain ⟨ae, ce, rfl, pe, qe, re⟩ := he
  unfold maxLen at qm qe
  have HBL := Lib.hid hbl
  have HEL := Lib.hid hel
  have HML := Lib.hid hml
  have HLS := Lib.hid re
  obtain ⟨n, hn⟩ : ∃ n, n = es.length := ⟨_, rfl⟩
  have HN := Lib.hid hn
  obtain ⟨m, hmm⟩ : ∃ m, m = ms.length := ⟨_, rfl⟩
  rw [← hn] at hel pe HLS HEV
  rw [← hmm] at hml pm HMV
  unfold rgV
  dsimp only
  rw [← hn, ← hmm]
  clear rm re hbl hn hmm
  have HC1 := Lib.hid (show C5 w.heap.size (.int .i64 co) (.int .i64 fo) (.int .i64 ho) (.slice am m cm) (.slice ae n ce) _ from row5 (heap_alloc_new w (.cells #[.int .i64 co, .int .i64 fo, .int .i64 ho, .slice am m cm, .slice ae n ce] 27)))
  have HF1 := Lib.hid (Fr.alloc w (.cells #[.int .i64 co, .int .i64 fo, .int .i64 ho, .slice am m cm, .slice ae n ce] 27) [])
  have AM := Lib.hid (fun (b : Bool) (hb : b = decide (car ∈ ms)) W (hW : Fr w W []) => among_any _ ms car b hb W (HMV.out.keep hW))
  obtain ⟨inm, him⟩ : ∃ b, b = decide (car ∈ ms) := ⟨_, rfl⟩
  have HIM := Lib.hid him
  have HWR := Lib.hid (show wantsR ⟨co, fo, ho, ms, es⟩ car = if inm = true then (es.filter (wantE car)).map callOf else [] by unfold wantsR; rw [him]; simp)
  generalize wantsR ⟨co, fo, ho, ms, es⟩ car = RES at HWR ⊢
  clear him
  go_enter Tryz.func21, Tryz.ntmps21
  go_upto_region 2 with fail
  generalize w.alloc _ = V at HC1 HF1 ⊢
  have HSF := Lib.hid (fun (W : World) (hW : Fr V W []) => (HC1.out.fr hW (by simp) : C5 w.heap.size (.int .i64 co) (.int .i64 fo) (.int .i64 ho) (.slice am m cm) (.slice ae n ce) W))
  go_wp2_with fail
  go_loopw [5, 6] (fun s5 s6 wx => ∃ (k : Nat), s6 = .int .i64 k ∧ Hid (k ≤ n) ∧ Hid (OwnCl wx V.heap.size s5 (((es.take k).filter (wantE car)).map callOf)) ∧ Hid (Fr V wx []) ∧ Hid (inm = false → k = 0)) (fun _ s6 _ => n - (intOf s6).toNat)
  case atStart => exact ⟨0, rfl, Lib.hid (Nat.zero_le _), Lib.hid (OwnCl.nil _ _), Lib.hid (Fr.refl _ _), Lib.hid (fun _ => rfl)⟩
  case round =>
    obtain ⟨k, rfl, HK, HO, HF, HZ⟩ := hrel
    have hk := HK.out
    obtain ⟨y0, y1, y2, y3, y4⟩ := HSF.out _ HF.out
    by_cases hlt : k < n
    · have hltd : decide ((k : Int) < (n : Int)) = true := decide_eq_true (by omega)
      have AM1 := Lib.hid (AM.out inm HIM.out wr (HF1.out.trans HF.out))
      cases inm with
      | false =>
        have HRE : Hid (HCl wr u5 RES) := by
          have h0 := HZ.out rfl
          subst h0
          have := HO.out.holds
          show HCl _ _ _
          rw [HWR.out]
          exact this
        clear HWR HZ
        go_wp2_with fail
        with_reducible refine (AM1.out).mono ?_
        rintro e w4 ⟨rfl, hw⟩
        rw [← hw]
        clear hw
        go_wp2
        go_ret
        exact gives ⟨HRE.out, HF1.out.trans HF.out⟩
      | true =>
        obtain ⟨bk, off, rfl, hc⟩ := HLS.out (by omega)
        obtain ⟨vb, x0, x1, x2, x3, x4, hb⟩ := hc k hlt
        obtain ⟨e, hee⟩ : ∃ e, e = es.getD k zeroE := ⟨_, rfl⟩
        rw [← hee] at x0 x1 x2 x4 hb
        have hmem : e ∈ es := by
          have hk' : k < es.length := by have := HN.out; omega
          rw [hee, List.getD_eq_getElem?_getD, List.getElem?_eq_getElem hk']
          exact List.getElem_mem hk'
        have HT := Lib.hid (show ((es.take (k + 1)).filter (wantE car)).map callOf = ((es.take k).filter (wantE car)).map callOf ++ (if wantE car e = true then [callOf e] else []) by rw [hee]; exact want_step es car k (by have := HN.out; omega))
        have HEW := Lib.hid (show wr.cell? ⟨bk, off + k * 5, none⟩ = some (.int .i64 e.fl) ∧ wr.cell? ⟨bk, off + k * 5 + 1, none⟩ = some (.int .i64 e.di) ∧ wr.cell? ⟨bk, off + k * 5 + 3, none⟩ = some vb ∧ wr.cell? ⟨bk, off + k * 5 + 4, none⟩ = some (.int .i64 e.aw) from ⟨(HF1.out.trans HF.out).cell x0 (by simp), (HF1.out.trans HF.out).cell x1 (by simp), (HF1.out.trans HF.out).cell x3 (by simp), (HF1.out.trans HF.out).cell x4 (by simp)⟩)
        have RF := Lib.hid (rfind_b vb e.bs car wr (hb.keep (HF1.out.trans HF.out)) (by have := HBL.out e hmem; omega))
        have HLN : Hid ((((es.take k).filter (wantE car)).map callOf).length ≤ 1000) := by
          show _ ≤ _
          rw [List.length_map]
          exact Nat.le_trans (List.length_filter_le _ _) (by rw [List.length_take]; have := HEL.out; omega)
        obtain ⟨zb, zc, rfl⟩ := hb.shape
        obtain ⟨e0, e1, e2, el, e4⟩ := e
        dsimp only at RF HEW
        obtain ⟨t0, t1, t3, t4⟩ := HEW.out
        clear hc hee hmem x0 x1 x2 x3 x4 hb HEW
        by_cases hq : e4 = -1
        rotate_left
        · have hqd : (e4 == -1) = false := by simp [hq]
          have HO2 : Hid (OwnCl wr V.heap.size u5 (((es.take (k + 1)).filter (wantE car)).map callOf)) := by
            show OwnCl _ _ _ _
            rw [HT.out, if_neg (by unfold wantE; simp [hq]), List.append_nil]
            exact HO.out
          clear HT HO RF hq
          go_wp2_with fail
          with_reducible refine (AM1.out).mono ?_
          rintro e w4 ⟨rfl, hw⟩
          rw [← hw]
          clear hw
          go_wp2
          go_roundw
          case rel => exact ⟨k + 1, by go_num, Lib.hid (by omega), HO2, HF, Lib.hid (fun h => by cases h)⟩
          case measure => simp [intOf]; omega
        subst hq
        go_wp2_with fail
        with_reducible refine (AM1.out).mono ?_
        rintro e w4 ⟨rfl, hw⟩
        rw [← hw]
        clear hw
        go_wp2_with fail
        with_reducible refine (RF.out).mono ?_
        rintro e w5 ⟨z, rfl, hz, hw⟩
        rw [hw]
        clear hw
        clear RF AM1
        rcases hz with ⟨rfl, hz⟩ | ⟨j, rfl, hj, hz⟩
        rotate_left
        · have HO2 : Hid (OwnCl wr V.heap.size u5 (((es.take (k + 1)).filter (wantE car)).map callOf)) := by
            show OwnCl _ _ _ _
            rw [HT.out, if_neg (by unfold wantE; dsimp only; rw [hz]; simp), List.append_nil]
            exact HO.out
          clear HT HO hz hj
          go_wp2
          go_roundw
          case rel => exact ⟨k + 1, by go_num, Lib.hid (by omega), HO2, HF, Lib.hid (fun h => by cases h)⟩
          case measure => simp [intOf]; omega
        have HTT := Lib.hid (show ((es.take (k + 1)).filter (wantE car)).map callOf = ((es.take k).filter (wantE car)).map callOf ++ [(e0, e1)] by rw [HT.out, if_pos (by unfold wantE; dsimp only; rw [hz]; rfl)]; rfl)
        clear HT hz
        obtain ⟨M, hM⟩ : ∃ M, M = ((es.take k).filter (wantE car)).map callOf := ⟨_, rfl⟩
        rw [← hM] at HO HTT HLN
        obtain ⟨ua, uc, rfl⟩ := HO.out.shape
        clear hM
        go_wp2_with (at_builtin; refine wpList_append_own _ rfl _ _ 45 rfl V.heap.size 32 i0 (.agg #[.int .i64 0, .int .i64 0]) 2 16 Tryz.underlying45 hi0 hz0 hz1 hz2 rfl (by decide) (.slice ua M.length uc) M.length (cdc M) rfl (World.ownsRow.alloc HO.out _) ⟨wr.heap.size, 0, none⟩ 1 1 [.int .i64 e0, .int .i64 e1] rfl rfl (row_new2 _ _ _ _) (bid_one (e0, e1)) (by have := HLN.out; unfold maxLen; omega) (by have := HLN.out; omega) (by have := HF.out.size; simp; omega) ?_; intro v' w3 hown3 hg3 _)
        have HF3 := Lib.hid ((HF.out.trans (Fr.alloc _ (.cells #[.int .i64 e0, .int .i64 e1] 32) [])).grown_own hg3 (fun r hr => .inr (HO.out.block r hr).1))
        have HO3 : Hid (OwnCl w3 V.heap.size v' (((es.take (k + 1)).filter (wantE car)).map callOf)) := by
          show OwnCl _ _ _ _
          rw [HTT.out]
          exact OwnCl.snoc hown3
        clear hown3 hg3
        go_wp2
        go_roundw
        case rel => exact ⟨k + 1, by go_num, Lib.hid (by omega), HO3, HF3, Lib.hid (fun h => by cases h)⟩
        case measure => simp [intOf]; omega
    · have hltd : decide ((k : Int) < (n : Int)) = false := decide_eq_false (by omega)
      obtain rfl : k = n := by omega
      have HRE : Hid (HCl wr u5 RES) := by
        have h1 := HO.out.holds
        rw [HN.out, List.take_length] at h1
        show HCl _ _ _
        rw [HWR.out]
        cases inm with
        | true => exact h1
        | false =>
          have h0 := HZ.out rfl
          have h2 : es = [] := List.eq_nil_of_length_eq_zero (by have := HN.out; omega)
          rw [h2] at h1
          exact h1
      clear HWR HZ HO
      go_wp2
      go_ret
      exact gives ⟨HRE.out, HF1.out.trans HF.out⟩
end Go.Proofs.YtldheaamcnmlgaaGreat

namespace Go.Proofs.YtldheaamcnmlgaaGreat
open Go.RowKit Fm

set_option maxHeartbeats 4000000 in
set_option maxRecDepth 100000 in
theorem rmine_any (r : Rg) (vm ve : Value) (car : Int) (w : World) (hm : HInts w vm r.ms) (he : HE w ve r.es) (hml : r.ms.length ≤ 1000) (hel : r.es.length ≤ 1000) (hbl : ∀ e ∈ r.es, e.bs.length ≤ 1000) :
    Calls Tryz.prog 24 #[rgV r vm ve, .int .i64 car] w (Gives (MineE (mineR r car) w)) := by
  obtain ⟨i0, hi0, hz0, hz1, hz2⟩ := info_parts infoL
  obtain ⟨co, fo, ho, ms, es⟩ := r
  dsimp only at hm he hml hel hbl
  have HMV := Lib.hid hm
  have HEV := Lib.hid he
  obtain ⟨am, cm, rfl, pm, qm, rm⟩ := hm
  obtain ⟨ae, ce, rfl, pe, qe, re⟩ := he
  unfold maxLen at qm qe
  have HBL := Lib.hid hbl
  have HEL := Lib.hid hel
  have HML := Lib.hid hml
  have HLS := Lib.hid re
  obtain ⟨n, hn⟩ : ∃ n, n = es.length := ⟨_, rfl⟩
  have HN := Lib.hid hn
  obtain ⟨m, hmm⟩ : ∃ m, m = ms.length := ⟨_, rfl⟩
  rw [← hn] at hel pe HLS HEV
  rw [← hmm] at hml pm HMV
  unfold rgV
  dsimp only
  rw [← hn, ← hmm]
  clear rm re hbl hn hmm
  have HC1 := Lib.hid (show C5 w.heap.size (.int .i64 co) (.int .i64 fo) (.int .i64 ho) (.slice am m cm) (.slice ae n ce) _ from row5 (heap_alloc_new w (.cells #[.int .i64 co, .int .i64 fo, .int .i64 ho, .slice am m cm, .slice ae n ce] 27)))
  have HF1 := Lib.hid (Fr.alloc w (.cells #[.int .i64 co, .int .i64 fo, .int .i64 ho, .slice am m cm, .slice ae n ce] 27) [])
  have HWR := Lib.hid (show mineR ⟨co, fo, ho, ms, es⟩ car = mineK es car n by unfold mineR mineK; rw [HN.out, List.take_length])
  generalize mineR ⟨co, fo, ho, ms, es⟩ car = RES at HWR ⊢
  go_enter Tryz.func24, Tryz.ntmps24
  go_upto_region 2 with fail
  generalize w.alloc _ = V at HC1 HF1 ⊢
  have HSF := Lib.hid (fun (W : World) (hW : Fr V W []) => (HC1.out.fr hW (by simp) : C5 w.heap.size (.int .i64 co) (.int .i64 fo) (.int .i64 ho) (.slice am m cm) (.slice ae n ce) W))
  go_wp2_with fail
  go_loopw [5, 6] (fun s5 s6 wx => ∃ (k : Nat), s6 = .int .i64 k ∧ Hid (k ≤ n) ∧ Hid (OwnL wx V.heap.size s5 (mineK es car k)) ∧ Hid (Fr V wx [])) (fun _ s6 _ => n - (intOf s6).toNat)
  case atStart => exact ⟨0, rfl, Lib.hid (Nat.zero_le _), Lib.hid (by have : mineK es car 0 = [] := by unfold mineK; split <;> simp
                                                                      rw [this]; exact OwnL.nil _ _), Lib.hid (Fr.refl _ _)⟩
  case round =>
    obtain ⟨k, rfl, HK, HO, HF⟩ := hrel
    have hk := HK.out
    obtain ⟨y0, y1, y2, y3, y4⟩ := HSF.out _ HF.out
    by_cases hlt : k < n
    · have hltd : decide ((k : Int) < (n : Int)) = true := decide_eq_true (by omega)
      obtain ⟨bk, off, rfl, hc⟩ := HLS.out (by omega)
      obtain ⟨vb, x0, x1, x2, x3, x4, hb⟩ := hc k hlt
      obtain ⟨e, hee⟩ : ∃ e, e = es.getD k zeroE := ⟨_, rfl⟩
      rw [← hee] at x0 x1 x2 x4 hb
      have hmem : e ∈ es := by
        have hk' : k < es.length := by have := HN.out; omega
        rw [hee, List.getD_eq_getElem?_getD, List.getElem?_eq_getElem hk']
        exact List.getElem_mem hk'
      have HT := Lib.hid (show mineK es car (k + 1) = mineK es car k ++ (if e.aw = car ∧ 0 ≤ car then [laOf e] else []) by rw [hee]; exact mineK_step es car k (by have := HN.out; omega))
      have HEW := Lib.hid (show wr.cell? ⟨bk, off + k * 5, none⟩ = some (.int .i64 e.fl) ∧ wr.cell? ⟨bk, off + k * 5 + 1, none⟩ = some (.int .i64 e.di) ∧ wr.cell? ⟨bk, off + k * 5 + 2, none⟩ = some (.int .i64 e.ge) ∧ wr.cell? ⟨bk, off + k * 5 + 4, none⟩ = some (.int .i64 e.aw) from ⟨(HF1.out.trans HF.out).cell x0 (by simp), (HF1.out.trans HF.out).cell x1 (by simp), (HF1.out.trans HF.out).cell x2 (by simp), (HF1.out.trans HF.out).cell x4 (by simp)⟩)
      have HLN : Hid ((mineK es car k).length ≤ 1000) := by
        have := mineK_len es car k
        have := HEL.out
        have := HN.out
        show _ ≤ _
        omega
      obtain ⟨e0, e1, e2, el, e4⟩ := e
      dsimp only at HEW
      obtain ⟨t0, t1, t2, t4⟩ := HEW.out
      clear hc hee hmem x0 x1 x2 x3 x4 hb HEW
      by_cases hq : e4 = car ∧ 0 ≤ car
      rotate_left
      · have hqc : ((e4 == car) = false) ∨ ((e4 == car) = true ∧ decide (0 ≤ car) = false) := by
          by_cases q1 : e4 = car
          · exact .inr ⟨by simp [q1], decide_eq_false (fun q2 => hq ⟨q1, q2⟩)⟩
          · exact .inl (by simp [q1])
        have HO2 : Hid (OwnL wr V.heap.size u5 (mineK es car (k + 1))) := by
          show OwnL _ _ _ _
          rw [HT.out, if_neg hq, List.append_nil]
          exact HO.out
        clear HT HO hq
        rcases hqc with q1 | ⟨q1, q2⟩
        · go_wp2
          go_roundw
          case rel => exact ⟨k + 1, by go_num, Lib.hid (by omega), HO2, HF⟩
          case measure => simp [intOf]; omega
        · go_wp2
          go_roundw
          case rel => exact ⟨k + 1, by go_num, Lib.hid (by omega), HO2, HF⟩
          case measure => simp [intOf]; omega
      have HTT := Lib.hid (show mineK es car (k + 1) = mineK es car k ++ [⟨e0, e1, e2⟩] by rw [HT.out, if_pos hq]; rfl)
      have q1 : (e4 == car) = true := by simp [hq.1]
      have q2 : decide (0 ≤ car) = true := decide_eq_true hq.2
      clear HT hq
      obtain ⟨M, hM⟩ : ∃ M, M = mineK es car k := ⟨_, rfl⟩
      rw [← hM] at HO HTT HLN
      obtain ⟨ua, uc, rfl⟩ := HO.out.shape
      clear hM
      go_wp2_with (at_builtin; refine wpList_append_own _ rfl _ _ 28 rfl V.heap.size 53 i0 (.agg #[.int .i64 0, .int .i64 0, .int .i64 0]) 3 24 Tryz.underlying28 hi0 hz0 hz1 hz2 rfl (by decide) (.slice ua M.length uc) M.length (laC M) rfl (World.ownsRow.alloc HO.out _) ⟨wr.heap.size, 0, none⟩ 1 1 [.int .i64 e0, .int .i64 e1, .int .i64 e2] rfl rfl (row_newL wr [.int .i64 e0, .int .i64 e1, .int .i64 e2] _) (la_one ⟨e0, e1, e2⟩) (by have := HLN.out; unfold maxLen; omega) (by have := HLN.out; omega) (by have := HF.out.size; simp; omega) ?_; intro v' w3 hown3 hg3 _)
      have HF3 := Lib.hid ((HF.out.trans (Fr.alloc _ (.cells #[.int .i64 e0, .int .i64 e1, .int .i64 e2] 53) [])).grown_own hg3 (fun r hr => .inr (HO.out.block r hr).1))
      have HO3 : Hid (OwnL w3 V.heap.size v' (mineK es car (k + 1))) := by
        show OwnL _ _ _ _
        rw [HTT.out]
        exact OwnL.snoc hown3
      clear hown3 hg3
      go_wp2
      go_roundw
      case rel => exact ⟨k + 1, by go_num, Lib.hid (by omega), HO3, HF3⟩
      case measure => simp [intOf]; omega
    · have hltd : decide ((k : Int) < (n : Int)) = false := decide_eq_false (by omega)
      obtain rfl : k = n := by omega
      have HRE : Hid (HLs wr u5 RES) := by
        show HLs _ _ _
        rw [HWR.out]
        exact HO.out.holds
      clear HWR HO
      go_wp2
      go_ret
      exact gives ⟨HRE.out, HF1.out.trans HF.out⟩
set_option maxHeartbeats 1000000 in
set_option maxRecDepth 100000 in
theorem rnew_any (co fo : Int) (v : Value) (l : List Int) (w : World) (h : HInts w v l) (hl : l.length ≤ 1000) :
    Calls Tryz.prog 26 #[.agg #[.int .i64 co, .int .i64 fo], v] w (Gives (RingE (newR co fo l) w)) := by
  have HTW := Lib.hid (two_boxes w (.cells #[.int .i64 co, .int .i64 fo] 23) (.cells #[.int .i64 0, .int .i64 0, .int .i64 0, .slice none 0 0, .slice none 0 0] 27))
  have HF2 := Lib.hid ((Fr.alloc w (.cells #[.int .i64 co, .int .i64 fo] 23) []).trans (Fr.alloc _ (.cells #[.int .i64 0, .int .i64 0, .int .i64 0, .slice none 0 0, .slice none 0 0] 27) []))
  have SE := Lib.hid (fun W (hW : Fr w W []) => setS_any v l W (h.keep hW) hl)
  clear h
  go_enter Tryz.func26, Tryz.ntmps26
  go_wp2_with fail
  generalize (w.alloc _).alloc _ = V at HTW HF2 ⊢
  have HX0 := Lib.hid (show SB1 w.heap.size (co, fo) V.drew from brow HTW.out.1)
  refine wp_region_noPanic ?_
  refine wp_region_heldL (S := SB1 w.heap.size (co, fo)) 4 (by kernel_rfl) HX0.out (fun hHeld => ?_)
  refine wpHL_take (j := 4) (by decide) (by kernel_rfl) (i := 0) (oi := _) (v := ?fv0h1n2) (by simp only [List.getElem?_toArray, List.getElem?_cons_zero]; rfl) (by kernel_rfl) (by kernel_rfl) (by kernel_rfl) (fun _ _ _ h => h) (Or.inl ⟨by rfl, ?fy0h1n2⟩) (by assumption) ?fr0h1n2
  case fy0h1n2 => (intro w hSw; (try dsimp only [SB1] at hSw); go_simp; try with_reducible rfl)
  try simp only [Act.put, List.setIfInBounds_toArray, List.set_cons_zero, List.set_cons_succ]
  refine wpHL_take (j := 4) (by decide) (by kernel_rfl) (i := 1) (oi := _) (v := ?fv1h1n2) (by simp only [List.getElem?_toArray, List.getElem?_cons_zero, List.getElem?_cons_succ]; rfl) (by kernel_rfl) (by kernel_rfl) (by kernel_rfl) (fun _ _ _ h => h) (Or.inl ⟨by rfl, ?fy1h1n2⟩) (by assumption) ?fr1h1n2
  case fy1h1n2 => (intro w hSw; (try dsimp only [SB1] at hSw); go_simp; try with_reducible rfl)
  try simp only [Act.put, List.setIfInBounds_toArray, List.set_cons_zero, List.set_cons_succ]
  refine wpHL_ready (rs := [2]) (by kernel_rfl) (by simp) ?_
  refine AllReadyHL.cons (o := _) (by decide) (by simp only [List.getElem?_toArray, List.getElem?_cons_zero, List.getElem?_cons_succ]; rfl) (fun K hK => ?_) AllReadyHL.nil
  go_simp
  ((with_reducible refine (SE.out _ (HF2.out.trans (Fr.drew V []))).mono ?_); rintro e w2 ⟨u, rfl, hset⟩; have hS2 := hHeld.fr (Fr.of_grown hset.2 []) (by simp); have HO := Lib.hid hset.1; have FD := Lib.hid ((Fr.drew V []).trans (Fr.of_grown hset.2 [])); clear hset; obtain ⟨ua, uc, rfl⟩ := row_shape HO.out)
  go_wp2_with fail
  refine hK.out _ _ hS2 (fun hHeld => ?_)
  clear hK K
  try simp only [Act.put, List.setIfInBounds_toArray, List.set_cons_zero, List.set_cons_succ]
  refine wpHL_take (j := 4) (by decide) (by kernel_rfl) (i := 3) (oi := _) (v := ?fv3h1n3) (by simp only [List.getElem?_toArray, List.getElem?_cons_zero, List.getElem?_cons_succ]; rfl) (by kernel_rfl) (by kernel_rfl) (by kernel_rfl) (fun _ _ _ h => h) (Or.inl ⟨by rfl, ?fy3h1n3⟩) (by assumption) ?fr3h1n3
  case fy3h1n3 => (intro w hSw; (try dsimp only [SB1] at hSw); go_simp; try with_reducible rfl)
  try simp only [Act.put, List.setIfInBounds_toArray, List.set_cons_zero, List.set_cons_succ]
  have HZ := Lib.hid (FD.out.heap HTW.out.2 (by simp))
  obtain ⟨z0, z1, z2, z3, z4⟩ := row5 HZ.out
  obtain ⟨f0, f1, f2, f3, f4⟩ := fz5 HZ.out
  have hF := set5_fr w2 (w.heap.size + 1) (.int .i64 co) (.int .i64 fo) (.int .i64 0) (.slice ua (setOf l).length uc) (.slice none 0 0)
  obtain ⟨e0, e1, e2, e3, e4⟩ := row5 (set5 HZ.out (.int .i64 co) (.int .i64 fo) (.int .i64 0) (.slice ua (setOf l).length uc) (.slice none 0 0))
  have HEND := Lib.hid (And.intro (HO.out.far hF HZ.out (by decide)).holds ((HF2.out.trans FD.out).new hF (by intro r hr; obtain rfl := List.mem_singleton.1 hr; omega)))
  clear hF HO HZ FD hHeld hS2
  refine wpHL_last (by kernel_rfl) (by kernel_rfl) (by simp only [List.getElem?_toArray, List.getElem?_cons_zero, List.getElem?_cons_succ]; rfl) ?_
  intro K hK
  go_simp
  clear z0 z1 z2 z3 z4 f0 f1 f2 f3 f4
  generalize World.setCell (World.setCell (World.setCell (World.setCell (World.setCell w2 _ _) _ _) _ _) _ _) _ _ = W at e0 e1 e2 e3 e4 HEND ⊢
  refine hK.out _ _ ?_
  refine NoPanic.normal ?_
  go_wp2_with fail
  exact bodyPost_ret (v := .agg #[.int .i64 co, .int .i64 fo, .int .i64 0, .slice ua (setOf l).length uc, .slice none 0 0]) (by simp [results, Tryz.results26, go_sem, e0, e1, e2, e3, e4]) rfl (gives ⟨⟨_, _, rfl, HEND.out.1, nil_ents⟩, HEND.out.2⟩)
end Go.Proofs.YtldheaamcnmlgaaGreat

namespace Go.Proofs.YtldheaamcnmlgaaGreat
open Go.RowKit Fm

/-- What place answers. -/
def PlaceIs (es : List En) (f d : Int) (z : Int) : Prop := (z = -1 ∧ ¬ placeE es f d < es.length) ∨ (z = (placeE es f d : Int) ∧ placeE es f d < es.length)
theorem place_here {es : List En} {f d : Int} {k : Nat} (hk : k < es.length) (no : ∀ i, i < k → ¬ ((es.getD i zeroE).fl = f ∧ (es.getD i zeroE).di = d)) (yes : (es.getD k zeroE).fl = f ∧ (es.getD k zeroE).di = d) : PlaceIs es f d k := by
  have e := placeE_is (Nat.le_of_lt hk) no (fun _ => yes)
  exact .inr ⟨by rw [e], by rw [e]; exact hk⟩
theorem place_none {es : List En} {f d : Int} (no : ∀ i, i < es.length → ¬ ((es.getD i zeroE).fl = f ∧ (es.getD i zeroE).di = d)) : PlaceIs es f d (-1) := by
  have e := placeE_is (k := es.length) (Nat.le_refl _) no (fun h => absurd h (Nat.lt_irrefl _))
  exact .inl ⟨rfl, by rw [e]; exact Nat.lt_irrefl _⟩
/-- What a round of place reads. -/
def SPl (V : World) (g1 g2 bk o : Nat) (co fo ho : Int) (am ae : Value) (f d x y : Int) (a : World) : Prop :=
  Fr V a [] ∧ C5 g1 (.int .i64 co) (.int .i64 fo) (.int .i64 ho) am ae a ∧ (a.cell? ⟨g2, 0, none⟩ = some (.int .i64 f) ∧ a.cell? ⟨g2, 1, none⟩ = some (.int .i64 d)) ∧ a.cell? ⟨bk, o, none⟩ = some (.int .i64 x) ∧ a.cell? ⟨bk, o + 1, none⟩ = some (.int .i64 y)
theorem SPl.fr {V : World} {g1 g2 bk o : Nat} {co fo ho : Int} {am ae : Value} {f d x y : Int} {a a' : World} (h : SPl V g1 g2 bk o co fo ho am ae f d x y a) (k : Fr a a' []) : SPl V g1 g2 bk o co fo ho am ae f d x y a' :=
  ⟨h.1.trans k, h.2.1.fr k (by simp), ⟨k.cell h.2.2.1.1 (by simp), k.cell h.2.2.1.2 (by simp)⟩, k.cell h.2.2.2.1 (by simp), k.cell h.2.2.2.2 (by simp)⟩
set_option maxHeartbeats 4000000 in
set_option maxRecDepth 100000 in
theorem rplace_any (r : Rg) (vm ve : Value) (f d : Int) (w : World) (hm : HInts w vm r.ms) (he : HE w ve r.es) (hml : r.ms.length ≤ 1000) (hel : r.es.length ≤ 1000) (hbl : ∀ e ∈ r.es, e.bs.length ≤ 1000) :
    Calls Tryz.prog 36 #[rgV r vm ve, .agg #[.int .i64 f, .int .i64 d]] w fun e w' => ∃ z, e = .returned (.int .i64 z) ∧ PlaceIs r.es f d z ∧ Fr w w' [] := by
  obtain ⟨co, fo, ho, ms, es⟩ := r
  dsimp only at hm he hml hel hbl
  have HMV := Lib.hid hm
  have HEV := Lib.hid he
  obtain ⟨am, cm, rfl, pm, qm, rm⟩ := hm
  obtain ⟨ae, ce, rfl, pe, qe, re⟩ := he
  unfold maxLen at qm qe
  have HBL := Lib.hid hbl
  have HEL := Lib.hid hel
  have HML := Lib.hid hml
  have HLS := Lib.hid re
  obtain ⟨n, hn⟩ : ∃ n, n = es.length := ⟨_, rfl⟩
  have HN := Lib.hid hn
  obtain ⟨m, hmm⟩ : ∃ m, m = ms.length := ⟨_, rfl⟩
  rw [← hn] at hel pe HLS HEV
  rw [← hmm] at hml pm HMV
  unfold rgV
  dsimp only
  rw [← hn, ← hmm]
  clear rm re hbl hn hmm
  have HTW := Lib.hid (two_boxes w (.cells #[.int .i64 co, .int .i64 fo, .int .i64 ho, .slice am m cm, .slice ae n ce] 27) (.cells #[.int .i64 f, .int .i64 d] 32))
  have HF2 := Lib.hid ((Fr.alloc w (.cells #[.int .i64 co, .int .i64 fo, .int .i64 ho, .slice am m cm, .slice ae n ce] 27) []).trans (Fr.alloc _ (.cells #[.int .i64 f, .int .i64 d] 32) []))
  go_enter Tryz.func36, Tryz.ntmps36
  go_upto_region 1 with fail
  generalize (w.alloc _).alloc _ = V at HTW HF2 ⊢
  have HC1 := Lib.hid (show C5 w.heap.size (.int .i64 co) (.int .i64 fo) (.int .i64 ho) (.slice am m cm) (.slice ae n ce) V from row5 HTW.out.1)
  have HC2 := Lib.hid (brow HTW.out.2)
  have HSF := Lib.hid (fun (W : World) (hW : Fr V W []) => (HC1.out.fr hW (by simp) : C5 w.heap.size (.int .i64 co) (.int .i64 fo) (.int .i64 ho) (.slice am m cm) (.slice ae n ce) W))
  go_wp2_with fail
  go_loopw [5] (fun s5 wx => ∃ k : Nat, s5 = .int .i64 k ∧ Hid (k ≤ n) ∧ Hid (∀ i, i < k → ¬ ((es.getD i zeroE).fl = f ∧ (es.getD i zeroE).di = d)) ∧ Hid (Fr V wx [])) (fun s5 _ => n - (intOf s5).toNat)
  case atStart => exact ⟨0, rfl, Lib.hid (Nat.zero_le _), Lib.hid (fun i hi => by omega), Lib.hid (Fr.refl _ _)⟩
  case round =>
    obtain ⟨k, rfl, HK, HA, HF⟩ := hrel
    have hk := HK.out
    obtain ⟨y0, y1, y2, y3, y4⟩ := HSF.out _ HF.out
    by_cases hlt : k < n
    · obtain ⟨bk, off, rfl, hc⟩ := HLS.out (by omega)
      obtain ⟨vb, x0, x1, _⟩ := hc k hlt
      obtain ⟨x, hx⟩ : ∃ x, x = (es.getD k zeroE).fl := ⟨_, rfl⟩
      obtain ⟨y, hy⟩ : ∃ y, y = (es.getD k zeroE).di := ⟨_, rfl⟩
      rw [← hx] at x0
      rw [← hy] at x1
      have HXY := Lib.hid (And.intro hx hy)
      have HS := Lib.hid (show SPl V w.heap.size (w.heap.size + 1) bk (off + k * 5) co fo ho (.slice am m cm) (.slice (some ⟨bk, off, none⟩) n ce) f d x y wr.drew from ⟨HF.out.trans (Fr.drew _ []), HSF.out _ (HF.out.trans (Fr.drew _ [])), ⟨(HF.out.trans (Fr.drew _ [])).cell HC2.out.1 (by simp), (HF.out.trans (Fr.drew _ [])).cell HC2.out.2 (by simp)⟩, (HF2.out.trans (HF.out.trans (Fr.drew _ []))).cell x0 (by simp), (HF2.out.trans (HF.out.trans (Fr.drew _ []))).cell x1 (by simp)⟩)
      obtain ⟨b, hb⟩ : ∃ b, b = decide (x = f ∧ y = d) := ⟨_, rfl⟩
      have SC := Lib.hid (fun W => sameCall_any x y f d b hb W)
      have HBB := Lib.hid hb
      clear hc hx hy x0 x1 hb
      cases b with
      | true =>
        have HP := Lib.hid (show PlaceIs es f d k from place_here (by have := HN.out; omega) HA.out (by have := of_decide_eq_true HBB.out.symm; rw [← HXY.out.1, ← HXY.out.2]; exact this))
        clear HA HXY HBB
        go_wp2
        refine wp_region_det (S := SPl V w.heap.size (w.heap.size + 1) bk (off + k * 5) co fo ho (.slice am m cm) (.slice (some ⟨bk, off, none⟩) n ce) f d x y) (by kernel_rfl) HS.out ?_
        refine wpDet_take (i := 0) (oi := _) (v := ?dv1) (by simp only [List.getElem?_toArray, List.getElem?_cons_zero]; rfl) (by kernel_rfl) (by kernel_rfl) (by kernel_rfl) (Or.inl ⟨by rfl, ?dy1⟩) ?dr1
        case dy1 => (intro w hSw; have hS0 := hSw; (try dsimp only [SPl,C5] at hSw); go_simp; refine Came.value ?_ hS0; with_reducible rfl)
        try simp only [Act.put, List.setIfInBounds_toArray, List.set_cons_zero, List.set_cons_succ]
        refine wpDet_take (i := 1) (oi := _) (v := ?dv2) (by simp only [List.getElem?_toArray, List.getElem?_cons_zero, List.getElem?_cons_succ]; rfl) (by kernel_rfl) (by kernel_rfl) (by kernel_rfl) (Or.inl ⟨by rfl, ?dy2⟩) ?dr2
        case dy2 => (intro w hSw; have hS0 := hSw; (try dsimp only [SPl,C5] at hSw); go_simp; refine Came.value ?_ hS0; with_reducible rfl)
        try simp only [Act.put, List.setIfInBounds_toArray, List.set_cons_zero, List.set_cons_succ]
        refine wpDet_take (i := 2) (oi := _) (v := ?dv3) (by simp only [List.getElem?_toArray, List.getElem?_cons_zero, List.getElem?_cons_succ]; rfl) (by kernel_rfl) (by kernel_rfl) (by kernel_rfl) (Or.inl ⟨by rfl, ?dy3⟩) ?dr3
        case dy3 => (intro w hSw; have hS0 := hSw; (try dsimp only [SPl,C5] at hSw); go_simp; refine Came.value ?_ hS0; with_reducible rfl)
        try simp only [Act.put, List.setIfInBounds_toArray, List.set_cons_zero, List.set_cons_succ]
        refine wpDet_take (i := 3) (oi := _) (v := ?dv4) (by simp only [List.getElem?_toArray, List.getElem?_cons_zero, List.getElem?_cons_succ]; rfl) (by kernel_rfl) (by kernel_rfl) (by kernel_rfl) (Or.inl ⟨by rfl, ?dy4⟩) ?dr4
        case dy4 => (intro w hSw; have hS0 := hSw; (try dsimp only [SPl,C5] at hSw); go_simp; refine Came.value ?_ hS0; with_reducible rfl)
        try simp only [Act.put, List.setIfInBounds_toArray, List.set_cons_zero, List.set_cons_succ]
        refine wpDet_take (i := 4) (oi := _) (v := ?dv5) (by simp only [List.getElem?_toArray, List.getElem?_cons_zero, List.getElem?_cons_succ]; rfl) (by kernel_rfl) (by kernel_rfl) (by kernel_rfl) (Or.inl ⟨by rfl, ?dy5⟩) ?dr5
        case dy5 => (intro w hSw; have hS0 := hSw; (try dsimp only [SPl,C5] at hSw); go_simp; refine Came.value ?_ hS0; with_reducible rfl)
        try simp only [Act.put, List.setIfInBounds_toArray, List.set_cons_zero, List.set_cons_succ]
        refine wpDet_take (i := 5) (oi := _) (v := ?dv6) (by simp only [List.getElem?_toArray, List.getElem?_cons_zero, List.getElem?_cons_succ]; rfl) (by kernel_rfl) (by kernel_rfl) (by kernel_rfl) (Or.inl ⟨by rfl, ?dy6⟩) ?dr6
        case dy6 => (intro w hSw; have hS0 := hSw; (try dsimp only [SPl,C5] at hSw); go_simp; refine Came.value ?_ hS0; with_reducible rfl)
        try simp only [Act.put, List.setIfInBounds_toArray, List.set_cons_zero, List.set_cons_succ]
        refine wpDet_take (i := 6) (oi := _) (v := ?dv7) (by simp only [List.getElem?_toArray, List.getElem?_cons_zero, List.getElem?_cons_succ]; rfl) (by kernel_rfl) (by kernel_rfl) (by kernel_rfl) (Or.inl ⟨by rfl, ?dy7⟩) ?dr7
        case dy7 => (intro w hSw; have hS0 := hSw; (try dsimp only [SPl,C5] at hSw); go_simp; refine Came.value ?_ hS0; with_reducible rfl)
        try simp only [Act.put, List.setIfInBounds_toArray, List.set_cons_zero, List.set_cons_succ]
        refine wpDet_take (i := 7) (oi := _) (v := ?dv8) (by simp only [List.getElem?_toArray, List.getElem?_cons_zero, List.getElem?_cons_succ]; rfl) (by kernel_rfl) (by kernel_rfl) (by kernel_rfl) (Or.inl ⟨by rfl, ?dy8⟩) ?dr8
        case dy8 => (intro w hSw; have hS0 := hSw; (try dsimp only [SPl,C5] at hSw); go_simp; refine Came.value ?_ hS0; with_reducible rfl)
        try simp only [Act.put, List.setIfInBounds_toArray, List.set_cons_zero, List.set_cons_succ]
        refine wpDet_take (i := 8) (oi := _) (v := ?dv9) (by simp only [List.getElem?_toArray, List.getElem?_cons_zero, List.getElem?_cons_succ]; rfl) (by kernel_rfl) (by kernel_rfl) (by kernel_rfl) (Or.inl ⟨by rfl, ?dy9⟩) ?dr9
        case dy9 => (intro w hSw; go_simp; exact Came.call ((SC.out w).mono fun e w' ⟨he, hf⟩ => ⟨he, hSw.fr hf⟩) (by with_reducible rfl))
        try simp only [Act.put, List.setIfInBounds_toArray, List.set_cons_zero, List.set_cons_succ]
        refine wpDet_done (by kernel_rfl) ?_ _
        rintro w4 hS
        have HF4 := Lib.hid (HF2.out.trans hS.1)
        clear hS HS
        go_wp2
        go_ret
        exact ⟨_, rfl, HP.out, HF4.out⟩
      | false =>
        have HA2 : Hid (∀ i, i < k + 1 → ¬ ((es.getD i zeroE).fl = f ∧ (es.getD i zeroE).di = d)) := Lib.hid (fun i hi => by
          by_cases q : i = k
          · subst q
            have := of_decide_eq_false HBB.out.symm
            rw [← HXY.out.1, ← HXY.out.2]; exact this
          · exact HA.out i (by omega))
        clear HA HXY HBB
        go_wp2
        refine wp_region_det (S := SPl V w.heap.size (w.heap.size + 1) bk (off + k * 5) co fo ho (.slice am m cm) (.slice (some ⟨bk, off, none⟩) n ce) f d x y) (by kernel_rfl) HS.out ?_
        refine wpDet_take (i := 0) (oi := _) (v := ?dv10) (by simp only [List.getElem?_toArray, List.getElem?_cons_zero]; rfl) (by kernel_rfl) (by kernel_rfl) (by kernel_rfl) (Or.inl ⟨by rfl, ?dy10⟩) ?dr10
        case dy10 => (intro w hSw; have hS0 := hSw; (try dsimp only [SPl,C5] at hSw); go_simp; refine Came.value ?_ hS0; with_reducible rfl)
        try simp only [Act.put, List.setIfInBounds_toArray, List.set_cons_zero, List.set_cons_succ]
        refine wpDet_take (i := 1) (oi := _) (v := ?dv11) (by simp only [List.getElem?_toArray, List.getElem?_cons_zero, List.getElem?_cons_succ]; rfl) (by kernel_rfl) (by kernel_rfl) (by kernel_rfl) (Or.inl ⟨by rfl, ?dy11⟩) ?dr11
        case dy11 => (intro w hSw; have hS0 := hSw; (try dsimp only [SPl,C5] at hSw); go_simp; refine Came.value ?_ hS0; with_reducible rfl)
        try simp only [Act.put, List.setIfInBounds_toArray, List.set_cons_zero, List.set_cons_succ]
        refine wpDet_take (i := 2) (oi := _) (v := ?dv12) (by simp only [List.getElem?_toArray, List.getElem?_cons_zero, List.getElem?_cons_succ]; rfl) (by kernel_rfl) (by kernel_rfl) (by kernel_rfl) (Or.inl ⟨by rfl, ?dy12⟩) ?dr12
        case dy12 => (intro w hSw; have hS0 := hSw; (try dsimp only [SPl,C5] at hSw); go_simp; refine Came.value ?_ hS0; with_reducible rfl)
        try simp only [Act.put, List.setIfInBounds_toArray, List.set_cons_zero, List.set_cons_succ]
        refine wpDet_take (i := 3) (oi := _) (v := ?dv13) (by simp only [List.getElem?_toArray, List.getElem?_cons_zero, List.getElem?_cons_succ]; rfl) (by kernel_rfl) (by kernel_rfl) (by kernel_rfl) (Or.inl ⟨by rfl, ?dy13⟩) ?dr13
        case dy13 => (intro w hSw; have hS0 := hSw; (try dsimp only [SPl,C5] at hSw); go_simp; refine Came.value ?_ hS0; with_reducible rfl)
        try simp only [Act.put, List.setIfInBounds_toArray, List.set_cons_zero, List.set_cons_succ]
        refine wpDet_take (i := 4) (oi := _) (v := ?dv14) (by simp only [List.getElem?_toArray, List.getElem?_cons_zero, List.getElem?_cons_succ]; rfl) (by kernel_rfl) (by kernel_rfl) (by kernel_rfl) (Or.inl ⟨by rfl, ?dy14⟩) ?dr14
        case dy14 => (intro w hSw; have hS0 := hSw; (try dsimp only [SPl,C5] at hSw); go_simp; refine Came.value ?_ hS0; with_reducible rfl)
        try simp only [Act.put, List.setIfInBounds_toArray, List.set_cons_zero, List.set_cons_succ]
        refine wpDet_take (i := 5) (oi := _) (v := ?dv15) (by simp only [List.getElem?_toArray, List.getElem?_cons_zero, List.getElem?_cons_succ]; rfl) (by kernel_rfl) (by kernel_rfl) (by kernel_rfl) (Or.inl ⟨by rfl, ?dy15⟩) ?dr15
        case dy15 => (intro w hSw; have hS0 := hSw; (try dsimp only [SPl,C5] at hSw); go_simp; refine Came.value ?_ hS0; with_reducible rfl)
        try simp only [Act.put, List.setIfInBounds_toArray, List.set_cons_zero, List.set_cons_succ]
        refine wpDet_take (i := 6) (oi := _) (v := ?dv16) (by simp only [List.getElem?_toArray, List.getElem?_cons_zero, List.getElem?_cons_succ]; rfl) (by kernel_rfl) (by kernel_rfl) (by kernel_rfl) (Or.inl ⟨by rfl, ?dy16⟩) ?dr16
        case dy16 => (intro w hSw; have hS0 := hSw; (try dsimp only [SPl,C5] at hSw); go_simp; refine Came.value ?_ hS0; with_reducible rfl)
        try simp only [Act.put, List.setIfInBounds_toArray, List.set_cons_zero, List.set_cons_succ]
        refine wpDet_take (i := 7) (oi := _) (v := ?dv17) (by simp only [List.getElem?_toArray, List.getElem?_cons_zero, List.getElem?_cons_succ]; rfl) (by kernel_rfl) (by kernel_rfl) (by kernel_rfl) (Or.inl ⟨by rfl, ?dy17⟩) ?dr17
        case dy17 => (intro w hSw; have hS0 := hSw; (try dsimp only [SPl,C5] at hSw); go_simp; refine Came.value ?_ hS0; with_reducible rfl)
        try simp only [Act.put, List.setIfInBounds_toArray, List.set_cons_zero, List.set_cons_succ]
        refine wpDet_take (i := 8) (oi := _) (v := ?dv18) (by simp only [List.getElem?_toArray, List.getElem?_cons_zero, List.getElem?_cons_succ]; rfl) (by kernel_rfl) (by kernel_rfl) (by kernel_rfl) (Or.inl ⟨by rfl, ?dy18⟩) ?dr18
        case dy18 => (intro w hSw; go_simp; exact Came.call ((SC.out w).mono fun e w' ⟨he, hf⟩ => ⟨he, hSw.fr hf⟩) (by with_reducible rfl))
        try simp only [Act.put, List.setIfInBounds_toArray, List.set_cons_zero, List.set_cons_succ]
        refine wpDet_done (by kernel_rfl) ?_ _
        rintro w4 hS
        have HF4 := Lib.hid hS.1
        clear hS HS
        go_wp2
        go_roundw
        case rel => exact ⟨k + 1, by go_num, Lib.hid (by omega), HA2, HF4⟩
        case measure => simp [intOf]; omega
    · obtain rfl : k = n := by omega
      have HP := Lib.hid (place_none (es := es) (f := f) (d := d) (by rw [← HN.out]; exact HA.out))
      clear HA
      go_wp2
      go_ret
      exact ⟨_, rfl, HP.out, HF2.out.trans HF.out⟩
end Go.Proofs.YtldheaamcnmlgaaGreat

namespace Go.Proofs.YtldheaamcnmlgaaGreat
open Go.RowKit Fm

theorem four_boxes (w : World) (o1 o2 o3 o4 : Obj) : Fr w ((((w.alloc o1).alloc o2).alloc o3).alloc o4) [] ∧ ((((w.alloc o1).alloc o2).alloc o3).alloc o4).heap.size = w.heap.size + 4 ∧
    ((((w.alloc o1).alloc o2).alloc o3).alloc o4).heap[w.heap.size]? = some o1 ∧ ((((w.alloc o1).alloc o2).alloc o3).alloc o4).heap[w.heap.size + 1]? = some o2 ∧ ((((w.alloc o1).alloc o2).alloc o3).alloc o4).heap[w.heap.size + 2]? = some o3 ∧ ((((w.alloc o1).alloc o2).alloc o3).alloc o4).heap[w.heap.size + 3]? = some o4 := by
  obtain ⟨a, b⟩ := two_boxes w o1 o2
  obtain ⟨c, d⟩ := two_boxes ((w.alloc o1).alloc o2) o3 o4
  have f1 := (Fr.alloc w o1 []).trans (Fr.alloc (w.alloc o1) o2 [])
  have f2 := (Fr.alloc ((w.alloc o1).alloc o2) o3 []).trans (Fr.alloc (((w.alloc o1).alloc o2).alloc o3) o4 [])
  rw [show ((w.alloc o1).alloc o2).heap.size = w.heap.size + 2 by simp] at c d
  exact ⟨f1.trans f2, by simp, f2.heap a (by simp), f2.heap b (by simp), c, d⟩
/-- The entries' row of a ring's box. -/
theorem RB.rowE {V a : World} {g n uc : Nat} {co fo ho : Int} {um : Value} {ua : Option Addr} {ms : List Int} {xs : List (En × Value)} (h : RB V g co fo ho um (.slice ua n uc) ms xs a) (h0 : 0 < n) : ∃ b, ua = some ⟨b, 0, none⟩ ∧ b ≠ g ∧ V.heap.size ≤ b ∧ n ≤ uc := by
  have hs := h.oe.1
  obtain ⟨x, y, e⟩ := row_shape hs
  simp only [Value.slice.injEq] at e
  obtain ⟨b, c, e2, hc, _, _⟩ := row_head hs (by omega)
  simp only [Value.slice.injEq] at e2
  obtain ⟨rfl, h3, rfl⟩ := e2
  have hb := (h.oe.block b rfl).1
  refine ⟨b, rfl, ?_, hb, by omega⟩
  rintro rfl
  exact row_ne hs h.row (by decide) rfl
/-- A cell of an entry stored anew. -/
theorem RB.setE {V a : World} {g b n uc : Nat} {co fo ho : Int} {um : Value} {ms : List Int} {xs : List (En × Value)} (h : RB V g co fo ho um (.slice (some ⟨b, 0, none⟩) n uc) ms xs a) (k : Nat) (x y : En × Value) (hk : xs[k]? = some x) (o : Nat) (u : Value) (ho5 : o < 5) (he : enc1 y = (enc1 x).set o u) (hy : OwnB a V.heap.size y.2 y.1.bs) :
    RB V g co fo ho um (.slice (some ⟨b, 0, none⟩) n uc) ms (xs.set k y) (a.setCell ⟨b, k * 5 + o, none⟩ u) := by
  obtain ⟨h1, h2⟩ := h.oe.set k x y hk o u ho5 he hy
  obtain ⟨cs, hgr, hB, _⟩ := row_at h.oe.1
  have hne : b ≠ g := by
    rintro rfl
    exact row_ne h.oe.1 h.row (by decide) rfl
  exact ⟨h.f.new h2 (by intro r hr; obtain rfl := List.mem_singleton.1 hr; exact hB), h.hg, h2.heap h.row (by simpa using fun e => hne e.symm), h.oi.far h2 hgr (by decide), h1⟩
/-- What the putting of a bid reads. -/
def SBd (V : World) (g gb b k : Nat) (co fo ho : Int) (um ve : Value) (x : Int × Int) (vb : Value) (a : World) : Prop :=
  Fr V a [] ∧ C5 g (.int .i64 co) (.int .i64 fo) (.int .i64 ho) um ve a ∧ (a.cell? ⟨gb, 0, none⟩ = some (.int .i64 x.1) ∧ a.cell? ⟨gb, 1, none⟩ = some (.int .i64 x.2)) ∧ a.cell? ⟨b, k * 5 + 3, none⟩ = some vb
set_option maxHeartbeats 8000000 in
set_option maxRecDepth 100000 in
theorem rbid_any (r : Rg) (vm ve : Value) (b : Int × Int) (f d : Int) (w : World) (hm : HInts w vm r.ms) (he : HE w ve r.es) (hml : r.ms.length ≤ 1000) (hel : r.es.length ≤ 1000) (hbl : ∀ e ∈ r.es, e.bs.length ≤ 1000) :
    Calls Tryz.prog 8 #[rgV r vm ve, bidV b, .agg #[.int .i64 f, .int .i64 d]] w (Gives (PassE (bidR r b (placeE r.es f d)) (bidRB r b (placeE r.es f d)) w)) := by
  obtain ⟨co, fo, ho, ms, es⟩ := r
  dsimp only at hm he hml hel hbl
  have HMV := Lib.hid hm
  have HEV := Lib.hid he
  obtain ⟨am, cm, rfl, pm, qm, rm⟩ := hm
  obtain ⟨ae, ce, rfl, pe, qe, re⟩ := he
  unfold maxLen at qm qe
  have HBL := Lib.hid hbl
  have HEL := Lib.hid hel
  have HML := Lib.hid hml
  have HLS := Lib.hid re
  obtain ⟨n, hn⟩ : ∃ n, n = es.length := ⟨_, rfl⟩
  have HN := Lib.hid hn
  obtain ⟨m, hmm⟩ : ∃ m, m = ms.length := ⟨_, rfl⟩
  rw [← hn] at hel pe HLS HEV
  rw [← hmm] at hml pm HMV
  unfold rgV
  dsimp only
  rw [← hn, ← hmm]
  clear rm re hbl hn hmm
  have CR := Lib.hid (fun W (hW : Fr w W []) => copyR_any ⟨co, fo, ho, ms, es⟩ _ _ W (HMV.out.keep hW) (HEV.out.keep hW) HML.out HEL.out HBL.out)
  obtain ⟨b1, b2⟩ := b
  obtain ⟨kk, hkk⟩ : ∃ k, k = placeE es f d := ⟨_, rfl⟩
  have HKK := Lib.hid hkk
  rw [← hkk]
  have HPI := Lib.hid (fun z (h : PlaceIs es f d z) => (show (z = -1 ∧ ¬ kk < n) ∨ (z = (kk : Int) ∧ kk < n) by unfold PlaceIs at h; rw [← hkk, ← HN.out] at h; exact h))
  have HRE1 := Lib.hid (show ¬ bidMay ⟨co, fo, ho, ms, es⟩ (b1, b2) kk → bidR ⟨co, fo, ho, ms, es⟩ (b1, b2) kk = ⟨co, fo, ho, ms, es⟩ ∧ bidRB ⟨co, fo, ho, ms, es⟩ (b1, b2) kk = false from fun q => ⟨by unfold bidR; rw [if_neg q], by unfold bidRB; rw [decide_eq_false q]; rfl⟩)
  have HRE2 := Lib.hid (show bidMay ⟨co, fo, ho, ms, es⟩ (b1, b2) kk → bidR ⟨co, fo, ho, ms, es⟩ (b1, b2) kk = ⟨co, fo, ho, ms, es.set kk (bidE (es.getD kk zeroE) (b1, b2))⟩ ∧ bidRB ⟨co, fo, ho, ms, es⟩ (b1, b2) kk = (bidOf (es.getD kk zeroE).bs b1).isNone from fun q => ⟨by unfold bidR; rw [if_pos q], by unfold bidRB; rw [decide_eq_true q]; rfl⟩)
  have HMAY := Lib.hid (show bidMay ⟨co, fo, ho, ms, es⟩ (b1, b2) kk ↔ (kk < n ∧ (es.getD kk zeroE).aw = -1 ∧ b1 ∈ ms ∧ 0 ≤ b2 ∧ b2 ≤ 1048576) by unfold bidMay; rw [HN.out])
  generalize bidR ⟨co, fo, ho, ms, es⟩ (b1, b2) kk = RR at HRE1 HRE2 ⊢
  generalize bidRB ⟨co, fo, ho, ms, es⟩ (b1, b2) kk = RBo at HRE1 HRE2 ⊢
  clear hkk
  dsimp only [bidV]
  have H4 := Lib.hid (four_boxes w (.cells #[.int .i64 co, .int .i64 fo, .int .i64 ho, .slice am m cm, .slice ae n ce] 27) (.cells #[.int .i64 b1, .int .i64 b2] 30) (.cells #[.int .i64 f, .int .i64 d] 32) (.cells #[.int .i64 0, .int .i64 0, .int .i64 0, .slice none 0 0, .slice none 0 0] 27))
  go_enter Tryz.func8, Tryz.ntmps8
  go_upto_region 1 with fail
  generalize (((w.alloc _).alloc _).alloc _).alloc _ = V at H4 ⊢
  have HF2 := Lib.hid H4.out.1
  have HTW := Lib.hid (And.intro H4.out.2.2.1 H4.out.2.2.2.2.2)
  have HC1 := Lib.hid (show C5 w.heap.size (.int .i64 co) (.int .i64 fo) (.int .i64 ho) (.slice am m cm) (.slice ae n ce) V from row5 HTW.out.1)
  obtain ⟨y0, y1, y2, y3, y4⟩ := HC1.out
  have CR1 := Lib.hid (CR.out V HF2.out)
  unfold rgV at CR1
  dsimp only at CR1
  clear CR
  go_wp2_with fail
  with_reducible refine (CR1.out).mono ?_
  rintro e w1 ⟨u, rfl, hcr⟩
  obtain ⟨vm, ve, xs, hu, HRB0, hxs⟩ := RB.of_copy hcr
  subst hu
  have HRB := Lib.hid HRB0
  have HXS := Lib.hid hxs
  clear hcr HRB0 hxs CR1 y0 y1 y2 y3 y4
  unfold rgV
  dsimp only at HRB HXS ⊢
  obtain ⟨ua, uc, rfl⟩ := HRB.out.oe.shape
  obtain ⟨va, vc, rfl⟩ := row_shape HRB.out.oi
  have hxl : xs.length = n := by
    have := congrArg List.length HXS.out
    rw [List.length_map] at this
    rw [this]; exact HN.out.symm
  rw [hxl] at HRB ⊢
  have HXL := Lib.hid hxl
  clear hxl
  go_upto_region 2 with fail
  generalize w1.heap.size = g at HRB ⊢
  generalize World.alloc w1 _ = w2 at HRB ⊢
  obtain ⟨q0, q1, q2, q3, q4⟩ := row5 HRB.out.row
  obtain ⟨c0, c1⟩ := brow (HRB.out.f.heap H4.out.2.2.2.2.1 (by simp))
  have PL := Lib.hid (rplace_any ⟨co, fo, ho, ms, es⟩ (.slice va ms.length vc) (.slice ua n uc) f d w2 HRB.out.oi.holds (HXS.out ▸ HRB.out.oe.he) HML.out HEL.out HBL.out)
  unfold rgV at PL
  dsimp only at PL
  go_wp2_with fail
  with_reducible refine (PL.out).mono ?_
  rintro e w3 ⟨z, rfl, hz, hf⟩
  have HRB3 := Lib.hid (HRB.out.fr hf)
  have HZ := Lib.hid (HPI.out z hz)
  clear hf hz PL HRB HPI q0 q1 q2 q3 q4 c0 c1
  have HRB := HRB3
  clear HRB3
  obtain ⟨q0, q1, q2, q3, q4⟩ := row5 HRB.out.row
  obtain ⟨b0, b3⟩ := brow (HRB.out.f.heap H4.out.2.2.2.1 (by simp))
  rcases HZ.out with ⟨rfl, hkn⟩ | ⟨rfl, hkn⟩
  · have HPE := HRE1.out (fun q => hkn (HMAY.out.1 q).1)
    obtain ⟨rfl, rfl⟩ := HPE
    clear HRE1 HRE2 HMAY HZ b0 b3
    obtain ⟨q0, q1, q2, q3, q4⟩ := row5 HRB.out.row
    have HZ2 := Lib.hid (HRB.out.f.heap HTW.out.2 (by simp))
    obtain ⟨z0, z1, z2, z3, z4⟩ := row5 HZ2.out
    obtain ⟨f0, f1, f2, f3, f4⟩ := fz5 HZ2.out
    obtain ⟨⟨e0', e1', e2', e3', e4'⟩, HENDa⟩ := HRB.out.ret HF2.out HTW.out.2 (by omega)
    have HEND := Lib.hid HENDa
    clear HENDa HZ2 HRB
    go_wp2
    generalize World.setCell (World.setCell (World.setCell (World.setCell (World.setCell w3 _ _) _ _) _ _) _ _) _ _ = W at e0' e1' e2' e3' e4' HEND ⊢
    exact bodyPost_ret (v := .tuple #[.agg #[.int .i64 co, .int .i64 fo, .int .i64 ho, .slice va ms.length vc, .slice ua n uc], .bool false]) (by simp [results, Tryz.results8, go_sem, e0', e1', e2', e3', e4']) rfl (gives ⟨_, rfl, ⟨_, _, rfl, HEND.out.1, HXS.out ▸ HEND.out.2.1⟩, HEND.out.2.2⟩)
  have hk0 : ¬ ((kk : Int) < 0) := by omega
  obtain ⟨ge, rfl, hgg, hgV, huc⟩ := HRB.out.rowE (by omega)
  have hkx : kk < xs.length := by rw [HXL.out]; exact hkn
  obtain ⟨⟨e, vb⟩, hxk⟩ : ∃ x, xs[kk]? = some x := ⟨_, List.getElem?_eq_getElem hkx⟩
  have HXK := Lib.hid hxk
  have hek : e = es.getD kk zeroE := by
    rw [← HXS.out, List.getD_eq_getElem?_getD, List.getElem?_map, hxk]; rfl
  have HEK := Lib.hid hek
  rw [← hek] at HRE2 HMAY
  obtain ⟨⟨d0, d1, d2, d3, d4⟩, hfz⟩ := HRB.out.oe.cells kk (e, vb) hxk
  dsimp only at d0 d1 d2 d3 d4
  have HOB := Lib.hid (show OwnB w3 V.heap.size vb e.bs from HRB.out.oe.2 (e, vb) (List.mem_of_getElem? hxk))
  have HBLe := Lib.hid (HBL.out e (by rw [← HXS.out]; exact List.mem_map.2 ⟨(e, vb), List.mem_of_getElem? hxk, rfl⟩))
  obtain ⟨e0, e1, e2, el, e4⟩ := e
  obtain ⟨zb, zc, rfl⟩ := HOB.out.shape
  dsimp only at d0 d1 d2 d3 d4 HMAY HRE2 HOB HBLe
  have HFZ := Lib.hid (hfz 3)
  clear hkx hxk hek hfz d0 d1 d2
  by_cases hq : e4 = -1
  rotate_left
  · have HPE := HRE1.out (fun q => hq (HMAY.out.1 q).2.1)
    obtain ⟨rfl, rfl⟩ := HPE
    have hqb : (e4 != -1) = true := by simp [hq]
    clear HRE1 HRE2 HMAY HZ hq
    obtain ⟨q0, q1, q2, q3, q4⟩ := row5 HRB.out.row
    have HZ2 := Lib.hid (HRB.out.f.heap HTW.out.2 (by simp))
    obtain ⟨z0, z1, z2, z3, z4⟩ := row5 HZ2.out
    obtain ⟨f0, f1, f2, f3, f4⟩ := fz5 HZ2.out
    obtain ⟨⟨e0', e1', e2', e3', e4'⟩, HENDa⟩ := HRB.out.ret HF2.out HTW.out.2 (by omega)
    have HEND := Lib.hid HENDa
    clear HENDa HZ2 HRB
    go_wp2
    generalize World.setCell (World.setCell (World.setCell (World.setCell (World.setCell w3 _ _) _ _) _ _) _ _) _ _ = W at e0' e1' e2' e3' e4' HEND ⊢
    exact bodyPost_ret (v := .tuple #[.agg #[.int .i64 co, .int .i64 fo, .int .i64 ho, .slice va ms.length vc, .slice (some ⟨ge, 0, none⟩) n uc], .bool false]) (by simp [results, Tryz.results8, go_sem, e0', e1', e2', e3', e4']) rfl (gives ⟨_, rfl, ⟨_, _, rfl, HEND.out.1, HXS.out ▸ HEND.out.2.1⟩, HEND.out.2.2⟩)
  subst hq
  have AM := Lib.hid (fun (bb : Bool) (hb : bb = decide (b1 ∈ ms)) W (hW : Fr w3 W []) => among_any (.slice va ms.length vc) ms b1 bb hb W ((HRB.out.oi.keep hW).holds))
  by_cases hin : b1 ∈ ms
  rotate_left
  · have HPE := HRE1.out (fun q => hin (HMAY.out.1 q).2.2.1)
    obtain ⟨rfl, rfl⟩ := HPE
    have AM1 := Lib.hid (AM.out false (decide_eq_false hin).symm w3 (Fr.refl _ _))
    clear HRE1 HRE2 HMAY HZ hin AM
    go_wp2_with fail
    with_reducible refine (AM1.out).mono ?_
    rintro e w4 ⟨rfl, hw⟩
    rw [← hw]
    clear hw AM1
    obtain ⟨q0, q1, q2, q3, q4⟩ := row5 HRB.out.row
    have HZ2 := Lib.hid (HRB.out.f.heap HTW.out.2 (by simp))
    obtain ⟨z0, z1, z2, z3, z4⟩ := row5 HZ2.out
    obtain ⟨f0, f1, f2, f3, f4⟩ := fz5 HZ2.out
    obtain ⟨⟨e0', e1', e2', e3', e4'⟩, HENDa⟩ := HRB.out.ret HF2.out HTW.out.2 (by omega)
    have HEND := Lib.hid HENDa
    clear HENDa HZ2 HRB
    go_wp2
    generalize World.setCell (World.setCell (World.setCell (World.setCell (World.setCell w3 _ _) _ _) _ _) _ _) _ _ = W at e0' e1' e2' e3' e4' HEND ⊢
    exact bodyPost_ret (v := .tuple #[.agg #[.int .i64 co, .int .i64 fo, .int .i64 ho, .slice va ms.length vc, .slice (some ⟨ge, 0, none⟩) n uc], .bool false]) (by simp [results, Tryz.results8, go_sem, e0', e1', e2', e3', e4']) rfl (gives ⟨_, rfl, ⟨_, _, rfl, HEND.out.1, HXS.out ▸ HEND.out.2.1⟩, HEND.out.2.2⟩)
  have AM1 := Lib.hid (AM.out true (decide_eq_true hin).symm w3 (Fr.refl _ _))
  clear AM
  by_cases ht : b2 < 0 ∨ 1048576 < b2
  · have HPE := HRE1.out (fun q => by have := (HMAY.out.1 q).2.2.2; omega)
    obtain ⟨rfl, rfl⟩ := HPE
    clear HRE1 HRE2 HMAY HZ hin
    by_cases h1 : b2 < 0
    · clear ht
      go_wp2_with fail
      with_reducible refine (AM1.out).mono ?_
      rintro e w4 ⟨rfl, hw⟩
      rw [← hw]
      clear hw AM1
      obtain ⟨q0, q1, q2, q3, q4⟩ := row5 HRB.out.row
      have HZ2 := Lib.hid (HRB.out.f.heap HTW.out.2 (by simp))
      obtain ⟨z0, z1, z2, z3, z4⟩ := row5 HZ2.out
      obtain ⟨f0, f1, f2, f3, f4⟩ := fz5 HZ2.out
      obtain ⟨⟨e0', e1', e2', e3', e4'⟩, HENDa⟩ := HRB.out.ret HF2.out HTW.out.2 (by omega)
      have HEND := Lib.hid HENDa
      clear HENDa HZ2 HRB
      go_wp2
      generalize World.setCell (World.setCell (World.setCell (World.setCell (World.setCell w3 _ _) _ _) _ _) _ _) _ _ = W at e0' e1' e2' e3' e4' HEND ⊢
      exact bodyPost_ret (v := .tuple #[.agg #[.int .i64 co, .int .i64 fo, .int .i64 ho, .slice va ms.length vc, .slice (some ⟨ge, 0, none⟩) n uc], .bool false]) (by simp [results, Tryz.results8, go_sem, e0', e1', e2', e3', e4']) rfl (gives ⟨_, rfl, ⟨_, _, rfl, HEND.out.1, HXS.out ▸ HEND.out.2.1⟩, HEND.out.2.2⟩)
    · have h2 : 1048576 < b2 := by omega
      clear ht
      go_wp2_with fail
      with_reducible refine (AM1.out).mono ?_
      rintro e w4 ⟨rfl, hw⟩
      rw [← hw]
      clear hw AM1
      obtain ⟨q0, q1, q2, q3, q4⟩ := row5 HRB.out.row
      have HZ2 := Lib.hid (HRB.out.f.heap HTW.out.2 (by simp))
      obtain ⟨z0, z1, z2, z3, z4⟩ := row5 HZ2.out
      obtain ⟨f0, f1, f2, f3, f4⟩ := fz5 HZ2.out
      obtain ⟨⟨e0', e1', e2', e3', e4'⟩, HENDa⟩ := HRB.out.ret HF2.out HTW.out.2 (by omega)
      have HEND := Lib.hid HENDa
      clear HENDa HZ2 HRB
      go_wp2
      generalize World.setCell (World.setCell (World.setCell (World.setCell (World.setCell w3 _ _) _ _) _ _) _ _) _ _ = W at e0' e1' e2' e3' e4' HEND ⊢
      exact bodyPost_ret (v := .tuple #[.agg #[.int .i64 co, .int .i64 fo, .int .i64 ho, .slice va ms.length vc, .slice (some ⟨ge, 0, none⟩) n uc], .bool false]) (by simp [results, Tryz.results8, go_sem, e0', e1', e2', e3', e4']) rfl (gives ⟨_, rfl, ⟨_, _, rfl, HEND.out.1, HXS.out ▸ HEND.out.2.1⟩, HEND.out.2.2⟩)
  have h1 : ¬ b2 < 0 := by omega
  have h2 : ¬ 1048576 < b2 := by omega
  obtain ⟨rfl, hRB⟩ := HRE2.out (HMAY.out.2 ⟨hkn, rfl, hin, by omega, by omega⟩)
  clear HRE1 HRE2 HMAY HZ hin ht
  have PU := Lib.hid (fun W (hW : Fr w3 W []) => rput_b (.slice zb el.length zc) el (b1, b2) W ((HOB.out.keep hW).holds) HBLe.out RBo hRB)
  dsimp only [bidV] at PU
  clear hRB
  have HSE : Hid (∀ W, Fr w3 W [] → SBd w3 g (w.heap.size + 1) ge kk co fo ho (.slice va ms.length vc) (.slice (some ⟨ge, 0, none⟩) n uc) (b1, b2) (.slice zb el.length zc) W) :=
    Lib.hid (fun W hW => ⟨hW, HRB.out.c5.fr hW (by simp), ⟨hW.cell b0 (by simp), hW.cell b3 (by simp)⟩, hW.cell d3 (by simp)⟩)
  go_wp2_with fail
  with_reducible refine (AM1.out).mono ?_
  rintro e w4 ⟨rfl, hw⟩
  rw [← hw]
  clear hw AM1
  go_upto_region 5 with fail
  go_cut [10, 11] (fun s10 s11 wx => s11 = .bool RBo ∧ Hid (OwnB wx w3.heap.size s10 (putB el (b1, b2))) ∧ Hid (Fr w3 wx []))
  case first =>
    refine wp_region_noPanic ?_
    refine wp_region_held_drew (S := (SBd w3 g (w.heap.size + 1) ge kk co fo ho (.slice va ms.length vc) (.slice (some ⟨ge, 0, none⟩) n uc) (b1, b2) (.slice zb el.length zc))) (by kernel_rfl) (HSE.out _ (Fr.drew w3 [])) (fun hHeld => ?_)
    refine wpAnyH_take (i := 0) (oi := _) (v := ?fv0h1n2) (by simp only [List.getElem?_toArray, List.getElem?_cons_zero]; rfl) (by kernel_rfl) (by kernel_rfl) (by kernel_rfl) (fun _ _ _ h => h) (Or.inl ⟨by rfl, ?fy0h1n2⟩) (by assumption) ?fr0h1n2
    case fy0h1n2 => (intro w hSw; (try dsimp only [SBd, C5] at hSw); go_simp; try with_reducible rfl)
    try simp only [Act.put, List.setIfInBounds_toArray, List.set_cons_zero, List.set_cons_succ]
    refine wpAnyH_take (i := 1) (oi := _) (v := ?fv1h1n2) (by simp only [List.getElem?_toArray, List.getElem?_cons_zero, List.getElem?_cons_succ]; rfl) (by kernel_rfl) (by kernel_rfl) (by kernel_rfl) (fun _ _ _ h => h) (Or.inl ⟨by rfl, ?fy1h1n2⟩) (by assumption) ?fr1h1n2
    case fy1h1n2 => (intro w hSw; (try dsimp only [SBd, C5] at hSw); go_simp; try with_reducible rfl)
    try simp only [Act.put, List.setIfInBounds_toArray, List.set_cons_zero, List.set_cons_succ]
    refine wpAnyH_take (i := 2) (oi := _) (v := ?fv2h1n2) (by simp only [List.getElem?_toArray, List.getElem?_cons_zero, List.getElem?_cons_succ]; rfl) (by kernel_rfl) (by kernel_rfl) (by kernel_rfl) (fun _ _ _ h => h) (Or.inl ⟨by rfl, ?fy2h1n2⟩) (by assumption) ?fr2h1n2
    case fy2h1n2 => (intro w hSw; (try dsimp only [SBd, C5] at hSw); go_simp; try with_reducible rfl)
    try simp only [Act.put, List.setIfInBounds_toArray, List.set_cons_zero, List.set_cons_succ]
    refine wpAnyH_take (i := 3) (oi := _) (v := ?fv3h1n2) (by simp only [List.getElem?_toArray, List.getElem?_cons_zero, List.getElem?_cons_succ]; rfl) (by kernel_rfl) (by kernel_rfl) (by kernel_rfl) (fun _ _ _ h => h) (Or.inl ⟨by rfl, ?fy3h1n2⟩) (by assumption) ?fr3h1n2
    case fy3h1n2 => (intro w hSw; (try dsimp only [SBd, C5] at hSw); go_simp; try with_reducible rfl)
    try simp only [Act.put, List.setIfInBounds_toArray, List.set_cons_zero, List.set_cons_succ]
    refine wpAnyH_take (i := 4) (oi := _) (v := ?fv4h1n2) (by simp only [List.getElem?_toArray, List.getElem?_cons_zero, List.getElem?_cons_succ]; rfl) (by kernel_rfl) (by kernel_rfl) (by kernel_rfl) (fun _ _ _ h => h) (Or.inl ⟨by rfl, ?fy4h1n2⟩) (by assumption) ?fr4h1n2
    case fy4h1n2 => (intro w hSw; (try dsimp only [SBd, C5] at hSw); go_simp; try with_reducible rfl)
    try simp only [Act.put, List.setIfInBounds_toArray, List.set_cons_zero, List.set_cons_succ]
    refine wpAnyH_take (i := 5) (oi := _) (v := ?fv5h1n2) (by simp only [List.getElem?_toArray, List.getElem?_cons_zero, List.getElem?_cons_succ]; rfl) (by kernel_rfl) (by kernel_rfl) (by kernel_rfl) (fun _ _ _ h => h) (Or.inl ⟨by rfl, ?fy5h1n2⟩) (by assumption) ?fr5h1n2
    case fy5h1n2 => (intro w hSw; (try dsimp only [SBd, C5] at hSw); go_simp; try with_reducible rfl)
    try simp only [Act.put, List.setIfInBounds_toArray, List.set_cons_zero, List.set_cons_succ]
    refine wpAnyH_take (i := 6) (oi := _) (v := ?fv6h1n2) (by simp only [List.getElem?_toArray, List.getElem?_cons_zero, List.getElem?_cons_succ]; rfl) (by kernel_rfl) (by kernel_rfl) (by kernel_rfl) (fun _ _ _ h => h) (Or.inl ⟨by rfl, ?fy6h1n2⟩) (by assumption) ?fr6h1n2
    case fy6h1n2 => (intro w hSw; (try dsimp only [SBd, C5] at hSw); go_simp; try with_reducible rfl)
    try simp only [Act.put, List.setIfInBounds_toArray, List.set_cons_zero, List.set_cons_succ]
    refine wpAnyH_ready (rs := [7]) (by kernel_rfl) (by simp) ?_
    refine AllReadyH.cons (o := _) rfl (fun K hK => ?_) AllReadyH.nil
    go_simp
    ((with_reducible refine (PU.out _ (Fr.drew w3 [])).mono ?_); rintro e w5 ⟨u, rfl, ho1, hf⟩; have hS := HSE.out _ ((Fr.drew w3 []).trans hf); have HO := Lib.hid ho1; have HF := Lib.hid ((Fr.drew w3 []).trans hf); clear ho1 hf)
    go_wp2_with fail
    refine hK.out _ _ hS (fun hHeld => ?_)
    clear hK K
    try simp only [Act.put, List.setIfInBounds_toArray, List.set_cons_zero, List.set_cons_succ]
    refine wpAnyH_take (i := 8) (oi := _) (v := ?fv8h1n3) (by simp only [List.getElem?_toArray, List.getElem?_cons_zero, List.getElem?_cons_succ]; rfl) (by kernel_rfl) (by kernel_rfl) (by kernel_rfl) (fun _ _ _ h => h) (Or.inl ⟨by rfl, ?fy8h1n3⟩) (by assumption) ?fr8h1n3
    case fy8h1n3 => (intro w hSw; (try dsimp only [SBd, C5] at hSw); go_simp; try with_reducible rfl)
    try simp only [Act.put, List.setIfInBounds_toArray, List.set_cons_zero, List.set_cons_succ]
    refine wpAnyH_take (i := 9) (oi := _) (v := ?fv9h1n3) (by simp only [List.getElem?_toArray, List.getElem?_cons_zero, List.getElem?_cons_succ]; rfl) (by kernel_rfl) (by kernel_rfl) (by kernel_rfl) (fun _ _ _ h => h) (Or.inl ⟨by rfl, ?fy9h1n3⟩) (by assumption) ?fr9h1n3
    case fy9h1n3 => (intro w hSw; (try dsimp only [SBd, C5] at hSw); go_simp; try with_reducible rfl)
    try simp only [Act.put, List.setIfInBounds_toArray, List.set_cons_zero, List.set_cons_succ]
    refine wpAnyH_take (i := 10) (oi := _) (v := ?fv10h1n3) (by simp only [List.getElem?_toArray, List.getElem?_cons_zero, List.getElem?_cons_succ]; rfl) (by kernel_rfl) (by kernel_rfl) (by kernel_rfl) (fun _ _ _ h => h) (Or.inl ⟨by rfl, ?fy10h1n3⟩) (by assumption) ?fr10h1n3
    case fy10h1n3 => (intro w hSw; (try dsimp only [SBd, C5] at hSw); go_simp; try with_reducible rfl)
    try simp only [Act.put, List.setIfInBounds_toArray, List.set_cons_zero, List.set_cons_succ]
    refine wpAnyH_take (i := 11) (oi := _) (v := ?fv11h1n3) (by simp only [List.getElem?_toArray, List.getElem?_cons_zero, List.getElem?_cons_succ]; rfl) (by kernel_rfl) (by kernel_rfl) (by kernel_rfl) (fun _ _ _ h => h) (Or.inl ⟨by rfl, ?fy11h1n3⟩) (by assumption) ?fr11h1n3
    case fy11h1n3 => (intro w hSw; (try dsimp only [SBd, C5] at hSw); go_simp; try with_reducible rfl)
    try simp only [Act.put, List.setIfInBounds_toArray, List.set_cons_zero, List.set_cons_succ]
    refine wpAnyH_take (i := 12) (oi := _) (v := ?fv12h1n3) (by simp only [List.getElem?_toArray, List.getElem?_cons_zero, List.getElem?_cons_succ]; rfl) (by kernel_rfl) (by kernel_rfl) (by kernel_rfl) (fun _ _ _ h => h) (Or.inl ⟨by rfl, ?fy12h1n3⟩) (by assumption) ?fr12h1n3
    case fy12h1n3 => (intro w hSw; (try dsimp only [SBd, C5] at hSw); go_simp; try with_reducible rfl)
    try simp only [Act.put, List.setIfInBounds_toArray, List.set_cons_zero, List.set_cons_succ]
    refine wpAnyH_done (by kernel_rfl) ?_ _
    refine NoPanic.normal ?_
    clear hHeld hS
    go_wp2_with fail
    go_meet
    exact ⟨rfl, HO, HF⟩
  case rest =>
    obtain ⟨rfl, HO, HF⟩ := hcut
    obtain ⟨ya, yc, rfl⟩ := HO.out.shape
    have HRBc := Lib.hid (HRB.out.fr HF.out)
    have HRBn := Lib.hid (HRBc.out.setE kk _ ((bidE ⟨e0, e1, e2, el, -1⟩ (b1, b2)), .slice ya (putB el (b1, b2)).length yc) HXK.out 3 (.slice ya (putB el (b1, b2)).length yc) (by decide) rfl (row_mono HO.out HRB.out.f.size))
    have HXSn : Hid ((xs.set kk ((bidE ⟨e0, e1, e2, el, -1⟩ (b1, b2)), .slice ya (putB el (b1, b2)).length yc)).map (·.1) = es.set kk (bidE ⟨e0, e1, e2, el, -1⟩ (b1, b2))) := by show _ = _; rw [List.map_set, HXS.out]
    have d3 := HF.out.cell d3 (by simp)
    have hfz := HRBc.out.oe.cells kk _ HXK.out
    have f3 := hfz.2 3
    obtain ⟨q0, q1, q2, q3, q4⟩ := row5 HRBc.out.row
    clear hfz HRB HO PU HSE b0 b3 d4 HRBc
    go_upto_region 7 with fail
    generalize World.setCell wc _ _ = w6 at HRBn ⊢
    clear d3 f3 q0 q1 q2 q3 q4
    have HRB := HRBn
    clear HRBn
    obtain ⟨q0, q1, q2, q3, q4⟩ := row5 HRB.out.row
    have HZ2 := Lib.hid (HRB.out.f.heap HTW.out.2 (by simp))
    obtain ⟨z0, z1, z2, z3, z4⟩ := row5 HZ2.out
    obtain ⟨f0, f1, f2, f3, f4⟩ := fz5 HZ2.out
    obtain ⟨⟨e0', e1', e2', e3', e4'⟩, HENDa⟩ := HRB.out.ret HF2.out HTW.out.2 (by omega)
    have HEND := Lib.hid HENDa
    clear HENDa HZ2 HRB
    go_wp2
    generalize World.setCell (World.setCell (World.setCell (World.setCell (World.setCell w6 _ _) _ _) _ _) _ _) _ _ = W at e0' e1' e2' e3' e4' HEND ⊢
    exact bodyPost_ret (v := .tuple #[.agg #[.int .i64 co, .int .i64 fo, .int .i64 ho, .slice va ms.length vc, .slice (some ⟨ge, 0, none⟩) n uc], .bool RBo]) (by simp [results, Tryz.results8, go_sem, e0', e1', e2', e3', e4']) rfl (gives ⟨_, rfl, ⟨_, _, rfl, HEND.out.1, HXSn.out ▸ HEND.out.2.1⟩, HEND.out.2.2⟩)
end Go.Proofs.YtldheaamcnmlgaaGreat

namespace Go.Proofs.YtldheaamcnmlgaaGreat
open Go.RowKit Fm

/-- Behind clone: its answer stored into the parameter's own box. -/
theorem RB.of_clone {r : Rg} {w V w1 : World} {u : Value} {g : Nat} {b0 b1 b2 b3 b4 : Value} (h : CopyR r V u w1) (hV : Fr w V []) (hg : w.heap.size ≤ g) (hb : V.heap[g]? = some (.cells #[b0, b1, b2, b3, b4] 27 (0, 0))) :
    ∃ va vc ua uc xs, u = rgV r (.slice va r.ms.length vc) (.slice ua r.es.length uc) ∧ xs.map (·.1) = r.es ∧ C5 g b0 b1 b2 b3 b4 w1 ∧ (w1.frozen? ⟨g, 0, none⟩ = false ∧ w1.frozen? ⟨g, 1, none⟩ = false ∧ w1.frozen? ⟨g, 2, none⟩ = false ∧ w1.frozen? ⟨g, 3, none⟩ = false ∧ w1.frozen? ⟨g, 4, none⟩ = false) ∧
      RB w g r.co r.fo r.ho (.slice va r.ms.length vc) (.slice ua r.es.length uc) r.ms xs (((((w1.setCell ⟨g, 0, none⟩ (.int .i64 r.co)).setCell ⟨g, 1, none⟩ (.int .i64 r.fo)).setCell ⟨g, 2, none⟩ (.int .i64 r.ho)).setCell ⟨g, 3, none⟩ (.slice va r.ms.length vc)).setCell ⟨g, 4, none⟩ (.slice ua r.es.length uc)) ∧ Fr V (((((w1.setCell ⟨g, 0, none⟩ (.int .i64 r.co)).setCell ⟨g, 1, none⟩ (.int .i64 r.fo)).setCell ⟨g, 2, none⟩ (.int .i64 r.ho)).setCell ⟨g, 3, none⟩ (.slice va r.ms.length vc)).setCell ⟨g, 4, none⟩ (.slice ua r.es.length uc)) [g] := by
  obtain ⟨vm, ve, xs, e, h1, h2, h3, h4⟩ := h
  obtain ⟨va, vc, rfl⟩ := row_shape h1
  obtain ⟨ua, uc, rfl⟩ := h2.shape
  have hl : xs.length = r.es.length := by rw [← h3]; simp
  rw [hl] at e h2
  have hb1 := h4.heap hb (by simp)
  have hf := set5_fr w1 g (.int .i64 r.co) (.int .i64 r.fo) (.int .i64 r.ho) (.slice va r.ms.length vc) (.slice ua r.es.length uc)
  refine ⟨va, vc, ua, uc, xs, e, h3, row5 hb1, fz5 hb1, ⟨(hV.trans h4).new hf (by intro r hr; obtain rfl := List.mem_singleton.1 hr; exact hg), hg, set5 hb1 _ _ _ _ _, ?_, ?_⟩, (h4.mono (by simp)).trans hf⟩
  · exact (OwnI.mono h1 hV.size).far hf hb1 (by decide)
  · exact (h2.mono hV.size).fr hf (by intro r hr; obtain rfl := List.mem_singleton.1 hr; exact ⟨_, _, hb1, by decide, by decide⟩)
/-- The ring handed out by its answer's box. -/
theorem RB.give {w a : World} {g g2 : Nat} {co fo ho : Int} {um ve : Value} {ms : List Int} {xs : List (En × Value)} {z0 z1 z2 z3 z4 : Value} (h : RB w g co fo ho um ve ms xs a) (hz2 : a.heap[g2]? = some (.cells #[z0, z1, z2, z3, z4] 27 (0, 0))) (hg : w.heap.size ≤ g2) :
    C5 g2 (.int .i64 co) (.int .i64 fo) (.int .i64 ho) um ve (((((a.setCell ⟨g2, 0, none⟩ (.int .i64 co)).setCell ⟨g2, 1, none⟩ (.int .i64 fo)).setCell ⟨g2, 2, none⟩ (.int .i64 ho)).setCell ⟨g2, 3, none⟩ um).setCell ⟨g2, 4, none⟩ ve) ∧
    HInts (((((a.setCell ⟨g2, 0, none⟩ (.int .i64 co)).setCell ⟨g2, 1, none⟩ (.int .i64 fo)).setCell ⟨g2, 2, none⟩ (.int .i64 ho)).setCell ⟨g2, 3, none⟩ um).setCell ⟨g2, 4, none⟩ ve) um ms ∧ HE (((((a.setCell ⟨g2, 0, none⟩ (.int .i64 co)).setCell ⟨g2, 1, none⟩ (.int .i64 fo)).setCell ⟨g2, 2, none⟩ (.int .i64 ho)).setCell ⟨g2, 3, none⟩ um).setCell ⟨g2, 4, none⟩ ve) ve (xs.map (·.1)) ∧ Fr w (((((a.setCell ⟨g2, 0, none⟩ (.int .i64 co)).setCell ⟨g2, 1, none⟩ (.int .i64 fo)).setCell ⟨g2, 2, none⟩ (.int .i64 ho)).setCell ⟨g2, 3, none⟩ um).setCell ⟨g2, 4, none⟩ ve) [] := by
  have hF := set5_fr a g2 (.int .i64 co) (.int .i64 fo) (.int .i64 ho) um ve
  exact ⟨row5 (set5 hz2 _ _ _ _ _), (h.oi.far hF hz2 (by decide)).holds, (h.oe.fr hF (by intro r hr; obtain rfl := List.mem_singleton.1 hr; exact ⟨_, _, hz2, by decide, by decide⟩)).he, h.f.new hF (by intro r hr; obtain rfl := List.mem_singleton.1 hr; exact hg)⟩
set_option maxHeartbeats 1000000 in
set_option maxRecDepth 100000 in
theorem isAwarded_any (e : En) (vb : Value) (w : World) (hs : ∃ a n c, vb = .slice a n c) (b : Bool) (hb : b = decide (e.aw ≠ -1)) : Calls Tryz.prog 33 #[enV e vb] w fun x w' => x = .returned (.bool b) ∧ Fr w w' [] := by
  obtain ⟨fl, di, ge, bs, aw⟩ := e
  obtain ⟨a, n, c, rfl⟩ := hs
  unfold enV
  dsimp only at hb ⊢
  have FA := Lib.hid (Fr.alloc w (.cells #[.int .i64 fl, .int .i64 di, .int .i64 ge, .slice a n c, .int .i64 aw] 56) [])
  obtain ⟨x0, x1, x2, x3, x4⟩ := row5 (heap_alloc_new w (.cells #[.int .i64 fl, .int .i64 di, .int .i64 ge, .slice a n c, .int .i64 aw] 56))
  by_cases h : aw = -1
  · have hb2 : b = false := by rw [hb]; simpa using h
    subst h
    clear hb
    go_enter Tryz.func33, Tryz.ntmps33
    go_wp2
    go_ret
    exact ⟨by rw [hb2]; rfl, FA.out⟩
  · have hb2 : b = true := by rw [hb]; simpa using h
    have hn : (aw != -1) = true := by simpa using h
    clear hb
    go_enter Tryz.func33, Tryz.ntmps33
    go_wp2
    go_ret
    exact ⟨by rw [hb2]; rfl, FA.out⟩
set_option maxHeartbeats 1000000 in
set_option maxRecDepth 100000 in
theorem pass_any (r : Rg) (vm ve : Value) (w : World) (hm : HInts w vm r.ms) (he : HE w ve r.es) (hml : r.ms.length ≤ 1000) (hel : r.es.length ≤ 1000) (hbl : ∀ e ∈ r.es, e.bs.length ≤ 1000) (hh : -9223372036854775808 ≤ r.ho ∧ r.ho ≤ 9223372036854775807) :
    Calls Tryz.prog 11 #[rgV r vm ve] w (Gives (GTwo (passR r) (passB r) w)) := by
  obtain ⟨co, fo, ho, ms, es⟩ := r
  dsimp only at hm he hml hel hbl
  have HMV := Lib.hid hm
  have HEV := Lib.hid he
  obtain ⟨am, cm, rfl, pm, qm, rm⟩ := hm
  obtain ⟨ae, ce, rfl, pe, qe, re⟩ := he
  unfold maxLen at qm qe
  have HBL := Lib.hid hbl
  have HEL := Lib.hid hel
  have HML := Lib.hid hml
  have HLS := Lib.hid re
  obtain ⟨n, hn⟩ : ∃ n, n = es.length := ⟨_, rfl⟩
  have HN := Lib.hid hn
  obtain ⟨m, hmm⟩ : ∃ m, m = ms.length := ⟨_, rfl⟩
  have HM := Lib.hid hmm
  rw [← hn] at hel pe HLS HEV
  rw [← hmm] at hml pm HMV
  unfold rgV
  dsimp only
  rw [← hn, ← hmm]
  clear rm re hbl hn hmm
  dsimp only at hh
  obtain ⟨pb, hpb⟩ : ∃ b, b = passB ⟨co, fo, ho, ms, es⟩ := ⟨_, rfl⟩
  rw [← hpb]
  unfold passB at hpb
  dsimp only at hpb
  have CR := Lib.hid (fun W (hW : Fr w W []) => clone_any ⟨co, fo, ho, ms, es⟩ _ _ W (HMV.out.keep hW) (HEV.out.keep hW) HML.out HEL.out HBL.out)
  obtain ⟨g, hg⟩ : ∃ g, g = w.heap.size := ⟨_, rfl⟩
  have HG := Lib.hid hg
  have HTW := Lib.hid (two_boxes w (.cells #[.int .i64 co, .int .i64 fo, .int .i64 ho, .slice am m cm, .slice ae n ce] 27) (.cells #[.int .i64 0, .int .i64 0, .int .i64 0, .slice none 0 0, .slice none 0 0] 27))
  have HF2 := Lib.hid ((Fr.alloc w (.cells #[.int .i64 co, .int .i64 fo, .int .i64 ho, .slice am m cm, .slice ae n ce] 27) []).trans (Fr.alloc _ (.cells #[.int .i64 0, .int .i64 0, .int .i64 0, .slice none 0 0, .slice none 0 0] 27) []))
  go_enter Tryz.func11, Tryz.ntmps11
  go_upto_region 1 with fail
  generalize (w.alloc _).alloc _ = V at HTW HF2 ⊢
  rw [← hg] at HTW ⊢
  clear hg
  obtain ⟨y0, y1, y2, y3, y4⟩ := row5 HTW.out.1
  have CR1 := Lib.hid (CR.out V HF2.out)
  unfold rgV at CR1
  dsimp only at CR1
  clear CR
  go_wp2_with fail
  with_reducible refine (CR1.out).mono ?_
  rintro e w1 ⟨u, rfl, hcr⟩
  obtain ⟨va, vc, ua, uc, xs, hu, hxs, ⟨x0, x1, x2, x3, x4⟩, ⟨f0, f1, f2, f3, f4⟩, hrb, hfv⟩ := RB.of_clone hcr HF2.out (Nat.le_of_eq HG.out.symm) HTW.out.1
  dsimp only at hu hxs hrb hfv
  rw [← HN.out, ← HM.out] at hu hrb hfv
  subst hu
  have HRB := Lib.hid hrb
  have HFV := Lib.hid hfv
  have HXS := Lib.hid hxs
  have HZ := Lib.hid (hfv.heap HTW.out.2 (by intro hm; have := List.mem_singleton.1 hm; omega))
  clear hcr hrb hfv hxs CR1
  unfold rgV
  dsimp only
  go_upto_region 2 with fail
  clear y0 y1 y2 y3 y4 x0 x1 x2 x3 x4 f0 f1 f2 f3 f4
  generalize World.setCell (World.setCell (World.setCell (World.setCell (World.setCell w1 _ _) _ _) _ _) _ _) _ _ = w2 at HRB HFV HZ ⊢
  obtain ⟨q0, q1, q2, q3, q4⟩ := row5 HRB.out.row
  by_cases hq : 1099511627776 ≤ ho
  · have HPE := Lib.hid (show passR ⟨co, fo, ho, ms, es⟩ = ⟨co, fo, ho, ms, es⟩ ∧ pb = false from ⟨by unfold passR; rw [if_pos hq], by rw [hpb]; simpa using hq⟩)
    clear hpb q0 q1 q3 q4
    obtain ⟨q0, q1, q2, q3, q4⟩ := row5 HRB.out.row
    obtain ⟨z0, z1, z2, z3, z4⟩ := row5 HZ.out
    obtain ⟨f0, f1, f2, f3, f4⟩ := fz5 HZ.out
    obtain ⟨⟨e0, e1, e2, e3, e4⟩, HENDa⟩ := HRB.out.give HZ.out (by have := HG.out; omega)
    have HEND := Lib.hid HENDa
    clear HENDa HZ HRB
    go_wp2
    generalize World.setCell (World.setCell (World.setCell (World.setCell (World.setCell w2 _ _) _ _) _ _) _ _) _ _ = WE at e0 e1 e2 e3 e4 HEND ⊢
    exact bodyPost_ret (v := .tuple #[.agg #[.int .i64 co, .int .i64 fo, .int .i64 ho, .slice va m vc, .slice ua n uc], .bool false]) (by simp [results, Tryz.results11, go_sem, e0, e1, e2, e3, e4]) rfl (gives (by rw [HPE.out.1, HPE.out.2]; exact ⟨_, rfl, ⟨_, _, rfl, HEND.out.1, HXS.out ▸ HEND.out.2.1⟩, HEND.out.2.2⟩))
  · have HPE := Lib.hid (show passR ⟨co, fo, ho, ms, es⟩ = ⟨co, fo, ho + 1, ms, es⟩ ∧ pb = true from ⟨by unfold passR; rw [if_neg hq], by rw [hpb]; simpa using hq⟩)
    have W1 : IntKind.i64.wrap (ho + 1) = ho + 1 := IntWalk.i64_in _ (by omega)
    obtain ⟨f0, f1, f2, f3, f4⟩ := fz5 HRB.out.row
    have HRB2 := Lib.hid (HRB.out.hop (ho + 1))
    have HZ2 := Lib.hid ((Fr.setCell w2 g 2 (.int .i64 (ho + 1)) (S := [g]) (by simp)).heap HZ.out (by intro hm; have := List.mem_singleton.1 hm; omega))
    clear hpb q0 q1 q3 q4 f0 f1 f3 f4 HRB HZ HFV
    go_upto_region 5 with fail
    generalize World.setCell w2 _ _ = w3 at HRB2 HZ2 ⊢
    have HRB := HRB2
    have HZ := HZ2
    clear HRB2 HZ2 q2 f2
    obtain ⟨q0, q1, q2, q3, q4⟩ := row5 HRB.out.row
    obtain ⟨z0, z1, z2, z3, z4⟩ := row5 HZ.out
    obtain ⟨f0, f1, f2, f3, f4⟩ := fz5 HZ.out
    obtain ⟨⟨e0, e1, e2, e3, e4⟩, HENDa⟩ := HRB.out.give HZ.out (by have := HG.out; omega)
    have HEND := Lib.hid HENDa
    clear HENDa HZ HRB
    go_wp2
    generalize World.setCell (World.setCell (World.setCell (World.setCell (World.setCell w3 _ _) _ _) _ _) _ _) _ _ = WE at e0 e1 e2 e3 e4 HEND ⊢
    exact bodyPost_ret (v := .tuple #[.agg #[.int .i64 co, .int .i64 fo, .int .i64 (ho + 1), .slice va m vc, .slice ua n uc], .bool true]) (by simp [results, Tryz.results11, go_sem, e0, e1, e2, e3, e4]) rfl (gives (by rw [HPE.out.1, HPE.out.2]; exact ⟨_, rfl, ⟨_, _, rfl, HEND.out.1, HXS.out ▸ HEND.out.2.1⟩, HEND.out.2.2⟩))
end Go.Proofs.YtldheaamcnmlgaaGreat
