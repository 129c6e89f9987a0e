/- Stage 19's laws: a ring that is light. Slices of calls: of the call's own, those that came in; whether two are the same: the document's. What package ledger's functions have to answer, that the laws can be walked; the laws' own example. The document's ledger: purged. The document's ledger: what is wanted, whose it is, a new ring. The document's ledger: whose it is, a new ring. The document's ledger: where a call's entry stands, a bid put. The document's ledger: a bid put on a call's entry. Package ledger: passed on; what clones, what hands out a ring. -/
import Derived.Test.YtldheaamcnmlgaaLgVal
import Derived.Test.YtldheaamcnmlgaaGLb
import Derived.Test.YtldheaamcnmlgaaGLd
import Derived.Test.YtldheaamcnmlgaaGLc
import Derived.Test.YtldheaamcnmlgaaLgC2
namespace Go.Proofs.Ytldheaamcnmlgaa
open Go.RowKit Fm

def LightR (r : Rg) : Prop := (∀ e ∈ r.es, e.bs.length ≤ 16) ∧ r.ms.length ≤ 16 ∧ r.es.length ≤ 30 ∧ ringC r = 0
instance (r : Rg) : Decidable (LightR r) := by unfold LightR; infer_instance
set_option maxHeartbeats 4000000 in
set_option maxRecDepth 100000 in
theorem light_any (r : Rg) (vm ve : Value) (b : Bool) (hb : b = decide (LightR r)) (w : World) (hm : HInts w vm r.ms) (he : HE w ve r.es) :
    Calls Try.prog 9 #[rgV r vm ve] w fun e w' => e = .returned (.bool b) ∧ Fr w w' [] := by
  obtain ⟨co, fo, ho, ms, es⟩ := r
  dsimp only at hm he
  obtain ⟨z, hz⟩ : ∃ z, z = dcode (ringC ⟨co, fo, ho, ms, es⟩) := ⟨_, rfl⟩
  have HB0 := Lib.hid hb
  have HZC := Lib.hid hz
  have VR := Lib.hid (fun W (hW : Fr w W []) => rvalidRing_any co fo ho ms es vm ve W (hm.keep hW) (he.keep hW))
  rw [← hz] at VR
  obtain ⟨am, cm, rfl, pm, qm, rm⟩ := hm
  obtain ⟨ae, ce, rfl, pe, qe, re⟩ := he
  unfold maxLen at qm qe
  have HLS := Lib.hid re
  obtain ⟨n, hn⟩ : ∃ n, n = es.length := ⟨_, rfl⟩
  have HN := Lib.hid hn
  obtain ⟨m, hmm⟩ : ∃ m, m = ms.length := ⟨_, rfl⟩
  have HM := Lib.hid hmm
  rw [← hn] at pe HLS VR
  rw [← hmm] at pm VR
  unfold rgV
  dsimp only
  rw [← hn, ← hmm]
  clear rm re hb hz hn hmm
  have HTW := Lib.hid (heap_alloc_new w (.cells #[.int .i64 co, .int .i64 fo, .int .i64 ho, .slice am m cm, .slice ae n ce] 27))
  have HF2 := Lib.hid (Fr.alloc w (.cells #[.int .i64 co, .int .i64 fo, .int .i64 ho, .slice am m cm, .slice ae n ce] 27) [])
  go_enter Try.func9, Try.ntmps9
  go_upto_region 1 with fail
  generalize World.alloc w _ = V at HTW HF2 ⊢
  have HC1 := Lib.hid (show C5 w.heap.size (.int .i64 co) (.int .i64 fo) (.int .i64 ho) (.slice am m cm) (.slice ae n ce) V from row5 HTW.out)
  obtain ⟨y0, y1, y2, y3, y4⟩ := HC1.out
  go_wp2_with fail
  go_loop [3] (fun s3 => ∃ i : Nat, i ≤ n ∧ s3 = .int .i64 i ∧ Hid (∀ j, j < i → (es.getD j zeroE).bs.length ≤ 16)) (fun s3 => n - (intOf s3).toNat)
  case atStart => exact ⟨0, Nat.zero_le _, rfl, Lib.hid (fun j hj => by omega)⟩
  case round =>
    obtain ⟨i, hi, rfl, HA⟩ := hrel
    by_cases hlt : i < n
    · have hltd : decide ((i : Int) < (n : Int)) = true := decide_eq_true (by omega)
      obtain ⟨bl, off, rfl, hc⟩ := HLS.out (by omega)
      obtain ⟨vb, _, _, _, t3, _, hvb⟩ := hc i hlt
      obtain ⟨e, he⟩ : ∃ e, e = es.getD i zeroE := ⟨_, rfl⟩
      rw [← he] at hvb
      obtain ⟨ab, cb, rfl, _⟩ := hvb
      obtain ⟨k, hk⟩ : ∃ k, k = e.bs.length := ⟨_, rfl⟩
      rw [← hk] at t3
      have t4 := HF2.out.cell t3 (by simp)
      have HK := Lib.hid (show k = (es.getD i zeroE).bs.length by rw [hk, he])
      clear hc hk he t3
      by_cases h16 : k ≤ 16
      · have d16 : decide ((16 : Int) < (k : Int)) = false := decide_eq_false (by omega)
        have HA2 : Hid (∀ j, j < i + 1 → (es.getD j zeroE).bs.length ≤ 16) := Lib.hid (fun j hj => by
          by_cases q : j < i
          · exact HA.out j q
          · obtain rfl : j = i := by omega
            rw [← HK.out]; exact h16)
        clear HA
        go_wp2
        go_round
        case rel => exact ⟨i + 1, by omega, by go_num, HA2⟩
        case measure => simp [intOf]; omega
      · have d16 : decide ((16 : Int) < (k : Int)) = true := decide_eq_true (by omega)
        have HT : Hid (b = false) := by
          show _ = _
          rw [HB0.out, decide_eq_false_iff_not]
          intro h
          have := h.1 (es.getD i zeroE) (getD_mem (l := es) (by have := HN.out; omega) zeroE)
          rw [← HK.out] at this
          omega
        go_wp2
        go_ret
        exact ⟨by rw [HT.out]; rfl, HF2.out⟩
    · have hltd : decide ((i : Int) < (n : Int)) = false := decide_eq_false (by omega)
      obtain rfl : i = n := by omega
      have HAL : Hid (∀ e ∈ es, e.bs.length ≤ 16) := Lib.hid (fun e he => by
        obtain ⟨j, hj, rfl⟩ := List.mem_iff_getElem.1 he
        have := HA.out j (by have := HN.out; omega)
        rwa [List.getD_eq_getElem?_getD, List.getElem?_eq_getElem hj] at this)
      clear HA HLS
      by_cases h16 : m ≤ 16
      · have d16 : decide ((m : Int) ≤ 16) = true := decide_eq_true (by omega)
        by_cases h30 : i ≤ 30
        · have d30 : decide ((i : Int) ≤ 30) = true := decide_eq_true (by omega)
          have VV := Lib.hid (VR.out V HF2.out)
          by_cases hz0 : z = 0
          · have HT : Hid (b = true) := by
              show _ = _
              rw [HB0.out, decide_eq_true_iff]
              refine ⟨HAL.out, by rw [← HM.out]; exact h16, by rw [← HN.out]; exact h30, ?_⟩
              have := HZC.out
              rw [hz0] at this
              by_cases q : ringC ⟨co, fo, ho, ms, es⟩ = 0
              · exact q
              · exact absurd this (by unfold dcode; rw [if_neg q]; omega)
            have e0 : (z == 0) = true := by simp [hz0]
            clear hz0 VR
            go_wp2_with ((with_reducible refine VV.out.mono ?_); rintro e w1 ⟨rfl, hf1⟩)
            go_ret
            exact ⟨by rw [HT.out]; rfl, HF2.out.trans hf1⟩
          · have HT : Hid (b = false) := by
              show _ = _
              rw [HB0.out, decide_eq_false_iff_not]
              intro h
              refine hz0 ?_
              rw [HZC.out]
              unfold dcode
              rw [if_pos h.2.2.2]
            have e0 : (z == 0) = false := by simp [hz0]
            clear hz0 VR
            go_wp2_with ((with_reducible refine VV.out.mono ?_); rintro e w1 ⟨rfl, hf1⟩)
            go_ret
            exact ⟨by rw [HT.out]; rfl, HF2.out.trans hf1⟩
        · have d30 : decide ((i : Int) ≤ 30) = false := decide_eq_false (by omega)
          have HT : Hid (b = false) := by
            show _ = _
            rw [HB0.out, decide_eq_false_iff_not]
            intro h
            have := h.2.2.1
            rw [← HN.out] at this
            exact h30 this
          go_wp2
          go_ret
          exact ⟨by rw [HT.out]; rfl, HF2.out⟩
      · have d16 : decide ((m : Int) ≤ 16) = false := decide_eq_false (by omega)
        have HT : Hid (b = false) := by
          show _ = _
          rw [HB0.out, decide_eq_false_iff_not]
          intro h
          have := h.2.1
          rw [← HM.out] at this
          exact h16 this
        go_wp2
        go_ret
        exact ⟨by rw [HT.out]; rfl, HF2.out⟩
end Go.Proofs.Ytldheaamcnmlgaa

namespace Go.Proofs.Ytldheaamcnmlgaa
open Go.RowKit

/-- The slice v holds the calls (FHold's, and: a nil one has no room). -/
def HCl (w : World) (v : Value) (l : List (Int × Int)) : Prop :=
  ∃ a cap, v = .slice a l.length cap ∧ (l.length ≤ cap ∧ (a = none → cap = 0)) ∧ cap ≤ maxLen ∧ (0 < l.length → ∃ b off, a = some ⟨b, off, none⟩ ∧ ∀ i, i < l.length →
    w.cell? ⟨b, off + i * 2, none⟩ = some (.int .i64 (l.getD i (0, 0)).1) ∧ w.cell? ⟨b, off + i * 2 + 1, none⟩ = some (.int .i64 (l.getD i (0, 0)).2))
theorem HCl.shape {w : World} {v : Value} {l : List (Int × Int)} (h : HCl w v l) : ∃ a cap, v = .slice a l.length cap := by
  obtain ⟨a, cap, h, _⟩ := h; exact ⟨a, cap, h⟩
theorem HCl.fr {w w' : World} {v : Value} {l : List (Int × Int)} {S : List Nat} (h : HCl w v l) (hg : Fr w w' S) (hne : ∀ r ∈ S, v.ownBlock ≠ some r) : HCl w' v l := by
  obtain ⟨a, cap, rfl, h1, h2, h3⟩ := h
  refine ⟨a, cap, rfl, h1, h2, fun h0 => ?_⟩
  obtain ⟨b, off, rfl, hc⟩ := h3 h0
  exact ⟨b, off, rfl, fun i hi => ⟨hg.cell (hc i hi).1 (fun hm => hne b hm rfl), hg.cell (hc i hi).2 (fun hm => hne b hm rfl)⟩⟩
theorem HCl.keep {w w' : World} {v : Value} {l : List (Int × Int)} (h : HCl w v l) (hg : Fr w w' []) : HCl w' v l := h.fr hg (by simp)
theorem nil_calls {w : World} : HCl w (.slice none 0 0) [] := ⟨none, 0, rfl, by simp, by decide, fun h => absurd h (by simp)⟩
def cdc (l : List (Int × Int)) : List Value := l.flatMap fun b => [.int .i64 b.1, .int .i64 b.2]
theorem cdc_len (l : List (Int × Int)) : (cdc l).length = l.length * 2 := by
  induction l with
  | nil => rfl
  | cons b l ih => simp only [cdc, List.flatMap_cons, List.length_append, List.length_cons, List.length_nil] at *; omega
theorem cdc_snoc (l : List (Int × Int)) (b : Int × Int) : cdc (l ++ [b]) = cdc l ++ [.int .i64 b.1, .int .i64 b.2] := by simp [cdc]
theorem cdc_app (l m : List (Int × Int)) : cdc (l ++ m) = cdc l ++ cdc m := by simp [cdc]
theorem cdc_get (l : List (Int × Int)) (i : Nat) (h : i < l.length) : (cdc l)[i * 2]? = some (.int .i64 (l.getD i (0, 0)).1) ∧ (cdc l)[i * 2 + 1]? = some (.int .i64 (l.getD i (0, 0)).2) := by
  induction l generalizing i with
  | nil => simp at h
  | cons b l ih =>
    cases i with
    | zero => simp [cdc]
    | succ i =>
      have h' : i < l.length := by simpa using h
      have := ih i h'
      have e : cdc (b :: l) = .int .i64 b.1 :: .int .i64 b.2 :: cdc l := by simp [cdc]
      rw [e, show (i + 1) * 2 = i * 2 + 1 + 1 by omega]
      simpa using this
theorem infoCl : (Try.prog.info? 35).map (fun i => (i.zero, i.size, i.bytes)) = some (some (.agg #[.int .i64 0, .int .i64 0]), 2, 16) := by kernel_rfl
/-- The slice v is the call's own, and holds the calls. -/
def OwnCl (w : World) (B : Nat) (v : Value) (l : List (Int × Int)) : Prop := w.ownsRow B 35 2 v l.length (cdc l)
theorem OwnCl.nil (w : World) (B : Nat) : OwnCl w B (.slice none 0 0) [] := ⟨rfl, .inl ⟨rfl, rfl⟩⟩
theorem OwnCl.fr {w w' : World} {B : Nat} {v : Value} {l : List (Int × Int)} {S : List Nat} (h : OwnCl w B v l) (hg : Fr w w' S) (hne : ∀ r ∈ S, v.ownBlock ≠ some r) : OwnCl w' B v l := row_fr h hg hne
theorem OwnCl.keep {w w' : World} {B : Nat} {v : Value} {l : List (Int × Int)} (h : OwnCl w B v l) (hg : Fr w w' []) : OwnCl w' B v l := h.fr hg (by simp)
theorem OwnCl.mono {w : World} {B B' : Nat} {v : Value} {l : List (Int × Int)} (h : OwnCl w B v l) (hB : B' ≤ B) : OwnCl w B' v l := row_mono h hB
theorem OwnCl.snoc {w : World} {B : Nat} {v : Value} {l : List (Int × Int)} {b : Int × Int} (h : w.ownsRow B 35 2 v (l.length + 1) (cdc l ++ [.int .i64 b.1, .int .i64 b.2])) : OwnCl w B v (l ++ [b]) := by
  unfold OwnCl
  rw [cdc_snoc]
  simpa using h
theorem OwnCl.block {w : World} {B : Nat} {v : Value} {l : List (Int × Int)} (h : OwnCl w B v l) : ∀ r, v.ownBlock = some r → B ≤ r ∧ r < w.heap.size := World.ownsRow.lt h
theorem OwnCl.shape {w : World} {B : Nat} {v : Value} {l : List (Int × Int)} (h : OwnCl w B v l) : ∃ a c, v = .slice a l.length c := row_shape h
theorem OwnCl.holds {w : World} {B : Nat} {v : Value} {l : List (Int × Int)} (h : OwnCl w B v l) : HCl w v l := by
  by_cases h0 : 0 < l.length
  · obtain ⟨g, c, rfl, hc, hm, _⟩ := row_head h h0
    have h2 := World.ownsRow.cellAt h
    refine ⟨_, c, rfl, ⟨hc, by simp⟩, hm, fun _ => ⟨g, 0, rfl, fun i hi => ?_⟩⟩
    obtain ⟨g0, g1⟩ := cdc_get l i hi
    rw [Nat.zero_add]
    exact ⟨(h2 _ (by omega)).trans g0, (h2 _ (by omega)).trans g1⟩
  · obtain rfl := List.eq_nil_of_length_eq_zero (by omega : l.length = 0)
    rcases h.2 with ⟨rfl, _⟩ | ⟨g, cap, cur, rfl, hb, hg, hn, hm, _⟩
    · exact ⟨none, 0, rfl, by simp, by decide, fun h => absurd h (by simp)⟩
    · exact ⟨_, cap, rfl, ⟨hn, by simp⟩, hm, fun h => absurd h (by simp)⟩
/-- Two calls, where they lie. -/
def CallS (w0 : World) (b1 o1 b2 o2 : Nat) (x x' y y' : Int) (a : World) : Prop :=
  Fr w0 a [] ∧ a.cell? ⟨b1, o1, none⟩ = some (.int .i64 x) ∧ a.cell? ⟨b1, o1 + 1, none⟩ = some (.int .i64 x') ∧ a.cell? ⟨b2, o2, none⟩ = some (.int .i64 y) ∧ a.cell? ⟨b2, o2 + 1, none⟩ = some (.int .i64 y')
theorem CallS.keep {w0 : World} {b1 o1 b2 o2 : Nat} {x x' y y' : Int} {a c : World} (h : CallS w0 b1 o1 b2 o2 x x' y y' a) (k : Fr a c []) : CallS w0 b1 o1 b2 o2 x x' y y' c :=
  ⟨h.1.trans k, k.cell h.2.1 (by simp), k.cell h.2.2.1 (by simp), k.cell h.2.2.2.1 (by simp), k.cell h.2.2.2.2 (by simp)⟩
end Go.Proofs.Ytldheaamcnmlgaa

namespace Go.Proofs.Ytldheaamcnmlgaa
open Go.RowKit Fm

def GRing (r : Rg) (w : World) (u : Value) (w' : World) : Prop := HR w' u r ∧ Fr w w' []
def GTwo (r : Rg) (b : Bool) (w : World) (u : Value) (w' : World) : Prop := ∃ x, u = .tuple #[x, .bool b] ∧ HR w' x r ∧ Fr w w' []
def GAward (r : Rg) (w : World) (u : Value) (w' : World) : Prop := ∃ x v, u = .tuple #[x, v] ∧ HR w' x (awardR r) ∧ HE w' v (wonR r) ∧ Fr w w' []
def Small (r : Rg) : Prop := r.ms.length ≤ 100 ∧ r.es.length ≤ 200 ∧ ∀ e ∈ r.es, e.bs.length ≤ 100
/-- What the laws ask of the ledger's functions: to be proved of the code that lands. -/
structure LgIs : Prop where
  new : ∀ (co fo : Int) (v : Value) (l : List Int) (w : World), HInts w v l → l.length ≤ 100 → Calls Try.prog 15 #[.agg #[.int .i64 co, .int .i64 fo], v] w (Gives (GRing (newR co fo l) w))
  purge : ∀ (r : Rg) (vm ve vl : Value) (L : List La) (w : World), HInts w vm r.ms → HE w ve r.es → Small r → HLs w vl L → L.length ≤ 200 → Calls Try.prog 17 #[rgV r vm ve, vl] w (Gives (GRing (purgeR r L) w))
  add : ∀ (r : Rg) (vm ve vl : Value) (L : List La) (w : World), HInts w vm r.ms → HE w ve r.es → Small r → HLs w vl L → L.length ≤ 200 → Calls Try.prog 16 #[rgV r vm ve, vl] w (Gives (GRing (addR r L) w))
  wants : ∀ (r : Rg) (vm ve : Value) (car : Int) (w : World), HInts w vm r.ms → HE w ve r.es → Small r → Calls Try.prog 11 #[rgV r vm ve, .int .i64 car] w (Gives fun u w' => HCl w' u (wantsR r car) ∧ Fr w w' [])
  bid : ∀ (r : Rg) (vm ve : Value) (b : Int × Int) (f d : Int) (w : World), HInts w vm r.ms → HE w ve r.es → Small r → Calls Try.prog 14 #[rgV r vm ve, bidV b, .agg #[.int .i64 f, .int .i64 d]] w (Gives (GTwo (bidR r b (placeE r.es f d)) (bidRB r b (placeE r.es f d)) w))
  award : ∀ (r : Rg) (vm ve : Value) (w : World), HInts w vm r.ms → HE w ve r.es → Small r → Calls Try.prog 18 #[rgV r vm ve] w (Gives (GAward r w))
  mine : ∀ (r : Rg) (vm ve : Value) (car : Int) (w : World), HInts w vm r.ms → HE w ve r.es → Small r → (∀ e ∈ r.es, -1 ≤ e.aw) → Calls Try.prog 21 #[rgV r vm ve, .int .i64 car] w (Gives fun u w' => HLs w' u (mineR r car) ∧ Fr w w' [])
  pass : ∀ (r : Rg) (vm ve : Value) (w : World), HInts w vm r.ms → HE w ve r.es → Small r → (-9223372036854775808 ≤ r.ho ∧ r.ho ≤ 9223372036854775807) → Calls Try.prog 19 #[rgV r vm ve] w (Gives (GTwo (passR r) (passB r) w))
/-- A ring in a new box. -/
theorem box_ring (w : World) (v0 v1 v2 v3 v4 : Value) : (w.alloc (.cells #[v0, v1, v2, v3, v4] 27)).heap[w.heap.size]? = some (.cells #[v0, v1, v2, v3, v4] 27 (0, 0)) ∧ Fr w (w.alloc (.cells #[v0, v1, v2, v3, v4] 27)) [] :=
  ⟨heap_alloc_new w _, Fr.alloc w _ []⟩
theorem set_first : setOf [2, 0, 2] = [0, 2] := rises_unique (setOf_rises _) (by simp [Rises]) (fun x => by rw [mem_setOf]; simp; omega)
set_option maxHeartbeats 2000000 in
set_option maxRecDepth 100000 in
theorem lfirst_any (LG : LgIs) (w : World) : Calls Try.prog 8 #[] w fun e w' => e = .returned (.bool true) ∧ Fr w w' [] := by
  have HR0 := row_newL w [.int .i64 2, .int .i64 0, .int .i64 2] 3
  have FA := Lib.hid (Fr.alloc w (.cells #[.int .i64 2, .int .i64 0, .int .i64 2] 3) [])
  have HI : Hid (HInts (w.alloc (.cells #[.int .i64 2, .int .i64 0, .int .i64 2] 3)) (.slice (some ⟨w.heap.size, 0, none⟩) 3 3) [2, 0, 2]) := Lib.hid ⟨_, 3, rfl, Nat.le_refl _, by decide, fun _ => ⟨_, _, rfl, fun i hi => by
    have hi : i < 3 := hi
    have := HR0 i (.int .i64 ([2, 0, 2].getD i 0)) (by rcases (show i = 0 ∨ i = 1 ∨ i = 2 by omega) with rfl | rfl | rfl <;> rfl)
    rwa [Addr.add_lit] at this⟩⟩
  have NW := Lib.hid (LG.new 1 0 _ [2, 0, 2] _ HI.out (by decide))
  clear HR0
  go_enter Try.func8, Try.ntmps8
  go_wp2_with fail
  with_reducible refine (NW.out).mono ?_
  rintro e w1 ⟨u, rfl, ⟨vm, ve, rfl, hm, he⟩, hf1⟩
  unfold rgV newR at *
  rw [set_first] at hm
  dsimp only at hm he ⊢
  have HM := Lib.hid hm
  have HE0 := Lib.hid he
  have HF1 := Lib.hid (FA.out.trans hf1)
  obtain ⟨am, cm, rfl, pm, qm, rm⟩ := hm
  obtain ⟨ae, ce, rfl, pe, qe, re⟩ := he
  obtain ⟨bm, om, rfl, hcm⟩ := rm (by decide)
  have HC0 := Lib.hid (hcm 0 (by decide))
  clear re hcm NW HI FA hf1
  dsimp only [List.length_cons, List.length_nil] at *
  have HBX := Lib.hid (box_ring w1 (.int .i64 1) (.int .i64 0) (.int .i64 0) (.slice (some ⟨bm, om, none⟩) 2 cm) (.slice ae 0 ce))
  go_upto_region 2 with fail
  generalize World.alloc w1 _ = W at HBX ⊢
  obtain ⟨y0, y1, y2, y3, y4⟩ := row5 HBX.out.1
  have AW := Lib.hid (LG.award ⟨1, 0, 0, [0, 2], []⟩ (.slice (some ⟨bm, om, none⟩) 2 cm) (.slice ae 0 ce) W (HM.out.keep HBX.out.2) (HE0.out.keep HBX.out.2) ⟨by decide, by decide, by simp⟩)
  unfold rgV at AW
  dsimp only at AW
  go_wp2_with fail
  with_reducible refine (AW.out).mono ?_
  rintro e w2 ⟨u, rfl, x, v, rfl, ⟨um, ue, rfl, hum, hue⟩, hv, hf2⟩
  have e1 : awardR (⟨1, 0, 0, [0, 2], []⟩ : Rg) = ⟨1, 0, 0, [0, 2], []⟩ := rfl
  have e2 : wonR (⟨1, 0, 0, [0, 2], []⟩ : Rg) = [] := rfl
  rw [e1] at hum hue ⊢
  rw [e2] at hv
  clear e1 e2
  unfold rgV
  dsimp only at hum hue ⊢
  obtain ⟨au, cu, rfl, _⟩ := hum
  obtain ⟨aw, cw, rfl, _⟩ := hue
  obtain ⟨av, cv, rfl, _⟩ := hv
  have HF2 := Lib.hid hf2
  clear hf2 AW y0 y1 y2 y3 y4
  dsimp only [List.length_cons, List.length_nil] at *
  have HBY := Lib.hid (box_ring w2 (.int .i64 1) (.int .i64 0) (.int .i64 0) (.slice au 2 cu) (.slice aw 0 cw))
  go_upto_region 3 with fail
  generalize World.alloc w2 _ = W2 at HBY ⊢
  have HFB := Lib.hid (HF2.out.trans HBY.out.2)
  obtain ⟨y0, y1, y2, y3, y4⟩ := row5 (HFB.out.heap HBX.out.1 (by simp))
  have c0 : W2.cell? ⟨bm, om, none⟩ = some (.int .i64 0) := (HBX.out.2.trans HFB.out).cell HC0.out (by simp)
  have HFZ := Lib.hid ((HF1.out.trans HBX.out.2).trans HFB.out)
  go_wp2
  go_ret
  exact ⟨rfl, HFZ.out⟩
end Go.Proofs.Ytldheaamcnmlgaa

namespace Go.Proofs.Ytldheaamcnmlgaa
open Go.RowKit Fm

theorem purge_step (es : List En) (L : List La) (k : Nat) (h : k < es.length) : purgeE (es.take (k + 1)) L = purgeE (es.take k) L ++ (if laOf (es.getD k zeroE) ∈ L then [es.getD k zeroE] else []) := by
  unfold purgeE
  rw [take_en es k h, List.filter_append]
  congr 1
  by_cases q : laOf (es.getD k zeroE) ∈ L
  · rw [if_pos q, List.filter_cons, if_pos (decide_eq_true q)]; rfl
  · rw [if_neg q, List.filter_cons, if_neg (by simpa using q)]; rfl
/-- What Purge answers. -/
def RingE (r : Rg) (w : World) (u : Value) (w' : World) : Prop := HR w' u r ∧ Fr w w' []
end Go.Proofs.Ytldheaamcnmlgaa

namespace Go.Proofs.Ytldheaamcnmlgaa
open Go.RowKit Fm

theorem want_step (es : List En) (car : Int) (k : Nat) (h : k < es.length) : ((es.take (k + 1)).filter (wantE car)).map callOf = ((es.take k).filter (wantE car)).map callOf ++ (if wantE car (es.getD k zeroE) = true then [callOf (es.getD k zeroE)] else []) := by
  rw [take_en es k h, List.filter_append, List.map_append]
  congr 1
  by_cases q : wantE car (es.getD k zeroE) = true
  · rw [if_pos q, List.filter_cons, if_pos q]; rfl
  · rw [if_neg q, List.filter_cons, if_neg q]; rfl
theorem mine_step (es : List En) (car : Int) (k : Nat) (h : k < es.length) : ((es.take (k + 1)).filter fun e => decide (e.aw = car)).map laOf = ((es.take k).filter fun e => decide (e.aw = car)).map laOf ++ (if (es.getD k zeroE).aw = car then [laOf (es.getD k zeroE)] else []) := by
  rw [take_en es k h, List.filter_append, List.map_append]
  congr 1
  by_cases q : (es.getD k zeroE).aw = car
  · rw [if_pos q, List.filter_cons, if_pos (decide_eq_true q)]; rfl
  · rw [if_neg q, List.filter_cons, if_neg (by simpa using q)]; rfl
def mineK (es : List En) (car : Int) (k : Nat) : List La := if 0 ≤ car then ((es.take k).filter fun e => decide (e.aw = car)).map laOf else []
theorem mineK_step (es : List En) (car : Int) (k : Nat) (h : k < es.length) : mineK es car (k + 1) = mineK es car k ++ (if (es.getD k zeroE).aw = car ∧ 0 ≤ car then [laOf (es.getD k zeroE)] else []) := by
  unfold mineK
  by_cases q : 0 ≤ car
  · rw [if_pos q, if_pos q, mine_step es car k h]
    congr 1
    simp [q]
  · rw [if_neg q, if_neg q, if_neg (fun x => q x.2)]; rfl
theorem mineK_len (es : List En) (car : Int) (k : Nat) : (mineK es car k).length ≤ k := by
  unfold mineK
  split
  · rw [List.length_map]
    exact Nat.le_trans (List.length_filter_le _ _) (by rw [List.length_take]; omega)
  · simp
/-- What Wants, Mine answer. -/
def WantsE (l : List (Int × Int)) (w : World) (u : Value) (w' : World) : Prop := HCl w' u l ∧ Fr w w' []
def MineE (l : List La) (w : World) (u : Value) (w' : World) : Prop := HLs w' u l ∧ Fr w w' []
end Go.Proofs.Ytldheaamcnmlgaa

namespace Go.Proofs.Ytldheaamcnmlgaa
open Go.RowKit Fm

end Go.Proofs.Ytldheaamcnmlgaa

namespace Go.Proofs.Ytldheaamcnmlgaa
open Go.RowKit Fm

/-- What place answers. -/
def PlaceIs (es : List En) (f d : Int) (z : Int) : Prop := (z = -1 ∧ ¬ placeE es f d < es.length) ∨ (z = (placeE es f d : Int) ∧ placeE es f d < es.length)
theorem place_here {es : List En} {f d : Int} {k : Nat} (hk : k < es.length) (no : ∀ i, i < k → ¬ ((es.getD i zeroE).fl = f ∧ (es.getD i zeroE).di = d)) (yes : (es.getD k zeroE).fl = f ∧ (es.getD k zeroE).di = d) : PlaceIs es f d k := by
  have e := placeE_is (Nat.le_of_lt hk) no (fun _ => yes)
  exact .inr ⟨by rw [e], by rw [e]; exact hk⟩
theorem place_none {es : List En} {f d : Int} (no : ∀ i, i < es.length → ¬ ((es.getD i zeroE).fl = f ∧ (es.getD i zeroE).di = d)) : PlaceIs es f d (-1) := by
  have e := placeE_is (k := es.length) (Nat.le_refl _) no (fun h => absurd h (Nat.lt_irrefl _))
  exact .inl ⟨rfl, by rw [e]; exact Nat.lt_irrefl _⟩
/-- What a round of place reads. -/
def SPl (V : World) (g1 g2 bk o : Nat) (co fo ho : Int) (am ae : Value) (f d x y : Int) (a : World) : Prop :=
  Fr V a [] ∧ C5 g1 (.int .i64 co) (.int .i64 fo) (.int .i64 ho) am ae a ∧ (a.cell? ⟨g2, 0, none⟩ = some (.int .i64 f) ∧ a.cell? ⟨g2, 1, none⟩ = some (.int .i64 d)) ∧ a.cell? ⟨bk, o, none⟩ = some (.int .i64 x) ∧ a.cell? ⟨bk, o + 1, none⟩ = some (.int .i64 y)
theorem SPl.fr {V : World} {g1 g2 bk o : Nat} {co fo ho : Int} {am ae : Value} {f d x y : Int} {a a' : World} (h : SPl V g1 g2 bk o co fo ho am ae f d x y a) (k : Fr a a' []) : SPl V g1 g2 bk o co fo ho am ae f d x y a' :=
  ⟨h.1.trans k, h.2.1.fr k (by simp), ⟨k.cell h.2.2.1.1 (by simp), k.cell h.2.2.1.2 (by simp)⟩, k.cell h.2.2.2.1 (by simp), k.cell h.2.2.2.2 (by simp)⟩
end Go.Proofs.Ytldheaamcnmlgaa

namespace Go.Proofs.Ytldheaamcnmlgaa
open Go.RowKit Fm

theorem four_boxes (w : World) (o1 o2 o3 o4 : Obj) : Fr w ((((w.alloc o1).alloc o2).alloc o3).alloc o4) [] ∧ ((((w.alloc o1).alloc o2).alloc o3).alloc o4).heap.size = w.heap.size + 4 ∧
    ((((w.alloc o1).alloc o2).alloc o3).alloc o4).heap[w.heap.size]? = some o1 ∧ ((((w.alloc o1).alloc o2).alloc o3).alloc o4).heap[w.heap.size + 1]? = some o2 ∧ ((((w.alloc o1).alloc o2).alloc o3).alloc o4).heap[w.heap.size + 2]? = some o3 ∧ ((((w.alloc o1).alloc o2).alloc o3).alloc o4).heap[w.heap.size + 3]? = some o4 := by
  obtain ⟨a, b⟩ := two_boxes w o1 o2
  obtain ⟨c, d⟩ := two_boxes ((w.alloc o1).alloc o2) o3 o4
  have f1 := (Fr.alloc w o1 []).trans (Fr.alloc (w.alloc o1) o2 [])
  have f2 := (Fr.alloc ((w.alloc o1).alloc o2) o3 []).trans (Fr.alloc (((w.alloc o1).alloc o2).alloc o3) o4 [])
  rw [show ((w.alloc o1).alloc o2).heap.size = w.heap.size + 2 by simp] at c d
  exact ⟨f1.trans f2, by simp, f2.heap a (by simp), f2.heap b (by simp), c, d⟩
/-- The entries' row of a ring's box. -/
theorem RB.rowE {V a : World} {g n uc : Nat} {co fo ho : Int} {um : Value} {ua : Option Addr} {ms : List Int} {xs : List (En × Value)} (h : RB V g co fo ho um (.slice ua n uc) ms xs a) (h0 : 0 < n) : ∃ b, ua = some ⟨b, 0, none⟩ ∧ b ≠ g ∧ V.heap.size ≤ b ∧ n ≤ uc := by
  have hs := h.oe.1
  obtain ⟨x, y, e⟩ := row_shape hs
  simp only [Value.slice.injEq] at e
  obtain ⟨b, c, e2, hc, _, _⟩ := row_head hs (by omega)
  simp only [Value.slice.injEq] at e2
  obtain ⟨rfl, h3, rfl⟩ := e2
  have hb := (h.oe.block b rfl).1
  refine ⟨b, rfl, ?_, hb, by omega⟩
  rintro rfl
  exact row_ne hs h.row (by decide) rfl
/-- A cell of an entry stored anew. -/
theorem RB.setE {V a : World} {g b n uc : Nat} {co fo ho : Int} {um : Value} {ms : List Int} {xs : List (En × Value)} (h : RB V g co fo ho um (.slice (some ⟨b, 0, none⟩) n uc) ms xs a) (k : Nat) (x y : En × Value) (hk : xs[k]? = some x) (o : Nat) (u : Value) (ho5 : o < 5) (he : enc1 y = (enc1 x).set o u) (hy : OwnB a V.heap.size y.2 y.1.bs) :
    RB V g co fo ho um (.slice (some ⟨b, 0, none⟩) n uc) ms (xs.set k y) (a.setCell ⟨b, k * 5 + o, none⟩ u) := by
  obtain ⟨h1, h2⟩ := h.oe.set k x y hk o u ho5 he hy
  obtain ⟨cs, hgr, hB, _⟩ := row_at h.oe.1
  have hne : b ≠ g := by
    rintro rfl
    exact row_ne h.oe.1 h.row (by decide) rfl
  exact ⟨h.f.new h2 (by intro r hr; obtain rfl := List.mem_singleton.1 hr; exact hB), h.hg, h2.heap h.row (by simpa using fun e => hne e.symm), h.oi.far h2 hgr (by decide), h1⟩
/-- What the putting of a bid reads. -/
def SBd (V : World) (g gb b k : Nat) (co fo ho : Int) (um ve : Value) (x : Int × Int) (vb : Value) (a : World) : Prop :=
  Fr V a [] ∧ C5 g (.int .i64 co) (.int .i64 fo) (.int .i64 ho) um ve a ∧ (a.cell? ⟨gb, 0, none⟩ = some (.int .i64 x.1) ∧ a.cell? ⟨gb, 1, none⟩ = some (.int .i64 x.2)) ∧ a.cell? ⟨b, k * 5 + 3, none⟩ = some vb
end Go.Proofs.Ytldheaamcnmlgaa

namespace Go.Proofs.Ytldheaamcnmlgaa
open Go.RowKit Fm

/-- Behind clone: its answer stored into the parameter's own box. -/
theorem RB.of_clone {r : Rg} {w V w1 : World} {u : Value} {g : Nat} {b0 b1 b2 b3 b4 : Value} (h : CopyR r V u w1) (hV : Fr w V []) (hg : w.heap.size ≤ g) (hb : V.heap[g]? = some (.cells #[b0, b1, b2, b3, b4] 27 (0, 0))) :
    ∃ va vc ua uc xs, u = rgV r (.slice va r.ms.length vc) (.slice ua r.es.length uc) ∧ xs.map (·.1) = r.es ∧ C5 g b0 b1 b2 b3 b4 w1 ∧ (w1.frozen? ⟨g, 0, none⟩ = false ∧ w1.frozen? ⟨g, 1, none⟩ = false ∧ w1.frozen? ⟨g, 2, none⟩ = false ∧ w1.frozen? ⟨g, 3, none⟩ = false ∧ w1.frozen? ⟨g, 4, none⟩ = false) ∧
      RB w g r.co r.fo r.ho (.slice va r.ms.length vc) (.slice ua r.es.length uc) r.ms xs (((((w1.setCell ⟨g, 0, none⟩ (.int .i64 r.co)).setCell ⟨g, 1, none⟩ (.int .i64 r.fo)).setCell ⟨g, 2, none⟩ (.int .i64 r.ho)).setCell ⟨g, 3, none⟩ (.slice va r.ms.length vc)).setCell ⟨g, 4, none⟩ (.slice ua r.es.length uc)) ∧ Fr V (((((w1.setCell ⟨g, 0, none⟩ (.int .i64 r.co)).setCell ⟨g, 1, none⟩ (.int .i64 r.fo)).setCell ⟨g, 2, none⟩ (.int .i64 r.ho)).setCell ⟨g, 3, none⟩ (.slice va r.ms.length vc)).setCell ⟨g, 4, none⟩ (.slice ua r.es.length uc)) [g] := by
  obtain ⟨vm, ve, xs, e, h1, h2, h3, h4⟩ := h
  obtain ⟨va, vc, rfl⟩ := row_shape h1
  obtain ⟨ua, uc, rfl⟩ := h2.shape
  have hl : xs.length = r.es.length := by rw [← h3]; simp
  rw [hl] at e h2
  have hb1 := h4.heap hb (by simp)
  have hf := set5_fr w1 g (.int .i64 r.co) (.int .i64 r.fo) (.int .i64 r.ho) (.slice va r.ms.length vc) (.slice ua r.es.length uc)
  refine ⟨va, vc, ua, uc, xs, e, h3, row5 hb1, fz5 hb1, ⟨(hV.trans h4).new hf (by intro r hr; obtain rfl := List.mem_singleton.1 hr; exact hg), hg, set5 hb1 _ _ _ _ _, ?_, ?_⟩, (h4.mono (by simp)).trans hf⟩
  · exact (OwnI.mono h1 hV.size).far hf hb1 (by decide)
  · exact (h2.mono hV.size).fr hf (by intro r hr; obtain rfl := List.mem_singleton.1 hr; exact ⟨_, _, hb1, by decide, by decide⟩)
/-- The ring handed out by its answer's box. -/
theorem RB.give {w a : World} {g g2 : Nat} {co fo ho : Int} {um ve : Value} {ms : List Int} {xs : List (En × Value)} {z0 z1 z2 z3 z4 : Value} (h : RB w g co fo ho um ve ms xs a) (hz2 : a.heap[g2]? = some (.cells #[z0, z1, z2, z3, z4] 27 (0, 0))) (hg : w.heap.size ≤ g2) :
    C5 g2 (.int .i64 co) (.int .i64 fo) (.int .i64 ho) um ve (((((a.setCell ⟨g2, 0, none⟩ (.int .i64 co)).setCell ⟨g2, 1, none⟩ (.int .i64 fo)).setCell ⟨g2, 2, none⟩ (.int .i64 ho)).setCell ⟨g2, 3, none⟩ um).setCell ⟨g2, 4, none⟩ ve) ∧
    HInts (((((a.setCell ⟨g2, 0, none⟩ (.int .i64 co)).setCell ⟨g2, 1, none⟩ (.int .i64 fo)).setCell ⟨g2, 2, none⟩ (.int .i64 ho)).setCell ⟨g2, 3, none⟩ um).setCell ⟨g2, 4, none⟩ ve) um ms ∧ HE (((((a.setCell ⟨g2, 0, none⟩ (.int .i64 co)).setCell ⟨g2, 1, none⟩ (.int .i64 fo)).setCell ⟨g2, 2, none⟩ (.int .i64 ho)).setCell ⟨g2, 3, none⟩ um).setCell ⟨g2, 4, none⟩ ve) ve (xs.map (·.1)) ∧ Fr w (((((a.setCell ⟨g2, 0, none⟩ (.int .i64 co)).setCell ⟨g2, 1, none⟩ (.int .i64 fo)).setCell ⟨g2, 2, none⟩ (.int .i64 ho)).setCell ⟨g2, 3, none⟩ um).setCell ⟨g2, 4, none⟩ ve) [] := by
  have hF := set5_fr a g2 (.int .i64 co) (.int .i64 fo) (.int .i64 ho) um ve
  exact ⟨row5 (set5 hz2 _ _ _ _ _), (h.oi.far hF hz2 (by decide)).holds, (h.oe.fr hF (by intro r hr; obtain rfl := List.mem_singleton.1 hr; exact ⟨_, _, hz2, by decide, by decide⟩)).he, h.f.new hF (by intro r hr; obtain rfl := List.mem_singleton.1 hr; exact hg)⟩
set_option maxHeartbeats 1000000 in
set_option maxRecDepth 100000 in
theorem isAwarded_any (e : En) (vb : Value) (w : World) (hs : ∃ a n c, vb = .slice a n c) (b : Bool) (hb : b = decide (e.aw ≠ -1)) : Calls Try.prog 28 #[enV e vb] w fun x w' => x = .returned (.bool b) ∧ Fr w w' [] := by
  obtain ⟨fl, di, ge, bs, aw⟩ := e
  obtain ⟨a, n, c, rfl⟩ := hs
  unfold enV
  dsimp only at hb ⊢
  have FA := Lib.hid (Fr.alloc w (.cells #[.int .i64 fl, .int .i64 di, .int .i64 ge, .slice a n c, .int .i64 aw] 40) [])
  obtain ⟨x0, x1, x2, x3, x4⟩ := row5 (heap_alloc_new w (.cells #[.int .i64 fl, .int .i64 di, .int .i64 ge, .slice a n c, .int .i64 aw] 40))
  by_cases h : aw = -1
  · have hb2 : b = false := by rw [hb]; simpa using h
    subst h
    clear hb
    go_enter Try.func28, Try.ntmps28
    go_wp2
    go_ret
    exact ⟨by rw [hb2]; rfl, FA.out⟩
  · have hb2 : b = true := by rw [hb]; simpa using h
    have hn : (aw != -1) = true := by simpa using h
    clear hb
    go_enter Try.func28, Try.ntmps28
    go_wp2
    go_ret
    exact ⟨by rw [hb2]; rfl, FA.out⟩
set_option maxHeartbeats 1000000 in
set_option maxRecDepth 100000 in
theorem pass_any (r : Rg) (vm ve : Value) (w : World) (hm : HInts w vm r.ms) (he : HE w ve r.es) (hml : r.ms.length ≤ 1000) (hel : r.es.length ≤ 1000) (hbl : ∀ e ∈ r.es, e.bs.length ≤ 1000) (hh : -9223372036854775808 ≤ r.ho ∧ r.ho ≤ 9223372036854775807) :
    Calls Try.prog 19 #[rgV r vm ve] w (Gives (GTwo (passR r) (passB r) w)) := by
  obtain ⟨co, fo, ho, ms, es⟩ := r
  dsimp only at hm he hml hel hbl
  have HMV := Lib.hid hm
  have HEV := Lib.hid he
  obtain ⟨am, cm, rfl, pm, qm, rm⟩ := hm
  obtain ⟨ae, ce, rfl, pe, qe, re⟩ := he
  unfold maxLen at qm qe
  have HBL := Lib.hid hbl
  have HEL := Lib.hid hel
  have HML := Lib.hid hml
  have HLS := Lib.hid re
  obtain ⟨n, hn⟩ : ∃ n, n = es.length := ⟨_, rfl⟩
  have HN := Lib.hid hn
  obtain ⟨m, hmm⟩ : ∃ m, m = ms.length := ⟨_, rfl⟩
  have HM := Lib.hid hmm
  rw [← hn] at hel pe HLS HEV
  rw [← hmm] at hml pm HMV
  unfold rgV
  dsimp only
  rw [← hn, ← hmm]
  clear rm re hbl hn hmm
  dsimp only at hh
  obtain ⟨pb, hpb⟩ : ∃ b, b = passB ⟨co, fo, ho, ms, es⟩ := ⟨_, rfl⟩
  rw [← hpb]
  unfold passB at hpb
  dsimp only at hpb
  have CR := Lib.hid (fun W (hW : Fr w W []) => clone_any ⟨co, fo, ho, ms, es⟩ _ _ W (HMV.out.keep hW) (HEV.out.keep hW) HML.out HEL.out HBL.out)
  obtain ⟨g, hg⟩ : ∃ g, g = w.heap.size := ⟨_, rfl⟩
  have HG := Lib.hid hg
  have HTW := Lib.hid (two_boxes w (.cells #[.int .i64 co, .int .i64 fo, .int .i64 ho, .slice am m cm, .slice ae n ce] 27) (.cells #[.int .i64 0, .int .i64 0, .int .i64 0, .slice none 0 0, .slice none 0 0] 27))
  have HF2 := Lib.hid ((Fr.alloc w (.cells #[.int .i64 co, .int .i64 fo, .int .i64 ho, .slice am m cm, .slice ae n ce] 27) []).trans (Fr.alloc _ (.cells #[.int .i64 0, .int .i64 0, .int .i64 0, .slice none 0 0, .slice none 0 0] 27) []))
  go_enter Try.func19, Try.ntmps19
  go_upto_region 1 with fail
  generalize (w.alloc _).alloc _ = V at HTW HF2 ⊢
  rw [← hg] at HTW ⊢
  clear hg
  obtain ⟨y0, y1, y2, y3, y4⟩ := row5 HTW.out.1
  have CR1 := Lib.hid (CR.out V HF2.out)
  unfold rgV at CR1
  dsimp only at CR1
  clear CR
  go_wp2_with fail
  with_reducible refine (CR1.out).mono ?_
  rintro e w1 ⟨u, rfl, hcr⟩
  obtain ⟨va, vc, ua, uc, xs, hu, hxs, ⟨x0, x1, x2, x3, x4⟩, ⟨f0, f1, f2, f3, f4⟩, hrb, hfv⟩ := RB.of_clone hcr HF2.out (Nat.le_of_eq HG.out.symm) HTW.out.1
  dsimp only at hu hxs hrb hfv
  rw [← HN.out, ← HM.out] at hu hrb hfv
  subst hu
  have HRB := Lib.hid hrb
  have HFV := Lib.hid hfv
  have HXS := Lib.hid hxs
  have HZ := Lib.hid (hfv.heap HTW.out.2 (by intro hm; have := List.mem_singleton.1 hm; omega))
  clear hcr hrb hfv hxs CR1
  unfold rgV
  dsimp only
  go_upto_region 2 with fail
  clear y0 y1 y2 y3 y4 x0 x1 x2 x3 x4 f0 f1 f2 f3 f4
  generalize World.setCell (World.setCell (World.setCell (World.setCell (World.setCell w1 _ _) _ _) _ _) _ _) _ _ = w2 at HRB HFV HZ ⊢
  obtain ⟨q0, q1, q2, q3, q4⟩ := row5 HRB.out.row
  by_cases hq : 1099511627776 ≤ ho
  · have HPE := Lib.hid (show passR ⟨co, fo, ho, ms, es⟩ = ⟨co, fo, ho, ms, es⟩ ∧ pb = false from ⟨by unfold passR; rw [if_pos hq], by rw [hpb]; simpa using hq⟩)
    clear hpb q0 q1 q3 q4
    obtain ⟨q0, q1, q2, q3, q4⟩ := row5 HRB.out.row
    obtain ⟨z0, z1, z2, z3, z4⟩ := row5 HZ.out
    obtain ⟨f0, f1, f2, f3, f4⟩ := fz5 HZ.out
    obtain ⟨⟨e0, e1, e2, e3, e4⟩, HENDa⟩ := HRB.out.give HZ.out (by have := HG.out; omega)
    have HEND := Lib.hid HENDa
    clear HENDa HZ HRB
    go_wp2
    generalize World.setCell (World.setCell (World.setCell (World.setCell (World.setCell w2 _ _) _ _) _ _) _ _) _ _ = WE at e0 e1 e2 e3 e4 HEND ⊢
    exact bodyPost_ret (v := .tuple #[.agg #[.int .i64 co, .int .i64 fo, .int .i64 ho, .slice va m vc, .slice ua n uc], .bool false]) (by simp [results, Try.results19, go_sem, e0, e1, e2, e3, e4]) rfl (gives (by rw [HPE.out.1, HPE.out.2]; exact ⟨_, rfl, ⟨_, _, rfl, HEND.out.1, HXS.out ▸ HEND.out.2.1⟩, HEND.out.2.2⟩))
  · have HPE := Lib.hid (show passR ⟨co, fo, ho, ms, es⟩ = ⟨co, fo, ho + 1, ms, es⟩ ∧ pb = true from ⟨by unfold passR; rw [if_neg hq], by rw [hpb]; simpa using hq⟩)
    have W1 : IntKind.i64.wrap (ho + 1) = ho + 1 := IntWalk.i64_in _ (by omega)
    obtain ⟨f0, f1, f2, f3, f4⟩ := fz5 HRB.out.row
    have HRB2 := Lib.hid (HRB.out.hop (ho + 1))
    have HZ2 := Lib.hid ((Fr.setCell w2 g 2 (.int .i64 (ho + 1)) (S := [g]) (by simp)).heap HZ.out (by intro hm; have := List.mem_singleton.1 hm; omega))
    clear hpb q0 q1 q3 q4 f0 f1 f3 f4 HRB HZ HFV
    go_upto_region 5 with fail
    generalize World.setCell w2 _ _ = w3 at HRB2 HZ2 ⊢
    have HRB := HRB2
    have HZ := HZ2
    clear HRB2 HZ2 q2 f2
    obtain ⟨q0, q1, q2, q3, q4⟩ := row5 HRB.out.row
    obtain ⟨z0, z1, z2, z3, z4⟩ := row5 HZ.out
    obtain ⟨f0, f1, f2, f3, f4⟩ := fz5 HZ.out
    obtain ⟨⟨e0, e1, e2, e3, e4⟩, HENDa⟩ := HRB.out.give HZ.out (by have := HG.out; omega)
    have HEND := Lib.hid HENDa
    clear HENDa HZ HRB
    go_wp2
    generalize World.setCell (World.setCell (World.setCell (World.setCell (World.setCell w3 _ _) _ _) _ _) _ _) _ _ = WE at e0 e1 e2 e3 e4 HEND ⊢
    exact bodyPost_ret (v := .tuple #[.agg #[.int .i64 co, .int .i64 fo, .int .i64 (ho + 1), .slice va m vc, .slice ua n uc], .bool true]) (by simp [results, Try.results19, go_sem, e0, e1, e2, e3, e4]) rfl (gives (by rw [HPE.out.1, HPE.out.2]; exact ⟨_, rfl, ⟨_, _, rfl, HEND.out.1, HXS.out ▸ HEND.out.2.1⟩, HEND.out.2.2⟩))
end Go.Proofs.Ytldheaamcnmlgaa
