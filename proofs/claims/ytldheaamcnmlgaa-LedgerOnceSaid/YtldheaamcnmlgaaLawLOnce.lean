/- The ledger's law of rounds: walked. -/
import Derived.Test.YtldheaamcnmlgaaLgEn
import Derived.Test.YtldheaamcnmlgaaLgA6
import Derived.Test.YtldheaamcnmlgaaLoopU
import Derived.Test.YtldheaamcnmlgaaLgOnce
import Derived.Test.YtldheaamcnmlgaaGLf
namespace Go.Proofs.Ytldheaamcnmlgaa
open Go.RowKit Fm

/-- The slots that a round turns. -/
def onceMask : List Bool := [false, false, false, false, false, false, false, false, true, false, false, false, false, true, true, true, true, true, true, true, true, true, true, true, true, true, true, true, true, true, true, true, true, true, false, false, false, false, false, false, false, false, false, false, false, false, false, false, false, false, false, false, false, false, false, false, false, false, false, false, false, false, false, false, false, false, false, false, false, false, false, false, false, false, false, false, false, false, false, false, false, false, false, false, false, false, false, false, false, false, false, false, false, false, false, false, false, false, false, false, false, false, false, false, false, false, false, false, false, false, false, false, false, false, false, false, false, false, false, false, false, false, false, false, false, false, false, false, false, false, false, false, false, false, false, true, true, true, true, true, true, true, true, true, true, true, true, true, true, true, true, true, true, true, true, true, true, true, true, true, true, true, true, true, true, true, true, true, true, true, true, true, true, true, true, true, true, true, true, true, true, true, true, true, true, true, true, true, true, true, true, true, true, true, true, true, true, true, true, true, true, true, true, true, true, true, true, true, true, true, true, true, true, true, true, true, true, true, true, true, true, true, true, true, true, true, true, true, true, true, true, true, true, true, true, true, true, true, true, true, true, true, true, true, true, true, true, true, true, true, true, true, true, true, true, true, true, true, true, true, true, true, true, true, true, true, true, true, true, true, true, true, true, true, true, true, true, true, true, true, true, true, true, true, true, true, true, true, true, true, true, true, true, true, true, true, true, true, true, true, true, true, true, true, true, true, true, true, true, true, true, true, true, true, true, true, true, true, true, true, true, true, true, true, true, true, true, true, true, true, true, true, true, true, true, true, true, true, true, true, true, true, true, true, true, true, true, true, true, true, true, true, true, true, true, true, true, true, true, true, true, true, true, true, true, true, true, true, true, true, true, true, true, true, true, true, true, true, true, true, true, true, true, true, true, true, true, false]
theorem HLs.lat {w : World} {a : Option Addr} {n c : Nat} {l : List La} (h : HLs w (.slice a n c) l) {i : Nat} (hi : i < n) : ∃ b off, a = some ⟨b, off, none⟩ ∧ w.cell? ⟨b, off + i * 3, none⟩ = some (.int .i64 (l.getD i zLa).f) ∧ w.cell? ⟨b, off + i * 3 + 1, none⟩ = some (.int .i64 (l.getD i zLa).d) ∧ w.cell? ⟨b, off + i * 3 + 2, none⟩ = some (.int .i64 (l.getD i zLa).g) := by
  obtain ⟨a', c', e, _, _, h3⟩ := h
  simp only [Value.slice.injEq] at e
  obtain ⟨rfl, rfl, rfl⟩ := e
  obtain ⟨b, off, rfl, hc⟩ := h3 (by omega)
  exact ⟨b, off, rfl, hc i hi⟩
theorem HInts.num {w : World} {a : Option Addr} {n c : Nat} {l : List Int} (h : HInts w (.slice a n c) l) {i : Nat} (hi : i < n) : ∃ b off, a = some ⟨b, off, none⟩ ∧ w.cell? ⟨b, off + i, none⟩ = some (.int .i64 (l.getD i 0)) := by
  obtain ⟨a', c', e, _, _, h3⟩ := h
  simp only [Value.slice.injEq] at e
  obtain ⟨rfl, rfl, rfl⟩ := e
  obtain ⟨b, off, rfl, hc⟩ := h3 (by omega)
  exact ⟨b, off, rfl, hc i hi⟩
theorem once_rise (l : List Int) : (setOf l).Pairwise (· < ·) := setOf_rises l
def LatOk (x : La) : Prop := CallOk x.f x.d ∧ 1 ≤ x.g ∧ x.g ≤ 2147483647
theorem all_at {α : Type} {l : List α} {z : α} {P : α → Prop} (h : ∀ j, j < l.length → P (l.getD j z)) : ∀ x ∈ l, P x := by
  intro x hx
  obtain ⟨j, hj, rfl⟩ := List.mem_iff_getElem.1 hx
  have := h j hj
  rwa [List.getD_eq_getElem?_getD, List.getElem?_eq_getElem hj] at this
/-- The rounds' ring, in its box. -/
structure OIn (V w : World) (g : Nat) (L : List La) (ms : List Int) (R : Rg) (vm ve : Value) : Prop where
  box : w.heap[g]? = some (.cells #[.int .i64 R.co, .int .i64 R.fo, .int .i64 R.ho, vm, ve] 27 (0, 0))
  hm : HInts w vm R.ms
  he : HE w ve R.es
  once : OnceR L ms R
  f : Fr V w []
/-- A ring in its box. -/
def SOa (V : World) (g : Nat) (v0 v1 v2 v3 v4 : Value) (a : World) : Prop := Fr V a [] ∧ C5 g v0 v1 v2 v3 v4 a
/-- A ring in its box, one of its members. -/
def SOb (V : World) (g : Nat) (v0 v1 v2 v3 v4 : Value) (b o : Nat) (x : Int) (a : World) : Prop := Fr V a [] ∧ C5 g v0 v1 v2 v3 v4 a ∧ a.cell? ⟨b, o, none⟩ = some (.int .i64 x)
/-- The ring that is bid on, in its box; the calls that are wanted. -/
structure JIn (V w : World) (g : Nat) (c : Int) (L : List La) (ms : List Int) (N0 : Rg) (lw : List (Int × Int)) (k : Nat) (R : Rg) (vm ve vw : Value) : Prop where
  box : w.heap[g]? = some (.cells #[.int .i64 R.co, .int .i64 R.fo, .int .i64 R.ho, vm, ve] 27 (0, 0))
  hm : HInts w vm R.ms
  he : HE w ve R.es
  once : OnceR L ms R
  kept : Kept N0 R
  wants : wantsR R c = lw.drop k
  hw : HCl w vw lw
  f : Fr V w []
theorem Alone.two {w w' : World} {r : Rg} {vm ve : Value} {S : List Nat} (h : Alone w (rgV r vm ve) r) (hs : ∀ p ∈ S, ∃ cs, w.heap[p]? = some (.cells cs 27 (0, 0))) (hf : Fr w w' S) : HInts w' vm r.ms ∧ HE w' ve r.es := by
  obtain ⟨a, b, e, h1, h2⟩ := h w' S hs hf
  simp only [rgV, Value.agg.injEq, Array.mk.injEq, List.cons.injEq, true_and, and_true] at e
  obtain ⟨rfl, rfl⟩ := e
  exact ⟨h1, h2⟩
/-- The ring that a call answered, in its box; it stands when box g is written. -/
structure KIn (V w : World) (gy g : Nat) (R : Rg) (vm ve : Value) : Prop where
  box : w.heap[gy]? = some (.cells #[.int .i64 R.co, .int .i64 R.fo, .int .i64 R.ho, vm, ve] 27 (0, 0))
  al : ∀ w', Fr w w' [g] → HInts w' vm R.ms ∧ HE w' ve R.es
  f : Fr V w []
theorem KIn.of {V a w : World} {gy g : Nat} {R : Rg} {vm ve : Value} {S : List Nat} (box : w.heap[gy]? = some (.cells #[.int .i64 R.co, .int .i64 R.fo, .int .i64 R.ho, vm, ve] 27 (0, 0))) (h : Alone a (rgV R vm ve) R) (hs : ∀ p ∈ g :: S, ∃ cs, a.heap[p]? = some (.cells cs 27 (0, 0))) (hF : Fr a w S) (hV : Fr V w []) : KIn V w gy g R vm ve :=
  ⟨box, fun _ hf => h.two hs ((hF.mono (fun _ hx => .inl (List.mem_cons_of_mem _ hx))).trans (hf.mono (fun x hx => .inl (by rw [List.mem_singleton.1 hx]; exact List.mem_cons_self)))), hV⟩
/-- A ring in its box, a call. -/
def SWd (V : World) (g : Nat) (v0 v1 v2 v3 v4 : Value) (q p : Nat) (f d : Int) (a : World) : Prop := Fr V a [] ∧ C5 g v0 v1 v2 v3 v4 a ∧ a.cell? ⟨q, p, none⟩ = some (.int .i64 f) ∧ a.cell? ⟨q, p + 1, none⟩ = some (.int .i64 d)
theorem SWd.fr {V : World} {g : Nat} {v0 v1 v2 v3 v4 : Value} {q p : Nat} {f d : Int} {a a' : World} (h : SWd V g v0 v1 v2 v3 v4 q p f d a) (k : Fr a a' []) : SWd V g v0 v1 v2 v3 v4 q p f d a' := ⟨h.1.trans k, h.2.1.fr k (by simp), k.cell h.2.2.1 (by simp), k.cell h.2.2.2 (by simp)⟩
/-- A ring in its box, an entry. -/
def SWe (V : World) (g : Nat) (v0 v1 v2 v3 v4 : Value) (b o : Nat) (e : En) (vb : Value) (a : World) : Prop := Fr V a [] ∧ C5 g v0 v1 v2 v3 v4 a ∧ EnAt b o e vb a
/-- A bid in a box, an entry. -/
def SBo (V : World) (g : Nat) (o1 o2 : Int) (b o : Nat) (e : En) (vb : Value) (a : World) : Prop := Fr V a [] ∧ a.cell? ⟨g, 0, none⟩ = some (.int .i64 o1) ∧ a.cell? ⟨g, 1, none⟩ = some (.int .i64 o2) ∧ EnAt b o e vb a
/-- Two bids in boxes, an entry. -/
def SBt (V : World) (g : Nat) (o1 o2 : Int) (h : Nat) (p1 p2 : Int) (b o : Nat) (e : En) (vb : Value) (a : World) : Prop := Fr V a [] ∧ (a.cell? ⟨g, 0, none⟩ = some (.int .i64 o1) ∧ a.cell? ⟨g, 1, none⟩ = some (.int .i64 o2)) ∧ (a.cell? ⟨h, 0, none⟩ = some (.int .i64 p1) ∧ a.cell? ⟨h, 1, none⟩ = some (.int .i64 p2)) ∧ EnAt b o e vb a
/-- Two rings in their boxes, an entry of each. -/
def SEe (V : World) (g : Nat) (v0 v1 v2 v3 v4 : Value) (h : Nat) (t0 t1 t2 t3 t4 : Value) (b o : Nat) (e : En) (vb : Value) (q p : Nat) (vq : Value) (a : World) : Prop := Fr V a [] ∧ C5 g v0 v1 v2 v3 v4 a ∧ C5 h t0 t1 t2 t3 t4 a ∧ EnAt b o e vb a ∧ EnAt q p e vq a
set_option maxHeartbeats 40000000 in
set_option maxRecDepth 100000 in
theorem lonce_true (v0 : Value) (l0 : List Int) (v1 : Value) (L : List La) (v2 : Value) (ts : List Int) (a3 : Int) (w : World) (h0 : HInts w v0 l0) (h1 : HLs w v1 L) (h2 : HInts w v2 ts) (ht : ∀ x ∈ ts, -9223372036854775808 ≤ x ∧ x ≤ 9223372036854775807) (ha : -9223372036854775808 ≤ a3 ∧ a3 ≤ 9223372036854775807) :
    Calls Try.prog 4 #[v0, v1, v2, .int .i64 a3] w fun e w' => e = .returned (.bool true) ∧ Fr w w' [] := by
  have HTS := Lib.hid ht
  clear ht
  have H0 := Lib.hid h0
  have H1 := Lib.hid h1
  have H2 := Lib.hid h2
  obtain ⟨p0, c0, rfl, _, q0, _⟩ := h0
  obtain ⟨p1, c1, rfl, _, q1, _⟩ := h1
  obtain ⟨p2, c2, rfl, _, q2, _⟩ := h2
  obtain ⟨n0, hn0⟩ : ∃ n, n = l0.length := ⟨_, rfl⟩
  obtain ⟨n1, hn1⟩ : ∃ n, n = L.length := ⟨_, rfl⟩
  obtain ⟨n2, hn2⟩ : ∃ n, n = ts.length := ⟨_, rfl⟩
  have HN0 := Lib.hid hn0
  have HN1 := Lib.hid hn1
  have HN2 := Lib.hid hn2
  rw [← hn0] at H0 ⊢
  rw [← hn1] at H1 ⊢
  rw [← hn2] at H2 ⊢
  clear hn0 hn1 hn2 q0 q1 q2
  have FI := Lib.hid (lfirst_any lg_is w)
  go_enter Try.func4, Try.ntmps4
  go_wp2_with fail
  with_reducible refine (FI.out).mono ?_
  rintro e W ⟨rfl, hf1⟩
  have HF := Lib.hid hf1
  clear hf1 FI
  by_cases z0 : n0 = 0
  · have d0 : ((n0 : Int) == 0) = true := by simp [z0]
    go_wp2
    go_ret
    exact ⟨rfl, HF.out⟩
  have d0 : ((n0 : Int) == 0) = false := by simp [z0]
  by_cases z1 : 8 < n0
  · have d1 : decide ((8 : Int) < (n0 : Int)) = true := decide_eq_true (by omega)
    go_wp2
    go_ret
    exact ⟨rfl, HF.out⟩
  have d1 : decide ((8 : Int) < (n0 : Int)) = false := decide_eq_false (by omega)
  by_cases z2 : 12 < n1
  · have d2 : decide ((12 : Int) < (n1 : Int)) = true := decide_eq_true (by omega)
    go_wp2
    go_ret
    exact ⟨rfl, HF.out⟩
  have d2 : decide ((12 : Int) < (n1 : Int)) = false := decide_eq_false (by omega)
  by_cases z3 : 60 < n2
  · have d3 : decide ((60 : Int) < (n2 : Int)) = true := decide_eq_true (by omega)
    go_wp2
    go_ret
    exact ⟨rfl, HF.out⟩
  have d3 : decide ((60 : Int) < (n2 : Int)) = false := decide_eq_false (by omega)
  go_wp2_with fail
  go_loop [10] (fun s10 => ∃ i : Nat, i ≤ n0 ∧ s10 = .int .i64 i ∧ Hid (∀ j, j < i → 0 ≤ l0.getD j 0 ∧ l0.getD j 0 ≤ 15)) (fun s10 => n0 - (intOf s10).toNat)
  case atStart => exact ⟨0, Nat.zero_le _, rfl, Lib.hid (fun j hj => absurd hj (Nat.not_lt_zero _))⟩
  case round =>
    obtain ⟨i, hi, rfl, HA⟩ := hrel
    by_cases hlt : i < n0
    · have dl : decide ((i : Int) < (n0 : Int)) = true := decide_eq_true (by omega)
      obtain ⟨b, off, rfl, hc⟩ := H0.out.num hlt
      have hc2 := HF.out.cell hc (by simp)
      obtain ⟨x, hx⟩ : ∃ x, x = l0.getD i 0 := ⟨_, rfl⟩
      rw [← hx] at hc2
      have HX := Lib.hid hx
      clear hc hx
      by_cases x0 : x < 0
      · have e0 : decide (x < (0 : Int)) = true := decide_eq_true x0
        go_wp2
        go_ret
        exact ⟨rfl, HF.out⟩
      · have e0 : decide (x < (0 : Int)) = false := decide_eq_false x0
        by_cases x1 : 15 < x
        · have e1 : decide ((15 : Int) < x) = true := decide_eq_true x1
          go_wp2
          go_ret
          exact ⟨rfl, HF.out⟩
        · have e1 : decide ((15 : Int) < x) = false := decide_eq_false x1
          have HA2 : Hid (∀ j, j < i + 1 → 0 ≤ l0.getD j 0 ∧ l0.getD j 0 ≤ 15) := Lib.hid (fun j hj => by
            by_cases q : j < i
            · exact HA.out j q
            · obtain rfl : j = i := by omega
              rw [← HX.out]; omega)
          clear HA
          go_wp2
          go_round
          case rel => exact ⟨i + 1, by omega, by go_num, HA2⟩
          case measure => simp [intOf]; omega
    · have dl : decide ((i : Int) < (n0 : Int)) = false := decide_eq_false (by omega)
      obtain rfl : i = n0 := by omega
      have HMC : Hid (∀ m ∈ l0, Car m) := Lib.hid (all_at (z := 0) (P := Car) (fun j hj => by have := HA.out j (by rw [HN0.out]; exact hj); unfold Car; omega))
      clear HA
      go_wp2_with fail
      go_loop [11] (fun s11 => ∃ j : Nat, j ≤ n1 ∧ s11 = .int .i64 j ∧ Hid (∀ q, q < j → LatOk (L.getD q zLa))) (fun s11 => n1 - (intOf s11).toNat)
      case atStart => exact ⟨0, Nat.zero_le _, rfl, Lib.hid (fun j hj => absurd hj (Nat.not_lt_zero _))⟩
      case round =>
        obtain ⟨j, hj, rfl, HA⟩ := hrel
        by_cases hlt2 : j < n1
        · have dl2 : decide ((j : Int) < (n1 : Int)) = true := decide_eq_true (by omega)
          obtain ⟨b, off, rfl, t0, t1, t2⟩ := H1.out.lat hlt2
          have u0 := HF.out.cell t0 (by simp)
          have u1 := HF.out.cell t1 (by simp)
          have u2 := HF.out.cell t2 (by simp)
          obtain ⟨f, hf⟩ : ∃ x, x = (L.getD j zLa).f := ⟨_, rfl⟩
          obtain ⟨d, hd⟩ : ∃ x, x = (L.getD j zLa).d := ⟨_, rfl⟩
          obtain ⟨g, hg⟩ : ∃ x, x = (L.getD j zLa).g := ⟨_, rfl⟩
          rw [← hf] at u0
          rw [← hd] at u1
          rw [← hg] at u2
          have HX := Lib.hid (And.intro hf (And.intro hd hg))
          clear t0 t1 t2 hf hd hg
          by_cases ok : LatOk ⟨f, d, g⟩
          · have HA2 : Hid (∀ q, q < j + 1 → LatOk (L.getD q zLa)) := Lib.hid (fun q hq => by
              by_cases p : q < j
              · exact HA.out q p
              · obtain rfl : q = j := by omega
                obtain ⟨p1, p2, p3⟩ := HX.out
                unfold LatOk at ok ⊢
                rw [← p1, ← p2, ← p3]; exact ok)
            unfold LatOk CallOk at ok
            dsimp only at ok
            have e0 : decide (g < (1 : Int)) = false := decide_eq_false (by omega)
            have e1 : decide ((2147483647 : Int) < g) = false := decide_eq_false (by omega)
            have e2 : decide (f < (0 : Int)) = false := decide_eq_false (by omega)
            have e3 : decide ((63 : Int) < f) = false := decide_eq_false (by omega)
            clear HA
            obtain ⟨⟨_, hd1⟩, _⟩ := ok
            rcases hd1 with rfl | rfl
            · go_wp2
              go_round
              case rel => exact ⟨j + 1, by omega, by go_num, HA2⟩
              case measure => simp [intOf]; omega
            · go_wp2
              go_round
              case rel => exact ⟨j + 1, by omega, by go_num, HA2⟩
              case measure => simp [intOf]; omega
          · unfold LatOk CallOk at ok
            dsimp only at ok
            by_cases y0 : g < 1
            · have e0 : decide (g < (1 : Int)) = true := decide_eq_true y0
              go_wp2
              go_ret
              exact ⟨rfl, HF.out⟩
            have e0 : decide (g < (1 : Int)) = false := decide_eq_false y0
            by_cases y1 : 2147483647 < g
            · have e1 : decide ((2147483647 : Int) < g) = true := decide_eq_true y1
              go_wp2
              go_ret
              exact ⟨rfl, HF.out⟩
            have e1 : decide ((2147483647 : Int) < g) = false := decide_eq_false y1
            by_cases y2 : f < 0
            · have e2 : decide (f < (0 : Int)) = true := decide_eq_true y2
              go_wp2
              go_ret
              exact ⟨rfl, HF.out⟩
            have e2 : decide (f < (0 : Int)) = false := decide_eq_false y2
            by_cases y3 : 63 < f
            · have e3 : decide ((63 : Int) < f) = true := decide_eq_true y3
              go_wp2
              go_ret
              exact ⟨rfl, HF.out⟩
            have e3 : decide ((63 : Int) < f) = false := decide_eq_false y3
            have e4 : (d != (1 : Int)) = true := by simp; omega
            have e5 : (d != (-1 : Int)) = true := by simp; omega
            go_wp2
            go_ret
            exact ⟨rfl, HF.out⟩
        · have dl2 : decide ((j : Int) < (n1 : Int)) = false := decide_eq_false (by omega)
          obtain rfl : j = n1 := by omega
          have HLO : Hid (∀ x ∈ L, LatOk x) := Lib.hid (all_at (z := zLa) (P := LatOk) (fun q hq => HA.out q (by rw [HN1.out]; exact hq)))
          clear HA dl dl2 d0 d1 d2 d3
          have NW := Lib.hid (lg_is.new 3 1 _ l0 W (H0.out.keep HF.out) (by have := HN0.out; omega))
          unfold newR at NW
          have HQ0 := Int.emod_nonneg a3 (show (12 : Int) ≠ 0 by omega)
          have HQ1 := Int.emod_lt_of_pos a3 (show (0 : Int) < 12 by omega)
          obtain ⟨qn, hqn⟩ := Int.eq_ofNat_of_zero_le HQ0
          have NU := Lib.hid (fun W => numberTo_any a3 12 W (by omega) (by omega) ha.1 ha.2)
          rw [hqn] at NU HQ1
          clear hqn HQ0 ha
          obtain ⟨ms, hms⟩ : ∃ ms, ms = setOf l0 := ⟨_, rfl⟩
          obtain ⟨m, hm⟩ : ∃ m, m = ms.length := ⟨_, rfl⟩
          have HMS := Lib.hid (show (∀ x ∈ ms, Car x) ∧ ms.Pairwise (· < ·) ∧ 0 < m ∧ m ≤ 8 by
            refine ⟨fun x hx => HMC.out x (by rw [hms] at hx; exact mem_setOf.1 hx), ?_, ?_, ?_⟩
            · rw [hms]; exact once_rise l0
            · rw [hm, hms]
              obtain ⟨x, hx⟩ := List.exists_mem_of_length_pos (l := l0) (by have := HN0.out; omega)
              exact List.length_pos_of_mem (mem_setOf.2 hx)
            · rw [hm, hms]; have := setOf_length l0; have := HN0.out; omega)
          have HM := Lib.hid hm
          have HOR := Lib.hid (once_new L 3 1 l0)
          rw [← hms] at NW HOR
          unfold newR at HOR
          rw [← hms] at HOR
          clear hm hms
          go_wp2_with fail
          with_reducible refine (NW.out).mono ?_
          rintro e w1 ⟨u, rfl, ⟨um, ue, rfl, hum, hue⟩, hf⟩
          have HU1 := Lib.hid hum
          have HU2 := Lib.hid hue
          dsimp only at HU1 HU2
          obtain ⟨a4, c4, rfl, _⟩ := hum
          obtain ⟨a5, c5, rfl, _⟩ := hue
          unfold rgV
          dsimp only [List.length_nil]
          rw [← HM.out] at HU1 ⊢
          have HF1 := Lib.hid (HF.out.trans hf)
          clear hf NW
          have HBX := Lib.hid (box_ring w1 (.int .i64 3) (.int .i64 1) (.int .i64 0) (.slice a4 m c4) (.slice a5 0 c5))
          obtain ⟨g, hg⟩ : ∃ g, g = w1.heap.size := ⟨_, rfl⟩
          have HG := Lib.hid hg
          rw [← hg] at HBX
          go_upto_region 17 with fail
          rw [← hg]
          generalize World.alloc w1 _ = W2 at HBX ⊢
          clear hg
          have HO0 : Hid (OIn w1 W2 g L ms ⟨3, 1, 0, ms, []⟩ (.slice a4 m c4) (.slice a5 0 c5)) := Lib.hid ⟨HBX.out.1, HU1.out.keep HBX.out.2, HU2.out.keep HBX.out.2, HOR.out, HBX.out.2⟩
          have HQM : Hid (qn * m ≤ 88) := Lib.hid (by have := Nat.mul_le_mul (show qn ≤ 11 by omega) HMS.out.2.2.2; omega)
          clear HBX HU1 HU2 HOR
          go_wp2_with fail
          refine loopU onceMask (fun U wx => ∃ (i at' : Nat) (R : Rg) (um ue : Value), i ≤ qn * m ∧ at' ≤ n2 ∧ U 14 = .int .i64 i ∧ U 13 = .int .i64 at' ∧ Hid (R.ho = (i : Int)) ∧ Hid (OIn w1 wx g L ms R um ue)) (fun U => qn * m - (intOf (U 14)).toNat) ?atStart (by kernel_rfl) ?round
          case atStart => exact ⟨0, 0, _, _, _, Nat.zero_le _, Nat.zero_le _, rfl, rfl, Lib.hid rfl, HO0⟩
          case round =>
            intro U wr hrel
            obtain ⟨i, at', R, um, ue, hi, hat, h14, h13, HHO, HO⟩ := hrel
            unfold onceMask
            dsimp only [mixU]
            rw [h14, h13]
            clear h14 h13
            obtain ⟨N, hN⟩ : ∃ N, N = qn * m := ⟨_, rfl⟩
            rw [← hN] at HQM hi ⊢
            have hN88 := HQM.out
            have ew : IntKind.i64.wrap ((qn : Int) * (m : Int)) = (N : Int) := by rw [hN]; push_cast; exact IntWalk.i64_in _ (by have : ((qn * m : Nat) : Int) = (qn : Int) * (m : Int) := Int.natCast_mul qn m; omega)
            obtain ⟨pa, pc, hum, _⟩ := HO.out.hm
            obtain ⟨pb, pd, hue, _⟩ := HO.out.he
            rw [HO.out.once.mem, ← HM.out] at hum
            subst hum
            have HSB : Hid (∀ V', Fr wr V' [] → SOa wr g (.int .i64 R.co) (.int .i64 R.fo) (.int .i64 R.ho) (.slice pa m pc) ue V') :=
              Lib.hid (fun V' hV => ⟨hV, (show C5 _ _ _ _ _ _ wr from row5 HO.out.box).fr hV (by simp)⟩)
            clear hN
            go_upto_region 19 with fail
            refine wp_region_noPanic ?_
            refine wp_region_held_drew (S := (SOa wr g (.int .i64 R.co) (.int .i64 R.fo) (.int .i64 R.ho) (.slice pa m pc) ue)) (by as_aux_lemma => kernel_rfl) (HSB.out _ (Fr.drew wr [])) (fun hHeld => ?_)
            refine wpAnyH_take (i := 0) (v := ?fv0h1n2) (by as_aux_lemma => (simp only [List.getElem?_toArray, List.getElem?_cons_zero]; rfl)) (by as_aux_lemma => kernel_rfl) (by as_aux_lemma => kernel_rfl) (by as_aux_lemma => kernel_rfl) (fun _ _ _ h => h) (Or.inl ⟨by rfl, ?fy0h1n2⟩) (by assumption) ?fr0h1n2
            case fy0h1n2 => (intro w hSw; (try dsimp only [SOa, C5] at hSw); go_simp; try with_reducible rfl)
            try simp only [Act.put, List.setIfInBounds_toArray, List.set_cons_zero, List.set_cons_succ]
            refine wpAnyH_take (i := 1) (v := ?fv1h1n2) (by as_aux_lemma => (simp only [List.getElem?_toArray, List.getElem?_cons_zero, List.getElem?_cons_succ]; rfl)) (by as_aux_lemma => kernel_rfl) (by as_aux_lemma => kernel_rfl) (by as_aux_lemma => kernel_rfl) (fun _ _ _ h => h) (Or.inl ⟨by rfl, ?fy1h1n2⟩) (by assumption) ?fr1h1n2
            case fy1h1n2 => (intro w hSw; (try dsimp only [SOa, C5] at hSw); go_simp; try with_reducible rfl)
            try simp only [Act.put, List.setIfInBounds_toArray, List.set_cons_zero, List.set_cons_succ]
            refine wpAnyH_take (i := 3) (v := ?fv3h1n2) (by as_aux_lemma => (simp only [List.getElem?_toArray, List.getElem?_cons_zero, List.getElem?_cons_succ]; rfl)) (by as_aux_lemma => kernel_rfl) (by as_aux_lemma => kernel_rfl) (by as_aux_lemma => kernel_rfl) (fun _ _ _ h => h) (Or.inl ⟨by rfl, ?fy3h1n2⟩) (by assumption) ?fr3h1n2
            case fy3h1n2 => (intro w hSw; (try dsimp only [SOa, C5] at hSw); go_simp; try with_reducible rfl)
            try simp only [Act.put, List.setIfInBounds_toArray, List.set_cons_zero, List.set_cons_succ]
            refine wpAnyH_take (i := 4) (v := ?fv4h1n2) (by as_aux_lemma => (simp only [List.getElem?_toArray, List.getElem?_cons_zero, List.getElem?_cons_succ]; rfl)) (by as_aux_lemma => kernel_rfl) (by as_aux_lemma => kernel_rfl) (by as_aux_lemma => kernel_rfl) (fun _ _ _ h => h) (Or.inl ⟨by rfl, ?fy4h1n2⟩) (by assumption) ?fr4h1n2
            case fy4h1n2 => (intro w hSw; (try dsimp only [SOa, C5] at hSw); go_simp; try with_reducible rfl)
            try simp only [Act.put, List.setIfInBounds_toArray, List.set_cons_zero, List.set_cons_succ]
            refine wpAnyH_take (i := 5) (v := ?fv5h1n2) (by as_aux_lemma => (simp only [List.getElem?_toArray, List.getElem?_cons_zero, List.getElem?_cons_succ]; rfl)) (by as_aux_lemma => kernel_rfl) (by as_aux_lemma => kernel_rfl) (by as_aux_lemma => kernel_rfl) (fun _ _ _ h => h) (Or.inl ⟨by rfl, ?fy5h1n2⟩) (by assumption) ?fr5h1n2
            case fy5h1n2 => (intro w hSw; (try dsimp only [SOa, C5] at hSw); go_simp; try with_reducible rfl)
            try simp only [Act.put, List.setIfInBounds_toArray, List.set_cons_zero, List.set_cons_succ]
            refine wpAnyH_ready (rs := [2]) (by as_aux_lemma => kernel_rfl) (by simp) ?_
            refine AllReadyH.cons (o := _) rfl (fun K hK => ?_) AllReadyH.nil
            go_simp
            ((with_reducible refine (NU.out _).mono ?_); rintro e w2 ⟨rfl, rfl⟩; have hS := HSB.out _ (Fr.drew wr []))
            go_wp2_with fail
            refine hK.out _ _ hS (fun hHeld => ?_)
            clear hK K
            try simp only [Act.put, List.setIfInBounds_toArray, List.set_cons_zero, List.set_cons_succ]
            refine wpAnyH_take (i := 6) (v := ?fv6h1n3) (by as_aux_lemma => (simp only [List.getElem?_toArray, List.getElem?_cons_zero, List.getElem?_cons_succ]; rfl)) (by as_aux_lemma => kernel_rfl) (by as_aux_lemma => kernel_rfl) (by as_aux_lemma => kernel_rfl) (fun _ _ _ h => h) (Or.inl ⟨by rfl, ?fy6h1n3⟩) (by assumption) ?fr6h1n3
            case fy6h1n3 => (intro w hSw; (try dsimp only [SOa, C5] at hSw); go_simp; try with_reducible rfl)
            try simp only [Act.put, List.setIfInBounds_toArray, List.set_cons_zero, List.set_cons_succ]
            refine wpAnyH_take (i := 7) (v := ?fv7h1n3) (by as_aux_lemma => (simp only [List.getElem?_toArray, List.getElem?_cons_zero, List.getElem?_cons_succ]; rfl)) (by as_aux_lemma => kernel_rfl) (by as_aux_lemma => kernel_rfl) (by as_aux_lemma => kernel_rfl) (fun _ _ _ h => h) (Or.inl ⟨by rfl, ?fy7h1n3⟩) (by assumption) ?fr7h1n3
            case fy7h1n3 => (intro w hSw; (try dsimp only [SOa, C5] at hSw); go_simp; try with_reducible rfl)
            try simp only [Act.put, List.setIfInBounds_toArray, List.set_cons_zero, List.set_cons_succ]
            refine wpAnyH_done (by as_aux_lemma => kernel_rfl) ?_ _
            refine NoPanic.normal ?_
            clear hHeld hS
            have HFR := Lib.hid (Fr.drew wr [])
            generalize World.drew wr = WR at HFR ⊢
            by_cases hlt : i < N
            · have dl : decide ((i : Int) < (N : Int)) = true := decide_eq_true (by omega)
              have hm0 := HMS.out.2.2.1
              obtain ⟨j, hj⟩ : ∃ j, j = i % m := ⟨_, rfl⟩
              have hjm : j < m := by rw [hj]; exact Nat.mod_lt _ hm0
              have er : (i : Int) % (m : Int) = (j : Int) := by rw [hj]; push_cast; rfl
              have et : (i : Int).tmod (m : Int) = (j : Int) := by rw [hj]; exact Int.ofNat_tmod i m
              have hme : ((m : Int) == 0) = false := by simp; omega
              have hmn : ¬ (m : Int) = 0 := by omega
              have hmz : (m = 0) = False := by simp; omega
              have hji : (0 : Int) ≤ (j : Int) ∧ (j : Int) < (m : Int) := by omega
              have HRM := Lib.hid HO.out.once.mem
              have HUM := Lib.hid HO.out.hm
              rw [HRM.out] at HUM
              rw [show (Value.slice pa m pc) = Value.slice pa m pc from rfl] at HUM
              obtain ⟨bm, om, rfl, hcm⟩ := HUM.out.num hjm
              obtain ⟨c, hc⟩ : ∃ c, c = ms.getD j 0 := ⟨_, rfl⟩
              rw [← hc] at hcm
              have HCM : Hid (c ∈ ms) := by rw [hc]; exact Lib.hid (getD_mem (by rw [← HM.out]; exact hjm) 0)
              have HSC : Hid (∀ V', Fr WR V' [] → SOb WR g (.int .i64 R.co) (.int .i64 R.fo) (.int .i64 R.ho) (.slice (some ⟨bm, om, none⟩) m pc) ue bm (om + j) c V') :=
                Lib.hid (fun V' hV => ⟨hV, (HSB.out V' (HFR.out.trans hV)).2, (HFR.out.trans hV).cell hcm (by simp)⟩)
              clear hj hc hcm HSB
              go_upto_region 21 with fail
              refine wp_region_noPanic ?_
              refine wp_region_held_drew (S := (SOb WR g (.int .i64 R.co) (.int .i64 R.fo) (.int .i64 R.ho) (.slice (some ⟨bm, om, none⟩) m pc) ue bm (om + j) c)) (by as_aux_lemma => kernel_rfl) (HSC.out _ (Fr.drew WR [])) (fun hHeld => ?_)
              refine wpAnyH_take (i := 0) (v := ?fv0h4n5) (by as_aux_lemma => (simp only [List.getElem?_toArray, List.getElem?_cons_zero]; rfl)) (by as_aux_lemma => kernel_rfl) (by as_aux_lemma => kernel_rfl) (by as_aux_lemma => kernel_rfl) (fun _ _ _ h => h) (Or.inl ⟨by rfl, ?fy0h4n5⟩) (by assumption) ?fr0h4n5
              case fy0h4n5 => (intro w hSw; (try dsimp only [SOb, C5] at hSw); go_simp; try with_reducible rfl)
              try simp only [Act.put, List.setIfInBounds_toArray, List.set_cons_zero, List.set_cons_succ]
              refine wpAnyH_take (i := 1) (v := ?fv1h4n5) (by as_aux_lemma => (simp only [List.getElem?_toArray, List.getElem?_cons_zero, List.getElem?_cons_succ]; rfl)) (by as_aux_lemma => kernel_rfl) (by as_aux_lemma => kernel_rfl) (by as_aux_lemma => kernel_rfl) (fun _ _ _ h => h) (Or.inl ⟨by rfl, ?fy1h4n5⟩) (by assumption) ?fr1h4n5
              case fy1h4n5 => (intro w hSw; (try dsimp only [SOb, C5] at hSw); go_simp; try with_reducible rfl)
              try simp only [Act.put, List.setIfInBounds_toArray, List.set_cons_zero, List.set_cons_succ]
              refine wpAnyH_take (i := 2) (v := ?fv2h4n5) (by as_aux_lemma => (simp only [List.getElem?_toArray, List.getElem?_cons_zero, List.getElem?_cons_succ]; rfl)) (by as_aux_lemma => kernel_rfl) (by as_aux_lemma => kernel_rfl) (by as_aux_lemma => kernel_rfl) (fun _ _ _ h => h) (Or.inl ⟨by rfl, ?fy2h4n5⟩) (by assumption) ?fr2h4n5
              case fy2h4n5 => (intro w hSw; (try dsimp only [SOb, C5] at hSw); go_simp; try with_reducible rfl)
              try simp only [Act.put, List.setIfInBounds_toArray, List.set_cons_zero, List.set_cons_succ]
              refine wpAnyH_take (i := 3) (v := ?fv3h4n5) (by as_aux_lemma => (simp only [List.getElem?_toArray, List.getElem?_cons_zero, List.getElem?_cons_succ]; rfl)) (by as_aux_lemma => kernel_rfl) (by as_aux_lemma => kernel_rfl) (by as_aux_lemma => kernel_rfl) (fun _ _ _ h => h) (Or.inl ⟨by rfl, ?fy3h4n5⟩) (by assumption) ?fr3h4n5
              case fy3h4n5 => (intro w hSw; (try dsimp only [SOb, C5] at hSw); go_simp; try with_reducible rfl)
              try simp only [Act.put, List.setIfInBounds_toArray, List.set_cons_zero, List.set_cons_succ]
              refine wpAnyH_take (i := 4) (v := ?fv4h4n5) (by as_aux_lemma => (simp only [List.getElem?_toArray, List.getElem?_cons_zero, List.getElem?_cons_succ]; rfl)) (by as_aux_lemma => kernel_rfl) (by as_aux_lemma => kernel_rfl) (by as_aux_lemma => kernel_rfl) (fun _ _ _ h => h) (Or.inl ⟨by rfl, ?fy4h4n5⟩) (by assumption) ?fr4h4n5
              case fy4h4n5 => (intro w hSw; (try dsimp only [SOb, C5] at hSw); go_simp; try with_reducible rfl)
              try simp only [Act.put, List.setIfInBounds_toArray, List.set_cons_zero, List.set_cons_succ]
              refine wpAnyH_take (i := 5) (v := ?fv5h4n5) (by as_aux_lemma => (simp only [List.getElem?_toArray, List.getElem?_cons_zero, List.getElem?_cons_succ]; rfl)) (by as_aux_lemma => kernel_rfl) (by as_aux_lemma => kernel_rfl) (by as_aux_lemma => kernel_rfl) (fun _ _ _ h => h) (Or.inl ⟨by rfl, ?fy5h4n5⟩) (by assumption) ?fr5h4n5
              case fy5h4n5 => (intro w hSw; (try dsimp only [SOb, C5] at hSw); go_simp; try with_reducible rfl)
              try simp only [Act.put, List.setIfInBounds_toArray, List.set_cons_zero, List.set_cons_succ]
              refine wpAnyH_take (i := 6) (v := ?fv6h4n5) (by as_aux_lemma => (simp only [List.getElem?_toArray, List.getElem?_cons_zero, List.getElem?_cons_succ]; rfl)) (by as_aux_lemma => kernel_rfl) (by as_aux_lemma => kernel_rfl) (by as_aux_lemma => kernel_rfl) (fun _ _ _ h => h) (Or.inl ⟨by rfl, ?fy6h4n5⟩) (by assumption) ?fr6h4n5
              case fy6h4n5 => (intro w hSw; (try dsimp only [SOb, C5] at hSw); go_simp; try with_reducible rfl)
              try simp only [Act.put, List.setIfInBounds_toArray, List.set_cons_zero, List.set_cons_succ]
              refine wpAnyH_take (i := 7) (v := ?fv7h4n5) (by as_aux_lemma => (simp only [List.getElem?_toArray, List.getElem?_cons_zero, List.getElem?_cons_succ]; rfl)) (by as_aux_lemma => kernel_rfl) (by as_aux_lemma => kernel_rfl) (by as_aux_lemma => kernel_rfl) (fun _ _ _ h => h) (Or.inl ⟨by rfl, ?fy7h4n5⟩) (by assumption) ?fr7h4n5
              case fy7h4n5 => (intro w hSw; (try dsimp only [SOb, C5] at hSw); go_simp; try with_reducible rfl)
              try simp only [Act.put, List.setIfInBounds_toArray, List.set_cons_zero, List.set_cons_succ]
              refine wpAnyH_take (i := 8) (v := ?fv8h4n5) (by as_aux_lemma => (simp only [List.getElem?_toArray, List.getElem?_cons_zero, List.getElem?_cons_succ]; rfl)) (by as_aux_lemma => kernel_rfl) (by as_aux_lemma => kernel_rfl) (by as_aux_lemma => kernel_rfl) (fun _ _ _ h => h) (Or.inl ⟨by rfl, ?fy8h4n5⟩) (by assumption) ?fr8h4n5
              case fy8h4n5 => (intro w hSw; (try dsimp only [SOb, C5] at hSw); go_simp; try with_reducible rfl)
              try simp only [Act.put, List.setIfInBounds_toArray, List.set_cons_zero, List.set_cons_succ]
              refine wpAnyH_take (i := 9) (v := ?fv9h4n5) (by as_aux_lemma => (simp only [List.getElem?_toArray, List.getElem?_cons_zero, List.getElem?_cons_succ]; rfl)) (by as_aux_lemma => kernel_rfl) (by as_aux_lemma => kernel_rfl) (by as_aux_lemma => kernel_rfl) (fun _ _ _ h => h) (Or.inl ⟨by rfl, ?fy9h4n5⟩) (by assumption) ?fr9h4n5
              case fy9h4n5 => (intro w hSw; (try dsimp only [SOb, C5] at hSw); go_simp; try with_reducible rfl)
              try simp only [Act.put, List.setIfInBounds_toArray, List.set_cons_zero, List.set_cons_succ]
              refine wpAnyH_done (by as_aux_lemma => kernel_rfl) ?_ _
              refine NoPanic.normal ?_
              clear hHeld HSC er et hme hmn hmz hji hjm hm0
              obtain ⟨WA, rfl⟩ : ∃ W, W = wr := ⟨_, rfl⟩
              have HFS := Lib.hid (HFR.out.trans (Fr.drew WR []))
              generalize World.drew WR = WS at HFS ⊢
              have HFW := Lib.hid ((HF1.out.trans HO.out.f).trans HFS.out)
              have HBS := Lib.hid (HFS.out.heap HO.out.box (by simp))
              have HLn := Lib.hid (OnceR.len HO.out.once)
              have HSM : Hid (Small R) := Lib.hid ⟨by rw [HO.out.once.mem, ← HM.out]; have := HMS.out; omega, by have := HLn.out; omega, fun e he => by have := HO.out.once.few HMS.out.1 e he; omega⟩
              have HL12 : Hid (L.length ≤ 200) := Lib.hid (by rw [← HN1.out]; omega)
              have HON := Lib.hid (once_next HO.out.once (fun x hx => (HLO.out x hx).1))
              have hpR : purgeR R L = R := by unfold purgeR; rw [purgeE_same HO.out.once.la]
              have PG := Lib.hid (lg_is.purge R _ ue _ L WS (HO.out.hm.keep HFS.out) (HO.out.he.keep HFS.out) HSM.out (H1.out.keep HFW.out) HL12.out)
              rw [hpR] at PG HON
              obtain ⟨Q, hQ⟩ : ∃ Q, Q = addR R L := ⟨_, rfl⟩
              have AD := Lib.hid (fun W a b (hW : Fr WS W []) (h1 : HInts W a R.ms) (h2 : HE W b R.es) => lg_is.add R a b _ L W h1 h2 HSM.out (H1.out.keep (HFW.out.trans hW)) HL12.out)
              rw [← hQ] at AD HON
              unfold rgV at PG AD
              have HUE := Lib.hid hue
              clear hpR hQ hue
              obtain ⟨y0, y1, y2, y3, y4⟩ := row5 HBS.out
              go_wp2_with fail
              with_reducible refine (PG.out).mono ?_
              rintro e wp ⟨u, rfl, ⟨um1, ue1, rfl, h1, h2⟩, hf⟩
              have AD1 := Lib.hid (AD.out wp um1 ue1 hf h1 h2)
              have HFP := Lib.hid (HFS.out.trans hf)
              unfold rgV
              clear hf h1 h2 PG AD y0 y1 y2 y3 y4
              go_wp2_with fail
              with_reducible refine (AD1.out).mono ?_
              rintro e wq ⟨u, rfl, ⟨um2, ue2, rfl, h3, h4⟩, hf⟩
              have HFQ := Lib.hid (HFP.out.trans hf)
              have HQO := Lib.hid HON.out.1
              have hmsQ : Q.ms.length = m := by rw [HON.out.1.mem]; exact HM.out.symm
              have HQM2 := Lib.hid h3
              have HQE2 := Lib.hid h4
              obtain ⟨a7, c7, e7, _⟩ := h3
              obtain ⟨a8, c8, e8, _⟩ := h4
              rw [hmsQ] at e7
              obtain ⟨n8, hn8⟩ : ∃ x, x = Q.es.length := ⟨_, rfl⟩
              rw [← hn8] at e8
              subst e7 e8
              unfold rgV
              clear hf AD1 hn8 hmsQ
              have HBX := Lib.hid (box_ring wq (.int .i64 Q.co) (.int .i64 Q.fo) (.int .i64 Q.ho) (.slice a7 m c7) (.slice a8 n8 c8))
              obtain ⟨g2, hg2⟩ : ∃ g2, g2 = wq.heap.size := ⟨_, rfl⟩
              have HG2 := Lib.hid hg2
              rw [← hg2] at HBX
              go_upto_region 23 with fail
              rw [← hg2]
              generalize World.alloc wq _ = W3 at HBX ⊢
              clear hg2
              have HF3 := Lib.hid (HFQ.out.trans HBX.out.2)
              have HQM3 := Lib.hid (HQM2.out.keep HBX.out.2)
              have HQE3 := Lib.hid (HQE2.out.keep HBX.out.2)
              have HQL := Lib.hid (OnceR.len HQO.out)
              have WN := Lib.hid (wants_al Q _ _ c W3 HQM3.out HQE3.out (by rw [HQO.out.mem, ← HM.out]; have := HMS.out; omega) (by have := HQL.out; omega) (fun e he => by have := HQO.out.few HMS.out.1 e he; omega))
              unfold rgV at WN
              obtain ⟨y0, y1, y2, y3, y4⟩ := row5 HBX.out.1
              go_wp2_with fail
              with_reducible refine (WN.out).mono ?_
              rintro e W4 ⟨u, rfl, hu, hf⟩
              have HCW := Lib.hid hu
              obtain ⟨aw, cw, rfl⟩ := hu.shape
              clear hu
              obtain ⟨lw, hlw⟩ : ∃ lw, lw = wantsR Q c := ⟨_, rfl⟩
              have HLW := Lib.hid hlw
              rw [← hlw] at HCW ⊢
              obtain ⟨nw, hnw⟩ : ∃ nw, nw = lw.length := ⟨_, rfl⟩
              have HNW := Lib.hid hnw
              rw [← hnw] at HCW ⊢
              have HNE : Hid ((Value.slice aw nw cw).ownBlock ≠ some g2) := Lib.hid (fun h => by
                have h1 := (HCW.out.block g2 h).1
                have h2 := (Array.getElem?_eq_some_iff.1 HBX.out.1).1
                omega)
              have HJ0 : Hid (JIn WA W4 g2 c L ms Q lw 0 Q (.slice a7 m c7) (.slice a8 n8 c8) (.slice aw nw cw)) :=
                Lib.hid ⟨hf.heap HBX.out.1 (by simp), HQM3.out.keep hf, HQE3.out.keep hf, HQO.out, Kept.refl _, by rw [List.drop_zero]; exact HLW.out.symm, HCW.out.holds, HF3.out.trans hf⟩
              have hnwn : nw ≤ 128 := by rw [HNW.out, HLW.out]; have := wants_le Q c; have := HQL.out; omega
              have HQHO : Hid (Q.ho = (i : Int)) := Lib.hid (HON.out.2.2.trans HHO.out)
              have HKQ := Lib.hid HON.out.2.1
              clear hf hlw hnw WN y0 y1 y2 y3 y4 HQM2 HQE2 HQM3 HQE3 HF3 HBX HON HCW HSM HBS HFP
              go_wp2_with fail
              go_loopw [13, 18] (fun s13 s18 wx => ∃ (k at2 : Nat) (R' : Rg) (xm xe : Value), k ≤ nw ∧ at2 ≤ n2 ∧ s18 = .int .i64 k ∧ s13 = .int .i64 at2 ∧ Hid (JIn WA wx g2 c L ms Q lw k R' xm xe (.slice aw nw cw))) (fun _ s18 _ => nw - (intOf s18).toNat)
              case atStart => exact ⟨0, at', Q, _, _, Nat.zero_le _, hat, rfl, rfl, HJ0⟩
              case round =>
                obtain ⟨k, at2, R', xm, xe, hk, hat2, rfl, rfl, HJ⟩ := hrel
                clear HJ0
                have hml' : R'.ms.length = m := by rw [HJ.out.once.mem]; exact HM.out.symm
                obtain ⟨ra, rc, hum, _⟩ := HJ.out.hm
                obtain ⟨rb, rd, hue2, _⟩ := HJ.out.he
                rw [hml'] at hum
                obtain ⟨l2, hl2⟩ : ∃ x, x = R'.es.length := ⟨_, rfl⟩
                have HL2 := Lib.hid hl2
                rw [← hl2] at hue2
                subst hum hue2
                have HRL := Lib.hid (OnceR.len HJ.out.once)
                have HSR : Hid (R'.ms.length ≤ 100 ∧ R'.es.length ≤ 200 ∧ ∀ e ∈ R'.es, e.bs.length ≤ 100) := Lib.hid ⟨by rw [hml']; have := HMS.out; omega, by have := HRL.out; omega, fun e he => by have := HJ.out.once.few HMS.out.1 e he; omega⟩
                clear hml' hl2
                by_cases hlt2 : k < nw
                · have dl2 : decide ((k : Int) < (nw : Int)) = true := decide_eq_true (by omega)
                  have HFJ := Lib.hid ((HF1.out.trans HO.out.f).trans HJ.out.f)
                  as_aux_lemma =>
                    go_upto_if 171 with fail
                    go_cut [13, 19] (fun s13 s19 wx => ∃ (at3 : Nat) (T : Int), at3 ≤ n2 ∧ 0 ≤ T ∧ T ≤ 8 ∧ s13 = .int .i64 at3 ∧ s19 = .int .i64 T ∧ wr = wx)
                    case first =>
                      by_cases hq : at2 < n2
                      · have dq : decide ((at2 : Int) < (n2 : Int)) = true := decide_eq_true (by omega)
                        obtain ⟨bt, ot, rfl, hct⟩ := H2.out.num hq
                        obtain ⟨x, hx⟩ : ∃ x, x = ts.getD at2 0 := ⟨_, rfl⟩
                        rw [← hx] at hct
                        have hxb := HTS.out x (by rw [hx]; exact getD_mem (by rw [← HN2.out]; exact hq) 0)
                        have hct2 := HFJ.out.cell hct (by simp)
                        have N9 := Lib.hid (numberTo_any x 9 wr (by omega) (by omega) hxb.1 hxb.2)
                        have h90 := Int.emod_nonneg x (show (9 : Int) ≠ 0 by omega)
                        have h91 := Int.emod_lt_of_pos x (show (0 : Int) < 9 by omega)
                        obtain ⟨T, hT⟩ : ∃ T, T = x % 9 := ⟨_, rfl⟩
                        rw [← hT] at N9 h90 h91
                        clear hT hx hct hxb
                        go_wp2_with fail
                        with_reducible refine (N9.out).mono ?_
                        rintro e w5 ⟨rfl, rfl⟩
                        go_wp2_with fail
                        go_meet
                        exact ⟨at2 + 1, T, by omega, h90, by omega, by go_num, rfl, rfl⟩
                      · have dq : decide ((at2 : Int) < (n2 : Int)) = false := decide_eq_false (by omega)
                        go_wp2_with fail
                        go_meet
                        exact ⟨at2, 5, hat2, by omega, by omega, rfl, rfl, rfl⟩
                    case rest =>
                    obtain ⟨at3, T, hat3, hT0, hT8, rfl, rfl, rfl⟩ := hcut
                    have hkl : k < lw.length := by rw [← HNW.out]; exact hlt2
                    have HWS := Lib.hid (bid_wanted (r := R') (car := c) (t := T) HJ.out.once.rise ⟨hT0, by omega⟩ (HJ.out.wants.trans (dr_cons lw k hkl (0, 0))))
                    obtain ⟨bq, oq, rfl, q0, q1⟩ := HJ.out.hw.call hlt2
                    generalize lw.getD k (0, 0) = cc at HWS q0 q1
                    obtain ⟨f, d⟩ := cc
                    dsimp only at HWS q0 q1
                    have HON2 := Lib.hid (once_bid HJ.out.once HWS.out)
                    have BD := Lib.hid (fun W' (hW : Fr wr W' []) => bid_al R' _ _ (c, T) f d W' (HJ.out.hm.keep hW) (HJ.out.he.keep hW) (by have := HSR.out.1; omega) (by have := HSR.out.2.1; omega) (fun e he => by have := HSR.out.2.2 e he; omega))
                    rw [HWS.out.is] at BD
                    generalize bidR R' (c, T) (placeE R'.es f d) = R2 at HWS BD HON2
                    unfold rgV bidV at BD
                    dsimp only at BD
                    have HSB2 : Hid (∀ V', Fr wr V' [] → SWd wr g2 (.int .i64 R'.co) (.int .i64 R'.fo) (.int .i64 R'.ho) (.slice ra m rc) (.slice rb l2 rd) bq (oq + k * 2) f d V') :=
                      Lib.hid (fun V' hV => ⟨hV, (show C5 _ _ _ _ _ _ wr from row5 HJ.out.box).fr hV (by simp), hV.cell q0 (by simp), hV.cell q1 (by simp)⟩)
                    have hkp : (0 : Int) ≤ (k : Int) ∧ (k : Int) < (nw : Int) := by omega
                    clear hkl
                    go_upto_region 31 with fail
                    go_cut [20, 21] (fun s20 s21 wx => ∃ (gy : Nat) (um' ue' : Value), s20 = .pointer (some ⟨gy, 0, none⟩) ∧ s21 = .bool true ∧ Hid (KIn wr wx gy g2 R2 um' ue'))
                    case first =>
                      as_aux_lemma =>
                        have HFD := Lib.hid (Fr.drew wr [])
                        refine wp_region_noPanic ?_
                        refine wp_region_held_drew (S := SWd wr g2 (.int .i64 R'.co) (.int .i64 R'.fo) (.int .i64 R'.ho) (.slice ra m rc) (.slice rb l2 rd) bq (oq + k * 2) f d) (by as_aux_lemma => kernel_rfl) (HSB2.out _ HFD.out) (fun hHeld => ?_)
                        refine wpAnyH_take (i := 0) (v := ?fv0h6n7) (by as_aux_lemma => (simp only [List.getElem?_toArray, List.getElem?_cons_zero]; rfl)) (by as_aux_lemma => kernel_rfl) (by as_aux_lemma => kernel_rfl) (by as_aux_lemma => kernel_rfl) (fun _ _ _ h => h) (Or.inl ⟨by rfl, ?fy0h6n7⟩) (by assumption) ?fr0h6n7
                        case fy0h6n7 => (intro w hSw; (try dsimp only [SWd, C5] at hSw); go_simp; try with_reducible rfl)
                        try simp only [Act.put, List.setIfInBounds_toArray, List.set_cons_zero, List.set_cons_succ]
                        refine wpAnyH_take (i := 1) (v := ?fv1h6n7) (by as_aux_lemma => (simp only [List.getElem?_toArray, List.getElem?_cons_zero, List.getElem?_cons_succ]; rfl)) (by as_aux_lemma => kernel_rfl) (by as_aux_lemma => kernel_rfl) (by as_aux_lemma => kernel_rfl) (fun _ _ _ h => h) (Or.inl ⟨by rfl, ?fy1h6n7⟩) (by assumption) ?fr1h6n7
                        case fy1h6n7 => (intro w hSw; (try dsimp only [SWd, C5] at hSw); go_simp; try with_reducible rfl)
                        try simp only [Act.put, List.setIfInBounds_toArray, List.set_cons_zero, List.set_cons_succ]
                        refine wpAnyH_take (i := 2) (v := ?fv2h6n7) (by as_aux_lemma => (simp only [List.getElem?_toArray, List.getElem?_cons_zero, List.getElem?_cons_succ]; rfl)) (by as_aux_lemma => kernel_rfl) (by as_aux_lemma => kernel_rfl) (by as_aux_lemma => kernel_rfl) (fun _ _ _ h => h) (Or.inl ⟨by rfl, ?fy2h6n7⟩) (by assumption) ?fr2h6n7
                        case fy2h6n7 => (intro w hSw; (try dsimp only [SWd, C5] at hSw); go_simp; try with_reducible rfl)
                        try simp only [Act.put, List.setIfInBounds_toArray, List.set_cons_zero, List.set_cons_succ]
                        refine wpAnyH_take (i := 3) (v := ?fv3h6n7) (by as_aux_lemma => (simp only [List.getElem?_toArray, List.getElem?_cons_zero, List.getElem?_cons_succ]; rfl)) (by as_aux_lemma => kernel_rfl) (by as_aux_lemma => kernel_rfl) (by as_aux_lemma => kernel_rfl) (fun _ _ _ h => h) (Or.inl ⟨by rfl, ?fy3h6n7⟩) (by assumption) ?fr3h6n7
                        case fy3h6n7 => (intro w hSw; (try dsimp only [SWd, C5] at hSw); go_simp; try with_reducible rfl)
                        try simp only [Act.put, List.setIfInBounds_toArray, List.set_cons_zero, List.set_cons_succ]
                        refine wpAnyH_take (i := 4) (v := ?fv4h6n7) (by as_aux_lemma => (simp only [List.getElem?_toArray, List.getElem?_cons_zero, List.getElem?_cons_succ]; rfl)) (by as_aux_lemma => kernel_rfl) (by as_aux_lemma => kernel_rfl) (by as_aux_lemma => kernel_rfl) (fun _ _ _ h => h) (Or.inl ⟨by rfl, ?fy4h6n7⟩) (by assumption) ?fr4h6n7
                        case fy4h6n7 => (intro w hSw; (try dsimp only [SWd, C5] at hSw); go_simp; try with_reducible rfl)
                        try simp only [Act.put, List.setIfInBounds_toArray, List.set_cons_zero, List.set_cons_succ]
                        refine wpAnyH_take (i := 5) (v := ?fv5h6n7) (by as_aux_lemma => (simp only [List.getElem?_toArray, List.getElem?_cons_zero, List.getElem?_cons_succ]; rfl)) (by as_aux_lemma => kernel_rfl) (by as_aux_lemma => kernel_rfl) (by as_aux_lemma => kernel_rfl) (fun _ _ _ h => h) (Or.inl ⟨by rfl, ?fy5h6n7⟩) (by assumption) ?fr5h6n7
                        case fy5h6n7 => (intro w hSw; (try dsimp only [SWd, C5] at hSw); go_simp; try with_reducible rfl)
                        try simp only [Act.put, List.setIfInBounds_toArray, List.set_cons_zero, List.set_cons_succ]
                        refine wpAnyH_take (i := 6) (v := ?fv6h6n7) (by as_aux_lemma => (simp only [List.getElem?_toArray, List.getElem?_cons_zero, List.getElem?_cons_succ]; rfl)) (by as_aux_lemma => kernel_rfl) (by as_aux_lemma => kernel_rfl) (by as_aux_lemma => kernel_rfl) (fun _ _ _ h => h) (Or.inl ⟨by rfl, ?fy6h6n7⟩) (by assumption) ?fr6h6n7
                        case fy6h6n7 => (intro w hSw; (try dsimp only [SWd, C5] at hSw); go_simp; try with_reducible rfl)
                        try simp only [Act.put, List.setIfInBounds_toArray, List.set_cons_zero, List.set_cons_succ]
                        refine wpAnyH_take (i := 7) (v := ?fv7h6n7) (by as_aux_lemma => (simp only [List.getElem?_toArray, List.getElem?_cons_zero, List.getElem?_cons_succ]; rfl)) (by as_aux_lemma => kernel_rfl) (by as_aux_lemma => kernel_rfl) (by as_aux_lemma => kernel_rfl) (fun _ _ _ h => h) (Or.inl ⟨by rfl, ?fy7h6n7⟩) (by assumption) ?fr7h6n7
                        case fy7h6n7 => (intro w hSw; (try dsimp only [SWd, C5] at hSw); go_simp; try with_reducible rfl)
                        try simp only [Act.put, List.setIfInBounds_toArray, List.set_cons_zero, List.set_cons_succ]
                        generalize World.drew wr = WD at HFD hHeld ⊢
                        refine wpAnyH_ready (rs := [8, 12]) (by as_aux_lemma => kernel_rfl) (by simp) ?_
                        refine AllReadyH.cons (o := _) rfl (fun K hK => ?_) ?_
                        focus (
 go_simp
 ((with_reducible refine (BD.out _ HFD.out).mono ?_); rintro e w7 ⟨u, rfl, x, rfl, ⟨vm7, ve7, rfl, h7, k7⟩, hf, hal⟩; have HF7 := Lib.hid (HFD.out.trans hf); have hS := HSB2.out _ HF7.out; obtain ⟨a7', c7', e7, _⟩ := h7; obtain ⟨a8', c8', e8, _⟩ := k7; obtain ⟨n7', hn7⟩ : ∃ x, x = R2.ms.length := ⟨_, rfl⟩; obtain ⟨n8', hn8⟩ : ∃ x, x = R2.es.length := ⟨_, rfl⟩; rw [← hn7] at e7; rw [← hn8] at e8; subst e7 e8; have HAL := Lib.hid hal; clear hal hn7 hn8; unfold rgV)
 go_wp2_with fail
 refine hK.out _ _ hS (fun hHeld => ?_)
 clear hK K
 try simp only [Act.put, List.setIfInBounds_toArray, List.set_cons_zero, List.set_cons_succ]
 refine wpAnyH_take (i := 9) (v := ?fv9h6n8) (by as_aux_lemma => (simp only [List.getElem?_toArray, List.getElem?_cons_zero, List.getElem?_cons_succ]; rfl)) (by as_aux_lemma => kernel_rfl) (by as_aux_lemma => kernel_rfl) (by as_aux_lemma => kernel_rfl) (fun _ _ _ h => h) (Or.inl ⟨by rfl, ?fy9h6n8⟩) (by assumption) ?fr9h6n8
 case fy9h6n8 => (intro w hSw; (try dsimp only [SWd, C5] at hSw); go_simp; try with_reducible rfl)
 try simp only [Act.put, List.setIfInBounds_toArray, List.set_cons_zero, List.set_cons_succ]
 refine wpAnyH_take (i := 10) (v := ?fv10h6n8) (by as_aux_lemma => (simp only [List.getElem?_toArray, List.getElem?_cons_zero, List.getElem?_cons_succ]; rfl)) (by as_aux_lemma => kernel_rfl) (by as_aux_lemma => kernel_rfl) (by as_aux_lemma => kernel_rfl) (fun _ _ _ h => h) (Or.inl ⟨by rfl, ?fy10h6n8⟩) (by assumption) ?fr10h6n8
 case fy10h6n8 => (intro w hSw; (try dsimp only [SWd, C5] at hSw); go_simp; try with_reducible rfl)
 try simp only [Act.put, List.setIfInBounds_toArray, List.set_cons_zero, List.set_cons_succ]
 refine wpAnyH_take (i := 11) (v := ?fv11h6n8) (by as_aux_lemma => (simp only [List.getElem?_toArray, List.getElem?_cons_zero, List.getElem?_cons_succ]; rfl)) (by as_aux_lemma => kernel_rfl) (by as_aux_lemma => kernel_rfl) (by as_aux_lemma => kernel_rfl) (fun _ _ _ h => h) (Or.inl ⟨by rfl, ?fy11h6n8⟩) (by assumption) ?fr11h6n8
 case fy11h6n8 => (intro w hSw; (try dsimp only [SWd, C5] at hSw); go_simp; try with_reducible rfl)
 try simp only [Act.put, List.setIfInBounds_toArray, List.set_cons_zero, List.set_cons_succ]
 refine wpAnyH_ready (rs := [12]) (by as_aux_lemma => kernel_rfl) (by simp) ?_
 refine AllReadyH.cons (o := _) rfl (fun K hK => ?_) AllReadyH.nil
 go_simp
 have HZ := Lib.hid (heap_alloc_new w7 (.cells #[.int .i64 0, .int .i64 0, .int .i64 0, .slice none 0 0, .slice none 0 0] 27))
 have HFA := Lib.hid (Fr.alloc w7 (.cells #[.int .i64 0, .int .i64 0, .int .i64 0, .slice none 0 0, .slice none 0 0] 27) [])
 have hSX := hHeld.fr HFA.out
 refine hK.out _ _ hSX (fun hHeld => ?_)
 clear hK K
 try simp only [Act.put, List.setIfInBounds_toArray, List.set_cons_zero, List.set_cons_succ]
 generalize World.alloc w7 _ = W8 at HZ HFA hHeld ⊢
 obtain ⟨gz, hgz⟩ : ∃ gz, gz = w7.heap.size := ⟨_, rfl⟩
 have HGZ := Lib.hid hgz
 rw [← hgz] at HZ ⊢
 clear hgz hSX hS
 obtain ⟨z0, z1, z2, z3, z4⟩ := row5 HZ.out
 obtain ⟨f0, f1, f2, f3, f4⟩ := fz5 HZ.out
 have HZN := Lib.hid (set5 HZ.out (.int .i64 R2.co) (.int .i64 R2.fo) (.int .i64 R2.ho) (.slice a7' n7' c7') (.slice a8' n8' c8'))
 have HFN := Lib.hid (set5_fr W8 gz (.int .i64 R2.co) (.int .i64 R2.fo) (.int .i64 R2.ho) (.slice a7' n7' c7') (.slice a8' n8' c8'))
 refine wpAnyH_ready (rs := [13]) (by as_aux_lemma => kernel_rfl) (by simp) ?_
 refine AllReadyH.cons (o := _) rfl (fun K hK => ?_) AllReadyH.nil
 go_simp
 clear z0 z1 z2 z3 z4 f0 f1 f2 f3 f4
 generalize World.setCell (World.setCell (World.setCell (World.setCell (World.setCell W8 _ _) _ _) _ _) _ _) _ _ = W9 at HZN HFN ⊢
 have HF9 := Lib.hid ((HF7.out.trans HFA.out).new HFN.out (fun x hx => by rw [List.mem_singleton.1 hx, HGZ.out]; exact HF7.out.size))
 have hS9 := HSB2.out W9 HF9.out
 refine hK.out _ _ hS9 (fun hHeld => ?_)
 clear hK K
 try simp only [Act.put, List.setIfInBounds_toArray, List.set_cons_zero, List.set_cons_succ]
 refine wpAnyH_take (i := 14) (v := ?fv14h6n9) (by as_aux_lemma => (simp only [List.getElem?_toArray, List.getElem?_cons_zero, List.getElem?_cons_succ]; rfl)) (by as_aux_lemma => kernel_rfl) (by as_aux_lemma => kernel_rfl) (by as_aux_lemma => kernel_rfl) (fun _ _ _ h => h) (Or.inl ⟨by rfl, ?fy14h6n9⟩) (by assumption) ?fr14h6n9
 case fy14h6n9 => (intro w hSw; (try dsimp only [SWd, C5] at hSw); go_simp; try with_reducible rfl)
 try simp only [Act.put, List.setIfInBounds_toArray, List.set_cons_zero, List.set_cons_succ]
 refine wpAnyH_done (by as_aux_lemma => kernel_rfl) ?_ _
 refine NoPanic.normal ?_
 go_wp2_with fail
 go_meet
 exact ⟨gz, _, _, rfl, rfl, Lib.hid (KIn.of (S := []) HZN.out HAL.out (fun p hp => by obtain rfl := List.mem_singleton.1 hp; exact ⟨_, HF7.out.heap HJ.out.box (by simp)⟩) (HFA.out.new HFN.out (fun x hx => by rw [List.mem_singleton.1 hx, HGZ.out]; exact Nat.le_refl _)) HF9.out)⟩
 )
                        refine AllReadyH.cons (o := _) rfl (fun K hK => ?_) AllReadyH.nil
                        focus (
 go_simp
 have HZ := Lib.hid (heap_alloc_new WD (.cells #[.int .i64 0, .int .i64 0, .int .i64 0, .slice none 0 0, .slice none 0 0] 27))
 have HFA := Lib.hid (Fr.alloc WD (.cells #[.int .i64 0, .int .i64 0, .int .i64 0, .slice none 0 0, .slice none 0 0] 27) [])
 have hSX := hHeld.fr HFA.out
 refine hK.out _ _ hSX (fun hHeld => ?_)
 clear hK K
 try simp only [Act.put, List.setIfInBounds_toArray, List.set_cons_zero, List.set_cons_succ]
 generalize World.alloc WD _ = W8 at HZ HFA hHeld ⊢
 obtain ⟨gz, hgz⟩ : ∃ gz, gz = WD.heap.size := ⟨_, rfl⟩
 have HGZ := Lib.hid hgz
 rw [← hgz] at HZ ⊢
 clear hgz hSX
 refine wpAnyH_ready (rs := [8]) (by as_aux_lemma => kernel_rfl) (by simp) ?_
 refine AllReadyH.cons (o := _) rfl (fun K hK => ?_) AllReadyH.nil
 go_simp
 ((with_reducible refine (BD.out _ (HFD.out.trans HFA.out)).mono ?_); rintro e w7 ⟨u, rfl, x, rfl, ⟨vm7, ve7, rfl, h7, k7⟩, hf, hal⟩; have HF7 := Lib.hid ((HFD.out.trans HFA.out).trans hf); have HZ7 := Lib.hid (hf.heap HZ.out (by simp)); have hS := HSB2.out _ HF7.out; obtain ⟨a7', c7', e7, _⟩ := h7; obtain ⟨a8', c8', e8, _⟩ := k7; obtain ⟨n7', hn7⟩ : ∃ x, x = R2.ms.length := ⟨_, rfl⟩; obtain ⟨n8', hn8⟩ : ∃ x, x = R2.es.length := ⟨_, rfl⟩; rw [← hn7] at e7; rw [← hn8] at e8; subst e7 e8; have HAL := Lib.hid hal; clear hal hn7 hn8; unfold rgV)
 go_wp2_with fail
 refine hK.out _ _ hS (fun hHeld => ?_)
 clear hK K
 try simp only [Act.put, List.setIfInBounds_toArray, List.set_cons_zero, List.set_cons_succ]
 refine wpAnyH_take (i := 9) (v := ?fv9h6n10) (by as_aux_lemma => (simp only [List.getElem?_toArray, List.getElem?_cons_zero, List.getElem?_cons_succ]; rfl)) (by as_aux_lemma => kernel_rfl) (by as_aux_lemma => kernel_rfl) (by as_aux_lemma => kernel_rfl) (fun _ _ _ h => h) (Or.inl ⟨by rfl, ?fy9h6n10⟩) (by assumption) ?fr9h6n10
 case fy9h6n10 => (intro w hSw; (try dsimp only [SWd, C5] at hSw); go_simp; try with_reducible rfl)
 try simp only [Act.put, List.setIfInBounds_toArray, List.set_cons_zero, List.set_cons_succ]
 refine wpAnyH_take (i := 10) (v := ?fv10h6n10) (by as_aux_lemma => (simp only [List.getElem?_toArray, List.getElem?_cons_zero, List.getElem?_cons_succ]; rfl)) (by as_aux_lemma => kernel_rfl) (by as_aux_lemma => kernel_rfl) (by as_aux_lemma => kernel_rfl) (fun _ _ _ h => h) (Or.inl ⟨by rfl, ?fy10h6n10⟩) (by assumption) ?fr10h6n10
 case fy10h6n10 => (intro w hSw; (try dsimp only [SWd, C5] at hSw); go_simp; try with_reducible rfl)
 try simp only [Act.put, List.setIfInBounds_toArray, List.set_cons_zero, List.set_cons_succ]
 refine wpAnyH_take (i := 11) (v := ?fv11h6n10) (by as_aux_lemma => (simp only [List.getElem?_toArray, List.getElem?_cons_zero, List.getElem?_cons_succ]; rfl)) (by as_aux_lemma => kernel_rfl) (by as_aux_lemma => kernel_rfl) (by as_aux_lemma => kernel_rfl) (fun _ _ _ h => h) (Or.inl ⟨by rfl, ?fy11h6n10⟩) (by assumption) ?fr11h6n10
 case fy11h6n10 => (intro w hSw; (try dsimp only [SWd, C5] at hSw); go_simp; try with_reducible rfl)
 try simp only [Act.put, List.setIfInBounds_toArray, List.set_cons_zero, List.set_cons_succ]
 clear hS
 obtain ⟨z0, z1, z2, z3, z4⟩ := row5 HZ7.out
 obtain ⟨f0, f1, f2, f3, f4⟩ := fz5 HZ7.out
 have HZN := Lib.hid (set5 HZ7.out (.int .i64 R2.co) (.int .i64 R2.fo) (.int .i64 R2.ho) (.slice a7' n7' c7') (.slice a8' n8' c8'))
 have HFN := Lib.hid (set5_fr w7 gz (.int .i64 R2.co) (.int .i64 R2.fo) (.int .i64 R2.ho) (.slice a7' n7' c7') (.slice a8' n8' c8'))
 refine wpAnyH_ready (rs := [13]) (by as_aux_lemma => kernel_rfl) (by simp) ?_
 refine AllReadyH.cons (o := _) rfl (fun K hK => ?_) AllReadyH.nil
 go_simp
 clear z0 z1 z2 z3 z4 f0 f1 f2 f3 f4
 generalize World.setCell (World.setCell (World.setCell (World.setCell (World.setCell w7 _ _) _ _) _ _) _ _) _ _ = W9 at HZN HFN ⊢
 have HF9 := Lib.hid (HF7.out.new HFN.out (fun x hx => by rw [List.mem_singleton.1 hx, HGZ.out]; exact HFD.out.size))
 have hS9 := HSB2.out W9 HF9.out
 refine hK.out _ _ hS9 (fun hHeld => ?_)
 clear hK K
 try simp only [Act.put, List.setIfInBounds_toArray, List.set_cons_zero, List.set_cons_succ]
 refine wpAnyH_take (i := 14) (v := ?fv14h6n11) (by as_aux_lemma => (simp only [List.getElem?_toArray, List.getElem?_cons_zero, List.getElem?_cons_succ]; rfl)) (by as_aux_lemma => kernel_rfl) (by as_aux_lemma => kernel_rfl) (by as_aux_lemma => kernel_rfl) (fun _ _ _ h => h) (Or.inl ⟨by rfl, ?fy14h6n11⟩) (by assumption) ?fr14h6n11
 case fy14h6n11 => (intro w hSw; (try dsimp only [SWd, C5] at hSw); go_simp; try with_reducible rfl)
 try simp only [Act.put, List.setIfInBounds_toArray, List.set_cons_zero, List.set_cons_succ]
 refine wpAnyH_done (by as_aux_lemma => kernel_rfl) ?_ _
 refine NoPanic.normal ?_
 go_wp2_with fail
 go_meet
 exact ⟨gz, _, _, rfl, rfl, Lib.hid (KIn.of (S := [gz]) HZN.out HAL.out (fun p hp => by
   rcases List.mem_cons.1 hp with q | q
   · subst q; exact ⟨_, HF7.out.heap HJ.out.box (by simp)⟩
   · obtain rfl := List.mem_singleton.1 q; exact ⟨_, HZ7.out⟩) HFN.out HF9.out)⟩
 )
                    case rest =>
                    obtain ⟨gy, um', ue', rfl, rfl, HY⟩ := hcut
                    obtain ⟨WY, rfl⟩ : ∃ W, W = wc := ⟨_, rfl⟩
                    have HY0 := Lib.hid (HY.out.al WY (Fr.refl _ _))
                    obtain ⟨s1, s2, e1, _⟩ := HY0.out.1
                    obtain ⟨s3, s4, e2, _⟩ := HY0.out.2
                    have hm2 : R2.ms.length = m := by rw [HON2.out.1.mem]; exact HM.out.symm
                    rw [hm2] at e1
                    obtain ⟨l3, hl3⟩ : ∃ x, x = R2.es.length := ⟨_, rfl⟩
                    rw [← hl3] at e2
                    subst e1 e2
                    have BE := Lib.hid (fun W' (hW : Fr WY W' []) => bid_al R2 _ _ (c, T) f d W' (HY0.out.1.keep hW) (HY0.out.2.keep hW) (by rw [hm2]; have := HMS.out; omega) (by rw [HWS.out.len]; have := HSR.out.2.1; omega) (fun e he => by have := HON2.out.1.few HMS.out.1 e he; omega))
                    rw [show placeE R2.es f d = placeE R'.es f d from HWS.out.place, HWS.out.again T] at BE
                    generalize bidR R2 (c, T) (placeE R'.es f d) = R3 at BE
                    unfold rgV bidV at BE
                    dsimp only at BE
                    clear hl3 hm2 BD HSB2
                    have HSB3 : Hid (∀ V', Fr WY V' [] → SWd WY gy (.int .i64 R2.co) (.int .i64 R2.fo) (.int .i64 R2.ho) (.slice s1 m s2) (.slice s3 l3 s4) bq (oq + k * 2) f d V') :=
                      Lib.hid (fun V' hV => ⟨hV, (show C5 _ _ _ _ _ _ WY from row5 HY.out.box).fr hV (by simp), (HY.out.f.trans hV).cell q0 (by simp), (HY.out.f.trans hV).cell q1 (by simp)⟩)
                    go_upto_region 32 with fail
                    go_cut [22, 23] (fun s22 s23 wx => s23 = .bool false ∧ Hid (Fr WY wx []))
                    case first =>
                      as_aux_lemma =>
                        have HFD := Lib.hid (Fr.drew WY [])
                        refine wp_region_noPanic ?_
                        refine wp_region_held_drew (S := SWd WY gy (.int .i64 R2.co) (.int .i64 R2.fo) (.int .i64 R2.ho) (.slice s1 m s2) (.slice s3 l3 s4) bq (oq + k * 2) f d) (by as_aux_lemma => kernel_rfl) (HSB3.out _ HFD.out) (fun hHeld => ?_)
                        refine wpAnyH_take (i := 0) (v := ?fv0h12n13) (by as_aux_lemma => (simp only [List.getElem?_toArray, List.getElem?_cons_zero]; rfl)) (by as_aux_lemma => kernel_rfl) (by as_aux_lemma => kernel_rfl) (by as_aux_lemma => kernel_rfl) (fun _ _ _ h => h) (Or.inl ⟨by rfl, ?fy0h12n13⟩) (by assumption) ?fr0h12n13
                        case fy0h12n13 => (intro w hSw; (try dsimp only [SWd, C5] at hSw); go_simp; try with_reducible rfl)
                        try simp only [Act.put, List.setIfInBounds_toArray, List.set_cons_zero, List.set_cons_succ]
                        refine wpAnyH_take (i := 1) (v := ?fv1h12n13) (by as_aux_lemma => (simp only [List.getElem?_toArray, List.getElem?_cons_zero, List.getElem?_cons_succ]; rfl)) (by as_aux_lemma => kernel_rfl) (by as_aux_lemma => kernel_rfl) (by as_aux_lemma => kernel_rfl) (fun _ _ _ h => h) (Or.inl ⟨by rfl, ?fy1h12n13⟩) (by assumption) ?fr1h12n13
                        case fy1h12n13 => (intro w hSw; (try dsimp only [SWd, C5] at hSw); go_simp; try with_reducible rfl)
                        try simp only [Act.put, List.setIfInBounds_toArray, List.set_cons_zero, List.set_cons_succ]
                        refine wpAnyH_take (i := 2) (v := ?fv2h12n13) (by as_aux_lemma => (simp only [List.getElem?_toArray, List.getElem?_cons_zero, List.getElem?_cons_succ]; rfl)) (by as_aux_lemma => kernel_rfl) (by as_aux_lemma => kernel_rfl) (by as_aux_lemma => kernel_rfl) (fun _ _ _ h => h) (Or.inl ⟨by rfl, ?fy2h12n13⟩) (by assumption) ?fr2h12n13
                        case fy2h12n13 => (intro w hSw; (try dsimp only [SWd, C5] at hSw); go_simp; try with_reducible rfl)
                        try simp only [Act.put, List.setIfInBounds_toArray, List.set_cons_zero, List.set_cons_succ]
                        refine wpAnyH_take (i := 3) (v := ?fv3h12n13) (by as_aux_lemma => (simp only [List.getElem?_toArray, List.getElem?_cons_zero, List.getElem?_cons_succ]; rfl)) (by as_aux_lemma => kernel_rfl) (by as_aux_lemma => kernel_rfl) (by as_aux_lemma => kernel_rfl) (fun _ _ _ h => h) (Or.inl ⟨by rfl, ?fy3h12n13⟩) (by assumption) ?fr3h12n13
                        case fy3h12n13 => (intro w hSw; (try dsimp only [SWd, C5] at hSw); go_simp; try with_reducible rfl)
                        try simp only [Act.put, List.setIfInBounds_toArray, List.set_cons_zero, List.set_cons_succ]
                        refine wpAnyH_take (i := 4) (v := ?fv4h12n13) (by as_aux_lemma => (simp only [List.getElem?_toArray, List.getElem?_cons_zero, List.getElem?_cons_succ]; rfl)) (by as_aux_lemma => kernel_rfl) (by as_aux_lemma => kernel_rfl) (by as_aux_lemma => kernel_rfl) (fun _ _ _ h => h) (Or.inl ⟨by rfl, ?fy4h12n13⟩) (by assumption) ?fr4h12n13
                        case fy4h12n13 => (intro w hSw; (try dsimp only [SWd, C5] at hSw); go_simp; try with_reducible rfl)
                        try simp only [Act.put, List.setIfInBounds_toArray, List.set_cons_zero, List.set_cons_succ]
                        refine wpAnyH_take (i := 5) (v := ?fv5h12n13) (by as_aux_lemma => (simp only [List.getElem?_toArray, List.getElem?_cons_zero, List.getElem?_cons_succ]; rfl)) (by as_aux_lemma => kernel_rfl) (by as_aux_lemma => kernel_rfl) (by as_aux_lemma => kernel_rfl) (fun _ _ _ h => h) (Or.inl ⟨by rfl, ?fy5h12n13⟩) (by assumption) ?fr5h12n13
                        case fy5h12n13 => (intro w hSw; (try dsimp only [SWd, C5] at hSw); go_simp; try with_reducible rfl)
                        try simp only [Act.put, List.setIfInBounds_toArray, List.set_cons_zero, List.set_cons_succ]
                        refine wpAnyH_take (i := 6) (v := ?fv6h12n13) (by as_aux_lemma => (simp only [List.getElem?_toArray, List.getElem?_cons_zero, List.getElem?_cons_succ]; rfl)) (by as_aux_lemma => kernel_rfl) (by as_aux_lemma => kernel_rfl) (by as_aux_lemma => kernel_rfl) (fun _ _ _ h => h) (Or.inl ⟨by rfl, ?fy6h12n13⟩) (by assumption) ?fr6h12n13
                        case fy6h12n13 => (intro w hSw; (try dsimp only [SWd, C5] at hSw); go_simp; try with_reducible rfl)
                        try simp only [Act.put, List.setIfInBounds_toArray, List.set_cons_zero, List.set_cons_succ]
                        refine wpAnyH_take (i := 7) (v := ?fv7h12n13) (by as_aux_lemma => (simp only [List.getElem?_toArray, List.getElem?_cons_zero, List.getElem?_cons_succ]; rfl)) (by as_aux_lemma => kernel_rfl) (by as_aux_lemma => kernel_rfl) (by as_aux_lemma => kernel_rfl) (fun _ _ _ h => h) (Or.inl ⟨by rfl, ?fy7h12n13⟩) (by assumption) ?fr7h12n13
                        case fy7h12n13 => (intro w hSw; (try dsimp only [SWd, C5] at hSw); go_simp; try with_reducible rfl)
                        try simp only [Act.put, List.setIfInBounds_toArray, List.set_cons_zero, List.set_cons_succ]
                        generalize World.drew WY = WD at HFD hHeld ⊢
                        refine wpAnyH_ready (rs := [8, 12]) (by as_aux_lemma => kernel_rfl) (by simp) ?_
                        refine AllReadyH.cons (o := _) rfl (fun K hK => ?_) ?_
                        focus (
 go_simp
 ((with_reducible refine (BE.out _ HFD.out).mono ?_); rintro e w7 ⟨u, rfl, x, rfl, ⟨vm7, ve7, rfl, h7, k7⟩, hf, hal⟩; have HF7 := Lib.hid (HFD.out.trans hf); have hS := HSB3.out _ HF7.out; obtain ⟨a7', c7', e7, _⟩ := h7; obtain ⟨a8', c8', e8, _⟩ := k7; obtain ⟨n7', hn7⟩ : ∃ x, x = R3.ms.length := ⟨_, rfl⟩; obtain ⟨n8', hn8⟩ : ∃ x, x = R3.es.length := ⟨_, rfl⟩; rw [← hn7] at e7; rw [← hn8] at e8; subst e7 e8; have HAL := Lib.hid hal; clear hal hn7 hn8; unfold rgV)
 go_wp2_with fail
 refine hK.out _ _ hS (fun hHeld => ?_)
 clear hK K
 try simp only [Act.put, List.setIfInBounds_toArray, List.set_cons_zero, List.set_cons_succ]
 refine wpAnyH_take (i := 9) (v := ?fv9h12n14) (by as_aux_lemma => (simp only [List.getElem?_toArray, List.getElem?_cons_zero, List.getElem?_cons_succ]; rfl)) (by as_aux_lemma => kernel_rfl) (by as_aux_lemma => kernel_rfl) (by as_aux_lemma => kernel_rfl) (fun _ _ _ h => h) (Or.inl ⟨by rfl, ?fy9h12n14⟩) (by assumption) ?fr9h12n14
 case fy9h12n14 => (intro w hSw; (try dsimp only [SWd, C5] at hSw); go_simp; try with_reducible rfl)
 try simp only [Act.put, List.setIfInBounds_toArray, List.set_cons_zero, List.set_cons_succ]
 refine wpAnyH_take (i := 10) (v := ?fv10h12n14) (by as_aux_lemma => (simp only [List.getElem?_toArray, List.getElem?_cons_zero, List.getElem?_cons_succ]; rfl)) (by as_aux_lemma => kernel_rfl) (by as_aux_lemma => kernel_rfl) (by as_aux_lemma => kernel_rfl) (fun _ _ _ h => h) (Or.inl ⟨by rfl, ?fy10h12n14⟩) (by assumption) ?fr10h12n14
 case fy10h12n14 => (intro w hSw; (try dsimp only [SWd, C5] at hSw); go_simp; try with_reducible rfl)
 try simp only [Act.put, List.setIfInBounds_toArray, List.set_cons_zero, List.set_cons_succ]
 refine wpAnyH_take (i := 11) (v := ?fv11h12n14) (by as_aux_lemma => (simp only [List.getElem?_toArray, List.getElem?_cons_zero, List.getElem?_cons_succ]; rfl)) (by as_aux_lemma => kernel_rfl) (by as_aux_lemma => kernel_rfl) (by as_aux_lemma => kernel_rfl) (fun _ _ _ h => h) (Or.inl ⟨by rfl, ?fy11h12n14⟩) (by assumption) ?fr11h12n14
 case fy11h12n14 => (intro w hSw; (try dsimp only [SWd, C5] at hSw); go_simp; try with_reducible rfl)
 try simp only [Act.put, List.setIfInBounds_toArray, List.set_cons_zero, List.set_cons_succ]
 refine wpAnyH_ready (rs := [12]) (by as_aux_lemma => kernel_rfl) (by simp) ?_
 refine AllReadyH.cons (o := _) rfl (fun K hK => ?_) AllReadyH.nil
 go_simp
 have HZ := Lib.hid (heap_alloc_new w7 (.cells #[.int .i64 0, .int .i64 0, .int .i64 0, .slice none 0 0, .slice none 0 0] 27))
 have HFA := Lib.hid (Fr.alloc w7 (.cells #[.int .i64 0, .int .i64 0, .int .i64 0, .slice none 0 0, .slice none 0 0] 27) [])
 have hSX := hHeld.fr HFA.out
 refine hK.out _ _ hSX (fun hHeld => ?_)
 clear hK K
 try simp only [Act.put, List.setIfInBounds_toArray, List.set_cons_zero, List.set_cons_succ]
 generalize World.alloc w7 _ = W8 at HZ HFA hHeld ⊢
 obtain ⟨gz, hgz⟩ : ∃ gz, gz = w7.heap.size := ⟨_, rfl⟩
 have HGZ := Lib.hid hgz
 rw [← hgz] at HZ ⊢
 clear hgz hSX hS
 obtain ⟨z0, z1, z2, z3, z4⟩ := row5 HZ.out
 obtain ⟨f0, f1, f2, f3, f4⟩ := fz5 HZ.out
 have HZN := Lib.hid (set5 HZ.out (.int .i64 R3.co) (.int .i64 R3.fo) (.int .i64 R3.ho) (.slice a7' n7' c7') (.slice a8' n8' c8'))
 have HFN := Lib.hid (set5_fr W8 gz (.int .i64 R3.co) (.int .i64 R3.fo) (.int .i64 R3.ho) (.slice a7' n7' c7') (.slice a8' n8' c8'))
 refine wpAnyH_ready (rs := [13]) (by as_aux_lemma => kernel_rfl) (by simp) ?_
 refine AllReadyH.cons (o := _) rfl (fun K hK => ?_) AllReadyH.nil
 go_simp
 clear z0 z1 z2 z3 z4 f0 f1 f2 f3 f4
 generalize World.setCell (World.setCell (World.setCell (World.setCell (World.setCell W8 _ _) _ _) _ _) _ _) _ _ = W9 at HZN HFN ⊢
 have HF9 := Lib.hid ((HF7.out.trans HFA.out).new HFN.out (fun x hx => by rw [List.mem_singleton.1 hx, HGZ.out]; exact HF7.out.size))
 have hS9 := HSB3.out W9 HF9.out
 refine hK.out _ _ hS9 (fun hHeld => ?_)
 clear hK K
 try simp only [Act.put, List.setIfInBounds_toArray, List.set_cons_zero, List.set_cons_succ]
 refine wpAnyH_take (i := 14) (v := ?fv14h12n15) (by as_aux_lemma => (simp only [List.getElem?_toArray, List.getElem?_cons_zero, List.getElem?_cons_succ]; rfl)) (by as_aux_lemma => kernel_rfl) (by as_aux_lemma => kernel_rfl) (by as_aux_lemma => kernel_rfl) (fun _ _ _ h => h) (Or.inl ⟨by rfl, ?fy14h12n15⟩) (by assumption) ?fr14h12n15
 case fy14h12n15 => (intro w hSw; (try dsimp only [SWd, C5] at hSw); go_simp; try with_reducible rfl)
 try simp only [Act.put, List.setIfInBounds_toArray, List.set_cons_zero, List.set_cons_succ]
 refine wpAnyH_done (by as_aux_lemma => kernel_rfl) ?_ _
 refine NoPanic.normal ?_
 go_wp2_with fail
 go_meet
 exact ⟨rfl, HF9⟩
 )
                        refine AllReadyH.cons (o := _) rfl (fun K hK => ?_) AllReadyH.nil
                        focus (
 go_simp
 have HZ := Lib.hid (heap_alloc_new WD (.cells #[.int .i64 0, .int .i64 0, .int .i64 0, .slice none 0 0, .slice none 0 0] 27))
 have HFA := Lib.hid (Fr.alloc WD (.cells #[.int .i64 0, .int .i64 0, .int .i64 0, .slice none 0 0, .slice none 0 0] 27) [])
 have hSX := hHeld.fr HFA.out
 refine hK.out _ _ hSX (fun hHeld => ?_)
 clear hK K
 try simp only [Act.put, List.setIfInBounds_toArray, List.set_cons_zero, List.set_cons_succ]
 generalize World.alloc WD _ = W8 at HZ HFA hHeld ⊢
 obtain ⟨gz, hgz⟩ : ∃ gz, gz = WD.heap.size := ⟨_, rfl⟩
 have HGZ := Lib.hid hgz
 rw [← hgz] at HZ ⊢
 clear hgz hSX
 refine wpAnyH_ready (rs := [8]) (by as_aux_lemma => kernel_rfl) (by simp) ?_
 refine AllReadyH.cons (o := _) rfl (fun K hK => ?_) AllReadyH.nil
 go_simp
 ((with_reducible refine (BE.out _ (HFD.out.trans HFA.out)).mono ?_); rintro e w7 ⟨u, rfl, x, rfl, ⟨vm7, ve7, rfl, h7, k7⟩, hf, hal⟩; have HF7 := Lib.hid ((HFD.out.trans HFA.out).trans hf); have HZ7 := Lib.hid (hf.heap HZ.out (by simp)); have hS := HSB3.out _ HF7.out; obtain ⟨a7', c7', e7, _⟩ := h7; obtain ⟨a8', c8', e8, _⟩ := k7; obtain ⟨n7', hn7⟩ : ∃ x, x = R3.ms.length := ⟨_, rfl⟩; obtain ⟨n8', hn8⟩ : ∃ x, x = R3.es.length := ⟨_, rfl⟩; rw [← hn7] at e7; rw [← hn8] at e8; subst e7 e8; have HAL := Lib.hid hal; clear hal hn7 hn8; unfold rgV)
 go_wp2_with fail
 refine hK.out _ _ hS (fun hHeld => ?_)
 clear hK K
 try simp only [Act.put, List.setIfInBounds_toArray, List.set_cons_zero, List.set_cons_succ]
 refine wpAnyH_take (i := 9) (v := ?fv9h12n16) (by as_aux_lemma => (simp only [List.getElem?_toArray, List.getElem?_cons_zero, List.getElem?_cons_succ]; rfl)) (by as_aux_lemma => kernel_rfl) (by as_aux_lemma => kernel_rfl) (by as_aux_lemma => kernel_rfl) (fun _ _ _ h => h) (Or.inl ⟨by rfl, ?fy9h12n16⟩) (by assumption) ?fr9h12n16
 case fy9h12n16 => (intro w hSw; (try dsimp only [SWd, C5] at hSw); go_simp; try with_reducible rfl)
 try simp only [Act.put, List.setIfInBounds_toArray, List.set_cons_zero, List.set_cons_succ]
 refine wpAnyH_take (i := 10) (v := ?fv10h12n16) (by as_aux_lemma => (simp only [List.getElem?_toArray, List.getElem?_cons_zero, List.getElem?_cons_succ]; rfl)) (by as_aux_lemma => kernel_rfl) (by as_aux_lemma => kernel_rfl) (by as_aux_lemma => kernel_rfl) (fun _ _ _ h => h) (Or.inl ⟨by rfl, ?fy10h12n16⟩) (by assumption) ?fr10h12n16
 case fy10h12n16 => (intro w hSw; (try dsimp only [SWd, C5] at hSw); go_simp; try with_reducible rfl)
 try simp only [Act.put, List.setIfInBounds_toArray, List.set_cons_zero, List.set_cons_succ]
 refine wpAnyH_take (i := 11) (v := ?fv11h12n16) (by as_aux_lemma => (simp only [List.getElem?_toArray, List.getElem?_cons_zero, List.getElem?_cons_succ]; rfl)) (by as_aux_lemma => kernel_rfl) (by as_aux_lemma => kernel_rfl) (by as_aux_lemma => kernel_rfl) (fun _ _ _ h => h) (Or.inl ⟨by rfl, ?fy11h12n16⟩) (by assumption) ?fr11h12n16
 case fy11h12n16 => (intro w hSw; (try dsimp only [SWd, C5] at hSw); go_simp; try with_reducible rfl)
 try simp only [Act.put, List.setIfInBounds_toArray, List.set_cons_zero, List.set_cons_succ]
 clear hS
 obtain ⟨z0, z1, z2, z3, z4⟩ := row5 HZ7.out
 obtain ⟨f0, f1, f2, f3, f4⟩ := fz5 HZ7.out
 have HZN := Lib.hid (set5 HZ7.out (.int .i64 R3.co) (.int .i64 R3.fo) (.int .i64 R3.ho) (.slice a7' n7' c7') (.slice a8' n8' c8'))
 have HFN := Lib.hid (set5_fr w7 gz (.int .i64 R3.co) (.int .i64 R3.fo) (.int .i64 R3.ho) (.slice a7' n7' c7') (.slice a8' n8' c8'))
 refine wpAnyH_ready (rs := [13]) (by as_aux_lemma => kernel_rfl) (by simp) ?_
 refine AllReadyH.cons (o := _) rfl (fun K hK => ?_) AllReadyH.nil
 go_simp
 clear z0 z1 z2 z3 z4 f0 f1 f2 f3 f4
 generalize World.setCell (World.setCell (World.setCell (World.setCell (World.setCell w7 _ _) _ _) _ _) _ _) _ _ = W9 at HZN HFN ⊢
 have HF9 := Lib.hid (HF7.out.new HFN.out (fun x hx => by rw [List.mem_singleton.1 hx, HGZ.out]; exact HFD.out.size))
 have hS9 := HSB3.out W9 HF9.out
 refine hK.out _ _ hS9 (fun hHeld => ?_)
 clear hK K
 try simp only [Act.put, List.setIfInBounds_toArray, List.set_cons_zero, List.set_cons_succ]
 refine wpAnyH_take (i := 14) (v := ?fv14h12n17) (by as_aux_lemma => (simp only [List.getElem?_toArray, List.getElem?_cons_zero, List.getElem?_cons_succ]; rfl)) (by as_aux_lemma => kernel_rfl) (by as_aux_lemma => kernel_rfl) (by as_aux_lemma => kernel_rfl) (fun _ _ _ h => h) (Or.inl ⟨by rfl, ?fy14h12n17⟩) (by assumption) ?fr14h12n17
 case fy14h12n17 => (intro w hSw; (try dsimp only [SWd, C5] at hSw); go_simp; try with_reducible rfl)
 try simp only [Act.put, List.setIfInBounds_toArray, List.set_cons_zero, List.set_cons_succ]
 refine wpAnyH_done (by as_aux_lemma => kernel_rfl) ?_ _
 refine NoPanic.normal ?_
 go_wp2_with fail
 go_meet
 exact ⟨rfl, HF9⟩
 )
                    case rest =>
                    obtain ⟨rfl, HFZ⟩ := hcut
                    obtain ⟨WZ, rfl⟩ : ∃ W, W = wc := ⟨_, rfl⟩
                    have HB8 := Lib.hid (HFZ.out.heap HY.out.box (by simp))
                    have HX8 := Lib.hid ((HY.out.f.trans HFZ.out).heap HJ.out.box (by simp))
                    obtain ⟨z0, z1, z2, z3, z4⟩ := row5 HB8.out
                    obtain ⟨x0, x1, x2, x3, x4⟩ := row5 HX8.out
                    obtain ⟨f0, f1, f2, f3, f4⟩ := fz5 HX8.out
                    have HZN := Lib.hid (set5 HX8.out (.int .i64 R2.co) (.int .i64 R2.fo) (.int .i64 R2.ho) (.slice s1 m s2) (.slice s3 l3 s4))
                    have HFN := Lib.hid (set5_fr WZ g2 (.int .i64 R2.co) (.int .i64 R2.fo) (.int .i64 R2.ho) (.slice s1 m s2) (.slice s3 l3 s4))
                    go_upto_region 26 with fail
                    generalize World.setCell (World.setCell (World.setCell (World.setCell (World.setCell WZ _ _) _ _) _ _) _ _) _ _ = W9 at HZN HFN ⊢
                    clear z0 z1 z2 z3 z4 x0 x1 x2 x3 x4 f0 f1 f2 f3 f4
                    have HP := Lib.hid (HY.out.al W9 ((HFZ.out.mono (fun x hx => by cases hx)).trans HFN.out))
                    have HJN := Lib.hid (JIn.mk HZN.out HP.out.1 HP.out.2 HON2.out.1 (HJ.out.kept.trans HON2.out.2) HWS.out.wants ((HJ.out.hw.keep (HY.out.f.trans HFZ.out)).fr HFN.out (fun r hr => by rw [List.mem_singleton.1 hr]; exact HNE.out)) (((HJ.out.f.trans HY.out.f).trans HFZ.out).new HFN.out (fun x hx => by rw [List.mem_singleton.1 hx, HG2.out]; exact HFQ.out.size)))
                    clear HWS HJ HY HY0 HB8 HX8 HFZ HZN HFN HP BE HSB3 HON2 q0 q1
                    go_wp2
                    go_roundw
                    case rel => exact ⟨k + 1, at3, R2, _, _, by omega, hat3, by go_num, rfl, HJN⟩
                    case measure => simp [intOf]; omega
                · have dl2 : decide ((k : Int) < (nw : Int)) = false := decide_eq_false (by omega)
                  obtain ⟨WB, rfl⟩ : ∃ W, W = wr := ⟨_, rfl⟩
                  have AW := Lib.hid (lg_is.award R' _ _ WB HJ.out.hm HJ.out.he HSR.out)
                  unfold rgV at AW
                  have HOA := Lib.hid (once_award HJ.out.once HMS.out.2.1 HMS.out.1)
                  obtain ⟨A, hA⟩ : ∃ A, A = awardR R' := ⟨_, rfl⟩
                  obtain ⟨won, hwon⟩ : ∃ X, X = wonR R' := ⟨_, rfl⟩
                  rw [← hA, ← hwon] at HOA
                  obtain ⟨y0, y1, y2, y3, y4⟩ := row5 HJ.out.box
                  go_wp2_with fail
                  with_reducible refine (AW.out).mono ?_
                  rintro e w5 ⟨u, rfl, x, v, rfl, ⟨um3, ue3, rfl, h5, h6⟩, hv, hf⟩
                  rw [← hA] at h5 h6 ⊢
                  rw [← hwon] at hv
                  have HAM := Lib.hid h5
                  have HAE := Lib.hid h6
                  have HWV := Lib.hid hv
                  obtain ⟨b1, b2, e1, _⟩ := h5
                  obtain ⟨b3, b4, e2, _⟩ := h6
                  obtain ⟨av, cv, e3, _⟩ := hv
                  have hmA : A.ms.length = m := by rw [HOA.out.1.mem]; exact HM.out.symm
                  rw [hmA] at e1
                  obtain ⟨nA, hnA⟩ : ∃ x, x = A.es.length := ⟨_, rfl⟩
                  have HNA := Lib.hid hnA
                  rw [← hnA] at e2
                  obtain ⟨nv, hnv⟩ : ∃ x, x = won.length := ⟨_, rfl⟩
                  have HNV := Lib.hid hnv
                  rw [← hnv] at e3
                  subst e1 e2 e3
                  have hnv128 : nv ≤ 128 := by rw [hnv, hwon]; unfold wonR; rw [List.length_map]; have := List.length_filter_le (winE R'.ms) R'.es; have := HRL.out; omega
                  have hm8 : m ≤ 8 := HMS.out.2.2.2
                  unfold rgV
                  clear hnA hnv hmA hA hwon AW y0 y1 y2 y3 y4
                  have HBA := Lib.hid (box_ring w5 (.int .i64 A.co) (.int .i64 A.fo) (.int .i64 A.ho) (.slice b1 m b2) (.slice b3 nA b4))
                  obtain ⟨g4, hg4⟩ : ∃ x, x = w5.heap.size := ⟨_, rfl⟩
                  rw [← hg4] at HBA
                  go_upto_region 37 with fail
                  rw [← hg4]
                  generalize World.alloc w5 _ = W5 at HBA ⊢
                  clear hg4
                  have HF5 := Lib.hid (hf.trans HBA.out.2)
                  have HAM5 := Lib.hid (HAM.out.keep HBA.out.2)
                  have HAE5 := Lib.hid (HAE.out.keep HBA.out.2)
                  have HWV5 := Lib.hid (HWV.out.keep HBA.out.2)
                  have HSE : Hid (∀ V', Fr W5 V' [] → C5 g (.int .i64 R.co) (.int .i64 R.fo) (.int .i64 R.ho) (.slice (some ⟨bm, om, none⟩) m pc) ue V') :=
                    Lib.hid (fun V' hV => (show C5 _ _ _ _ _ _ WA from row5 HO.out.box).fr ((HJ.out.f.trans HF5.out).trans hV) (by simp))
                  have HSA : Hid (∀ V', Fr W5 V' [] → C5 g4 (.int .i64 A.co) (.int .i64 A.fo) (.int .i64 A.ho) (.slice b1 m b2) (.slice b3 nA b4) V') :=
                    Lib.hid (fun V' hV => (show C5 _ _ _ _ _ _ W5 from row5 HBA.out.1).fr hV (by simp))
                  clear HAM HAE HWV hf
                  go_wp2_with fail
                  go_loopw [26] (fun s26 wx => ∃ a : Nat, a ≤ nv ∧ s26 = .int .i64 a ∧ Hid (Fr W5 wx [])) (fun s26 _ => nv - (intOf s26).toNat)
                  case atStart => exact ⟨0, Nat.zero_le _, rfl, Lib.hid (Fr.refl _ _)⟩
                  case round =>
                    obtain ⟨a, ha, rfl, HFa⟩ := hrel
                    by_cases hlt3 : a < nv
                    · have dl3 : decide ((a : Int) < (nv : Int)) = true := decide_eq_true (by omega)
                      as_aux_lemma =>
                        obtain ⟨bl, off, vb, rfl, hE, hB⟩ := HWV5.out.ent hlt3
                        have HEW := Lib.hid (HOA.out.2.2 (won.getD a zeroE) (getD_mem (by rw [← HNV.out]; exact hlt3) zeroE))
                        generalize won.getD a zeroE = E at hE hB HEW
                        obtain ⟨zb, zc, hvb⟩ := hB.shape
                        have HEL := Lib.hid HEW.out.len
                        rw [HEL.out, ← HM.out] at hvb
                        subst hvb
                        have HE5 := Lib.hid hE
                        have HB5 := Lib.hid hB
                        have HAW := Lib.hid HEW.out.aw
                        obtain ⟨E0, E1, E2, ebs, ea⟩ := E
                        dsimp only at HB5 HAW HEL
                        clear hE hB
                        have da : decide (ea < (0 : Int)) = false := decide_eq_false (by have := HAW.out; omega)
                        have hap : (0 : Int) ≤ (a : Int) ∧ (a : Int) < (nv : Int) := by omega
                        have HSW : Hid (∀ V', Fr wr V' [] → SWe wr g (.int .i64 R.co) (.int .i64 R.fo) (.int .i64 R.ho) (.slice (some ⟨bm, om, none⟩) m pc) ue bl (off + a * 5) ⟨E0, E1, E2, ebs, ea⟩ (.slice zb m zc) V') :=
                          Lib.hid (fun V' hV => ⟨hV, HSE.out _ (HFa.out.trans hV), HE5.out.keep (HFa.out.trans hV)⟩)
                        go_upto_region 40 with fail
                        refine wp_region_noPanic ?_
                        refine wp_region_held_drew (S := SWe wr g (.int .i64 R.co) (.int .i64 R.fo) (.int .i64 R.ho) (.slice (some ⟨bm, om, none⟩) m pc) ue bl (off + a * 5) ⟨E0, E1, E2, ebs, ea⟩ (.slice zb m zc)) (by as_aux_lemma => kernel_rfl) (HSW.out _ (Fr.drew wr [])) (fun hHeld => ?_)
                        refine wpAnyH_take (i := 0) (v := ?fv0h18n19) (by as_aux_lemma => (simp only [List.getElem?_toArray, List.getElem?_cons_zero]; rfl)) (by as_aux_lemma => kernel_rfl) (by as_aux_lemma => kernel_rfl) (by as_aux_lemma => kernel_rfl) (fun _ _ _ h => h) (Or.inl ⟨by rfl, ?fy0h18n19⟩) (by assumption) ?fr0h18n19
                        case fy0h18n19 => (intro w hSw; (try dsimp only [SWe, C5, EnAt] at hSw); go_simp; try with_reducible rfl)
                        try simp only [Act.put, List.setIfInBounds_toArray, List.set_cons_zero, List.set_cons_succ]
                        refine wpAnyH_take (i := 1) (v := ?fv1h18n19) (by as_aux_lemma => (simp only [List.getElem?_toArray, List.getElem?_cons_zero, List.getElem?_cons_succ]; rfl)) (by as_aux_lemma => kernel_rfl) (by as_aux_lemma => kernel_rfl) (by as_aux_lemma => kernel_rfl) (fun _ _ _ h => h) (Or.inl ⟨by rfl, ?fy1h18n19⟩) (by assumption) ?fr1h18n19
                        case fy1h18n19 => (intro w hSw; (try dsimp only [SWe, C5, EnAt] at hSw); go_simp; try with_reducible rfl)
                        try simp only [Act.put, List.setIfInBounds_toArray, List.set_cons_zero, List.set_cons_succ]
                        refine wpAnyH_take (i := 2) (v := ?fv2h18n19) (by as_aux_lemma => (simp only [List.getElem?_toArray, List.getElem?_cons_zero, List.getElem?_cons_succ]; rfl)) (by as_aux_lemma => kernel_rfl) (by as_aux_lemma => kernel_rfl) (by as_aux_lemma => kernel_rfl) (fun _ _ _ h => h) (Or.inl ⟨by rfl, ?fy2h18n19⟩) (by assumption) ?fr2h18n19
                        case fy2h18n19 => (intro w hSw; (try dsimp only [SWe, C5, EnAt] at hSw); go_simp; try with_reducible rfl)
                        try simp only [Act.put, List.setIfInBounds_toArray, List.set_cons_zero, List.set_cons_succ]
                        refine wpAnyH_take (i := 3) (v := ?fv3h18n19) (by as_aux_lemma => (simp only [List.getElem?_toArray, List.getElem?_cons_zero, List.getElem?_cons_succ]; rfl)) (by as_aux_lemma => kernel_rfl) (by as_aux_lemma => kernel_rfl) (by as_aux_lemma => kernel_rfl) (fun _ _ _ h => h) (Or.inl ⟨by rfl, ?fy3h18n19⟩) (by assumption) ?fr3h18n19
                        case fy3h18n19 => (intro w hSw; (try dsimp only [SWe, C5, EnAt] at hSw); go_simp; try with_reducible rfl)
                        try simp only [Act.put, List.setIfInBounds_toArray, List.set_cons_zero, List.set_cons_succ]
                        refine wpAnyH_take (i := 4) (v := ?fv4h18n19) (by as_aux_lemma => (simp only [List.getElem?_toArray, List.getElem?_cons_zero, List.getElem?_cons_succ]; rfl)) (by as_aux_lemma => kernel_rfl) (by as_aux_lemma => kernel_rfl) (by as_aux_lemma => kernel_rfl) (fun _ _ _ h => h) (Or.inl ⟨by rfl, ?fy4h18n19⟩) (by assumption) ?fr4h18n19
                        case fy4h18n19 => (intro w hSw; (try dsimp only [SWe, C5, EnAt] at hSw); go_simp; try with_reducible rfl)
                        try simp only [Act.put, List.setIfInBounds_toArray, List.set_cons_zero, List.set_cons_succ]
                        refine wpAnyH_take (i := 5) (v := ?fv5h18n19) (by as_aux_lemma => (simp only [List.getElem?_toArray, List.getElem?_cons_zero, List.getElem?_cons_succ]; rfl)) (by as_aux_lemma => kernel_rfl) (by as_aux_lemma => kernel_rfl) (by as_aux_lemma => kernel_rfl) (fun _ _ _ h => h) (Or.inl ⟨by rfl, ?fy5h18n19⟩) (by assumption) ?fr5h18n19
                        case fy5h18n19 => (intro w hSw; (try dsimp only [SWe, C5, EnAt] at hSw); go_simp; try with_reducible rfl)
                        try simp only [Act.put, List.setIfInBounds_toArray, List.set_cons_zero, List.set_cons_succ]
                        refine wpAnyH_take (i := 6) (v := ?fv6h18n19) (by as_aux_lemma => (simp only [List.getElem?_toArray, List.getElem?_cons_zero, List.getElem?_cons_succ]; rfl)) (by as_aux_lemma => kernel_rfl) (by as_aux_lemma => kernel_rfl) (by as_aux_lemma => kernel_rfl) (fun _ _ _ h => h) (Or.inl ⟨by rfl, ?fy6h18n19⟩) (by assumption) ?fr6h18n19
                        case fy6h18n19 => (intro w hSw; (try dsimp only [SWe, C5, EnAt] at hSw); go_simp; try with_reducible rfl)
                        try simp only [Act.put, List.setIfInBounds_toArray, List.set_cons_zero, List.set_cons_succ]
                        refine wpAnyH_take (i := 7) (v := ?fv7h18n19) (by as_aux_lemma => (simp only [List.getElem?_toArray, List.getElem?_cons_zero, List.getElem?_cons_succ]; rfl)) (by as_aux_lemma => kernel_rfl) (by as_aux_lemma => kernel_rfl) (by as_aux_lemma => kernel_rfl) (fun _ _ _ h => h) (Or.inl ⟨by rfl, ?fy7h18n19⟩) (by assumption) ?fr7h18n19
                        case fy7h18n19 => (intro w hSw; (try dsimp only [SWe, C5, EnAt] at hSw); go_simp; try with_reducible rfl)
                        try simp only [Act.put, List.setIfInBounds_toArray, List.set_cons_zero, List.set_cons_succ]
                        refine wpAnyH_take (i := 8) (v := ?fv8h18n19) (by as_aux_lemma => (simp only [List.getElem?_toArray, List.getElem?_cons_zero, List.getElem?_cons_succ]; rfl)) (by as_aux_lemma => kernel_rfl) (by as_aux_lemma => kernel_rfl) (by as_aux_lemma => kernel_rfl) (fun _ _ _ h => h) (Or.inl ⟨by rfl, ?fy8h18n19⟩) (by assumption) ?fr8h18n19
                        case fy8h18n19 => (intro w hSw; (try dsimp only [SWe, C5, EnAt] at hSw); go_simp; try with_reducible rfl)
                        try simp only [Act.put, List.setIfInBounds_toArray, List.set_cons_zero, List.set_cons_succ]
                        refine wpAnyH_take (i := 9) (v := ?fv9h18n19) (by as_aux_lemma => (simp only [List.getElem?_toArray, List.getElem?_cons_zero, List.getElem?_cons_succ]; rfl)) (by as_aux_lemma => kernel_rfl) (by as_aux_lemma => kernel_rfl) (by as_aux_lemma => kernel_rfl) (fun _ _ _ h => h) (Or.inl ⟨by rfl, ?fy9h18n19⟩) (by assumption) ?fr9h18n19
                        case fy9h18n19 => (intro w hSw; (try dsimp only [SWe, C5, EnAt] at hSw); go_simp; try with_reducible rfl)
                        try simp only [Act.put, List.setIfInBounds_toArray, List.set_cons_zero, List.set_cons_succ]
                        refine wpAnyH_take (i := 10) (v := ?fv10h18n19) (by as_aux_lemma => (simp only [List.getElem?_toArray, List.getElem?_cons_zero, List.getElem?_cons_succ]; rfl)) (by as_aux_lemma => kernel_rfl) (by as_aux_lemma => kernel_rfl) (by as_aux_lemma => kernel_rfl) (fun _ _ _ h => h) (Or.inl ⟨by rfl, ?fy10h18n19⟩) (by assumption) ?fr10h18n19
                        case fy10h18n19 => (intro w hSw; (try dsimp only [SWe, C5, EnAt] at hSw); go_simp; try with_reducible rfl)
                        try simp only [Act.put, List.setIfInBounds_toArray, List.set_cons_zero, List.set_cons_succ]
                        refine wpAnyH_take (i := 11) (v := ?fv11h18n19) (by as_aux_lemma => (simp only [List.getElem?_toArray, List.getElem?_cons_zero, List.getElem?_cons_succ]; rfl)) (by as_aux_lemma => kernel_rfl) (by as_aux_lemma => kernel_rfl) (by as_aux_lemma => kernel_rfl) (fun _ _ _ h => h) (Or.inl ⟨by rfl, ?fy11h18n19⟩) (by assumption) ?fr11h18n19
                        case fy11h18n19 => (intro w hSw; (try dsimp only [SWe, C5, EnAt] at hSw); go_simp; try with_reducible rfl)
                        try simp only [Act.put, List.setIfInBounds_toArray, List.set_cons_zero, List.set_cons_succ]
                        refine wpAnyH_take (i := 12) (v := ?fv12h18n19) (by as_aux_lemma => (simp only [List.getElem?_toArray, List.getElem?_cons_zero, List.getElem?_cons_succ]; rfl)) (by as_aux_lemma => kernel_rfl) (by as_aux_lemma => kernel_rfl) (by as_aux_lemma => kernel_rfl) (fun _ _ _ h => h) (Or.inl ⟨by rfl, ?fy12h18n19⟩) (by assumption) ?fr12h18n19
                        case fy12h18n19 => (intro w hSw; (try dsimp only [SWe, C5, EnAt] at hSw); go_simp; try with_reducible rfl)
                        try simp only [Act.put, List.setIfInBounds_toArray, List.set_cons_zero, List.set_cons_succ]
                        refine wpAnyH_take (i := 13) (v := ?fv13h18n19) (by as_aux_lemma => (simp only [List.getElem?_toArray, List.getElem?_cons_zero, List.getElem?_cons_succ]; rfl)) (by as_aux_lemma => kernel_rfl) (by as_aux_lemma => kernel_rfl) (by as_aux_lemma => kernel_rfl) (fun _ _ _ h => h) (Or.inl ⟨by rfl, ?fy13h18n19⟩) (by assumption) ?fr13h18n19
                        case fy13h18n19 => (intro w hSw; (try dsimp only [SWe, C5, EnAt] at hSw); go_simp; try with_reducible rfl)
                        try simp only [Act.put, List.setIfInBounds_toArray, List.set_cons_zero, List.set_cons_succ]
                        refine wpAnyH_take (i := 14) (v := ?fv14h18n19) (by as_aux_lemma => (simp only [List.getElem?_toArray, List.getElem?_cons_zero, List.getElem?_cons_succ]; rfl)) (by as_aux_lemma => kernel_rfl) (by as_aux_lemma => kernel_rfl) (by as_aux_lemma => kernel_rfl) (fun _ _ _ h => h) (Or.inl ⟨by rfl, ?fy14h18n19⟩) (by assumption) ?fr14h18n19
                        case fy14h18n19 => (intro w hSw; (try dsimp only [SWe, C5, EnAt] at hSw); go_simp; try with_reducible rfl)
                        try simp only [Act.put, List.setIfInBounds_toArray, List.set_cons_zero, List.set_cons_succ]
                        refine wpAnyH_take (i := 15) (v := ?fv15h18n19) (by as_aux_lemma => (simp only [List.getElem?_toArray, List.getElem?_cons_zero, List.getElem?_cons_succ]; rfl)) (by as_aux_lemma => kernel_rfl) (by as_aux_lemma => kernel_rfl) (by as_aux_lemma => kernel_rfl) (fun _ _ _ h => h) (Or.inl ⟨by rfl, ?fy15h18n19⟩) (by assumption) ?fr15h18n19
                        case fy15h18n19 => (intro w hSw; (try dsimp only [SWe, C5, EnAt] at hSw); go_simp; try with_reducible rfl)
                        try simp only [Act.put, List.setIfInBounds_toArray, List.set_cons_zero, List.set_cons_succ]
                        refine wpAnyH_take (i := 16) (v := ?fv16h18n19) (by as_aux_lemma => (simp only [List.getElem?_toArray, List.getElem?_cons_zero, List.getElem?_cons_succ]; rfl)) (by as_aux_lemma => kernel_rfl) (by as_aux_lemma => kernel_rfl) (by as_aux_lemma => kernel_rfl) (fun _ _ _ h => h) (Or.inl ⟨by rfl, ?fy16h18n19⟩) (by assumption) ?fr16h18n19
                        case fy16h18n19 => (intro w hSw; (try dsimp only [SWe, C5, EnAt] at hSw); go_simp; try with_reducible rfl)
                        try simp only [Act.put, List.setIfInBounds_toArray, List.set_cons_zero, List.set_cons_succ]
                        refine wpAnyH_take (i := 17) (v := ?fv17h18n19) (by as_aux_lemma => (simp only [List.getElem?_toArray, List.getElem?_cons_zero, List.getElem?_cons_succ]; rfl)) (by as_aux_lemma => kernel_rfl) (by as_aux_lemma => kernel_rfl) (by as_aux_lemma => kernel_rfl) (fun _ _ _ h => h) (Or.inl ⟨by rfl, ?fy17h18n19⟩) (by assumption) ?fr17h18n19
                        case fy17h18n19 => (intro w hSw; (try dsimp only [SWe, C5, EnAt] at hSw); go_simp; try with_reducible rfl)
                        try simp only [Act.put, List.setIfInBounds_toArray, List.set_cons_zero, List.set_cons_succ]
                        refine wpAnyH_done (by as_aux_lemma => kernel_rfl) ?_ _
                        refine NoPanic.normal ?_
                        have HFb := Lib.hid (HFa.out.trans (Fr.drew wr []))
                        clear hHeld HSW da
                        generalize World.drew wr = WC at HFb ⊢
                        go_wp2_with fail
                        go_loopw [27] (fun s27 wx => ∃ b : Nat, b ≤ m ∧ s27 = .int .i64 b ∧ Hid (Fr W5 wx [])) (fun s27 _ => m - (intOf s27).toNat)
                        case atStart => exact ⟨0, Nat.zero_le _, rfl, HFb⟩
                        case round =>
                          obtain ⟨b, hb, rfl, HFc⟩ := hrel
                          obtain ⟨d0, d1, d2, d3, d4⟩ := HE5.out.keep HFc.out
                          dsimp only at d0 d1 d2 d3 d4
                          by_cases hlt4 : b < m
                          · have dl4 : decide ((b : Int) < (m : Int)) = true := decide_eq_true (by omega)
                            obtain ⟨bb, ob, rfl, c0, c1⟩ := HB5.out.bid hlt4
                            have HIN := Lib.hid (getD_mem (l := ebs) (k := b) (by rw [HEL.out, ← HM.out]; exact hlt4) (0, 0))
                            generalize ebs.getD b (0, 0) = o at c0 c1 HIN
                            obtain ⟨o1, o2⟩ := o
                            dsimp only at c0 c1
                            have k0 := HFc.out.cell c0 (by simp)
                            have k1 := HFc.out.cell c1 (by simp)
                            have hbp : (0 : Int) ≤ (b : Int) ∧ (b : Int) < (m : Int) := by omega
                            have HTo := Lib.hid (heap_alloc_new wr (.cells #[.int .i64 o1, .int .i64 o2] 42))
                            have HFo := Lib.hid (Fr.alloc wr (.cells #[.int .i64 o1, .int .i64 o2] 42) [])
                            obtain ⟨go', hgo⟩ : ∃ x, x = wr.heap.size := ⟨_, rfl⟩
                            rw [← hgo] at HTo
                            clear c0 c1
                            go_upto_region 46 with fail
                            rw [← hgo]
                            generalize World.alloc wr _ = WG at HTo HFo ⊢
                            clear hgo k0 k1 d0 d1 d2 d3 d4
                            have HFg := Lib.hid (HFc.out.trans HFo.out)
                            have HSG : Hid (∀ V', Fr WG V' [] → SBo WG go' o1 o2 bl (off + a * 5) ⟨E0, E1, E2, ebs, ea⟩ (.slice (some ⟨bb, ob, none⟩) m zc) V') :=
                              Lib.hid (fun V' hV => ⟨hV, hV.cell (brow HTo.out).1 (by simp), hV.cell (brow HTo.out).2 (by simp), HE5.out.keep (HFg.out.trans hV)⟩)
                            refine wp_region_noPanic ?_
                            refine wp_region_held_drew (S := SBo WG go' o1 o2 bl (off + a * 5) ⟨E0, E1, E2, ebs, ea⟩ (.slice (some ⟨bb, ob, none⟩) m zc)) (by as_aux_lemma => kernel_rfl) (HSG.out _ (Fr.drew WG [])) (fun hHeld => ?_)
                            refine wpAnyH_take (i := 0) (v := ?fv0h20n21) (by as_aux_lemma => (simp only [List.getElem?_toArray, List.getElem?_cons_zero]; rfl)) (by as_aux_lemma => kernel_rfl) (by as_aux_lemma => kernel_rfl) (by as_aux_lemma => kernel_rfl) (fun _ _ _ h => h) (Or.inl ⟨by rfl, ?fy0h20n21⟩) (by assumption) ?fr0h20n21
                            case fy0h20n21 => (intro w hSw; (try dsimp only [SBo, EnAt] at hSw); go_simp; try with_reducible rfl)
                            try simp only [Act.put, List.setIfInBounds_toArray, List.set_cons_zero, List.set_cons_succ]
                            refine wpAnyH_take (i := 1) (v := ?fv1h20n21) (by as_aux_lemma => (simp only [List.getElem?_toArray, List.getElem?_cons_zero, List.getElem?_cons_succ]; rfl)) (by as_aux_lemma => kernel_rfl) (by as_aux_lemma => kernel_rfl) (by as_aux_lemma => kernel_rfl) (fun _ _ _ h => h) (Or.inl ⟨by rfl, ?fy1h20n21⟩) (by assumption) ?fr1h20n21
                            case fy1h20n21 => (intro w hSw; (try dsimp only [SBo, EnAt] at hSw); go_simp; try with_reducible rfl)
                            try simp only [Act.put, List.setIfInBounds_toArray, List.set_cons_zero, List.set_cons_succ]
                            refine wpAnyH_take (i := 2) (v := ?fv2h20n21) (by as_aux_lemma => (simp only [List.getElem?_toArray, List.getElem?_cons_zero, List.getElem?_cons_succ]; rfl)) (by as_aux_lemma => kernel_rfl) (by as_aux_lemma => kernel_rfl) (by as_aux_lemma => kernel_rfl) (fun _ _ _ h => h) (Or.inl ⟨by rfl, ?fy2h20n21⟩) (by assumption) ?fr2h20n21
                            case fy2h20n21 => (intro w hSw; (try dsimp only [SBo, EnAt] at hSw); go_simp; try with_reducible rfl)
                            try simp only [Act.put, List.setIfInBounds_toArray, List.set_cons_zero, List.set_cons_succ]
                            refine wpAnyH_take (i := 3) (v := ?fv3h20n21) (by as_aux_lemma => (simp only [List.getElem?_toArray, List.getElem?_cons_zero, List.getElem?_cons_succ]; rfl)) (by as_aux_lemma => kernel_rfl) (by as_aux_lemma => kernel_rfl) (by as_aux_lemma => kernel_rfl) (fun _ _ _ h => h) (Or.inl ⟨by rfl, ?fy3h20n21⟩) (by assumption) ?fr3h20n21
                            case fy3h20n21 => (intro w hSw; (try dsimp only [SBo, EnAt] at hSw); go_simp; try with_reducible rfl)
                            try simp only [Act.put, List.setIfInBounds_toArray, List.set_cons_zero, List.set_cons_succ]
                            refine wpAnyH_take (i := 4) (v := ?fv4h20n21) (by as_aux_lemma => (simp only [List.getElem?_toArray, List.getElem?_cons_zero, List.getElem?_cons_succ]; rfl)) (by as_aux_lemma => kernel_rfl) (by as_aux_lemma => kernel_rfl) (by as_aux_lemma => kernel_rfl) (fun _ _ _ h => h) (Or.inl ⟨by rfl, ?fy4h20n21⟩) (by assumption) ?fr4h20n21
                            case fy4h20n21 => (intro w hSw; (try dsimp only [SBo, EnAt] at hSw); go_simp; try with_reducible rfl)
                            try simp only [Act.put, List.setIfInBounds_toArray, List.set_cons_zero, List.set_cons_succ]
                            refine wpAnyH_take (i := 5) (v := ?fv5h20n21) (by as_aux_lemma => (simp only [List.getElem?_toArray, List.getElem?_cons_zero, List.getElem?_cons_succ]; rfl)) (by as_aux_lemma => kernel_rfl) (by as_aux_lemma => kernel_rfl) (by as_aux_lemma => kernel_rfl) (fun _ _ _ h => h) (Or.inl ⟨by rfl, ?fy5h20n21⟩) (by assumption) ?fr5h20n21
                            case fy5h20n21 => (intro w hSw; (try dsimp only [SBo, EnAt] at hSw); go_simp; try with_reducible rfl)
                            try simp only [Act.put, List.setIfInBounds_toArray, List.set_cons_zero, List.set_cons_succ]
                            refine wpAnyH_take (i := 6) (v := ?fv6h20n21) (by as_aux_lemma => (simp only [List.getElem?_toArray, List.getElem?_cons_zero, List.getElem?_cons_succ]; rfl)) (by as_aux_lemma => kernel_rfl) (by as_aux_lemma => kernel_rfl) (by as_aux_lemma => kernel_rfl) (fun _ _ _ h => h) (Or.inl ⟨by rfl, ?fy6h20n21⟩) (by assumption) ?fr6h20n21
                            case fy6h20n21 => (intro w hSw; (try dsimp only [SBo, EnAt] at hSw); go_simp; try with_reducible rfl)
                            try simp only [Act.put, List.setIfInBounds_toArray, List.set_cons_zero, List.set_cons_succ]
                            refine wpAnyH_take (i := 7) (v := ?fv7h20n21) (by as_aux_lemma => (simp only [List.getElem?_toArray, List.getElem?_cons_zero, List.getElem?_cons_succ]; rfl)) (by as_aux_lemma => kernel_rfl) (by as_aux_lemma => kernel_rfl) (by as_aux_lemma => kernel_rfl) (fun _ _ _ h => h) (Or.inl ⟨by rfl, ?fy7h20n21⟩) (by assumption) ?fr7h20n21
                            case fy7h20n21 => (intro w hSw; (try dsimp only [SBo, EnAt] at hSw); go_simp; try with_reducible rfl)
                            try simp only [Act.put, List.setIfInBounds_toArray, List.set_cons_zero, List.set_cons_succ]
                            refine wpAnyH_done (by as_aux_lemma => kernel_rfl) ?_ _
                            refine NoPanic.normal ?_
                            have HFh := Lib.hid (HFg.out.trans (Fr.drew WG []))
                            have HTh := Lib.hid ((Fr.drew WG []).heap HTo.out (by simp))
                            clear hHeld HSG
                            generalize World.drew WG = WH at HFh HTh ⊢
                            by_cases hoe : o1 = ea
                            · have de : (o1 == ea) = true := by simp [hoe]
                              clear hoe
                              go_wp2
                              go_roundw
                              case rel => exact ⟨b + 1, by omega, by go_num, HFh⟩
                              case measure => simp [intOf]; omega
                            · have de : (o1 == ea) = false := by simp [hoe]
                              clear hoe
                              as_aux_lemma =>
                                go_wp2_with fail
                                go_loopw [29] (fun s29 wx => ∃ q : Nat, q ≤ m ∧ s29 = .int .i64 q ∧ Hid (Fr WH wx [])) (fun s29 _ => m - (intOf s29).toNat)
                                case atStart => exact ⟨0, Nat.zero_le _, rfl, Lib.hid (Fr.refl _ _)⟩
                                case round =>
                                  obtain ⟨q, hq, rfl, HFq⟩ := hrel
                                  obtain ⟨d0, d1, d2, d3, d4⟩ := HE5.out.keep (HFh.out.trans HFq.out)
                                  dsimp only at d0 d1 d2 d3 d4
                                  by_cases hlt5 : q < m
                                  · have dl5 : decide ((q : Int) < (m : Int)) = true := decide_eq_true (by omega)
                                    obtain ⟨bb', ob', hbb, c0, c1⟩ := HB5.out.bid hlt5
                                    simp only [Option.some.injEq, Addr.mk.injEq, and_true] at hbb
                                    obtain ⟨rfl, rfl⟩ := hbb
                                    have HIQ := Lib.hid (getD_mem (l := ebs) (k := q) (by rw [HEL.out, ← HM.out]; exact hlt5) (0, 0))
                                    generalize ebs.getD q (0, 0) = p at c0 c1 HIQ
                                    obtain ⟨p1, p2⟩ := p
                                    dsimp only at c0 c1
                                    have HLE := Lib.hid (HEW.out.least (o1, o2) HIN.out (p1, p2) HIQ.out)
                                    dsimp only at HLE
                                    have k0 := (HFh.out.trans HFq.out).cell c0 (by simp)
                                    have k1 := (HFh.out.trans HFq.out).cell c1 (by simp)
                                    have hqp : (0 : Int) ≤ (q : Int) ∧ (q : Int) < (m : Int) := by omega
                                    have HTp := Lib.hid (heap_alloc_new wr (.cells #[.int .i64 p1, .int .i64 p2] 42))
                                    have HFp := Lib.hid (Fr.alloc wr (.cells #[.int .i64 p1, .int .i64 p2] 42) [])
                                    obtain ⟨gp, hgp⟩ : ∃ x, x = wr.heap.size := ⟨_, rfl⟩
                                    rw [← hgp] at HTp
                                    clear c0 c1
                                    go_upto_region 51 with fail
                                    rw [← hgp]
                                    generalize World.alloc wr _ = WI at HTp HFp ⊢
                                    clear hgp k0 k1 d0 d1 d2 d3 d4
                                    have HFi := Lib.hid (HFq.out.trans HFp.out)
                                    have HSI : Hid (∀ V', Fr WI V' [] → SBt WI go' o1 o2 gp p1 p2 bl (off + a * 5) ⟨E0, E1, E2, ebs, ea⟩ (.slice (some ⟨bb, ob, none⟩) m zc) V') :=
                                      Lib.hid (fun V' hV => ⟨hV, ⟨(HFi.out.trans hV).cell (brow HTh.out).1 (by simp), (HFi.out.trans hV).cell (brow HTh.out).2 (by simp)⟩, ⟨hV.cell (brow HTp.out).1 (by simp), hV.cell (brow HTp.out).2 (by simp)⟩, HE5.out.keep ((HFh.out.trans HFi.out).trans hV)⟩)
                                    have HFj := Lib.hid (HFi.out.trans (Fr.drew WI []))
                                    by_cases hpe : p1 = ea
                                    · have dp : (p1 == ea) = true := by simp [hpe]
                                      have hle := HLE.out hpe
                                      have dt : decide (o2 < p2) = false := decide_eq_false (fun h => hle (.inl h))
                                      clear hpe
                                      by_cases hoq : o2 = p2
                                      · have dq : (o2 == p2) = true := by simp [hoq]
                                        have dr : decide (o1 < p1) = false := decide_eq_false (fun h => hle (.inr ⟨hoq, h⟩))
                                        clear hoq hle
                                        refine wp_region_noPanic ?_
                                        refine wp_region_held_drew (S := SBt WI go' o1 o2 gp p1 p2 bl (off + a * 5) ⟨E0, E1, E2, ebs, ea⟩ (.slice (some ⟨bb, ob, none⟩) m zc)) (by as_aux_lemma => kernel_rfl) (HSI.out _ (Fr.drew WI [])) (fun hHeld => ?_)
                                        refine wpAnyH_take (i := 0) (v := ?fv0h22n23) (by as_aux_lemma => (simp only [List.getElem?_toArray, List.getElem?_cons_zero]; rfl)) (by as_aux_lemma => kernel_rfl) (by as_aux_lemma => kernel_rfl) (by as_aux_lemma => kernel_rfl) (fun _ _ _ h => h) (Or.inl ⟨by rfl, ?fy0h22n23⟩) (by assumption) ?fr0h22n23
                                        case fy0h22n23 => (intro w hSw; (try dsimp only [SBt, EnAt] at hSw); go_simp; try with_reducible rfl)
                                        try simp only [Act.put, List.setIfInBounds_toArray, List.set_cons_zero, List.set_cons_succ]
                                        refine wpAnyH_take (i := 1) (v := ?fv1h22n23) (by as_aux_lemma => (simp only [List.getElem?_toArray, List.getElem?_cons_zero, List.getElem?_cons_succ]; rfl)) (by as_aux_lemma => kernel_rfl) (by as_aux_lemma => kernel_rfl) (by as_aux_lemma => kernel_rfl) (fun _ _ _ h => h) (Or.inl ⟨by rfl, ?fy1h22n23⟩) (by assumption) ?fr1h22n23
                                        case fy1h22n23 => (intro w hSw; (try dsimp only [SBt, EnAt] at hSw); go_simp; try with_reducible rfl)
                                        try simp only [Act.put, List.setIfInBounds_toArray, List.set_cons_zero, List.set_cons_succ]
                                        refine wpAnyH_take (i := 2) (v := ?fv2h22n23) (by as_aux_lemma => (simp only [List.getElem?_toArray, List.getElem?_cons_zero, List.getElem?_cons_succ]; rfl)) (by as_aux_lemma => kernel_rfl) (by as_aux_lemma => kernel_rfl) (by as_aux_lemma => kernel_rfl) (fun _ _ _ h => h) (Or.inl ⟨by rfl, ?fy2h22n23⟩) (by assumption) ?fr2h22n23
                                        case fy2h22n23 => (intro w hSw; (try dsimp only [SBt, EnAt] at hSw); go_simp; try with_reducible rfl)
                                        try simp only [Act.put, List.setIfInBounds_toArray, List.set_cons_zero, List.set_cons_succ]
                                        refine wpAnyH_take (i := 3) (v := ?fv3h22n23) (by as_aux_lemma => (simp only [List.getElem?_toArray, List.getElem?_cons_zero, List.getElem?_cons_succ]; rfl)) (by as_aux_lemma => kernel_rfl) (by as_aux_lemma => kernel_rfl) (by as_aux_lemma => kernel_rfl) (fun _ _ _ h => h) (Or.inl ⟨by rfl, ?fy3h22n23⟩) (by assumption) ?fr3h22n23
                                        case fy3h22n23 => (intro w hSw; (try dsimp only [SBt, EnAt] at hSw); go_simp; try with_reducible rfl)
                                        try simp only [Act.put, List.setIfInBounds_toArray, List.set_cons_zero, List.set_cons_succ]
                                        refine wpAnyH_take (i := 4) (v := ?fv4h22n23) (by as_aux_lemma => (simp only [List.getElem?_toArray, List.getElem?_cons_zero, List.getElem?_cons_succ]; rfl)) (by as_aux_lemma => kernel_rfl) (by as_aux_lemma => kernel_rfl) (by as_aux_lemma => kernel_rfl) (fun _ _ _ h => h) (Or.inl ⟨by rfl, ?fy4h22n23⟩) (by assumption) ?fr4h22n23
                                        case fy4h22n23 => (intro w hSw; (try dsimp only [SBt, EnAt] at hSw); go_simp; try with_reducible rfl)
                                        try simp only [Act.put, List.setIfInBounds_toArray, List.set_cons_zero, List.set_cons_succ]
                                        refine wpAnyH_take (i := 5) (v := ?fv5h22n23) (by as_aux_lemma => (simp only [List.getElem?_toArray, List.getElem?_cons_zero, List.getElem?_cons_succ]; rfl)) (by as_aux_lemma => kernel_rfl) (by as_aux_lemma => kernel_rfl) (by as_aux_lemma => kernel_rfl) (fun _ _ _ h => h) (Or.inl ⟨by rfl, ?fy5h22n23⟩) (by assumption) ?fr5h22n23
                                        case fy5h22n23 => (intro w hSw; (try dsimp only [SBt, EnAt] at hSw); go_simp; try with_reducible rfl)
                                        try simp only [Act.put, List.setIfInBounds_toArray, List.set_cons_zero, List.set_cons_succ]
                                        refine wpAnyH_take (i := 6) (v := ?fv6h22n23) (by as_aux_lemma => (simp only [List.getElem?_toArray, List.getElem?_cons_zero, List.getElem?_cons_succ]; rfl)) (by as_aux_lemma => kernel_rfl) (by as_aux_lemma => kernel_rfl) (by as_aux_lemma => kernel_rfl) (fun _ _ _ h => h) (Or.inl ⟨by rfl, ?fy6h22n23⟩) (by assumption) ?fr6h22n23
                                        case fy6h22n23 => (intro w hSw; (try dsimp only [SBt, EnAt] at hSw); go_simp; try with_reducible rfl)
                                        try simp only [Act.put, List.setIfInBounds_toArray, List.set_cons_zero, List.set_cons_succ]
                                        refine wpAnyH_take (i := 7) (v := ?fv7h22n23) (by as_aux_lemma => (simp only [List.getElem?_toArray, List.getElem?_cons_zero, List.getElem?_cons_succ]; rfl)) (by as_aux_lemma => kernel_rfl) (by as_aux_lemma => kernel_rfl) (by as_aux_lemma => kernel_rfl) (fun _ _ _ h => h) (Or.inl ⟨by rfl, ?fy7h22n23⟩) (by assumption) ?fr7h22n23
                                        case fy7h22n23 => (intro w hSw; (try dsimp only [SBt, EnAt] at hSw); go_simp; try with_reducible rfl)
                                        try simp only [Act.put, List.setIfInBounds_toArray, List.set_cons_zero, List.set_cons_succ]
                                        refine wpAnyH_take (i := 8) (v := ?fv8h22n23) (by as_aux_lemma => (simp only [List.getElem?_toArray, List.getElem?_cons_zero, List.getElem?_cons_succ]; rfl)) (by as_aux_lemma => kernel_rfl) (by as_aux_lemma => kernel_rfl) (by as_aux_lemma => kernel_rfl) (fun _ _ _ h => h) (Or.inl ⟨by rfl, ?fy8h22n23⟩) (by assumption) ?fr8h22n23
                                        case fy8h22n23 => (intro w hSw; (try dsimp only [SBt, EnAt] at hSw); go_simp; try with_reducible rfl)
                                        try simp only [Act.put, List.setIfInBounds_toArray, List.set_cons_zero, List.set_cons_succ]
                                        refine wpAnyH_take (i := 9) (v := ?fv9h22n23) (by as_aux_lemma => (simp only [List.getElem?_toArray, List.getElem?_cons_zero, List.getElem?_cons_succ]; rfl)) (by as_aux_lemma => kernel_rfl) (by as_aux_lemma => kernel_rfl) (by as_aux_lemma => kernel_rfl) (fun _ _ _ h => h) (Or.inl ⟨by rfl, ?fy9h22n23⟩) (by assumption) ?fr9h22n23
                                        case fy9h22n23 => (intro w hSw; (try dsimp only [SBt, EnAt] at hSw); go_simp; try with_reducible rfl)
                                        try simp only [Act.put, List.setIfInBounds_toArray, List.set_cons_zero, List.set_cons_succ]
                                        refine wpAnyH_take (i := 10) (v := ?fv10h22n23) (by as_aux_lemma => (simp only [List.getElem?_toArray, List.getElem?_cons_zero, List.getElem?_cons_succ]; rfl)) (by as_aux_lemma => kernel_rfl) (by as_aux_lemma => kernel_rfl) (by as_aux_lemma => kernel_rfl) (fun _ _ _ h => h) (Or.inl ⟨by rfl, ?fy10h22n23⟩) (by assumption) ?fr10h22n23
                                        case fy10h22n23 => (intro w hSw; (try dsimp only [SBt, EnAt] at hSw); go_simp; try with_reducible rfl)
                                        try simp only [Act.put, List.setIfInBounds_toArray, List.set_cons_zero, List.set_cons_succ]
                                        refine wpAnyH_take (i := 11) (v := ?fv11h22n23) (by as_aux_lemma => (simp only [List.getElem?_toArray, List.getElem?_cons_zero, List.getElem?_cons_succ]; rfl)) (by as_aux_lemma => kernel_rfl) (by as_aux_lemma => kernel_rfl) (by as_aux_lemma => kernel_rfl) (fun _ _ _ h => h) (Or.inl ⟨by rfl, ?fy11h22n23⟩) (by assumption) ?fr11h22n23
                                        case fy11h22n23 => (intro w hSw; (try dsimp only [SBt, EnAt] at hSw); go_simp; try with_reducible rfl)
                                        try simp only [Act.put, List.setIfInBounds_toArray, List.set_cons_zero, List.set_cons_succ]
                                        refine wpAnyH_take (i := 12) (v := ?fv12h22n23) (by as_aux_lemma => (simp only [List.getElem?_toArray, List.getElem?_cons_zero, List.getElem?_cons_succ]; rfl)) (by as_aux_lemma => kernel_rfl) (by as_aux_lemma => kernel_rfl) (by as_aux_lemma => kernel_rfl) (fun _ _ _ h => h) (Or.inl ⟨by rfl, ?fy12h22n23⟩) (by assumption) ?fr12h22n23
                                        case fy12h22n23 => (intro w hSw; (try dsimp only [SBt, EnAt] at hSw); go_simp; try with_reducible rfl)
                                        try simp only [Act.put, List.setIfInBounds_toArray, List.set_cons_zero, List.set_cons_succ]
                                        refine wpAnyH_take (i := 13) (v := ?fv13h22n23) (by as_aux_lemma => (simp only [List.getElem?_toArray, List.getElem?_cons_zero, List.getElem?_cons_succ]; rfl)) (by as_aux_lemma => kernel_rfl) (by as_aux_lemma => kernel_rfl) (by as_aux_lemma => kernel_rfl) (fun _ _ _ h => h) (Or.inl ⟨by rfl, ?fy13h22n23⟩) (by assumption) ?fr13h22n23
                                        case fy13h22n23 => (intro w hSw; (try dsimp only [SBt, EnAt] at hSw); go_simp; try with_reducible rfl)
                                        try simp only [Act.put, List.setIfInBounds_toArray, List.set_cons_zero, List.set_cons_succ]
                                        refine wpAnyH_take (i := 14) (v := ?fv14h22n23) (by as_aux_lemma => (simp only [List.getElem?_toArray, List.getElem?_cons_zero, List.getElem?_cons_succ]; rfl)) (by as_aux_lemma => kernel_rfl) (by as_aux_lemma => kernel_rfl) (by as_aux_lemma => kernel_rfl) (fun _ _ _ h => h) (Or.inl ⟨by rfl, ?fy14h22n23⟩) (by assumption) ?fr14h22n23
                                        case fy14h22n23 => (intro w hSw; (try dsimp only [SBt, EnAt] at hSw); go_simp; try with_reducible rfl)
                                        try simp only [Act.put, List.setIfInBounds_toArray, List.set_cons_zero, List.set_cons_succ]
                                        refine wpAnyH_take (i := 15) (v := ?fv15h22n23) (by as_aux_lemma => (simp only [List.getElem?_toArray, List.getElem?_cons_zero, List.getElem?_cons_succ]; rfl)) (by as_aux_lemma => kernel_rfl) (by as_aux_lemma => kernel_rfl) (by as_aux_lemma => kernel_rfl) (fun _ _ _ h => h) (Or.inl ⟨by rfl, ?fy15h22n23⟩) (by assumption) ?fr15h22n23
                                        case fy15h22n23 => (intro w hSw; (try dsimp only [SBt, EnAt] at hSw); go_simp; try with_reducible rfl)
                                        try simp only [Act.put, List.setIfInBounds_toArray, List.set_cons_zero, List.set_cons_succ]
                                        refine wpAnyH_take (i := 16) (v := ?fv16h22n23) (by as_aux_lemma => (simp only [List.getElem?_toArray, List.getElem?_cons_zero, List.getElem?_cons_succ]; rfl)) (by as_aux_lemma => kernel_rfl) (by as_aux_lemma => kernel_rfl) (by as_aux_lemma => kernel_rfl) (fun _ _ _ h => h) (Or.inl ⟨by rfl, ?fy16h22n23⟩) (by assumption) ?fr16h22n23
                                        case fy16h22n23 => (intro w hSw; (try dsimp only [SBt, EnAt] at hSw); go_simp; try with_reducible rfl)
                                        try simp only [Act.put, List.setIfInBounds_toArray, List.set_cons_zero, List.set_cons_succ]
                                        refine wpAnyH_take (i := 17) (v := ?fv17h22n23) (by as_aux_lemma => (simp only [List.getElem?_toArray, List.getElem?_cons_zero, List.getElem?_cons_succ]; rfl)) (by as_aux_lemma => kernel_rfl) (by as_aux_lemma => kernel_rfl) (by as_aux_lemma => kernel_rfl) (fun _ _ _ h => h) (Or.inl ⟨by rfl, ?fy17h22n23⟩) (by assumption) ?fr17h22n23
                                        case fy17h22n23 => (intro w hSw; (try dsimp only [SBt, EnAt] at hSw); go_simp; try with_reducible rfl)
                                        try simp only [Act.put, List.setIfInBounds_toArray, List.set_cons_zero, List.set_cons_succ]
                                        refine wpAnyH_take (i := 18) (v := ?fv18h22n23) (by as_aux_lemma => (simp only [List.getElem?_toArray, List.getElem?_cons_zero, List.getElem?_cons_succ]; rfl)) (by as_aux_lemma => kernel_rfl) (by as_aux_lemma => kernel_rfl) (by as_aux_lemma => kernel_rfl) (fun _ _ _ h => h) (Or.inl ⟨by rfl, ?fy18h22n23⟩) (by assumption) ?fr18h22n23
                                        case fy18h22n23 => (intro w hSw; (try dsimp only [SBt, EnAt] at hSw); go_simp; try with_reducible rfl)
                                        try simp only [Act.put, List.setIfInBounds_toArray, List.set_cons_zero, List.set_cons_succ]
                                        refine wpAnyH_take (i := 19) (v := ?fv19h22n23) (by as_aux_lemma => (simp only [List.getElem?_toArray, List.getElem?_cons_zero, List.getElem?_cons_succ]; rfl)) (by as_aux_lemma => kernel_rfl) (by as_aux_lemma => kernel_rfl) (by as_aux_lemma => kernel_rfl) (fun _ _ _ h => h) (Or.inl ⟨by rfl, ?fy19h22n23⟩) (by assumption) ?fr19h22n23
                                        case fy19h22n23 => (intro w hSw; (try dsimp only [SBt, EnAt] at hSw); go_simp; try with_reducible rfl)
                                        try simp only [Act.put, List.setIfInBounds_toArray, List.set_cons_zero, List.set_cons_succ]
                                        refine wpAnyH_take (i := 20) (v := ?fv20h22n23) (by as_aux_lemma => (simp only [List.getElem?_toArray, List.getElem?_cons_zero, List.getElem?_cons_succ]; rfl)) (by as_aux_lemma => kernel_rfl) (by as_aux_lemma => kernel_rfl) (by as_aux_lemma => kernel_rfl) (fun _ _ _ h => h) (Or.inl ⟨by rfl, ?fy20h22n23⟩) (by assumption) ?fr20h22n23
                                        case fy20h22n23 => (intro w hSw; (try dsimp only [SBt, EnAt] at hSw); go_simp; try with_reducible rfl)
                                        try simp only [Act.put, List.setIfInBounds_toArray, List.set_cons_zero, List.set_cons_succ]
                                        refine wpAnyH_take (i := 21) (v := ?fv21h22n23) (by as_aux_lemma => (simp only [List.getElem?_toArray, List.getElem?_cons_zero, List.getElem?_cons_succ]; rfl)) (by as_aux_lemma => kernel_rfl) (by as_aux_lemma => kernel_rfl) (by as_aux_lemma => kernel_rfl) (fun _ _ _ h => h) (Or.inl ⟨by rfl, ?fy21h22n23⟩) (by assumption) ?fr21h22n23
                                        case fy21h22n23 => (intro w hSw; (try dsimp only [SBt, EnAt] at hSw); go_simp; try with_reducible rfl)
                                        try simp only [Act.put, List.setIfInBounds_toArray, List.set_cons_zero, List.set_cons_succ]
                                        refine wpAnyH_take (i := 22) (v := ?fv22h22n23) (by as_aux_lemma => (simp only [List.getElem?_toArray, List.getElem?_cons_zero, List.getElem?_cons_succ]; rfl)) (by as_aux_lemma => kernel_rfl) (by as_aux_lemma => kernel_rfl) (by as_aux_lemma => kernel_rfl) (fun _ _ _ h => h) (Or.inl ⟨by rfl, ?fy22h22n23⟩) (by assumption) ?fr22h22n23
                                        case fy22h22n23 => (intro w hSw; (try dsimp only [SBt, EnAt] at hSw); go_simp; try with_reducible rfl)
                                        try simp only [Act.put, List.setIfInBounds_toArray, List.set_cons_zero, List.set_cons_succ]
                                        refine wpAnyH_take (i := 23) (v := ?fv23h22n23) (by as_aux_lemma => (simp only [List.getElem?_toArray, List.getElem?_cons_zero, List.getElem?_cons_succ]; rfl)) (by as_aux_lemma => kernel_rfl) (by as_aux_lemma => kernel_rfl) (by as_aux_lemma => kernel_rfl) (fun _ _ _ h => h) (Or.inl ⟨by rfl, ?fy23h22n23⟩) (by assumption) ?fr23h22n23
                                        case fy23h22n23 => (intro w hSw; (try dsimp only [SBt, EnAt] at hSw); go_simp; try with_reducible rfl)
                                        try simp only [Act.put, List.setIfInBounds_toArray, List.set_cons_zero, List.set_cons_succ]
                                        refine wpAnyH_take (i := 24) (v := ?fv24h22n23) (by as_aux_lemma => (simp only [List.getElem?_toArray, List.getElem?_cons_zero, List.getElem?_cons_succ]; rfl)) (by as_aux_lemma => kernel_rfl) (by as_aux_lemma => kernel_rfl) (by as_aux_lemma => kernel_rfl) (fun _ _ _ h => h) (Or.inl ⟨by rfl, ?fy24h22n23⟩) (by assumption) ?fr24h22n23
                                        case fy24h22n23 => (intro w hSw; (try dsimp only [SBt, EnAt] at hSw); go_simp; try with_reducible rfl)
                                        try simp only [Act.put, List.setIfInBounds_toArray, List.set_cons_zero, List.set_cons_succ]
                                        refine wpAnyH_take (i := 25) (v := ?fv25h22n23) (by as_aux_lemma => (simp only [List.getElem?_toArray, List.getElem?_cons_zero, List.getElem?_cons_succ]; rfl)) (by as_aux_lemma => kernel_rfl) (by as_aux_lemma => kernel_rfl) (by as_aux_lemma => kernel_rfl) (fun _ _ _ h => h) (Or.inl ⟨by rfl, ?fy25h22n23⟩) (by assumption) ?fr25h22n23
                                        case fy25h22n23 => (intro w hSw; (try dsimp only [SBt, EnAt] at hSw); go_simp; try with_reducible rfl)
                                        try simp only [Act.put, List.setIfInBounds_toArray, List.set_cons_zero, List.set_cons_succ]
                                        refine wpAnyH_take (i := 26) (v := ?fv26h22n23) (by as_aux_lemma => (simp only [List.getElem?_toArray, List.getElem?_cons_zero, List.getElem?_cons_succ]; rfl)) (by as_aux_lemma => kernel_rfl) (by as_aux_lemma => kernel_rfl) (by as_aux_lemma => kernel_rfl) (fun _ _ _ h => h) (Or.inl ⟨by rfl, ?fy26h22n23⟩) (by assumption) ?fr26h22n23
                                        case fy26h22n23 => (intro w hSw; (try dsimp only [SBt, EnAt] at hSw); go_simp; try with_reducible rfl)
                                        try simp only [Act.put, List.setIfInBounds_toArray, List.set_cons_zero, List.set_cons_succ]
                                        refine wpAnyH_take (i := 27) (v := ?fv27h22n23) (by as_aux_lemma => (simp only [List.getElem?_toArray, List.getElem?_cons_zero, List.getElem?_cons_succ]; rfl)) (by as_aux_lemma => kernel_rfl) (by as_aux_lemma => kernel_rfl) (by as_aux_lemma => kernel_rfl) (fun _ _ _ h => h) (Or.inl ⟨by rfl, ?fy27h22n23⟩) (by assumption) ?fr27h22n23
                                        case fy27h22n23 => (intro w hSw; (try dsimp only [SBt, EnAt] at hSw); go_simp; try with_reducible rfl)
                                        try simp only [Act.put, List.setIfInBounds_toArray, List.set_cons_zero, List.set_cons_succ]
                                        refine wpAnyH_take (i := 28) (v := ?fv28h22n23) (by as_aux_lemma => (simp only [List.getElem?_toArray, List.getElem?_cons_zero, List.getElem?_cons_succ]; rfl)) (by as_aux_lemma => kernel_rfl) (by as_aux_lemma => kernel_rfl) (by as_aux_lemma => kernel_rfl) (fun _ _ _ h => h) (Or.inl ⟨by rfl, ?fy28h22n23⟩) (by assumption) ?fr28h22n23
                                        case fy28h22n23 => (intro w hSw; (try dsimp only [SBt, EnAt] at hSw); go_simp; try with_reducible rfl)
                                        try simp only [Act.put, List.setIfInBounds_toArray, List.set_cons_zero, List.set_cons_succ]
                                        refine wpAnyH_done (by as_aux_lemma => kernel_rfl) ?_ _
                                        refine NoPanic.normal ?_
                                        clear hHeld
                                        go_wp2
                                        go_roundw
                                        case rel => exact ⟨q + 1, by omega, by go_num, HFj⟩
                                        case measure => simp [intOf]; omega
                                      · have dq : (o2 == p2) = false := by simp [hoq]
                                        clear hoq hle
                                        refine wp_region_noPanic ?_
                                        refine wp_region_held_drew (S := SBt WI go' o1 o2 gp p1 p2 bl (off + a * 5) ⟨E0, E1, E2, ebs, ea⟩ (.slice (some ⟨bb, ob, none⟩) m zc)) (by as_aux_lemma => kernel_rfl) (HSI.out _ (Fr.drew WI [])) (fun hHeld => ?_)
                                        refine wpAnyH_take (i := 0) (v := ?fv0h24n25) (by as_aux_lemma => (simp only [List.getElem?_toArray, List.getElem?_cons_zero]; rfl)) (by as_aux_lemma => kernel_rfl) (by as_aux_lemma => kernel_rfl) (by as_aux_lemma => kernel_rfl) (fun _ _ _ h => h) (Or.inl ⟨by rfl, ?fy0h24n25⟩) (by assumption) ?fr0h24n25
                                        case fy0h24n25 => (intro w hSw; (try dsimp only [SBt, EnAt] at hSw); go_simp; try with_reducible rfl)
                                        try simp only [Act.put, List.setIfInBounds_toArray, List.set_cons_zero, List.set_cons_succ]
                                        refine wpAnyH_take (i := 1) (v := ?fv1h24n25) (by as_aux_lemma => (simp only [List.getElem?_toArray, List.getElem?_cons_zero, List.getElem?_cons_succ]; rfl)) (by as_aux_lemma => kernel_rfl) (by as_aux_lemma => kernel_rfl) (by as_aux_lemma => kernel_rfl) (fun _ _ _ h => h) (Or.inl ⟨by rfl, ?fy1h24n25⟩) (by assumption) ?fr1h24n25
                                        case fy1h24n25 => (intro w hSw; (try dsimp only [SBt, EnAt] at hSw); go_simp; try with_reducible rfl)
                                        try simp only [Act.put, List.setIfInBounds_toArray, List.set_cons_zero, List.set_cons_succ]
                                        refine wpAnyH_take (i := 2) (v := ?fv2h24n25) (by as_aux_lemma => (simp only [List.getElem?_toArray, List.getElem?_cons_zero, List.getElem?_cons_succ]; rfl)) (by as_aux_lemma => kernel_rfl) (by as_aux_lemma => kernel_rfl) (by as_aux_lemma => kernel_rfl) (fun _ _ _ h => h) (Or.inl ⟨by rfl, ?fy2h24n25⟩) (by assumption) ?fr2h24n25
                                        case fy2h24n25 => (intro w hSw; (try dsimp only [SBt, EnAt] at hSw); go_simp; try with_reducible rfl)
                                        try simp only [Act.put, List.setIfInBounds_toArray, List.set_cons_zero, List.set_cons_succ]
                                        refine wpAnyH_take (i := 3) (v := ?fv3h24n25) (by as_aux_lemma => (simp only [List.getElem?_toArray, List.getElem?_cons_zero, List.getElem?_cons_succ]; rfl)) (by as_aux_lemma => kernel_rfl) (by as_aux_lemma => kernel_rfl) (by as_aux_lemma => kernel_rfl) (fun _ _ _ h => h) (Or.inl ⟨by rfl, ?fy3h24n25⟩) (by assumption) ?fr3h24n25
                                        case fy3h24n25 => (intro w hSw; (try dsimp only [SBt, EnAt] at hSw); go_simp; try with_reducible rfl)
                                        try simp only [Act.put, List.setIfInBounds_toArray, List.set_cons_zero, List.set_cons_succ]
                                        refine wpAnyH_take (i := 4) (v := ?fv4h24n25) (by as_aux_lemma => (simp only [List.getElem?_toArray, List.getElem?_cons_zero, List.getElem?_cons_succ]; rfl)) (by as_aux_lemma => kernel_rfl) (by as_aux_lemma => kernel_rfl) (by as_aux_lemma => kernel_rfl) (fun _ _ _ h => h) (Or.inl ⟨by rfl, ?fy4h24n25⟩) (by assumption) ?fr4h24n25
                                        case fy4h24n25 => (intro w hSw; (try dsimp only [SBt, EnAt] at hSw); go_simp; try with_reducible rfl)
                                        try simp only [Act.put, List.setIfInBounds_toArray, List.set_cons_zero, List.set_cons_succ]
                                        refine wpAnyH_take (i := 5) (v := ?fv5h24n25) (by as_aux_lemma => (simp only [List.getElem?_toArray, List.getElem?_cons_zero, List.getElem?_cons_succ]; rfl)) (by as_aux_lemma => kernel_rfl) (by as_aux_lemma => kernel_rfl) (by as_aux_lemma => kernel_rfl) (fun _ _ _ h => h) (Or.inl ⟨by rfl, ?fy5h24n25⟩) (by assumption) ?fr5h24n25
                                        case fy5h24n25 => (intro w hSw; (try dsimp only [SBt, EnAt] at hSw); go_simp; try with_reducible rfl)
                                        try simp only [Act.put, List.setIfInBounds_toArray, List.set_cons_zero, List.set_cons_succ]
                                        refine wpAnyH_take (i := 6) (v := ?fv6h24n25) (by as_aux_lemma => (simp only [List.getElem?_toArray, List.getElem?_cons_zero, List.getElem?_cons_succ]; rfl)) (by as_aux_lemma => kernel_rfl) (by as_aux_lemma => kernel_rfl) (by as_aux_lemma => kernel_rfl) (fun _ _ _ h => h) (Or.inl ⟨by rfl, ?fy6h24n25⟩) (by assumption) ?fr6h24n25
                                        case fy6h24n25 => (intro w hSw; (try dsimp only [SBt, EnAt] at hSw); go_simp; try with_reducible rfl)
                                        try simp only [Act.put, List.setIfInBounds_toArray, List.set_cons_zero, List.set_cons_succ]
                                        refine wpAnyH_take (i := 7) (v := ?fv7h24n25) (by as_aux_lemma => (simp only [List.getElem?_toArray, List.getElem?_cons_zero, List.getElem?_cons_succ]; rfl)) (by as_aux_lemma => kernel_rfl) (by as_aux_lemma => kernel_rfl) (by as_aux_lemma => kernel_rfl) (fun _ _ _ h => h) (Or.inl ⟨by rfl, ?fy7h24n25⟩) (by assumption) ?fr7h24n25
                                        case fy7h24n25 => (intro w hSw; (try dsimp only [SBt, EnAt] at hSw); go_simp; try with_reducible rfl)
                                        try simp only [Act.put, List.setIfInBounds_toArray, List.set_cons_zero, List.set_cons_succ]
                                        refine wpAnyH_take (i := 8) (v := ?fv8h24n25) (by as_aux_lemma => (simp only [List.getElem?_toArray, List.getElem?_cons_zero, List.getElem?_cons_succ]; rfl)) (by as_aux_lemma => kernel_rfl) (by as_aux_lemma => kernel_rfl) (by as_aux_lemma => kernel_rfl) (fun _ _ _ h => h) (Or.inl ⟨by rfl, ?fy8h24n25⟩) (by assumption) ?fr8h24n25
                                        case fy8h24n25 => (intro w hSw; (try dsimp only [SBt, EnAt] at hSw); go_simp; try with_reducible rfl)
                                        try simp only [Act.put, List.setIfInBounds_toArray, List.set_cons_zero, List.set_cons_succ]
                                        refine wpAnyH_take (i := 9) (v := ?fv9h24n25) (by as_aux_lemma => (simp only [List.getElem?_toArray, List.getElem?_cons_zero, List.getElem?_cons_succ]; rfl)) (by as_aux_lemma => kernel_rfl) (by as_aux_lemma => kernel_rfl) (by as_aux_lemma => kernel_rfl) (fun _ _ _ h => h) (Or.inl ⟨by rfl, ?fy9h24n25⟩) (by assumption) ?fr9h24n25
                                        case fy9h24n25 => (intro w hSw; (try dsimp only [SBt, EnAt] at hSw); go_simp; try with_reducible rfl)
                                        try simp only [Act.put, List.setIfInBounds_toArray, List.set_cons_zero, List.set_cons_succ]
                                        refine wpAnyH_take (i := 10) (v := ?fv10h24n25) (by as_aux_lemma => (simp only [List.getElem?_toArray, List.getElem?_cons_zero, List.getElem?_cons_succ]; rfl)) (by as_aux_lemma => kernel_rfl) (by as_aux_lemma => kernel_rfl) (by as_aux_lemma => kernel_rfl) (fun _ _ _ h => h) (Or.inl ⟨by rfl, ?fy10h24n25⟩) (by assumption) ?fr10h24n25
                                        case fy10h24n25 => (intro w hSw; (try dsimp only [SBt, EnAt] at hSw); go_simp; try with_reducible rfl)
                                        try simp only [Act.put, List.setIfInBounds_toArray, List.set_cons_zero, List.set_cons_succ]
                                        refine wpAnyH_take (i := 11) (v := ?fv11h24n25) (by as_aux_lemma => (simp only [List.getElem?_toArray, List.getElem?_cons_zero, List.getElem?_cons_succ]; rfl)) (by as_aux_lemma => kernel_rfl) (by as_aux_lemma => kernel_rfl) (by as_aux_lemma => kernel_rfl) (fun _ _ _ h => h) (Or.inl ⟨by rfl, ?fy11h24n25⟩) (by assumption) ?fr11h24n25
                                        case fy11h24n25 => (intro w hSw; (try dsimp only [SBt, EnAt] at hSw); go_simp; try with_reducible rfl)
                                        try simp only [Act.put, List.setIfInBounds_toArray, List.set_cons_zero, List.set_cons_succ]
                                        refine wpAnyH_take (i := 12) (v := ?fv12h24n25) (by as_aux_lemma => (simp only [List.getElem?_toArray, List.getElem?_cons_zero, List.getElem?_cons_succ]; rfl)) (by as_aux_lemma => kernel_rfl) (by as_aux_lemma => kernel_rfl) (by as_aux_lemma => kernel_rfl) (fun _ _ _ h => h) (Or.inl ⟨by rfl, ?fy12h24n25⟩) (by assumption) ?fr12h24n25
                                        case fy12h24n25 => (intro w hSw; (try dsimp only [SBt, EnAt] at hSw); go_simp; try with_reducible rfl)
                                        try simp only [Act.put, List.setIfInBounds_toArray, List.set_cons_zero, List.set_cons_succ]
                                        refine wpAnyH_take (i := 13) (v := ?fv13h24n25) (by as_aux_lemma => (simp only [List.getElem?_toArray, List.getElem?_cons_zero, List.getElem?_cons_succ]; rfl)) (by as_aux_lemma => kernel_rfl) (by as_aux_lemma => kernel_rfl) (by as_aux_lemma => kernel_rfl) (fun _ _ _ h => h) (Or.inl ⟨by rfl, ?fy13h24n25⟩) (by assumption) ?fr13h24n25
                                        case fy13h24n25 => (intro w hSw; (try dsimp only [SBt, EnAt] at hSw); go_simp; try with_reducible rfl)
                                        try simp only [Act.put, List.setIfInBounds_toArray, List.set_cons_zero, List.set_cons_succ]
                                        refine wpAnyH_take (i := 14) (v := ?fv14h24n25) (by as_aux_lemma => (simp only [List.getElem?_toArray, List.getElem?_cons_zero, List.getElem?_cons_succ]; rfl)) (by as_aux_lemma => kernel_rfl) (by as_aux_lemma => kernel_rfl) (by as_aux_lemma => kernel_rfl) (fun _ _ _ h => h) (Or.inl ⟨by rfl, ?fy14h24n25⟩) (by assumption) ?fr14h24n25
                                        case fy14h24n25 => (intro w hSw; (try dsimp only [SBt, EnAt] at hSw); go_simp; try with_reducible rfl)
                                        try simp only [Act.put, List.setIfInBounds_toArray, List.set_cons_zero, List.set_cons_succ]
                                        refine wpAnyH_take (i := 15) (v := ?fv15h24n25) (by as_aux_lemma => (simp only [List.getElem?_toArray, List.getElem?_cons_zero, List.getElem?_cons_succ]; rfl)) (by as_aux_lemma => kernel_rfl) (by as_aux_lemma => kernel_rfl) (by as_aux_lemma => kernel_rfl) (fun _ _ _ h => h) (Or.inl ⟨by rfl, ?fy15h24n25⟩) (by assumption) ?fr15h24n25
                                        case fy15h24n25 => (intro w hSw; (try dsimp only [SBt, EnAt] at hSw); go_simp; try with_reducible rfl)
                                        try simp only [Act.put, List.setIfInBounds_toArray, List.set_cons_zero, List.set_cons_succ]
                                        refine wpAnyH_take (i := 16) (v := ?fv16h24n25) (by as_aux_lemma => (simp only [List.getElem?_toArray, List.getElem?_cons_zero, List.getElem?_cons_succ]; rfl)) (by as_aux_lemma => kernel_rfl) (by as_aux_lemma => kernel_rfl) (by as_aux_lemma => kernel_rfl) (fun _ _ _ h => h) (Or.inl ⟨by rfl, ?fy16h24n25⟩) (by assumption) ?fr16h24n25
                                        case fy16h24n25 => (intro w hSw; (try dsimp only [SBt, EnAt] at hSw); go_simp; try with_reducible rfl)
                                        try simp only [Act.put, List.setIfInBounds_toArray, List.set_cons_zero, List.set_cons_succ]
                                        refine wpAnyH_take (i := 17) (v := ?fv17h24n25) (by as_aux_lemma => (simp only [List.getElem?_toArray, List.getElem?_cons_zero, List.getElem?_cons_succ]; rfl)) (by as_aux_lemma => kernel_rfl) (by as_aux_lemma => kernel_rfl) (by as_aux_lemma => kernel_rfl) (fun _ _ _ h => h) (Or.inl ⟨by rfl, ?fy17h24n25⟩) (by assumption) ?fr17h24n25
                                        case fy17h24n25 => (intro w hSw; (try dsimp only [SBt, EnAt] at hSw); go_simp; try with_reducible rfl)
                                        try simp only [Act.put, List.setIfInBounds_toArray, List.set_cons_zero, List.set_cons_succ]
                                        refine wpAnyH_take (i := 18) (v := ?fv18h24n25) (by as_aux_lemma => (simp only [List.getElem?_toArray, List.getElem?_cons_zero, List.getElem?_cons_succ]; rfl)) (by as_aux_lemma => kernel_rfl) (by as_aux_lemma => kernel_rfl) (by as_aux_lemma => kernel_rfl) (fun _ _ _ h => h) (Or.inl ⟨by rfl, ?fy18h24n25⟩) (by assumption) ?fr18h24n25
                                        case fy18h24n25 => (intro w hSw; (try dsimp only [SBt, EnAt] at hSw); go_simp; try with_reducible rfl)
                                        try simp only [Act.put, List.setIfInBounds_toArray, List.set_cons_zero, List.set_cons_succ]
                                        refine wpAnyH_take (i := 19) (v := ?fv19h24n25) (by as_aux_lemma => (simp only [List.getElem?_toArray, List.getElem?_cons_zero, List.getElem?_cons_succ]; rfl)) (by as_aux_lemma => kernel_rfl) (by as_aux_lemma => kernel_rfl) (by as_aux_lemma => kernel_rfl) (fun _ _ _ h => h) (Or.inl ⟨by rfl, ?fy19h24n25⟩) (by assumption) ?fr19h24n25
                                        case fy19h24n25 => (intro w hSw; (try dsimp only [SBt, EnAt] at hSw); go_simp; try with_reducible rfl)
                                        try simp only [Act.put, List.setIfInBounds_toArray, List.set_cons_zero, List.set_cons_succ]
                                        refine wpAnyH_take (i := 20) (v := ?fv20h24n25) (by as_aux_lemma => (simp only [List.getElem?_toArray, List.getElem?_cons_zero, List.getElem?_cons_succ]; rfl)) (by as_aux_lemma => kernel_rfl) (by as_aux_lemma => kernel_rfl) (by as_aux_lemma => kernel_rfl) (fun _ _ _ h => h) (Or.inl ⟨by rfl, ?fy20h24n25⟩) (by assumption) ?fr20h24n25
                                        case fy20h24n25 => (intro w hSw; (try dsimp only [SBt, EnAt] at hSw); go_simp; try with_reducible rfl)
                                        try simp only [Act.put, List.setIfInBounds_toArray, List.set_cons_zero, List.set_cons_succ]
                                        refine wpAnyH_take (i := 21) (v := undef) (by as_aux_lemma => (simp only [List.getElem?_toArray, List.getElem?_cons_zero, List.getElem?_cons_succ]; rfl)) (by as_aux_lemma => kernel_rfl) (by as_aux_lemma => kernel_rfl) (by as_aux_lemma => kernel_rfl) (fun _ _ _ h => h) (Or.inr ⟨by rfl, rfl⟩) (by assumption) ?_
                                        try simp only [Act.put, List.setIfInBounds_toArray, List.set_cons_zero, List.set_cons_succ]
                                        refine wpAnyH_take (i := 22) (v := undef) (by as_aux_lemma => (simp only [List.getElem?_toArray, List.getElem?_cons_zero, List.getElem?_cons_succ]; rfl)) (by as_aux_lemma => kernel_rfl) (by as_aux_lemma => kernel_rfl) (by as_aux_lemma => kernel_rfl) (fun _ _ _ h => h) (Or.inr ⟨by rfl, rfl⟩) (by assumption) ?_
                                        try simp only [Act.put, List.setIfInBounds_toArray, List.set_cons_zero, List.set_cons_succ]
                                        refine wpAnyH_take (i := 23) (v := undef) (by as_aux_lemma => (simp only [List.getElem?_toArray, List.getElem?_cons_zero, List.getElem?_cons_succ]; rfl)) (by as_aux_lemma => kernel_rfl) (by as_aux_lemma => kernel_rfl) (by as_aux_lemma => kernel_rfl) (fun _ _ _ h => h) (Or.inr ⟨by rfl, rfl⟩) (by assumption) ?_
                                        try simp only [Act.put, List.setIfInBounds_toArray, List.set_cons_zero, List.set_cons_succ]
                                        refine wpAnyH_take (i := 24) (v := undef) (by as_aux_lemma => (simp only [List.getElem?_toArray, List.getElem?_cons_zero, List.getElem?_cons_succ]; rfl)) (by as_aux_lemma => kernel_rfl) (by as_aux_lemma => kernel_rfl) (by as_aux_lemma => kernel_rfl) (fun _ _ _ h => h) (Or.inr ⟨by rfl, rfl⟩) (by assumption) ?_
                                        try simp only [Act.put, List.setIfInBounds_toArray, List.set_cons_zero, List.set_cons_succ]
                                        refine wpAnyH_take (i := 25) (v := undef) (by as_aux_lemma => (simp only [List.getElem?_toArray, List.getElem?_cons_zero, List.getElem?_cons_succ]; rfl)) (by as_aux_lemma => kernel_rfl) (by as_aux_lemma => kernel_rfl) (by as_aux_lemma => kernel_rfl) (fun _ _ _ h => h) (Or.inr ⟨by rfl, rfl⟩) (by assumption) ?_
                                        try simp only [Act.put, List.setIfInBounds_toArray, List.set_cons_zero, List.set_cons_succ]
                                        refine wpAnyH_take (i := 26) (v := ?fv26h24n25) (by as_aux_lemma => (simp only [List.getElem?_toArray, List.getElem?_cons_zero, List.getElem?_cons_succ]; rfl)) (by as_aux_lemma => kernel_rfl) (by as_aux_lemma => kernel_rfl) (by as_aux_lemma => kernel_rfl) (fun _ _ _ h => h) (Or.inl ⟨by rfl, ?fy26h24n25⟩) (by assumption) ?fr26h24n25
                                        case fy26h24n25 => (intro w hSw; (try dsimp only [SBt, EnAt] at hSw); go_simp; try with_reducible rfl)
                                        try simp only [Act.put, List.setIfInBounds_toArray, List.set_cons_zero, List.set_cons_succ]
                                        refine wpAnyH_take (i := 27) (v := ?fv27h24n25) (by as_aux_lemma => (simp only [List.getElem?_toArray, List.getElem?_cons_zero, List.getElem?_cons_succ]; rfl)) (by as_aux_lemma => kernel_rfl) (by as_aux_lemma => kernel_rfl) (by as_aux_lemma => kernel_rfl) (fun _ _ _ h => h) (Or.inl ⟨by rfl, ?fy27h24n25⟩) (by assumption) ?fr27h24n25
                                        case fy27h24n25 => (intro w hSw; (try dsimp only [SBt, EnAt] at hSw); go_simp; try with_reducible rfl)
                                        try simp only [Act.put, List.setIfInBounds_toArray, List.set_cons_zero, List.set_cons_succ]
                                        refine wpAnyH_take (i := 28) (v := ?fv28h24n25) (by as_aux_lemma => (simp only [List.getElem?_toArray, List.getElem?_cons_zero, List.getElem?_cons_succ]; rfl)) (by as_aux_lemma => kernel_rfl) (by as_aux_lemma => kernel_rfl) (by as_aux_lemma => kernel_rfl) (fun _ _ _ h => h) (Or.inl ⟨by rfl, ?fy28h24n25⟩) (by assumption) ?fr28h24n25
                                        case fy28h24n25 => (intro w hSw; (try dsimp only [SBt, EnAt] at hSw); go_simp; try with_reducible rfl)
                                        try simp only [Act.put, List.setIfInBounds_toArray, List.set_cons_zero, List.set_cons_succ]
                                        refine wpAnyH_done (by as_aux_lemma => kernel_rfl) ?_ _
                                        refine NoPanic.normal ?_
                                        clear hHeld
                                        go_wp2
                                        go_roundw
                                        case rel => exact ⟨q + 1, by omega, by go_num, HFj⟩
                                        case measure => simp [intOf]; omega
                                    · have dp : (p1 == ea) = false := by simp [hpe]
                                      clear hpe
                                      refine wp_region_noPanic ?_
                                      refine wp_region_held_drew (S := SBt WI go' o1 o2 gp p1 p2 bl (off + a * 5) ⟨E0, E1, E2, ebs, ea⟩ (.slice (some ⟨bb, ob, none⟩) m zc)) (by as_aux_lemma => kernel_rfl) (HSI.out _ (Fr.drew WI [])) (fun hHeld => ?_)
                                      refine wpAnyH_take (i := 0) (v := ?fv0h26n27) (by as_aux_lemma => (simp only [List.getElem?_toArray, List.getElem?_cons_zero]; rfl)) (by as_aux_lemma => kernel_rfl) (by as_aux_lemma => kernel_rfl) (by as_aux_lemma => kernel_rfl) (fun _ _ _ h => h) (Or.inl ⟨by rfl, ?fy0h26n27⟩) (by assumption) ?fr0h26n27
                                      case fy0h26n27 => (intro w hSw; (try dsimp only [SBt, EnAt] at hSw); go_simp; try with_reducible rfl)
                                      try simp only [Act.put, List.setIfInBounds_toArray, List.set_cons_zero, List.set_cons_succ]
                                      refine wpAnyH_take (i := 1) (v := ?fv1h26n27) (by as_aux_lemma => (simp only [List.getElem?_toArray, List.getElem?_cons_zero, List.getElem?_cons_succ]; rfl)) (by as_aux_lemma => kernel_rfl) (by as_aux_lemma => kernel_rfl) (by as_aux_lemma => kernel_rfl) (fun _ _ _ h => h) (Or.inl ⟨by rfl, ?fy1h26n27⟩) (by assumption) ?fr1h26n27
                                      case fy1h26n27 => (intro w hSw; (try dsimp only [SBt, EnAt] at hSw); go_simp; try with_reducible rfl)
                                      try simp only [Act.put, List.setIfInBounds_toArray, List.set_cons_zero, List.set_cons_succ]
                                      refine wpAnyH_take (i := 2) (v := ?fv2h26n27) (by as_aux_lemma => (simp only [List.getElem?_toArray, List.getElem?_cons_zero, List.getElem?_cons_succ]; rfl)) (by as_aux_lemma => kernel_rfl) (by as_aux_lemma => kernel_rfl) (by as_aux_lemma => kernel_rfl) (fun _ _ _ h => h) (Or.inl ⟨by rfl, ?fy2h26n27⟩) (by assumption) ?fr2h26n27
                                      case fy2h26n27 => (intro w hSw; (try dsimp only [SBt, EnAt] at hSw); go_simp; try with_reducible rfl)
                                      try simp only [Act.put, List.setIfInBounds_toArray, List.set_cons_zero, List.set_cons_succ]
                                      refine wpAnyH_take (i := 3) (v := ?fv3h26n27) (by as_aux_lemma => (simp only [List.getElem?_toArray, List.getElem?_cons_zero, List.getElem?_cons_succ]; rfl)) (by as_aux_lemma => kernel_rfl) (by as_aux_lemma => kernel_rfl) (by as_aux_lemma => kernel_rfl) (fun _ _ _ h => h) (Or.inl ⟨by rfl, ?fy3h26n27⟩) (by assumption) ?fr3h26n27
                                      case fy3h26n27 => (intro w hSw; (try dsimp only [SBt, EnAt] at hSw); go_simp; try with_reducible rfl)
                                      try simp only [Act.put, List.setIfInBounds_toArray, List.set_cons_zero, List.set_cons_succ]
                                      refine wpAnyH_take (i := 4) (v := ?fv4h26n27) (by as_aux_lemma => (simp only [List.getElem?_toArray, List.getElem?_cons_zero, List.getElem?_cons_succ]; rfl)) (by as_aux_lemma => kernel_rfl) (by as_aux_lemma => kernel_rfl) (by as_aux_lemma => kernel_rfl) (fun _ _ _ h => h) (Or.inl ⟨by rfl, ?fy4h26n27⟩) (by assumption) ?fr4h26n27
                                      case fy4h26n27 => (intro w hSw; (try dsimp only [SBt, EnAt] at hSw); go_simp; try with_reducible rfl)
                                      try simp only [Act.put, List.setIfInBounds_toArray, List.set_cons_zero, List.set_cons_succ]
                                      refine wpAnyH_take (i := 5) (v := ?fv5h26n27) (by as_aux_lemma => (simp only [List.getElem?_toArray, List.getElem?_cons_zero, List.getElem?_cons_succ]; rfl)) (by as_aux_lemma => kernel_rfl) (by as_aux_lemma => kernel_rfl) (by as_aux_lemma => kernel_rfl) (fun _ _ _ h => h) (Or.inl ⟨by rfl, ?fy5h26n27⟩) (by assumption) ?fr5h26n27
                                      case fy5h26n27 => (intro w hSw; (try dsimp only [SBt, EnAt] at hSw); go_simp; try with_reducible rfl)
                                      try simp only [Act.put, List.setIfInBounds_toArray, List.set_cons_zero, List.set_cons_succ]
                                      refine wpAnyH_take (i := 6) (v := ?fv6h26n27) (by as_aux_lemma => (simp only [List.getElem?_toArray, List.getElem?_cons_zero, List.getElem?_cons_succ]; rfl)) (by as_aux_lemma => kernel_rfl) (by as_aux_lemma => kernel_rfl) (by as_aux_lemma => kernel_rfl) (fun _ _ _ h => h) (Or.inl ⟨by rfl, ?fy6h26n27⟩) (by assumption) ?fr6h26n27
                                      case fy6h26n27 => (intro w hSw; (try dsimp only [SBt, EnAt] at hSw); go_simp; try with_reducible rfl)
                                      try simp only [Act.put, List.setIfInBounds_toArray, List.set_cons_zero, List.set_cons_succ]
                                      refine wpAnyH_take (i := 7) (v := ?fv7h26n27) (by as_aux_lemma => (simp only [List.getElem?_toArray, List.getElem?_cons_zero, List.getElem?_cons_succ]; rfl)) (by as_aux_lemma => kernel_rfl) (by as_aux_lemma => kernel_rfl) (by as_aux_lemma => kernel_rfl) (fun _ _ _ h => h) (Or.inl ⟨by rfl, ?fy7h26n27⟩) (by assumption) ?fr7h26n27
                                      case fy7h26n27 => (intro w hSw; (try dsimp only [SBt, EnAt] at hSw); go_simp; try with_reducible rfl)
                                      try simp only [Act.put, List.setIfInBounds_toArray, List.set_cons_zero, List.set_cons_succ]
                                      refine wpAnyH_take (i := 8) (v := ?fv8h26n27) (by as_aux_lemma => (simp only [List.getElem?_toArray, List.getElem?_cons_zero, List.getElem?_cons_succ]; rfl)) (by as_aux_lemma => kernel_rfl) (by as_aux_lemma => kernel_rfl) (by as_aux_lemma => kernel_rfl) (fun _ _ _ h => h) (Or.inl ⟨by rfl, ?fy8h26n27⟩) (by assumption) ?fr8h26n27
                                      case fy8h26n27 => (intro w hSw; (try dsimp only [SBt, EnAt] at hSw); go_simp; try with_reducible rfl)
                                      try simp only [Act.put, List.setIfInBounds_toArray, List.set_cons_zero, List.set_cons_succ]
                                      refine wpAnyH_take (i := 9) (v := undef) (by as_aux_lemma => (simp only [List.getElem?_toArray, List.getElem?_cons_zero, List.getElem?_cons_succ]; rfl)) (by as_aux_lemma => kernel_rfl) (by as_aux_lemma => kernel_rfl) (by as_aux_lemma => kernel_rfl) (fun _ _ _ h => h) (Or.inr ⟨by rfl, rfl⟩) (by assumption) ?_
                                      try simp only [Act.put, List.setIfInBounds_toArray, List.set_cons_zero, List.set_cons_succ]
                                      refine wpAnyH_take (i := 10) (v := undef) (by as_aux_lemma => (simp only [List.getElem?_toArray, List.getElem?_cons_zero, List.getElem?_cons_succ]; rfl)) (by as_aux_lemma => kernel_rfl) (by as_aux_lemma => kernel_rfl) (by as_aux_lemma => kernel_rfl) (fun _ _ _ h => h) (Or.inr ⟨by rfl, rfl⟩) (by assumption) ?_
                                      try simp only [Act.put, List.setIfInBounds_toArray, List.set_cons_zero, List.set_cons_succ]
                                      refine wpAnyH_take (i := 11) (v := undef) (by as_aux_lemma => (simp only [List.getElem?_toArray, List.getElem?_cons_zero, List.getElem?_cons_succ]; rfl)) (by as_aux_lemma => kernel_rfl) (by as_aux_lemma => kernel_rfl) (by as_aux_lemma => kernel_rfl) (fun _ _ _ h => h) (Or.inr ⟨by rfl, rfl⟩) (by assumption) ?_
                                      try simp only [Act.put, List.setIfInBounds_toArray, List.set_cons_zero, List.set_cons_succ]
                                      refine wpAnyH_take (i := 12) (v := undef) (by as_aux_lemma => (simp only [List.getElem?_toArray, List.getElem?_cons_zero, List.getElem?_cons_succ]; rfl)) (by as_aux_lemma => kernel_rfl) (by as_aux_lemma => kernel_rfl) (by as_aux_lemma => kernel_rfl) (fun _ _ _ h => h) (Or.inr ⟨by rfl, rfl⟩) (by assumption) ?_
                                      try simp only [Act.put, List.setIfInBounds_toArray, List.set_cons_zero, List.set_cons_succ]
                                      refine wpAnyH_take (i := 13) (v := undef) (by as_aux_lemma => (simp only [List.getElem?_toArray, List.getElem?_cons_zero, List.getElem?_cons_succ]; rfl)) (by as_aux_lemma => kernel_rfl) (by as_aux_lemma => kernel_rfl) (by as_aux_lemma => kernel_rfl) (fun _ _ _ h => h) (Or.inr ⟨by rfl, rfl⟩) (by assumption) ?_
                                      try simp only [Act.put, List.setIfInBounds_toArray, List.set_cons_zero, List.set_cons_succ]
                                      refine wpAnyH_take (i := 14) (v := undef) (by as_aux_lemma => (simp only [List.getElem?_toArray, List.getElem?_cons_zero, List.getElem?_cons_succ]; rfl)) (by as_aux_lemma => kernel_rfl) (by as_aux_lemma => kernel_rfl) (by as_aux_lemma => kernel_rfl) (fun _ _ _ h => h) (Or.inr ⟨by rfl, rfl⟩) (by assumption) ?_
                                      try simp only [Act.put, List.setIfInBounds_toArray, List.set_cons_zero, List.set_cons_succ]
                                      refine wpAnyH_take (i := 15) (v := undef) (by as_aux_lemma => (simp only [List.getElem?_toArray, List.getElem?_cons_zero, List.getElem?_cons_succ]; rfl)) (by as_aux_lemma => kernel_rfl) (by as_aux_lemma => kernel_rfl) (by as_aux_lemma => kernel_rfl) (fun _ _ _ h => h) (Or.inr ⟨by rfl, rfl⟩) (by assumption) ?_
                                      try simp only [Act.put, List.setIfInBounds_toArray, List.set_cons_zero, List.set_cons_succ]
                                      refine wpAnyH_take (i := 16) (v := undef) (by as_aux_lemma => (simp only [List.getElem?_toArray, List.getElem?_cons_zero, List.getElem?_cons_succ]; rfl)) (by as_aux_lemma => kernel_rfl) (by as_aux_lemma => kernel_rfl) (by as_aux_lemma => kernel_rfl) (fun _ _ _ h => h) (Or.inr ⟨by rfl, rfl⟩) (by assumption) ?_
                                      try simp only [Act.put, List.setIfInBounds_toArray, List.set_cons_zero, List.set_cons_succ]
                                      refine wpAnyH_take (i := 17) (v := undef) (by as_aux_lemma => (simp only [List.getElem?_toArray, List.getElem?_cons_zero, List.getElem?_cons_succ]; rfl)) (by as_aux_lemma => kernel_rfl) (by as_aux_lemma => kernel_rfl) (by as_aux_lemma => kernel_rfl) (fun _ _ _ h => h) (Or.inr ⟨by rfl, rfl⟩) (by assumption) ?_
                                      try simp only [Act.put, List.setIfInBounds_toArray, List.set_cons_zero, List.set_cons_succ]
                                      refine wpAnyH_take (i := 18) (v := undef) (by as_aux_lemma => (simp only [List.getElem?_toArray, List.getElem?_cons_zero, List.getElem?_cons_succ]; rfl)) (by as_aux_lemma => kernel_rfl) (by as_aux_lemma => kernel_rfl) (by as_aux_lemma => kernel_rfl) (fun _ _ _ h => h) (Or.inr ⟨by rfl, rfl⟩) (by assumption) ?_
                                      try simp only [Act.put, List.setIfInBounds_toArray, List.set_cons_zero, List.set_cons_succ]
                                      refine wpAnyH_take (i := 19) (v := undef) (by as_aux_lemma => (simp only [List.getElem?_toArray, List.getElem?_cons_zero, List.getElem?_cons_succ]; rfl)) (by as_aux_lemma => kernel_rfl) (by as_aux_lemma => kernel_rfl) (by as_aux_lemma => kernel_rfl) (fun _ _ _ h => h) (Or.inr ⟨by rfl, rfl⟩) (by assumption) ?_
                                      try simp only [Act.put, List.setIfInBounds_toArray, List.set_cons_zero, List.set_cons_succ]
                                      refine wpAnyH_take (i := 20) (v := undef) (by as_aux_lemma => (simp only [List.getElem?_toArray, List.getElem?_cons_zero, List.getElem?_cons_succ]; rfl)) (by as_aux_lemma => kernel_rfl) (by as_aux_lemma => kernel_rfl) (by as_aux_lemma => kernel_rfl) (fun _ _ _ h => h) (Or.inr ⟨by rfl, rfl⟩) (by assumption) ?_
                                      try simp only [Act.put, List.setIfInBounds_toArray, List.set_cons_zero, List.set_cons_succ]
                                      refine wpAnyH_take (i := 21) (v := undef) (by as_aux_lemma => (simp only [List.getElem?_toArray, List.getElem?_cons_zero, List.getElem?_cons_succ]; rfl)) (by as_aux_lemma => kernel_rfl) (by as_aux_lemma => kernel_rfl) (by as_aux_lemma => kernel_rfl) (fun _ _ _ h => h) (Or.inr ⟨by rfl, rfl⟩) (by assumption) ?_
                                      try simp only [Act.put, List.setIfInBounds_toArray, List.set_cons_zero, List.set_cons_succ]
                                      refine wpAnyH_take (i := 22) (v := undef) (by as_aux_lemma => (simp only [List.getElem?_toArray, List.getElem?_cons_zero, List.getElem?_cons_succ]; rfl)) (by as_aux_lemma => kernel_rfl) (by as_aux_lemma => kernel_rfl) (by as_aux_lemma => kernel_rfl) (fun _ _ _ h => h) (Or.inr ⟨by rfl, rfl⟩) (by assumption) ?_
                                      try simp only [Act.put, List.setIfInBounds_toArray, List.set_cons_zero, List.set_cons_succ]
                                      refine wpAnyH_take (i := 23) (v := undef) (by as_aux_lemma => (simp only [List.getElem?_toArray, List.getElem?_cons_zero, List.getElem?_cons_succ]; rfl)) (by as_aux_lemma => kernel_rfl) (by as_aux_lemma => kernel_rfl) (by as_aux_lemma => kernel_rfl) (fun _ _ _ h => h) (Or.inr ⟨by rfl, rfl⟩) (by assumption) ?_
                                      try simp only [Act.put, List.setIfInBounds_toArray, List.set_cons_zero, List.set_cons_succ]
                                      refine wpAnyH_take (i := 24) (v := undef) (by as_aux_lemma => (simp only [List.getElem?_toArray, List.getElem?_cons_zero, List.getElem?_cons_succ]; rfl)) (by as_aux_lemma => kernel_rfl) (by as_aux_lemma => kernel_rfl) (by as_aux_lemma => kernel_rfl) (fun _ _ _ h => h) (Or.inr ⟨by rfl, rfl⟩) (by assumption) ?_
                                      try simp only [Act.put, List.setIfInBounds_toArray, List.set_cons_zero, List.set_cons_succ]
                                      refine wpAnyH_take (i := 25) (v := undef) (by as_aux_lemma => (simp only [List.getElem?_toArray, List.getElem?_cons_zero, List.getElem?_cons_succ]; rfl)) (by as_aux_lemma => kernel_rfl) (by as_aux_lemma => kernel_rfl) (by as_aux_lemma => kernel_rfl) (fun _ _ _ h => h) (Or.inr ⟨by rfl, rfl⟩) (by assumption) ?_
                                      try simp only [Act.put, List.setIfInBounds_toArray, List.set_cons_zero, List.set_cons_succ]
                                      refine wpAnyH_take (i := 26) (v := undef) (by as_aux_lemma => (simp only [List.getElem?_toArray, List.getElem?_cons_zero, List.getElem?_cons_succ]; rfl)) (by as_aux_lemma => kernel_rfl) (by as_aux_lemma => kernel_rfl) (by as_aux_lemma => kernel_rfl) (fun _ _ _ h => h) (Or.inr ⟨by rfl, rfl⟩) (by assumption) ?_
                                      try simp only [Act.put, List.setIfInBounds_toArray, List.set_cons_zero, List.set_cons_succ]
                                      refine wpAnyH_take (i := 27) (v := undef) (by as_aux_lemma => (simp only [List.getElem?_toArray, List.getElem?_cons_zero, List.getElem?_cons_succ]; rfl)) (by as_aux_lemma => kernel_rfl) (by as_aux_lemma => kernel_rfl) (by as_aux_lemma => kernel_rfl) (fun _ _ _ h => h) (Or.inr ⟨by rfl, rfl⟩) (by assumption) ?_
                                      try simp only [Act.put, List.setIfInBounds_toArray, List.set_cons_zero, List.set_cons_succ]
                                      refine wpAnyH_take (i := 28) (v := ?fv28h26n27) (by as_aux_lemma => (simp only [List.getElem?_toArray, List.getElem?_cons_zero, List.getElem?_cons_succ]; rfl)) (by as_aux_lemma => kernel_rfl) (by as_aux_lemma => kernel_rfl) (by as_aux_lemma => kernel_rfl) (fun _ _ _ h => h) (Or.inl ⟨by rfl, ?fy28h26n27⟩) (by assumption) ?fr28h26n27
                                      case fy28h26n27 => (intro w hSw; (try dsimp only [SBt, EnAt] at hSw); go_simp; try with_reducible rfl)
                                      try simp only [Act.put, List.setIfInBounds_toArray, List.set_cons_zero, List.set_cons_succ]
                                      refine wpAnyH_done (by as_aux_lemma => kernel_rfl) ?_ _
                                      refine NoPanic.normal ?_
                                      clear hHeld
                                      go_wp2
                                      go_roundw
                                      case rel => exact ⟨q + 1, by omega, by go_num, HFj⟩
                                      case measure => simp [intOf]; omega
                                  · have dl5 : decide ((q : Int) < (m : Int)) = false := decide_eq_false (by omega)
                                    have HFn := Lib.hid (HFh.out.trans HFq.out)
                                    clear d0 d1 d2 d4
                                    go_wp2
                                    go_roundw
                                    case rel => exact ⟨b + 1, by omega, by go_num, HFn⟩
                                    case measure => simp [intOf]; omega
                          · have dl4 : decide ((b : Int) < (m : Int)) = false := decide_eq_false (by omega)
                            clear d0 d1 d2 d4
                            go_wp2
                            go_roundw
                            case rel => exact ⟨a + 1, by omega, by go_num, HFc⟩
                            case measure => simp [intOf]; omega
                    · have dl3 : decide ((a : Int) < (nv : Int)) = false := decide_eq_false (by omega)
                      obtain ⟨WF, rfl⟩ : ∃ W, W = wr := ⟨_, rfl⟩
                      obtain ⟨nR, hnR⟩ : ∃ x, x = R.es.length := ⟨_, rfl⟩
                      have HNR := Lib.hid hnR
                      have hnR128 : nR ≤ 128 := by rw [hnR]; exact HLn.out
                      have HUR := HUE
                      rw [← hnR] at HUR
                      obtain rfl := HUR.out
                      clear hnR HUR HUE
                      have HKA : Hid (R.es = [] ∨ Kept R A) := Lib.hid (by
                        rcases HKQ.out with q | q
                        · exact .inl q
                        · exact .inr (q ▸ (HJ.out.kept.trans HOA.out.2.1)))
                      have HRE := Lib.hid ((HO.out.he).keep (HJ.out.f.trans HF5.out))
                      have HFF := HFa
                      go_wp2_with fail
                      go_loopw [31] (fun s31 wx => ∃ a : Nat, a ≤ nR ∧ s31 = .int .i64 a ∧ Hid (Fr W5 wx [])) (fun s31 _ => nR - (intOf s31).toNat)
                      case atStart => exact ⟨0, Nat.zero_le _, rfl, HFF⟩
                      case round =>
                        clear HFa HFF
                        obtain ⟨a', ha', rfl, HFa⟩ := hrel
                        obtain ⟨y0, y1, y2, y3, y4⟩ := HSE.out _ HFa.out
                        by_cases hlt6 : a' < nR
                        · have dl6 : decide ((a' : Int) < (nR : Int)) = true := decide_eq_true (by omega)
                          as_aux_lemma =>
                            obtain ⟨bl, off, vb, rfl, hE, hB⟩ := HRE.out.ent hlt6
                            have HK := Lib.hid (by
                              rcases HKA.out with q | q
                              · rw [HNR.out, q] at hlt6; exact absurd hlt6 (Nat.not_lt_zero _)
                              · exact q : Kept R A)
                            have HNAR := Lib.hid (show nA = nR by rw [HNA.out, HNR.out]; exact HK.out.1)
                            have HST := Lib.hid (HK.out.2.2 a' (by rw [← HNR.out]; exact hlt6))
                            have hlt7 : a' < nA := by rw [HNAR.out]; exact hlt6
                            obtain ⟨bk, ok, vk, hbk, hK, hBk⟩ := HAE5.out.ent hlt7
                            generalize R.es.getD a' zeroE = E at hE hB HST
                            obtain ⟨E0, E1, E2, ebs, ea⟩ := E
                            dsimp only at HST hB
                            obtain ⟨d0, d1, d2, d3, d4⟩ := hE.keep HFa.out
                            dsimp only at d0 d1 d2 d3 d4
                            have hap : (0 : Int) ≤ (a' : Int) ∧ (a' : Int) < (nR : Int) := by omega
                            by_cases hea : ea < 0
                            · have da : decide (ea < (0 : Int)) = true := decide_eq_true hea
                              clear d0 d1 d2 d3
                              go_wp2
                              go_roundw
                              case rel => exact ⟨a' + 1, by omega, by go_num, HFa⟩
                              case measure => simp [intOf]; omega
                            · have da : decide (ea < (0 : Int)) = false := decide_eq_false hea
                              have HEQ := HST.out (by omega)
                              rw [HEQ] at hK hBk
                              dsimp only at hBk
                              obtain ⟨zb, zc, hvb⟩ := hB.shape
                              obtain ⟨zb', zc', hvk⟩ := hBk.shape
                              obtain ⟨k5, hk5⟩ : ∃ x, x = ebs.length := ⟨_, rfl⟩
                              rw [← hk5] at hvb hvk
                              subst hvb hvk hbk
                              have HE5 := Lib.hid hE
                              have HK5 := Lib.hid hK
                              clear hE hK hB hBk hk5 hea HEQ
                              have dn : decide ((nA : Int) ≤ (a' : Int)) = false := decide_eq_false (by omega)
                              have dn2 : decide (nA ≤ a') = false := decide_eq_false (by omega)
                              have hap2 : (0 : Int) ≤ (a' : Int) ∧ (a' : Int) < (nA : Int) := by omega
                              have HSW : Hid (∀ V', Fr wr V' [] → SEe wr g (.int .i64 R.co) (.int .i64 R.fo) (.int .i64 R.ho) (.slice (some ⟨bm, om, none⟩) m pc) (.slice (some ⟨bl, off, none⟩) nR pd) g4 (.int .i64 A.co) (.int .i64 A.fo) (.int .i64 A.ho) (.slice b1 m b2) (.slice (some ⟨bk, ok, none⟩) nA b4) bl (off + a' * 5) ⟨E0, E1, E2, ebs, ea⟩ (.slice zb k5 zc) bk (ok + a' * 5) (.slice zb' k5 zc') V') :=
                                Lib.hid (fun V' hV => ⟨hV, HSE.out _ (HFa.out.trans hV), HSA.out _ (HFa.out.trans hV), HE5.out.keep (HFa.out.trans hV), HK5.out.keep (HFa.out.trans hV)⟩)
                              go_upto_region 57 with fail
                              clear y0 y1 y2 y3 y4 d0 d1 d2 d3 d4
                              refine wp_region_noPanic ?_
                              refine wp_region_held_drew (S := SEe wr g (.int .i64 R.co) (.int .i64 R.fo) (.int .i64 R.ho) (.slice (some ⟨bm, om, none⟩) m pc) (.slice (some ⟨bl, off, none⟩) nR pd) g4 (.int .i64 A.co) (.int .i64 A.fo) (.int .i64 A.ho) (.slice b1 m b2) (.slice (some ⟨bk, ok, none⟩) nA b4) bl (off + a' * 5) ⟨E0, E1, E2, ebs, ea⟩ (.slice zb k5 zc) bk (ok + a' * 5) (.slice zb' k5 zc')) (by as_aux_lemma => kernel_rfl) (HSW.out _ (Fr.drew wr [])) (fun hHeld => ?_)
                              refine wpAnyH_take (i := 0) (v := ?fv0h28n29) (by as_aux_lemma => (simp only [List.getElem?_toArray, List.getElem?_cons_zero]; rfl)) (by as_aux_lemma => kernel_rfl) (by as_aux_lemma => kernel_rfl) (by as_aux_lemma => kernel_rfl) (fun _ _ _ h => h) (Or.inl ⟨by rfl, ?fy0h28n29⟩) (by assumption) ?fr0h28n29
                              case fy0h28n29 => (intro w hSw; (try dsimp only [SEe, C5, EnAt] at hSw); go_simp; try with_reducible rfl)
                              try simp only [Act.put, List.setIfInBounds_toArray, List.set_cons_zero, List.set_cons_succ]
                              refine wpAnyH_take (i := 1) (v := ?fv1h28n29) (by as_aux_lemma => (simp only [List.getElem?_toArray, List.getElem?_cons_zero, List.getElem?_cons_succ]; rfl)) (by as_aux_lemma => kernel_rfl) (by as_aux_lemma => kernel_rfl) (by as_aux_lemma => kernel_rfl) (fun _ _ _ h => h) (Or.inl ⟨by rfl, ?fy1h28n29⟩) (by assumption) ?fr1h28n29
                              case fy1h28n29 => (intro w hSw; (try dsimp only [SEe, C5, EnAt] at hSw); go_simp; try with_reducible rfl)
                              try simp only [Act.put, List.setIfInBounds_toArray, List.set_cons_zero, List.set_cons_succ]
                              refine wpAnyH_take (i := 2) (v := ?fv2h28n29) (by as_aux_lemma => (simp only [List.getElem?_toArray, List.getElem?_cons_zero, List.getElem?_cons_succ]; rfl)) (by as_aux_lemma => kernel_rfl) (by as_aux_lemma => kernel_rfl) (by as_aux_lemma => kernel_rfl) (fun _ _ _ h => h) (Or.inl ⟨by rfl, ?fy2h28n29⟩) (by assumption) ?fr2h28n29
                              case fy2h28n29 => (intro w hSw; (try dsimp only [SEe, C5, EnAt] at hSw); go_simp; try with_reducible rfl)
                              try simp only [Act.put, List.setIfInBounds_toArray, List.set_cons_zero, List.set_cons_succ]
                              refine wpAnyH_take (i := 3) (v := ?fv3h28n29) (by as_aux_lemma => (simp only [List.getElem?_toArray, List.getElem?_cons_zero, List.getElem?_cons_succ]; rfl)) (by as_aux_lemma => kernel_rfl) (by as_aux_lemma => kernel_rfl) (by as_aux_lemma => kernel_rfl) (fun _ _ _ h => h) (Or.inl ⟨by rfl, ?fy3h28n29⟩) (by assumption) ?fr3h28n29
                              case fy3h28n29 => (intro w hSw; (try dsimp only [SEe, C5, EnAt] at hSw); go_simp; try with_reducible rfl)
                              try simp only [Act.put, List.setIfInBounds_toArray, List.set_cons_zero, List.set_cons_succ]
                              refine wpAnyH_take (i := 4) (v := ?fv4h28n29) (by as_aux_lemma => (simp only [List.getElem?_toArray, List.getElem?_cons_zero, List.getElem?_cons_succ]; rfl)) (by as_aux_lemma => kernel_rfl) (by as_aux_lemma => kernel_rfl) (by as_aux_lemma => kernel_rfl) (fun _ _ _ h => h) (Or.inl ⟨by rfl, ?fy4h28n29⟩) (by assumption) ?fr4h28n29
                              case fy4h28n29 => (intro w hSw; (try dsimp only [SEe, C5, EnAt] at hSw); go_simp; try with_reducible rfl)
                              try simp only [Act.put, List.setIfInBounds_toArray, List.set_cons_zero, List.set_cons_succ]
                              refine wpAnyH_take (i := 5) (v := ?fv5h28n29) (by as_aux_lemma => (simp only [List.getElem?_toArray, List.getElem?_cons_zero, List.getElem?_cons_succ]; rfl)) (by as_aux_lemma => kernel_rfl) (by as_aux_lemma => kernel_rfl) (by as_aux_lemma => kernel_rfl) (fun _ _ _ h => h) (Or.inl ⟨by rfl, ?fy5h28n29⟩) (by assumption) ?fr5h28n29
                              case fy5h28n29 => (intro w hSw; (try dsimp only [SEe, C5, EnAt] at hSw); go_simp; try with_reducible rfl)
                              try simp only [Act.put, List.setIfInBounds_toArray, List.set_cons_zero, List.set_cons_succ]
                              refine wpAnyH_take (i := 6) (v := ?fv6h28n29) (by as_aux_lemma => (simp only [List.getElem?_toArray, List.getElem?_cons_zero, List.getElem?_cons_succ]; rfl)) (by as_aux_lemma => kernel_rfl) (by as_aux_lemma => kernel_rfl) (by as_aux_lemma => kernel_rfl) (fun _ _ _ h => h) (Or.inl ⟨by rfl, ?fy6h28n29⟩) (by assumption) ?fr6h28n29
                              case fy6h28n29 => (intro w hSw; (try dsimp only [SEe, C5, EnAt] at hSw); go_simp; try with_reducible rfl)
                              try simp only [Act.put, List.setIfInBounds_toArray, List.set_cons_zero, List.set_cons_succ]
                              refine wpAnyH_take (i := 7) (v := ?fv7h28n29) (by as_aux_lemma => (simp only [List.getElem?_toArray, List.getElem?_cons_zero, List.getElem?_cons_succ]; rfl)) (by as_aux_lemma => kernel_rfl) (by as_aux_lemma => kernel_rfl) (by as_aux_lemma => kernel_rfl) (fun _ _ _ h => h) (Or.inl ⟨by rfl, ?fy7h28n29⟩) (by assumption) ?fr7h28n29
                              case fy7h28n29 => (intro w hSw; (try dsimp only [SEe, C5, EnAt] at hSw); go_simp; try with_reducible rfl)
                              try simp only [Act.put, List.setIfInBounds_toArray, List.set_cons_zero, List.set_cons_succ]
                              refine wpAnyH_take (i := 8) (v := ?fv8h28n29) (by as_aux_lemma => (simp only [List.getElem?_toArray, List.getElem?_cons_zero, List.getElem?_cons_succ]; rfl)) (by as_aux_lemma => kernel_rfl) (by as_aux_lemma => kernel_rfl) (by as_aux_lemma => kernel_rfl) (fun _ _ _ h => h) (Or.inl ⟨by rfl, ?fy8h28n29⟩) (by assumption) ?fr8h28n29
                              case fy8h28n29 => (intro w hSw; (try dsimp only [SEe, C5, EnAt] at hSw); go_simp; try with_reducible rfl)
                              try simp only [Act.put, List.setIfInBounds_toArray, List.set_cons_zero, List.set_cons_succ]
                              refine wpAnyH_take (i := 9) (v := ?fv9h28n29) (by as_aux_lemma => (simp only [List.getElem?_toArray, List.getElem?_cons_zero, List.getElem?_cons_succ]; rfl)) (by as_aux_lemma => kernel_rfl) (by as_aux_lemma => kernel_rfl) (by as_aux_lemma => kernel_rfl) (fun _ _ _ h => h) (Or.inl ⟨by rfl, ?fy9h28n29⟩) (by assumption) ?fr9h28n29
                              case fy9h28n29 => (intro w hSw; (try dsimp only [SEe, C5, EnAt] at hSw); go_simp; try with_reducible rfl)
                              try simp only [Act.put, List.setIfInBounds_toArray, List.set_cons_zero, List.set_cons_succ]
                              refine wpAnyH_take (i := 10) (v := ?fv10h28n29) (by as_aux_lemma => (simp only [List.getElem?_toArray, List.getElem?_cons_zero, List.getElem?_cons_succ]; rfl)) (by as_aux_lemma => kernel_rfl) (by as_aux_lemma => kernel_rfl) (by as_aux_lemma => kernel_rfl) (fun _ _ _ h => h) (Or.inl ⟨by rfl, ?fy10h28n29⟩) (by assumption) ?fr10h28n29
                              case fy10h28n29 => (intro w hSw; (try dsimp only [SEe, C5, EnAt] at hSw); go_simp; try with_reducible rfl)
                              try simp only [Act.put, List.setIfInBounds_toArray, List.set_cons_zero, List.set_cons_succ]
                              refine wpAnyH_take (i := 11) (v := ?fv11h28n29) (by as_aux_lemma => (simp only [List.getElem?_toArray, List.getElem?_cons_zero, List.getElem?_cons_succ]; rfl)) (by as_aux_lemma => kernel_rfl) (by as_aux_lemma => kernel_rfl) (by as_aux_lemma => kernel_rfl) (fun _ _ _ h => h) (Or.inl ⟨by rfl, ?fy11h28n29⟩) (by assumption) ?fr11h28n29
                              case fy11h28n29 => (intro w hSw; (try dsimp only [SEe, C5, EnAt] at hSw); go_simp; try with_reducible rfl)
                              try simp only [Act.put, List.setIfInBounds_toArray, List.set_cons_zero, List.set_cons_succ]
                              refine wpAnyH_take (i := 12) (v := ?fv12h28n29) (by as_aux_lemma => (simp only [List.getElem?_toArray, List.getElem?_cons_zero, List.getElem?_cons_succ]; rfl)) (by as_aux_lemma => kernel_rfl) (by as_aux_lemma => kernel_rfl) (by as_aux_lemma => kernel_rfl) (fun _ _ _ h => h) (Or.inl ⟨by rfl, ?fy12h28n29⟩) (by assumption) ?fr12h28n29
                              case fy12h28n29 => (intro w hSw; (try dsimp only [SEe, C5, EnAt] at hSw); go_simp; try with_reducible rfl)
                              try simp only [Act.put, List.setIfInBounds_toArray, List.set_cons_zero, List.set_cons_succ]
                              refine wpAnyH_take (i := 13) (v := ?fv13h28n29) (by as_aux_lemma => (simp only [List.getElem?_toArray, List.getElem?_cons_zero, List.getElem?_cons_succ]; rfl)) (by as_aux_lemma => kernel_rfl) (by as_aux_lemma => kernel_rfl) (by as_aux_lemma => kernel_rfl) (fun _ _ _ h => h) (Or.inl ⟨by rfl, ?fy13h28n29⟩) (by assumption) ?fr13h28n29
                              case fy13h28n29 => (intro w hSw; (try dsimp only [SEe, C5, EnAt] at hSw); go_simp; try with_reducible rfl)
                              try simp only [Act.put, List.setIfInBounds_toArray, List.set_cons_zero, List.set_cons_succ]
                              refine wpAnyH_take (i := 14) (v := ?fv14h28n29) (by as_aux_lemma => (simp only [List.getElem?_toArray, List.getElem?_cons_zero, List.getElem?_cons_succ]; rfl)) (by as_aux_lemma => kernel_rfl) (by as_aux_lemma => kernel_rfl) (by as_aux_lemma => kernel_rfl) (fun _ _ _ h => h) (Or.inl ⟨by rfl, ?fy14h28n29⟩) (by assumption) ?fr14h28n29
                              case fy14h28n29 => (intro w hSw; (try dsimp only [SEe, C5, EnAt] at hSw); go_simp; try with_reducible rfl)
                              try simp only [Act.put, List.setIfInBounds_toArray, List.set_cons_zero, List.set_cons_succ]
                              refine wpAnyH_take (i := 15) (v := ?fv15h28n29) (by as_aux_lemma => (simp only [List.getElem?_toArray, List.getElem?_cons_zero, List.getElem?_cons_succ]; rfl)) (by as_aux_lemma => kernel_rfl) (by as_aux_lemma => kernel_rfl) (by as_aux_lemma => kernel_rfl) (fun _ _ _ h => h) (Or.inl ⟨by rfl, ?fy15h28n29⟩) (by assumption) ?fr15h28n29
                              case fy15h28n29 => (intro w hSw; (try dsimp only [SEe, C5, EnAt] at hSw); go_simp; try with_reducible rfl)
                              try simp only [Act.put, List.setIfInBounds_toArray, List.set_cons_zero, List.set_cons_succ]
                              refine wpAnyH_take (i := 16) (v := ?fv16h28n29) (by as_aux_lemma => (simp only [List.getElem?_toArray, List.getElem?_cons_zero, List.getElem?_cons_succ]; rfl)) (by as_aux_lemma => kernel_rfl) (by as_aux_lemma => kernel_rfl) (by as_aux_lemma => kernel_rfl) (fun _ _ _ h => h) (Or.inl ⟨by rfl, ?fy16h28n29⟩) (by assumption) ?fr16h28n29
                              case fy16h28n29 => (intro w hSw; (try dsimp only [SEe, C5, EnAt] at hSw); go_simp; try with_reducible rfl)
                              try simp only [Act.put, List.setIfInBounds_toArray, List.set_cons_zero, List.set_cons_succ]
                              refine wpAnyH_take (i := 17) (v := ?fv17h28n29) (by as_aux_lemma => (simp only [List.getElem?_toArray, List.getElem?_cons_zero, List.getElem?_cons_succ]; rfl)) (by as_aux_lemma => kernel_rfl) (by as_aux_lemma => kernel_rfl) (by as_aux_lemma => kernel_rfl) (fun _ _ _ h => h) (Or.inl ⟨by rfl, ?fy17h28n29⟩) (by assumption) ?fr17h28n29
                              case fy17h28n29 => (intro w hSw; (try dsimp only [SEe, C5, EnAt] at hSw); go_simp; try with_reducible rfl)
                              try simp only [Act.put, List.setIfInBounds_toArray, List.set_cons_zero, List.set_cons_succ]
                              refine wpAnyH_take (i := 18) (v := ?fv18h28n29) (by as_aux_lemma => (simp only [List.getElem?_toArray, List.getElem?_cons_zero, List.getElem?_cons_succ]; rfl)) (by as_aux_lemma => kernel_rfl) (by as_aux_lemma => kernel_rfl) (by as_aux_lemma => kernel_rfl) (fun _ _ _ h => h) (Or.inl ⟨by rfl, ?fy18h28n29⟩) (by assumption) ?fr18h28n29
                              case fy18h28n29 => (intro w hSw; (try dsimp only [SEe, C5, EnAt] at hSw); go_simp; try with_reducible rfl)
                              try simp only [Act.put, List.setIfInBounds_toArray, List.set_cons_zero, List.set_cons_succ]
                              refine wpAnyH_take (i := 19) (v := ?fv19h28n29) (by as_aux_lemma => (simp only [List.getElem?_toArray, List.getElem?_cons_zero, List.getElem?_cons_succ]; rfl)) (by as_aux_lemma => kernel_rfl) (by as_aux_lemma => kernel_rfl) (by as_aux_lemma => kernel_rfl) (fun _ _ _ h => h) (Or.inl ⟨by rfl, ?fy19h28n29⟩) (by assumption) ?fr19h28n29
                              case fy19h28n29 => (intro w hSw; (try dsimp only [SEe, C5, EnAt] at hSw); go_simp; try with_reducible rfl)
                              try simp only [Act.put, List.setIfInBounds_toArray, List.set_cons_zero, List.set_cons_succ]
                              refine wpAnyH_take (i := 20) (v := ?fv20h28n29) (by as_aux_lemma => (simp only [List.getElem?_toArray, List.getElem?_cons_zero, List.getElem?_cons_succ]; rfl)) (by as_aux_lemma => kernel_rfl) (by as_aux_lemma => kernel_rfl) (by as_aux_lemma => kernel_rfl) (fun _ _ _ h => h) (Or.inl ⟨by rfl, ?fy20h28n29⟩) (by assumption) ?fr20h28n29
                              case fy20h28n29 => (intro w hSw; (try dsimp only [SEe, C5, EnAt] at hSw); go_simp; try with_reducible rfl)
                              try simp only [Act.put, List.setIfInBounds_toArray, List.set_cons_zero, List.set_cons_succ]
                              refine wpAnyH_take (i := 21) (v := ?fv21h28n29) (by as_aux_lemma => (simp only [List.getElem?_toArray, List.getElem?_cons_zero, List.getElem?_cons_succ]; rfl)) (by as_aux_lemma => kernel_rfl) (by as_aux_lemma => kernel_rfl) (by as_aux_lemma => kernel_rfl) (fun _ _ _ h => h) (Or.inl ⟨by rfl, ?fy21h28n29⟩) (by assumption) ?fr21h28n29
                              case fy21h28n29 => (intro w hSw; (try dsimp only [SEe, C5, EnAt] at hSw); go_simp; try with_reducible rfl)
                              try simp only [Act.put, List.setIfInBounds_toArray, List.set_cons_zero, List.set_cons_succ]
                              refine wpAnyH_take (i := 22) (v := ?fv22h28n29) (by as_aux_lemma => (simp only [List.getElem?_toArray, List.getElem?_cons_zero, List.getElem?_cons_succ]; rfl)) (by as_aux_lemma => kernel_rfl) (by as_aux_lemma => kernel_rfl) (by as_aux_lemma => kernel_rfl) (fun _ _ _ h => h) (Or.inl ⟨by rfl, ?fy22h28n29⟩) (by assumption) ?fr22h28n29
                              case fy22h28n29 => (intro w hSw; (try dsimp only [SEe, C5, EnAt] at hSw); go_simp; try with_reducible rfl)
                              try simp only [Act.put, List.setIfInBounds_toArray, List.set_cons_zero, List.set_cons_succ]
                              refine wpAnyH_take (i := 23) (v := ?fv23h28n29) (by as_aux_lemma => (simp only [List.getElem?_toArray, List.getElem?_cons_zero, List.getElem?_cons_succ]; rfl)) (by as_aux_lemma => kernel_rfl) (by as_aux_lemma => kernel_rfl) (by as_aux_lemma => kernel_rfl) (fun _ _ _ h => h) (Or.inl ⟨by rfl, ?fy23h28n29⟩) (by assumption) ?fr23h28n29
                              case fy23h28n29 => (intro w hSw; (try dsimp only [SEe, C5, EnAt] at hSw); go_simp; try with_reducible rfl)
                              try simp only [Act.put, List.setIfInBounds_toArray, List.set_cons_zero, List.set_cons_succ]
                              refine wpAnyH_take (i := 24) (v := ?fv24h28n29) (by as_aux_lemma => (simp only [List.getElem?_toArray, List.getElem?_cons_zero, List.getElem?_cons_succ]; rfl)) (by as_aux_lemma => kernel_rfl) (by as_aux_lemma => kernel_rfl) (by as_aux_lemma => kernel_rfl) (fun _ _ _ h => h) (Or.inl ⟨by rfl, ?fy24h28n29⟩) (by assumption) ?fr24h28n29
                              case fy24h28n29 => (intro w hSw; (try dsimp only [SEe, C5, EnAt] at hSw); go_simp; try with_reducible rfl)
                              try simp only [Act.put, List.setIfInBounds_toArray, List.set_cons_zero, List.set_cons_succ]
                              refine wpAnyH_take (i := 25) (v := ?fv25h28n29) (by as_aux_lemma => (simp only [List.getElem?_toArray, List.getElem?_cons_zero, List.getElem?_cons_succ]; rfl)) (by as_aux_lemma => kernel_rfl) (by as_aux_lemma => kernel_rfl) (by as_aux_lemma => kernel_rfl) (fun _ _ _ h => h) (Or.inl ⟨by rfl, ?fy25h28n29⟩) (by assumption) ?fr25h28n29
                              case fy25h28n29 => (intro w hSw; (try dsimp only [SEe, C5, EnAt] at hSw); go_simp; try with_reducible rfl)
                              try simp only [Act.put, List.setIfInBounds_toArray, List.set_cons_zero, List.set_cons_succ]
                              refine wpAnyH_take (i := 26) (v := ?fv26h28n29) (by as_aux_lemma => (simp only [List.getElem?_toArray, List.getElem?_cons_zero, List.getElem?_cons_succ]; rfl)) (by as_aux_lemma => kernel_rfl) (by as_aux_lemma => kernel_rfl) (by as_aux_lemma => kernel_rfl) (fun _ _ _ h => h) (Or.inl ⟨by rfl, ?fy26h28n29⟩) (by assumption) ?fr26h28n29
                              case fy26h28n29 => (intro w hSw; (try dsimp only [SEe, C5, EnAt] at hSw); go_simp; try with_reducible rfl)
                              try simp only [Act.put, List.setIfInBounds_toArray, List.set_cons_zero, List.set_cons_succ]
                              refine wpAnyH_take (i := 27) (v := ?fv27h28n29) (by as_aux_lemma => (simp only [List.getElem?_toArray, List.getElem?_cons_zero, List.getElem?_cons_succ]; rfl)) (by as_aux_lemma => kernel_rfl) (by as_aux_lemma => kernel_rfl) (by as_aux_lemma => kernel_rfl) (fun _ _ _ h => h) (Or.inl ⟨by rfl, ?fy27h28n29⟩) (by assumption) ?fr27h28n29
                              case fy27h28n29 => (intro w hSw; (try dsimp only [SEe, C5, EnAt] at hSw); go_simp; try with_reducible rfl)
                              try simp only [Act.put, List.setIfInBounds_toArray, List.set_cons_zero, List.set_cons_succ]
                              refine wpAnyH_take (i := 28) (v := ?fv28h28n29) (by as_aux_lemma => (simp only [List.getElem?_toArray, List.getElem?_cons_zero, List.getElem?_cons_succ]; rfl)) (by as_aux_lemma => kernel_rfl) (by as_aux_lemma => kernel_rfl) (by as_aux_lemma => kernel_rfl) (fun _ _ _ h => h) (Or.inl ⟨by rfl, ?fy28h28n29⟩) (by assumption) ?fr28h28n29
                              case fy28h28n29 => (intro w hSw; (try dsimp only [SEe, C5, EnAt] at hSw); go_simp; try with_reducible rfl)
                              try simp only [Act.put, List.setIfInBounds_toArray, List.set_cons_zero, List.set_cons_succ]
                              refine wpAnyH_take (i := 29) (v := ?fv29h28n29) (by as_aux_lemma => (simp only [List.getElem?_toArray, List.getElem?_cons_zero, List.getElem?_cons_succ]; rfl)) (by as_aux_lemma => kernel_rfl) (by as_aux_lemma => kernel_rfl) (by as_aux_lemma => kernel_rfl) (fun _ _ _ h => h) (Or.inl ⟨by rfl, ?fy29h28n29⟩) (by assumption) ?fr29h28n29
                              case fy29h28n29 => (intro w hSw; (try dsimp only [SEe, C5, EnAt] at hSw); go_simp; try with_reducible rfl)
                              try simp only [Act.put, List.setIfInBounds_toArray, List.set_cons_zero, List.set_cons_succ]
                              refine wpAnyH_take (i := 30) (v := ?fv30h28n29) (by as_aux_lemma => (simp only [List.getElem?_toArray, List.getElem?_cons_zero, List.getElem?_cons_succ]; rfl)) (by as_aux_lemma => kernel_rfl) (by as_aux_lemma => kernel_rfl) (by as_aux_lemma => kernel_rfl) (fun _ _ _ h => h) (Or.inl ⟨by rfl, ?fy30h28n29⟩) (by assumption) ?fr30h28n29
                              case fy30h28n29 => (intro w hSw; (try dsimp only [SEe, C5, EnAt] at hSw); go_simp; try with_reducible rfl)
                              try simp only [Act.put, List.setIfInBounds_toArray, List.set_cons_zero, List.set_cons_succ]
                              refine wpAnyH_take (i := 31) (v := ?fv31h28n29) (by as_aux_lemma => (simp only [List.getElem?_toArray, List.getElem?_cons_zero, List.getElem?_cons_succ]; rfl)) (by as_aux_lemma => kernel_rfl) (by as_aux_lemma => kernel_rfl) (by as_aux_lemma => kernel_rfl) (fun _ _ _ h => h) (Or.inl ⟨by rfl, ?fy31h28n29⟩) (by assumption) ?fr31h28n29
                              case fy31h28n29 => (intro w hSw; (try dsimp only [SEe, C5, EnAt] at hSw); go_simp; try with_reducible rfl)
                              try simp only [Act.put, List.setIfInBounds_toArray, List.set_cons_zero, List.set_cons_succ]
                              refine wpAnyH_take (i := 32) (v := ?fv32h28n29) (by as_aux_lemma => (simp only [List.getElem?_toArray, List.getElem?_cons_zero, List.getElem?_cons_succ]; rfl)) (by as_aux_lemma => kernel_rfl) (by as_aux_lemma => kernel_rfl) (by as_aux_lemma => kernel_rfl) (fun _ _ _ h => h) (Or.inl ⟨by rfl, ?fy32h28n29⟩) (by assumption) ?fr32h28n29
                              case fy32h28n29 => (intro w hSw; (try dsimp only [SEe, C5, EnAt] at hSw); go_simp; try with_reducible rfl)
                              try simp only [Act.put, List.setIfInBounds_toArray, List.set_cons_zero, List.set_cons_succ]
                              refine wpAnyH_take (i := 33) (v := ?fv33h28n29) (by as_aux_lemma => (simp only [List.getElem?_toArray, List.getElem?_cons_zero, List.getElem?_cons_succ]; rfl)) (by as_aux_lemma => kernel_rfl) (by as_aux_lemma => kernel_rfl) (by as_aux_lemma => kernel_rfl) (fun _ _ _ h => h) (Or.inl ⟨by rfl, ?fy33h28n29⟩) (by assumption) ?fr33h28n29
                              case fy33h28n29 => (intro w hSw; (try dsimp only [SEe, C5, EnAt] at hSw); go_simp; try with_reducible rfl)
                              try simp only [Act.put, List.setIfInBounds_toArray, List.set_cons_zero, List.set_cons_succ]
                              refine wpAnyH_take (i := 34) (v := ?fv34h28n29) (by as_aux_lemma => (simp only [List.getElem?_toArray, List.getElem?_cons_zero, List.getElem?_cons_succ]; rfl)) (by as_aux_lemma => kernel_rfl) (by as_aux_lemma => kernel_rfl) (by as_aux_lemma => kernel_rfl) (fun _ _ _ h => h) (Or.inl ⟨by rfl, ?fy34h28n29⟩) (by assumption) ?fr34h28n29
                              case fy34h28n29 => (intro w hSw; (try dsimp only [SEe, C5, EnAt] at hSw); go_simp; try with_reducible rfl)
                              try simp only [Act.put, List.setIfInBounds_toArray, List.set_cons_zero, List.set_cons_succ]
                              refine wpAnyH_take (i := 35) (v := ?fv35h28n29) (by as_aux_lemma => (simp only [List.getElem?_toArray, List.getElem?_cons_zero, List.getElem?_cons_succ]; rfl)) (by as_aux_lemma => kernel_rfl) (by as_aux_lemma => kernel_rfl) (by as_aux_lemma => kernel_rfl) (fun _ _ _ h => h) (Or.inl ⟨by rfl, ?fy35h28n29⟩) (by assumption) ?fr35h28n29
                              case fy35h28n29 => (intro w hSw; (try dsimp only [SEe, C5, EnAt] at hSw); go_simp; try with_reducible rfl)
                              try simp only [Act.put, List.setIfInBounds_toArray, List.set_cons_zero, List.set_cons_succ]
                              refine wpAnyH_take (i := 36) (v := ?fv36h28n29) (by as_aux_lemma => (simp only [List.getElem?_toArray, List.getElem?_cons_zero, List.getElem?_cons_succ]; rfl)) (by as_aux_lemma => kernel_rfl) (by as_aux_lemma => kernel_rfl) (by as_aux_lemma => kernel_rfl) (fun _ _ _ h => h) (Or.inl ⟨by rfl, ?fy36h28n29⟩) (by assumption) ?fr36h28n29
                              case fy36h28n29 => (intro w hSw; (try dsimp only [SEe, C5, EnAt] at hSw); go_simp; try with_reducible rfl)
                              try simp only [Act.put, List.setIfInBounds_toArray, List.set_cons_zero, List.set_cons_succ]
                              refine wpAnyH_done (by as_aux_lemma => kernel_rfl) ?_ _
                              refine NoPanic.normal ?_
                              have HFn := Lib.hid (HFa.out.trans (Fr.drew wr []))
                              clear hHeld HSW
                              go_wp2
                              go_roundw
                              case rel => exact ⟨a' + 1, by omega, by go_num, HFn⟩
                              case measure => simp [intOf]; omega
                        · have dl6 : decide ((a' : Int) < (nR : Int)) = false := decide_eq_false (by omega)
                          obtain ⟨WP, rfl⟩ : ∃ W, W = wr := ⟨_, rfl⟩
                          as_aux_lemma =>
                            have HHA : Hid (A.ho = (i : Int)) := by
                              have h1 := HOA.out.2.1.2.1
                              have h2 := HJ.out.kept.2.1
                              have h3 := HQHO.out
                              exact Lib.hid (by rw [h1, h2, h3])
                            have HOP := Lib.hid (once_pass HOA.out.1 (by rw [HHA.out]; omega))
                            have PS := Lib.hid (pass_al A _ _ WP (HAM5.out.keep HFa.out) (HAE5.out.keep HFa.out) (by rw [HOA.out.1.mem, ← HM.out]; have := HMS.out; omega) (by have := OnceR.len HOA.out.1; omega) (fun e he => by have := HOA.out.1.few HMS.out.1 e he; omega) (by rw [HHA.out]; omega))
                            rw [HOP.out.2.1] at PS
                            unfold rgV at PS
                            obtain ⟨Z, hZ⟩ : ∃ Z, Z = passR A := ⟨_, rfl⟩
                            rw [← hZ] at HOP PS
                            clear hZ
                            obtain ⟨x0, x1, x2, x3, x4⟩ := HSA.out _ HFa.out
                            go_wp2_with fail
                            with_reducible refine (PS.out).mono ?_
                            rintro e w7 ⟨u, rfl, x, rfl, ⟨vm7, ve7, rfl, h7, k7⟩, hf, hal⟩
                            have HAL := Lib.hid hal
                            obtain ⟨a9, c9, e1, _⟩ := h7
                            obtain ⟨a10, c10, e2, _⟩ := k7
                            have hmZ : Z.ms.length = m := by rw [HOP.out.1.mem]; exact HM.out.symm
                            have hlZ : Z.es.length = l2 := by rw [HOP.out.2.2.2, HOA.out.2.1.1]; exact HL2.out.symm
                            have hhZ : Z.ho = (i : Int) + 1 := by rw [HOP.out.2.2.1, HHA.out]
                            rw [hmZ] at e1
                            rw [hlZ] at e2
                            subst e1 e2
                            unfold rgV
                            rw [hhZ]
                            have HHZ := Lib.hid hhZ
                            have HBZ := Lib.hid (box_ring w7 (.int .i64 Z.co) (.int .i64 Z.fo) (.int .i64 ((i : Int) + 1)) (.slice a9 m c9) (.slice a10 l2 c10))
                            obtain ⟨g6, hg6⟩ : ∃ x, x = w7.heap.size := ⟨_, rfl⟩
                            rw [← hg6] at HBZ
                            clear hal hmZ hlZ hhZ PS y0 y1 y2 y3 y4 x0 x1 x2 x3 x4
                            go_upto_region 60 with fail
                            rw [← hg6]
                            generalize World.alloc w7 _ = W7 at HBZ ⊢
                            have HG6 := Lib.hid hg6
                            clear hg6
                            have HF7 := Lib.hid (HFa.out.trans (hf.trans HBZ.out.2))
                            have HF7A := Lib.hid ((HJ.out.f.trans HF5.out).trans HF7.out)
                            have HBN := Lib.hid ((HF5.out.trans HF7.out).heap HJ.out.box (by simp))
                            have HBG := Lib.hid (HF7A.out.heap HO.out.box (by simp))
                            rw [HHO.out] at HBG
                            obtain ⟨y0, y1, y2, y3, y4⟩ := row5 HBG.out
                            obtain ⟨z0, z1, z2, z3, z4⟩ := row5 HBZ.out.1
                            obtain ⟨x0, x1, x2, x3, x4⟩ := row5 HBN.out
                            obtain ⟨f0, f1, f2, f3, f4⟩ := fz5 HBG.out
                            have HZN := Lib.hid (set5 HBG.out (.int .i64 Z.co) (.int .i64 Z.fo) (.int .i64 ((i : Int) + 1)) (.slice a9 m c9) (.slice a10 l2 c10))
                            have HFN := Lib.hid (set5_fr W7 g (.int .i64 Z.co) (.int .i64 Z.fo) (.int .i64 ((i : Int) + 1)) (.slice a9 m c9) (.slice a10 l2 c10))
                            go_upto_region 20 with fail
                            generalize World.setCell (World.setCell (World.setCell (World.setCell (World.setCell W7 _ _) _ _) _ _) _ _) _ _ = W9 at HZN HFN ⊢
                            clear x0 x1 x2 x3 x4 y0 y1 y2 y3 y4 z0 z1 z2 z3 z4 f0 f1 f2 f3 f4
                            have HAP := Lib.hid (Alone.two (S := [g]) HAL.out (fun p hp => by obtain rfl := List.mem_singleton.1 hp; exact ⟨_, ((HJ.out.f.trans HF5.out).trans (HFa.out.trans hf)).heap HO.out.box (by simp)⟩) ((HBZ.out.2.mono (fun x hx => by cases hx)).trans HFN.out))
                            have HON9 : Hid (OIn w1 W9 g L ms Z (.slice a9 m c9) (.slice a10 l2 c10)) := Lib.hid ⟨by rw [HHZ.out]; exact HZN.out, HAP.out.1, HAP.out.2, HOP.out.1, (HO.out.f.trans HF7A.out).new HFN.out (fun x hx => by rw [List.mem_singleton.1 hx, HG.out]; exact Nat.le_refl _)⟩
                            have HHN : Hid (Z.ho = ((i + 1 : Nat) : Int)) := Lib.hid (by rw [HHZ.out]; push_cast; rfl)
                            go_wp2
                            refine ⟨endU ⟨i + 1, at2, Z, _, _, by omega, hat2, (by show Value.int .i64 ((i : Int) + 1) = _; go_num), rfl, HHN, HON9⟩ (by kernel_rfl), ?_⟩
                            refine muU (k := N - ((i : Int) + 1).toNat) (by kernel_rfl) ?_
                            first | (show _ < N - (i : Int).toNat; omega) | (simp only [intOf]; omega)
            · have dl : decide ((i : Int) < (N : Int)) = false := decide_eq_false (by omega)
              have HFz := Lib.hid ((HF1.out.trans HO.out.f).trans HFR.out)
              go_wp2
              go_ret
              exact ⟨rfl, HFz.out⟩
theorem lonce_walk (v0 : Value) (l0 : List Int) (v1 : Value) (L : List La) (v2 : Value) (ts : List Int) (a3 : Int) (W : World) (h0 : HInts W v0 l0) (h1 : HLs W v1 L) (h2 : HInts W v2 ts) (ht : ∀ x ∈ ts, -9223372036854775808 ≤ x ∧ x ≤ 9223372036854775807) (hb : -9223372036854775808 ≤ a3 ∧ a3 ≤ 9223372036854775807) :
    Calls Try.prog 4 #[v0, v1, v2, .int .i64 a3] W fun x w' => x = .returned (.bool true) ∧ W.grownBy w' none :=
  (lonce_true v0 l0 v1 L v2 ts a3 W h0 h1 h2 ht hb).mono fun _ _ ⟨he, hf⟩ => ⟨he, hf.grown (by simp)⟩
end Go.Proofs.Ytldheaamcnmlgaa
