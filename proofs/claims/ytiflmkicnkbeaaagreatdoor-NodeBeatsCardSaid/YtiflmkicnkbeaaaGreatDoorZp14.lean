import Derived.Test.YtiflmkicnkbeaaaGreatDoorZp02
import Derived.Test.YtiflmkicnkbeaaaGreatDoorZp03
import Derived.Test.YtiflmkicnkbeaaaGreatDoorZp05
import Derived.Test.YtiflmkicnkbeaaaGreatDoorZp09
namespace Go.Proofs.YtiflmkicnkbeaaaGreatDoor
namespace Fm
open Go.RowKit
structure F where
 ki : Int
 fr : Int
 dst : Int
 li : Int
 se : Int
 ou : Bool
 rg : Rg
def Kept (n : Int) : Prop := 0 ≤ n ∧ n ≤ 281474976710655
instance (n : Int) : Decidable (Kept n) := by unfold Kept; exact inferInstance
def Zero (r : Rg) : Prop := r.co = 0 ∧ r.fo = 0 ∧ r.ho = 0 ∧ r.ms.length = 0 ∧ r.es.length = 0
instance (r : Rg) : Decidable (Zero r) := by unfold Zero; exact inferInstance
theorem Zero.eq {r : Rg} (h : Zero r) : r = zeroR := by
 obtain ⟨a, b, c, d, e⟩ := h
 exact Rg.ext' a b c (List.eq_nil_of_length_eq_zero d) (List.eq_nil_of_length_eq_zero e)
def frameC (f : F) : Nat :=
 if ¬ (f.ki = 1 ∨ f.ki = 2) then 7 else if ¬ (Car f.fr ∧ Car f.dst) then 3
 else if f.ki = 1 then (if Kept f.li ∧ Kept f.se ∧ Zero f.rg then 0 else 3)
 else if f.li = 0 ∧ f.se = 0 ∧ f.ou = false then ringC f.rg else 3
def P (α : Type) := List Int → Nat → Nat → α × Nat × Nat
end Fm
open Go.RowKit Fm
def frV (f : F) (vm ve : Value) : Value := .agg #[.int .i64 f.ki, .int .i64 f.fr, .int .i64 f.dst, .int .i64 f.li, .int .i64 f.se, .bool f.ou, .int .i64 f.rg.co, .int .i64 f.rg.fo, .int .i64 f.rg.ho, vm, ve]
end Go.Proofs.YtiflmkicnkbeaaaGreatDoor
namespace Go.Proofs.YtiflmkicnkbeaaaGreatDoor
open Go.RowKit Fm
theorem EV.range {is : List Nat} {w : World} {A : Nat → Addr} {B : Nat} (h : EV is w A B) (hm : 2 ∈ is) : w.cell? ⟨0, 0, none⟩ = some (.iface 417 (.pointer (some (A 3)))) := (h.cell 2 hm).1
theorem EV.many {is : List Nat} {w : World} {A : Nat → Addr} {B : Nat} (h : EV is w A B) (hm : 3 ∈ is) : w.cell? ⟨3, 0, none⟩ = some (.iface 417 (.pointer (some (A 4)))) := (h.cell 3 hm).1
theorem EV.kind {is : List Nat} {w : World} {A : Nat → Addr} {B : Nat} (h : EV is w A B) (hm : 6 ∈ is) : w.cell? ⟨1, 0, none⟩ = some (.iface 417 (.pointer (some (A 7)))) := (h.cell 6 hm).1
theorem EV.twice {is : List Nat} {w : World} {A : Nat → Addr} {B : Nat} (h : EV is w A B) (hm : 10 ∈ is) : w.cell? ⟨4, 0, none⟩ = some (.iface 417 (.pointer (some (A 11)))) := (h.cell 10 hm).1
theorem EV.keep {is : List Nat} {w w' : World} {A : Nat → Addr} {B : Nat} (h : EV is w A B) (hg : Fr w w' []) : EV is w' A B := h.fr hg (by simp)
theorem isKind_any (n : Int) (b : Bool) (hb : b = decide (n = 1 ∨ n = 2)) (w : World) : Calls Tryz.prog 112 #[.int .i64 n] w fun e w' => e = .returned (.bool b) ∧ w = w' := by
 have hcase : (n = 1 ∧ b = true) ∨ (¬ n = 1 ∧ n = 2 ∧ b = true) ∨ (¬ n = 1 ∧ ¬ n = 2 ∧ b = false) := by
  subst hb; simp only [decide_eq_true_eq, decide_eq_false_iff_not]; omega
 clear hb
 rcases hcase with ⟨h1, rfl⟩ | ⟨h1, h2, rfl⟩ | ⟨h1, h2, rfl⟩
 all_goals
  go_enter Tryz.func112, Tryz.ntmps112
  go_wp2
  go_ret
  refine ⟨?_, rfl⟩
  simp [*]
theorem isCar_any (n : Int) (b : Bool) (hb : b = decide (Car n)) (w : World) : Calls Tryz.prog 113 #[.int .i64 n] w fun e w' => e = .returned (.bool b) ∧ w = w' := by
 have hcase : (0 ≤ n ∧ n < 16 ∧ b = true) ∨ (0 ≤ n ∧ ¬ n < 16 ∧ b = false) ∨ (¬ 0 ≤ n ∧ b = false) := by
  rcases bcase hb with ⟨h, e⟩ | ⟨h, e⟩ <;> unfold Car at h <;> subst e <;> simp only [and_true, reduceCtorEq, and_false, or_false, false_or] <;> omega
 clear hb
 rcases hcase with ⟨h1, h2, rfl⟩ | ⟨h1, h2, rfl⟩ | ⟨h1, rfl⟩
 all_goals
  go_enter Tryz.func113, Tryz.ntmps113
  go_wp2
  go_ret
  exact ⟨rfl, rfl⟩
theorem isKept_any (n : Int) (b : Bool) (hb : b = decide (Kept n)) (w : World) : Calls Tryz.prog 182 #[.int .i64 n] w fun e w' => e = .returned (.bool b) ∧ w = w' := by
 have hcase : (0 ≤ n ∧ n ≤ 281474976710655 ∧ b = true) ∨ (0 ≤ n ∧ ¬ n ≤ 281474976710655 ∧ b = false) ∨ (¬ 0 ≤ n ∧ b = false) := by
  rcases bcase hb with ⟨h, e⟩ | ⟨h, e⟩ <;> unfold Kept at h <;> subst e <;> simp only [and_true, reduceCtorEq, and_false, or_false, false_or] <;> omega
 clear hb
 rcases hcase with ⟨h1, h2, rfl⟩ | ⟨h1, h2, rfl⟩ | ⟨h1, rfl⟩
 all_goals
  go_enter Tryz.func182, Tryz.ntmps182
  go_wp2
  go_ret
  exact ⟨rfl, rfl⟩
set_option maxRecDepth 100000 in
theorem epValid_any (c f : Int) (v : Bool) (hv : v = decide (EpOk c f)) (w : World) : Calls Tryz.prog 184 #[.agg #[.int .i64 c, .int .i64 f]] w fun e w' => e = .returned (.bool v) ∧ Fr w w' [] := by
 have hcase : (1 ≤ c ∧ c ≤ 4294967295 ∧ 0 ≤ f ∧ f < 16 ∧ v = true) ∨ (1 ≤ c ∧ c ≤ 4294967295 ∧ 0 ≤ f ∧ ¬ f < 16 ∧ v = false) ∨ (1 ≤ c ∧ c ≤ 4294967295 ∧ ¬ 0 ≤ f ∧ v = false) ∨ (1 ≤ c ∧ ¬ c ≤ 4294967295 ∧ v = false) ∨ (¬ 1 ≤ c ∧ v = false) := by
  rcases bcase hv with ⟨h, e⟩ | ⟨h, e⟩ <;> unfold EpOk at h <;> subst e <;> simp only [and_true, reduceCtorEq, and_false, or_false, false_or] <;> omega
 clear hv
 rcases hcase with ⟨h1, h2, h3, h4, rfl⟩ | ⟨h1, h2, h3, h4, rfl⟩ | ⟨h1, h2, h3, rfl⟩ | ⟨h1, h2, rfl⟩ | ⟨h1, rfl⟩
 all_goals
  go_enter Tryz.func184, Tryz.ntmps184
  go_wp2
  go_ret
  exact ⟨rfl, Fr.alloc _ _ _⟩
def IdxE (b : Bool) (e : Ending) : Prop := ∃ r : Int, e = .returned (.int .i64 r) ∧ (b = true → 0 ≤ r) ∧ (b = false → r = -1)
set_option maxRecDepth 100000 in
theorem index_any (v : Value) (l : List Int) (x : Int) (b : Bool) (hb : b = decide (x ∈ l)) (w : World) (h : Holds .i64 w v l) :
 Calls Tryz.prog 137 #[v, .int .i64 x] w fun e w' => IdxE b e ∧ w = w' := by
 obtain ⟨a, cap, rfl, h1, h2, h3⟩ := h
 unfold maxLen at h2
 have HB := Lib.hid hb
 clear hb
 go_enter Tryz.func137, Tryz.ntmps137
 go_wp2
 go_loop [8] (fun i => ∃ k : Nat, k ≤ l.length ∧ i = .int .i64 k ∧ x ∉ l.take k) (fun i => l.length - (intOf i).toNat)
 case atStart => exact ⟨0, Nat.zero_le _, rfl, by simp⟩
 case round =>
  obtain ⟨k, hk, rfl, hno⟩ := hrel
  have HN := Lib.hid hno
  clear hno
  by_cases hlt : k < l.length
  · obtain ⟨bl, off, rfl, hc⟩ := h3 (by omega)
    have hcell := hc k hlt
    obtain ⟨y, hy⟩ : ∃ y, y = l.getD k 0 := ⟨_, rfl⟩
    rw [← hy] at hcell
    have HY := Lib.hid hy
    clear hy hc h3
    by_cases hxy : x = y
    · have e1 : (x == y) = true := by simp [hxy]
      have HT : Hid (b = true) := by show _ = _; rw [HB.out, decide_eq_true_iff, hxy, HY.out]; exact getD_mem hlt 0
      clear hxy
      go_wp2
      go_ret
      exact ⟨⟨_, rfl, (fun _ => by omega), fun h => by rw [HT.out] at h; cases h⟩, rfl⟩
    · have e1 : (x == y) = false := by simp [hxy]
      have HN2 : Hid (x ∉ l.take (k + 1)) := take_mem hlt HN.out (by rw [← HY.out]; exact fun e => hxy e.symm)
      clear hxy
      go_wp2
      go_round
      case rel => exact ⟨k + 1, by omega, by go_num, HN2.out⟩
      case measure => simp [intOf]; omega
  · obtain rfl : k = l.length := by omega
    have HT : Hid (b = false) := by
     show _ = _
     rw [HB.out, decide_eq_false_iff_not]
     have := HN.out
     rwa [List.take_length] at this
    clear h3
    go_wp2
    go_ret
    exact ⟨⟨_, rfl, (fun h => by rw [HT.out] at h; cases h), fun _ => rfl⟩, rfl⟩
theorem contains_any (v : Value) (l : List Int) (x : Int) (b : Bool) (hb : b = decide (x ∈ l)) (w : World) (h : Holds .i64 w v l) :
 Calls Tryz.prog 62 #[v, .int .i64 x] w fun e w' => e = .returned (.bool b) ∧ w = w' := by
 have HI := Lib.hid (index_any v l x b hb w h)
 clear hb h
 cases b
 all_goals
  go_enter Tryz.func62, Tryz.ntmps62
  go_wp2_with fail
  refine HI.out.mono ?_
  rintro e w1 ⟨⟨r, rfl, h1, h2⟩, rfl⟩
  first
  | (have h1 := h1 rfl; clear h2; go_wp2; go_ret; exact ⟨rfl, rfl⟩)
  | (obtain rfl := h2 rfl; clear h1; go_wp2; go_ret; exact ⟨rfl, rfl⟩)
set_option maxRecDepth 100000 in
theorem rise_any (v : Value) (l : List Int) (b : Bool) (hb : b = decide (Rise l)) (w : World) (h : Holds .i64 w v l) :
 Calls Tryz.prog 251 #[v] w fun e w' => e = .returned (.bool b) ∧ Fr w w' [] := by
 obtain ⟨a, cap, rfl, h1, h2, h3⟩ := h
 unfold maxLen at h2
 have HB := Lib.hid hb
 clear hb
 go_enter Tryz.func251, Tryz.ntmps251
 go_wp2
 go_loopw [3] (fun i wr => ∃ k : Nat, 1 ≤ k ∧ (k ≤ l.length ∨ k = 1) ∧ i = .int .i64 k ∧ (∀ i, i + 1 < k → l.getD i 0 < l.getD (i + 1) 0) ∧ Fr w wr []) (fun i _ => l.length + 1 - (intOf i).toNat)
 case atStart => exact ⟨1, by omega, .inr rfl, rfl, fun i hi => by omega, Fr.refl _ _⟩
 case round =>
  obtain ⟨k, hk1, hk, rfl, hno, hf⟩ := hrel
  have HN := Lib.hid hno
  have HF := Lib.hid hf
  have HK := Lib.hid hk
  clear hno hk
  by_cases hlt : k < l.length
  · obtain ⟨bl, off, rfl, hc⟩ := h3 (by omega)
    have hcell := hf.cell (hc (k - 1) (by omega)) (by simp)
    have hcell2 := hf.cell (hc k hlt) (by simp)
    obtain ⟨y, hy⟩ : ∃ y, y = l.getD (k - 1) 0 := ⟨_, rfl⟩
    obtain ⟨z, hz⟩ : ∃ z, z = l.getD k 0 := ⟨_, rfl⟩
    rw [← hy] at hcell
    rw [← hz] at hcell2
    have HY := Lib.hid hy
    have HZ := Lib.hid hz
    have hn0 : (0 : Int) ≤ (k : Int) - 1 := by omega
    have hn3 : (k : Int) - 1 < (l.length : Int) := by omega
    have hn4 : (1 : Int) ≤ (k : Int) := by omega
    have hn1 : ((k : Int) - 1).toNat = k - 1 := by omega
    have hn2 : IntKind.i64.wrap ((k : Int) - 1) = (k : Int) - 1 := IntWalk.i64_in _ (by omega)
    clear hy hz hc h3 hf
    by_cases hyz : z ≤ y
    · have HT : Hid (b = false) := by
       show _ = _
       rw [HB.out, decide_eq_false_iff_not]
       intro hr
       have := hr (k - 1) (by omega)
       rw [show k - 1 + 1 = k by omega, ← HY.out, ← HZ.out] at this; omega
      go_wp2
      go_quiet (fail)
      go_wp2
      go_ret
      exact ⟨by rw [HT.out]; rfl, HF.out.trans (Fr.drewN _ _ _)⟩
    · have HN2 := Lib.hid (rise_step hk1 HN.out (by rw [← HY.out, ← HZ.out]; omega))
      go_wp2
      go_quiet (fail)
      clear hn1 hn2
      go_wp2
      go_roundw
      case rel => exact ⟨k + 1, by omega, .inl (by omega), by go_num, HN2.out, HF.out.trans (Fr.drewN _ _ _)⟩
      case measure => simp [intOf]; omega
  · have HT : Hid (b = true) := by
     show _ = _
     rw [HB.out, decide_eq_true_iff]
     intro i hi
     exact HN.out i (by omega)
    clear h3 hf
    go_wp2
    go_ret
    exact ⟨by rw [HT.out]; rfl, HF.out⟩
set_option maxRecDepth 100000 in
theorem eqInts_any (v1 : Value) (l : List Int) (v2 : Value) (m : List Int) (w : World) (h1 : Holds .i64 w v1 l) (h2 : Holds .i64 w v2 m) (b : Bool) (hb : b = true ↔ l = m) :
 Calls Tryz.prog 248 #[v1, v2] w fun e w' => e = .returned (.bool b) ∧ Fr w w' [] := by
 obtain ⟨a1, c1, rfl, p1, q1, r1⟩ := h1
 obtain ⟨a2, c2, rfl, p2, q2, r2⟩ := h2
 unfold maxLen at q1 q2
 have HB := Lib.hid hb
 clear hb
 by_cases hl : l.length = m.length
 · have hne : ((l.length : Int) != (m.length : Int)) = false := by simp [hl]
   have HL := Lib.hid hl
   clear hl
   go_enter Tryz.func248, Tryz.ntmps248
   go_wp2
   go_loopw [13] (fun i wr => ∃ k : Nat, k ≤ l.length ∧ i = .int .i64 k ∧ l.take k = m.take k ∧ Fr w wr []) (fun i _ => l.length - (intOf i).toNat)
   case atStart => exact ⟨0, Nat.zero_le _, rfl, by simp, Fr.refl _ _⟩
   case round =>
    obtain ⟨k, hk, rfl, hpre, hg⟩ := hrel
    have HP := Lib.hid hpre
    have HG := Lib.hid hg
    clear hpre
    by_cases hlt : k < l.length
    · have hlt2 : k < m.length := by have := HL.out; omega
      obtain ⟨b1, o1, rfl, k1⟩ := r1 (by omega)
      obtain ⟨b2, o2, rfl, k2⟩ := r2 (by omega)
      obtain ⟨x, hx⟩ : ∃ x, x = l.getD k 0 := ⟨_, rfl⟩
      obtain ⟨y, hy⟩ : ∃ y, y = m.getD k 0 := ⟨_, rfl⟩
      have g1 : wr.cell? ⟨b1, o1 + k, none⟩ = some (.int .i64 x) := by rw [hx]; exact hg.cell (k1 k hlt) (by simp)
      have g2 : wr.cell? ⟨b2, o2 + k, none⟩ = some (.int .i64 y) := by rw [hy]; exact hg.cell (k2 k hlt2) (by simp)
      by_cases hxy : x = y
      · have e1 : (x != y) = false := by simp [hxy]
        have HN := Lib.hid (pre_step 0 HL.out HP.out hlt (by rw [← hx, ← hy, hxy]))
        clear hxy hx hy k1 k2 r1 r2 hg
        go_wp2
        go_quiet (fail)
        go_wp2
        go_roundw
        case rel => exact ⟨k + 1, by omega, by go_num, HN.out, HG.out.trans (Fr.drewN _ _ _)⟩
        case measure => simp [intOf]; omega
      · have e1 : (x != y) = true := by simp [hxy]
        have HN : Hid (b = false) := by
         show _ = _
         cases b with
         | false => rfl
         | true => exact absurd (HB.out.1 rfl) (pre_no 0 (k := k) (by rw [← hx, ← hy]; exact hxy))
        clear hxy hx hy k1 k2 r1 r2 hg
        go_wp2
        go_quiet (fail)
        go_wp2
        go_ret
        exact ⟨by rw [HN.out]; rfl, HG.out.trans (Fr.drewN _ _ _)⟩
    · obtain rfl : k = l.length := by omega
      have HN : Hid (b = true) := HB.out.2 (pre_all HL.out HP.out)
      clear r1 r2 hg
      go_wp2
      go_ret
      exact ⟨by rw [HN.out]; rfl, HG.out⟩
 · have hne : ((l.length : Int) != (m.length : Int)) = true := by simp; omega
   have HN : Hid (b = false) := by
    show _ = _
    cases b with
    | false => rfl
    | true => exact absurd (congrArg List.length (HB.out.1 rfl)) hl
   clear hl r1 r2
   go_enter Tryz.func248, Tryz.ntmps248
   go_wp2
   go_ret
   exact ⟨by rw [HN.out]; rfl, Fr.refl _ _⟩
set_option maxRecDepth 100000 in
theorem eqBids_any (v1 : Value) (l : List (Int × Int)) (v2 : Value) (m : List (Int × Int)) (w : World) (h1 : HB w v1 l) (h2 : HB w v2 m) (b : Bool) (hb : b = true ↔ l = m) :
 Calls Tryz.prog 303 #[v1, v2] w fun e w' => e = .returned (.bool b) ∧ Fr w w' [] := by
 obtain ⟨a1, c1, rfl, p1, q1, r1⟩ := h1
 obtain ⟨a2, c2, rfl, p2, q2, r2⟩ := h2
 unfold maxLen at q1 q2
 have HB := Lib.hid hb
 clear hb
 by_cases hl : l.length = m.length
 · have hne : ((l.length : Int) != (m.length : Int)) = false := by simp [hl]
   have HL := Lib.hid hl
   clear hl
   go_enter Tryz.func303, Tryz.ntmps303
   go_wp2
   go_loopw [13] (fun i wr => ∃ k : Nat, k ≤ l.length ∧ i = .int .i64 k ∧ l.take k = m.take k ∧ Fr w wr []) (fun i _ => l.length - (intOf i).toNat)
   case atStart => exact ⟨0, Nat.zero_le _, rfl, by simp, Fr.refl _ _⟩
   case round =>
    obtain ⟨k, hk, rfl, hpre, hg⟩ := hrel
    have HP := Lib.hid hpre
    have HG := Lib.hid hg
    clear hpre
    by_cases hlt : k < l.length
    · have hlt2 : k < m.length := by have := HL.out; omega
      obtain ⟨b1, o1, rfl, k1⟩ := r1 (by omega)
      obtain ⟨b2, o2, rfl, k2⟩ := r2 (by omega)
      obtain ⟨x, hx⟩ : ∃ x, x = (l.getD k (0, 0)).1 := ⟨_, rfl⟩
      obtain ⟨x', hx'⟩ : ∃ x, x = (l.getD k (0, 0)).2 := ⟨_, rfl⟩
      obtain ⟨y, hy⟩ : ∃ y, y = (m.getD k (0, 0)).1 := ⟨_, rfl⟩
      obtain ⟨y', hy'⟩ : ∃ y, y = (m.getD k (0, 0)).2 := ⟨_, rfl⟩
      have g1 : wr.cell? ⟨b1, o1 + k * 2, none⟩ = some (.int .i64 x) := by rw [hx]; exact hg.cell (k1 k hlt).1 (by simp)
      have g1' : wr.cell? ⟨b1, o1 + k * 2 + 1, none⟩ = some (.int .i64 x') := by rw [hx']; exact hg.cell (k1 k hlt).2 (by simp)
      have g2 : wr.cell? ⟨b2, o2 + k * 2, none⟩ = some (.int .i64 y) := by rw [hy]; exact hg.cell (k2 k hlt2).1 (by simp)
      have g2' : wr.cell? ⟨b2, o2 + k * 2 + 1, none⟩ = some (.int .i64 y') := by rw [hy']; exact hg.cell (k2 k hlt2).2 (by simp)
      by_cases hxy : x = y ∧ x' = y'
      · have HN := Lib.hid (pre_step (0, 0) HL.out HP.out hlt (Prod.ext (by rw [← hx, ← hy, hxy.1]) (by rw [← hx', ← hy', hxy.2])))
        obtain ⟨rfl, rfl⟩ := hxy
        clear hx hy hx' hy' k1 k2 r1 r2 hg
        go_wp2
        go_quiet (fail)
        go_wp2
        go_roundw
        case rel => exact ⟨k + 1, by omega, by go_num, HN.out, HG.out.trans (Fr.drewN _ _ _)⟩
        case measure => simp [intOf]; omega
      · have HN : Hid (b = false) := by
         show _ = _
         cases b with
         | false => rfl
         | true => exact absurd (HB.out.1 rfl) (pre_no (0, 0) (k := k) (by intro e; exact hxy ⟨by rw [hx, hy, e], by rw [hx', hy', e]⟩))
        have HX := Lib.hid hxy
        clear hxy hx hy hx' hy' k1 k2 r1 r2 hg
        have e1 : (x == y) = false ∨ ((x == y) = true ∧ (x' == y') = false) := by
         by_cases q : x = y
         · exact .inr ⟨by simpa using q, by simpa using fun q' => HX.out ⟨q, q'⟩⟩
         · exact .inl (by simpa using q)
        go_wp2
        have hreg : ∀ W : World, (binOp .neq 123 (.agg #[.int .i64 x, .int .i64 x']) (.agg #[.int .i64 y, .int .i64 y'])).run Tryz.prog W = .ok (.bool true) W := by
         intro W
         rcases e1 with e1 | ⟨e1, e2⟩ <;> go_simp
        clear e1
        go_quiet (fail)
        go_wp2
        go_ret
        exact ⟨by rw [HN.out]; rfl, HG.out.trans (Fr.drewN _ _ _)⟩
    · obtain rfl : k = l.length := by omega
      have HN : Hid (b = true) := HB.out.2 (pre_all HL.out HP.out)
      clear r1 r2 hg
      go_wp2
      go_ret
      exact ⟨by rw [HN.out]; rfl, HG.out⟩
 · have hne : ((l.length : Int) != (m.length : Int)) = true := by simp; omega
   have HN : Hid (b = false) := by
    show _ = _
    cases b with
    | false => rfl
    | true => exact absurd (congrArg List.length (HB.out.1 rfl)) hl
   clear hl r1 r2
   go_enter Tryz.func303, Tryz.ntmps303
   go_wp2
   go_ret
   exact ⟨by rw [HN.out]; rfl, Fr.refl _ _⟩
theorem fvEqLatch (W : World) (a1 a2 a3 b1 b2 b3 : Int) (r : Bool) (hr : r = decide (a1 = b1 ∧ a2 = b2 ∧ a3 = b3)) :
 (binOp .eql 46 (.agg #[.int .i64 a1, .int .i64 a2, .int .i64 a3]) (.agg #[.int .i64 b1, .int .i64 b2, .int .i64 b3])).run Tryz.prog W = .ok (.bool r) W := by
 have hcase : (a1 == b1) = false ∨ ((a1 == b1) = true ∧ (a2 == b2) = false) ∨ ((a1 == b1) = true ∧ (a2 == b2) = true ∧ (a3 == b3) = false) ∨ ((a1 == b1) = true ∧ (a2 == b2) = true ∧ (a3 == b3) = true) := by
  cases (a1 == b1) <;> cases (a2 == b2) <;> cases (a3 == b3) <;> simp
 rcases hcase with e1 | ⟨e1, e2⟩ | ⟨e1, e2, e3⟩ | ⟨e1, e2, e3⟩
 · have : r = false := by rw [hr, decide_eq_false_iff_not]; rintro ⟨rfl, _⟩; simp at e1
   subst this; clear hr; go_simp
 · have : r = false := by rw [hr, decide_eq_false_iff_not]; rintro ⟨_, rfl, _⟩; simp at e2
   subst this; clear hr; go_simp
 · have : r = false := by rw [hr, decide_eq_false_iff_not]; rintro ⟨_, _, rfl⟩; simp at e3
   subst this; clear hr; go_simp
 · have : r = true := by rw [hr, decide_eq_true_iff]; simp at e1 e2 e3; exact ⟨e1, e2, e3⟩
   subst this; clear hr; go_simp
set_option maxRecDepth 100000 in
theorem sameEntry_any (e f : En) (v1 v2 : Value) (b : Bool) (hb : b = true ↔ e = f) (w : World) (h1 : HB w v1 e.bs) (h2 : HB w v2 f.bs) :
 Calls Tryz.prog 250 #[enV e v1, enV f v2] w fun e w' => e = .returned (.bool b) ∧ Fr w w' [] := by
 obtain ⟨a1, a2, a3, l, a4⟩ := e
 obtain ⟨b1, b2, b3, m, b4⟩ := f
 unfold enV
 simp only at h1 h2 ⊢
 have H1 := Lib.hid h1
 have H2 := Lib.hid h2
 clear h1 h2
 by_cases hL : a1 = b1 ∧ a2 = b2 ∧ a3 = b3
 · have hreg := fun W => fvEqLatch W a1 a2 a3 b1 b2 b3 true (yes hL)
   by_cases hA : a4 = b4
   · have HB2 : Hid (b = true ↔ l = m) := by
      show _ ↔ _
      obtain ⟨rfl, rfl, rfl⟩ := hL
      subst hA
      rw [hb]
      exact ⟨fun h => by cases h; rfl, fun h => by rw [h]⟩
     have e1 : (a4 == b4) = true := by simp [hA]
     clear hL hA hb
     go_enter Tryz.func250, Tryz.ntmps250
     go_wp2_with fail
     refine (eqBids_any _ l _ m _ (H1.out.keep ((Fr.alloc _ _ _).trans (Fr.alloc _ _ _))) (H2.out.keep ((Fr.alloc _ _ _).trans (Fr.alloc _ _ _))) b HB2.out).mono ?_
     rintro e w1 ⟨rfl, hf⟩
     go_wp2
     go_ret
     exact ⟨rfl, ((Fr.alloc _ _ _).trans (Fr.alloc _ _ _)).trans hf⟩
   · have e1 : (a4 == b4) = false := by simp [hA]
     obtain rfl := en_ne hb (fun h => hA (by cases h; rfl))
     clear hL hA hb
     go_enter Tryz.func250, Tryz.ntmps250
     go_wp2
     go_ret
     exact ⟨rfl, (Fr.alloc _ _ _).trans (Fr.alloc _ _ _)⟩
 · have hreg := fun W => fvEqLatch W a1 a2 a3 b1 b2 b3 false (no hL)
   obtain rfl := en_ne hb (fun h => hL (by cases h; exact ⟨rfl, rfl, rfl⟩))
   clear hL hb
   go_enter Tryz.func250, Tryz.ntmps250
   go_wp2
   go_ret
   exact ⟨rfl, (Fr.alloc _ _ _).trans (Fr.alloc _ _ _)⟩
set_option maxHeartbeats 1000000 in
set_option maxRecDepth 100000 in
theorem eqEnts_any (v1 : Value) (l : List En) (v2 : Value) (m : List En) (w : World) (h1 : HE w v1 l) (h2 : HE w v2 m) (b : Bool) (hb : b = true ↔ l = m) :
 Calls Tryz.prog 249 #[v1, v2, .func (Fn.func 250) #[] #[]] w fun e w' => e = .returned (.bool b) ∧ Fr w w' [] := by
 obtain ⟨a1, c1, rfl, p1, q1, r1⟩ := h1
 obtain ⟨a2, c2, rfl, p2, q2, r2⟩ := h2
 unfold maxLen at q1 q2
 have HB := Lib.hid hb
 clear hb
 by_cases hl : l.length = m.length
 · have hne : ((l.length : Int) != (m.length : Int)) = false := by simp [hl]
   have HL := Lib.hid hl
   clear hl
   go_enter Tryz.func249, Tryz.ntmps249
   go_wp2
   go_loopw [17] (fun i wr => ∃ k : Nat, k ≤ l.length ∧ i = .int .i64 k ∧ l.take k = m.take k ∧ Fr w wr []) (fun i _ => l.length - (intOf i).toNat)
   case atStart => exact ⟨0, Nat.zero_le _, rfl, by simp, Fr.refl _ _⟩
   case round =>
    obtain ⟨k, hk, rfl, hpre, hg⟩ := hrel
    have HP := Lib.hid hpre
    have HG := Lib.hid hg
    clear hpre
    by_cases hlt : k < l.length
    · have hlt2 : k < m.length := by have := HL.out; omega
      obtain ⟨b1, o1, rfl, k1⟩ := r1 (by omega)
      obtain ⟨b2, o2, rfl, k2⟩ := r2 (by omega)
      obtain ⟨u1, x0, x1, x2, x3, x4, hb1⟩ := k1 k hlt
      obtain ⟨u2, y0, y1, y2, y3, y4, hb2⟩ := k2 k hlt2
      obtain ⟨e, he⟩ : ∃ e, e = l.getD k zeroE := ⟨_, rfl⟩
      obtain ⟨f, hf⟩ : ∃ f, f = m.getD k zeroE := ⟨_, rfl⟩
      rw [← he] at x0 x1 x2 x4 hb1
      rw [← hf] at y0 y1 y2 y4 hb2
      have HB1 := Lib.hid hb1
      have HB2 := Lib.hid hb2
      obtain ⟨e0, e1, e2, el, e4⟩ := e
      obtain ⟨f0, f1, f2, fl, f4⟩ := f
      simp only at x0 x1 x2 x4 y0 y1 y2 y4
      obtain ⟨z1, d1, rfl⟩ := HB1.out.shape
      obtain ⟨z2, d2, rfl⟩ := HB2.out.shape
      have X := Lib.hid (show EntS w b1 (o1 + k * 5) b2 (o2 + k * 5) ⟨e0, e1, e2, el, e4⟩ ⟨f0, f1, f2, fl, f4⟩ (.slice z1 el.length d1) (.slice z2 fl.length d2) w from ⟨Fr.refl _ _, x0, x1, x2, x3, x4, y0, y1, y2, y3, y4, HB1.out, HB2.out⟩)
      have XR := Lib.hid (X.out.keep hg)
      clear x0 x1 x2 x3 x4 y0 y1 y2 y3 y4 hb1 hb2 k1 k2 r1 r2 HB1 HB2
      obtain ⟨_, x0, x1, x2, x3, x4, y0, y1, y2, y3, y4, _, _⟩ := XR.out
      simp only at x0 x1 x2 x4 y0 y1 y2 y4
      by_cases hxy : (⟨e0, e1, e2, el, e4⟩ : En) = ⟨f0, f1, f2, fl, f4⟩
      · have HN := Lib.hid (pre_step zeroE HL.out HP.out hlt (by rw [← he, ← hf, hxy]))
        have HXY := Lib.hid hxy
        clear hxy he hf hg
        clear x0 x1 x2 x3 x4
        obtain ⟨_, x0, x1, x2, x3, x4, _⟩ := XR.out
        simp only at x0 x1 x2 x4
        have XA := Lib.hid (XR.out.keep (Fr.alloc wr (.cells #[.int .i64 e0, .int .i64 e1, .int .i64 e2, .slice z1 el.length d1, .int .i64 e4] 121) []))
        clear y0 y1 y2 y3 y4
        obtain ⟨_, _, _, _, _, _, y0, y1, y2, y3, y4, _⟩ := XA.out
        simp only at y0 y1 y2 y4
        go_wp2_with fail
        refine (sameEntry_any ⟨e0, e1, e2, el, e4⟩ ⟨f0, f1, f2, fl, f4⟩ (.slice z1 el.length d1) (.slice z2 fl.length d2) true (iyes HXY.out) _ (XA.out.hb1.keep (Fr.alloc _ _ _)) (XA.out.hb2.keep (Fr.alloc _ _ _))).mono ?_
        rintro e w1 ⟨rfl, hf1⟩
        go_wp2
        go_roundw
        case rel => exact ⟨k + 1, by omega, by go_num, HN.out, (HG.out.trans ((Fr.alloc _ _ _).trans (Fr.alloc _ _ _))).trans hf1⟩
        case measure => simp [intOf]; omega
      · have HN : Hid (b = false) := en_ne' HB.out (pre_no zeroE (k := k) (by rw [← he, ← hf]; exact hxy))
        have HXY := Lib.hid hxy
        clear hxy he hf hg
        clear x0 x1 x2 x3 x4
        obtain ⟨_, x0, x1, x2, x3, x4, _⟩ := XR.out
        simp only at x0 x1 x2 x4
        have XA := Lib.hid (XR.out.keep (Fr.alloc wr (.cells #[.int .i64 e0, .int .i64 e1, .int .i64 e2, .slice z1 el.length d1, .int .i64 e4] 121) []))
        clear y0 y1 y2 y3 y4
        obtain ⟨_, _, _, _, _, _, y0, y1, y2, y3, y4, _⟩ := XA.out
        simp only at y0 y1 y2 y4
        go_wp2_with fail
        refine (sameEntry_any ⟨e0, e1, e2, el, e4⟩ ⟨f0, f1, f2, fl, f4⟩ (.slice z1 el.length d1) (.slice z2 fl.length d2) false (ino HXY.out) _ (XA.out.hb1.keep (Fr.alloc _ _ _)) (XA.out.hb2.keep (Fr.alloc _ _ _))).mono ?_
        rintro e w1 ⟨rfl, hf1⟩
        go_wp2
        go_ret
        exact ⟨by rw [HN.out]; rfl, (HG.out.trans ((Fr.alloc _ _ _).trans (Fr.alloc _ _ _))).trans hf1⟩
    · obtain rfl : k = l.length := by omega
      have HN : Hid (b = true) := HB.out.2 (pre_all HL.out HP.out)
      clear r1 r2 hg
      go_wp2
      go_ret
      exact ⟨by rw [HN.out]; rfl, HG.out⟩
 · have hne : ((l.length : Int) != (m.length : Int)) = true := by simp; omega
   have HN : Hid (b = false) := en_ne' HB.out (fun h => hl (congrArg List.length h))
   clear hl r1 r2
   go_enter Tryz.func249, Tryz.ntmps249
   go_wp2
   go_ret
   exact ⟨by rw [HN.out]; rfl, Fr.refl _ _⟩
theorem eqEpoch (W : World) (a1 a2 b1 b2 : Int) (r : Bool) (hr : r = decide (a1 = b1 ∧ a2 = b2)) :
 (binOp .eql 35 (.agg #[.int .i64 a1, .int .i64 a2]) (.agg #[.int .i64 b1, .int .i64 b2])).run Tryz.prog W = .ok (.bool r) W := by
 have hcase : (a1 == b1) = false ∨ ((a1 == b1) = true ∧ (a2 == b2) = false) ∨ ((a1 == b1) = true ∧ (a2 == b2) = true) := by
  cases (a1 == b1) <;> cases (a2 == b2) <;> simp
 rcases hcase with e1 | ⟨e1, e2⟩ | ⟨e1, e2⟩
 · have : r = false := by rw [hr, decide_eq_false_iff_not]; rintro ⟨rfl, _⟩; simp at e1
   subst this; clear hr; go_simp
 · have : r = false := by rw [hr, decide_eq_false_iff_not]; rintro ⟨_, rfl⟩; simp at e2
   subst this; clear hr; go_simp
 · have : r = true := by rw [hr, decide_eq_true_iff]; simp at e1 e2; exact ⟨e1, e2⟩
   subst this; clear hr; go_simp
set_option maxHeartbeats 1000000 in
set_option maxRecDepth 100000 in
theorem sameRing_any (r s : Rg) (vm ve vm' ve' : Value) (b : Bool) (hb : b = true ↔ r = s) (w : World) (hm : Holds .i64 w vm r.ms) (he : HE w ve r.es) (hm' : Holds .i64 w vm' s.ms) (he' : HE w ve' s.es) :
 Calls Tryz.prog 183 #[rgV r vm ve, rgV s vm' ve'] w fun e w' => e = .returned (.bool b) ∧ Fr w w' [] := by
 obtain ⟨a1, a2, a3, ms, es⟩ := r
 obtain ⟨b1, b2, b3, ns, fs⟩ := s
 unfold rgV
 simp only at hm he hm' he' ⊢
 have HM := Lib.hid hm
 have HX := Lib.hid he
 have HM' := Lib.hid hm'
 have HX' := Lib.hid he'
 have HZ := Lib.hid (two_boxes w (.cells #[.int .i64 a1, .int .i64 a2, .int .i64 a3, vm, ve] 39) (.cells #[.int .i64 b1, .int .i64 b2, .int .i64 b3, vm', ve'] 39))
 have HF0 := Lib.hid ((Fr.alloc w (.cells #[.int .i64 a1, .int .i64 a2, .int .i64 a3, vm, ve] 39) []).trans (Fr.alloc _ (.cells #[.int .i64 b1, .int .i64 b2, .int .i64 b3, vm', ve'] 39) []))
 clear hm he hm' he'
 by_cases hE : a1 = b1 ∧ a2 = b2
 rotate_left
 · have hreg := fun W => eqEpoch W a1 a2 b1 b2 false (no hE)
   obtain rfl := en_ne' hb (fun h => hE (by cases h; exact ⟨rfl, rfl⟩))
   clear hE hb
   go_enter Tryz.func183, Tryz.ntmps183
   go_wp2
   go_ret
   exact ⟨rfl, HF0.out⟩
 by_cases hH : a3 = b3
 rotate_left
 · have hreg := fun W => eqEpoch W a1 a2 b1 b2 true (yes hE)
   have e1 : (a3 == b3) = false := by simp [hH]
   obtain rfl := en_ne' hb (fun h => hH (by cases h; rfl))
   clear hE hH hb
   go_enter Tryz.func183, Tryz.ntmps183
   go_wp2
   go_ret
   exact ⟨rfl, HF0.out⟩
 by_cases hN : ms = ns
 rotate_left
 · have hreg := fun W => eqEpoch W a1 a2 b1 b2 true (yes hE)
   have e1 : (a3 == b3) = true := by simp [hH]
   obtain rfl := en_ne' hb (fun h => hN (by cases h; rfl))
   have HN := Lib.hid hN
   clear hE hH hN hb
   go_enter Tryz.func183, Tryz.ntmps183
   go_wp2_with fail
   refine (eqInts_any _ ms _ ns _ (HM.out.keep HF0.out) (HM'.out.keep HF0.out) false (ino HN.out)).mono ?_
   rintro e w1 ⟨rfl, hf1⟩
   have l1 := row5 (hf1.heap HZ.out.1 (by simp))
   have l2 := row5 (hf1.heap HZ.out.2 (by simp))
   have HF2 := Lib.hid (HF0.out.trans hf1)
   clear hf1
   go_wp2
   go_ret
   exact ⟨rfl, HF2.out⟩
 · have hreg := fun W => eqEpoch W a1 a2 b1 b2 true (yes hE)
   have e1 : (a3 == b3) = true := by simp [hH]
   have HN := Lib.hid hN
   have HB2 : Hid (b = true ↔ es = fs) := by
    show _ ↔ _
    obtain ⟨rfl, rfl⟩ := hE
    subst hH hN
    rw [hb]
    exact ⟨fun h => by cases h; rfl, fun h => by rw [h]⟩
   clear hE hH hN hb
   go_enter Tryz.func183, Tryz.ntmps183
   go_wp2_with fail
   refine (eqInts_any _ ms _ ns _ (HM.out.keep HF0.out) (HM'.out.keep HF0.out) true (iyes HN.out)).mono ?_
   rintro e w1 ⟨rfl, hf1⟩
   have l1 := row5 (hf1.heap HZ.out.1 (by simp))
   have l2 := row5 (hf1.heap HZ.out.2 (by simp))
   have HF2 := Lib.hid (HF0.out.trans hf1)
   clear hf1
   go_wp2_with fail
   refine (eqEnts_any _ es _ fs _ (HX.out.keep HF2.out) (HX'.out.keep HF2.out) b HB2.out).mono ?_
   rintro e w2 ⟨rfl, hf2⟩
   go_wp2
   go_ret
   exact ⟨rfl, HF2.out.trans hf2⟩
theorem ev_ne (A : Nat → Addr) {c : Nat} (h : c ≠ 0) : ev A c = .iface 417 (.pointer (some (A c))) := if_neg h
set_option maxRecDepth 100000 in
theorem isLatch_any (fl di ge : Int) (b : Bool) (hb : b = decide (0 ≤ fl ∧ fl < 64 ∧ (di = 1 ∨ di = -1) ∧ 1 ≤ ge ∧ ge ≤ 2147483647)) (w : World) :
 Calls Tryz.prog 252 #[.agg #[.int .i64 fl, .int .i64 di, .int .i64 ge]] w fun e w' => e = .returned (.bool b) ∧ Fr w w' [] := by
 have hcase : (¬ 0 ≤ fl ∧ b = false) ∨ (0 ≤ fl ∧ ¬ fl < 64 ∧ b = false) ∨ (0 ≤ fl ∧ fl < 64 ∧ ¬ di = 1 ∧ ¬ di = -1 ∧ b = false) ∨
  (0 ≤ fl ∧ fl < 64 ∧ di = 1 ∧ ¬ 1 ≤ ge ∧ b = false) ∨ (0 ≤ fl ∧ fl < 64 ∧ di = 1 ∧ 1 ≤ ge ∧ ¬ ge ≤ 2147483647 ∧ b = false) ∨ (0 ≤ fl ∧ fl < 64 ∧ di = 1 ∧ 1 ≤ ge ∧ ge ≤ 2147483647 ∧ b = true) ∨
  (0 ≤ fl ∧ fl < 64 ∧ di = -1 ∧ ¬ 1 ≤ ge ∧ b = false) ∨ (0 ≤ fl ∧ fl < 64 ∧ di = -1 ∧ 1 ≤ ge ∧ ¬ ge ≤ 2147483647 ∧ b = false) ∨ (0 ≤ fl ∧ fl < 64 ∧ di = -1 ∧ 1 ≤ ge ∧ ge ≤ 2147483647 ∧ b = true) := by
  rcases bcase hb with ⟨h, e⟩ | ⟨h, e⟩ <;> subst e <;> simp only [and_true, reduceCtorEq, and_false, or_false, false_or] <;> omega
 clear hb
 rcases hcase with ⟨h1, rfl⟩ | ⟨h1, h2, rfl⟩ | ⟨h1, h2, h3, h4, rfl⟩ | ⟨h1, h2, rfl, h3, rfl⟩ | ⟨h1, h2, rfl, h3, h4, rfl⟩ | ⟨h1, h2, rfl, h3, h4, rfl⟩ | ⟨h1, h2, rfl, h3, rfl⟩ | ⟨h1, h2, rfl, h3, h4, rfl⟩ | ⟨h1, h2, rfl, h3, h4, rfl⟩
 all_goals
  go_enter Tryz.func252, Tryz.ntmps252
  go_wp2
  go_quiet (fail)
  go_wp2
  go_ret
  refine ⟨?_, (Fr.alloc _ _ _).trans (Fr.drewN _ _ _)⟩
  simp [*]
theorem ahead_any (a1 a2 b1 b2 : Int) (b : Bool) (hb : b = decide (a1 < b1 ∨ a1 = b1 ∧ a2 = -1 ∧ b2 = 1)) (w : World) :
 Calls Tryz.prog 253 #[.agg #[.int .i64 a1, .int .i64 a2], .agg #[.int .i64 b1, .int .i64 b2]] w fun e w' => e = .returned (.bool b) ∧ Fr w w' [] := by
 have hcase : (¬ a1 = b1 ∧ a1 < b1 ∧ b = true) ∨ (¬ a1 = b1 ∧ ¬ a1 < b1 ∧ b = false) ∨ (a1 = b1 ∧ ¬ a2 = -1 ∧ b = false) ∨ (a1 = b1 ∧ a2 = -1 ∧ ¬ b2 = 1 ∧ b = false) ∨ (a1 = b1 ∧ a2 = -1 ∧ b2 = 1 ∧ b = true) := by
  rcases bcase hb with ⟨h, e⟩ | ⟨h, e⟩ <;> subst e <;> simp only [and_true, reduceCtorEq, and_false, or_false, false_or] <;> omega
 clear hb
 rcases hcase with ⟨h1, h2, rfl⟩ | ⟨h1, h2, rfl⟩ | ⟨rfl, h2, rfl⟩ | ⟨rfl, rfl, h3, rfl⟩ | ⟨rfl, rfl, rfl, rfl⟩
 all_goals
  go_enter Tryz.func253, Tryz.ntmps253
  go_wp2
  go_ret
  refine ⟨?_, (Fr.alloc _ _ _).trans (Fr.alloc _ _ _)⟩
  simp [*]
set_option maxRecDepth 100000 in
theorem validMembers_any (v : Value) (l : List Int) (w : World) (A : Nat → Addr) (B : Nat) (is : List Nat) (hE : EV is w A B) (h : Holds .i64 w v l) (hs : ∀ i ∈ [2, 10], i ∈ is := by decide) :
 Calls Tryz.prog 185 #[v] w fun e w' => e = .returned (ev A (membC l)) ∧ Fr w w' [] := by
 have hR := hE.range (hs 2 (by decide))
 have hT := hE.twice (hs 10 (by decide))
 have HV := Lib.hid h
 obtain ⟨a, cap, rfl, h1, h2, h3⟩ := h
 unfold maxLen at h2
 clear hE hs
 go_enter Tryz.func185, Tryz.ntmps185
 go_wp2
 go_loop [7] (fun i => ∃ k : Nat, k ≤ l.length ∧ i = .int .i64 k ∧ ∀ m ∈ l.take k, Car m) (fun i => l.length - (intOf i).toNat)
 case atStart => exact ⟨0, Nat.zero_le _, rfl, by simp⟩
 case round =>
  obtain ⟨k, hk, rfl, hno⟩ := hrel
  have HN := Lib.hid hno
  clear hno
  by_cases hlt : k < l.length
  · obtain ⟨bl, off, rfl, hc⟩ := h3 (by omega)
    have hcell := hc k hlt
    obtain ⟨y, hy⟩ : ∃ y, y = l.getD k 0 := ⟨_, rfl⟩
    rw [← hy] at hcell
    have HY := Lib.hid hy
    clear hy hc h3
    by_cases hcar : Car y
    · have HC := Lib.hid (yes hcar)
      have HN2 := Lib.hid (all_step hlt HN.out (HY.out ▸ hcar))
      clear hcar
      go_wp2_with fail
      refine (isCar_any y _ HC.out _).mono ?_
      rintro e w1 ⟨rfl, rfl⟩
      go_wp2
      go_round
      case rel => exact ⟨k + 1, by omega, by go_num, HN2.out⟩
      case measure => simp [intOf]; omega
    · have HC := Lib.hid (no hcar)
      have HF : Hid (membC l = 3) := by show _ = _; unfold membC; rw [if_pos (not_all hlt (HY.out ▸ hcar))]
      clear hcar
      go_wp2_with fail
      refine (isCar_any y _ HC.out _).mono ?_
      rintro e w1 ⟨rfl, rfl⟩
      go_wp2
      go_ret
      exact ⟨by rw [HF.out]; rfl, Fr.refl _ _⟩
  · obtain rfl : k = l.length := by omega
    have hall : ∀ m ∈ l, Car m := by have := HN.out; rwa [List.take_length] at this
    clear h3
    by_cases hr : Rise l
    · have HC := Lib.hid (yes hr)
      have HF : Hid (membC l = 0) := by show _ = _; unfold membC; rw [if_neg (by simpa using hall), if_neg (by simpa using hr)]
      clear hr hall
      go_wp2_with fail
      refine (rise_any _ l _ HC.out _ HV.out).mono ?_
      rintro e w1 ⟨rfl, hf⟩
      go_wp2
      go_ret
      exact ⟨by rw [HF.out]; rfl, hf⟩
    · have HC := Lib.hid (no hr)
      have HF : Hid (membC l = 11) := by show _ = _; unfold membC; rw [if_neg (by simpa using hall), if_pos hr]
      clear hr hall
      go_wp2_with fail
      refine (rise_any _ l _ HC.out _ HV.out).mono ?_
      rintro e w1 ⟨rfl, hf⟩
      have hT1 := hf.cell hT (by simp)
      go_wp2
      go_ret
      exact ⟨by rw [HF.out]; rfl, hf⟩
theorem makeInts (w : World) (n : Nat) (hc : n ≤ 17592186044416) (C : Int) (hC : C = (n : Int)) :
 (Instr.makeSlice 36 (.int .i64 C) (.int .i64 C)).run Tryz.prog w = .ok (.slice (some ⟨w.heap.size, 0, none⟩) n n) (w.alloc (.cells (i64s (List.replicate n 0)).toArray 3)) := by
 obtain ⟨i0, hi, hz0, hz1, hz2⟩ := info_parts infoI
 subst hC
 have hr := run_make (P := Tryz.prog) w 36 3 i0 (.int .i64 0) Tryz.underlying36 hi hz0 .i64 .i64 (n : Int) (n : Int) (by omega) (by omega) (by rw [hz2]; omega) (by omega)
 rw [hr, Int.toNat_natCast, hz1, Nat.mul_one]
 have e : madeCells (Value.int .i64 0).cells n = (i64s (List.replicate n 0)).toArray := by
  have h : ∀ x ∈ List.range n, (fun x => (Value.int .i64 0).cells[x % (Value.int .i64 0).cells.size]!) x = Value.int .i64 0 := by
   intro x _; simp [Value.cells, Nat.mod_one]
  apply Array.ext'
  simp only [madeCells, Array.toList_map, Array.toList_range]
  rw [List.map_congr_left h]
  refine List.ext_getElem (by simp [i64s]) (fun i h1 h2 => by simp [i64s])
 rw [e]
theorem i64s_set (l : List Int) (k : Nat) (x : Int) : (i64s l).toArray.setIfInBounds k (.int .i64 x) = (i64s (l.set k x)).toArray := by
 simp [i64s, List.map_set]
theorem holds_row {w : World} {g : Nat} {l : List Int} {T : TypeId} (h : w.heap[g]? = some (.cells (i64s l).toArray T (0, 0))) (hm : l.length ≤ maxLen) (n : Nat) (hn : n = l.length) : Holds .i64 w (.slice (some ⟨g, 0, none⟩) n n) l := by
 subst hn
 refine ⟨_, _, rfl, Nat.le_refl _, hm, fun _ => ⟨g, 0, rfl, fun i hi => ?_⟩⟩
 rw [Nat.zero_add, cell_of_row w g i _ _ _ h]
 simp [i64s, hi]
theorem map_set {l : List (Int × Int)} {L : List Int} {k : Nat} (h : k < l.length) (hL : L.length = l.length) (ht : L.take k = (l.take k).map (·.1)) : (L.set k (l.getD k (0, 0)).1).take (k + 1) = (l.take (k + 1)).map (·.1) := by
 rw [tk_snoc l k h (0, 0), tk_snoc (L.set k (l.getD k (0, 0)).1) k (by simp; omega) 0, List.map_append, ← ht]
 simp [List.take_set_of_le (Nat.le_refl k), h, hL]
set_option maxHeartbeats 1000000 in
set_option maxRecDepth 100000 in
theorem validBids_any (v : Value) (l : List (Int × Int)) (u : Value) (ms : List Int) (w : World) (A : Nat → Addr) (B : Nat) (is : List Nat) (hE : EV is w A B) (h : HB w v l) (hu : Holds .i64 w u ms) (hms : ms.length ≤ 1000000) (hs : ∀ i ∈ [2, 3, 10], i ∈ is := by decide) :
 Calls Tryz.prog 254 #[v, u] w fun e w' => e = .returned (ev A (bidsC ms l)) ∧ Fr w w' [] := by
 have hR := hE.range (hs 2 (by decide))
 have hM := hE.many (hs 3 (by decide))
 have hT := hE.twice (hs 10 (by decide))
 have HU := Lib.hid hu
 obtain ⟨a, cap, rfl, h1, h2, h3⟩ := h
 obtain ⟨au, capu, rfl, hu1, hu2, _⟩ := hu
 unfold maxLen at h2 hu2
 clear hE hs
 by_cases hlen : ms.length < l.length
 · have HF : Hid (bidsC ms l = 4) := by show _ = _; unfold bidsC; rw [if_pos hlen]
   clear h3
   go_enter Tryz.func254, Tryz.ntmps254
   go_wp2
   go_ret
   exact ⟨by rw [HF.out]; rfl, Fr.refl _ _⟩
 · have hmk := makeInts w l.length (by omega) (l.length : Int) rfl
   have hrow := heap_alloc_new w (.cells (i64s (List.replicate l.length 0)).toArray 3)
   have HROW := Lib.hid hrow
   clear hrow
   go_enter Tryz.func254, Tryz.ntmps254
   go_wp2
   have HMK := Lib.hid hmk
   clear hmk
   go_loopw [19] (fun i wr => ∃ (k : Nat) (L : List Int), k ≤ l.length ∧ i = .int .i64 k ∧ BidsOk ms (l.take k) ∧ L.length = l.length ∧ L.take k = (l.take k).map (·.1) ∧ wr.heap[w.heap.size]? = some (.cells (i64s L).toArray 3 (0, 0)) ∧ Fr w wr []) (fun i _ => l.length - (intOf i).toNat)
   case atStart => exact ⟨0, List.replicate l.length 0, Nat.zero_le _, rfl, by simp [BidsOk], by simp, by simp, HROW.out, Fr.alloc _ _ _⟩
   case round =>
    obtain ⟨k, L, hk, rfl, hok, hL, ht, hrow, hf⟩ := hrel
    have HOK := Lib.hid hok
    have HL := Lib.hid hL
    have HTK := Lib.hid ht
    have HROW2 := Lib.hid hrow
    have HF := Lib.hid hf
    clear hok hL ht hrow
    by_cases hlt : k < l.length
    · obtain ⟨bl, off, rfl, hc⟩ := h3 (by omega)
      obtain ⟨hc1, hc2⟩ := hc k hlt
      have hcell1 := hf.cell hc1 (by simp)
      have hcell2 := hf.cell hc2 (by simp)
      obtain ⟨x, hx⟩ : ∃ x, x = (l.getD k (0, 0)).1 := ⟨_, rfl⟩
      obtain ⟨y, hy⟩ : ∃ y, y = (l.getD k (0, 0)).2 := ⟨_, rfl⟩
      rw [← hx] at hcell1
      rw [← hy] at hcell2
      have HX := Lib.hid hx
      have HY := Lib.hid hy
      have hR1 := hf.cell hR (by simp)
      clear hx hy hc hc1 hc2 h3 hf
      have hrow3 := (Fr.alloc wr (.cells #[.int .i64 x, .int .i64 y] 123) []).heap HROW2.out (by simp)
      have hcr : (wr.alloc (.cells #[.int .i64 x, .int .i64 y] 123)).cell? ⟨w.heap.size, k, none⟩ = some (.int .i64 (L.getD k 0)) := by
       rw [cell_of_row _ _ k _ _ _ hrow3]; have := HL.out; simp [i64s, show k < L.length by omega]
      have hfz := frozen_of_row _ _ k _ _ hrow3
      have HROW3 := Lib.hid hrow3
      have hR2 := (Fr.alloc wr (.cells #[.int .i64 x, .int .i64 y] 123) []).cell hR1 (by simp)
      clear hR1
      clear hrow3
      have hcase : (x ∈ ms ∧ 0 ≤ y ∧ y ≤ 1048576) ∨ (¬ x ∈ ms) ∨ (x ∈ ms ∧ ¬ 0 ≤ y) ∨ (x ∈ ms ∧ 0 ≤ y ∧ ¬ y ≤ 1048576) := by
       by_cases q : x ∈ ms
       · rcases (show (0 ≤ y ∧ y ≤ 1048576) ∨ ¬ 0 ≤ y ∨ (0 ≤ y ∧ ¬ y ≤ 1048576) by omega) with h | h | h
         · exact .inl ⟨q, h⟩
         · exact .inr (.inr (.inl ⟨q, h⟩))
         · exact .inr (.inr (.inr ⟨q, h⟩))
       · exact .inr (.inl q)
      rcases hcase with ⟨hm, hy0, hy1⟩ | hm | ⟨hm, hy0⟩ | ⟨hm, hy0, hy1⟩
      · have HC := Lib.hid (yes hm)
        have HN := Lib.hid (bids_step (ms := ms) hlt HOK.out (HX.out ▸ hm) (HY.out ▸ hy0) (HY.out ▸ hy1))
        have HT2 : Hid ((L.set k x).take (k + 1) = (l.take (k + 1)).map (·.1)) := by rw [HX.out]; exact map_set hlt HL.out HTK.out
        clear hm
        go_wp2_with fail
        refine (contains_any _ ms x _ HC.out _ (HU.out.keep (HF.out.trans (Fr.alloc _ _ _)))).mono ?_
        rintro e w1 ⟨rfl, rfl⟩
        go_wp2
        go_roundw
        case rel => exact ⟨k + 1, L.set k x, by omega, by go_num, HN.out, by simp [HL.out], HT2.out, by rw [heap_setCell_same _ _ k _ _ _ HROW3.out, i64s_set], (HF.out.trans (Fr.alloc _ _ _)).new (Fr.setCell _ _ _ _ (S := [w.heap.size]) (by simp)) (by simp)⟩
        case measure => simp [intOf]; omega
      all_goals
       have HN : Hid (bidsC ms l = 3) := by show _ = _; unfold bidsC; rw [if_neg hlen, if_pos (bids_no hlt (by rw [← HX.out, ← HY.out]; rintro ⟨q1, q2, q3⟩; first | exact hm q1 | exact hy0 q2 | exact hy1 q3))]
       first | have HC := Lib.hid (yes (P := x ∈ ms) hm) | have HC := Lib.hid (no (P := x ∈ ms) hm)
       clear hm
       go_wp2_with fail
       refine (contains_any _ ms x _ HC.out _ (HU.out.keep (HF.out.trans (Fr.alloc _ _ _)))).mono ?_
       rintro e w1 ⟨rfl, rfl⟩
       go_wp2
       go_ret
       exact ⟨by rw [HN.out]; rfl, HF.out.trans (Fr.alloc _ _ _)⟩
    · obtain rfl : k = l.length := by omega
      have hall : BidsOk ms l := by have := HOK.out; rwa [List.take_length] at this
      have hLe : L = l.map (·.1) := by have := HTK.out; rwa [← HL.out, List.take_length, HL.out, List.take_length] at this
      have hho := holds_row HROW2.out (by have := HL.out; unfold maxLen; omega) l.length HL.out.symm
      rw [hLe] at hho
      have HH := Lib.hid hho
      have hT1 := hf.cell hT (by simp)
      clear h3 hLe hho hf
      by_cases hr : Rise (l.map (·.1))
      · have HC := Lib.hid (yes hr)
        have HN : Hid (bidsC ms l = 0) := by show _ = _; unfold bidsC; rw [if_neg hlen, if_neg (by simpa using hall), if_neg (by simpa using hr)]
        clear hr hall
        go_wp2_with fail
        refine (rise_any _ _ _ HC.out _ HH.out).mono ?_
        rintro e w1 ⟨rfl, hf⟩
        go_wp2
        go_ret
        exact ⟨by rw [HN.out]; rfl, HF.out.trans hf⟩
      · have HC := Lib.hid (no hr)
        have HN : Hid (bidsC ms l = 11) := by show _ = _; unfold bidsC; rw [if_neg hlen, if_neg (by simpa using hall), if_pos hr]
        clear hr hall
        go_wp2_with fail
        refine (rise_any _ _ _ HC.out _ HH.out).mono ?_
        rintro e w1 ⟨rfl, hf⟩
        have hT2 := hf.cell hT1 (by simp)
        go_wp2
        go_ret
        exact ⟨by rw [HN.out]; rfl, HF.out.trans hf⟩
theorem ahead_less {q e : En} (hq : LatchOk q) (he : LatchOk e) : (q.fl < e.fl ∨ q.fl = e.fl ∧ q.di = -1 ∧ e.di = 1) ↔ Less q e := by
 have h1 := hq.2.2.1
 have h2 := he.2.2.1
 unfold Less; omega
set_option maxHeartbeats 4000000 in
set_option maxRecDepth 100000 in
theorem validEntries_any (co fo ho : Int) (ms : List Int) (l : List En) (vm ve : Value) (w : World) (A : Nat → Addr) (B : Nat) (is : List Nat) (hE : EV is w A B) (hm : Holds .i64 w vm ms) (he : HE w ve l) (hms : ms.length ≤ 1000000) (hs : ∀ i ∈ [2, 3, 10], i ∈ is := by decide) :
 Calls Tryz.prog 186 #[.agg #[.int .i64 co, .int .i64 fo, .int .i64 ho, vm, ve]] w fun e w' => e = .returned (ev A (entsC ms none l)) ∧ Fr w w' [] := by
 have HEV := Lib.hid hE
 have HM := Lib.hid hm
 obtain ⟨am, cm, rfl⟩ := hm.shape
 obtain ⟨a, cap, rfl, h1, h2, h3⟩ := he
 unfold maxLen at h2
 have HZ := Lib.hid (heap_alloc_new w (.cells #[.int .i64 co, .int .i64 fo, .int .i64 ho, .slice am ms.length cm, .slice a l.length cap] 39))
 have HF0 := Lib.hid (Fr.alloc w (.cells #[.int .i64 co, .int .i64 fo, .int .i64 ho, .slice am ms.length cm, .slice a l.length cap] 39) [])
 have HS := Lib.hid hs
 clear hE hm hs
 go_enter Tryz.func186, Tryz.ntmps186
 go_wp2
 go_loopw [9] (fun i wr => ∃ k : Nat, k ≤ l.length ∧ i = .int .i64 k ∧ entsC ms (prevE l k) (l.drop k) = entsC ms none l ∧ (∀ j, j < k → LatchOk (l.getD j zeroE)) ∧ Fr (w.alloc (.cells #[.int .i64 co, .int .i64 fo, .int .i64 ho, .slice am ms.length cm, .slice a l.length cap] 39)) wr []) (fun i _ => l.length - (intOf i).toNat)
 case atStart => exact ⟨0, Nat.zero_le _, rfl, rfl, fun j hj => by omega, Fr.refl _ _⟩
 case round =>
  obtain ⟨k, hk, rfl, hrec, hall, hf⟩ := hrel
  have HRB := Lib.hid (hf.heap HZ.out (by simp))
  have HF := Lib.hid (HF0.out.trans hf)
  have HALL := Lib.hid hall
  have HFB := Lib.hid hf
  clear hall hf
  by_cases hlt : k < l.length
  · obtain ⟨bl, off, rfl, hc⟩ := h3 (by omega)
    obtain ⟨u, x0, x1, x2, x3, x4, hb⟩ := hc k hlt
    have hat := entsC_at hlt hrec
    have HQ : 0 < k → ∃ q : En, q = l.getD (k - 1) zeroE ∧ LatchOk q ∧ w.cell? ⟨bl, off + (k - 1) * 5, none⟩ = some (.int .i64 q.fl) ∧ w.cell? ⟨bl, off + (k - 1) * 5 + 1, none⟩ = some (.int .i64 q.di) := fun h0 => by
     obtain ⟨u', q0, q1, _⟩ := hc (k - 1) (by omega)
     exact ⟨_, rfl, HALL.out (k - 1) (by omega), q0, q1⟩
    have HLS := Lib.hid (fun hk' => latch_step (k := k) HALL.out hk')
    obtain ⟨e, he⟩ : ∃ e, e = l.getD k zeroE := ⟨_, rfl⟩
    rw [← he] at x0 x1 x2 x4 hb hat HLS
    obtain ⟨z1, d1, rfl⟩ := hb.shape
    obtain ⟨e0, e1, e2, el, e4⟩ := e
    simp only at x0 x1 x2 x4 hb
    have HBD := Lib.hid hb
    have HAT := Lib.hid hat
    replace x0 := HF.out.cell x0 (by simp)
    replace x1 := HF.out.cell x1 (by simp)
    replace x2 := HF.out.cell x2 (by simp)
    replace x3 := HF.out.cell x3 (by simp)
    replace x4 := HF.out.cell x4 (by simp)
    have HBX := Lib.hid (heap_alloc_new wr (.cells #[.int .i64 e0, .int .i64 e1, .int .i64 e2, .slice z1 el.length d1, .int .i64 e4] 121))
    have HFX := Lib.hid (Fr.alloc wr (.cells #[.int .i64 e0, .int .i64 e1, .int .i64 e2, .slice z1 el.length d1, .int .i64 e4] 121) [])
    have HRX := Lib.hid (HFX.out.heap HRB.out (by simp))
    clear hb hat hc h3 hrec he
    by_cases hL : 0 ≤ e0 ∧ e0 < 64 ∧ (e1 = 1 ∨ e1 = -1) ∧ 1 ≤ e2 ∧ e2 ≤ 2147483647
    rotate_left
    · have HC := Lib.hid (no hL)
      have HR : Hid (entsC ms none l = 3) := by
       have e3 : entC ms (prevE l k) ⟨e0, e1, e2, el, e4⟩ = 3 := ent_latch (fun h => hL h.1)
       show _ = _
       rw [HAT.out.2 (by rw [e3]; decide), e3]
      clear hL
      go_wp2_with fail
      refine (isLatch_any _ _ _ _ HC.out _).mono ?_
      rintro e w1 ⟨rfl, hf1⟩
      have hR := (HEV.out.keep ((HF.out.trans HFX.out).trans hf1)).range (HS.out 2 (by decide))
      go_wp2
      go_ret
      exact ⟨by rw [HR.out]; rfl, (HF.out.trans HFX.out).trans hf1⟩
    have HC := Lib.hid (yes hL)
    have HLO := Lib.hid (show LatchOk ⟨e0, e1, e2, el, e4⟩ from hL)
    clear hL
    by_cases hA : e4 = -1 ∨ e4 ∈ ms
    rotate_left
    · have hne : (e4 != -1) = true := by simp; intro q; exact hA (.inl q)
      have HD := Lib.hid (no (P := e4 ∈ ms) (fun q => hA (.inr q)))
      have HR : Hid (entsC ms none l = 3) := by
       have e3 : entC ms (prevE l k) ⟨e0, e1, e2, el, e4⟩ = 3 := ent_latch (fun h => hA h.2)
       show _ = _
       rw [HAT.out.2 (by rw [e3]; decide), e3]
      clear hA
      go_wp2_with fail
      refine (isLatch_any _ _ _ _ HC.out _).mono ?_
      rintro e w1 ⟨rfl, hf1⟩
      have HF1 := Lib.hid ((HF.out.trans HFX.out).trans hf1)
      have k1 := row5 (hf1.heap HRX.out (by simp))
      have k2 := row5 (hf1.heap HBX.out (by simp))
      clear hf1
      go_wp2_with fail
      refine (contains_any _ ms e4 _ HD.out _ (HM.out.keep HF1.out)).mono ?_
      rintro e w2 ⟨rfl, rfl⟩
      have hR := (HEV.out.keep HF1.out).range (HS.out 2 (by decide))
      go_wp2
      go_ret
      exact ⟨by rw [HR.out]; rfl, HF1.out⟩
    have HAW := Lib.hid hA
    have hcA : (e4 != -1) = false ∨ ((e4 != -1) = true ∧ Hid (true = decide (e4 ∈ ms))) := by
     by_cases q : e4 = -1
     · exact .inl (by simp [q])
     · exact .inr ⟨by simpa using q, Lib.hid (yes (hA.resolve_left q))⟩
    clear hA
    have hcP : (k = 0) ∨ (0 < k) := by omega
    rcases hcP with hk0 | hk0
    · have HPZ := Lib.hid (show entC ms (prevE l k) ⟨e0, e1, e2, el, e4⟩ = bidsC ms el from ent_bids ⟨HLO.out, HAW.out⟩ (by rw [prev_zero hk0]; exact trivial))
      have HK0 := Lib.hid hk0
      have hgt : decide (0 < k) = false := by simp; omega
      clear hk0 HQ
      rcases hcA with hne | ⟨hne, HD⟩
      · go_wp2_with fail
        refine (isLatch_any _ _ _ _ HC.out _).mono ?_
        rintro e w1 ⟨rfl, hf1⟩
        have HF1 := Lib.hid ((HF.out.trans HFX.out).trans hf1)
        have HG1 := Lib.hid hf1
        have HX1 := Lib.hid (hf1.heap HRX.out (by simp))
        have HX2 := Lib.hid (hf1.heap HBX.out (by simp))
        have k1 := row5 HX1.out
        have k2 := row5 HX2.out
        clear hf1
        go_wp2
        clear k1 k2
        refine wp_region_det (S := fun a => Fr w1 a []) (by kernel_rfl) (Fr.drew _ _) ?_
        refine zDU fun hU => ?_
        try dsimp only at hU
        refine zD 0 ?_
        refine zD 1 ?_
        refine zD 2 ?_
        refine zDs 3 ?_
        refine zDs 4 ?_
        refine zDs 5 ?_
        refine zDs 6 ?_
        refine zDs 7 ?_
        refine zDs 8 ?_
        refine zDs 9 ?_
        refine zDs 10 ?_
        refine zDs 11 ?_
        refine zDs 12 ?_
        refine zDs 13 ?_
        refine zDs 14 ?_
        refine zDs 15 ?_
        refine zD 16 ?_
        refine wpDet_done (by kernel_rfl) ?_ _
        intro w3 hf3
        have k1 := row5 (hf3.heap HX1.out (by simp))
        have k2 := row5 (hf3.heap HX2.out (by simp))
        have HF3 := Lib.hid (HF1.out.trans hf3)
        have HG3 := Lib.hid (HG1.out.trans hf3)
        clear hf3
        go_wp2_with fail
        refine (validBids_any _ el _ ms _ A B is (HEV.out.keep HF3.out) (HBD.out.keep HF3.out) (HM.out.keep HF3.out) hms HS.out).mono ?_
        rintro e w4 ⟨rfl, hf4⟩
        by_cases hz : bidsC ms el = 0
        · have HN := Lib.hid (HAT.out.1 (HPZ.out.trans hz))
          rw [hz, show ev A 0 = .nilIface from rfl]
          clear hz
          go_wp2
          go_roundw
          case rel => exact ⟨k + 1, by omega, by go_num, HN.out, HLS.out HLO.out, ((HFB.out.trans HFX.out).trans HG3.out).trans hf4⟩
          case measure => simp [intOf]; omega
        · have HR : Hid (entsC ms none l = bidsC ms el) := by show _ = _; rw [HAT.out.2 (by rw [HPZ.out]; exact hz), HPZ.out]
          rw [ev_ne A hz]
          have HEN := Lib.hid (ev_ne A hz)
          clear hz
          go_wp2
          go_ret
          exact ⟨by rw [HR.out, HEN.out]; rfl, HF3.out.trans hf4⟩
      · go_wp2_with fail
        refine (isLatch_any _ _ _ _ HC.out _).mono ?_
        rintro e w1 ⟨rfl, hf1⟩
        have HF1 := Lib.hid ((HF.out.trans HFX.out).trans hf1)
        have HG1 := Lib.hid hf1
        have HX1 := Lib.hid (hf1.heap HRX.out (by simp))
        have HX2 := Lib.hid (hf1.heap HBX.out (by simp))
        have k1 := row5 HX1.out
        have k2 := row5 HX2.out
        clear hf1
        go_wp2_with fail
        refine (contains_any _ ms e4 _ HD.out _ (HM.out.keep HF1.out)).mono ?_
        rintro e w2 ⟨rfl, rfl⟩
        go_wp2
        clear k1 k2
        refine wp_region_det (S := fun a => Fr w1 a []) (by kernel_rfl) (Fr.drew _ _) ?_
        refine zDU fun hU => ?_
        try dsimp only at hU
        refine zD 0 ?_
        refine zD 1 ?_
        refine zD 2 ?_
        refine zDs 3 ?_
        refine zDs 4 ?_
        refine zDs 5 ?_
        refine zDs 6 ?_
        refine zDs 7 ?_
        refine zDs 8 ?_
        refine zDs 9 ?_
        refine zDs 10 ?_
        refine zDs 11 ?_
        refine zDs 12 ?_
        refine zDs 13 ?_
        refine zDs 14 ?_
        refine zDs 15 ?_
        refine zD 16 ?_
        refine wpDet_done (by kernel_rfl) ?_ _
        intro w3 hf3
        have k1 := row5 (hf3.heap HX1.out (by simp))
        have k2 := row5 (hf3.heap HX2.out (by simp))
        have HF3 := Lib.hid (HF1.out.trans hf3)
        have HG3 := Lib.hid (HG1.out.trans hf3)
        clear hf3
        go_wp2_with fail
        refine (validBids_any _ el _ ms _ A B is (HEV.out.keep HF3.out) (HBD.out.keep HF3.out) (HM.out.keep HF3.out) hms HS.out).mono ?_
        rintro e w4 ⟨rfl, hf4⟩
        by_cases hz : bidsC ms el = 0
        · have HN := Lib.hid (HAT.out.1 (HPZ.out.trans hz))
          rw [hz, show ev A 0 = .nilIface from rfl]
          clear hz
          go_wp2
          go_roundw
          case rel => exact ⟨k + 1, by omega, by go_num, HN.out, HLS.out HLO.out, ((HFB.out.trans HFX.out).trans HG3.out).trans hf4⟩
          case measure => simp [intOf]; omega
        · have HR : Hid (entsC ms none l = bidsC ms el) := by show _ = _; rw [HAT.out.2 (by rw [HPZ.out]; exact hz), HPZ.out]
          rw [ev_ne A hz]
          have HEN := Lib.hid (ev_ne A hz)
          clear hz
          go_wp2
          go_ret
          exact ⟨by rw [HR.out, HEN.out]; rfl, HF3.out.trans hf4⟩
    · obtain ⟨q, hq, hql, q0, q1⟩ := HQ hk0
      replace q0 := HF.out.cell q0 (by simp)
      replace q1 := HF.out.cell q1 (by simp)
      obtain ⟨qf, qd, qg, qb, qa⟩ := q
      simp only at q0 q1
      have HQ0 := Lib.hid q0
      have HQ1 := Lib.hid q1
      have HPP := Lib.hid ((prev_pos hk0).trans (congrArg some hq.symm))
      have HAL := Lib.hid (ahead_less hql HLO.out)
      have hgt : decide (0 < k) = true := by simp; omega
      have hn4 : (1 : Int) ≤ (k : Int) := by omega
      clear q0 q1 hq hql HQ hk0
      by_cases hles : Less ⟨qf, qd, qg, qb, qa⟩ ⟨e0, e1, e2, el, e4⟩
      · have HA := Lib.hid (yes (HAL.out.2 hles))
        have HPZ := Lib.hid (show entC ms (prevE l k) ⟨e0, e1, e2, el, e4⟩ = bidsC ms el from ent_bids ⟨HLO.out, HAW.out⟩ (by rw [HPP.out]; exact hles))
        clear hles
        rcases hcA with hne | ⟨hne, HD⟩
        · go_wp2_with fail
          refine (isLatch_any _ _ _ _ HC.out _).mono ?_
          rintro e w1 ⟨rfl, hf1⟩
          have HF1 := Lib.hid ((HF.out.trans HFX.out).trans hf1)
          have HG1 := Lib.hid hf1
          have HX1 := Lib.hid (hf1.heap HRX.out (by simp))
          have HX2 := Lib.hid (hf1.heap HBX.out (by simp))
          have k1 := row5 HX1.out
          have k2 := row5 HX2.out
          clear hf1
          go_wp2
          clear k1 k2
          have hn0 : (0 : Int) ≤ (k : Int) - 1 := by omega
          have hn3 : (k : Int) - 1 < (l.length : Int) := by omega
          have hn1 : ((k : Int) - 1).toNat = k - 1 := by omega
          have hn2 : IntKind.i64.wrap ((k : Int) - 1) = (k : Int) - 1 := IntWalk.i64_in _ (by omega)
          have k1 := row5 HX1.out
          have k2 := row5 HX2.out
          have HFQ := Lib.hid (HFX.out.trans HG1.out)
          refine wp_region_det (S := AheadS w1 w.heap.size (.slice (some ⟨bl, off, none⟩) l.length cap) bl (off + (k - 1) * 5) qf qd wr.heap.size e0 e1) (by kernel_rfl) (AheadS.keep ⟨Fr.refl _ _, k1.2.2.2.2, HFQ.out.cell HQ0.out (by simp), HFQ.out.cell HQ1.out (by simp), k2.1, k2.2.1⟩ (Fr.drew _ _)) ?_
          clear k1 k2
          refine zDU fun hU => ?_
          try dsimp only [AheadS] at hU
          refine zD 0 ?_
          refine zD 1 ?_
          refine zD 2 ?_
          refine zD 3 ?_
          refine zD 4 ?_
          refine zD 5 ?_
          refine zD 6 ?_
          refine zD 7 ?_
          refine zD 8 ?_
          refine zD 9 ?_
          refine zD 10 ?_
          refine zD 11 ?_
          refine zD 12 ?_
          refine zD 13 ?_
          refine zD 14 ?_ (hv := by (intro w hSw; go_simp; exact Came.call ((ahead_any _ _ _ _ true HA.out w).mono fun e w' ⟨he, hf⟩ => ⟨he, hSw.keep hf⟩) (by with_reducible rfl)))
          refine zD 15 ?_
          refine zD 16 ?_
          clear hn0 hn3 hn1 hn2
          refine wpDet_done (by kernel_rfl) ?_ _
          intro w3 hS3
          have hf3 := hS3.1
          clear hS3
          have k1 := row5 (hf3.heap HX1.out (by simp))
          have k2 := row5 (hf3.heap HX2.out (by simp))
          have HF3 := Lib.hid (HF1.out.trans hf3)
          have HG3 := Lib.hid (HG1.out.trans hf3)
          clear hf3
          go_wp2_with fail
          refine (validBids_any _ el _ ms _ A B is (HEV.out.keep HF3.out) (HBD.out.keep HF3.out) (HM.out.keep HF3.out) hms HS.out).mono ?_
          rintro e w4 ⟨rfl, hf4⟩
          by_cases hz : bidsC ms el = 0
          · have HN := Lib.hid (HAT.out.1 (HPZ.out.trans hz))
            rw [hz, show ev A 0 = .nilIface from rfl]
            clear hz
            go_wp2
            go_roundw
            case rel => exact ⟨k + 1, by omega, by go_num, HN.out, HLS.out HLO.out, ((HFB.out.trans HFX.out).trans HG3.out).trans hf4⟩
            case measure => simp [intOf]; omega
          · have HR : Hid (entsC ms none l = bidsC ms el) := by show _ = _; rw [HAT.out.2 (by rw [HPZ.out]; exact hz), HPZ.out]
            rw [ev_ne A hz]
            have HEN := Lib.hid (ev_ne A hz)
            clear hz
            go_wp2
            go_ret
            exact ⟨by rw [HR.out, HEN.out]; rfl, HF3.out.trans hf4⟩
        · go_wp2_with fail
          refine (isLatch_any _ _ _ _ HC.out _).mono ?_
          rintro e w1 ⟨rfl, hf1⟩
          have HF1 := Lib.hid ((HF.out.trans HFX.out).trans hf1)
          have HG1 := Lib.hid hf1
          have HX1 := Lib.hid (hf1.heap HRX.out (by simp))
          have HX2 := Lib.hid (hf1.heap HBX.out (by simp))
          have k1 := row5 HX1.out
          have k2 := row5 HX2.out
          clear hf1
          go_wp2_with fail
          refine (contains_any _ ms e4 _ HD.out _ (HM.out.keep HF1.out)).mono ?_
          rintro e w2 ⟨rfl, rfl⟩
          go_wp2
          clear k1 k2
          have hn0 : (0 : Int) ≤ (k : Int) - 1 := by omega
          have hn3 : (k : Int) - 1 < (l.length : Int) := by omega
          have hn1 : ((k : Int) - 1).toNat = k - 1 := by omega
          have hn2 : IntKind.i64.wrap ((k : Int) - 1) = (k : Int) - 1 := IntWalk.i64_in _ (by omega)
          have k1 := row5 HX1.out
          have k2 := row5 HX2.out
          have HFQ := Lib.hid (HFX.out.trans HG1.out)
          refine wp_region_det (S := AheadS w1 w.heap.size (.slice (some ⟨bl, off, none⟩) l.length cap) bl (off + (k - 1) * 5) qf qd wr.heap.size e0 e1) (by kernel_rfl) (AheadS.keep ⟨Fr.refl _ _, k1.2.2.2.2, HFQ.out.cell HQ0.out (by simp), HFQ.out.cell HQ1.out (by simp), k2.1, k2.2.1⟩ (Fr.drew _ _)) ?_
          clear k1 k2
          refine zDU fun hU => ?_
          try dsimp only [AheadS] at hU
          refine zD 0 ?_
          refine zD 1 ?_
          refine zD 2 ?_
          refine zD 3 ?_
          refine zD 4 ?_
          refine zD 5 ?_
          refine zD 6 ?_
          refine zD 7 ?_
          refine zD 8 ?_
          refine zD 9 ?_
          refine zD 10 ?_
          refine zD 11 ?_
          refine zD 12 ?_
          refine zD 13 ?_
          refine zD 14 ?_ (hv := by (intro w hSw; go_simp; exact Came.call ((ahead_any _ _ _ _ true HA.out w).mono fun e w' ⟨he, hf⟩ => ⟨he, hSw.keep hf⟩) (by with_reducible rfl)))
          refine zD 15 ?_
          refine zD 16 ?_
          clear hn0 hn3 hn1 hn2
          refine wpDet_done (by kernel_rfl) ?_ _
          intro w3 hS3
          have hf3 := hS3.1
          clear hS3
          have k1 := row5 (hf3.heap HX1.out (by simp))
          have k2 := row5 (hf3.heap HX2.out (by simp))
          have HF3 := Lib.hid (HF1.out.trans hf3)
          have HG3 := Lib.hid (HG1.out.trans hf3)
          clear hf3
          go_wp2_with fail
          refine (validBids_any _ el _ ms _ A B is (HEV.out.keep HF3.out) (HBD.out.keep HF3.out) (HM.out.keep HF3.out) hms HS.out).mono ?_
          rintro e w4 ⟨rfl, hf4⟩
          by_cases hz : bidsC ms el = 0
          · have HN := Lib.hid (HAT.out.1 (HPZ.out.trans hz))
            rw [hz, show ev A 0 = .nilIface from rfl]
            clear hz
            go_wp2
            go_roundw
            case rel => exact ⟨k + 1, by omega, by go_num, HN.out, HLS.out HLO.out, ((HFB.out.trans HFX.out).trans HG3.out).trans hf4⟩
            case measure => simp [intOf]; omega
          · have HR : Hid (entsC ms none l = bidsC ms el) := by show _ = _; rw [HAT.out.2 (by rw [HPZ.out]; exact hz), HPZ.out]
            rw [ev_ne A hz]
            have HEN := Lib.hid (ev_ne A hz)
            clear hz
            go_wp2
            go_ret
            exact ⟨by rw [HR.out, HEN.out]; rfl, HF3.out.trans hf4⟩
      · have HA := Lib.hid (no (fun q => hles (HAL.out.1 q)))
        have HR : Hid (entsC ms none l = 11) := by
         have e3 : entC ms (prevE l k) ⟨e0, e1, e2, el, e4⟩ = 11 := ent_after ⟨HLO.out, HAW.out⟩ (by rw [HPP.out]; exact hles)
         show _ = _
         rw [HAT.out.2 (by rw [e3]; decide), e3]
        clear hles
        rcases hcA with hne | ⟨hne, HD⟩
        · go_wp2_with fail
          refine (isLatch_any _ _ _ _ HC.out _).mono ?_
          rintro e w1 ⟨rfl, hf1⟩
          have HF1 := Lib.hid ((HF.out.trans HFX.out).trans hf1)
          have HG1 := Lib.hid hf1
          have HX1 := Lib.hid (hf1.heap HRX.out (by simp))
          have HX2 := Lib.hid (hf1.heap HBX.out (by simp))
          have k1 := row5 HX1.out
          have k2 := row5 HX2.out
          clear hf1
          go_wp2
          clear k1 k2
          have hn0 : (0 : Int) ≤ (k : Int) - 1 := by omega
          have hn3 : (k : Int) - 1 < (l.length : Int) := by omega
          have hn1 : ((k : Int) - 1).toNat = k - 1 := by omega
          have hn2 : IntKind.i64.wrap ((k : Int) - 1) = (k : Int) - 1 := IntWalk.i64_in _ (by omega)
          have k1 := row5 HX1.out
          have k2 := row5 HX2.out
          have HFQ := Lib.hid (HFX.out.trans HG1.out)
          refine wp_region_det (S := AheadS w1 w.heap.size (.slice (some ⟨bl, off, none⟩) l.length cap) bl (off + (k - 1) * 5) qf qd wr.heap.size e0 e1) (by kernel_rfl) (AheadS.keep ⟨Fr.refl _ _, k1.2.2.2.2, HFQ.out.cell HQ0.out (by simp), HFQ.out.cell HQ1.out (by simp), k2.1, k2.2.1⟩ (Fr.drew _ _)) ?_
          clear k1 k2
          refine zDU fun hU => ?_
          try dsimp only [AheadS] at hU
          refine zD 0 ?_
          refine zD 1 ?_
          refine zD 2 ?_
          refine zD 3 ?_
          refine zD 4 ?_
          refine zD 5 ?_
          refine zD 6 ?_
          refine zD 7 ?_
          refine zD 8 ?_
          refine zD 9 ?_
          refine zD 10 ?_
          refine zD 11 ?_
          refine zD 12 ?_
          refine zD 13 ?_
          refine zD 14 ?_ (hv := by (intro w hSw; go_simp; exact Came.call ((ahead_any _ _ _ _ false HA.out w).mono fun e w' ⟨he, hf⟩ => ⟨he, hSw.keep hf⟩) (by with_reducible rfl)))
          refine zD 15 ?_
          refine zD 16 ?_
          clear hn0 hn3 hn1 hn2
          refine wpDet_done (by kernel_rfl) ?_ _
          intro w3 hS3
          have hf3 := hS3.1
          clear hS3
          have k1 := row5 (hf3.heap HX1.out (by simp))
          have k2 := row5 (hf3.heap HX2.out (by simp))
          have HF3 := Lib.hid (HF1.out.trans hf3)
          have HG3 := Lib.hid (HG1.out.trans hf3)
          clear hf3
          have hT := (HEV.out.keep HF3.out).twice (HS.out 10 (by decide))
          go_wp2
          go_ret
          exact ⟨by rw [HR.out]; rfl, HF3.out⟩
        · go_wp2_with fail
          refine (isLatch_any _ _ _ _ HC.out _).mono ?_
          rintro e w1 ⟨rfl, hf1⟩
          have HF1 := Lib.hid ((HF.out.trans HFX.out).trans hf1)
          have HG1 := Lib.hid hf1
          have HX1 := Lib.hid (hf1.heap HRX.out (by simp))
          have HX2 := Lib.hid (hf1.heap HBX.out (by simp))
          have k1 := row5 HX1.out
          have k2 := row5 HX2.out
          clear hf1
          go_wp2_with fail
          refine (contains_any _ ms e4 _ HD.out _ (HM.out.keep HF1.out)).mono ?_
          rintro e w2 ⟨rfl, rfl⟩
          go_wp2
          clear k1 k2
          have hn0 : (0 : Int) ≤ (k : Int) - 1 := by omega
          have hn3 : (k : Int) - 1 < (l.length : Int) := by omega
          have hn1 : ((k : Int) - 1).toNat = k - 1 := by omega
          have hn2 : IntKind.i64.wrap ((k : Int) - 1) = (k : Int) - 1 := IntWalk.i64_in _ (by omega)
          have k1 := row5 HX1.out
          have k2 := row5 HX2.out
          have HFQ := Lib.hid (HFX.out.trans HG1.out)
          refine wp_region_det (S := AheadS w1 w.heap.size (.slice (some ⟨bl, off, none⟩) l.length cap) bl (off + (k - 1) * 5) qf qd wr.heap.size e0 e1) (by kernel_rfl) (AheadS.keep ⟨Fr.refl _ _, k1.2.2.2.2, HFQ.out.cell HQ0.out (by simp), HFQ.out.cell HQ1.out (by simp), k2.1, k2.2.1⟩ (Fr.drew _ _)) ?_
          clear k1 k2
          refine zDU fun hU => ?_
          try dsimp only [AheadS] at hU
          refine zD 0 ?_
          refine zD 1 ?_
          refine zD 2 ?_
          refine zD 3 ?_
          refine zD 4 ?_
          refine zD 5 ?_
          refine zD 6 ?_
          refine zD 7 ?_
          refine zD 8 ?_
          refine zD 9 ?_
          refine zD 10 ?_
          refine zD 11 ?_
          refine zD 12 ?_
          refine zD 13 ?_
          refine zD 14 ?_ (hv := by (intro w hSw; go_simp; exact Came.call ((ahead_any _ _ _ _ false HA.out w).mono fun e w' ⟨he, hf⟩ => ⟨he, hSw.keep hf⟩) (by with_reducible rfl)))
          refine zD 15 ?_
          refine zD 16 ?_
          clear hn0 hn3 hn1 hn2
          refine wpDet_done (by kernel_rfl) ?_ _
          intro w3 hS3
          have hf3 := hS3.1
          clear hS3
          have k1 := row5 (hf3.heap HX1.out (by simp))
          have k2 := row5 (hf3.heap HX2.out (by simp))
          have HF3 := Lib.hid (HF1.out.trans hf3)
          have HG3 := Lib.hid (HG1.out.trans hf3)
          clear hf3
          have hT := (HEV.out.keep HF3.out).twice (HS.out 10 (by decide))
          go_wp2
          go_ret
          exact ⟨by rw [HR.out]; rfl, HF3.out⟩
  · obtain rfl : k = l.length := by omega
    have HR : Hid (entsC ms none l = 0) := by
     show _ = _
     rw [← hrec, List.drop_length]; rfl
    clear h3 hrec
    go_wp2
    go_ret
    exact ⟨by rw [HR.out]; rfl, HF.out⟩
def tokenC (f : F) : Nat := if f.li = 0 ∧ f.se = 0 ∧ f.ou = false then ringC f.rg else 3
set_option maxHeartbeats 4000000 in
set_option maxRecDepth 100000 in
theorem validToken_any (f : F) (vm ve : Value) (w : World) (A : Nat → Addr) (B : Nat) (is : List Nat) (hE : EV is w A B) (hm : Holds .i64 w vm f.rg.ms) (he : HE w ve f.rg.es) (hs : ∀ i ∈ [2, 3, 10], i ∈ is := by decide) :
 Calls Tryz.prog 115 #[frV f vm ve] w fun e w' => e = .returned (ev A (tokenC f)) ∧ Fr w w' [] := by
 obtain ⟨ki, fr, dst, li, se, ou, ⟨co, fo, ho, ms, es⟩⟩ := f
 unfold frV
 simp only at hm he ⊢
 have HM := Lib.hid hm
 have HX := Lib.hid he
 obtain ⟨am, cm, rfl⟩ := hm.shape
 obtain ⟨ae, ce, rfl⟩ := he.shape
 have hml : ms.length ≤ 9223372036854775807 := by obtain ⟨a, c, h, h1, h2, _⟩ := hm; unfold maxLen at h2; omega
 have hel : es.length ≤ 9223372036854775807 := by obtain ⟨a, c, h, h1, h2, _⟩ := he; unfold maxLen at h2; omega
 have HEV := Lib.hid hE
 have HS := Lib.hid hs
 have HZ := Lib.hid (two_boxes w (.cells #[.int .i64 ki, .int .i64 fr, .int .i64 dst, .int .i64 li, .int .i64 se, .bool ou, .int .i64 co, .int .i64 fo, .int .i64 ho, .slice am ms.length cm, .slice ae es.length ce] 41) (.cells #[.int .i64 co, .int .i64 fo, .int .i64 ho, .slice am ms.length cm, .slice ae es.length ce] 39))
 have HF0 := Lib.hid ((Fr.alloc w (.cells #[.int .i64 ki, .int .i64 fr, .int .i64 dst, .int .i64 li, .int .i64 se, .bool ou, .int .i64 co, .int .i64 fo, .int .i64 ho, .slice am ms.length cm, .slice ae es.length ce] 41) []).trans (Fr.alloc _ (.cells #[.int .i64 co, .int .i64 fo, .int .i64 ho, .slice am ms.length cm, .slice ae es.length ce] 39) []))
 have hR0 := (hE.keep HF0.out).range (hs 2 (by decide))
 clear hE hs hm he
 have HT0 := Lib.hid (fun (h : ¬ (li = 0 ∧ se = 0 ∧ ou = false)) => (show tokenC ⟨ki, fr, dst, li, se, ou, ⟨co, fo, ho, ms, es⟩⟩ = 3 from if_neg h))
 have hcase : (li != 0) = true ∨ ((li != 0) = false ∧ (se != 0) = true) ∨ ((li != 0) = false ∧ (se != 0) = false ∧ ou = true) ∨ ((li != 0) = false ∧ (se != 0) = false ∧ ou = false) := by
  cases (li != 0) <;> cases (se != 0) <;> cases ou <;> simp
 rcases hcase with e1 | ⟨e1, e2⟩ | ⟨e1, e2, rfl⟩ | ⟨e1, e2, rfl⟩
 rotate_right
 · have HT : Hid (tokenC ⟨ki, fr, dst, li, se, false, ⟨co, fo, ho, ms, es⟩⟩ = ringC ⟨co, fo, ho, ms, es⟩) := by
    show _ = _
    unfold tokenC
    rw [if_pos]
    refine ⟨by simpa using e1, by simpa using e2, rfl⟩
   by_cases hEp : EpOk co fo
   rotate_left
   · have HC := Lib.hid (no hEp)
     have HR : Hid (ringC ⟨co, fo, ho, ms, es⟩ = 3) := ringC_head (fun h => hEp h.1)
     clear hEp hR0
     go_enter Tryz.func115, Tryz.ntmps115
     go_wp2_with fail
     refine (epValid_any _ _ _ HC.out _).mono ?_
     rintro e w1 ⟨rfl, hf1⟩
     have hR := (HEV.out.keep (HF0.out.trans hf1)).range (HS.out 2 (by decide))
     go_wp2
     go_ret
     exact ⟨by rw [HT.out, HR.out]; rfl, HF0.out.trans hf1⟩
   have HC := Lib.hid (yes hEp)
   by_cases hH : 0 ≤ ho ∧ ho ≤ 1099511627776
   rotate_left
   · have HR : Hid (ringC ⟨co, fo, ho, ms, es⟩ = 3) := ringC_head (fun h => hH h.2)
     have hcH : ho < 0 ∨ (¬ ho < 0 ∧ 1099511627776 < ho) := by omega
     clear hEp hR0 hH
     rcases hcH with h1 | ⟨h1, h2⟩
     all_goals
      go_enter Tryz.func115, Tryz.ntmps115
      go_wp2_with fail
      refine (epValid_any _ _ _ HC.out _).mono ?_
      rintro e w1 ⟨rfl, hf1⟩
      have hR := (HEV.out.keep (HF0.out.trans hf1)).range (HS.out 2 (by decide))
      have k1 := row5 (hf1.heap HZ.out.2 (by simp))
      go_wp2
      go_ret
      exact ⟨by rw [HT.out, HR.out]; rfl, HF0.out.trans hf1⟩
   have HHD := Lib.hid (show HeadOk ⟨co, fo, ho, ms, es⟩ from ⟨hEp, hH⟩)
   have h1 : ¬ ho < 0 := by omega
   have h2 : ¬ 1099511627776 < ho := by omega
   clear hEp hH hR0
   by_cases hN : 16 < ms.length ∨ ms.length = 0 ∨ 128 < es.length
   · have HR : Hid (ringC ⟨co, fo, ho, ms, es⟩ = 4) := ringC_many HHD.out hN
     have hcN : 16 < (ms.length : Int) ∨ (¬ 16 < (ms.length : Int) ∧ ((ms.length : Int) == 0) = true) ∨ (¬ 16 < (ms.length : Int) ∧ ((ms.length : Int) == 0) = false ∧ 128 < (es.length : Int)) := by
      by_cases q : ms.length = 0
      · right; left; simp [q]
      · by_cases q2 : 16 < ms.length
        · left; omega
        · right; right; refine ⟨by omega, ?_, by omega⟩; simp only [beq_eq_false_iff_ne]; omega
     clear hN
     rcases hcN with h3 | ⟨h3, h4⟩ | ⟨h3, h4, h5⟩
     all_goals
      go_enter Tryz.func115, Tryz.ntmps115
      go_wp2_with fail
      refine (epValid_any _ _ _ HC.out _).mono ?_
      rintro e w1 ⟨rfl, hf1⟩
      have hR := (HEV.out.keep (HF0.out.trans hf1)).many (HS.out 3 (by decide))
      have k1 := row5 (hf1.heap HZ.out.2 (by simp))
      go_wp2
      go_ret
      exact ⟨by rw [HT.out, HR.out]; rfl, HF0.out.trans hf1⟩
   have HNN := Lib.hid hN
   have h3 : ¬ 16 < (ms.length : Int) := by omega
   have h4 : ((ms.length : Int) == 0) = false := by simp only [beq_eq_false_iff_ne]; omega
   have h5 : ¬ 128 < (es.length : Int) := by omega
   clear hN
   go_enter Tryz.func115, Tryz.ntmps115
   go_wp2_with fail
   refine (epValid_any _ _ _ HC.out _).mono ?_
   rintro e w1 ⟨rfl, hf1⟩
   have HF1 := Lib.hid (HF0.out.trans hf1)
   have k1 := row5 (hf1.heap HZ.out.2 (by simp))
   have HRB := Lib.hid (hf1.heap HZ.out.2 (by simp))
   clear hf1
   go_wp2_with fail
   refine (validMembers_any _ ms _ A B is (HEV.out.keep HF1.out) (HM.out.keep HF1.out) (fun i hi => HS.out i (by simp at hi ⊢; omega))).mono ?_
   rintro e w2 ⟨rfl, hf2⟩
   have k2 := row5 (hf2.heap HRB.out (by simp))
   have HF2 := Lib.hid (HF1.out.trans hf2)
   clear hf2 k1
   by_cases hz : membC ms = 0
   · have HR : Hid (ringC ⟨co, fo, ho, ms, es⟩ = entsC ms none es) := ringC_ents HHD.out HNN.out hz
     rw [hz, show ev A 0 = .nilIface from rfl]
     clear hz
     go_wp2_with fail
     refine (validEntries_any co fo ho ms es _ _ _ A B is (HEV.out.keep HF2.out) (HM.out.keep HF2.out) (HX.out.keep HF2.out) (by omega) HS.out).mono ?_
     rintro e w3 ⟨rfl, hf3⟩
     go_wp2
     go_ret
     exact ⟨by rw [HT.out, HR.out]; rfl, HF2.out.trans hf3⟩
   · have HR : Hid (ringC ⟨co, fo, ho, ms, es⟩ = membC ms) := ringC_memb HHD.out HNN.out hz
     have HEN := Lib.hid (ev_ne A hz)
     rw [ev_ne A hz]
     clear hz
     go_wp2
     go_ret
     exact ⟨by rw [HT.out, HR.out, HEN.out]; rfl, HF2.out⟩
 all_goals
  have HT := Lib.hid (HT0.out (by rintro ⟨q1, q2, q3⟩; simp_all))
  clear HT0
  go_enter Tryz.func115, Tryz.ntmps115
  go_wp2
  go_ret
  exact ⟨by rw [HT.out]; rfl, HF0.out⟩
def beatC (f : F) : Nat := if Kept f.li ∧ Kept f.se ∧ Zero f.rg then 0 else 3
theorem zero_iff (r : Rg) : Zero r ↔ r = zeroR := ⟨fun h => h.eq, fun h => by rw [h]; exact ⟨rfl, rfl, rfl, rfl, rfl⟩⟩
set_option maxHeartbeats 4000000 in
set_option maxRecDepth 100000 in
theorem validBeat_any (f : F) (vm ve : Value) (w : World) (A : Nat → Addr) (B : Nat) (is : List Nat) (hE : EV is w A B) (hm : Holds .i64 w vm f.rg.ms) (he : HE w ve f.rg.es) (hs : ∀ i ∈ [2], i ∈ is := by decide) :
 Calls Tryz.prog 114 #[frV f vm ve] w fun e w' => e = .returned (ev A (beatC f)) ∧ Fr w w' [] := by
 obtain ⟨ki, fr, dst, li, se, ou, ⟨co, fo, ho, ms, es⟩⟩ := f
 unfold frV
 simp only at hm he ⊢
 have HM := Lib.hid hm
 have HX := Lib.hid he
 have HF0 := Lib.hid (Fr.alloc w (.cells #[.int .i64 ki, .int .i64 fr, .int .i64 dst, .int .i64 li, .int .i64 se, .bool ou, .int .i64 co, .int .i64 fo, .int .i64 ho, vm, ve] 41) [])
 have HZ := Lib.hid (heap_alloc_new w (.cells #[.int .i64 ki, .int .i64 fr, .int .i64 dst, .int .i64 li, .int .i64 se, .bool ou, .int .i64 co, .int .i64 fo, .int .i64 ho, vm, ve] 41))
 have HEV := Lib.hid (hE.keep HF0.out)
 have HS := Lib.hid (hs 2 (by decide))
 have hR0 := (hE.keep HF0.out).range (hs 2 (by decide))
 clear hE hs hm he
 by_cases h1 : Kept li
 rotate_left
 · have HC := Lib.hid (no h1)
   have HT : Hid (beatC ⟨ki, fr, dst, li, se, ou, ⟨co, fo, ho, ms, es⟩⟩ = 3) := by show _ = _; unfold beatC; rw [if_neg (fun h => h1 h.1)]
   clear h1
   go_enter Tryz.func114, Tryz.ntmps114
   go_wp2_with fail
   refine (isKept_any _ _ HC.out _).mono ?_
   rintro e w1 ⟨rfl, rfl⟩
   go_wp2
   go_ret
   exact ⟨by rw [HT.out]; rfl, HF0.out⟩
 have HC := Lib.hid (yes h1)
 by_cases h2 : Kept se
 rotate_left
 · have HD := Lib.hid (no h2)
   have HT : Hid (beatC ⟨ki, fr, dst, li, se, ou, ⟨co, fo, ho, ms, es⟩⟩ = 3) := by show _ = _; unfold beatC; rw [if_neg (fun h => h2 h.2.1)]
   clear h1 h2
   go_enter Tryz.func114, Tryz.ntmps114
   go_wp2_with fail
   refine (isKept_any _ _ HC.out _).mono ?_
   rintro e w1 ⟨rfl, rfl⟩
   go_wp2_with fail
   refine (isKept_any _ _ HD.out _).mono ?_
   rintro e w1 ⟨rfl, rfl⟩
   go_wp2
   go_ret
   exact ⟨by rw [HT.out]; rfl, HF0.out⟩
 have HD := Lib.hid (yes h2)
 by_cases h3 : Zero ⟨co, fo, ho, ms, es⟩
 · have HG := Lib.hid ((zero_iff _).1 h3)
   have HT : Hid (beatC ⟨ki, fr, dst, li, se, ou, ⟨co, fo, ho, ms, es⟩⟩ = 0) := by show _ = _; unfold beatC; rw [if_pos ⟨h1, h2, h3⟩]
   clear h1 h2 h3 hR0
   go_enter Tryz.func114, Tryz.ntmps114
   go_wp2_with fail
   refine (isKept_any _ _ HC.out _).mono ?_
   rintro e w1 ⟨rfl, rfl⟩
   go_wp2_with fail
   refine (isKept_any _ _ HD.out _).mono ?_
   rintro e w1 ⟨rfl, rfl⟩
   go_wp2_with fail
   refine (sameRing_any ⟨co, fo, ho, ms, es⟩ zeroR vm ve _ _ true (iyes HG.out) _ (HM.out.keep HF0.out) (HX.out.keep HF0.out) (nil_ints _) nil_ents).mono ?_
   rintro e w2 ⟨rfl, hf2⟩
   go_wp2
   go_ret
   exact ⟨by rw [HT.out]; rfl, HF0.out.trans hf2⟩
 · have HG := Lib.hid (fun q => h3 ((zero_iff _).2 q))
   have HT : Hid (beatC ⟨ki, fr, dst, li, se, ou, ⟨co, fo, ho, ms, es⟩⟩ = 3) := by show _ = _; unfold beatC; rw [if_neg (fun h => h3 h.2.2)]
   clear h1 h2 h3 hR0
   go_enter Tryz.func114, Tryz.ntmps114
   go_wp2_with fail
   refine (isKept_any _ _ HC.out _).mono ?_
   rintro e w1 ⟨rfl, rfl⟩
   go_wp2_with fail
   refine (isKept_any _ _ HD.out _).mono ?_
   rintro e w1 ⟨rfl, rfl⟩
   go_wp2_with fail
   refine (sameRing_any ⟨co, fo, ho, ms, es⟩ zeroR vm ve _ _ false (ino HG.out) _ (HM.out.keep HF0.out) (HX.out.keep HF0.out) (nil_ints _) nil_ents).mono ?_
   rintro e w2 ⟨rfl, hf2⟩
   have hR := (HEV.out.keep hf2).range HS.out
   go_wp2
   go_ret
   exact ⟨by rw [HT.out]; rfl, HF0.out.trans hf2⟩
theorem frameC_kind {f : F} (h : ¬ (f.ki = 1 ∨ f.ki = 2)) : frameC f = 7 := by unfold frameC; rw [if_pos h]
theorem frameC_car {f : F} (h : f.ki = 1 ∨ f.ki = 2) (h2 : ¬ (Car f.fr ∧ Car f.dst)) : frameC f = 3 := by unfold frameC; rw [if_neg (fun q => q h), if_pos h2]
theorem frameC_beat {f : F} (h : f.ki = 1) (h2 : Car f.fr ∧ Car f.dst) : frameC f = beatC f := by unfold frameC; rw [if_neg (fun q => q (.inl h)), if_neg (fun q => q h2), if_pos h]; rfl
theorem frameC_token {f : F} (h : f.ki = 2) (h2 : Car f.fr ∧ Car f.dst) : frameC f = tokenC f := by unfold frameC; rw [if_neg (fun q => q (.inr h)), if_neg (fun q => q h2), if_neg (by omega)]; rfl
set_option maxHeartbeats 4000000 in
set_option maxRecDepth 100000 in
theorem valid_frame (f : F) (vm ve : Value) (w : World) (A : Nat → Addr) (B : Nat) (is : List Nat) (hE : EV is w A B) (hm : Holds .i64 w vm f.rg.ms) (he : HE w ve f.rg.es) (hs : ∀ i ∈ [2, 3, 6, 10], i ∈ is := by decide) :
 Calls Tryz.prog 54 #[frV f vm ve] w fun e w' => e = .returned (ev A (frameC f)) ∧ Fr w w' [] := by
 obtain ⟨ki, fr, dst, li, se, ou, ⟨co, fo, ho, ms, es⟩⟩ := f
 unfold frV
 simp only at hm he ⊢
 have HM := Lib.hid hm
 have HX := Lib.hid he
 have HF0 := Lib.hid (Fr.alloc w (.cells #[.int .i64 ki, .int .i64 fr, .int .i64 dst, .int .i64 li, .int .i64 se, .bool ou, .int .i64 co, .int .i64 fo, .int .i64 ho, vm, ve] 41) [])
 have HZ := Lib.hid (heap_alloc_new w (.cells #[.int .i64 ki, .int .i64 fr, .int .i64 dst, .int .i64 li, .int .i64 se, .bool ou, .int .i64 co, .int .i64 fo, .int .i64 ho, vm, ve] 41))
 have HEV := Lib.hid (hE.keep HF0.out)
 have HS := Lib.hid hs
 clear hE hs hm he
 by_cases hk : ki = 1 ∨ ki = 2
 rotate_left
 · have HC := Lib.hid (no hk)
   have HT : Hid (frameC ⟨ki, fr, dst, li, se, ou, ⟨co, fo, ho, ms, es⟩⟩ = 7) := frameC_kind hk
   have hR := HEV.out.kind (HS.out 6 (by decide))
   clear hk
   go_enter Tryz.func54, Tryz.ntmps54
   go_wp2_with fail
   refine (isKind_any _ _ HC.out _).mono ?_
   rintro e w1 ⟨rfl, rfl⟩
   go_wp2
   go_ret
   exact ⟨by rw [HT.out]; rfl, HF0.out⟩
 have HC := Lib.hid (yes hk)
 by_cases h1 : Car fr
 rotate_left
 · have HD := Lib.hid (no h1)
   have HT : Hid (frameC ⟨ki, fr, dst, li, se, ou, ⟨co, fo, ho, ms, es⟩⟩ = 3) := frameC_car hk (fun h => h1 h.1)
   have hR := HEV.out.range (HS.out 2 (by decide))
   clear hk h1
   go_enter Tryz.func54, Tryz.ntmps54
   go_wp2_with fail
   refine (isKind_any _ _ HC.out _).mono ?_
   rintro e w1 ⟨rfl, rfl⟩
   go_wp2_with fail
   refine (isCar_any _ _ HD.out _).mono ?_
   rintro e w1 ⟨rfl, rfl⟩
   go_wp2
   go_ret
   exact ⟨by rw [HT.out]; rfl, HF0.out⟩
 have HD := Lib.hid (yes h1)
 by_cases h2 : Car dst
 rotate_left
 · have HG := Lib.hid (no h2)
   have HT : Hid (frameC ⟨ki, fr, dst, li, se, ou, ⟨co, fo, ho, ms, es⟩⟩ = 3) := frameC_car hk (fun h => h2 h.2)
   have hR := HEV.out.range (HS.out 2 (by decide))
   clear hk h1 h2
   go_enter Tryz.func54, Tryz.ntmps54
   go_wp2_with fail
   refine (isKind_any _ _ HC.out _).mono ?_
   rintro e w1 ⟨rfl, rfl⟩
   go_wp2_with fail
   refine (isCar_any _ _ HD.out _).mono ?_
   rintro e w1 ⟨rfl, rfl⟩
   go_wp2_with fail
   refine (isCar_any _ _ HG.out _).mono ?_
   rintro e w1 ⟨rfl, rfl⟩
   go_wp2
   go_ret
   exact ⟨by rw [HT.out]; rfl, HF0.out⟩
 have HG := Lib.hid (yes h2)
 have hcK : (ki = 1) ∨ (ki = 2) := hk
 rcases hcK with hk1 | hk2
 · have HT : Hid (frameC ⟨ki, fr, dst, li, se, ou, ⟨co, fo, ho, ms, es⟩⟩ = beatC ⟨ki, fr, dst, li, se, ou, ⟨co, fo, ho, ms, es⟩⟩) := frameC_beat hk1 ⟨h1, h2⟩
   have e1 : (ki == 1) = true := by simp [hk1]
   clear hk h1 h2 hk1
   go_enter Tryz.func54, Tryz.ntmps54
   go_wp2_with fail
   refine (isKind_any _ _ HC.out _).mono ?_
   rintro e w1 ⟨rfl, rfl⟩
   go_wp2_with fail
   refine (isCar_any _ _ HD.out _).mono ?_
   rintro e w1 ⟨rfl, rfl⟩
   go_wp2_with fail
   refine (isCar_any _ _ HG.out _).mono ?_
   rintro e w1 ⟨rfl, rfl⟩
   go_wp2_with fail
   refine (validBeat_any ⟨ki, fr, dst, li, se, ou, ⟨co, fo, ho, ms, es⟩⟩ vm ve _ A B is HEV.out (HM.out.keep HF0.out) (HX.out.keep HF0.out) (fun i hi => HS.out i (by simp at hi ⊢; omega))).mono ?_
   rintro e w2 ⟨rfl, hf2⟩
   go_wp2
   go_ret
   exact ⟨by rw [HT.out]; rfl, HF0.out.trans hf2⟩
 · have HT : Hid (frameC ⟨ki, fr, dst, li, se, ou, ⟨co, fo, ho, ms, es⟩⟩ = tokenC ⟨ki, fr, dst, li, se, ou, ⟨co, fo, ho, ms, es⟩⟩) := frameC_token hk2 ⟨h1, h2⟩
   have e1 : (ki == 1) = false := by simp [hk2]
   clear hk h1 h2 hk2
   go_enter Tryz.func54, Tryz.ntmps54
   go_wp2_with fail
   refine (isKind_any _ _ HC.out _).mono ?_
   rintro e w1 ⟨rfl, rfl⟩
   go_wp2_with fail
   refine (isCar_any _ _ HD.out _).mono ?_
   rintro e w1 ⟨rfl, rfl⟩
   go_wp2_with fail
   refine (isCar_any _ _ HG.out _).mono ?_
   rintro e w1 ⟨rfl, rfl⟩
   go_wp2_with fail
   refine (validToken_any ⟨ki, fr, dst, li, se, ou, ⟨co, fo, ho, ms, es⟩⟩ vm ve _ A B is HEV.out (HM.out.keep HF0.out) (HX.out.keep HF0.out) (fun i hi => HS.out i (by simp at hi ⊢; omega))).mono ?_
   rintro e w2 ⟨rfl, hf2⟩
   go_wp2
   go_ret
   exact ⟨by rw [HT.out]; rfl, HF0.out.trans hf2⟩
end Go.Proofs.YtiflmkicnkbeaaaGreatDoor
