/- Rings as plain data: which may be. No program. What a slice of entries, a ring hold; rows of entries of the own call. A region that draws its order and ends with one operation that waits for all others (a store into what was read): all but it by XDet's walk, it by itself, behind them. A region that draws its order, holds calls that make memory, and ends with one operation that waits for all others (a store into what was read): the kit's walk of held cells for all but it, it by itself behind them, with nothing to be held. The document's bids: one more by cars. The document's copies of an entry, of a ring. Slices of integers: as arguments; their form. The document's copy of a ring; a ring in a box of the call's own. 'append([]T(nil), xs...)': a row of the call's own, or none. Package ledger: an entry's copy. -/
import Derived.Test.YtldheaamcnmlgaaGLa
import Derived.Deep.RegionHeld
import Derived.Deep.DeepCutAuto
import Derived.Lib.AppendZerosOnto
import Derived.Deep.Upon
namespace Go.Proofs.Ytldheaamcnmlgaa
namespace Fm
open Go.RowKit
structure En where
  fl : Int
  di : Int
  ge : Int
  bs : List (Int × Int)
  aw : Int
structure Rg where
  co : Int
  fo : Int
  ho : Int
  ms : List Int
  es : List En
theorem En.ext' {a b : En} (h1 : a.fl = b.fl) (h2 : a.di = b.di) (h3 : a.ge = b.ge) (h4 : a.bs = b.bs) (h5 : a.aw = b.aw) : a = b := by
  cases a; cases b; simp only at *; subst h1 h2 h3 h4 h5; rfl
theorem Rg.ext' {a b : Rg} (h1 : a.co = b.co) (h2 : a.fo = b.fo) (h3 : a.ho = b.ho) (h4 : a.ms = b.ms) (h5 : a.es = b.es) : a = b := by
  cases a; cases b; simp only at *; subst h1 h2 h3 h4 h5; rfl
def zeroE : En := ⟨0, 0, 0, [], 0⟩
def zeroR : Rg := ⟨0, 0, 0, [], []⟩
def Car (n : Int) : Prop := 0 ≤ n ∧ n < 16
instance (n : Int) : Decidable (Car n) := by unfold Car; exact inferInstance
def Rise (l : List Int) : Prop := ∀ i, i < l.length - 1 → l.getD i 0 < l.getD (i + 1) 0
instance (l : List Int) : Decidable (Rise l) := by unfold Rise; exact inferInstance
def BidsOk (ms : List Int) (bs : List (Int × Int)) : Prop := ∀ b ∈ bs, b.1 ∈ ms ∧ 0 ≤ b.2 ∧ b.2 ≤ 1048576
instance (ms : List Int) (bs : List (Int × Int)) : Decidable (BidsOk ms bs) := by unfold BidsOk; exact inferInstance
def bidsC (ms : List Int) (bs : List (Int × Int)) : Nat :=
  if ms.length < bs.length then 4 else if ¬ BidsOk ms bs then 3 else if ¬ Rise (bs.map (·.1)) then 11 else 0
def LatchOk (e : En) : Prop := 0 ≤ e.fl ∧ e.fl < 64 ∧ (e.di = 1 ∨ e.di = -1) ∧ 1 ≤ e.ge ∧ e.ge ≤ 2147483647
instance (e : En) : Decidable (LatchOk e) := by unfold LatchOk; exact inferInstance
/-- The calls' order. -/
def Less (a b : En) : Prop := a.fl < b.fl ∨ a.fl = b.fl ∧ a.di < b.di
instance (a b : En) : Decidable (Less a b) := by unfold Less; exact inferInstance
def After : Option En → En → Prop
  | none, _ => True
  | some q, e => Less q e
instance (p : Option En) (e : En) : Decidable (After p e) := by cases p <;> (unfold After; exact inferInstance)
def entC (ms : List Int) (p : Option En) (e : En) : Nat :=
  if ¬ (LatchOk e ∧ (e.aw = -1 ∨ e.aw ∈ ms)) then 3 else if ¬ After p e then 11 else bidsC ms e.bs
def entsC (ms : List Int) : Option En → List En → Nat
  | _, [] => 0
  | p, e :: es => if entC ms p e = 0 then entsC ms (some e) es else entC ms p e
def HeadOk (r : Rg) : Prop := (1 ≤ r.co ∧ r.co ≤ 4294967295 ∧ 0 ≤ r.fo ∧ r.fo < 16) ∧ 0 ≤ r.ho ∧ r.ho ≤ 1099511627776
instance (r : Rg) : Decidable (HeadOk r) := by unfold HeadOk; exact inferInstance
def membC (ms : List Int) : Nat := if ¬ (∀ m ∈ ms, Car m) then 3 else if ¬ Rise ms then 11 else 0
def ringC (r : Rg) : Nat :=
  if ¬ HeadOk r then 3 else if 16 < r.ms.length ∨ r.ms.length = 0 ∨ 128 < r.es.length then 4
  else if membC r.ms = 0 then entsC r.ms none r.es else membC r.ms
/-- What of an entry is asked, that it be read. -/
def EnOk (m : Int) (e : En) : Prop := (0 ≤ e.fl ∧ e.fl ≤ 63) ∧ (-1 ≤ e.di ∧ e.di ≤ 1) ∧ (1 ≤ e.ge ∧ e.ge ≤ 2147483647) ∧ (-1 ≤ e.aw ∧ e.aw ≤ 15) ∧ (e.bs.length : Int) ≤ m ∧ ∀ b ∈ e.bs, (0 ≤ b.1 ∧ b.1 ≤ 15) ∧ 0 ≤ b.2 ∧ b.2 ≤ 1048576
def RgOk (r : Rg) : Prop := (1 ≤ r.co ∧ r.co ≤ 4294967295) ∧ (0 ≤ r.fo ∧ r.fo ≤ 15) ∧ (0 ≤ r.ho ∧ r.ho ≤ 1099511627776) ∧ r.ms.length ≤ 16 ∧ (∀ m ∈ r.ms, 0 ≤ m ∧ m ≤ 15) ∧ r.es.length ≤ 128 ∧ ∀ e ∈ r.es, EnOk (r.ms.length : Int) e
theorem entsC_ok (ms : List Int) (hms : ∀ m ∈ ms, Car m) : ∀ (p : Option En) (es : List En), entsC ms p es = 0 → ∀ e ∈ es, EnOk (ms.length : Int) e
  | _, [], _ => by simp
  | p, e :: es, h => by
    unfold entsC at h
    split at h
    · next h0 =>
      intro x hx
      rcases List.mem_cons.1 hx with rfl | hx
      · unfold entC at h0
        split at h0
        · cases h0
        · next h1 =>
          split at h0
          · cases h0
          · unfold bidsC at h0
            split at h0
            · cases h0
            · next h3 =>
              split at h0
              · cases h0
              · next h4 =>
                obtain ⟨⟨a1, a2, a3, a4, a5⟩, a6⟩ := Classical.not_not.1 h1
                have h4 := Classical.not_not.1 h4
                refine ⟨⟨a1, by omega⟩, ⟨by omega, by omega⟩, ⟨a4, a5⟩, ?_, by omega, fun b hb => ?_⟩
                · rcases a6 with a6 | a6
                  · omega
                  · have := hms _ a6; unfold Car at this; omega
                · obtain ⟨c1, c2, c3⟩ := h4 b hb
                  have := hms _ c1
                  unfold Car at this
                  exact ⟨by omega, c2, c3⟩
      · exact entsC_ok ms hms (some e) es h x hx
    · next h0 => exact absurd h h0
theorem ringC_ok {r : Rg} (h : ringC r = 0) : RgOk r := by
  unfold ringC at h
  split at h
  · cases h
  · next h1 =>
    split at h
    · cases h
    · next h2 =>
      obtain ⟨⟨a1, a2, a3, a4⟩, a5, a6⟩ := Classical.not_not.1 h1
      split at h
      · next h3 =>
        unfold membC at h3
        split at h3
        · cases h3
        · next h4 =>
          have h4 := Classical.not_not.1 h4
          exact ⟨⟨a1, a2⟩, ⟨a3, by omega⟩, ⟨a5, a6⟩, by omega, fun m hm => by have := h4 m hm; unfold Car at this; omega, by omega, entsC_ok _ h4 _ _ h⟩
      · next h3 => exact absurd h h3
end Fm
end Go.Proofs.Ytldheaamcnmlgaa

namespace Go.Proofs.Ytldheaamcnmlgaa
open Go.RowKit Fm
/-- The slice v holds the entries. -/
def HE (w : World) (v : Value) (l : List En) : Prop :=
  ∃ a cap, v = .slice a l.length cap ∧ (l.length ≤ cap ∧ (a = none → cap = 0)) ∧ cap ≤ maxLen ∧ (0 < l.length → ∃ b off, a = some ⟨b, off, none⟩ ∧ ∀ i, i < l.length → ∃ vb,
    w.cell? ⟨b, off + i * 5, none⟩ = some (.int .i64 (l.getD i zeroE).fl) ∧ w.cell? ⟨b, off + i * 5 + 1, none⟩ = some (.int .i64 (l.getD i zeroE).di) ∧
    w.cell? ⟨b, off + i * 5 + 2, none⟩ = some (.int .i64 (l.getD i zeroE).ge) ∧ w.cell? ⟨b, off + i * 5 + 3, none⟩ = some vb ∧
    w.cell? ⟨b, off + i * 5 + 4, none⟩ = some (.int .i64 (l.getD i zeroE).aw) ∧ HB w vb (l.getD i zeroE).bs)
/-- An entry, a ring, a frame by value. -/
def enV (e : En) (vb : Value) : Value := .agg #[.int .i64 e.fl, .int .i64 e.di, .int .i64 e.ge, vb, .int .i64 e.aw]
def rgV (r : Rg) (vm ve : Value) : Value := .agg #[.int .i64 r.co, .int .i64 r.fo, .int .i64 r.ho, vm, ve]
theorem HE.shape {w : World} {v : Value} {l : List En} (h : HE w v l) : ∃ a cap, v = .slice a l.length cap := by
  obtain ⟨a, cap, h, _⟩ := h; exact ⟨a, cap, h⟩
theorem HE.keep {w w' : World} {v : Value} {l : List En} (h : HE w v l) (hg : Fr w w' []) : HE w' v l := by
  obtain ⟨a, cap, rfl, h1, h2, h3⟩ := h
  refine ⟨a, cap, rfl, h1, h2, fun h0 => ?_⟩
  obtain ⟨b, off, rfl, hc⟩ := h3 h0
  refine ⟨b, off, rfl, fun i hi => ?_⟩
  obtain ⟨vb, c0, c1, c2, c3, c4, hb⟩ := hc i hi
  exact ⟨vb, hg.cell c0 (by simp), hg.cell c1 (by simp), hg.cell c2 (by simp), hg.cell c3 (by simp), hg.cell c4 (by simp), hb.keep hg⟩
theorem nil_ents {w : World} : HE w (.slice none 0 0) [] := ⟨none, 0, rfl, by simp, by decide, fun h => absurd h (by simp)⟩

theorem row5 {w : World} {g : Nat} {a b c d e : Value} {T : TypeId} (h : w.heap[g]? = some (.cells #[a, b, c, d, e] T (0, 0))) :
    w.cell? ⟨g, 0, none⟩ = some a ∧ w.cell? ⟨g, 1, none⟩ = some b ∧ w.cell? ⟨g, 2, none⟩ = some c ∧ w.cell? ⟨g, 3, none⟩ = some d ∧ w.cell? ⟨g, 4, none⟩ = some e :=
  ⟨by rw [cell_of_row w g 0 _ _ _ h]; rfl, by rw [cell_of_row w g 1 _ _ _ h]; rfl, by rw [cell_of_row w g 2 _ _ _ h]; rfl, by rw [cell_of_row w g 3 _ _ _ h]; rfl, by rw [cell_of_row w g 4 _ _ _ h]; rfl⟩
theorem two_boxes (w : World) (o1 o2 : Obj) : ((w.alloc o1).alloc o2).heap[w.heap.size]? = some o1 ∧ ((w.alloc o1).alloc o2).heap[w.heap.size + 1]? = some o2 := by
  refine ⟨(Fr.alloc (w.alloc o1) o2 []).heap (heap_alloc_new w o1) (by simp), ?_⟩
  have h := heap_alloc_new (w.alloc o1) o2
  rwa [show (w.alloc o1).heap.size = w.heap.size + 1 by simp] at h
/-- The cells of entries, each with its slice of bids. -/
def enc1 (x : En × Value) : List Value := [.int .i64 x.1.fl, .int .i64 x.1.di, .int .i64 x.1.ge, x.2, .int .i64 x.1.aw]
def encs (xs : List (En × Value)) : List Value := xs.flatMap enc1
theorem encs_get (xs : List (En × Value)) (i : Nat) (x : En × Value) (h : xs[i]? = some x) : (encs xs)[i * 5]? = some (.int .i64 x.1.fl) ∧ (encs xs)[i * 5 + 1]? = some (.int .i64 x.1.di) ∧ (encs xs)[i * 5 + 2]? = some (.int .i64 x.1.ge) ∧ (encs xs)[i * 5 + 3]? = some x.2 ∧ (encs xs)[i * 5 + 4]? = some (.int .i64 x.1.aw) := by
  induction xs generalizing i with
  | nil => simp at h
  | cons b l ih =>
    cases i with
    | zero =>
      simp at h
      subst h
      simp [encs, enc1]
    | succ i =>
      have h' : l[i]? = some x := by simpa using h
      have := ih i h'
      have e : encs (b :: l) = .int .i64 b.1.fl :: .int .i64 b.1.di :: .int .i64 b.1.ge :: b.2 :: .int .i64 b.1.aw :: encs l := by simp [encs, enc1]
      rw [e, show (i + 1) * 5 = i * 5 + 1 + 1 + 1 + 1 + 1 by omega]
      simpa using this
/-- A row of entries of the call's own, each with bids of its own. -/
def OwnE (w : World) (B : Nat) (v : Value) (xs : List (En × Value)) : Prop := w.ownsRow B 40 5 v xs.length (encs xs) ∧ ∀ x ∈ xs, OwnB w B x.2 x.1.bs
theorem OwnE.he {w : World} {B : Nat} {v : Value} {xs : List (En × Value)} (h : OwnE w B v xs) : HE w v (xs.map (·.1)) := by
  rcases h.1.2 with ⟨rfl, h0⟩ | ⟨g, cap, cur, rfl, hb, hg, hn, hm, hs, ht⟩
  · obtain rfl := List.eq_nil_of_length_eq_zero h0
    exact nil_ents
  · refine ⟨_, cap, by rw [List.length_map], ⟨by rw [List.length_map]; exact hn, by simp⟩, hm, fun _ => ⟨g, 0, rfl, fun i hi => ?_⟩⟩
    rw [List.length_map] at hi
    have hx : xs[i]? = some xs[i] := List.getElem?_eq_getElem hi
    have key : ∀ j u, (encs xs)[j]? = some u → w.cell? ⟨g, j, none⟩ = some u := fun j u hj => by
      rw [← ht] at hj
      have hlt : j < xs.length * 5 := by
        have := (List.getElem?_eq_some_iff.1 hj).1
        simp at this; omega
      rw [List.getElem?_take_of_lt hlt] at hj
      rw [cell_of_row w g j _ _ _ hg]
      simpa using hj
    obtain ⟨c0, c1, c2, c3, c4⟩ := encs_get xs i _ hx
    have e : (xs.map (·.1)).getD i zeroE = xs[i].1 := by simp [hi]
    rw [e, Nat.zero_add]
    exact ⟨xs[i].2, key _ _ c0, key _ _ c1, key _ _ c2, key _ _ c3, key _ _ c4, (h.2 _ (List.getElem_mem hi)).holds⟩
theorem OwnE.fr {w w' : World} {B : Nat} {v : Value} {xs : List (En × Value)} (h : OwnE w B v xs) {S : List Nat} (hg : Fr w w' S) (hS : ∀ r ∈ S, ∃ cs T, w.heap[r]? = some (.cells cs T (0, 0)) ∧ T ≠ 40 ∧ T ≠ 42) : OwnE w' B v xs :=
  ⟨row_fr h.1 hg (fun r hr => by obtain ⟨cs, T, hc, h1, h2⟩ := hS r hr; exact row_ne h.1 hc h1), fun x hx => row_fr (h.2 x hx) hg (fun r hr => by obtain ⟨cs, T, hc, h1, h2⟩ := hS r hr; exact row_ne (h.2 x hx) hc h2)⟩
theorem OwnE.mono {w : World} {B B' : Nat} {v : Value} {xs : List (En × Value)} (h : OwnE w B v xs) (hB : B' ≤ B) : OwnE w B' v xs := ⟨row_mono h.1 hB, fun x hx => row_mono (h.2 x hx) hB⟩
theorem list_of' {α : Type} (d : α) (Q : Nat → α → Prop) : ∀ n, (∀ i, i < n → ∃ a, Q i a) → ∃ l : List α, l.length = n ∧ ∀ i, i < n → Q i (l.getD i d)
  | 0, _ => ⟨[], rfl, fun i hi => by omega⟩
  | n + 1, h => by
    obtain ⟨l, hl, hq⟩ := list_of' d Q n (fun i hi => h i (by omega))
    obtain ⟨a, ha⟩ := h n (by omega)
    refine ⟨l ++ [a], by simp [hl], fun i hi => ?_⟩
    by_cases e : i = n
    · subst e
      have : (l ++ [a]).getD i d = a := by simp [List.getD, ← hl]
      rw [this]; exact ha
    · have : (l ++ [a]).getD i d = l.getD i d := by simp [List.getD, List.getElem?_append_left (show i < l.length by omega)]
      rw [this]; exact hq i (by omega)

theorem encs_len (l : List (En × Value)) : (encs l).length = l.length * 5 := by
  induction l with
  | nil => rfl
  | cons b l ih => simp only [encs, enc1, List.flatMap_cons, List.length_append, List.length_cons, List.length_nil] at *; omega
theorem encs_one (l : List (En × Value)) (h : ∀ x ∈ l, x.2.oneCell' = true) : ∀ u ∈ encs l, u.oneCell' = true := by
  intro u hu
  obtain ⟨b, hb0, hb⟩ := List.mem_flatMap.1 hu
  simp only [enc1, List.mem_cons, List.not_mem_nil, or_false] at hb
  rcases hb with rfl | rfl | rfl | rfl | rfl <;> first | rfl | exact h _ hb0
/-- The slice v holds the entries, by their cells. -/
def HX (w : World) (v : Value) (xs : List (En × Value)) : Prop :=
  ∃ a cap, v = .slice a xs.length cap ∧ xs.length ≤ cap ∧ cap ≤ maxLen ∧ (a = none → xs = []) ∧ (∀ x, a = some x → ∀ j u, (encs xs)[j]? = some u → w.cell? (x.add j) = some u) ∧ ∀ x ∈ xs, HB w x.2 x.1.bs
theorem HE.hx {w : World} {v : Value} {l : List En} (h : HE w v l) : ∃ xs, xs.map (·.1) = l ∧ HX w v xs := by
  obtain ⟨a, cap, rfl, h1, h2, h3⟩ := h
  by_cases h0 : 0 < l.length
  · obtain ⟨b, off, rfl, hc⟩ := h3 h0
    obtain ⟨vs, hvs, hq⟩ := list_of' (.bool false) (fun i vb => w.cell? ⟨b, off + i * 5, none⟩ = some (.int .i64 (l.getD i zeroE).fl) ∧ w.cell? ⟨b, off + i * 5 + 1, none⟩ = some (.int .i64 (l.getD i zeroE).di) ∧
      w.cell? ⟨b, off + i * 5 + 2, none⟩ = some (.int .i64 (l.getD i zeroE).ge) ∧ w.cell? ⟨b, off + i * 5 + 3, none⟩ = some vb ∧
      w.cell? ⟨b, off + i * 5 + 4, none⟩ = some (.int .i64 (l.getD i zeroE).aw) ∧ HB w vb (l.getD i zeroE).bs) l.length hc
    have hget : ∀ i, i < l.length → (l.zip vs)[i]? = some (l.getD i zeroE, vs.getD i (.bool false)) := by
      intro i hi
      simp [List.getElem?_zip_eq_some, hi, show i < vs.length by omega]
    have hlen : (l.zip vs).length = l.length := by simp [hvs]
    refine ⟨l.zip vs, by simp [List.map_fst_zip, hvs], some ⟨b, off, none⟩, cap, by rw [hlen], by rw [hlen]; exact h1.1, h2, (by simp), ?_, ?_⟩
    · intro x hx j u hj
      obtain rfl := Option.some.inj hx
      obtain ⟨hlt, _⟩ := List.getElem?_eq_some_iff.1 hj
      rw [encs_len, hlen] at hlt
      have hi : j / 5 < l.length := by omega
      obtain ⟨g0, g1, g2, g3, g4⟩ := encs_get _ (j / 5) _ (hget _ hi)
      obtain ⟨c0, c1, c2, c3, c4, _⟩ := hq (j / 5) hi
      rw [show (⟨b, off, none⟩ : Addr).add j = ⟨b, off + j, none⟩ by simp [Addr.add]]
      simp only [Nat.add_assoc] at c1 c2 c3 c4
      rcases (by omega : j = j / 5 * 5 ∨ j = j / 5 * 5 + 1 ∨ j = j / 5 * 5 + 2 ∨ j = j / 5 * 5 + 3 ∨ j = j / 5 * 5 + 4) with e | e | e | e | e
      · rw [← e] at g0 c0; rw [hj] at g0; rw [c0, g0]
      · rw [← e] at g1 c1; rw [hj] at g1; rw [c1, g1]
      · rw [← e] at g2 c2; rw [hj] at g2; rw [c2, g2]
      · rw [← e] at g3 c3; rw [hj] at g3; rw [c3, g3]
      · rw [← e] at g4 c4; rw [hj] at g4; rw [c4, g4]
    · intro x hx
      obtain ⟨i, hi⟩ := List.getElem?_of_mem hx
      have hil : i < l.length := by have := (List.getElem?_eq_some_iff.1 hi).1; omega
      rw [hget i hil] at hi
      obtain rfl := Option.some.inj hi
      exact (hq i hil).2.2.2.2.2
  · obtain rfl : l = [] := List.eq_nil_of_length_eq_zero (by omega)
    exact ⟨[], rfl, a, cap, rfl, h1.1, h2, fun _ => rfl, fun x _ j u hj => by simp [encs] at hj, fun x hx => by simp at hx⟩

theorem HX.keep {w w' : World} {v : Value} {xs : List (En × Value)} (h : HX w v xs) (hg : Fr w w' []) : HX w' v xs := by
  obtain ⟨a, cap, rfl, h1, h2, h3, h4, h5⟩ := h
  exact ⟨a, cap, rfl, h1, h2, h3, fun x hx j u hj => hg.cell (h4 x hx j u hj) (by simp), fun x hx => (h5 x hx).keep hg⟩
theorem HX.bids {w : World} {v : Value} {xs : List (En × Value)} (h : HX w v xs) : ∀ x ∈ xs, HB w x.2 x.1.bs := by
  obtain ⟨a, cap, rfl, h1, h2, h3, h4, h5⟩ := h
  exact h5
theorem encs_set (ys : List (En × Value)) (k : Nat) (x : En × Value) (u : Value) (h : ys[k]? = some x) : encs (ys.set k (x.1, u)) = (encs ys).set (k * 5 + 3) u := by
  induction ys generalizing k with
  | nil => simp at h
  | cons b l ih =>
    have e : encs (b :: l) = .int .i64 b.1.fl :: .int .i64 b.1.di :: .int .i64 b.1.ge :: b.2 :: .int .i64 b.1.aw :: encs l := by simp [encs, enc1]
    cases k with
    | zero =>
      simp at h
      subst h
      simp [encs, enc1]
    | succ k =>
      have h' : l[k]? = some x := by simpa using h
      have := ih k h'
      have e2 : encs (b :: l.set k (x.1, u)) = .int .i64 b.1.fl :: .int .i64 b.1.di :: .int .i64 b.1.ge :: b.2 :: .int .i64 b.1.aw :: encs (l.set k (x.1, u)) := by simp [encs, enc1]
      rw [List.set_cons_succ, e2, this, e, show (k + 1) * 5 + 3 = (k * 5 + 3) + 1 + 1 + 1 + 1 + 1 by omega]
      simp
theorem fst_set (ys : List (En × Value)) (k : Nat) (x : En × Value) (u : Value) (h : ys[k]? = some x) : (ys.set k (x.1, u)).map (·.1) = ys.map (·.1) := by
  rw [List.map_set]
  apply List.ext_getElem?
  intro i
  by_cases e : i = k
  · subst e
    obtain ⟨hl, hv⟩ := List.getElem?_eq_some_iff.1 h
    simp [hl, hv]
  · rw [List.getElem?_set_ne (Ne.symm e)]
theorem OwnE.keep {w w' : World} {B : Nat} {v : Value} {xs : List (En × Value)} (h : OwnE w B v xs) (hg : Fr w w' []) : OwnE w' B v xs := h.fr hg (by simp)
theorem OwnE.nil (w : World) (B : Nat) : OwnE w B (.slice none 0 0) [] := ⟨⟨rfl, .inl ⟨rfl, rfl⟩⟩, by simp⟩
theorem OwnE.shape {w : World} {B : Nat} {v : Value} {xs : List (En × Value)} (h : OwnE w B v xs) : ∃ a c, v = .slice a xs.length c := row_shape h.1
theorem OwnE.block {w : World} {B : Nat} {v : Value} {xs : List (En × Value)} (h : OwnE w B v xs) : ∀ r, v.ownBlock = some r → B ≤ r ∧ r < w.heap.size := World.ownsRow.lt h.1
theorem infoE : (Try.prog.info? 40).map (fun i => (i.zero, i.size, i.bytes)) = some (some (.agg #[.int .i64 0, .int .i64 0, .int .i64 0, .slice none 0 0, .int .i64 0]), 5, 56) := by kernel_rfl
/-- One more, by an append: its bids are another row's. -/
theorem OwnE.snoc {w w' : World} {B : Nat} {v v' : Value} {xs : List (En × Value)} {x : En × Value} (h : OwnE w B v xs) (hx : OwnB w B x.2 x.1.bs) (hr : w'.ownsRow B 40 5 v' (xs.length + 1) (encs xs ++ enc1 x)) (hg : w.grownBy w' v.ownBlock) : OwnE w' B v' (xs ++ [x]) := by
  have key : ∀ y : En × Value, OwnB w B y.2 y.1.bs → OwnB w' B y.2 y.1.bs := fun y hy => by
    rcases hv : v.ownBlock with _ | g
    · rw [hv] at hg
      exact hy.keep (Fr.of_grown hg [])
    · rw [hv] at hg
      refine row_fr hy (Fr.of_grown_row hg (S := [g]) (by simp)) (fun r hr => ?_)
      obtain rfl := List.mem_singleton.1 hr
      rcases h.1.2 with ⟨h1, _⟩ | ⟨g', cap, cur, h1, _, hgg, _⟩
      · rw [h1] at hv; simp [Value.ownBlock] at hv
      · rw [h1] at hv
        obtain rfl : g' = r := by simpa [Value.ownBlock] using hv
        exact row_ne hy hgg (by decide)
  refine ⟨?_, fun y hy => ?_⟩
  · have e : encs (xs ++ [x]) = encs xs ++ enc1 x := by simp [encs]
    rw [e, List.length_append]
    exact hr
  · rcases List.mem_append.1 hy with hy | hy
    · exact key y (h.2 y hy)
    · obtain rfl : y = x := by simpa using hy
      exact key y hx
theorem encs_at (ys : List (En × Value)) (k : Nat) (x y : En × Value) (h : ys[k]? = some x) (o : Nat) (u : Value) (ho : o < 5) (he : enc1 y = (enc1 x).set o u) : encs (ys.set k y) = (encs ys).set (k * 5 + o) u := by
  induction ys generalizing k with
  | nil => simp at h
  | cons a l ih =>
    have e : ∀ (b : En × Value) (m : List (En × Value)), encs (b :: m) = enc1 b ++ encs m := fun b m => by simp [encs]
    have l5 : ∀ b : En × Value, (enc1 b).length = 5 := fun b => rfl
    cases k with
    | zero =>
      simp at h
      subst h
      rw [List.set_cons_zero, e, e, he, Nat.zero_mul, Nat.zero_add, List.set_append_left _ _ (by rw [l5]; omega)]
    | succ k =>
      rw [List.set_cons_succ, e, e, ih k (by simpa using h), List.set_append_right _ _ (by rw [l5]; omega), l5]
      congr 2
      omega
/-- A cell of an entry stored anew: its row, and what stays. -/
theorem OwnE.set {w : World} {B g n c : Nat} {xs : List (En × Value)} (h : OwnE w B (.slice (some ⟨g, 0, none⟩) n c) xs) (k : Nat) (x y : En × Value) (hk : xs[k]? = some x) (o : Nat) (u : Value) (ho : o < 5) (he : enc1 y = (enc1 x).set o u) (hy : OwnB w B y.2 y.1.bs) :
    OwnE (w.setCell ⟨g, k * 5 + o, none⟩ u) B (.slice (some ⟨g, 0, none⟩) n c) (xs.set k y) ∧ Fr w (w.setCell ⟨g, k * 5 + o, none⟩ u) [g] := by
  have hf : Fr w (w.setCell ⟨g, k * 5 + o, none⟩ u) [g] := Fr.setCell w g _ u (by simp)
  obtain ⟨cs, hg, hB, hn, hm, hs, ht⟩ := row_at h.1
  have hnn := row_n h.1
  have hkl : k < xs.length := (List.getElem?_eq_some_iff.1 hk).1
  have hb : ∀ z : En × Value, OwnB w B z.2 z.1.bs → OwnB (w.setCell ⟨g, k * 5 + o, none⟩ u) B z.2 z.1.bs := fun z hz =>
    row_fr hz hf (fun r hr => by obtain rfl := List.mem_singleton.1 hr; exact row_ne hz hg (by decide))
  refine ⟨⟨⟨by rw [encs_len], .inr ⟨g, c, cs.setIfInBounds (k * 5 + o) u, by rw [List.length_set, hnn], hB, ?_, by rw [List.length_set]; omega, hm, by simpa using hs, ?_⟩⟩, fun z hz => ?_⟩, hf⟩
  · rw [heap_setCell_same _ g _ _ _ _ hg]
  · rw [List.length_set, Array.toList_setIfInBounds, List.take_set, ht, encs_at xs k x y hk o u ho he]
  · rcases List.mem_or_eq_of_mem_set hz with hz | rfl
    · exact hb z (h.2 z hz)
    · exact hb z hy
/-- The cells of an entry. -/
theorem OwnE.cells {w : World} {B g n c : Nat} {xs : List (En × Value)} (h : OwnE w B (.slice (some ⟨g, 0, none⟩) n c) xs) (k : Nat) (x : En × Value) (hk : xs[k]? = some x) :
    (w.cell? ⟨g, k * 5, none⟩ = some (.int .i64 x.1.fl) ∧ w.cell? ⟨g, k * 5 + 1, none⟩ = some (.int .i64 x.1.di) ∧ w.cell? ⟨g, k * 5 + 2, none⟩ = some (.int .i64 x.1.ge) ∧ w.cell? ⟨g, k * 5 + 3, none⟩ = some x.2 ∧ w.cell? ⟨g, k * 5 + 4, none⟩ = some (.int .i64 x.1.aw)) ∧
    ∀ o, w.frozen? ⟨g, k * 5 + o, none⟩ = false := by
  obtain ⟨cs, hg, hB, hn, hm, hs, ht⟩ := row_at h.1
  obtain rfl := row_n h.1
  have h2 := World.ownsRow.cellAt h.1
  obtain ⟨c0, c1, c2, c3, c4⟩ := encs_get xs k x hk
  have hkl : k < xs.length := (List.getElem?_eq_some_iff.1 hk).1
  exact ⟨⟨(h2 _ (by omega)).trans c0, (h2 _ (by omega)).trans c1, (h2 _ (by omega)).trans c2, (h2 _ (by omega)).trans c3, (h2 _ (by omega)).trans c4⟩, fun o => frozen_of_row _ _ _ _ _ hg⟩
/-- What a ring's value holds. -/
def HR (w : World) (v : Value) (r : Rg) : Prop := ∃ vm ve, v = rgV r vm ve ∧ HInts w vm r.ms ∧ HE w ve r.es
theorem HR.keep {w w' : World} {v : Value} {r : Rg} (h : HR w v r) (k : Fr w w' []) : HR w' v r := by
  obtain ⟨vm, ve, e, h1, h2⟩ := h
  exact ⟨vm, ve, e, h1.keep k, h2.keep k⟩
end Go.Proofs.Ytldheaamcnmlgaa

namespace Go.Proofs.Ytldheaamcnmlgaa
open Go.RowKit

section
variable {P : Program} {ops : Array Oper} {Q : Exit → Act → World → Prop} {md : Region.Mode} {S : World → Prop}

/-- Number j waits for all others. -/
def waitsAll (md : Region.Mode) (ops : Array Oper) (j : Nat) : Bool :=
  match ops[j]? with
  | some o => (List.range ops.size).all fun k => k == j || o.after.any (fun e => Region.binds md e && e.on == k)
  | none => false
/-- Whatever order is picked from here on, number j the last. -/
def wpDetL (P : Program) (md : Region.Mode) (ops : Array Oper) (Q : Exit → Act → World → Prop) (S : World → Prop) (j : Nat) : Nat → Array Bool → Act → Prop
  | 0, _, _ => False
  | fuel + 1, listed, a =>
    (Region.ready md ops listed = [j] ∧ Region.ready md ops (listed.setIfInBounds j true) = [] ∧ ∀ w, S w → wpOp P ops Q j (fun a' w' => Q .normal a' w') a w) ∨
    (Region.ready md ops listed ≠ [] ∧ ∀ i ∈ Region.ready md ops listed, i ≠ j ∧ ∃ o v, ops[i]? = some o ∧ EndsIf P ops S o v a ∧ wpDetL P md ops Q S j fuel (listed.setIfInBounds i true) (a.put o.dst v))
theorem wpAny_of_detL {j : Nat} : ∀ (fuel : Nat) (listed : Array Bool) (a : Act), wpDetL P md ops Q S j fuel listed a → ∀ w, S w → wpAny P md ops Q fuel listed a w
  | 0, _, _, h, _, _ => h.elim
  | fuel + 1, listed, a, h, w, hS => by
    rcases h with ⟨h1, h2, h3⟩ | ⟨h1, h2⟩
    · refine ⟨fun h0 => (by rw [h1] at h0; cases h0), fun i hi => ?_⟩
      rw [h1] at hi
      obtain rfl := List.mem_singleton.1 hi
      refine wpOp_mono (fun a' w' hq => ?_) (h3 w hS)
      cases fuel with
      | zero => exact ⟨h2, hq⟩
      | succ n => exact ⟨fun _ => hq, by rw [h2]; simp⟩
    · refine ⟨fun h0 => absurd h0 h1, fun i hi => ?_⟩
      obtain ⟨_, o, v, ho, hy, h'⟩ := h2 i hi
      exact hy.wpOp ho hS (fun w' hS' => wpAny_of_detL fuel _ _ h' w' hS')
theorem waits_not {j : Nat} (hl : waitsAll md ops j = true) {i : Nat} (hij : i ≠ j) {listed : Array Bool} (hi : i ∈ Region.ready md ops listed) : j ∉ Region.ready md ops listed := by
  intro hj
  obtain ⟨hun, oi, hoi, _⟩ := mem_ready.1 hi
  obtain ⟨_, oj, hoj, hall⟩ := mem_ready.1 hj
  unfold waitsAll at hl
  rw [hoj] at hl
  have hlt : i < ops.size := (Array.getElem?_eq_some_iff.1 hoi).1
  have := List.all_eq_true.1 hl i (List.mem_range.2 hlt)
  simp only [Bool.or_eq_true, beq_iff_eq, hij, false_or] at this
  obtain ⟨e, he, h2⟩ := Array.any_eq_true'.1 this
  simp only [Bool.and_eq_true, beq_iff_eq] at h2
  have h1 := hall e he h2.1
  rw [h2.2] at h1
  rcases Nat.lt_or_ge i listed.size with h' | h'
  · simp [h'] at h1 hun; rw [hun] at h1; cases h1
  · simp [Array.getElem?_eq_none h'] at h1
theorem wpDetL_first {i j : Nat} {oi : Oper} {v : Value} (hij : i ≠ j) (hl : waitsAll md ops j = true) (hi : ops[i]? = some oi) (hsel : ∀ (j : Nat) (o : Oper) cs b, ops[j]? = some o → o.op ≠ .select cs b) :
    ∀ (fuel : Nat) (listed : Array Bool) (a : Act),
      (∀ j oj, ops[j]? = some oj → j ≠ i → listed.getD j true = false → (∀ e ∈ oj.after, Region.binds md e = true → e.on ≠ i) → oi.apart ops oj = true) →
      i ∈ Region.ready md ops listed → EndsIf P ops S oi v a →
      wpDetL P md ops Q S j fuel (listed.setIfInBounds i true) (a.put oi.dst v) → wpDetL P md ops Q S j (fuel + 1) listed a := by
  intro fuel
  induction fuel with
  | zero => intro listed a _ _ _ H; exact H.elim
  | succ fuel ih =>
    intro listed a hfree hr hy H
    have hjn := waits_not hl hij hr
    refine Or.inr ⟨fun h => (by rw [h] at hr; cases hr), fun k hk => ⟨fun e => hjn (e ▸ hk), ?_⟩⟩
    by_cases hki : k = i
    · subst hki; exact ⟨oi, v, hi, hy, H⟩
    · rcases H with ⟨h1, _, _⟩ | ⟨_, H⟩
      · have := ready_mono hk hki
        rw [h1] at this
        obtain rfl := List.mem_singleton.1 this
        exact absurd hk hjn
      · obtain ⟨_, oj, u, hoj, hyj, H'⟩ := H k (ready_mono hk hki)
        obtain ⟨hjun, oj', hoj', hall⟩ := mem_ready.1 hk
        obtain rfl := Option.some.inj (hoj.symm.trans hoj')
        have hnot : ∀ e ∈ oj.after, Region.binds md e = true → e.on ≠ i := fun e he hb heq => by
          have h1 := hall e he hb
          have h0 := (mem_ready.1 hr).1
          rw [heq] at h1
          rcases Nat.lt_or_ge i listed.size with h' | h'
          · simp [h'] at h0 h1; rw [h0] at h1; cases h1
          · simp [Array.getElem?_eq_none h'] at h1
        obtain ⟨h1, h2, h3⟩ := Oper.apart_spec (hfree k oj hoj hki hjun hnot)
        have hfree' : ∀ m ok, ops[m]? = some ok → m ≠ i → (listed.setIfInBounds k true).getD m true = false →
            (∀ e ∈ ok.after, Region.binds md e = true → e.on ≠ i) → oi.apart ops ok = true := fun m ok hm hmi hun hno => by
          refine hfree m ok hm hmi ?_ hno
          by_cases hkm : k = m
          · subst hkm; exact hjun
          · rw [getD_set_ne true hkm] at hun; exact hun
        refine ⟨oj, u, hoj, hyj.of_same (execOp_put oj (fun cs b => hsel k oj cs b hoj) a oi.dst v h1).symm (wanted_put oj a oi.dst v h1).symm, ?_⟩
        refine ih (listed.setIfInBounds k true) (a.put oj.dst u) hfree' (ready_mono hr (Ne.symm hki)) (hy.of_same (execOp_put oi (fun cs b => hsel i oi cs b hi) a oj.dst u h3) (wanted_put oi a oj.dst u h3)) ?_
        rw [Array.setIfInBounds_comm _ _ hki, ← Act.put_comm a v u h2]
        exact H'
theorem wpDetL_take {i j : Nat} {oi : Oper} {v : Value} {fuel : Nat} {listed : Array Bool} {a : Act} (hij : i ≠ j) (hl : waitsAll md ops j = true) (hi : ops[i]? = some oi)
    (hs : Region.noSelect ops = true) (hf : Region.free md ops listed i = true) (hr : (Region.ready md ops listed).contains i = true)
    (hy : EndsIf P ops S oi v a)
    (h : wpDetL P md ops Q S j fuel (listed.setIfInBounds i true) (a.put oi.dst v)) : wpDetL P md ops Q S j (fuel + 1) listed a :=
  wpDetL_first hij hl hi (Region.noSelect_spec hs) fuel listed a (Region.free_spec hi hf) (by simpa using hr) hy h
/-- The last one. -/
theorem wpDetL_last {j : Nat} {oj : Oper} {fuel : Nat} {listed : Array Bool} {a : Act} (hr : Region.ready md ops listed = [j]) (hr2 : Region.ready md ops (listed.setIfInBounds j true) = []) (hj : ops[j]? = some oj)
    (h : ∀ w, S w → ∀ K' : Act → World → Prop, Hid (∀ a w, Q .normal a w → K' a w) → if Region.wanted oj (yielded ops a.tmps) = true then Oper.wp P oj a w K' Q else K' (a.put oj.dst undef) w) :
    wpDetL P md ops Q S j (fuel + 1) listed a := Or.inl ⟨hr, hr2, fun w hS => wpOp_step hj (fun K' hK => h w hS K' (Lib.hid hK))⟩
theorem wp_region_detL {id : Nat} {a : Act} {w : World} (j : Nat) (hm : P.follows .mixedOrders = true) (hS : S w.drew)
    (h : wpDetL P .any ops Q S j ops.size (Array.replicate ops.size false) a) : (Code.region id ops true).wp P Q a w :=
  wp_region_any hm (wpAny_of_detL _ _ _ h _ hS)
end
end Go.Proofs.Ytldheaamcnmlgaa

namespace Go.Proofs.Ytldheaamcnmlgaa
open Go.RowKit

section
variable {P : Program} {ops : Array Oper} {Q : Exit → Act → World → Prop} {md : Region.Mode} {S : World → Prop}

/-- Whatever order is picked from here on, number j the last; S holds behind each operation but it. -/
def wpHL (P : Program) (md : Region.Mode) (ops : Array Oper) (Q : Exit → Act → World → Prop) (S : World → Prop) (j : Nat) : Nat → Array Bool → Act → World → Prop
  | 0, _, _, _ => False
  | fuel + 1, listed, a, w =>
    (Region.ready md ops listed = [j] ∧ Region.ready md ops (listed.setIfInBounds j true) = [] ∧ wpOp P ops Q j (fun a' w' => Q .normal a' w') a w) ∨
    (Region.ready md ops listed ≠ [] ∧ ∀ i ∈ Region.ready md ops listed, i ≠ j ∧ wpOp P ops Q i (fun a' w' => S w' ∧ wpHL P md ops Q S j fuel (listed.setIfInBounds i true) a' w') a w)
theorem wpAny_of_HL {j : Nat} : ∀ (fuel : Nat) (listed : Array Bool) (a : Act) (w : World), wpHL P md ops Q S j fuel listed a w → wpAny P md ops Q fuel listed a w
  | 0, _, _, _, h => h.elim
  | fuel + 1, listed, a, w, h => by
    rcases h with ⟨h1, h2, h3⟩ | ⟨h1, h2⟩
    · refine ⟨fun h0 => (by rw [h1] at h0; cases h0), fun i hi => ?_⟩
      rw [h1] at hi
      obtain rfl := List.mem_singleton.1 hi
      refine wpOp_mono (fun a' w' hq => ?_) h3
      cases fuel with
      | zero => exact ⟨h2, hq⟩
      | succ n => exact ⟨fun _ => hq, by rw [h2]; simp⟩
    · refine ⟨fun h0 => absurd h0 h1, fun i hi => ?_⟩
      exact wpOp_mono (fun a' w' h' => wpAny_of_HL fuel _ a' w' h'.2) (h2 i hi).2
theorem wpHL_first {i j : Nat} {oi : Oper} {v : Value} (hij : i ≠ j) (hl : waitsAll md ops j = true) (hi : ops[i]? = some oi) (hsel : ∀ (j : Nat) (o : Oper) cs b, ops[j]? = some o → o.op ≠ .select cs b)
    (hQ : ∀ c a w, Q (.panic c) (a.put oi.dst v) w → Q (.panic c) a w) :
    ∀ (fuel : Nat) (listed : Array Bool) (a : Act) (w : World),
      (∀ j oj, ops[j]? = some oj → j ≠ i → listed.getD j true = false → (∀ e ∈ oj.after, Region.binds md e = true → e.on ≠ i) → oi.apart ops oj = true) →
      i ∈ Region.ready md ops listed → YieldsIf P ops S oi v a → S w →
      wpHL P md ops Q S j fuel (listed.setIfInBounds i true) (a.put oi.dst v) w → wpHL P md ops Q S j (fuel + 1) listed a w := by
  intro fuel
  induction fuel with
  | zero => intro listed a w _ _ _ _ H; exact H.elim
  | succ fuel ih =>
    intro listed a w hfree hr hy hS H
    have hjn := waits_not hl hij hr
    refine Or.inr ⟨fun h => (by rw [h] at hr; cases hr), fun k hk => ⟨fun e => hjn (e ▸ hk), ?_⟩⟩
    by_cases hki : k = i
    · subst hki; exact hy.wpOp hi hS ⟨hS, H⟩
    · rcases H with ⟨h1, _, _⟩ | ⟨_, H⟩
      · have := ready_mono hk hki
        rw [h1] at this
        obtain rfl := List.mem_singleton.1 this
        exact absurd hk hjn
      · have h1 := (H k (ready_mono hk hki)).2
        obtain ⟨hjun, oj, hoj, hall⟩ := mem_ready.1 hk
        have hnot : ∀ e ∈ oj.after, Region.binds md e = true → e.on ≠ i := fun e he hb heq => by
          have h1 := hall e he hb
          have h0 := (mem_ready.1 hr).1
          rw [heq] at h1
          rcases Nat.lt_or_ge i listed.size with h' | h'
          · simp [h'] at h0 h1; rw [h0] at h1; cases h1
          · simp [Array.getElem?_eq_none h'] at h1
        have h2 := wpOp_putIf hoj (hfree k oj hoj hki hjun hnot) (fun cs b => hsel i oi cs b hi) (fun cs b => hsel k oj cs b hoj) hQ hy h1
        have hfree' : ∀ m ok, ops[m]? = some ok → m ≠ i → (listed.setIfInBounds k true).getD m true = false →
            (∀ e ∈ ok.after, Region.binds md e = true → e.on ≠ i) → oi.apart ops ok = true := fun m ok hm hmi hun hno => by
          refine hfree m ok hm hmi ?_ hno
          by_cases hkm : k = m
          · subst hkm; exact hjun
          · rw [getD_set_ne true hkm] at hun; exact hun
        refine wpOp_mono (fun a' w' h3 => ⟨h3.2.1, ih (listed.setIfInBounds k true) a' w' hfree' (ready_mono hr (Ne.symm hki)) h3.1 h3.2.1 ?_⟩) h2
        rw [Array.setIfInBounds_comm _ _ hki]
        exact h3.2.2
theorem wpHL_take {i j : Nat} {oi : Oper} {v : Value} {fuel : Nat} {listed : Array Bool} {a : Act} {w : World} (hij : i ≠ j) (hl : waitsAll md ops j = true) (hi : ops[i]? = some oi)
    (hs : Region.noSelect ops = true) (hf : Region.free md ops listed i = true) (hr : (Region.ready md ops listed).contains i = true)
    (hQ : ∀ c a w, Q (.panic c) (a.put oi.dst v) w → Q (.panic c) a w) (hy : YieldsIf P ops S oi v a) (hS : S w)
    (h : wpHL P md ops Q S j fuel (listed.setIfInBounds i true) (a.put oi.dst v) w) : wpHL P md ops Q S j (fuel + 1) listed a w :=
  wpHL_first hij hl hi (Region.noSelect_spec hs) hQ fuel listed a w (Region.free_spec hi hf) (by simpa using hr) hy hS h
/-- Each of those comes up next. -/
def AllReadyHL (P : Program) (md : Region.Mode) (ops : Array Oper) (Q : Exit → Act → World → Prop) (S : World → Prop) (j fuel : Nat) (listed : Array Bool) (a : Act) (w : World) (rs : List Nat) : Prop :=
  ∀ i ∈ rs, i ≠ j ∧ wpOp P ops Q i (fun a' w' => S w' ∧ wpHL P md ops Q S j fuel (listed.setIfInBounds i true) a' w') a w
theorem AllReadyHL.nil {j fuel : Nat} {listed : Array Bool} {a : Act} {w : World} : AllReadyHL P md ops Q S j fuel listed a w [] := fun _ h => by cases h
theorem AllReadyHL.cons {j fuel : Nat} {listed : Array Bool} {a : Act} {w : World} {i : Nat} {o : Oper} {rs : List Nat} (hij : i ≠ j) (ho : ops[i]? = some o)
    (h : ∀ K' : Act → World → Prop, Shut (∀ a w, S w → (S w → wpHL P md ops Q S j fuel (listed.setIfInBounds i true) a w) → K' a w) → if Region.wanted o (yielded ops a.tmps) = true then Oper.wp P o a w K' Q else K' (a.put o.dst undef) w)
    (hs : AllReadyHL P md ops Q S j fuel listed a w rs) : AllReadyHL P md ops Q S j fuel listed a w (i :: rs) := fun m hm => by
  rcases List.mem_cons.1 hm with rfl | hm
  · exact ⟨hij, wpOp_step ho (fun K' hK => h K' (fun a w hS hW => hK a w ⟨hS, hW hS⟩))⟩
  · exact hs m hm
theorem wpHL_ready {rs : List Nat} {j fuel : Nat} {listed : Array Bool} {a : Act} {w : World} (hr : Region.ready md ops listed = rs) (hne : rs ≠ [])
    (h : AllReadyHL P md ops Q S j fuel listed a w rs) : wpHL P md ops Q S j (fuel + 1) listed a w :=
  Or.inr ⟨hr ▸ hne, hr ▸ h⟩
/-- The last one. -/
theorem wpHL_last {j : Nat} {oj : Oper} {fuel : Nat} {listed : Array Bool} {a : Act} {w : World} (hr : Region.ready md ops listed = [j]) (hr2 : Region.ready md ops (listed.setIfInBounds j true) = []) (hj : ops[j]? = some oj)
    (h : ∀ K' : Act → World → Prop, Hid (∀ a w, Q .normal a w → K' a w) → if Region.wanted oj (yielded ops a.tmps) = true then Oper.wp P oj a w K' Q else K' (a.put oj.dst undef) w) :
    wpHL P md ops Q S j (fuel + 1) listed a w := Or.inl ⟨hr, hr2, wpOp_step hj (fun K' hK => h K' (Lib.hid hK))⟩
theorem wp_region_heldL {id : Nat} {a : Act} {w : World} (j : Nat) (hm : P.follows .mixedOrders = true) (hS : S w.drew)
    (h : S w.drew → wpHL P .any ops Q S j ops.size (Array.replicate ops.size false) a w.drew) : (Code.region id ops true).wp P Q a w :=
  wp_region_any hm (wpAny_of_HL _ _ _ _ (h hS))
end
end Go.Proofs.Ytldheaamcnmlgaa

namespace Go.Proofs.Ytldheaamcnmlgaa
open Go.RowKit

theorem placeB_ahead {c : Int} : ∀ {l : List (Int × Int)} {i : Nat}, i < placeB l c → (l.getD i (0, 0)).1 ≤ c
  | [], i, h => by simp [placeB] at h
  | x :: l, i, h => by
    unfold placeB at h
    rw [List.takeWhile_cons] at h
    split at h
    · rename_i g
      cases i with
      | zero => exact of_decide_eq_true g
      | succ i => exact placeB_ahead (l := l) (i := i) (by unfold placeB; simpa using h)
    · simp at h
theorem placeB_at {c : Int} : ∀ {l : List (Int × Int)}, placeB l c < l.length → c < (l.getD (placeB l c) (0, 0)).1
  | [], h => by simp [placeB] at h
  | x :: l, h => by
    by_cases g : x.1 ≤ c
    · have e : placeB (x :: l) c = placeB l c + 1 := by
        unfold placeB
        rw [List.takeWhile_cons, if_pos (decide_eq_true g), List.length_cons]
      rw [e] at h ⊢
      exact placeB_at (l := l) (by simpa using h)
    · have e : placeB (x :: l) c = 0 := by
        unfold placeB
        rw [List.takeWhile_cons, if_neg (by simpa using g)]; rfl
      rw [e]
      show c < x.1
      omega
/-- What a round reads. -/
def P4 (V : World) (bk o g : Nat) (x : Int) (b : Int × Int) (a : World) : Prop := Fr V a [] ∧ a.cell? ⟨bk, o, none⟩ = some (.int .i64 x) ∧ a.cell? ⟨g, 0, none⟩ = some (.int .i64 b.1) ∧ a.heap[g]? = some (bidBox b)
theorem P4.fr {V : World} {bk o g : Nat} {x : Int} {b : Int × Int} {a a' : World} (h : P4 V bk o g x b a) (k : Fr a a' []) : P4 V bk o g x b a' := ⟨h.1.trans k, k.cell h.2.1 (by simp), k.cell h.2.2.1 (by simp), k.heap h.2.2.2 (by simp)⟩
/-- A bid's box. -/
def SB1 (g : Nat) (b : Int × Int) (a : World) : Prop := a.cell? ⟨g, 0, none⟩ = some (.int .i64 b.1) ∧ a.cell? ⟨g, 1, none⟩ = some (.int .i64 b.2)
theorem SB1.fr {g : Nat} {b : Int × Int} {a a' : World} {S : List Nat} (h : SB1 g b a) (k : Fr a a' S) (hn : g ∉ S) : SB1 g b a' := ⟨k.cell h.1 hn, k.cell h.2 hn⟩
theorem SB1.grown {g : Nat} {b : Int × Int} {a a' : World} {row : Option Nat} (h : SB1 g b a) (k : a.grownBy a' row) (hn : some g ≠ row) : SB1 g b a' := ⟨k.cell h.1 hn, k.cell h.2 hn⟩
theorem bid_cells {w : World} {g : Nat} {b : Int × Int} {T : TypeId} (h : w.heap[g]? = some (.cells #[.int .i64 b.1, .int .i64 b.2] T (0, 0))) : ∀ j u, [Value.int .i64 b.1, .int .i64 b.2][j]? = some u → w.cell? (Addr.add ⟨g, 0, none⟩ j) = some u := by
  intro j u hu
  rw [Addr.add_lit, Nat.zero_add, cell_of_row _ _ _ _ _ _ h]
  simpa using hu
theorem own_put {w w5 w6 : World} {l M : List (Int × Int)} {b : Int × Int} {k : Nat} {v v' : Value} (hM : M = (l.take k ++ [b]) ++ l.drop k) (hk : k ≤ l.length) (ho : w6.ownsRow w.heap.size 42 2 v' (k + 1 + (l.length - k)) (bdc (l.take k ++ [b]) ++ bdc (l.drop k))) (hf : Fr w w5 [])
    (hg : w5.grownBy w6 v.ownBlock) (hb : ∀ r, v.ownBlock = some r → w.heap.size ≤ r) : OwnB w6 w.heap.size v' M ∧ Fr w w6 [] := by
  have hlen : M.length = k + 1 + (l.length - k) := by rw [hM, List.length_append, List.length_append, List.length_take, List.length_drop, List.length_singleton]; omega
  refine ⟨?_, hf.grown_own hg (fun r hr => .inr (hb r hr))⟩
  unfold OwnB
  rw [hlen, hM, bdc_app]
  exact ho

end Go.Proofs.Ytldheaamcnmlgaa

namespace Go.Proofs.Ytldheaamcnmlgaa
open Go.RowKit Fm

/-- A box of five cells stored anew. -/
theorem set5 {w : World} {g : Nat} {a b c d e : Value} {T : TypeId} (h : w.heap[g]? = some (.cells #[a, b, c, d, e] T (0, 0))) (v0 v1 v2 v3 v4 : Value) :
    (((((w.setCell ⟨g, 0, none⟩ v0).setCell ⟨g, 1, none⟩ v1).setCell ⟨g, 2, none⟩ v2).setCell ⟨g, 3, none⟩ v3).setCell ⟨g, 4, none⟩ v4).heap[g]? = some (.cells #[v0, v1, v2, v3, v4] T (0, 0)) := by
  have h1 : (w.setCell ⟨g, 0, none⟩ v0).heap[g]? = some (.cells #[v0, b, c, d, e] T (0, 0)) := by rw [heap_setCell_same _ g 0 _ _ _ h]; rfl
  have h2 : ((w.setCell ⟨g, 0, none⟩ v0).setCell ⟨g, 1, none⟩ v1).heap[g]? = some (.cells #[v0, v1, c, d, e] T (0, 0)) := by rw [heap_setCell_same _ g 1 _ _ _ h1]; rfl
  have h3 : (((w.setCell ⟨g, 0, none⟩ v0).setCell ⟨g, 1, none⟩ v1).setCell ⟨g, 2, none⟩ v2).heap[g]? = some (.cells #[v0, v1, v2, d, e] T (0, 0)) := by rw [heap_setCell_same _ g 2 _ _ _ h2]; rfl
  have h4 : ((((w.setCell ⟨g, 0, none⟩ v0).setCell ⟨g, 1, none⟩ v1).setCell ⟨g, 2, none⟩ v2).setCell ⟨g, 3, none⟩ v3).heap[g]? = some (.cells #[v0, v1, v2, v3, e] T (0, 0)) := by rw [heap_setCell_same _ g 3 _ _ _ h3]; rfl
  rw [heap_setCell_same _ g 4 _ _ _ h4]; rfl
theorem set5_fr (w : World) (g : Nat) (v0 v1 v2 v3 v4 : Value) : Fr w (((((w.setCell ⟨g, 0, none⟩ v0).setCell ⟨g, 1, none⟩ v1).setCell ⟨g, 2, none⟩ v2).setCell ⟨g, 3, none⟩ v3).setCell ⟨g, 4, none⟩ v4) [g] :=
  ((((Fr.setCell w g 0 v0 (S := [g]) (by simp)).trans (Fr.setCell _ g 1 v1 (S := [g]) (by simp))).trans (Fr.setCell _ g 2 v2 (S := [g]) (by simp))).trans (Fr.setCell _ g 3 v3 (S := [g]) (by simp))).trans (Fr.setCell _ g 4 v4 (S := [g]) (by simp))
theorem fz5 {w : World} {g : Nat} {a b c d e : Value} {T : TypeId} (h : w.heap[g]? = some (.cells #[a, b, c, d, e] T (0, 0))) : w.frozen? ⟨g, 0, none⟩ = false ∧ w.frozen? ⟨g, 1, none⟩ = false ∧ w.frozen? ⟨g, 2, none⟩ = false ∧ w.frozen? ⟨g, 3, none⟩ = false ∧ w.frozen? ⟨g, 4, none⟩ = false :=
  ⟨frozen_of_row _ _ 0 _ _ h, frozen_of_row _ _ 1 _ _ h, frozen_of_row _ _ 2 _ _ h, frozen_of_row _ _ 3 _ _ h, frozen_of_row _ _ 4 _ _ h⟩
/-- Five cells in a world. -/
def C5 (g : Nat) (a b c d e : Value) (w : World) : Prop := w.cell? ⟨g, 0, none⟩ = some a ∧ w.cell? ⟨g, 1, none⟩ = some b ∧ w.cell? ⟨g, 2, none⟩ = some c ∧ w.cell? ⟨g, 3, none⟩ = some d ∧ w.cell? ⟨g, 4, none⟩ = some e
theorem C5.fr {g : Nat} {a b c d e : Value} {w w' : World} {S : List Nat} (h : C5 g a b c d e w) (k : Fr w w' S) (hn : g ∉ S) : C5 g a b c d e w' := ⟨k.cell h.1 hn, k.cell h.2.1 hn, k.cell h.2.2.1 hn, k.cell h.2.2.2.1 hn, k.cell h.2.2.2.2 hn⟩
/-- What CopyEntry answers. -/
def CopyE (e : En) (w : World) (u : Value) (w' : World) : Prop := ∃ vb, u = enV e vb ∧ OwnB w' w.heap.size vb e.bs ∧ Fr w w' []
end Go.Proofs.Ytldheaamcnmlgaa

namespace Go.Proofs.Ytldheaamcnmlgaa
open Go.RowKit

theorem HInts.args {w : World} {x : Addr} {n cap : Nat} {l : List Int} (h : HInts w (.slice (some x) n cap) l) : ∀ j u, (i64s l)[j]? = some u → w.cell? (x.add j) = some u := by
  intro j u hj
  have hjl : j < l.length := by have := (List.getElem?_eq_some_iff.1 hj).1; simpa using this
  have e : (i64s l)[j]? = some (.int .i64 (l.getD j 0)) := by simp [i64s, hjl]
  rw [e] at hj
  obtain rfl := Option.some.inj hj
  obtain ⟨a, cap', he, _, _, hc⟩ := h
  simp only [Value.slice.injEq] at he
  obtain ⟨rfl, rfl, rfl⟩ := he
  obtain ⟨b, off, he2, hc2⟩ := hc (by omega)
  simp only [Option.some.injEq] at he2
  subst he2
  rw [Addr.add_lit]
  exact hc2 j hjl
theorem i64s_one (l : List Int) : ∀ u ∈ i64s l, u.oneCell' = true := ints_oneCell _ _
theorem nil_ints (w : World) : HInts w (.slice none 0 0) [] := ⟨none, 0, rfl, by simp, by decide, fun h => absurd h (by simp)⟩

theorem OwnI.form {w : World} {B : Nat} {v : Value} {l : List Int} (h : OwnI w B v l) : v = .slice none 0 0 ∨ ∃ x c, v = .slice (some x) l.length c := by
  rcases h.2 with ⟨rfl, _⟩ | ⟨g, cap, cur, rfl, _⟩
  · exact .inl rfl
  · exact .inr ⟨_, _, rfl⟩
end Go.Proofs.Ytldheaamcnmlgaa

namespace Go.Proofs.Ytldheaamcnmlgaa
open Go.RowKit Fm

/-- A ring in a box of the call's own (since the world V), its lists its own too. -/
structure RB (V : World) (g : Nat) (co fo ho : Int) (um ve : Value) (ms : List Int) (xs : List (En × Value)) (a : World) : Prop where
  f : Fr V a []
  hg : V.heap.size ≤ g
  row : a.heap[g]? = some (.cells #[.int .i64 co, .int .i64 fo, .int .i64 ho, um, ve] 27 (0, 0))
  oi : OwnI a V.heap.size um ms
  oe : OwnE a V.heap.size ve xs
theorem RB.fr {V : World} {g : Nat} {co fo ho : Int} {um ve : Value} {ms : List Int} {xs : List (En × Value)} {a a' : World} (h : RB V g co fo ho um ve ms xs a) (k : Fr a a' []) : RB V g co fo ho um ve ms xs a' :=
  ⟨h.f.trans k, h.hg, k.heap h.row (by simp), h.oi.keep k, h.oe.keep k⟩
theorem RB.c5 {V : World} {g : Nat} {co fo ho : Int} {um ve : Value} {ms : List Int} {xs : List (En × Value)} {a : World} (h : RB V g co fo ho um ve ms xs a) : C5 g (.int .i64 co) (.int .i64 fo) (.int .i64 ho) um ve a := row5 h.row
/-- Behind an append to the entries, ahead of the store: the box holds the elder slice still. -/
structure RBA (V : World) (g : Nat) (co fo ho : Int) (um ve : Value) (ms : List Int) (v' : Value) (ys : List (En × Value)) (a : World) : Prop where
  f : Fr V a []
  hg : V.heap.size ≤ g
  row : a.heap[g]? = some (.cells #[.int .i64 co, .int .i64 fo, .int .i64 ho, um, ve] 27 (0, 0))
  oi : OwnI a V.heap.size um ms
  oe : OwnE a V.heap.size v' ys
theorem RB.app {V : World} {g : Nat} {co fo ho : Int} {um ve v' : Value} {ms : List Int} {xs : List (En × Value)} {x : En × Value} {a a' : World} (h : RB V g co fo ho um ve ms xs a) (hx : OwnB a V.heap.size x.2 x.1.bs)
    (hr : a'.ownsRow V.heap.size 40 5 v' (xs.length + 1) (encs xs ++ enc1 x)) (hg : a.grownBy a' ve.ownBlock) : RBA V g co fo ho um ve ms v' (xs ++ [x]) a' := by
  refine ⟨h.f.grown_own hg (fun r hr => .inr (h.oe.block r hr).1), h.hg, row_far hg h.oe.1 h.row (by decide), ?_, h.oe.snoc hx hr hg⟩
  rcases hv : ve.ownBlock with _ | b
  · rw [hv] at hg
    exact h.oi.keep (Fr.of_grown hg [])
  · rw [hv] at hg
    obtain ⟨a1, c1, rfl⟩ := h.oe.shape
    rcases h.oe.1.2 with ⟨h1, _⟩ | ⟨b', cap, cur, h1, _, hgg, _⟩
    · rw [h1] at hv; simp [Value.ownBlock] at hv
    · rw [h1] at hv
      obtain rfl : b' = b := by simpa [Value.ownBlock] using hv
      exact h.oi.far (Fr.of_grown_row hg (S := [b']) (by simp)) hgg (by decide)
theorem RBA.store {V : World} {g : Nat} {co fo ho : Int} {um ve v' : Value} {ms : List Int} {ys : List (En × Value)} {a : World} (h : RBA V g co fo ho um ve ms v' ys a) : RB V g co fo ho um v' ms ys (a.setCell ⟨g, 4, none⟩ v') := by
  have hf : Fr a (a.setCell ⟨g, 4, none⟩ v') [g] := Fr.setCell a g 4 v' (by simp)
  refine ⟨h.f.new hf (by intro r hr; obtain rfl := List.mem_singleton.1 hr; exact h.hg), h.hg, ?_, h.oi.far hf h.row (by decide), h.oe.fr hf (by intro r hr; obtain rfl := List.mem_singleton.1 hr; exact ⟨_, _, h.row, by decide, by decide⟩)⟩
  rw [heap_setCell_same _ g 4 _ _ _ h.row]; rfl
theorem RBA.cells {V : World} {g : Nat} {co fo ho : Int} {um ve v' : Value} {ms : List Int} {ys : List (En × Value)} {a : World} (h : RBA V g co fo ho um ve ms v' ys a) : a.cell? ⟨g, 4, none⟩ = some ve ∧ a.frozen? ⟨g, 4, none⟩ = false := ⟨(row5 h.row).2.2.2.2, (fz5 h.row).2.2.2.2⟩
/-- What CopyRing answers. -/
def CopyR (r : Rg) (w : World) (u : Value) (w' : World) : Prop := ∃ vm ve xs, u = rgV r vm ve ∧ OwnI w' w.heap.size vm r.ms ∧ OwnE w' w.heap.size ve xs ∧ xs.map (·.1) = r.es ∧ Fr w w' []
theorem CopyR.hr {r : Rg} {w w' : World} {u : Value} (h : CopyR r w u w') : HR w' u r := by
  obtain ⟨vm, ve, xs, e, h1, h2, h3, _⟩ := h
  exact ⟨vm, ve, e, h1.holds, h3 ▸ h2.he⟩
theorem row_newL (w : World) (cs : List Value) (T : TypeId) : ∀ j u, cs[j]? = some u → (w.alloc (.cells cs.toArray T)).cell? (Addr.add ⟨w.heap.size, 0, none⟩ j) = some u := by
  intro j u hu
  rw [Addr.add_lit, Nat.zero_add, cell_of_row _ _ _ _ _ _ (heap_alloc_new w _)]
  simpa using hu
theorem en_one (e : En) (a : Option Addr) (n c : Nat) : ∀ u ∈ enc1 (e, .slice a n c), u.oneCell' = true := by
  intro u hu
  simp only [enc1, List.mem_cons, List.not_mem_nil, or_false] at hu
  rcases hu with rfl | rfl | rfl | rfl | rfl <;> rfl
theorem take_en (l : List En) (k : Nat) (h : k < l.length) : l.take (k + 1) = l.take k ++ [l.getD k zeroE] := by
  rw [List.take_succ_eq_append_getElem h]; simp [h]
/-- What a round of the copying reads: a ring's box, that of the new one, an entry. -/
def E5 (V : World) (g1 g3 bk o : Nat) (co fo ho : Int) (am ae um ve : Value) (e : En) (vb : Value) (a : World) : Prop :=
  Fr V a [] ∧ C5 g1 (.int .i64 co) (.int .i64 fo) (.int .i64 ho) am ae a ∧ C5 g3 (.int .i64 co) (.int .i64 fo) (.int .i64 ho) um ve a ∧ (a.cell? ⟨bk, o, none⟩ = some (.int .i64 e.fl) ∧ a.cell? ⟨bk, o + 1, none⟩ = some (.int .i64 e.di) ∧ a.cell? ⟨bk, o + 2, none⟩ = some (.int .i64 e.ge) ∧ a.cell? ⟨bk, o + 3, none⟩ = some vb ∧ a.cell? ⟨bk, o + 4, none⟩ = some (.int .i64 e.aw))
end Go.Proofs.Ytldheaamcnmlgaa

namespace Go.Proofs.Ytldheaamcnmlgaa
open Go.RowKit

set_option maxRecDepth 100000 in
theorem nil_app (t e : TypeId) (i : TypeInfo) (z : Value) (size bytes : Nat) (ht : Try.prog.underlying t = some (.slice e)) (hi : Try.prog.info? e = some i) (hz : i.zero = some z) (hsize : i.size = size) (hby : i.bytes = bytes) (hzs : z.cells.size = size) (hb : bytes ≤ 1000)
    (w : World) (a : Option Addr) (n c : Nat) (news : List Value) (hl : news.length = n * size) (hn : n ≤ 1000000) (hs : 0 < n → ∃ ad, a = some ad ∧ ∀ j u, news[j]? = some u → w.cell? (ad.add j) = some u) :
    ∃ v' w', (∀ ty, (Builtin.append_ #[t, t] ty #[.slice none 0 0, .slice a n c]).run Try.prog w = .ok v' w') ∧ w'.ownsRow w.heap.size e size v' n news ∧ Fr w w' [] ∧ (n = 0 → v' = .slice none 0 0 ∧ w' = w) := by
  by_cases h0 : 0 < n
  · obtain ⟨ad, rfl, hc⟩ := hs h0
    have hnb : n * bytes ≤ 281474976710656 := Nat.le_trans (Nat.mul_le_mul hn hb) (by decide)
    refine ⟨_, _, fun ty => run_append_nil (P := Try.prog) w t ty e i z ht hi hz ad n c news (by rw [hsize]; exact hl) hc h0 (by omega) (by rw [hby]; exact hnb), ⟨hl, .inr ⟨w.heap.size, grownCap w n 0 e, _, rfl, Nat.le_refl _, by rw [show w.heap.size = w.drew.heap.size from rfl]; exact heap_alloc_new _ _, grownCap_ge w n 0 e, grownCap_le_maxLen w n 0 e (by unfold maxLen; omega), ?_, ?_⟩⟩, (Fr.drew w []).trans (Fr.alloc _ _ []), fun h => by omega⟩
    · have hge := grownCap_ge w n 0 e
      generalize grownCap w n 0 e = G at hge
      rw [Array.size_append, List.size_toArray, hl]
      have : (Builtin.zeroCells z.cells (G - n)).size = (G - n) * size := by simp [Builtin.zeroCells, hzs]
      rw [this, ← Nat.add_mul]
      congr 1
      omega
    · rw [Array.toList_append, List.toList_toArray]
      exact List.take_left' hl
  · obtain rfl : n = 0 := by omega
    have : news = [] := List.eq_nil_of_length_eq_zero (by omega)
    subst this
    refine ⟨.slice none 0 0, w, fun ty => ?_, ⟨by simp, .inl ⟨rfl, rfl⟩⟩, Fr.refl _ _, fun _ => ⟨rfl, rfl⟩⟩
    have hf : (Builtin.firstCells i.size 0 (.slice a 0 c)).run Try.prog w = .ok #[] w := by
      cases a with
      | none => exact run_firstCells_none _ _ _ _ _
      | some ad => exact run_firstCells_some w i.size 0 ad 0 c [] (by simp) (by simp)
    simp [Builtin.append_, run_underlying ht, sizeOf, typeInfo, zeroValue, hi, hz, Builtin.lenOf, hf]
end Go.Proofs.Ytldheaamcnmlgaa

namespace Go.Proofs.Ytldheaamcnmlgaa
open Go.RowKit Fm

theorem HB.src {w : World} {a : Option Addr} {n c : Nat} {l : List (Int × Int)} (h : HB w (.slice a n c) l) : 0 < n → ∃ ad, a = some ad ∧ ∀ j u, (bdc l)[j]? = some u → w.cell? (ad.add j) = some u := by
  obtain ⟨a', c', he, h1, h2, h3⟩ := h
  simp only [Value.slice.injEq] at he
  obtain ⟨rfl, rfl, rfl⟩ := he
  intro h0
  obtain ⟨b, off, rfl, hc⟩ := h3 h0
  refine ⟨_, rfl, fun j u hj => ?_⟩
  rw [Addr.add_lit]
  have hjl : j < l.length * 2 := by have := (List.getElem?_eq_some_iff.1 hj).1; rwa [bdc_len] at this
  obtain ⟨g0, g1⟩ := bdc_get l (j / 2) (by omega)
  obtain ⟨c0, c1⟩ := hc (j / 2) (by omega)
  rcases (by omega : j = j / 2 * 2 ∨ j = j / 2 * 2 + 1) with e | e
  · rw [← e] at g0 c0; rw [hj] at g0; rw [c0, g0]
  · rw [← e] at g1; rw [Nat.add_assoc, ← e] at c1; rw [hj] at g1; rw [c1, g1]
theorem HInts.src {w : World} {a : Option Addr} {n c : Nat} {l : List Int} (h : HInts w (.slice a n c) l) : 0 < n → ∃ ad, a = some ad ∧ ∀ j u, (l.map (Value.int .i64))[j]? = some u → w.cell? (ad.add j) = some u := by
  obtain ⟨a', c', he, h1, h2, h3⟩ := h
  simp only [Value.slice.injEq] at he
  obtain ⟨rfl, rfl, rfl⟩ := he
  intro h0
  obtain ⟨b, off, rfl, hc⟩ := h3 h0
  refine ⟨_, rfl, fun j u hj => ?_⟩
  rw [Addr.add_lit]
  have hjl : j < l.length := by have := (List.getElem?_eq_some_iff.1 hj).1; simpa using this
  have := hc j hjl
  rw [List.getElem?_map, List.getElem?_eq_getElem hjl] at hj
  simp only [Option.map_some, Option.some.injEq] at hj
  rw [this, ← hj]
  simp [List.getD, hjl]
/-- A box of five cells, one of them stored anew. -/
theorem set5_3 {w : World} {g : Nat} {a b c d e : Value} {T : TypeId} (h : w.heap[g]? = some (.cells #[a, b, c, d, e] T (0, 0))) (v : Value) : (w.setCell ⟨g, 3, none⟩ v).heap[g]? = some (.cells #[a, b, c, v, e] T (0, 0)) := by
  rw [heap_setCell_same _ g 3 _ _ _ h]; rfl
theorem set5_4 {w : World} {g : Nat} {a b c d e : Value} {T : TypeId} (h : w.heap[g]? = some (.cells #[a, b, c, d, e] T (0, 0))) (v : Value) : (w.setCell ⟨g, 4, none⟩ v).heap[g]? = some (.cells #[a, b, c, d, v] T (0, 0)) := by
  rw [heap_setCell_same _ g 4 _ _ _ h]; rfl
set_option maxHeartbeats 1000000 in
set_option maxRecDepth 100000 in
theorem cloneE_any (e : En) (vb : Value) (w : World) (h : HB w vb e.bs) (hl : e.bs.length ≤ 1000) : Calls Try.prog 41 #[enV e vb] w (Gives (CopyE e w)) := by
  obtain ⟨i0, hi0, hz0, hz1, hz2⟩ := info_parts infoB
  obtain ⟨fl, di, ge, bs, aw⟩ := e
  obtain ⟨a1, c1, rfl⟩ := h.shape
  dsimp only at h hl ⊢
  have HTW := Lib.hid (two_boxes w (.cells #[.int .i64 fl, .int .i64 di, .int .i64 ge, .slice a1 bs.length c1, .int .i64 aw] 40) (.cells #[.int .i64 0, .int .i64 0, .int .i64 0, .slice none 0 0, .int .i64 0] 40))
  have HF2 := Lib.hid ((Fr.alloc w (.cells #[.int .i64 fl, .int .i64 di, .int .i64 ge, .slice a1 bs.length c1, .int .i64 aw] 40) []).trans (Fr.alloc _ (.cells #[.int .i64 0, .int .i64 0, .int .i64 0, .slice none 0 0, .int .i64 0] 40) []))
  have HSZ := Lib.hid (show w.heap.size < ((w.alloc (.cells #[.int .i64 fl, .int .i64 di, .int .i64 ge, .slice a1 bs.length c1, .int .i64 aw] 40)).alloc (.cells #[.int .i64 0, .int .i64 0, .int .i64 0, .slice none 0 0, .int .i64 0] 40)).heap.size by simp; omega)
  have HBV := Lib.hid h
  unfold enV
  dsimp only
  clear h
  go_enter Try.func41, Try.ntmps41
  go_upto_region 1 with fail
  generalize (w.alloc _).alloc _ = V at HTW HF2 HSZ ⊢
  obtain ⟨g, hg⟩ : ∃ g, g = w.heap.size := ⟨_, rfl⟩
  have HG := Lib.hid hg
  rw [← hg] at HTW HSZ ⊢
  obtain ⟨v', w1, hrun, hown, hf1, _⟩ := nil_app 38 42 i0 _ 2 16 Try.underlying38 hi0 hz0 hz1 hz2 rfl (by decide) V a1 bs.length c1 (bdc bs) (bdc_len bs) (by omega) (HBV.out.keep HF2.out).src
  obtain ⟨u1, u2, rfl⟩ := row_shape hown
  have HO := Lib.hid (row_mono hown (show g ≤ V.heap.size from Nat.le_of_lt HSZ.out))
  have F1 := Lib.hid (HF2.out.trans hf1)
  have HE1 := Lib.hid (hf1.heap HTW.out.1 (by simp))
  have HZ1 := Lib.hid (hf1.heap HTW.out.2 (by simp))
  obtain ⟨y0, y1, y2, y3, y4⟩ := row5 HTW.out.1
  obtain ⟨x0, x1, x2, x3, x4⟩ := row5 HE1.out
  obtain ⟨f0, f1, f2, f3, f4⟩ := fz5 HE1.out
  have HE2 := Lib.hid (set5_3 HE1.out (.slice u1 bs.length u2))
  have hfs : Fr w1 (w1.setCell ⟨g, 3, none⟩ (.slice u1 bs.length u2)) [g] := Fr.setCell w1 g 3 _ (by simp)
  have HZ2 := Lib.hid (hfs.heap HZ1.out (by simp))
  have HO2 := Lib.hid (row_fr HO.out hfs (by intro r hr; obtain rfl := List.mem_singleton.1 hr; exact row_ne HO.out HE1.out (by decide)))
  have F2 := Lib.hid (F1.out.new hfs (by intro r hr; obtain rfl := List.mem_singleton.1 hr; exact Nat.le_of_eq HG.out.symm))
  clear hown hf1 hfs HBV hg
  go_upto_region 2 with (at_builtin; refine Lib.wpList_append_run _ rfl _ _ _ _ rfl _ _ rfl rfl _ _ (hrun _) ?_)
  clear y0 y1 y2 y3 y4 x0 x1 x2 x3 x4 f0 f1 f2 f3 f4 hrun HE1 HZ1 HO F1 HTW
  generalize World.setCell w1 _ _ = w2 at HE2 HZ2 HO2 F2 ⊢
  obtain ⟨x0, x1, x2, x3, x4⟩ := row5 HE2.out
  obtain ⟨z0, z1, z2, z3, z4⟩ := row5 HZ2.out
  obtain ⟨f0, f1, f2, f3, f4⟩ := fz5 HZ2.out
  obtain ⟨e0, e1, e2, e3, e4⟩ := row5 (set5 HZ2.out (.int .i64 fl) (.int .i64 di) (.int .i64 ge) (.slice u1 bs.length u2) (.int .i64 aw))
  have hF5 := set5_fr w2 (g + 1) (.int .i64 fl) (.int .i64 di) (.int .i64 ge) (.slice u1 bs.length u2) (.int .i64 aw)
  have HF3 := Lib.hid (F2.out.new hF5 (by intro r hr; obtain rfl := List.mem_singleton.1 hr; have := HG.out; omega))
  have HO3 := Lib.hid (row_fr HO2.out hF5 (by intro r hr; obtain rfl := List.mem_singleton.1 hr; exact row_ne HO2.out HZ2.out (by decide)))
  clear hF5 HE2 HO2 F2 HZ2
  go_wp2_with fail
  generalize World.setCell (World.setCell (World.setCell (World.setCell (World.setCell w2 _ _) _ _) _ _) _ _) _ _ = W at e0 e1 e2 e3 e4 HF3 HO3 ⊢
  exact bodyPost_ret (v := .agg #[.int .i64 fl, .int .i64 di, .int .i64 ge, .slice u1 bs.length u2, .int .i64 aw]) (by simp [results, Try.results41, go_sem, e0, e1, e2, e3, e4]) rfl (gives ⟨_, rfl, row_mono HO3.out (Nat.le_of_eq HG.out.symm), HF3.out⟩)
end Go.Proofs.Ytldheaamcnmlgaa
