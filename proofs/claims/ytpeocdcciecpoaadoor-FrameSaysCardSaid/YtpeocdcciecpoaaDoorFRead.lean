/- The reader, as frames read by it. -/
import Derived.Test.YtpeocdcciecpoaaDoorFValid
import Derived.Test.YtpeocdcciecpoaaDoorRead2
namespace Go.Proofs.YtpeocdcciecpoaaDoor
open Go.RowKit Fm

/-- The reader at block p: its bytes, its place, its error. -/
structure RS (w : World) (A : Nat → Addr) (B p : Nat) (l : List Int) (k c : Nat) : Prop where
  rd : Rd w B p l k (ev A c)
  hk : k ≤ l.length
  hb : Wm.Byte l
  e3 : E3 w A B
theorem RS.lt {w : World} {A : Nat → Addr} {B p : Nat} {l : List Int} {k c : Nat} (h : RS w A B p l k c) : p < w.heap.size := h.rd.lt
theorem E3.fr {w w' : World} {A : Nat → Addr} {B : Nat} {S : List Nat} (h : E3 w A B) (hg : Fr w w' S) (hr : ∀ r ∈ S, B ≤ r) : E3 w' A B := by
  obtain ⟨⟨a1, a2⟩, ⟨b1, b2⟩, c1, c2⟩ := h
  have key : ∀ k, k < B → k ∉ S := fun k hk e => by have := hr k e; omega
  exact ⟨⟨hg.cell a1 (key _ a2), a2⟩, ⟨hg.cell b1 (key _ b2), b2⟩, hg.cell c1 (key _ c2), c2⟩
/-- It is kept where neither it nor its bytes turn. -/
theorem RS.fr {w w' : World} {A : Nat → Addr} {B p : Nat} {l : List Int} {k c : Nat} {S : List Nat} (h : RS w A B p l k c) (hg : Fr w w' S) (hp : p ∉ S) (hr : ∀ r ∈ S, B ≤ r) (ht : ∀ r ∈ S, ∃ cs T, w.heap[r]? = some (.cells cs T (0, 0)) ∧ T ≠ 5) : RS w' A B p l k c := by
  obtain ⟨⟨hB, v, hh, ho⟩, hk, hb, he⟩ := h
  exact ⟨⟨hB, v, hg.heap hh hp, ho.fr hg (fun r hm e => by
    obtain ⟨cs, T, hc, hT⟩ := ht r hm
    exact ho.apart hc hT e)⟩, hk, hb, he.fr hg hr⟩
theorem RS.keep {w w' : World} {A : Nat → Addr} {B p : Nat} {l : List Int} {k c : Nat} (h : RS w A B p l k c) (hg : Fr w w' []) : RS w' A B p l k c := h.fr hg (by simp) (by simp) (by simp)

theorem num_range {lo hi : Int} {l : List Int} {k c : Nat} {x : Int} {k' c' : Nat} (h : Fm.num lo hi l k c = (x, k', c')) : (lo ≤ x ∧ x ≤ hi) ∨ (x = 0 ∧ c' ≠ 0) := by
  unfold Fm.num at h
  split at h
  · next hc =>
    by_cases h2 : (Wm.numS l k lo hi).2.2 = 0
    · have := Wm.numS_in l k lo hi h2
      rw [h] at this; exact .inl this
    · have := Wm.numS_place l k lo hi h2
      rw [h] at this h2; exact .inr ⟨this.2, h2⟩
  · next hc =>
    simp only [Prod.mk.injEq] at h
    obtain ⟨rfl, rfl, rfl⟩ := h
    exact .inr ⟨rfl, hc⟩

theorem num_any (p : Nat) (l : List Int) (k c : Nat) (low high : Int) (w : World) (A : Nat → Addr) (B : Nat) (h : RS w A B p l k c) (x : Int) (k' c' : Nat) (hn : Fm.num low high l k c = (x, k', c')) :
    Calls Tryd.prog 69 #[.pointer (some ⟨p, 0, none⟩), .int .i64 low, .int .i64 high] w fun e w' => e = .returned (.int .i64 x) ∧ RS w' A B p l k' c' ∧ Fr w w' [p] := by
  obtain ⟨hrd, hk, hb, he⟩ := h
  by_cases hc : c = 0
  · subst hc
    have hn' : (x, k', c') = Wm.numS l k low high := by rw [← hn]; rfl
    refine (num_ok p l k low high w A B hrd hk hb he (x, k', c') hn').mono ?_
    rintro e w' ⟨he1, h1, h2⟩
    have hat := Wm.numS_at l k low high hk
    rw [← hn'] at hat
    have hf := Fr.of_grown_row h2 (S := [p]) (by simp)
    exact ⟨he1, ⟨h1, hat, hb, he.fr hf (by intro r hr; simp at hr; subst hr; exact hrd.1)⟩, hf⟩
  · unfold Fm.num at hn
    rw [if_neg hc] at hn
    simp only [Prod.mk.injEq] at hn
    obtain ⟨rfl, rfl, rfl⟩ := hn
    refine (num_bad p l k low high w A B c hrd hc).mono ?_
    rintro e w' ⟨he1, rfl⟩
    exact ⟨he1, ⟨hrd, hk, hb, he⟩, Fr.refl _ _⟩
theorem readInt_any (p : Nat) (l : List Int) (k c : Nat) (low high : Int) (w : World) (A : Nat → Addr) (B : Nat) (h : RS w A B p l k c) (x : Int) (k' c' : Nat) (hn : Fm.num low high l k c = (x, k', c')) :
    Calls Tryd.prog 86 #[.pointer (some ⟨p, 0, none⟩), .int .i64 low, .int .i64 high] w fun e w' => e = .returned (.int .i64 x) ∧ RS w' A B p l k' c' ∧ Fr w w' [p] := by
  have H := Lib.hid h
  have HN := Lib.hid hn
  clear h hn
  go_enter Tryd.func86, Tryd.ntmps86
  go_wp2_with fail
  refine (num_any p l k c low high _ A B H.out x k' c' HN.out).mono ?_
  rintro e w1 ⟨rfl, h1, h2⟩
  go_wp2
  go_ret
  exact ⟨rfl, h1, h2⟩
theorem readCar_any (p : Nat) (l : List Int) (k c : Nat) (w : World) (A : Nat → Addr) (B : Nat) (h : RS w A B p l k c) (x : Int) (k' c' : Nat) (hn : Fm.num 0 15 l k c = (x, k', c')) :
    Calls Tryd.prog 68 #[.pointer (some ⟨p, 0, none⟩)] w fun e w' => e = .returned (.int .i64 x) ∧ RS w' A B p l k' c' ∧ Fr w w' [p] := by
  have H := Lib.hid h
  have HN := Lib.hid hn
  clear h hn
  go_enter Tryd.func68, Tryd.ntmps68
  go_wp2_with fail
  refine (readInt_any p l k c 0 15 _ A B H.out x k' c' HN.out).mono ?_
  rintro e w1 ⟨rfl, h1, h2⟩
  go_wp2
  go_ret
  exact ⟨rfl, h1, h2⟩

/-- Rows of the call's own: numbers, bids. -/
def bdc (l : List (Int × Int)) : List Value := l.flatMap fun b => [.int .i64 b.1, .int .i64 b.2]
theorem bdc_len (l : List (Int × Int)) : (bdc l).length = l.length * 2 := by
  induction l with
  | nil => rfl
  | cons b l ih => simp only [bdc, List.flatMap_cons, List.length_append, List.length_cons, List.length_nil] at *; omega
theorem bdc_get (l : List (Int × Int)) (i : Nat) (h : i < l.length) : (bdc l)[i * 2]? = some (.int .i64 (l.getD i (0, 0)).1) ∧ (bdc l)[i * 2 + 1]? = some (.int .i64 (l.getD i (0, 0)).2) := by
  induction l generalizing i with
  | nil => simp at h
  | cons b l ih =>
    cases i with
    | zero => simp [bdc]
    | succ i =>
      have h' : i < l.length := by simpa using h
      have := ih i h'
      have e : bdc (b :: l) = .int .i64 b.1 :: .int .i64 b.2 :: bdc l := by simp [bdc]
      rw [e, show (i + 1) * 2 = i * 2 + 1 + 1 by omega]
      simpa using this
def OwnI (w : World) (B : Nat) (v : Value) (l : List Int) : Prop := w.ownsRow B 3 1 v l.length (i64s l)
def OwnB (w : World) (B : Nat) (v : Value) (l : List (Int × Int)) : Prop := w.ownsRow B 63 2 v l.length (bdc l)
theorem OwnB.hb {w : World} {B : Nat} {v : Value} {l : List (Int × Int)} (h : OwnB w B v l) : HB w v l := by
  rcases h.2 with ⟨rfl, h0⟩ | ⟨g, cap, cur, rfl, hb, hg, hn, hm, hs, ht⟩
  · obtain rfl := List.eq_nil_of_length_eq_zero h0
    exact nil_bids
  · refine ⟨_, cap, rfl, hn, hm, fun _ => ⟨g, 0, rfl, fun i hi => ?_⟩⟩
    have key : ∀ j u, (bdc l)[j]? = some u → w.cell? ⟨g, j, none⟩ = some u := fun j u hj => by
      rw [← ht] at hj
      have hlt : j < l.length * 2 := by
        have := (List.getElem?_eq_some_iff.1 hj).1
        simp at this; omega
      rw [List.getElem?_take_of_lt hlt] at hj
      rw [cell_of_row w g j _ _ _ hg]
      simpa using hj
    obtain ⟨c1, c2⟩ := bdc_get l i hi
    rw [Nat.zero_add]
    exact ⟨key _ _ c1, key _ _ c2⟩
theorem row_fr {w w' : World} {B sz n : Nat} {T : TypeId} {v : Value} {xs : List Value} {S : List Nat} (h : w.ownsRow B T sz v n xs) (hg : Fr w w' S) (hne : ∀ r ∈ S, v.ownBlock ≠ some r) : w'.ownsRow B T sz v n xs := by
  refine ⟨h.1, ?_⟩
  rcases h.2 with h2 | ⟨g, cap, cur, rfl, hb, hgg, rest⟩
  · exact .inl h2
  · exact .inr ⟨g, cap, cur, rfl, hb, hg.heap hgg (fun hm => hne g hm rfl), rest⟩
theorem row_ne {w : World} {B sz n : Nat} {T T' : TypeId} {v : Value} {xs : List Value} {g : Nat} {cs : Array Value} (h : w.ownsRow B T sz v n xs) (hg : w.heap[g]? = some (.cells cs T' (0, 0))) (hT : T' ≠ T) : v.ownBlock ≠ some g := by
  rcases h.2 with ⟨rfl, _⟩ | ⟨g', cap, cur, rfl, hb, hgg, rest⟩
  · simp [Value.ownBlock]
  · intro e
    obtain rfl : g' = g := by simpa [Value.ownBlock] using e
    rw [hg] at hgg
    simp at hgg
    exact hT hgg.2
/-- What is no row of this kind stays, where one of this kind turns. -/
theorem row_far {w w' : World} {B sz n : Nat} {T T' : TypeId} {v : Value} {xs : List Value} {g : Nat} {cs : Array Value} (hgr : w.grownBy w' v.ownBlock) (h : w.ownsRow B T sz v n xs) (hg : w.heap[g]? = some (.cells cs T' (0, 0))) (hT : T' ≠ T) : w'.heap[g]? = some (.cells cs T' (0, 0)) := by
  rw [hgr.block g (size_of_row hg) (fun e => row_ne h hg hT e.symm)]; exact hg
theorem RS.ne {w : World} {A : Nat → Addr} {B p : Nat} {l : List Int} {k c : Nat} (h : RS w A B p l k c) {B' sz n : Nat} {T : TypeId} {v : Value} {xs : List Value} (ho : w.ownsRow B' T sz v n xs) (hT : 126 ≠ T) : ∀ r ∈ [p], v.ownBlock ≠ some r := by
  obtain ⟨⟨_, v', hp, _⟩, _⟩ := h
  intro r hr
  obtain rfl := List.mem_singleton.1 hr
  exact row_ne ho hp hT

theorem Fr.row {w0 w w' : World} {S : List Nat} (hf : Fr w0 w S) {B sz n : Nat} {T : TypeId} {v : Value} {xs : List Value} (ho : w.ownsRow B T sz v n xs) (hgr : w.grownBy w' v.ownBlock) (hB : w0.heap.size ≤ B) : Fr w0 w' S :=
  ⟨hgr.os.trans hf.os, hgr.tape.trans hf.tape, hgr.output.trans hf.output, Nat.le_trans hf.size hgr.size, fun k hk hn => by
    rw [hgr.block k (Nat.lt_of_lt_of_le hk hf.size) (fun e => by have := (World.ownsRow.lt ho k e.symm).1; omega)]; exact hf.block k hk hn⟩
theorem RS.rdr {w : World} {A : Nat → Addr} {B p : Nat} {l : List Int} {k c : Nat} (h : RS w A B p l k c) : ∃ cs, w.heap[p]? = some (.cells cs 126 (0, 0)) := by
  obtain ⟨⟨_, v', hp, _⟩, _⟩ := h
  exact ⟨_, hp⟩
theorem RS.low {w : World} {A : Nat → Addr} {B p : Nat} {l : List Int} {k c : Nat} (h : RS w A B p l k c) : B ≤ p := h.rd.1
theorem RS.row {w w' : World} {A : Nat → Addr} {B p : Nat} {l : List Int} {k c : Nat} (h : RS w A B p l k c) {B' sz n : Nat} {T : TypeId} {v : Value} {xs : List Value} (ho : w.ownsRow B' T sz v n xs) (hgr : w.grownBy w' v.ownBlock) (hB : B ≤ B') (h1 : T ≠ 5) (h2 : 126 ≠ T) : RS w' A B p l k c := by
  have hn := h.ne ho h2 p (by simp)
  have hlt := World.ownsRow.lt ho
  have hc : ∀ r, v.ownBlock = some r → ∃ cs, w.heap[r]? = some (.cells cs T (0, 0)) := by
    intro r hr
    rcases ho.2 with ⟨rfl, _⟩ | ⟨g, cap, cur, rfl, _, hgg, _⟩
    · simp [Value.ownBlock] at hr
    · obtain rfl : g = r := by simpa [Value.ownBlock] using hr
      exact ⟨_, hgg⟩
  cases hv : v.ownBlock with
  | none => rw [hv] at hgr; exact h.keep (Fr.of_grown hgr [])
  | some r =>
    rw [hv] at hgr
    refine h.fr (Fr.of_grown_row hgr (S := [r]) (by simp)) (by simp; intro e; subst e; exact hn hv) ?_ ?_
    · intro x hx; obtain rfl := List.mem_singleton.1 hx; have := (hlt x hv).1; omega
    · intro x hx; obtain rfl := List.mem_singleton.1 hx; obtain ⟨cs, hcs⟩ := hc x hv; exact ⟨cs, T, hcs, h1⟩
theorem RS.set {w : World} {A : Nat → Addr} {B p : Nat} {l : List Int} {k c : Nat} (h : RS w A B p l k c) {g : Nat} {cs : Array Value} {T : TypeId} (hg : w.heap[g]? = some (.cells cs T (0, 0))) (hB : B ≤ g) (h1 : T ≠ 5) (h2 : 126 ≠ T) (i : Nat) (v : Value) : RS (w.setCell ⟨g, i, none⟩ v) A B p l k c := by
  refine h.fr (Fr.setCell w g i v (S := [g]) (by simp)) ?_ ?_ ?_
  · simp only [List.mem_singleton]
    rintro rfl
    obtain ⟨cs', hp⟩ := h.rdr
    rw [hp] at hg
    simp at hg
    exact h2 hg.2
  · intro x hx; obtain rfl := List.mem_singleton.1 hx; exact hB
  · intro x hx; obtain rfl := List.mem_singleton.1 hx; exact ⟨cs, T, hg, h1⟩
theorem rep_succ {α : Type} (p : P α) (n : Nat) (l : List Int) (k c : Nat) : rep p (n + 1) l k c = ((rep p n l k c).1 ++ [(p l (rep p n l k c).2.1 (rep p n l k c).2.2).1], (p l (rep p n l k c).2.1 (rep p n l k c).2.2).2.1, (p l (rep p n l k c).2.1 (rep p n l k c).2.2).2.2) := rfl
end Go.Proofs.YtpeocdcciecpoaaDoor
