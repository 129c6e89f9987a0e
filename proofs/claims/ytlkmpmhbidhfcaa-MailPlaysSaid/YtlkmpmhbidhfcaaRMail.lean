/- The document's mail: what it holds; Put, Again. -/
import Derived.Test.YtlkmpmhbidhfcaaMail
import Derived.Test.YtlkmpmhbidhfcaaSameB
namespace Go.Proofs.Ytlkmpmhbidhfcaa
open Go.RowKit

theorem infoRt : (Try.prog.info? 46).map (fun i => (i.zero, i.size, i.bytes)) = some (some (.agg #[.int .i64 0, .slice none 0 0]), 2, 32) := by kernel_rfl
/-- An item: to whom, the slice of its bytes, its bytes. -/
abbrev Rt := Int × Value × List Int
def dR : Rt := (0, .slice none 0 0, [])
def itC (Q : List Rt) : List Value := Q.flatMap fun x => [.int .i64 x.1, x.2.1]
theorem itC_cons (x : Rt) (Q : List Rt) : itC (x :: Q) = .int .i64 x.1 :: x.2.1 :: itC Q := by simp [itC]
theorem itC_app (Q R : List Rt) : itC (Q ++ R) = itC Q ++ itC R := by simp [itC]
theorem itC_len (Q : List Rt) : (itC Q).length = Q.length * 2 := by
  induction Q with
  | nil => rfl
  | cons b l ih => rw [itC_cons]; simp only [List.length_cons] at *; omega
theorem itC_get (Q : List Rt) (i : Nat) (h : i < Q.length) : (itC Q)[i * 2]? = some (.int .i64 (Q.getD i dR).1) ∧ (itC Q)[i * 2 + 1]? = some (Q.getD i dR).2.1 := by
  induction Q generalizing i with
  | nil => simp at h
  | cons b l ih =>
    rw [itC_cons]
    cases i with
    | zero => simp
    | succ i =>
      have h' : i < l.length := by simpa using h
      have := ih i h'
      rw [show (i + 1) * 2 = i * 2 + 1 + 1 by omega]
      simpa using this
theorem itC_take (Q : List Rt) (k : Nat) : itC (Q.take k) = (itC Q).take (k * 2) := by
  induction Q generalizing k with
  | nil => simp [itC]
  | cons b l ih =>
    cases k with
    | zero => simp [itC]
    | succ k => rw [List.take_succ_cons, itC_cons, itC_cons, ih, show (k + 1) * 2 = k * 2 + 1 + 1 by omega]; simp
theorem itC_drop (Q : List Rt) (k : Nat) : itC (Q.drop k) = (itC Q).drop (k * 2) := by
  induction Q generalizing k with
  | nil => simp [itC]
  | cons b l ih =>
    cases k with
    | zero => simp
    | succ k => rw [List.drop_succ_cons, itC_cons, ih, show (k + 1) * 2 = k * 2 + 1 + 1 by omega]; simp

/-- The document's mail at block q: the slice of its items, the items, each with bytes of its own; nothing lost. -/
def Rl (w : World) (B q : Nat) (u : Value) (Q : List Rt) : Prop :=
  B ≤ q ∧ w.heap[q]? = some (.cells #[u, .int .i64 0] 42 (0, 0)) ∧ w.ownsRow B 46 2 u Q.length (itC Q) ∧ ∀ x ∈ Q, Own w B x.2.1 x.2.2
theorem Rl.lt {w : World} {B q : Nat} {u : Value} {Q : List Rt} (h : Rl w B q u Q) : q < w.heap.size := size_of_row h.2.1
theorem Rl.cells {w : World} {B q : Nat} {u : Value} {Q : List Rt} (h : Rl w B q u Q) : w.cell? ⟨q, 0, none⟩ = some u ∧ w.cell? ⟨q, 1, none⟩ = some (.int .i64 0) := row2 h.2.1
theorem Rl.frozen {w : World} {B q : Nat} {u : Value} {Q : List Rt} (h : Rl w B q u Q) (j : Nat) : w.frozen? ⟨q, j, none⟩ = false := frozen_of_row w q j _ _ h.2.1
theorem Rl.shape {w : World} {B q : Nat} {u : Value} {Q : List Rt} (h : Rl w B q u Q) : ∃ a c, u = .slice a Q.length c := row_shape h.2.2.1
def rbs (q : Nat) (u : Value) : List Nat := q :: u.ownBlock.toList
theorem own_cells {w : World} {B g : Nat} {v : Value} {l : List Int} (h : Own w B v l) (hg : v.ownBlock = some g) : ∃ cs, w.heap[g]? = some (.cells cs 5 (0, 0)) := by
  rcases h.2 with ⟨rfl, _⟩ | ⟨g', cap, cur, rfl, _, hgg, _⟩
  · simp [Value.ownBlock] at hg
  · obtain rfl : g' = g := by simpa [Value.ownBlock] using hg
    exact ⟨cur, hgg⟩
theorem Own.keepT {w w' : World} {B : Nat} {v : Value} {l : List Int} {S : List Nat} (h : Own w B v l) (hf : Fr w w' S) (hS : ∀ r ∈ S, ∀ cs fz, w.heap[r]? ≠ some (.cells cs 5 fz)) : Own w' B v l :=
  h.fr hf (fun r hr e => by obtain ⟨cs, hc⟩ := own_cells h e; exact hS r hr _ _ hc)
theorem Rl.apart {w : World} {B q : Nat} {u : Value} {Q : List Rt} (h : Rl w B q u Q) {g : Nat} {cs : Array Value} {T : TypeId} {fz : Nat × Nat} (hg : w.heap[g]? = some (.cells cs T fz)) (h1 : T ≠ 42 := by decide) (h2 : T ≠ 46 := by decide) : g ∉ rbs q u := by
  intro hm
  rcases List.mem_cons.1 hm with rfl | hm
  · have := h.2.1.symm.trans hg
    simp at this
    exact h1 this.2.1.symm
  · exact row_ne h.2.2.1 hg h2 (by simpa using hm)
theorem Rl.fr {w w' : World} {B q : Nat} {u : Value} {Q : List Rt} {S : List Nat} (h : Rl w B q u Q) (hf : Fr w w' S) (hq : q ∉ S) (hu : ∀ r ∈ S, u.ownBlock ≠ some r) (hS : ∀ r ∈ S, ∀ cs fz, w.heap[r]? ≠ some (.cells cs 5 fz)) : Rl w' B q u Q :=
  ⟨h.1, hf.heap h.2.1 hq, row_fr h.2.2.1 hf hu, fun x hx => (h.2.2.2 x hx).keepT hf hS⟩
theorem Rl.keep {w w' : World} {B q : Nat} {u : Value} {Q : List Rt} (h : Rl w B q u Q) (hf : Fr w w' []) : Rl w' B q u Q := h.fr hf (by simp) (by simp) (by simp)
theorem Rl.new {w0 w w' : World} {B q : Nat} {u : Value} {Q : List Rt} (h : Rl w B q u Q) (hB : w0.heap.size ≤ B) {S : List Nat} (hf : Fr w0 w S) (hg : Fr w w' (rbs q u)) : Fr w0 w' S := by
  refine hf.new hg ?_
  intro r hr
  rcases List.mem_cons.1 hr with rfl | hr
  · have := h.1; omega
  · have := (World.ownsRow.lt h.2.2.1 r (by simpa using hr)).1; omega
theorem own_at {w : World} {B g sz n : Nat} {T : TypeId} {v : Value} {xs : List Value} (h : w.ownsRow B T sz v n xs) (hg : v.ownBlock = some g) : ∃ cs, w.heap[g]? = some (.cells cs T (0, 0)) := by
  rcases h.2 with ⟨rfl, _⟩ | ⟨g', cap, cur, rfl, _, hgg, _⟩
  · simp [Value.ownBlock] at hg
  · obtain rfl : g' = g := by simpa [Value.ownBlock] using hg
    exact ⟨cur, hgg⟩
/-- The two mails are apart. -/
theorem Ml.keepR {w w' : World} {B p : Nat} {v : Value} {L : List Lt} {n : Nat} (h : Ml w B p v L n) {B' q : Nat} {u : Value} {Q : List Rt} (hr : Rl w B' q u Q) (hf : Fr w w' (rbs q u)) : Ml w' B p v L n := by
  refine h.fr hf (hr.apart h.2.1) (fun r hm e => ?_)
  obtain ⟨cs, hc⟩ := own_at h.2.2 e
  exact hr.apart hc (by decide) (by decide) hm
theorem Rl.keepM {w w' : World} {B p : Nat} {v : Value} {L : List Lt} {n : Nat} (h : Ml w B p v L n) {B' q : Nat} {u : Value} {Q : List Rt} (hr : Rl w B' q u Q) (hf : Fr w w' (mbs p v)) : Rl w' B' q u Q := by
  refine hr.fr hf (h.apart hr.2.1 (by decide) (by decide)) (fun r hm e => ?_) (fun r hm cs fz e => h.apart e (by decide) (by decide) hm)
  obtain ⟨cs, hc⟩ := own_at hr.2.2.1 e
  exact h.apart hc (by decide) (by decide) hm
theorem Rl.at {w : World} {B q : Nat} {u : Value} {Q : List Rt} (h : Rl w B q u Q) (i : Nat) (hi : i < Q.length) : ∃ g c, u = .slice (some ⟨g, 0, none⟩) Q.length c ∧ Q.length ≤ c ∧ c ≤ maxLen ∧
    w.cell? ⟨g, i * 2, none⟩ = some (.int .i64 (Q.getD i dR).1) ∧ w.cell? ⟨g, i * 2 + 1, none⟩ = some (Q.getD i dR).2.1 := by
  obtain ⟨g, c, rfl, hc, hm, _⟩ := row_head h.2.2.1 (by omega)
  have h2 := World.ownsRow.cellAt h.2.2.1
  obtain ⟨g0, g1⟩ := itC_get Q i hi
  exact ⟨g, c, rfl, hc, hm, (h2 _ (by omega)).trans g0, (h2 _ (by omega)).trans g1⟩
theorem Rl.own {w : World} {B q : Nat} {u : Value} {Q : List Rt} (h : Rl w B q u Q) (i : Nat) (hi : i < Q.length) : Own w B (Q.getD i dR).2.1 (Q.getD i dR).2.2 := by
  have : Q.getD i dR = Q[i] := by simp [hi]
  rw [this]
  exact h.2.2.2 _ (List.getElem_mem hi)
theorem new_rmail (w : World) : Rl (w.alloc (.cells #[.slice none 0 0, .int .i64 0] 42)) w.heap.size w.heap.size (.slice none 0 0) [] :=
  ⟨Nat.le_refl _, heap_alloc_new _ _, ⟨rfl, .inl ⟨rfl, rfl⟩⟩, by simp⟩

/-- Behind a Put. -/
def Rp (w w' : World) (B q : Nat) (u : Value) (Q : List Rt) (t : Int) (l : List Int) : Prop := ∃ u' sv, Rl w' B q u' (Q ++ [(t, sv, l)]) ∧ Fr w w' (rbs q u)
set_option maxRecDepth 100000 in
theorem rput_yes (B q : Nat) (u : Value) (Q : List Rt) (t : Int) (bv : Value) (l : List Int) (w : World) (h : Rl w B q u Q) (hb : Bytes w bv l) (hL : Q.length < 4096) (hl : l.length ≤ 1000000) :
    Calls Try.prog 16 #[.pointer (some ⟨q, 0, none⟩), .int .i64 t, bv] w fun e w' => e = .returned (.bool true) ∧ Rp w w' B q u Q t l := by
  have H := Lib.hid h
  have HB := Lib.hid (hb.fr (Fr.drew w []) (by simp))
  have HBL := Lib.hid (show B ≤ w.heap.size by have := h.1; have := h.lt; omega)
  obtain ⟨a, c, rfl⟩ := h.shape
  obtain ⟨c0, _⟩ := h.cells
  have hge : ¬ (Q.length : Int) ≥ 4096 := by omega
  obtain ⟨i0, hi, hz0, hz1, hz2⟩ := info_parts infoRt
  have HHL := Lib.hid hL
  have HL := Lib.hid hl
  clear h hb hL hl
  go_enter Try.func16, Try.ntmps16
  go_wp2
  go_region_law (first
    | (go_simp; go_at_call 27; refine (bytes_any bv l _ HB.out (by have := HL.out; omega)).mono ?_; rintro e wa ⟨sv, rfl, ho, hg⟩; obtain ⟨sa, sc, rfl⟩ := ho.shape; have OB := Lib.hid ho; have FB := Lib.hid ((Fr.drew w []).trans (Fr.of_grown hg [])); have k0 := (H.out.keep FB.out).cells.1; have k1 := (row2 ((Fr.alloc wa (.cells #[.int .i64 t, .slice sa l.length sc] 46) []).heap (H.out.keep FB.out).2.1 (by simp))).1; clear ho hg)
    | (refine step_append_lies _ (by rfl) _ _ _ (by rfl) B 46 i0 _ 2 32 Try.underlying40 hi hz0 hz1 hz2 rfl (by omega) (.slice a Q.length c) Q.length (itC Q) (by rfl) (World.ownsRow.alloc (H.out.keep FB.out).2.2.1 _) ⟨wa.heap.size, 0, none⟩ 1 1 [.int .i64 t, .slice sa l.length sc] (by rfl) (by rfl) (World.news_of_block (cs := #[.int .i64 t, .slice sa l.length sc]) (t := 46) (fr := (0, 0)) (heap_alloc_new _ _)) (by simp [Value.oneCell']) (by omega) (by have := HHL.out; unfold maxLen; omega) (by have := HHL.out; omega) (by have h1 := HBL.out; have h2 := FB.out.size; simp; omega) (wa.heap.size + 1) (by simp) ?_; intro gg cap wc hown hgrow hat hlt'; have OC := Lib.hid hown; have GC := Lib.hid hgrow; have PC := Lib.hid (row_far hgrow (World.ownsRow.alloc (H.out.keep FB.out).2.2.1 _) ((Fr.alloc wa (.cells #[.int .i64 t, .slice sa l.length sc] 46) []).heap (H.out.keep FB.out).2.1 (by simp)) (by decide)); have fc := frozen_of_row _ _ 0 _ _ PC.out; have k2 := (row2 PC.out).1; clear hown hgrow hat hlt'))
  all_goals
    go_wp2
    go_ret
    have HA := Lib.hid (H.out.keep FB.out)
    have HF2 : Hid (Fr wa (wc.setCell ⟨q, 0, none⟩ (.slice (some ⟨gg, 0, none⟩) (Q.length + 1) cap)) (rbs q (.slice a Q.length c))) :=
      (((Fr.alloc wa (.cells #[.int .i64 t, .slice sa l.length sc] 46) []).mono (by simp)).grown_own GC.out (fun r hr => .inl (by simp [rbs, hr]))).trans (Fr.setCell _ _ _ _ (by simp [rbs]))
    have HNO := Lib.hid (fun r (hr : r ∈ rbs q (.slice a Q.length c)) cs fz (e : wa.heap[r]? = some (.cells cs 5 fz)) => HA.out.apart e (by decide) (by decide) hr)
    refine ⟨rfl, _, .slice sa l.length sc, ⟨H.out.1, by rw [heap_setCell_same _ q 0 _ _ _ PC.out]; rfl, ?_, ?_⟩, (FB.out.mono (by simp)).trans HF2.out⟩
    · rw [itC_app, List.length_append]
      exact row_set OC.out PC.out (by decide) _ _
    · intro x hx
      rcases List.mem_append.1 hx with hx | hx
      · exact (HA.out.2.2.2 x hx).keepT HF2.out HNO.out
      · obtain rfl := List.mem_singleton.1 hx
        exact (OB.out.mono (by have := HBL.out; simp; omega)).keepT HF2.out HNO.out

theorem Rp.drew {w w' : World} {B q : Nat} {u : Value} {Q : List Rt} {t : Int} {l : List Int} (h : Rp w.drew w' B q u Q t l) : Rp w w' B q u Q t l := by
  obtain ⟨u', sv, hr, hf⟩ := h
  exact ⟨u', sv, hr, (Fr.drew w _).trans hf⟩
theorem ragain_none (B q : Nat) (u : Value) (Q : List Rt) (i : Int) (w : World) (h : Rl w B q u Q) (hi : ¬ (0 ≤ i ∧ i < (Q.length : Int))) :
    Calls Try.prog 18 #[.pointer (some ⟨q, 0, none⟩), .int .i64 i] w fun e w' => e = .returned (.bool false) ∧ w = w' := by
  obtain ⟨a, c, rfl⟩ := h.shape
  obtain ⟨c0, _⟩ := h.cells
  obtain ⟨n, hn⟩ : ∃ n, n = Q.length := ⟨_, rfl⟩
  rw [← hn] at c0 hi
  clear h hn
  by_cases h0 : 0 ≤ i
  · have h1 : (n : Int) ≤ i := by omega
    have h2 : ¬ i < 0 := by omega
    clear hi
    go_enter Try.func18, Try.ntmps18
    go_wp2
    go_ret
    exact ⟨rfl, rfl⟩
  · have h2 : i < 0 := by omega
    clear hi
    go_enter Try.func18, Try.ntmps18
    go_wp2
    go_ret
    exact ⟨rfl, rfl⟩
set_option maxHeartbeats 2000000 in
set_option maxRecDepth 100000 in
theorem ragain_yes (B q : Nat) (u : Value) (Q : List Rt) (i : Nat) (w : World) (h : Rl w B q u Q) (hi : i < Q.length) (hL : Q.length < 4096) (hl : (Q.getD i dR).2.2.length ≤ 1000000) :
    Calls Try.prog 18 #[.pointer (some ⟨q, 0, none⟩), .int .i64 i] w fun e w' => e = .returned (.bool true) ∧ Rp w w' B q u Q (Q.getD i dR).1 (Q.getD i dR).2.2 := by
  have HD := Lib.hid (h.keep (Fr.drew w []))
  obtain ⟨c0, _⟩ := h.cells
  obtain ⟨g, c, rfl, h1, h2, e0, e1⟩ := h.at i hi
  have ho := h.own i hi
  obtain ⟨x, hx⟩ : ∃ x, x = Q.getD i dR := ⟨_, rfl⟩
  rw [← hx] at e0 e1 ho hl ⊢
  have HO := Lib.hid (ho.bytes.fr (Fr.drew w []) (by simp))
  unfold maxLen at h2
  have h3 : ¬ (i : Int) < 0 := by omega
  have h4 : ¬ (Q.length : Int) ≤ (i : Int) := by omega
  have HHL := Lib.hid hL
  have HL := Lib.hid hl
  clear h ho hx hL hl
  go_enter Try.func18, Try.ntmps18
  go_wp2
  go_region_law (go_simp; go_at_call 16; refine (rput_yes B q _ Q x.1 x.2.1 x.2.2 _ HD.out HO.out HHL.out HL.out).mono ?_; rintro e wa ⟨rfl, hp⟩; have RP := Lib.hid hp.drew; clear hp)
  all_goals
    go_wp2
    go_ret
    exact ⟨rfl, RP.out⟩
end Go.Proofs.Ytlkmpmhbidhfcaa
