/- The law of plays: whatever is put, taken, copied, swapped: what is there, in order, each answer, are what the chapter says; a copy goes its own way: its walk. -/
import Derived.Test.YtlkmpmhbidhfcaaMTake
import Derived.Test.YtlkmpmhbidhfcaaMSwap
import Derived.Test.YtlkmpmhbidhfcaaMAll
import Derived.Test.YtlkmpmhbidhfcaaMClone
import Derived.Test.YtlkmpmhbidhfcaaMFirst
import Derived.Test.YtlkmpmhbidhfcaaRMail2
import Derived.Test.YtlkmpmhbidhfcaaDOpen
import Derived.Deep.DeepCutAuto
import Derived.Deep.CutBlock
import Derived.Deep.RegionWith
import Derived.Deep.RegionHeld3
namespace Go.Proofs.Ytlkmpmhbidhfcaa
open Go.RowKit

/-- The program's letters, of the document's items. -/
def toL (Q : List Rt) : List Lt := Q.map fun x => (x.1, strOfNums x.2.2)
theorem toL_len (Q : List Rt) : (toL Q).length = Q.length := by simp [toL]
theorem toL_get (Q : List Rt) (i : Nat) (h : i < Q.length) : (toL Q).getD i dL = ((Q.getD i dR).1, strOfNums (Q.getD i dR).2.2) := by simp [toL, h]
theorem toL_snoc (Q : List Rt) (t : Int) (v : Value) (l : List Int) : toL (Q ++ [(t, v, l)]) = toL Q ++ [(t, strOfNums l)] := by simp [toL]
theorem toL_erase (Q : List Rt) (i : Nat) : toL (Q.eraseIdx i) = (toL Q).eraseIdx i := by
  simp [toL, List.eraseIdx_eq_take_drop_succ, List.map_append, List.map_take, List.map_drop]
theorem toL_swp (Q : List Rt) (i k : Nat) (hi : i < Q.length) (hk : k < Q.length) : toL (rswp Q i k) = swp (toL Q) i k := by
  unfold rswp swp
  rw [toL_get Q i hi, toL_get Q k hk]
  simp [toL, List.map_set]
/-- Items of few bytes. -/
def Sm (Q : List Rt) : Prop := ∀ x ∈ Q, x.2.2.length ≤ 60 ∧ ∀ y ∈ x.2.2, 0 ≤ y ∧ y < 256
theorem Sm.get {Q : List Rt} (h : Sm Q) (i : Nat) (hi : i < Q.length) : (Q.getD i dR).2.2.length ≤ 60 ∧ ∀ y ∈ (Q.getD i dR).2.2, 0 ≤ y ∧ y < 256 := by
  have : Q.getD i dR = Q[i] := by simp [hi]
  rw [this]
  exact h _ (List.getElem_mem hi)
theorem Sm.size {Q : List Rt} (h : Sm Q) (i : Nat) (hi : i < (toL Q).length) : ((toL Q).getD i dL).2.size ≤ 1000000 := by
  rw [toL_len] at hi
  rw [toL_get Q i hi, str_size]
  have := (h.get i hi).1
  omega
theorem Sm.nums {Q : List Rt} (h : Sm Q) (i : Nat) (hi : i < Q.length) : numsOf ((toL Q).getD i dL).2 = (Q.getD i dR).2.2 := by
  rw [toL_get Q i hi]
  exact numsOf_str _ (h.get i hi).2
theorem Sm.erase {Q : List Rt} (h : Sm Q) (i : Nat) : Sm (Q.eraseIdx i) := fun x hx => h x (List.mem_of_mem_eraseIdx hx)
theorem Sm.snoc {Q : List Rt} (h : Sm Q) {t : Int} {v : Value} {l : List Int} (h1 : l.length ≤ 60) (h2 : ∀ y ∈ l, 0 ≤ y ∧ y < 256) : Sm (Q ++ [(t, v, l)]) := by
  intro x hx
  rcases List.mem_append.1 hx with hx | hx
  · exact h x hx
  · obtain rfl := List.mem_singleton.1 hx
    exact ⟨h1, h2⟩
theorem Sm.swap {Q : List Rt} (h : Sm Q) {i k : Nat} (hi : i < Q.length) (hk : k < Q.length) : Sm (rswp Q i k) := by
  intro x hx
  rcases List.mem_or_eq_of_mem_set hx with hx | rfl
  · rcases List.mem_or_eq_of_mem_set hx with hx | rfl
    · exact h x hx
    · exact h.get k hk
  · exact h.get i hi
/-- The program's mail and the document's, alike. -/
def PM (w : World) (B p q : Nat) (v u : Value) (Q : List Rt) : Prop := Ml w B p v (toL Q) 0 ∧ Rl w B q u Q ∧ Sm Q
theorem PM.keep {w w' : World} {B p q : Nat} {v u : Value} {Q : List Rt} (h : PM w B p q v u Q) (hf : Fr w w' []) : PM w' B p q v u Q := ⟨h.1.keep hf, h.2.1.keep hf, h.2.2⟩
/-- A mail's block alone: how many there are. -/
def Ln (w : World) (p N : Nat) : Prop := ∃ a c x, w.heap[p]? = some (.cells #[.slice a N c, x] 26 (0, 0))
theorem Ln.fr {w w' : World} {p N : Nat} {S : List Nat} (h : Ln w p N) (hf : Fr w w' S) (hp : p ∉ S) : Ln w' p N := by
  obtain ⟨a, c, x, h⟩ := h
  exact ⟨a, c, x, hf.heap h hp⟩
theorem Ml.ln {w : World} {B p : Nat} {v : Value} {L : List Lt} {n : Nat} (h : Ml w B p v L n) : Ln w p L.length := by
  obtain ⟨a, c, rfl⟩ := h.shape
  exact ⟨a, c, _, h.2.1⟩
theorem Ln.keepM {w w' : World} {r N : Nat} (h : Ln w r N) {B p : Nat} {v : Value} {L : List Lt} {n : Nat} (hm : Ml w B p v L n) (hf : Fr w w' (mbs p v)) (hne : p ≠ r) : Ln w' r N := by
  refine h.fr hf (fun hr => ?_)
  obtain ⟨a, c, x, hh⟩ := h
  rcases List.mem_cons.1 hr with e | e
  · exact hne e.symm
  · exact row_ne hm.2.2 hh (by decide) (by simpa using e)
theorem Ln.keepR {w w' : World} {r N : Nat} (h : Ln w r N) {B q : Nat} {u : Value} {Q : List Rt} (hq : Rl w B q u Q) (hf : Fr w w' (rbs q u)) : Ln w' r N := by
  refine h.fr hf (fun hr => ?_)
  obtain ⟨a, c, x, hh⟩ := h
  exact hq.apart hh (by decide) (by decide) hr
theorem len_ln (p N : Nat) (w : World) (h : Ln w p N) :
    Calls Try.prog 12 #[.pointer (some ⟨p, 0, none⟩)] w fun e w' => e = .returned (.int .i64 (N : Int)) ∧ w = w' := by
  obtain ⟨a, c, x, h⟩ := h
  obtain ⟨c0, _⟩ := row2 h
  clear h
  go_enter Try.func12, Try.ntmps12
  go_wp2
  go_ret
  exact ⟨rfl, rfl⟩
theorem row4 {w : World} {g : Nat} {a b c d : Value} {T : TypeId} (h : w.heap[g]? = some (.cells #[a, b, c, d] T (0, 0))) :
    w.cell? ⟨g, 0, none⟩ = some a ∧ w.cell? ⟨g, 1, none⟩ = some b ∧ w.cell? ⟨g, 2, none⟩ = some c ∧ w.cell? ⟨g, 3, none⟩ = some d :=
  ⟨by rw [cell_of_row w g 0 _ _ _ h]; rfl, by rw [cell_of_row w g 1 _ _ _ h]; rfl, by rw [cell_of_row w g 2 _ _ _ h]; rfl, by rw [cell_of_row w g 3 _ _ _ h]; rfl⟩
/-- A contract that leaves the world alone, in a quiet region. -/
theorem quiet_same {P : Program} {f : FuncId} {args : Array Value} {w : World} {n : Nat} {v : Value}
    (h : Calls P f args (w.drewN n) fun e w' => e = .returned v ∧ w.drewN n = w') : Calls P f args (w.drewN n) fun e w'' => e = .returned v ∧ ∃ m, w'' = w.drewN m :=
  h.mono fun _ _ ⟨he, hm⟩ => ⟨he, n, hm.symm⟩

set_option maxHeartbeats 4000000 in
set_option maxRecDepth 100000 in
theorem mplays_walk (V : Value) (l : List D4) (w : World) (h : HD w V l) :
    Calls Try.prog 4 #[V] w fun e w' => e = .returned (.bool true) ∧ w.grownBy w' none := by
  obtain ⟨la, lc, rfl, hl1, hl2, hcell⟩ := h
  obtain ⟨n, hn⟩ : ∃ n, n = l.length := ⟨_, rfl⟩
  rw [← hn] at hl1 hcell ⊢
  have HCELL := Lib.hid hcell
  unfold maxLen at hl2
  clear hcell hn
  by_cases hbig : 60 < n
  · have hb : 60 < (n : Int) := by omega
    go_enter Try.func4, Try.ntmps4
    go_wp2_with fail
    refine (first_any _).mono ?_
    rintro e w1 ⟨rfl, hf⟩
    have F1 := Lib.hid hf
    clear hf
    go_wp2
    go_ret
    exact ⟨rfl, F1.out.grown (by simp)⟩
  · have hb : ¬ 60 < (n : Int) := by omega
    go_enter Try.func4, Try.ntmps4
    go_wp2_with fail
    refine (first_any _).mono ?_
    rintro e w1 ⟨rfl, hf⟩
    have F1 := Lib.hid hf
    clear hf hb
    have HS := Lib.hid F1.out.size
    obtain ⟨W2, hW2⟩ : ∃ W2, W2 = (w1.alloc (.cells #[.slice none 0 0, .int .i64 0] 26)).alloc (.cells #[.slice none 0 0, .int .i64 0] 42) := ⟨_, rfl⟩
    have P2 := Lib.hid (show PM W2 w1.heap.size w1.heap.size (w1.heap.size + 1) (.slice none 0 0) (.slice none 0 0) [] by
      rw [hW2]
      refine ⟨(new_mail w1).keep (Fr.alloc _ _ []), ?_, fun x hx => by simp at hx⟩
      have h := new_rmail (w1.alloc (.cells #[.slice none 0 0, .int .i64 0] 26))
      rw [show (w1.alloc (.cells #[.slice none 0 0, .int .i64 0] 26)).heap.size = w1.heap.size + 1 by simp] at h
      exact ⟨by omega, h.2.1, row_mono h.2.2.1 (by omega), by simp⟩)
    have F2 := Lib.hid (show Fr w W2 [] by rw [hW2]; exact F1.out.trans ((Fr.alloc w1 _ []).trans (Fr.alloc _ _ [])))
    have HW := Lib.hid hW2
    clear hW2
    go_wp2
    rw [← HW.out]
    go_loopw [6] (fun i wr => ∃ (k : Nat) (v u : Value) (Q : List Rt), k ≤ n ∧ i = .int .i64 k ∧ PM wr w1.heap.size w1.heap.size (w1.heap.size + 1) v u Q ∧ Q.length ≤ k ∧ Fr w wr []) (fun i _ => n - (intOf i).toNat)
    case atStart => exact ⟨0, _, _, [], Nat.zero_le _, rfl, P2.out, Nat.le_refl _, F2.out⟩
    case round =>
      obtain ⟨k, v, u, Q, hk, rfl, hp, hql, hf⟩ := hrel
      have PM0 := Lib.hid hp
      have F0 := Lib.hid hf
      clear hp hf
      by_cases hlt : k < n
      · obtain ⟨bb, off, rfl, hcl⟩ := HCELL.out (by omega)
        obtain ⟨vb, e0, e1, e2, e3, eb, er⟩ := hcl k hlt
        obtain ⟨D, hD⟩ : ∃ D, D = l.getD k zD := ⟨_, rfl⟩
        rw [← hD] at e0 e1 e2 eb er
        obtain ⟨K, A, C, bs⟩ := D
        simp only at e0 e1 e2 eb er
        have d0 := F0.out.cell e0 (by simp)
        have d1 := F0.out.cell e1 (by simp)
        have d2 := F0.out.cell e2 (by simp)
        have d3 := F0.out.cell e3 (by simp)
        obtain ⟨va, vc, rfl⟩ := eb.shape
        have EB := Lib.hid (eb.keep F0.out)
        have EB0 := Lib.hid eb
        have ER := Lib.hid er
        clear hcl hD e0 e1 e2 e3 eb er
        obtain ⟨W3, hW3⟩ : ∃ W3, W3 = wr.alloc (.cells #[.int .i64 K, .int .i64 A, .int .i64 C, .slice va bs.length vc] 44) := ⟨_, rfl⟩
        have FA := Lib.hid (show Fr wr W3 [] by rw [hW3]; exact Fr.alloc _ _ [])
        have D3 := Lib.hid (show W3.heap[wr.heap.size]? = some (.cells #[.int .i64 K, .int .i64 A, .int .i64 C, .slice va bs.length vc] 44 (0, 0)) by rw [hW3]; exact heap_alloc_new _ _)
        have PM3 := Lib.hid (PM0.out.keep FA.out)
        have F3 := Lib.hid (F0.out.trans FA.out)
        have EB3 := Lib.hid (EB.out.keep FA.out)
        obtain ⟨x0, x1, x2, x3⟩ := row4 D3.out
        have HW3 := Lib.hid hW3
        clear hW3 EB PM0 F0
        by_cases hbs : 60 < bs.length
        · have hbs' : 60 < (bs.length : Int) := by omega
          go_upto_region 12 with fail
          rw [← HW3.out]
          go_wp2
          go_ret
          exact ⟨rfl, F3.out.grown (by simp)⟩
        · have hbs' : ¬ 60 < (bs.length : Int) := by omega
          go_upto_region 12 with fail
          rw [← HW3.out]
          go_wp2_with fail
          refine (clone_any _ _ _ _ _ _ PM3.out.1 (by rw [toL_len]; omega)).mono ?_
          rintro e w5 ⟨cu, rfl, qc, cv, rfl, hc, hf5⟩
          have LN5 := Lib.hid (show Ln w5 qc Q.length by have := hc.ln; rwa [toL_len] at this)
          have HQC := Lib.hid (show w1.heap.size ≠ qc ∧ w1.heap.size + 1 ≠ qc by have h1 := hc.1; have h2 := PM3.out.1.lt; have h3 := PM3.out.2.1.lt; omega)
          have PM5 := Lib.hid (PM3.out.keep hf5)
          have F5 := Lib.hid (F3.out.trans hf5)
          have D5 := Lib.hid (hf5.heap D3.out (by simp))
          have EB5 := Lib.hid (EB3.out.keep hf5)
          obtain ⟨y0, y1, y2, y3⟩ := row4 D5.out
          obtain ⟨db, hdb⟩ : ∃ db, db = wr.heap.size := ⟨_, rfl⟩
          rw [← hdb] at y0 y1 y2 y3 D5
          rw [← hdb]
          clear hc hf5 x0 x1 x2 x3 D3 PM3 F3 EB3 d0 d1 d2 d3 hdb HW3 FA
          go_wp2_with fail
          refine (len_ln _ _ _ LN5.out).mono ?_
          rintro e w6 ⟨rfl, rfl⟩
          go_upto_block 2 with fail
          go_cut [] (fun wc => ∃ (v' u' : Value) (Q' : List Rt), PM wc w1.heap.size w1.heap.size (w1.heap.size + 1) v' u' Q' ∧ Q'.length ≤ k + 1 ∧ Ln wc qc Q.length ∧ Fr w wc [])
          case first =>
            have hqc1 := HQC.out.1
            have hqc2 := HQC.out.2
            by_cases k1 : K = 1
            · subst k1
              have hM5 := Lib.hid (PM5.out.1.keep (Fr.drew w5 []))
              have hR5 := Lib.hid (PM5.out.2.1.keep (Fr.drew w5 []))
              have hF5 := Lib.hid (F5.out.trans (Fr.drew w5 []))
              have hD5 := Lib.hid ((Fr.drew w5 []).heap D5.out (by simp))
              have hL5 := Lib.hid (LN5.out.fr (Fr.drew w5 []) (by simp))
              go_wp2_with fail
              go_region_held3 (fun w' => w'.cell? ⟨db, 1, none⟩ = some (.int .i64 A) ∧ w'.cell? ⟨db, 3, none⟩ = some (.slice va bs.length vc)) (first | exact ⟨y1, y3⟩ | exact ⟨s1, s3⟩ | exact ⟨t1, t3⟩)
                (first
                  | (go_at_call 9; refine (put_yes w1.heap.size w1.heap.size v (toL Q) 0 A _ bs _ hM5.out (EB0.out.keep hF5.out) (by omega) (by rw [toL_len]; omega)).mono ?_; rintro e w6 ⟨rfl, v6, hm6, hf6⟩; have hr6 := Rl.keepM hM5.out hR5.out hf6; have F6 := hM5.out.new HS.out hF5.out hf6; have D6 := hM5.out.other hf6 hD5.out; obtain ⟨s0, s1, s2, s3⟩ := row4 D6)
                  | (go_at_call 16; refine (rput_yes w1.heap.size (w1.heap.size + 1) u Q A _ bs _ hr6 (EB0.out.keep F6) (by omega) (by omega)).mono ?_; rintro e w7 ⟨rfl, u7, sv, hr7, hf7⟩; have hm7 := hm6.keepR hr6 hf7; have F7 := hr6.new HS.out F6 hf7; have D7 := hf7.heap D6 (hr6.apart D6); obtain ⟨t0, t1, t2, t3⟩ := row4 D7))
              · have LN7 := Lib.hid ((hL5.out.keepM hM5.out hf6 hqc1).keepR hr6 hf7)
                have HPM : Hid (PM w7 w1.heap.size w1.heap.size (w1.heap.size + 1) v6 u7 (Q ++ [(A, sv, bs)])) := ⟨by rw [toL_snoc]; exact hm7, hr7, PM5.out.2.2.snoc (by omega) ER.out⟩
                have HF7 := Lib.hid F7
                clear hm7 hr7 F7 hf7 hm6 hr6 F6 hf6 D6 D7
                go_wp2_with fail
                go_meet
                exact ⟨v6, u7, _, HPM.out, by simp; omega, LN7.out, HF7.out⟩
            · have kb1 : (K == 1) = false := by simp [k1]
              clear k1
              by_cases k2 : K = 2
              · subst k2
                by_cases ha' : 0 ≤ A ∧ A < (Q.length : Int)
                · obtain ⟨a, rfl⟩ := Int.eq_ofNat_of_zero_le ha'.1
                  have ha : a < Q.length := by omega
                  clear ha'
                  go_wp2_with fail
                  refine (take_any w1.heap.size w1.heap.size v (toL Q) 0 a _ PM5.out.1 (by rw [toL_len]; exact ha) (PM5.out.2.2.size a (by rw [toL_len]; exact ha))).mono ?_
                  rintro e w6 ⟨tu, rfl, xx, rfl, hit, v6, hm6, hf6⟩
                  rw [PM5.out.2.2.nums a ha, toL_get Q a ha] at hit
                  obtain ⟨X, hX⟩ : ∃ X, X = Q.getD a dR := ⟨_, rfl⟩
                  have HX := Lib.hid hX
                  rw [← hX] at hit
                  have hsm := PM5.out.2.2.get a ha
                  rw [← hX] at hsm
                  clear hX
                  obtain ⟨X1, Xv, Xl⟩ := X
                  simp only at hit hsm
                  have hr6 := Rl.keepM PM5.out.1 PM5.out.2.1 hf6
                  have F6 := PM5.out.1.new HS.out F5.out hf6
                  have D6 := PM5.out.1.other hf6 D5.out
                  have L6 := LN5.out.keepM PM5.out.1 hf6 hqc1
                  obtain ⟨g, c, cs, fz, rfl, _, hby, hrow, _⟩ := hit
                  have FA7 := Lib.hid (Fr.alloc w6 (.cells #[.int .i64 X1, .slice (some ⟨g, 0, none⟩) Xl.length c] 31) [])
                  have I7 := Lib.hid (heap_alloc_new w6 (.cells #[.int .i64 X1, .slice (some ⟨g, 0, none⟩) Xl.length c] 31))
                  have M7 := Lib.hid (hm6.keep FA7.out)
                  have R7 := Lib.hid (hr6.keep FA7.out)
                  have F7 := Lib.hid (F6.trans FA7.out)
                  have D7 := Lib.hid (FA7.out.heap D6 (by simp))
                  have L7 := Lib.hid (L6.fr FA7.out (by simp))
                  have Y7 := Lib.hid (hby.keep FA7.out)
                  have B7 := Lib.hid (FA7.out.heap hrow (by simp))
                  obtain ⟨_, s1, _, _⟩ := row4 D7.out
                  clear hm6 hf6 hr6 F6 D6 L6 hby hrow
                  go_wp2_with fail
                  refine (rtake_any w1.heap.size (w1.heap.size + 1) u Q a _ R7.out ha (by omega)).mono ?_
                  rintro e w8 ⟨ru, rfl, hru⟩
                  unfold RtakeQ at hru
                  rw [← HX.out] at hru
                  obtain ⟨rfl, ⟨u8', hr8, hf8⟩, ho8⟩ := hru
                  simp only at ho8 ⊢
                  obtain ⟨xa, xc, rfl⟩ := ho8.shape
                  have M8 := Lib.hid (M7.out.keepR R7.out hf8)
                  have R8 := Lib.hid hr8
                  have F8 := Lib.hid (R7.out.new HS.out F7.out hf8)
                  have I8 := Lib.hid (hf8.heap I7.out (R7.out.apart I7.out))
                  have L8 := Lib.hid (L7.out.keepR R7.out hf8)
                  have Y8 := Lib.hid (Y7.out.fr hf8 (by intro r hr e; simp [Value.ownBlock] at e; subst e; exact R7.out.apart B7.out (by decide) (by decide) hr))
                  have O8 := Lib.hid ho8.bytes
                  clear hr8 hf8 ho8 s1
                  have FA9 := Lib.hid (Fr.alloc w8 (.cells #[.int .i64 X1, .slice xa Xl.length xc] 46) [])
                  have I9 := Lib.hid (FA9.out.heap I8.out (by simp))
                  have J9 := Lib.hid (heap_alloc_new w8 (.cells #[.int .i64 X1, .slice xa Xl.length xc] 46))
                  obtain ⟨i0, i1⟩ := row2 I9.out
                  obtain ⟨j0, j1⟩ := row2 J9.out
                  go_wp2_with fail
                  refine (same_any _ Xl _ Xl _ (Y8.out.keep FA9.out) (O8.out.keep FA9.out) (by omega) true (by simp)).mono ?_
                  rintro e w9 ⟨rfl, hg9⟩
                  have FG := Lib.hid (FA9.out.trans (Fr.of_grown hg9 []))
                  clear hg9 i0 i1 j0 j1
                  go_wp2_with fail
                  go_meet
                  exact ⟨v6, u8', Q.eraseIdx a, ⟨by rw [toL_erase]; exact M8.out.keep FG.out, R8.out.keep FG.out, PM5.out.2.2.erase a⟩, by rw [List.length_eraseIdx]; split <;> omega, L8.out.fr FG.out (by simp), F8.out.trans FG.out⟩
                · have ha := ha'
                  clear ha'
                  go_wp2_with fail
                  refine (take_none w1.heap.size w1.heap.size v (toL Q) 0 A _ PM5.out.1 (by rw [toL_len]; exact ha)).mono ?_
                  rintro e w6 ⟨rfl, hf6⟩
                  have FA7 := Lib.hid (Fr.alloc w6 (.cells #[.int .i64 0, .slice none 0 0] 31) [])
                  have I7 := Lib.hid (heap_alloc_new w6 (.cells #[.int .i64 0, .slice none 0 0] 31))
                  have F57 := Lib.hid (hf6.trans FA7.out)
                  obtain ⟨_, s1, _, _⟩ := row4 (F57.out.heap D5.out (by simp))
                  clear hf6
                  go_wp2_with fail
                  refine (rtake_none w1.heap.size (w1.heap.size + 1) u Q A _ (PM5.out.2.1.keep F57.out) ha).mono ?_
                  rintro e w8 ⟨rfl, hf8⟩
                  have F58 := Lib.hid (F57.out.trans hf8)
                  have I8 := Lib.hid (hf8.heap I7.out (by simp))
                  clear hf8 s1
                  have FA9 := Lib.hid (Fr.alloc w8 (.cells #[.int .i64 0, .slice none 0 0] 46) [])
                  have I9 := Lib.hid (FA9.out.heap I8.out (by simp))
                  have J9 := Lib.hid (heap_alloc_new w8 (.cells #[.int .i64 0, .slice none 0 0] 46))
                  obtain ⟨i0, i1⟩ := row2 I9.out
                  obtain ⟨j0, j1⟩ := row2 J9.out
                  go_wp2_with fail
                  refine (same_any _ [] _ [] _ nil_bytes nil_bytes (by simp) true (by simp)).mono ?_
                  rintro e w9 ⟨rfl, hg9⟩
                  have FG := Lib.hid ((F58.out.trans FA9.out).trans (Fr.of_grown hg9 []))
                  clear hg9 i0 i1 j0 j1
                  go_wp2_with fail
                  go_meet
                  exact ⟨v, u, Q, PM5.out.keep FG.out, by omega, LN5.out.fr FG.out (by simp), F5.out.trans FG.out⟩
              · have kb2 : (K == 2) = false := by simp [k2]
                clear k2
                by_cases k3 : K = 3
                · subst k3
                  by_cases ha' : 0 ≤ A ∧ A < (Q.length : Int)
                  · obtain ⟨a, rfl⟩ := Int.eq_ofNat_of_zero_le ha'.1
                    have ha : a < Q.length := by omega
                    clear ha'
                    have hM5 := Lib.hid (PM5.out.1.keep (Fr.drew w5 []))
                    have hR5 := Lib.hid (PM5.out.2.1.keep (Fr.drew w5 []))
                    have hF5 := Lib.hid (F5.out.trans (Fr.drew w5 []))
                    have hD5 := Lib.hid ((Fr.drew w5 []).heap D5.out (by simp))
                    have hL5 := Lib.hid (LN5.out.fr (Fr.drew w5 []) (by simp))
                    go_wp2_with fail
                    go_region_held3 (fun w' => w'.cell? ⟨db, 1, none⟩ = some (.int .i64 (a : Int))) (first | exact y1 | exact s1 | exact t1)
                      (first
                        | (go_at_call 10; refine (copy_yes w1.heap.size w1.heap.size v (toL Q) 0 a _ hM5.out (by rw [toL_len]; exact ha) (by omega) (by rw [toL_len]; omega)).mono ?_; rintro e w6 ⟨rfl, v6, hm6, hf6⟩; have hr6 := Rl.keepM hM5.out hR5.out hf6; have F6 := hM5.out.new HS.out hF5.out hf6; have D6 := hM5.out.other hf6 hD5.out; obtain ⟨s0, s1, s2, s3⟩ := row4 D6)
                        | (go_at_call 18; refine (ragain_yes w1.heap.size (w1.heap.size + 1) u Q a _ hr6 ha (by omega) (by have := (PM5.out.2.2.get a ha).1; omega)).mono ?_; rintro e w7 ⟨rfl, u7, sv, hr7, hf7⟩; have hm7 := hm6.keepR hr6 hf7; have F7 := hr6.new HS.out F6 hf7; have D7 := hf7.heap D6 (hr6.apart D6); obtain ⟨t0, t1, t2, t3⟩ := row4 D7))
                    · have LN7 := Lib.hid ((hL5.out.keepM hM5.out hf6 hqc1).keepR hr6 hf7)
                      have HPM : Hid (PM w7 w1.heap.size w1.heap.size (w1.heap.size + 1) v6 u7 (Q ++ [((Q.getD a dR).1, sv, (Q.getD a dR).2.2)])) := ⟨by rw [toL_snoc, ← toL_get Q a ha]; exact hm7, hr7, PM5.out.2.2.snoc (PM5.out.2.2.get a ha).1 (PM5.out.2.2.get a ha).2⟩
                      have HF7 := Lib.hid F7
                      clear hm7 hr7 F7 hf7 hm6 hr6 F6 hf6 D6 D7
                      go_wp2_with fail
                      go_meet
                      exact ⟨v6, u7, _, HPM.out, by simp; omega, LN7.out, HF7.out⟩
                  · have ha := ha'
                    clear ha'
                    have hM5 := Lib.hid (fun W (hW : Fr w5 W []) => PM5.out.1.keep hW)
                    have hR5 := Lib.hid (fun W (hW : Fr w5 W []) => PM5.out.2.1.keep hW)
                    go_wp2
                    go_quiet ((first
                      | (go_at_call 10; exact quiet_same (copy_none w1.heap.size w1.heap.size v (toL Q) 0 A _ (hM5.out _ (Fr.drewN _ _ _)) (by rw [toL_len]; exact ha)))
                      | (go_at_call 18; exact quiet_same (ragain_none w1.heap.size (w1.heap.size + 1) u Q A _ (hR5.out _ (Fr.drewN _ _ _)) ha))))
                    have HFQ := Lib.hid (Fr.drewN w5 nq [])
                    go_wp2_with fail
                    go_meet
                    exact ⟨v, u, Q, PM5.out.keep HFQ.out, by omega, LN5.out.fr HFQ.out (by simp), F5.out.trans HFQ.out⟩
                · have kb3 : (K == 3) = false := by simp [k3]
                  clear k3
                  by_cases k4 : K = 4
                  · subst k4
                    by_cases ha' : (0 ≤ A ∧ A < (Q.length : Int)) ∧ 0 ≤ C ∧ C < (Q.length : Int)
                    · obtain ⟨a, rfl⟩ := Int.eq_ofNat_of_zero_le ha'.1.1
                      obtain ⟨c, rfl⟩ := Int.eq_ofNat_of_zero_le ha'.2.1
                      have ha : a < Q.length := by omega
                      have hc : c < Q.length := by omega
                      clear ha'
                      have hM5 := Lib.hid (PM5.out.1.keep (Fr.drew w5 []))
                      have hR5 := Lib.hid (PM5.out.2.1.keep (Fr.drew w5 []))
                      have hF5 := Lib.hid (F5.out.trans (Fr.drew w5 []))
                      have hD5 := Lib.hid ((Fr.drew w5 []).heap D5.out (by simp))
                      have hL5 := Lib.hid (LN5.out.fr (Fr.drew w5 []) (by simp))
                      go_wp2_with fail
                      go_region_held3 (fun w' => w'.cell? ⟨db, 1, none⟩ = some (.int .i64 (a : Int)) ∧ w'.cell? ⟨db, 2, none⟩ = some (.int .i64 (c : Int))) (first | exact ⟨y1, y2⟩ | exact ⟨s1, s2⟩ | exact ⟨t1, t2⟩)
                        (first
                          | (go_at_call 19; refine (swap_any w1.heap.size w1.heap.size v (toL Q) 0 a c _ hM5.out (by rw [toL_len]; exact ha) (by rw [toL_len]; exact hc)).mono ?_; rintro e w6 ⟨rfl, v6, hm6, hf6⟩; have hr6 := Rl.keepM hM5.out hR5.out hf6; have F6 := hM5.out.new HS.out hF5.out hf6; have D6 := hM5.out.other hf6 hD5.out; obtain ⟨s0, s1, s2, s3⟩ := row4 D6)
                          | (go_at_call 20; refine (rswap_any w1.heap.size (w1.heap.size + 1) u Q a c _ hr6 ha hc).mono ?_; rintro e w7 ⟨rfl, u7, hr7, hf7⟩; have hm7 := hm6.keepR hr6 hf7; have F7 := hr6.new HS.out F6 hf7; have D7 := hf7.heap D6 (hr6.apart D6); obtain ⟨t0, t1, t2, t3⟩ := row4 D7))
                      · have LN7 := Lib.hid ((hL5.out.keepM hM5.out hf6 hqc1).keepR hr6 hf7)
                        have HPM : Hid (PM w7 w1.heap.size w1.heap.size (w1.heap.size + 1) v6 u7 (rswp Q a c)) := ⟨by rw [toL_swp Q a c ha hc]; exact hm7, hr7, PM5.out.2.2.swap ha hc⟩
                        have HF7 := Lib.hid F7
                        clear hm7 hr7 F7 hf7 hm6 hr6 F6 hf6 D6 D7
                        go_wp2_with fail
                        go_meet
                        exact ⟨v6, u7, _, HPM.out, by rw [rswp_len]; omega, LN7.out, HF7.out⟩
                    · have ha := ha'
                      clear ha'
                      have hM5 := Lib.hid (fun W (hW : Fr w5 W []) => PM5.out.1.keep hW)
                      have hR5 := Lib.hid (fun W (hW : Fr w5 W []) => PM5.out.2.1.keep hW)
                      go_wp2
                      go_quiet ((first
                        | (go_at_call 19; exact quiet_same (swap_none w1.heap.size w1.heap.size v (toL Q) 0 A C _ (hM5.out _ (Fr.drewN _ _ _)) (by rw [toL_len]; exact ha)))
                        | (go_at_call 20; exact quiet_same (rswap_none w1.heap.size (w1.heap.size + 1) u Q A C _ (hR5.out _ (Fr.drewN _ _ _)) ha))))
                      have HFQ := Lib.hid (Fr.drewN w5 nq [])
                      go_wp2_with fail
                      go_meet
                      exact ⟨v, u, Q, PM5.out.keep HFQ.out, by omega, LN5.out.fr HFQ.out (by simp), F5.out.trans HFQ.out⟩
                  · have kb4 : (K == 4) = false := by simp [k4]
                    clear k4
                    go_wp2_with fail
                    go_meet
                    exact ⟨v, u, Q, PM5.out, by omega, LN5.out, F5.out⟩
          case rest =>
            obtain ⟨v', u', R, hp, hrl, hln, hf⟩ := hcut
            have PM6 := Lib.hid hp
            have HRL := Lib.hid hrl
            have LN6 := Lib.hid hln
            have F6 := Lib.hid hf
            clear hp hrl hln hf PM5 LN5 F5 D5 EB5 y0 y1 y2 y3
            go_wp2_with fail
            refine (all_any w1.heap.size w1.heap.size v' (toL R) 0 _ PM6.out.1 (by rw [toL_len]; have := HRL.out; omega) (fun j hj => PM6.out.2.2.size j hj)).mono ?_
            rintro e w7 ⟨au, rfl, hq⟩
            unfold AllQ at hq
            rw [toL_len] at hq
            obtain ⟨ga, rfl, hi7, hf7⟩ := hq
            have PM7 := Lib.hid (PM6.out.keep hf7)
            have LN7 := Lib.hid (LN6.out.fr hf7 (by simp))
            have F7 := Lib.hid (F6.out.trans hf7)
            have I7 := Lib.hid hi7
            have HLN := Lib.hid (fun W (hW : Fr w7 W []) => by have h := len_any _ _ _ _ _ W (PM7.out.1.keep hW); rw [toL_len] at h; exact h)
            have HLO := Lib.hid (fun W (hW : Fr w7 W []) => lost_any _ _ _ _ _ W (PM7.out.1.keep hW))
            have HLC := Lib.hid (fun W (hW : Fr w7 W []) => len_ln _ _ W (LN7.out.fr hW (by simp)))
            obtain ⟨r0, r1⟩ := PM7.out.2.1.cells
            obtain ⟨ra, rc, hu'⟩ := PM7.out.2.1.shape
            subst hu'
            have n1 : ((R.length : Int) != (R.length : Int)) = false := by simp
            have n2 : ((Q.length : Int) != (Q.length : Int)) = false := by simp
            clear hi7 hf7 PM6 LN6 F6
            go_wp2
            go_quiet ((first
              | (go_at_call 14; exact quiet_same (HLO.out _ (Fr.drewN _ _ _)))
              | (go_at_call 12; with_reducible exact quiet_same (HLN.out _ (Fr.drewN _ _ _)))
              | (go_at_call 12; with_reducible exact quiet_same (HLC.out _ (Fr.drewN _ _ _)))))
            have FQ8 := Lib.hid (Fr.drewN w7 nq [])
            obtain ⟨W8, hW8⟩ : ∃ W8, W8 = w7.drewN nq := ⟨_, rfl⟩
            rw [← hW8] at FQ8
            have HW8 := Lib.hid hW8
            clear hW8 n1 n2 r1
            go_wp2_with fail
            rw [← HW8.out]
            clear r0
            go_loopw [15] (fun i wr => ∃ j : Nat, j ≤ R.length ∧ i = .int .i64 j ∧ Fr W8 wr []) (fun i _ => R.length - (intOf i).toNat)
            case atStart => exact ⟨0, Nat.zero_le _, rfl, Fr.refl _ _⟩
            case round =>
              obtain ⟨j, hj, rfl, hfz⟩ := hrel
              have FZ := Lib.hid (FQ8.out.trans hfz)
              have FZ0 := Lib.hid hfz
              clear hfz
              have PMZ := Lib.hid (PM7.out.keep FZ.out)
              by_cases hjl : j < R.length
              · obtain ⟨s1, e1, e2, e3⟩ := (I7.out.fr FZ.out).at j hjl
                obtain ⟨g, c, he, h1, h2, e4, e5⟩ := PMZ.out.2.1.at j hjl
                simp only [Value.slice.injEq, true_and] at he
                obtain ⟨rfl, rfl⟩ := he
                have ho := (PMZ.out.2.1.own j hjl).bytes
                rw [PMZ.out.2.2.nums j hjl] at e3
                rw [toL_get R j hjl] at e1
                have z0 := PMZ.out.2.1.cells.1
                have hsm := (PMZ.out.2.2.get j hjl).1
                obtain ⟨X, hX⟩ : ∃ X, X = R.getD j dR := ⟨_, rfl⟩
                rw [← hX] at e1 e3 e4 e5 ho hsm
                clear hX
                obtain ⟨X1, Xv, Xl⟩ := X
                simp only at e1 e3 e4 e5 ho hsm
                rw [Nat.mul_comm 2 j] at e1 e2
                have E3 := Lib.hid e3
                have EO := Lib.hid ho
                have n1 : (X1 != X1) = false := by simp
                unfold maxLen at h2
                clear e3 ho
                go_wp2
                go_quiet ((go_at_call 13; with_reducible exact same_at s1 Xl Xv Xl wr _ E3.out EO.out (by omega) true (by simp)))
                have FQ := Lib.hid (Fr.drewN wr nq [])
                go_wp2
                go_roundw
                case rel => exact ⟨j + 1, by omega, by go_num, FZ0.out.trans FQ.out⟩
                case measure => simp [intOf]; omega
              · have F9 := Lib.hid (F7.out.trans FZ.out)
                go_wp2
                go_roundw
                case rel => exact ⟨k + 1, v', _, R, by omega, by go_num, PMZ.out, HRL.out, F9.out⟩
                case measure => simp [intOf]; omega
      · go_wp2
        go_ret
        exact ⟨rfl, F0.out.grown (by simp)⟩
end Go.Proofs.Ytlkmpmhbidhfcaa
