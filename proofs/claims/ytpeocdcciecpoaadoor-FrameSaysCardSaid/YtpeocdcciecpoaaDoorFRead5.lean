/- A frame is read. -/
import Derived.Test.YtpeocdcciecpoaaDoorFRead4
import Derived.Test.YtpeocdcciecpoaaDoorFValid5
import Derived.Deep.DeepCutAuto
namespace Go.Proofs.YtpeocdcciecpoaaDoor
open Go.RowKit Fm

theorem E3.up {w : World} {A : Nat → Addr} {B B' : Nat} (h : E3 w A B) (hB : B ≤ B') : E3 w A B' := by
  obtain ⟨⟨a1, a2⟩, ⟨b1, b2⟩, c1, c2⟩ := h
  exact ⟨⟨a1, by omega⟩, ⟨b1, by omega⟩, c1, by omega⟩
theorem head_num {l : List Int} {j : Nat} (hb : Wm.Byte l) (hj : j < l.length) (h : l.getD j 0 < 128) : ∃ x, Fm.num (-9223372036854775808) 9223372036854775807 l j 0 = (x, j + 1, 0) := by
  have hd : l.drop j = l.getD j 0 :: l.drop (j + 1) := dr_cons l j hj 0
  have hn : Wm.numF 0 0 (l.drop j) = (Wm.unzz (0 + (l.getD j 0 % 128).toNat * 2 ^ (7 * 0)), 1, 0) := by
    rw [hd]
    unfold Wm.numF
    rw [if_neg (by omega), if_pos h]
  have hr := Wm.numF_range (l.drop j) 0 0 (by omega) (by simp) (fun x hx => hb x (List.mem_of_mem_drop hx))
  rw [hn] at hr
  refine ⟨Wm.unzz (0 + (l.getD j 0 % 128).toNat * 2 ^ (7 * 0)), ?_⟩
  show Wm.numS _ _ _ _ = _
  unfold Wm.numS
  rw [hn]
  simp only
  rw [if_neg (by decide), if_neg (by simp only at hr; omega)]

set_option maxRecDepth 100000 in
theorem behind_any (v : Value) (l : List Int) (w : World) (A : Nat → Addr) (B : Nat) (h : Bytes w v l) (hb : Wm.Byte l) (h2 : 2 ≤ l.length) (hl : l.length ≤ 140737488355328) (h0 : l.getD 0 0 < 128) (h1 : l.getD 1 0 < 128) (hE : E3 w A B) (hB : B ≤ w.heap.size) :
    Calls Tryd.prog 42 #[v] w (Gives fun u w' => ∃ p, u = .pointer (some ⟨p, 0, none⟩) ∧ RS w' A w.heap.size p l 2 0 ∧ Fr w w' []) := by
  have HB := Lib.hid hb
  have H0 := Lib.hid h0
  have H1 := Lib.hid h1
  have HE0 := Lib.hid hE
  have HBB := Lib.hid hB
  have HBY := Lib.hid h
  clear hb h0 h1 hE hB h
  go_enter Tryd.func42, Tryd.ntmps42
  go_wp2_with fail
  refine (new_any v l _ HBY.out hl).mono ?_
  rintro e w1 ⟨u, rfl, p, rfl, hr, hg⟩
  have F1 := Lib.hid (Fr.of_grown hg [])
  have S1 := Lib.hid (show RS w1 A w.heap.size p l 0 0 from ⟨hr, by omega, HB.out, (HE0.out.fr (Fr.of_grown hg []) (by simp)).up HBB.out⟩)
  clear hr hg
  go_wp2
  go_loopw [6] (fun i wr => ∃ j : Nat, j ≤ 2 ∧ i = .int .i64 j ∧ RS wr A w.heap.size p l j 0 ∧ Fr w wr []) (fun i _ => 2 - (intOf i).toNat)
  case atStart => exact ⟨0, by omega, rfl, S1.out, F1.out⟩
  case round =>
    clear S1 F1
    obtain ⟨j, hj, rfl, hs, hf⟩ := hrel
    have S := Lib.hid hs
    have F := Lib.hid hf
    clear hs hf
    by_cases hlt : j < 2
    · have hn : ∃ x, Fm.num (-9223372036854775808) 9223372036854775807 l j 0 = (x, j + 1, 0) := by
        refine head_num HB.out (by omega) ?_
        rcases (show j = 0 ∨ j = 1 by omega) with rfl | rfl
        · exact H0.out
        · exact H1.out
      obtain ⟨x, hx⟩ := hn
      have HX := Lib.hid hx
      clear hx
      go_wp2_with fail
      refine (num_any p l j 0 _ _ _ A _ S.out x (j + 1) 0 HX.out).mono ?_
      rintro e w2 ⟨rfl, hs, hf⟩
      have S2 := Lib.hid hs
      have F2 := Lib.hid (F.out.new hf (by have := S.out.low; simp; omega))
      clear hs hf
      go_wp2
      go_roundw
      case rel => exact ⟨j + 1, by omega, by go_num, S2.out, F2.out⟩
      case measure => simp [intOf]; omega
    · obtain rfl : j = 2 := by omega
      go_wp2
      go_ret
      exact gives ⟨_, rfl, S.out, F.out⟩

theorem box_drew (w : World) (o1 o2 : Obj) : ((w.alloc o1).drew.alloc o2).heap[w.heap.size + 1]? = some o2 := by
  have h := heap_alloc_new (w.alloc o1).drew o2
  rwa [show (w.alloc o1).drew.heap.size = w.heap.size + 1 by simp] at h
theorem set11_row {w : World} {g : Nat} {T : TypeId} (h : w.heap[g]? = some (.cells #[.int .i64 0, .int .i64 0, .int .i64 0, .int .i64 0, .int .i64 0, .bool false, .int .i64 0, .int .i64 0, .int .i64 0, .slice none 0 0, .slice none 0 0] T (0, 0))) (v0 v1 v2 v3 v4 v5 v6 v7 v8 v9 v10 : Value) :
    (((((((((((w.setCell ⟨g, 0, none⟩ v0).setCell ⟨g, 1, none⟩ v1).setCell ⟨g, 2, none⟩ v2).setCell ⟨g, 3, none⟩ v3).setCell ⟨g, 4, none⟩ v4).setCell ⟨g, 5, none⟩ v5).setCell ⟨g, 6, none⟩ v6).setCell ⟨g, 7, none⟩ v7).setCell ⟨g, 8, none⟩ v8).setCell ⟨g, 9, none⟩ v9).setCell ⟨g, 10, none⟩ v10).heap[g]? = some (.cells #[v0, v1, v2, v3, v4, v5, v6, v7, v8, v9, v10] T (0, 0)) :=
  by
  have h0 : (w.setCell ⟨g, 0, none⟩ v0).heap[g]? = some (.cells #[v0, .int .i64 0, .int .i64 0, .int .i64 0, .int .i64 0, .bool false, .int .i64 0, .int .i64 0, .int .i64 0, .slice none 0 0, .slice none 0 0] T (0, 0)) := setc h 0 v0
  have h1 : ((w.setCell ⟨g, 0, none⟩ v0).setCell ⟨g, 1, none⟩ v1).heap[g]? = some (.cells #[v0, v1, .int .i64 0, .int .i64 0, .int .i64 0, .bool false, .int .i64 0, .int .i64 0, .int .i64 0, .slice none 0 0, .slice none 0 0] T (0, 0)) := setc h0 1 v1
  have h2 : (((w.setCell ⟨g, 0, none⟩ v0).setCell ⟨g, 1, none⟩ v1).setCell ⟨g, 2, none⟩ v2).heap[g]? = some (.cells #[v0, v1, v2, .int .i64 0, .int .i64 0, .bool false, .int .i64 0, .int .i64 0, .int .i64 0, .slice none 0 0, .slice none 0 0] T (0, 0)) := setc h1 2 v2
  have h3 : ((((w.setCell ⟨g, 0, none⟩ v0).setCell ⟨g, 1, none⟩ v1).setCell ⟨g, 2, none⟩ v2).setCell ⟨g, 3, none⟩ v3).heap[g]? = some (.cells #[v0, v1, v2, v3, .int .i64 0, .bool false, .int .i64 0, .int .i64 0, .int .i64 0, .slice none 0 0, .slice none 0 0] T (0, 0)) := setc h2 3 v3
  have h4 : (((((w.setCell ⟨g, 0, none⟩ v0).setCell ⟨g, 1, none⟩ v1).setCell ⟨g, 2, none⟩ v2).setCell ⟨g, 3, none⟩ v3).setCell ⟨g, 4, none⟩ v4).heap[g]? = some (.cells #[v0, v1, v2, v3, v4, .bool false, .int .i64 0, .int .i64 0, .int .i64 0, .slice none 0 0, .slice none 0 0] T (0, 0)) := setc h3 4 v4
  have h5 : ((((((w.setCell ⟨g, 0, none⟩ v0).setCell ⟨g, 1, none⟩ v1).setCell ⟨g, 2, none⟩ v2).setCell ⟨g, 3, none⟩ v3).setCell ⟨g, 4, none⟩ v4).setCell ⟨g, 5, none⟩ v5).heap[g]? = some (.cells #[v0, v1, v2, v3, v4, v5, .int .i64 0, .int .i64 0, .int .i64 0, .slice none 0 0, .slice none 0 0] T (0, 0)) := setc h4 5 v5
  have h6 : (((((((w.setCell ⟨g, 0, none⟩ v0).setCell ⟨g, 1, none⟩ v1).setCell ⟨g, 2, none⟩ v2).setCell ⟨g, 3, none⟩ v3).setCell ⟨g, 4, none⟩ v4).setCell ⟨g, 5, none⟩ v5).setCell ⟨g, 6, none⟩ v6).heap[g]? = some (.cells #[v0, v1, v2, v3, v4, v5, v6, .int .i64 0, .int .i64 0, .slice none 0 0, .slice none 0 0] T (0, 0)) := setc h5 6 v6
  have h7 : ((((((((w.setCell ⟨g, 0, none⟩ v0).setCell ⟨g, 1, none⟩ v1).setCell ⟨g, 2, none⟩ v2).setCell ⟨g, 3, none⟩ v3).setCell ⟨g, 4, none⟩ v4).setCell ⟨g, 5, none⟩ v5).setCell ⟨g, 6, none⟩ v6).setCell ⟨g, 7, none⟩ v7).heap[g]? = some (.cells #[v0, v1, v2, v3, v4, v5, v6, v7, .int .i64 0, .slice none 0 0, .slice none 0 0] T (0, 0)) := setc h6 7 v7
  have h8 : (((((((((w.setCell ⟨g, 0, none⟩ v0).setCell ⟨g, 1, none⟩ v1).setCell ⟨g, 2, none⟩ v2).setCell ⟨g, 3, none⟩ v3).setCell ⟨g, 4, none⟩ v4).setCell ⟨g, 5, none⟩ v5).setCell ⟨g, 6, none⟩ v6).setCell ⟨g, 7, none⟩ v7).setCell ⟨g, 8, none⟩ v8).heap[g]? = some (.cells #[v0, v1, v2, v3, v4, v5, v6, v7, v8, .slice none 0 0, .slice none 0 0] T (0, 0)) := setc h7 8 v8
  have h9 : ((((((((((w.setCell ⟨g, 0, none⟩ v0).setCell ⟨g, 1, none⟩ v1).setCell ⟨g, 2, none⟩ v2).setCell ⟨g, 3, none⟩ v3).setCell ⟨g, 4, none⟩ v4).setCell ⟨g, 5, none⟩ v5).setCell ⟨g, 6, none⟩ v6).setCell ⟨g, 7, none⟩ v7).setCell ⟨g, 8, none⟩ v8).setCell ⟨g, 9, none⟩ v9).heap[g]? = some (.cells #[v0, v1, v2, v3, v4, v5, v6, v7, v8, v9, .slice none 0 0] T (0, 0)) := setc h8 9 v9
  have h10 : (((((((((((w.setCell ⟨g, 0, none⟩ v0).setCell ⟨g, 1, none⟩ v1).setCell ⟨g, 2, none⟩ v2).setCell ⟨g, 3, none⟩ v3).setCell ⟨g, 4, none⟩ v4).setCell ⟨g, 5, none⟩ v5).setCell ⟨g, 6, none⟩ v6).setCell ⟨g, 7, none⟩ v7).setCell ⟨g, 8, none⟩ v8).setCell ⟨g, 9, none⟩ v9).setCell ⟨g, 10, none⟩ v10).heap[g]? = some (.cells #[v0, v1, v2, v3, v4, v5, v6, v7, v8, v9, v10] T (0, 0)) := setc h9 10 v10
  exact h10
theorem heap_apart {w : World} {q g : Nat} {c1 c2 : Array Value} {T1 T2 : TypeId} (h1 : w.heap[q]? = some (.cells c1 T1 (0, 0))) (h2 : w.heap[g]? = some (.cells c2 T2 (0, 0))) (hT : T1 ≠ T2) : q ∉ [g] := by
  intro hm
  obtain rfl := List.mem_singleton.1 hm
  rw [h1] at h2
  simp at h2
  exact hT h2.2
theorem BodyE.fine {A : Nat → Addr} {p : Nat} {l : List Int} {f : F} {k c : Nat} {w0 w' : World} {e : Ending} (h : BodyE A p l f k c w0 e w') (hc : c = 0) (hk : ¬ k < l.length) : Fr w0 w' [p] ∧ ∃ vm ve xs, e = .returned (.tuple #[frV f vm ve, .nilIface]) ∧ OwnI w' w0.heap.size vm f.rg.ms ∧ OwnE w' w0.heap.size ve xs ∧ xs.map (·.1) = f.rg.es := by
  obtain ⟨h0, h1⟩ := h
  rcases h1 with h1 | h1 | h1
  · exact absurd hc h1.1
  · exact absurd h1.2.1 hk
  · exact ⟨h0, h1.2.2⟩
theorem BodyE.more {A : Nat → Addr} {p : Nat} {l : List Int} {f : F} {k c : Nat} {w0 w' : World} {e : Ending} (h : BodyE A p l f k c w0 e w') (hc : c = 0) (hk : k < l.length) : Fr w0 w' [p] ∧ e = .returned (.tuple #[frV zeroF (.slice none 0 0) (.slice none 0 0), ev A 2]) := by
  obtain ⟨h0, h1⟩ := h
  rcases h1 with h1 | h1 | h1
  · exact absurd hc h1.1
  · exact ⟨h0, h1.2.2⟩
  · exact absurd hk h1.2.1
theorem BodyE.bad {A : Nat → Addr} {p : Nat} {l : List Int} {f : F} {k c : Nat} {w0 w' : World} {e : Ending} (h : BodyE A p l f k c w0 e w') (hc : c ≠ 0) : Fr w0 w' [p] ∧ ∃ q, e = .returned (.tuple #[frV zeroF (.slice none 0 0) (.slice none 0 0), .iface 112 (.pointer (some ⟨q, 0, none⟩))]) ∧ w'.heap[q]? = some (.cells #[.int .i64 (k : Int), ev A c] 116 (0, 0)) := by
  obtain ⟨h0, h1⟩ := h
  rcases h1 with h1 | h1 | h1
  · obtain ⟨_, u, he, q, rfl, hq⟩ := h1
    exact ⟨h0, q, he, hq⟩
  · exact absurd h1.1 hc
  · exact absurd h1.1 hc
/-- What Read hands back: the frame, the error's code, whether there is a place around it, the place. -/
def ReadE (A : Nat → Addr) (r : F × Nat × Bool × Nat) (w0 : World) (e : Ending) (w' : World) : Prop :=
  Fr w0 w' [] ∧ ∃ vm ve u, e = .returned (.tuple #[frV r.1 vm ve, u]) ∧ Holds .i64 w' vm r.1.rg.ms ∧ HE w' ve r.1.rg.es ∧ (r.2.2.1 = false → u = ev A r.2.1) ∧ (r.2.2.1 = true → AtErr w' A u r.2.2.2 r.2.1)

set_option maxHeartbeats 4000000 in
set_option maxRecDepth 100000 in
theorem read_frame (v : Value) (l : List Int) (w : World) (A : Nat → Addr) (B : Nat) (is : List Nat) (h : Bytes w v l) (hb : Wm.Byte l) (hl : l.length ≤ 140737488355328) (hE3 : E3 w A B) (hE : EV is w A B) (hB : B ≤ w.heap.size) (hs : ∀ i ∈ [1, 2, 3, 6, 10], i ∈ is := by decide) :
    Calls Tryd.prog 19 #[v] w (ReadE A (readF l) w) := by
  have HB := Lib.hid hb
  have HE3 := Lib.hid hE3
  have HEV := Lib.hid hE
  have HBB := Lib.hid hB
  have HBY := Lib.hid h
  have HS := Lib.hid hs
  obtain ⟨a, cap, rfl, h1, h2, h3⟩ := h
  unfold maxLen at h2
  have HF0 := Lib.hid (Fr.alloc w (.cells #[.int .i64 0, .int .i64 0, .int .i64 0, .int .i64 0, .int .i64 0, .bool false, .int .i64 0, .int .i64 0, .int .i64 0, .slice none 0 0, .slice none 0 0] 29) [])
  have HG0 := Lib.hid (heap_alloc_new w (.cells #[.int .i64 0, .int .i64 0, .int .i64 0, .int .i64 0, .int .i64 0, .bool false, .int .i64 0, .int .i64 0, .int .i64 0, .slice none 0 0, .slice none 0 0] 29))
  have hge : ∀ i ∈ is, errVars.getD i 0 < w.heap.size := fun i hi => by have := (hE.cell i hi).2; omega
  have HGE := Lib.hid hge
  clear hb hE3 hE hB hs hge
  by_cases hsh : l.length < 1 ∨ l.getD 0 0 ≠ 80
  · have HR : Hid (readF l = (zeroF, 2, false, 0)) := by show _ = _; unfold readF; rw [if_pos hsh]
    have hR := (HEV.out.keep HF0.out).shape (HS.out 1 (by decide))
    have gk := row11 HG0.out
    have hne1 : w.heap.size ≠ 2 := by have h1 := HGE.out 1 (HS.out 1 (by decide)); exact fun e => by rw [e] at h1; exact absurd h1 (Nat.lt_irrefl _)
    have hne2 : 2 ≠ w.heap.size := fun e => hne1 e.symm
    have hcs : (l.length : Int) < 1 ∨ (¬ (l.length : Int) < 1 ∧ l.getD 0 0 ≠ 80) := by omega
    clear hsh
    rcases hcs with q1 | ⟨q1, q2⟩
    · clear h3
      go_enter Tryd.func19, Tryd.ntmps19
      go_wp2
      go_region
      all_goals go_wp2
      all_goals
        refine bodyPost_ret (v := .tuple #[.agg #[.int .i64 0, .int .i64 0, .int .i64 0, .int .i64 0, .int .i64 0, .bool false, .int .i64 0, .int .i64 0, .int .i64 0, .slice none 0 0, .slice none 0 0], .iface 137 (.pointer (some (A 2)))]) (by simp [results, Tryd.results19, go_sem, gk]) rfl ?_
        show ReadE _ _ _ _ _
        rw [HR.out]
        exact ⟨HF0.out.trans (Fr.drew _ _), _, _, _, rfl, nil_ints, nil_ents, fun _ => rfl, fun h => by cases h⟩
    · obtain ⟨b, off, rfl, hc⟩ := h3 (by omega)
      have c0 := HF0.out.cell (hc 0 (by omega)) (by simp)
      rw [Nat.add_zero] at c0
      obtain ⟨x, hx⟩ : ∃ x, x = l.getD 0 0 := ⟨_, rfl⟩
      rw [← hx] at c0 q2
      have e1 : (x != 80) = true := by simpa using q2
      clear hc h3 hx
      go_enter Tryd.func19, Tryd.ntmps19
      go_wp2
      go_region
      all_goals go_wp2
      all_goals
        refine bodyPost_ret (v := .tuple #[.agg #[.int .i64 0, .int .i64 0, .int .i64 0, .int .i64 0, .int .i64 0, .bool false, .int .i64 0, .int .i64 0, .int .i64 0, .slice none 0 0, .slice none 0 0], .iface 137 (.pointer (some (A 2)))]) (by simp [results, Tryd.results19, go_sem, gk]) rfl ?_
        show ReadE _ _ _ _ _
        rw [HR.out]
        exact ⟨HF0.out.trans (Fr.drew _ _), _, _, _, rfl, nil_ints, nil_ents, fun _ => rfl, fun h => by cases h⟩
  by_cases hkd : l.length < 2 ∨ ¬ (l.getD 1 0 = 1 ∨ l.getD 1 0 = 2)
  · have HR : Hid (readF l = (zeroF, 7, false, 0)) := by show _ = _; unfold readF; rw [if_neg hsh, if_pos hkd]
    have hR := (HEV.out.keep HF0.out).kind (HS.out 6 (by decide))
    have gk := row11 HG0.out
    have hne1 : w.heap.size ≠ 0 := by have h1 := HGE.out 6 (HS.out 6 (by decide)); exact fun e => by rw [e] at h1; exact absurd h1 (Nat.lt_irrefl _)
    have hne2 : 0 ≠ w.heap.size := fun e => hne1 e.symm
    obtain ⟨b, off, rfl, hc⟩ := h3 (by omega)
    have c0 := HF0.out.cell (hc 0 (by omega)) (by simp)
    rw [show l.getD 0 0 = 80 by omega, Nat.add_zero] at c0
    have hi3 : ¬ (l.length : Int) < 1 := by omega
    have hcs : (l.length : Int) < 2 ∨ (¬ (l.length : Int) < 2 ∧ ¬ (l.getD 1 0 = 1 ∨ l.getD 1 0 = 2)) := by omega
    clear hsh hkd h3
    rcases hcs with q1 | ⟨q1, q2⟩
    · clear hc
      go_enter Tryd.func19, Tryd.ntmps19
      go_wp2
      go_region
      all_goals go_wp2
      all_goals
        refine bodyPost_ret (v := .tuple #[.agg #[.int .i64 0, .int .i64 0, .int .i64 0, .int .i64 0, .int .i64 0, .bool false, .int .i64 0, .int .i64 0, .int .i64 0, .slice none 0 0, .slice none 0 0], .iface 137 (.pointer (some (A 7)))]) (by simp [results, Tryd.results19, go_sem, gk]) rfl ?_
        show ReadE _ _ _ _ _
        rw [HR.out]
        exact ⟨HF0.out.trans (Fr.drew _ _), _, _, _, rfl, nil_ints, nil_ents, fun _ => rfl, fun h => by cases h⟩
    · have c1 := HF0.out.cell (hc 1 (by omega)) (by simp)
      have hbb := HB.out (l.getD 1 0) (getD_mem (by omega) 0)
      obtain ⟨ki, hki⟩ : ∃ ki, ki = l.getD 1 0 := ⟨_, rfl⟩
      rw [← hki] at c1 q2 hbb
      have HK := Lib.hid (no q2)
      have hkk0 : 0 ≤ ki := hbb.1
      have hkk1 : ki ≤ 255 := hbb.2
      have hi1 : (1 : Int) < (l.length : Int) := by omega
      clear hc hki q2 hbb
      go_enter Tryd.func19, Tryd.ntmps19
      go_wp2_with fail
      refine (isKind_any ki _ HK.out _).mono ?_
      rintro e w1 ⟨rfl, rfl⟩
      go_wp2
      go_region
      all_goals go_wp2
      all_goals
        refine bodyPost_ret (v := .tuple #[.agg #[.int .i64 0, .int .i64 0, .int .i64 0, .int .i64 0, .int .i64 0, .bool false, .int .i64 0, .int .i64 0, .int .i64 0, .slice none 0 0, .slice none 0 0], .iface 137 (.pointer (some (A 7)))]) (by simp [results, Tryd.results19, go_sem, gk]) rfl ?_
        show ReadE _ _ _ _ _
        rw [HR.out]
        exact ⟨HF0.out.trans (Fr.drew _ _), _, _, _, rfl, nil_ints, nil_ents, fun _ => rfl, fun h => by cases h⟩
  have hlen : 2 ≤ l.length := by omega
  obtain ⟨b, off, rfl, hc⟩ := h3 (by omega)
  have c0 := HF0.out.cell (hc 0 (by omega)) (by simp)
  have c1 := HF0.out.cell (hc 1 (by omega)) (by simp)
  rw [show l.getD 0 0 = 80 by omega, Nat.add_zero] at c0
  obtain ⟨ki, hki⟩ : ∃ ki, ki = l.getD 1 0 := ⟨_, rfl⟩
  rw [← hki] at c1 hkd
  have HKI := Lib.hid hki
  have HL := Lib.hid (show l.getD 0 0 = 80 by omega)
  have hk2 : ki = 1 ∨ ki = 2 := by omega
  have HK := Lib.hid (yes (P := ki = 1 ∨ ki = 2) hk2)
  have hi1 : (1 : Int) < (l.length : Int) := by omega
  have hi2 : ¬ (l.length : Int) < 2 := by omega
  have hi3 : ¬ (l.length : Int) < 1 := by omega
  have hkk0 : 0 ≤ ki := by omega
  have hkk1 : ki ≤ 2 := by omega
  have BY1 := Lib.hid (HBY.out.keep (HF0.out.trans (Fr.drew _ [])))
  have E31 := Lib.hid (HE3.out.fr (HF0.out.trans (Fr.drew _ [])) (by simp))
  have G1 := Lib.hid ((Fr.drew _ []).heap HG0.out (by simp))
  have HKB := Lib.hid hk2
  clear hsh hkd hc h3 hki hk2
  obtain ⟨f, k', c', hbody⟩ : ∃ f k' c', rdBody ki l 2 0 = (f, k', c') := ⟨_, _, _, rfl⟩
  have HBD := Lib.hid hbody
  have C1D := Lib.hid ((Fr.drew _ []).cell c1 (by simp))
  have c1d := C1D.out
  have c1e := ((Fr.alloc (w.alloc (.cells #[.int .i64 0, .int .i64 0, .int .i64 0, .int .i64 0, .int .i64 0, .bool false, .int .i64 0, .int .i64 0, .int .i64 0, .slice none 0 0, .slice none 0 0] 29)) (.cells #[.int .i64 0, .int .i64 0, .int .i64 0, .int .i64 0, .int .i64 0, .bool false, .int .i64 0, .int .i64 0, .int .i64 0, .slice none 0 0, .slice none 0 0] 29) []).trans (Fr.drew _ [])).cell c1 (by simp)
  have W1S : Hid (((w.alloc (.cells #[.int .i64 0, .int .i64 0, .int .i64 0, .int .i64 0, .int .i64 0, .bool false, .int .i64 0, .int .i64 0, .int .i64 0, .slice none 0 0, .slice none 0 0] 29)).drew).heap.size = w.heap.size + 1) := by show _ = _; simp
  clear hbody
  by_cases hc : c' = 0
  rotate_left
  · have HC := Lib.hid hc
    have HR0 : Hid (readF l = (zeroF, c', true, k')) := by
      have e1 := HBD.out
      rw [HKI.out] at e1
      show _ = _
      unfold readF
      rw [if_neg (by have := HL.out; omega), if_neg (by have := HKB.out; have := HKI.out; omega)]
      simp only [e1]
      rw [if_pos HC.out]
    clear hc
    go_enter Tryd.func19, Tryd.ntmps19
    go_wp2_with fail
    refine (isKind_any ki _ HK.out _).mono ?_
    rintro e w1 ⟨rfl, rfl⟩
    go_upto_region 5 with fail
    go_cut [4, 5] (fun s4 s5 wx => ∃ q : Nat, s5 = .iface 112 (.pointer (some ⟨q, 0, none⟩)) ∧ wx.heap[q]? = some (.cells #[.int .i64 (k' : Int), ev A c'] 116 (0, 0)) ∧ Fr (w.alloc (.cells #[.int .i64 0, .int .i64 0, .int .i64 0, .int .i64 0, .int .i64 0, .bool false, .int .i64 0, .int .i64 0, .int .i64 0, .slice none 0 0, .slice none 0 0] 29)) wx [])
    case first =>
      have Q0 := Lib.hid (show l.getD 0 0 < 128 by rw [HL.out]; decide)
      have Q1 := Lib.hid (show l.getD 1 0 < 128 by rw [← HKI.out]; omega)
      have BB1 := Lib.hid (show B ≤ ((w.alloc (.cells #[.int .i64 0, .int .i64 0, .int .i64 0, .int .i64 0, .int .i64 0, .bool false, .int .i64 0, .int .i64 0, .int .i64 0, .slice none 0 0, .slice none 0 0] 29)).drew).heap.size by have := HBB.out; simp; omega)
      have FAL := Lib.hid ((Fr.alloc (w.alloc (.cells #[.int .i64 0, .int .i64 0, .int .i64 0, .int .i64 0, .int .i64 0, .bool false, .int .i64 0, .int .i64 0, .int .i64 0, .slice none 0 0, .slice none 0 0] 29)) (.cells #[.int .i64 0, .int .i64 0, .int .i64 0, .int .i64 0, .int .i64 0, .bool false, .int .i64 0, .int .i64 0, .int .i64 0, .slice none 0 0, .slice none 0 0] 29) []).trans (Fr.drew _ []))
      have BY2 := Lib.hid ((HBY.out.keep HF0.out).keep FAL.out)
      have E32 := Lib.hid ((HE3.out.fr HF0.out (by simp)).fr FAL.out (by simp))
      have BB2 := Lib.hid (show B ≤ (((w.alloc (.cells #[.int .i64 0, .int .i64 0, .int .i64 0, .int .i64 0, .int .i64 0, .bool false, .int .i64 0, .int .i64 0, .int .i64 0, .slice none 0 0, .slice none 0 0] 29)).alloc (.cells #[.int .i64 0, .int .i64 0, .int .i64 0, .int .i64 0, .int .i64 0, .bool false, .int .i64 0, .int .i64 0, .int .i64 0, .slice none 0 0, .slice none 0 0] 29)).drew).heap.size by have := HBB.out; simp; omega)
      have HBX := Lib.hid ((Fr.drew ((w.alloc (.cells #[.int .i64 0, .int .i64 0, .int .i64 0, .int .i64 0, .int .i64 0, .bool false, .int .i64 0, .int .i64 0, .int .i64 0, .slice none 0 0, .slice none 0 0] 29)).alloc (.cells #[.int .i64 0, .int .i64 0, .int .i64 0, .int .i64 0, .int .i64 0, .bool false, .int .i64 0, .int .i64 0, .int .i64 0, .slice none 0 0, .slice none 0 0] 29)) []).heap (two_boxes w (.cells #[.int .i64 0, .int .i64 0, .int .i64 0, .int .i64 0, .int .i64 0, .bool false, .int .i64 0, .int .i64 0, .int .i64 0, .slice none 0 0, .slice none 0 0] 29) (.cells #[.int .i64 0, .int .i64 0, .int .i64 0, .int .i64 0, .int .i64 0, .bool false, .int .i64 0, .int .i64 0, .int .i64 0, .slice none 0 0, .slice none 0 0] 29)).2 (by simp))
      have C0W := Lib.hid c1
      have hwk : IntKind.i64.wrap ki = ki := IntWalk.i64_in _ (by omega)
      go_region_law (first
        | (go_simp; go_at_call 42; (with_reducible refine (behind_any _ l _ A B BY1.out HB.out hlen hl Q0.out Q1.out E31.out BB1.out).mono ?_); rintro e wb ⟨u, rfl, p, rfl, hs, hf⟩; have FA := Lib.hid ((Fr.drew (w.alloc (.cells #[.int .i64 0, .int .i64 0, .int .i64 0, .int .i64 0, .int .i64 0, .bool false, .int .i64 0, .int .i64 0, .int .i64 0, .slice none 0 0, .slice none 0 0] 29)) []).trans hf); have PA := Lib.hid (show w.heap.size + 1 ≤ p by have := hs.low; simp at this; omega); have SA := Lib.hid hs; have SAc := Lib.hid (hs.keep (Fr.alloc wb (.cells #[.int .i64 0, .int .i64 0, .int .i64 0, .int .i64 0, .int .i64 0, .bool false, .int .i64 0, .int .i64 0, .int .i64 0, .slice none 0 0, .slice none 0 0] 29) [])); have c1b := hf.cell C1D.out (by simp); have c1c := (Fr.alloc wb (.cells #[.int .i64 0, .int .i64 0, .int .i64 0, .int .i64 0, .int .i64 0, .bool false, .int .i64 0, .int .i64 0, .int .i64 0, .slice none 0 0, .slice none 0 0] 29) []).cell c1b (by simp); clear hs hf)
        | (go_simp; go_at_call 42; (with_reducible refine (behind_any _ l _ A B BY2.out HB.out hlen hl Q0.out Q1.out E32.out BB2.out).mono ?_); rintro e wb ⟨u, rfl, p, rfl, hs, hf⟩; have FA := Lib.hid (FAL.out.trans hf); have PA := Lib.hid (show w.heap.size + 2 ≤ p by have := hs.low; simp at this; omega); have SA := Lib.hid hs; have BX := Lib.hid (hf.heap HBX.out (by simp)); have c1b := hf.cell (FAL.out.cell C0W.out (by simp)) (by simp); clear hs hf)
        | (go_simp; go_at_call 41; (with_reducible refine (readBody_any p l 2 0 ki _ A _ SAc.out _ k' c' HBD.out).mono ?_); rintro e wc hB; obtain ⟨hf, q, rfl, hq⟩ := hB.bad HC.out; have HQ := Lib.hid hq; clear hq; have hb2 := hf.heap (heap_alloc_new wb (.cells #[.int .i64 0, .int .i64 0, .int .i64 0, .int .i64 0, .int .i64 0, .bool false, .int .i64 0, .int .i64 0, .int .i64 0, .slice none 0 0, .slice none 0 0] 29)) (by have := SA.out.lt; simp; omega); have FC1 := Lib.hid ((FA.out.trans (Fr.alloc wb (.cells #[.int .i64 0, .int .i64 0, .int .i64 0, .int .i64 0, .int .i64 0, .bool false, .int .i64 0, .int .i64 0, .int .i64 0, .slice none 0 0, .slice none 0 0] 29) [])).new hf (by have := PA.out; simp; omega)); have BC := Lib.hid hb2; have hr11 := row11 hb2; have y0 := frz11 hb2 0; have y1 := frz11 hb2 1; have y2 := frz11 hb2 2; have y3 := frz11 hb2 3; have y4 := frz11 hb2 4; have y5 := frz11 hb2 5; have y6 := frz11 hb2 6; have y7 := frz11 hb2 7; have y8 := frz11 hb2 8; have y9 := frz11 hb2 9; have y10 := frz11 hb2 10;  unfold frV zeroF zeroR; dsimp only; clear hf hb2)
        | (go_simp; go_at_call 41; (with_reducible refine (readBody_any p l 2 0 ki _ A _ SA.out _ k' c' HBD.out).mono ?_); rintro e wc hB; obtain ⟨hf, q, rfl, hq⟩ := hB.bad HC.out; have HQ := Lib.hid hq; clear hq; have hb2 := hf.heap BX.out (by have := PA.out; simp; omega); have FC1 := Lib.hid (FA.out.new hf (by have := PA.out; simp; omega)); have BC := Lib.hid hb2; have hr11 := row11 hb2; have y0 := frz11 hb2 0; have y1 := frz11 hb2 1; have y2 := frz11 hb2 2; have y3 := frz11 hb2 3; have y4 := frz11 hb2 4; have y5 := frz11 hb2 5; have y6 := frz11 hb2 6; have y7 := frz11 hb2 7; have y8 := frz11 hb2 8; have y9 := frz11 hb2 9; have y10 := frz11 hb2 10;  unfold frV zeroF zeroR; dsimp only; clear hf hb2)
        | (go_simp; go_at_call 41; (with_reducible refine (readBody_any p l 2 0 ki _ A _ SA.out _ k' c' HBD.out).mono ?_); rintro e wc hB; obtain ⟨hf, q, rfl, hq⟩ := hB.bad HC.out; have HQ := Lib.hid hq; clear hq; have FC1 := Lib.hid (FA.out.new hf (by have := PA.out; simp; omega)); unfold frV zeroF zeroR; dsimp only; clear hf))
      all_goals
        go_wp2_with fail
        go_meet
        have hsz : w.heap.size + 1 ≤ wb.heap.size := by have h1 := FA.out.size; simp at h1; omega
        first
        | (have hbb := BC.out; exact ⟨q, rfl, (set11 wc _ _ _ _ _ _ _ _ _ _ _ _).heap HQ.out (heap_apart HQ.out BC.out (by decide)), FC1.out.new (set11 wc _ _ _ _ _ _ _ _ _ _ _ _) (by simp <;> omega)⟩)
        | exact ⟨q, rfl, (Fr.alloc wc _ []).heap HQ.out (by simp), FC1.out.trans (Fr.alloc _ _ _)⟩
    case rest =>
      obtain ⟨q, rfl, hq, hfc⟩ := hcut
      have HQ := Lib.hid hq
      have FW := Lib.hid (HF0.out.trans hfc)
      have GX := Lib.hid (hfc.heap HG0.out (by simp))
      have gk := row11 GX.out
      have y0 := frz11 GX.out 0
      have y1 := frz11 GX.out 1
      have y2 := frz11 GX.out 2
      have y3 := frz11 GX.out 3
      have y4 := frz11 GX.out 4
      have y5 := frz11 GX.out 5
      have y6 := frz11 GX.out 6
      have y7 := frz11 GX.out 7
      have y8 := frz11 GX.out 8
      have y9 := frz11 GX.out 9
      have y10 := frz11 GX.out 10
      clear hfc hq
      go_wp2
      refine bodyPost_ret (v := .tuple #[.agg #[.int .i64 0, .int .i64 0, .int .i64 0, .int .i64 0, .int .i64 0, .bool false, .int .i64 0, .int .i64 0, .int .i64 0, .slice none 0 0, .slice none 0 0], .iface 112 (.pointer (some ⟨q, 0, none⟩))]) (by simp [results, Tryd.results19, go_sem, gk]) rfl ?_
      show ReadE _ _ _ _ _
      rw [HR0.out]
      exact ⟨FW.out.new (set11 _ w.heap.size _ _ _ _ _ _ _ _ _ _ _) (by simp), _, _, _, rfl, nil_ints, nil_ents, (fun h => by cases h), fun _ => ⟨q, rfl, (set11 _ w.heap.size _ _ _ _ _ _ _ _ _ _ _).heap HQ.out (heap_apart HQ.out GX.out (by decide))⟩⟩
  by_cases hk : k' < l.length
  · have HC := Lib.hid hc
    have HKK := Lib.hid hk
    have HR0 : Hid (readF l = (zeroF, 2, false, 0)) := by
      have e1 := HBD.out
      rw [HKI.out] at e1
      show _ = _
      unfold readF
      rw [if_neg (by have := HL.out; omega), if_neg (by have := HKB.out; have := HKI.out; omega)]
      simp only [e1]
      rw [if_neg (by simpa using HC.out), if_pos HKK.out]
    clear hc hk
    go_enter Tryd.func19, Tryd.ntmps19
    go_wp2_with fail
    refine (isKind_any ki _ HK.out _).mono ?_
    rintro e w1 ⟨rfl, rfl⟩
    go_upto_region 5 with fail
    go_cut [4, 5] (fun s4 s5 wx => s5 = .iface 137 (.pointer (some (A 2))) ∧ Fr (w.alloc (.cells #[.int .i64 0, .int .i64 0, .int .i64 0, .int .i64 0, .int .i64 0, .bool false, .int .i64 0, .int .i64 0, .int .i64 0, .slice none 0 0, .slice none 0 0] 29)) wx [])
    case first =>
      have Q0 := Lib.hid (show l.getD 0 0 < 128 by rw [HL.out]; decide)
      have Q1 := Lib.hid (show l.getD 1 0 < 128 by rw [← HKI.out]; omega)
      have BB1 := Lib.hid (show B ≤ ((w.alloc (.cells #[.int .i64 0, .int .i64 0, .int .i64 0, .int .i64 0, .int .i64 0, .bool false, .int .i64 0, .int .i64 0, .int .i64 0, .slice none 0 0, .slice none 0 0] 29)).drew).heap.size by have := HBB.out; simp; omega)
      have FAL := Lib.hid ((Fr.alloc (w.alloc (.cells #[.int .i64 0, .int .i64 0, .int .i64 0, .int .i64 0, .int .i64 0, .bool false, .int .i64 0, .int .i64 0, .int .i64 0, .slice none 0 0, .slice none 0 0] 29)) (.cells #[.int .i64 0, .int .i64 0, .int .i64 0, .int .i64 0, .int .i64 0, .bool false, .int .i64 0, .int .i64 0, .int .i64 0, .slice none 0 0, .slice none 0 0] 29) []).trans (Fr.drew _ []))
      have BY2 := Lib.hid ((HBY.out.keep HF0.out).keep FAL.out)
      have E32 := Lib.hid ((HE3.out.fr HF0.out (by simp)).fr FAL.out (by simp))
      have BB2 := Lib.hid (show B ≤ (((w.alloc (.cells #[.int .i64 0, .int .i64 0, .int .i64 0, .int .i64 0, .int .i64 0, .bool false, .int .i64 0, .int .i64 0, .int .i64 0, .slice none 0 0, .slice none 0 0] 29)).alloc (.cells #[.int .i64 0, .int .i64 0, .int .i64 0, .int .i64 0, .int .i64 0, .bool false, .int .i64 0, .int .i64 0, .int .i64 0, .slice none 0 0, .slice none 0 0] 29)).drew).heap.size by have := HBB.out; simp; omega)
      have HBX := Lib.hid ((Fr.drew ((w.alloc (.cells #[.int .i64 0, .int .i64 0, .int .i64 0, .int .i64 0, .int .i64 0, .bool false, .int .i64 0, .int .i64 0, .int .i64 0, .slice none 0 0, .slice none 0 0] 29)).alloc (.cells #[.int .i64 0, .int .i64 0, .int .i64 0, .int .i64 0, .int .i64 0, .bool false, .int .i64 0, .int .i64 0, .int .i64 0, .slice none 0 0, .slice none 0 0] 29)) []).heap (two_boxes w (.cells #[.int .i64 0, .int .i64 0, .int .i64 0, .int .i64 0, .int .i64 0, .bool false, .int .i64 0, .int .i64 0, .int .i64 0, .slice none 0 0, .slice none 0 0] 29) (.cells #[.int .i64 0, .int .i64 0, .int .i64 0, .int .i64 0, .int .i64 0, .bool false, .int .i64 0, .int .i64 0, .int .i64 0, .slice none 0 0, .slice none 0 0] 29)).2 (by simp))
      have C0W := Lib.hid c1
      have hwk : IntKind.i64.wrap ki = ki := IntWalk.i64_in _ (by omega)
      go_region_law (first
        | (go_simp; go_at_call 42; (with_reducible refine (behind_any _ l _ A B BY1.out HB.out hlen hl Q0.out Q1.out E31.out BB1.out).mono ?_); rintro e wb ⟨u, rfl, p, rfl, hs, hf⟩; have FA := Lib.hid ((Fr.drew (w.alloc (.cells #[.int .i64 0, .int .i64 0, .int .i64 0, .int .i64 0, .int .i64 0, .bool false, .int .i64 0, .int .i64 0, .int .i64 0, .slice none 0 0, .slice none 0 0] 29)) []).trans hf); have PA := Lib.hid (show w.heap.size + 1 ≤ p by have := hs.low; simp at this; omega); have SA := Lib.hid hs; have SAc := Lib.hid (hs.keep (Fr.alloc wb (.cells #[.int .i64 0, .int .i64 0, .int .i64 0, .int .i64 0, .int .i64 0, .bool false, .int .i64 0, .int .i64 0, .int .i64 0, .slice none 0 0, .slice none 0 0] 29) [])); have c1b := hf.cell C1D.out (by simp); have c1c := (Fr.alloc wb (.cells #[.int .i64 0, .int .i64 0, .int .i64 0, .int .i64 0, .int .i64 0, .bool false, .int .i64 0, .int .i64 0, .int .i64 0, .slice none 0 0, .slice none 0 0] 29) []).cell c1b (by simp); clear hs hf)
        | (go_simp; go_at_call 42; (with_reducible refine (behind_any _ l _ A B BY2.out HB.out hlen hl Q0.out Q1.out E32.out BB2.out).mono ?_); rintro e wb ⟨u, rfl, p, rfl, hs, hf⟩; have FA := Lib.hid (FAL.out.trans hf); have PA := Lib.hid (show w.heap.size + 2 ≤ p by have := hs.low; simp at this; omega); have SA := Lib.hid hs; have BX := Lib.hid (hf.heap HBX.out (by simp)); have c1b := hf.cell (FAL.out.cell C0W.out (by simp)) (by simp); clear hs hf)
        | (go_simp; go_at_call 41; (with_reducible refine (readBody_any p l 2 0 ki _ A _ SAc.out _ k' c' HBD.out).mono ?_); rintro e wc hB; obtain ⟨hf, rfl⟩ := hB.more HC.out HKK.out; rw [ev_ne A (by decide)]; have hb2 := hf.heap (heap_alloc_new wb (.cells #[.int .i64 0, .int .i64 0, .int .i64 0, .int .i64 0, .int .i64 0, .bool false, .int .i64 0, .int .i64 0, .int .i64 0, .slice none 0 0, .slice none 0 0] 29)) (by have := SA.out.lt; simp; omega); have FC1 := Lib.hid ((FA.out.trans (Fr.alloc wb (.cells #[.int .i64 0, .int .i64 0, .int .i64 0, .int .i64 0, .int .i64 0, .bool false, .int .i64 0, .int .i64 0, .int .i64 0, .slice none 0 0, .slice none 0 0] 29) [])).new hf (by have := PA.out; simp; omega)); have BC := Lib.hid hb2; have hr11 := row11 hb2; have y0 := frz11 hb2 0; have y1 := frz11 hb2 1; have y2 := frz11 hb2 2; have y3 := frz11 hb2 3; have y4 := frz11 hb2 4; have y5 := frz11 hb2 5; have y6 := frz11 hb2 6; have y7 := frz11 hb2 7; have y8 := frz11 hb2 8; have y9 := frz11 hb2 9; have y10 := frz11 hb2 10;  unfold frV zeroF zeroR; dsimp only; clear hf hb2)
        | (go_simp; go_at_call 41; (with_reducible refine (readBody_any p l 2 0 ki _ A _ SA.out _ k' c' HBD.out).mono ?_); rintro e wc hB; obtain ⟨hf, rfl⟩ := hB.more HC.out HKK.out; rw [ev_ne A (by decide)]; have hb2 := hf.heap BX.out (by have := PA.out; simp; omega); have FC1 := Lib.hid (FA.out.new hf (by have := PA.out; simp; omega)); have BC := Lib.hid hb2; have hr11 := row11 hb2; have y0 := frz11 hb2 0; have y1 := frz11 hb2 1; have y2 := frz11 hb2 2; have y3 := frz11 hb2 3; have y4 := frz11 hb2 4; have y5 := frz11 hb2 5; have y6 := frz11 hb2 6; have y7 := frz11 hb2 7; have y8 := frz11 hb2 8; have y9 := frz11 hb2 9; have y10 := frz11 hb2 10;  unfold frV zeroF zeroR; dsimp only; clear hf hb2)
        | (go_simp; go_at_call 41; (with_reducible refine (readBody_any p l 2 0 ki _ A _ SA.out _ k' c' HBD.out).mono ?_); rintro e wc hB; obtain ⟨hf, rfl⟩ := hB.more HC.out HKK.out; rw [ev_ne A (by decide)]; have FC1 := Lib.hid (FA.out.new hf (by have := PA.out; simp; omega)); unfold frV zeroF zeroR; dsimp only; clear hf))
      all_goals
        go_wp2_with fail
        go_meet
        have hsz : w.heap.size + 1 ≤ wb.heap.size := by have h1 := FA.out.size; simp at h1; omega
        first
        | (have hbb := BC.out; exact ⟨rfl, FC1.out.new (set11 wc _ _ _ _ _ _ _ _ _ _ _ _) (by simp <;> omega)⟩)
        | exact ⟨rfl, FC1.out.trans (Fr.alloc _ _ _)⟩
    case rest =>
      obtain ⟨rfl, hfc⟩ := hcut
      have FW := Lib.hid (HF0.out.trans hfc)
      have GX := Lib.hid (hfc.heap HG0.out (by simp))
      have gk := row11 GX.out
      have y0 := frz11 GX.out 0
      have y1 := frz11 GX.out 1
      have y2 := frz11 GX.out 2
      have y3 := frz11 GX.out 3
      have y4 := frz11 GX.out 4
      have y5 := frz11 GX.out 5
      have y6 := frz11 GX.out 6
      have y7 := frz11 GX.out 7
      have y8 := frz11 GX.out 8
      have y9 := frz11 GX.out 9
      have y10 := frz11 GX.out 10
      clear hfc
      go_wp2
      refine bodyPost_ret (v := .tuple #[.agg #[.int .i64 0, .int .i64 0, .int .i64 0, .int .i64 0, .int .i64 0, .bool false, .int .i64 0, .int .i64 0, .int .i64 0, .slice none 0 0, .slice none 0 0], .iface 137 (.pointer (some (A 2)))]) (by simp [results, Tryd.results19, go_sem, gk]) rfl ?_
      show ReadE _ _ _ _ _
      rw [HR0.out]
      exact ⟨FW.out.new (set11 _ w.heap.size _ _ _ _ _ _ _ _ _ _ _) (by simp), _, _, _, rfl, nil_ints, nil_ents, fun _ => rfl, fun h => by cases h⟩
  have HC := Lib.hid hc
  have HKK := Lib.hid hk
  clear hc hk
  obtain ⟨f0, f1, f2, f3, f4, f5, ⟨r0, r1, r2, rm, re⟩⟩ := f
  go_enter Tryd.func19, Tryd.ntmps19
  go_wp2_with fail
  refine (isKind_any ki _ HK.out _).mono ?_
  rintro e w1 ⟨rfl, rfl⟩
  go_upto_region 5 with fail
  go_cut [4, 5] (fun s4 s5 wx => ∃ (fg : Nat) (vm ve : Value) (xs : List (En × Value)), s4 = .pointer (some ⟨fg, 0, none⟩) ∧ s5 = .nilIface ∧ wx.heap[fg]? = some (.cells #[.int .i64 f0, .int .i64 f1, .int .i64 f2, .int .i64 f3, .int .i64 f4, .bool f5, .int .i64 r0, .int .i64 r1, .int .i64 r2, vm, ve] 29 (0, 0)) ∧ w.heap.size + 1 ≤ fg ∧ OwnI wx (w.heap.size + 1) vm rm ∧ OwnE wx (w.heap.size + 1) ve xs ∧ xs.map (·.1) = re ∧ Fr (w.alloc (.cells #[.int .i64 0, .int .i64 0, .int .i64 0, .int .i64 0, .int .i64 0, .bool false, .int .i64 0, .int .i64 0, .int .i64 0, .slice none 0 0, .slice none 0 0] 29)) wx [])
  case first =>
    have Q0 := Lib.hid (show l.getD 0 0 < 128 by rw [HL.out]; decide)
    have Q1 := Lib.hid (show l.getD 1 0 < 128 by rw [← HKI.out]; omega)
    have BB1 := Lib.hid (show B ≤ ((w.alloc (.cells #[.int .i64 0, .int .i64 0, .int .i64 0, .int .i64 0, .int .i64 0, .bool false, .int .i64 0, .int .i64 0, .int .i64 0, .slice none 0 0, .slice none 0 0] 29)).drew).heap.size by have := HBB.out; simp; omega)
    have FAL := Lib.hid ((Fr.alloc (w.alloc (.cells #[.int .i64 0, .int .i64 0, .int .i64 0, .int .i64 0, .int .i64 0, .bool false, .int .i64 0, .int .i64 0, .int .i64 0, .slice none 0 0, .slice none 0 0] 29)) (.cells #[.int .i64 0, .int .i64 0, .int .i64 0, .int .i64 0, .int .i64 0, .bool false, .int .i64 0, .int .i64 0, .int .i64 0, .slice none 0 0, .slice none 0 0] 29) []).trans (Fr.drew _ []))
    have BY2 := Lib.hid ((HBY.out.keep HF0.out).keep FAL.out)
    have E32 := Lib.hid ((HE3.out.fr HF0.out (by simp)).fr FAL.out (by simp))
    have BB2 := Lib.hid (show B ≤ (((w.alloc (.cells #[.int .i64 0, .int .i64 0, .int .i64 0, .int .i64 0, .int .i64 0, .bool false, .int .i64 0, .int .i64 0, .int .i64 0, .slice none 0 0, .slice none 0 0] 29)).alloc (.cells #[.int .i64 0, .int .i64 0, .int .i64 0, .int .i64 0, .int .i64 0, .bool false, .int .i64 0, .int .i64 0, .int .i64 0, .slice none 0 0, .slice none 0 0] 29)).drew).heap.size by have := HBB.out; simp; omega)
    have HBX := Lib.hid ((Fr.drew ((w.alloc (.cells #[.int .i64 0, .int .i64 0, .int .i64 0, .int .i64 0, .int .i64 0, .bool false, .int .i64 0, .int .i64 0, .int .i64 0, .slice none 0 0, .slice none 0 0] 29)).alloc (.cells #[.int .i64 0, .int .i64 0, .int .i64 0, .int .i64 0, .int .i64 0, .bool false, .int .i64 0, .int .i64 0, .int .i64 0, .slice none 0 0, .slice none 0 0] 29)) []).heap (two_boxes w (.cells #[.int .i64 0, .int .i64 0, .int .i64 0, .int .i64 0, .int .i64 0, .bool false, .int .i64 0, .int .i64 0, .int .i64 0, .slice none 0 0, .slice none 0 0] 29) (.cells #[.int .i64 0, .int .i64 0, .int .i64 0, .int .i64 0, .int .i64 0, .bool false, .int .i64 0, .int .i64 0, .int .i64 0, .slice none 0 0, .slice none 0 0] 29)).2 (by simp))
    have C0W := Lib.hid c1
    have hwk : IntKind.i64.wrap ki = ki := IntWalk.i64_in _ (by omega)
    go_region_law (first
      | (go_simp; go_at_call 42; (with_reducible refine (behind_any _ l _ A B BY1.out HB.out hlen hl Q0.out Q1.out E31.out BB1.out).mono ?_); rintro e wb ⟨u, rfl, p, rfl, hs, hf⟩; have FA := Lib.hid ((Fr.drew (w.alloc (.cells #[.int .i64 0, .int .i64 0, .int .i64 0, .int .i64 0, .int .i64 0, .bool false, .int .i64 0, .int .i64 0, .int .i64 0, .slice none 0 0, .slice none 0 0] 29)) []).trans hf); have PA := Lib.hid (show w.heap.size + 1 ≤ p by have := hs.low; simp at this; omega); have SA := Lib.hid hs; have SAc := Lib.hid (hs.keep (Fr.alloc wb (.cells #[.int .i64 0, .int .i64 0, .int .i64 0, .int .i64 0, .int .i64 0, .bool false, .int .i64 0, .int .i64 0, .int .i64 0, .slice none 0 0, .slice none 0 0] 29) [])); have c1b := hf.cell C1D.out (by simp); have c1c := (Fr.alloc wb (.cells #[.int .i64 0, .int .i64 0, .int .i64 0, .int .i64 0, .int .i64 0, .bool false, .int .i64 0, .int .i64 0, .int .i64 0, .slice none 0 0, .slice none 0 0] 29) []).cell c1b (by simp); clear hs hf)
      | (go_simp; go_at_call 42; (with_reducible refine (behind_any _ l _ A B BY2.out HB.out hlen hl Q0.out Q1.out E32.out BB2.out).mono ?_); rintro e wb ⟨u, rfl, p, rfl, hs, hf⟩; have FA := Lib.hid (FAL.out.trans hf); have PA := Lib.hid (show w.heap.size + 2 ≤ p by have := hs.low; simp at this; omega); have SA := Lib.hid hs; have BX := Lib.hid (hf.heap HBX.out (by simp)); have c1b := hf.cell (FAL.out.cell C0W.out (by simp)) (by simp); clear hs hf)
      | (go_simp; go_at_call 41; (with_reducible refine (readBody_any p l 2 0 ki _ A _ SAc.out _ k' c' HBD.out).mono ?_); rintro e wc hB; obtain ⟨hf, vm, ve, xs, rfl, hom, hoe, hxs⟩ := hB.fine HC.out HKK.out; have hb2 := hf.heap (heap_alloc_new wb (.cells #[.int .i64 0, .int .i64 0, .int .i64 0, .int .i64 0, .int .i64 0, .bool false, .int .i64 0, .int .i64 0, .int .i64 0, .slice none 0 0, .slice none 0 0] 29)) (by have := SA.out.lt; simp; omega); have OM := Lib.hid hom; have OE := Lib.hid hoe; have HXS := Lib.hid hxs; have FC1 := Lib.hid ((FA.out.trans (Fr.alloc wb (.cells #[.int .i64 0, .int .i64 0, .int .i64 0, .int .i64 0, .int .i64 0, .bool false, .int .i64 0, .int .i64 0, .int .i64 0, .slice none 0 0, .slice none 0 0] 29) [])).new hf (by have := PA.out; simp; omega)); have BC := Lib.hid hb2; have hr11 := row11 hb2; have y0 := frz11 hb2 0; have y1 := frz11 hb2 1; have y2 := frz11 hb2 2; have y3 := frz11 hb2 3; have y4 := frz11 hb2 4; have y5 := frz11 hb2 5; have y6 := frz11 hb2 6; have y7 := frz11 hb2 7; have y8 := frz11 hb2 8; have y9 := frz11 hb2 9; have y10 := frz11 hb2 10; obtain ⟨zm, cm, rfl⟩ := hom.holds.shape; obtain ⟨ze, ce, hve⟩ := hoe.he.shape; rw [List.length_map] at hve; subst hve; unfold frV; clear hf hom hoe hxs hb2)
      | (go_simp; go_at_call 41; (with_reducible refine (readBody_any p l 2 0 ki _ A _ SA.out _ k' c' HBD.out).mono ?_); rintro e wc hB; obtain ⟨hf, vm, ve, xs, rfl, hom, hoe, hxs⟩ := hB.fine HC.out HKK.out; have hb2 := hf.heap BX.out (by have := PA.out; simp; omega); have OM := Lib.hid hom; have OE := Lib.hid hoe; have HXS := Lib.hid hxs; have FC1 := Lib.hid (FA.out.new hf (by have := PA.out; simp; omega)); have BC := Lib.hid hb2; have hr11 := row11 hb2; have y0 := frz11 hb2 0; have y1 := frz11 hb2 1; have y2 := frz11 hb2 2; have y3 := frz11 hb2 3; have y4 := frz11 hb2 4; have y5 := frz11 hb2 5; have y6 := frz11 hb2 6; have y7 := frz11 hb2 7; have y8 := frz11 hb2 8; have y9 := frz11 hb2 9; have y10 := frz11 hb2 10; obtain ⟨zm, cm, rfl⟩ := hom.holds.shape; obtain ⟨ze, ce, hve⟩ := hoe.he.shape; rw [List.length_map] at hve; subst hve; unfold frV; clear hf hom hoe hxs hb2)
      | (go_simp; go_at_call 41; (with_reducible refine (readBody_any p l 2 0 ki _ A _ SA.out _ k' c' HBD.out).mono ?_); rintro e wc hB; obtain ⟨hf, vm, ve, xs, rfl, hom, hoe, hxs⟩ := hB.fine HC.out HKK.out; have OM := Lib.hid hom; have OE := Lib.hid hoe; have HXS := Lib.hid hxs; have FC1 := Lib.hid (FA.out.new hf (by have := PA.out; simp; omega)); obtain ⟨zm, cm, rfl⟩ := hom.holds.shape; obtain ⟨ze, ce, hve⟩ := hoe.he.shape; rw [List.length_map] at hve; subst hve; unfold frV; clear hf hom hoe hxs))
    all_goals
      go_wp2_with fail
      go_meet
      have hsz : w.heap.size + 1 ≤ wb.heap.size := by have h1 := FA.out.size; simp at h1; omega
      first
      | (have hbb := BC.out; exact ⟨_, _, _, xs, rfl, rfl, set11_row BC.out _ _ _ _ _ _ _ _ _ _ _, (by omega), row_mono (row_fr OM.out (set11 wc _ _ _ _ _ _ _ _ _ _ _ _) (by intro r hr; obtain rfl := List.mem_singleton.1 hr; exact row_ne OM.out BC.out (by decide))) (by (try simp) <;> omega), (OE.out.fr (set11 wc _ _ _ _ _ _ _ _ _ _ _ _) (by intro r hr; obtain rfl := List.mem_singleton.1 hr; exact ⟨_, _, BC.out, by decide, by decide⟩)).mono (by (try simp) <;> omega), HXS.out, FC1.out.new (set11 wc _ _ _ _ _ _ _ _ _ _ _ _) (by simp <;> omega)⟩)
      | exact ⟨_, _, _, xs, rfl, rfl, heap_alloc_new wc _, (by have h1 := FC1.out.size; simp at h1; omega), row_mono (row_fr OM.out (Fr.alloc wc _ []) (by simp)) (by omega), (OE.out.fr (Fr.alloc wc _ []) (by simp)).mono (by omega), HXS.out, FC1.out.trans (Fr.alloc _ _ _)⟩
  case rest =>
    obtain ⟨fg, vm, ve, xs, rfl, rfl, hrow, hfg, hom, hoe, hxs, hfc⟩ := hcut
    have hk := row11 hrow
    have FW := Lib.hid (HF0.out.trans hfc)
    have GX := Lib.hid (hfc.heap HG0.out (by simp))
    have OM := Lib.hid hom
    have OE := Lib.hid hoe
    have HXS := Lib.hid hxs
    have HEX := Lib.hid (show HE _ ve re by have := hoe.he; rw [hxs] at this; exact this)
    have HRW := Lib.hid hrow
    obtain ⟨zm, cm, rfl⟩ := hom.holds.shape
    obtain ⟨ze, ce, hve⟩ := HEX.out.shape
    subst hve
    clear hrow hom hoe hxs hfc
    go_wp2_with fail
    refine (valid_frame ⟨f0, f1, f2, f3, f4, f5, ⟨r0, r1, r2, rm, re⟩⟩ _ _ _ A B is (HEV.out.keep FW.out) OM.out.holds HEX.out (fun i hi => HS.out i (by simp at hi ⊢; omega))).mono ?_
    rintro e wd ⟨rfl, hfd⟩
    have hk2 := row11 (hfd.heap HRW.out (by simp))
    have GD := Lib.hid (hfd.heap GX.out (by simp))
    have gk := row11 GD.out
    have y0 := frz11 GD.out 0
    have y1 := frz11 GD.out 1
    have y2 := frz11 GD.out 2
    have y3 := frz11 GD.out 3
    have y4 := frz11 GD.out 4
    have y5 := frz11 GD.out 5
    have y6 := frz11 GD.out 6
    have y7 := frz11 GD.out 7
    have y8 := frz11 GD.out 8
    have y9 := frz11 GD.out 9
    have y10 := frz11 GD.out 10
    have FD := Lib.hid (FW.out.trans hfd)
    have OMD := Lib.hid (row_fr OM.out hfd (by simp))
    have OED := Lib.hid (OE.out.fr hfd (by simp))
    clear hk hfd
    by_cases hz : frameC ⟨f0, f1, f2, f3, f4, f5, ⟨r0, r1, r2, rm, re⟩⟩ = 0
    · have HR0 : Hid (readF l = (⟨f0, f1, f2, f3, f4, f5, ⟨r0, r1, r2, rm, re⟩⟩, 0, false, 0)) := by
        have e1 := HBD.out
        rw [HKI.out] at e1
        show _ = _
        unfold readF
        rw [if_neg (by have := HL.out; omega), if_neg (by have := HKB.out; have := HKI.out; omega)]
        simp only [e1]
        rw [if_neg (by simpa using HC.out), if_neg HKK.out, if_neg (by simpa using hz)]
      rw [hz, show ev A 0 = .nilIface from rfl]
      clear hz
      go_wp2
      have FZ := Lib.hid (set11 wd w.heap.size (.int .i64 f0) (.int .i64 f1) (.int .i64 f2) (.int .i64 f3) (.int .i64 f4) (.bool f5) (.int .i64 r0) (.int .i64 r1) (.int .i64 r2) (.slice zm rm.length cm) (.slice ze re.length ce))
      have HR : Hid (ReadE A (readF l) w (.returned (.tuple #[.agg #[.int .i64 f0, .int .i64 f1, .int .i64 f2, .int .i64 f3, .int .i64 f4, .bool f5, .int .i64 r0, .int .i64 r1, .int .i64 r2, .slice zm rm.length cm, .slice ze re.length ce], .nilIface])) (((((((((((wd.setCell ⟨w.heap.size, 0, none⟩ (.int .i64 f0)).setCell ⟨w.heap.size, 1, none⟩ (.int .i64 f1)).setCell ⟨w.heap.size, 2, none⟩ (.int .i64 f2)).setCell ⟨w.heap.size, 3, none⟩ (.int .i64 f3)).setCell ⟨w.heap.size, 4, none⟩ (.int .i64 f4)).setCell ⟨w.heap.size, 5, none⟩ (.bool f5)).setCell ⟨w.heap.size, 6, none⟩ (.int .i64 r0)).setCell ⟨w.heap.size, 7, none⟩ (.int .i64 r1)).setCell ⟨w.heap.size, 8, none⟩ (.int .i64 r2)).setCell ⟨w.heap.size, 9, none⟩ (.slice zm rm.length cm)).setCell ⟨w.heap.size, 10, none⟩ (.slice ze re.length ce))) := by
        rw [HR0.out]
        refine ⟨FD.out.new FZ.out (by simp), _, _, _, rfl, OwnI.holds (B := w.heap.size + 1) (row_fr OMD.out FZ.out (by intro r hr; obtain rfl := List.mem_singleton.1 hr; exact row_ne OMD.out GD.out (by decide))), ?_, fun _ => rfl, fun h => by cases h⟩
        have := (OED.out.fr FZ.out (by intro r hr; obtain rfl := List.mem_singleton.1 hr; exact ⟨_, _, GD.out, by decide, by decide⟩)).he
        rw [HXS.out] at this
        exact this
      exact bodyPost_ret (v := .tuple #[.agg #[.int .i64 f0, .int .i64 f1, .int .i64 f2, .int .i64 f3, .int .i64 f4, .bool f5, .int .i64 r0, .int .i64 r1, .int .i64 r2, .slice zm rm.length cm, .slice ze re.length ce], .nilIface]) (by simp [results, Tryd.results19, go_sem, gk]) rfl HR.out
    · have HR0 : Hid (readF l = (zeroF, frameC ⟨f0, f1, f2, f3, f4, f5, ⟨r0, r1, r2, rm, re⟩⟩, false, 0)) := by
        have e1 := HBD.out
        rw [HKI.out] at e1
        show _ = _
        unfold readF
        rw [if_neg (by have := HL.out; omega), if_neg (by have := HKB.out; have := HKI.out; omega)]
        simp only [e1]
        rw [if_neg (by simpa using HC.out), if_neg HKK.out, if_pos hz]
      obtain ⟨C, hC⟩ : ∃ C, C = frameC ⟨f0, f1, f2, f3, f4, f5, ⟨r0, r1, r2, rm, re⟩⟩ := ⟨_, rfl⟩
      have HR1 := HR0.out
      rw [← hC] at hz HR1 ⊢
      have HR2 := Lib.hid HR1
      have HEN := Lib.hid (ev_ne A hz)
      rw [ev_ne A hz]
      clear hz hC HR1 HR0
      go_wp2
      have FZ := Lib.hid (set11 wd w.heap.size (.int .i64 0) (.int .i64 0) (.int .i64 0) (.int .i64 0) (.int .i64 0) (.bool false) (.int .i64 0) (.int .i64 0) (.int .i64 0) (.slice none 0 0) (.slice none 0 0))
      have HR : Hid (ReadE A (readF l) w (.returned (.tuple #[.agg #[.int .i64 0, .int .i64 0, .int .i64 0, .int .i64 0, .int .i64 0, .bool false, .int .i64 0, .int .i64 0, .int .i64 0, .slice none 0 0, .slice none 0 0], .iface 137 (.pointer (some (A C)))])) (((((((((((wd.setCell ⟨w.heap.size, 0, none⟩ (.int .i64 0)).setCell ⟨w.heap.size, 1, none⟩ (.int .i64 0)).setCell ⟨w.heap.size, 2, none⟩ (.int .i64 0)).setCell ⟨w.heap.size, 3, none⟩ (.int .i64 0)).setCell ⟨w.heap.size, 4, none⟩ (.int .i64 0)).setCell ⟨w.heap.size, 5, none⟩ (.bool false)).setCell ⟨w.heap.size, 6, none⟩ (.int .i64 0)).setCell ⟨w.heap.size, 7, none⟩ (.int .i64 0)).setCell ⟨w.heap.size, 8, none⟩ (.int .i64 0)).setCell ⟨w.heap.size, 9, none⟩ (.slice none 0 0)).setCell ⟨w.heap.size, 10, none⟩ (.slice none 0 0))) := by
        rw [HR2.out]
        exact ⟨FD.out.new FZ.out (by simp), _, _, _, rfl, nil_ints, nil_ents, fun _ => HEN.out.symm, fun h => by cases h⟩
      exact bodyPost_ret (v := .tuple #[.agg #[.int .i64 0, .int .i64 0, .int .i64 0, .int .i64 0, .int .i64 0, .bool false, .int .i64 0, .int .i64 0, .int .i64 0, .slice none 0 0, .slice none 0 0], .iface 137 (.pointer (some (A C)))]) (by simp [results, Tryd.results19, go_sem, gk]) rfl HR.out
end Go.Proofs.YtpeocdcciecpoaaDoor
