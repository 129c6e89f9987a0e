/- slices.Delete of one latch. -/
import Derived.Test.YtfopmpaoigdelaaKIns
namespace Go.Proofs.Ytfopmpaoigdelaa
open Go.RowKit

def noL : List Value := [.int .i64 0, .int .i64 0, .int .i64 0]
/-- 'clear(s)', s one latch in a block of latches. -/
theorem run_clear_one (w : World) (ty : TypeId) (g o c : Nat) (cur : Array Value) (hg : w.heap[g]? = some (.cells cur 25 (0, 0))) (ho : o + 3 ≤ cur.size) :
    (Builtin.clear_ #[27] ty #[.slice (some ⟨g, o, none⟩) 1 c]).run Try.prog w = .ok (.tuple #[]) (w.setRow g (cur.toList.take o ++ noL ++ cur.toList.drop (o + 3)).toArray) := by
  have hst := run_storeCells_at Try.prog g o 25 noL 0 cur w hg (by simpa [noL] using ho) (by simp [noL, Value.oneCell'])
  have hz : (Builtin.zeroCells (Value.agg #[Value.int .i64 0, Value.int .i64 0, Value.int .i64 0]).cells 1).toList = [Value.int .i64 0, Value.int .i64 0, Value.int .i64 0] := by
    simp [Builtin.zeroCells, Value.cells, List.range_succ]
  have hst0 : (Sem.run Try.prog (storeCells ⟨g, o, none⟩ [Value.int .i64 0, Value.int .i64 0, Value.int .i64 0]) w) = .ok () (w.setRow g (cur.toList.take o ++ noL ++ cur.toList.drop (o + 3)).toArray) := by
    simpa [noL] using hst
  simp only [Builtin.clear_]
  simp [run_underlying Try.underlying27, hz, hst0]
theorem setCells_row (g : Nat) (T : TypeId) : ∀ (vs : List Value) (o : Nat) (cur : Array Value) (w : World), w.heap[g]? = some (.cells cur T (0, 0)) → o + vs.length ≤ cur.size →
    (w.setCells g o vs).heap[g]? = some (.cells (cur.toList.take o ++ vs ++ cur.toList.drop (o + vs.length)).toArray T (0, 0))
  | [], o, cur, w, hg, _ => by simpa [World.setCells] using hg
  | v :: vs, o, cur, w, hg, h => by
    have h' : o + 1 + vs.length ≤ cur.size := by simp at h; omega
    have := setCells_row g T vs (o + 1) (cur.setIfInBounds o v) (w.setCell ⟨g, o, none⟩ v) (heap_setCell_same w g o _ _ _ hg) (by simpa using h')
    show ((w.setCell ⟨g, o, none⟩ v).setCells g (o + 1) vs).heap[g]? = _
    rw [this]
    congr 3
    have hl : o < cur.toList.length := by rw [Array.length_toList]; omega
    rw [Array.toList_setIfInBounds, List.take_succ_eq_append_getElem (by simpa using hl), List.take_set_of_le (Nat.le_refl o), List.drop_set_of_lt (by omega)]
    simp only [List.getElem_set_self, List.append_assoc, List.cons_append, List.nil_append, List.length_cons]
    rw [show o + 1 + vs.length = o + (vs.length + 1) by omega]
theorem setCells_fr (g : Nat) : ∀ (vs : List Value) (o : Nat) (w : World), Fr w (w.setCells g o vs) [g]
  | [], o, w => Fr.refl _ _
  | v :: vs, o, w => (Fr.setCell w g o v (by simp)).trans (setCells_fr g vs (o + 1) _)

/-- The cells behind the shift, and behind the end's zero. -/
theorem shift_take {X Y : List Value} {i n : Nat} (hX : 3 * n ≤ X.length) (hi : i < n) (hY : Y.length = 3 * (n - (i + 1))) :
    ((X.take (3 * i) ++ Y ++ X.drop (3 * i + Y.length)).take (3 * (n - 1)) ++ noL ++ (X.take (3 * i) ++ Y ++ X.drop (3 * i + Y.length)).drop (3 * (n - 1) + 3)).take ((n - 1) * 3) = X.take (3 * i) ++ Y := by
  have h1 : (X.take (3 * i) ++ Y).length = 3 * (n - 1) := by rw [List.length_append, List.length_take, hY]; omega
  rw [List.append_assoc _ noL, Nat.mul_comm (n - 1) 3]
  have h2 : (X.take (3 * i) ++ Y ++ X.drop (3 * i + Y.length)).take (3 * (n - 1)) = X.take (3 * i) ++ Y := List.take_left' h1
  rw [h2, List.take_left' h1]
theorem shift_len {X Y : List Value} {i n : Nat} (hX : 3 * n ≤ X.length) (hi : i < n) (hY : Y.length = 3 * (n - (i + 1))) :
    ((X.take (3 * i) ++ Y ++ X.drop (3 * i + Y.length)).take (3 * (n - 1)) ++ noL ++ (X.take (3 * i) ++ Y ++ X.drop (3 * i + Y.length)).drop (3 * (n - 1) + 3)).length = X.length := by
  simp only [List.length_append, List.length_take, List.length_drop, hY, show noL.length = 3 from rfl]
  omega

set_option maxHeartbeats 1000000 in
set_option maxRecDepth 100000 in
theorem delete_any (B g c i : Nat) (L : List La) (w : World) (h : OwnL w B (.slice (some ⟨g, 0, none⟩) L.length c) L) (hi : i < L.length) :
    Calls Try.prog 29 #[.slice (some ⟨g, 0, none⟩) L.length c, .int .i64 i, .int .i64 ((i : Int) + 1)] w fun e w' => e = .returned (.slice (some ⟨g, 0, none⟩) (L.length - 1) c) ∧ OwnL w' B (.slice (some ⟨g, 0, none⟩) (L.length - 1) c) (L.eraseIdx i) ∧ Fr w w' [g] := by
  obtain ⟨i0, hi0, hz0, hz1, hz2⟩ := info_parts infoL
  obtain ⟨cs, hg, hB, hnc, hcm, hsz, htk⟩ := row_at h
  have hcells := row_cells h
  obtain ⟨n, hn⟩ : ∃ n, n = L.length := ⟨_, rfl⟩
  obtain ⟨news, hnews⟩ : ∃ news, news = (laC L).drop ((i + 1) * 3) := ⟨_, rfl⟩
  have hlen : news.length = 3 * (n - (i + 1)) := by rw [hnews, List.length_drop, laC_len]; omega
  obtain ⟨A, hA, hsrc⟩ : ∃ A : Addr, (if c = i + 1 then some (⟨g, 0, none⟩ : Addr) else some ⟨g, (i + 1) * 3, none⟩) = some A ∧ Hid (∀ t u, news[t]? = some u → w.drew.cell? (A.add t) = some u) := by
    by_cases hc : c = i + 1
    · refine ⟨⟨g, 0, none⟩, by simp [hc], fun t u hu => ?_⟩
      have h0 : news.length = 0 := by rw [hlen]; omega
      rw [List.length_eq_zero_iff.1 h0] at hu
      simp at hu
    · refine ⟨⟨g, (i + 1) * 3, none⟩, by simp [hc], fun t u hu => ?_⟩
      rw [hnews, List.getElem?_drop] at hu
      have := hcells _ u hu
      rw [Addr.add_lit] at this ⊢
      rw [Nat.zero_add] at this
      exact this
  have s1 : Hid (news.length = (n - (i + 1)) * 3) := by show _ = _; omega
  have s2 : Hid (∀ u ∈ news, u.oneCell' = true) := fun u hu => laC_one L u (List.mem_of_mem_drop (hnews ▸ hu))
  have s3 : Hid (∀ t, t < news.length → (w.drew.cell? ⟨g, 0 + i * 3 + t, none⟩).isSome = true ∧ w.drew.frozen? ⟨g, 0 + i * 3 + t, none⟩ = false) := by
    intro t ht
    refine ⟨?_, frozen_of_row w g _ _ _ hg⟩
    show (w.cell? _).isSome = true
    rw [cell_of_row w g _ _ _ _ hg, Array.getElem?_eq_getElem (by omega)]
    rfl
  obtain ⟨W1, hW1⟩ : ∃ W1, W1 = w.drew.setCells g (0 + i * 3) news := ⟨_, rfl⟩
  have hrow : W1.heap[g]? = some (.cells (cs.toList.take (3 * i) ++ news ++ cs.toList.drop (3 * i + news.length)).toArray 25 (0, 0)) := by
    rw [hW1, show 0 + i * 3 = 3 * i by omega]
    exact setCells_row g _ news (3 * i) cs w.drew hg (by omega)
  have hX : 3 * n ≤ cs.toList.length := by rw [Array.length_toList]; omega
  have hcl := fun ty => run_clear_one W1 ty g (3 * (n - 1)) (c - (n - 1)) _ hrow (by simp only [List.size_toArray, List.length_append, List.length_take, List.length_drop]; omega)
  have HRW := Lib.hid (setRow_heap W1 g _ ((cs.toList.take (3 * i) ++ news ++ cs.toList.drop (3 * i + news.length)).take (3 * (n - 1)) ++ noL ++ (cs.toList.take (3 * i) ++ news ++ cs.toList.drop (3 * i + news.length)).drop (3 * (n - 1) + 3)).toArray _ _ hrow)
  obtain ⟨ROW, hROW⟩ : ∃ ROW, ROW = ((cs.toList.take (3 * i) ++ news ++ cs.toList.drop (3 * i + news.length)).take (3 * (n - 1)) ++ noL ++ (cs.toList.take (3 * i) ++ news ++ cs.toList.drop (3 * i + news.length)).drop (3 * (n - 1) + 3)).toArray := ⟨_, rfl⟩
  have HF1 := Lib.hid (show Fr w W1 [g] by rw [hW1]; exact (Fr.drew w [g]).trans (setCells_fr g _ _ _))
  have HO : Hid (ROW.size = c * 3 ∧ ROW.toList.take ((n - 1) * 3) = laC (L.eraseIdx i) ∧ (L.eraseIdx i).length = n - 1) := by
    refine ⟨?_, ?_, ?_⟩
    · rw [hROW, List.size_toArray, shift_len hX (by omega) hlen, Array.length_toList, hsz]
    · rw [hROW, List.toList_toArray, shift_take hX (by omega) hlen, List.eraseIdx_eq_take_drop_succ, laC_app, laC_take, laC_drop, hnews, ← htk, List.take_take, Nat.min_eq_left (by omega), Nat.mul_comm i 3]
    · rw [List.length_eraseIdx, if_pos hi, hn]
  rw [← hROW] at HRW
  have hcl' : ∀ ty, (Builtin.clear_ #[27] ty #[.slice (some ⟨g, (i + (n - (i + 1))) * 3, none⟩) (n - (i + (n - (i + 1)))) (c - (i + (n - (i + 1))))]).run Try.prog W1 = .ok (.tuple #[]) (W1.setRow g ROW) := by
    intro ty
    have hk : i + (n - (i + 1)) = n - 1 := by omega
    rw [hk, show n - (n - 1) = 1 by omega, Nat.mul_comm (n - 1) 3, hROW]
    exact hcl ty
  have hic : i ≤ c := by omega
  have hwr : IntKind.i64.wrap ((i : Int) + 1) = (i : Int) + 1 := by unfold maxLen at hcm; rw [IntKind.wrap_i64]; omega
  have hp0 : (0 : Int) ≤ (i : Int) + 1 := by omega
  have hp1 : (i : Int) + 1 ≤ (n : Int) := by omega
  have hp2 : ((i : Int) + 1).toNat = i + 1 := by omega
  have hne : ((i : Int) == (i : Int) + 1) = false := by simp; omega
  have hnc' : n ≤ c := by omega
  have hin : i < n := by omega
  unfold maxLen at hcm
  have HW : Hid (W1 = w.drew.setCells g (0 + i * 3) news) := hW1
  have HN := Lib.hid hn
  clear hcl hW1 hROW hrow hX hsz htk hlen hnews hcells hg h hnc hi
  rw [← HN.out]
  clear hn
  go_enter Try.func29, Try.ntmps29
  go_wp2_with fail
  go_region_law (refine step_append_room rfl (.tmp 22) (.tmp 25) 27 rfl 25 i0 3 Try.underlying27 hi0 hz1 g 0 i c (by simp [Act.eval, Act.put]) A (n - (i + 1)) (c - (i + 1)) news (by simp [Act.eval, Act.put]) s1.out hsrc.out s2.out (by omega) s3.out ?_; rw [← HW.out])
  go_wp2
  go_ret
  have hk : i + (n - (i + 1)) = n - 1 := by omega
  rw [hk]
  refine ⟨rfl, ?_, HF1.out.trans ⟨rfl, rfl, rfl, by simp, fun k _ hn => setRow_other _ _ _ _ (fun e => hn (by simp [e]))⟩⟩
  unfold OwnL
  rw [HO.out.2.2]
  exact ⟨by rw [laC_len, HO.out.2.2], .inr ⟨g, c, ROW, rfl, hB, HRW.out, by omega, by unfold maxLen; omega, HO.out.1, HO.out.2.1⟩⟩
end Go.Proofs.Ytfopmpaoigdelaa
