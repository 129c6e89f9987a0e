/- The document's sets of calls: less, a copy, Del, Keep. -/
import Derived.Test.YtfopmpaoigdelaaKHas
import Derived.Test.YtfopmpaoigdelaaKCmp
import Derived.Deep.AppendLies
namespace Go.Proofs.Ytfopmpaoigdelaa
open Go.RowKit

set_option maxRecDepth 100000 in
theorem lessCall_any (f d f' d' : Int) (w : World) (b : Bool) (hb : b = decide (Lt2 f d f' d')) :
    Calls Try.prog 24 #[.agg #[.int .i64 f, .int .i64 d], .agg #[.int .i64 f', .int .i64 d']] w fun e w' => e = .returned (.bool b) ∧ Fr w w' [] := by
  have HS := Lib.hid (SC.boxes w f d f' d').1
  by_cases h1 : f < f'
  · have HB : Hid (b = true) := by show _ = _; rw [hb, decide_eq_true_iff]; exact .inl h1
    clear hb
    go_enter Try.func24, Try.ntmps24
    go_wp2
    go_ret
    exact ⟨by rw [HB.out]; rfl, HS.out⟩
  · by_cases h2 : f = f'
    · subst h2
      have HB : Hid (b = decide (d < d')) := by show _ = _; rw [hb]; simp [Lt2]
      clear hb h1
      by_cases h3 : d < d'
      · have HB2 : Hid (b = true) := by show _ = _; rw [HB.out, decide_eq_true_iff]; exact h3
        go_enter Try.func24, Try.ntmps24
        go_wp2
        go_ret
        exact ⟨by rw [HB2.out]; rfl, HS.out⟩
      · have HB2 : Hid (b = false) := by show _ = _; rw [HB.out, decide_eq_false_iff_not]; exact h3
        go_enter Try.func24, Try.ntmps24
        go_wp2
        go_ret
        exact ⟨by rw [HB2.out]; rfl, HS.out⟩
    · have HB : Hid (b = false) := by show _ = _; rw [hb, decide_eq_false_iff_not]; unfold Lt2; omega
      have h3 : (f == f') = false := by simp [h2]
      clear hb h2
      go_enter Try.func24, Try.ntmps24
      go_wp2
      go_ret
      exact ⟨by rw [HB.out]; rfl, HS.out⟩
/-- 'make([]Latch, 0, n)' -/
theorem make_latchs (w : World) (n : Nat) (h : n ≤ 1000000) : ∃ Z : List Value, Z.length = n * 3 ∧
    (Instr.makeSlice 27 (.int .i64 0) (.int .i64 (n : Int))).run Try.prog w = .ok (.slice (some ⟨w.heap.size, 0, none⟩) 0 n) (w.alloc (.cells Z.toArray 25)) := by
  obtain ⟨i0, hi, hz0, hz1, hz2⟩ := info_parts infoL
  have hr := run_make (P := Try.prog) w 27 25 i0 (.agg #[.int .i64 0, .int .i64 0, .int .i64 0]) Try.underlying27 hi hz0 .i64 .i64 0 (n : Int) (by omega) (by omega) (by rw [hz2]; omega) (by omega)
  refine ⟨(madeCells (Value.agg #[.int .i64 0, .int .i64 0, .int .i64 0]).cells (n * i0.size)).toList, ?_, ?_⟩
  · rw [hz1]; simp [madeCells]
  · rw [hr, Int.toNat_natCast]; rfl
theorem HLs.len {w : World} {v : Value} {l : List La} (h : HLs w v l) : ∃ a c, v = .slice a l.length c ∧ l.length ≤ c ∧ c ≤ maxLen := by
  obtain ⟨a, c, h1, h2, h3, _⟩ := h; exact ⟨a, c, h1, h2, h3⟩
/-- A slice cut at its end. -/
theorem HLs.cut {w : World} {a : Option Addr} {c : Nat} {l : List La} (h : HLs w (.slice a l.length c) l) (k : Nat) (hk : k ≤ l.length) : HLs w (.slice a k c) (l.take k) := by
  obtain ⟨a', c', he, h1, h2, h3⟩ := h
  simp only [Value.slice.injEq] at he
  obtain ⟨rfl, _, rfl⟩ := he
  have hl : (l.take k).length = k := by simp; omega
  refine ⟨a, c, by rw [hl], by omega, h2, fun h0 => ?_⟩
  rw [hl] at h0
  obtain ⟨b, off, rfl, hc⟩ := h3 (by omega)
  refine ⟨b, off, rfl, fun i hi => ?_⟩
  rw [hl] at hi
  have e : (l.take k).getD i zLa = l.getD i zLa := by simp [List.getD, hi]
  rw [e]
  exact hc i (by omega)
set_option maxHeartbeats 1000000 in
set_option maxRecDepth 100000 in
theorem latchs_any (v : Value) (l : List La) (w : World) (hv : HLs w v l) (hl : l.length ≤ 1000) :
    Calls Try.prog 30 #[v] w (Gives fun u w' => OwnL w' w.heap.size u l ∧ Fr w w' []) := by
  obtain ⟨i0, hi0, hz0, hz1, hz2⟩ := info_parts infoL
  obtain ⟨a, c, rfl, p1, q1, r1⟩ := hv
  unfold maxLen at q1
  have HLS := Lib.hid r1
  obtain ⟨n, hn⟩ : ∃ n, n = l.length := ⟨_, rfl⟩
  have HN := Lib.hid hn
  rw [← hn] at hl p1 HLS
  clear r1
  rw [← hn]
  clear hn
  obtain ⟨Z, hZ, hmk⟩ := make_latchs w n (by omega)
  have HO0 : Hid (OwnL (w.alloc (.cells Z.toArray 25)) w.heap.size (.slice (some ⟨w.heap.size, 0, none⟩) 0 n) []) :=
    ⟨rfl, .inr ⟨w.heap.size, n, Z.toArray, rfl, Nat.le_refl _, heap_alloc_new w _, Nat.zero_le _, by unfold maxLen; omega, by simpa using hZ, by simp [laC]⟩⟩
  have HF0 := Lib.hid (Fr.alloc w (.cells Z.toArray 25) [])
  clear hZ
  go_enter Try.func30, Try.ntmps30
  go_wp2
  go_loopw [3, 4] (fun s3 s4 wr => ∃ k : Nat, k ≤ n ∧ s4 = .int .i64 k ∧ Hid (OwnL wr w.heap.size s3 (l.take k)) ∧ Hid (Fr w wr [])) (fun _ i _ => n - (intOf i).toNat)
  case atStart => exact ⟨0, Nat.zero_le _, rfl, HO0.out, HF0.out⟩
  case round =>
    obtain ⟨k, hk, rfl, HO, HG⟩ := hrel
    by_cases hlt : k < n
    · obtain ⟨bk, off, rfl, hc⟩ := HLS.out (by omega)
      obtain ⟨x, hx⟩ : ∃ x, x = l.getD k zLa := ⟨_, rfl⟩
      have hc1 := hc k hlt
      rw [← hx] at hc1
      have x0 := HG.out.cell hc1.1 (by simp)
      have x1 := HG.out.cell hc1.2.1 (by simp)
      have x2 := HG.out.cell hc1.2.2 (by simp)
      have HTK : Hid (l.take (k + 1) = l.take k ++ [x]) := by show _ = _; rw [hx]; exact la_snoc l k (by have := HN.out; omega)
      have HLEN : Hid ((l.take k).length ≤ 1000) := by show _ ≤ 1000; rw [List.length_take]; omega
      obtain ⟨ua, uc, hu⟩ := HO.out.shape
      clear hx hc hc1 hmk
      go_wp2_with (at_builtin; refine wpList_append_own _ rfl _ _ 27 rfl w.heap.size 25 i0 (.agg #[.int .i64 0, .int .i64 0, .int .i64 0]) 3 24 Try.underlying27 hi0 hz0 hz1 hz2 rfl (by decide) _ _ _ rfl (World.ownsRow.alloc HO.out _) ⟨wr.heap.size, 0, none⟩ 1 1 x.cl rfl rfl (row_new3 _ _ _ _ _) (la_one _) (by have := HLEN.out; unfold maxLen; omega) (by have := HLEN.out; omega) (by have := HG.out.size; simp; omega) ?_; intro v' w3 hown3 hg3 _)
      have HF3 := Lib.hid ((HG.out.trans (Fr.alloc wr (.cells #[.int .i64 x.f, .int .i64 x.d, .int .i64 x.g] 25) [])).grown_own hg3 (fun r hr => .inr (HO.out.block r hr).1))
      have HO3 := Lib.hid (OwnL.snoc hown3)
      clear hown3 hg3 x0 x1 x2 hu
      go_wp2
      go_roundw
      case rel => exact ⟨k + 1, by omega, by go_num, (by rw [HTK.out]; exact HO3.out : OwnL _ _ _ _), HF3⟩
      case measure => simp [intOf]; omega
    · obtain rfl : n = k := by omega
      have HO2 : Hid (OwnL wr w.heap.size u3 l) := by
        have := HO.out
        rwa [HN.out, List.take_length] at this
      go_wp2
      go_ret
      exact gives ⟨HO2.out, HG.out⟩
end Go.Proofs.Ytfopmpaoigdelaa
