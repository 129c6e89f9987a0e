/- The document's bids: a copy, one more by cars. -/
import Derived.Test.YtfphihhcclfmnaaRBi
import Derived.Deep.AppendLies
import Derived.Deep.DeepCutAuto
import Derived.Deep.CutBlock
namespace Go.Proofs.Ytfphihhcclfmnaa
open Go.RowKit

/-- 'make([]Bid, 0, n)' -/
theorem make_bids (w : World) (n : Nat) (h : n ≤ 1000000) : ∃ Z : List Value, Z.length = n * 2 ∧
    (Instr.makeSlice 22 (.int .i64 0) (.int .i64 (n : Int))).run Try.prog w = .ok (.slice (some ⟨w.heap.size, 0, none⟩) 0 n) (w.alloc (.cells Z.toArray 24)) := by
  obtain ⟨i0, hi, hz0, hz1, hz2⟩ := info_parts infoB
  have hr := run_make (P := Try.prog) w 22 24 i0 (.agg #[.int .i64 0, .int .i64 0]) Try.underlying22 hi hz0 .i64 .i64 0 (n : Int) (by omega) (by omega) (by rw [hz2]; omega) (by omega)
  refine ⟨(madeCells (Value.agg #[.int .i64 0, .int .i64 0]).cells (n * i0.size)).toList, ?_, ?_⟩
  · rw [hz1]; simp [madeCells]
  · rw [hr, Int.toNat_natCast]; rfl
theorem bid_one (b : Int × Int) : ∀ u ∈ [Value.int .i64 b.1, .int .i64 b.2], u.oneCell' = true := by
  intro u hu
  simp at hu
  rcases hu with rfl | rfl <;> rfl
theorem bdc_one (l : List (Int × Int)) : ∀ u ∈ bdc l, u.oneCell' = true := by
  intro u hu
  unfold bdc at hu
  obtain ⟨b, _, h⟩ := List.mem_flatMap.1 hu
  exact bid_one b u h
theorem row_new2 (w : World) (a b : Value) (T : TypeId) : ∀ j u, [a, b][j]? = some u → (w.alloc (.cells #[a, b] T)).cell? (Addr.add ⟨w.heap.size, 0, none⟩ j) = some u := by
  intro j u hu
  have h := heap_alloc_new w (.cells #[a, b] T)
  rw [Addr.add_lit, Nat.zero_add, cell_of_row _ _ _ _ _ _ h]
  simpa using hu
theorem HB.cut {w : World} {a : Option Addr} {c : Nat} {l : List (Int × Int)} (h : HB w (.slice a l.length c) l) (k : Nat) (hk : k ≤ l.length) : HB w (.slice a k c) (l.take k) := by
  obtain ⟨a', c', he, h1, h2, h3⟩ := h
  simp only [Value.slice.injEq] at he
  obtain ⟨rfl, _, rfl⟩ := he
  have hl : (l.take k).length = k := by simp; omega
  refine ⟨a, c, by rw [hl], ⟨by omega, h1.2⟩, h2, fun h0 => ?_⟩
  rw [hl] at h0
  obtain ⟨b, off, rfl, hc⟩ := h3 (by omega)
  refine ⟨b, off, rfl, fun i hi => ?_⟩
  rw [hl] at hi
  have e : (l.take k).getD i (0, 0) = l.getD i (0, 0) := by simp [List.getD, hi]
  rw [e]
  exact hc i (by omega)
/-- All its cells. -/
theorem HB.cells {w : World} {b off n c : Nat} {l : List (Int × Int)} (h : HB w (.slice (some ⟨b, off, none⟩) n c) l) (k : Nat) : ∀ j u, (bdc (l.drop k))[j]? = some u → w.cell? (Addr.add ⟨b, off + k * 2, none⟩ j) = some u := by
  obtain ⟨a', c', he, h1, h2, h3⟩ := h
  simp only [Value.slice.injEq] at he
  obtain ⟨rfl, hn, rfl⟩ := he
  intro j u hu
  have hj : j < (bdc (l.drop k)).length := (List.getElem?_eq_some_iff.1 hu).1
  rw [bdc_len, List.length_drop] at hj
  obtain ⟨b', off', e, hc⟩ := h3 (by omega)
  simp only [Option.some.injEq, Addr.mk.injEq, and_true] at e
  obtain ⟨rfl, rfl⟩ := e
  have hi : j / 2 < (l.drop k).length := by rw [List.length_drop]; omega
  obtain ⟨g1, g2⟩ := bdc_get (l.drop k) (j / 2) hi
  have e2 : (l.drop k).getD (j / 2) (0, 0) = l.getD (k + j / 2) (0, 0) := by simp [List.getD]
  rw [e2] at g1 g2
  obtain ⟨c1, c2⟩ := hc (k + j / 2) (by rw [List.length_drop] at hi; omega)
  rw [Addr.add_lit]
  rcases Nat.mod_two_eq_zero_or_one j with m | m
  · have ej : j = j / 2 * 2 := by omega
    rw [ej] at hu
    rw [g1] at hu
    obtain rfl := Option.some.inj hu
    rw [show off + k * 2 + j = off + (k + j / 2) * 2 by omega]
    exact c1
  · have ej : j = j / 2 * 2 + 1 := by omega
    rw [ej] at hu
    rw [g2] at hu
    obtain rfl := Option.some.inj hu
    rw [show off + k * 2 + j = off + (k + j / 2) * 2 + 1 by omega]
    exact c2
set_option maxHeartbeats 1000000 in
set_option maxRecDepth 100000 in
theorem rbids_b (v : Value) (l : List (Int × Int)) (w : World) (hv : HB w v l) (hl : l.length ≤ 1000) :
    Calls Try.prog 25 #[v] w (Gives fun u w' => OwnB w' w.heap.size u l ∧ Fr w w' []) := by
  obtain ⟨i0, hi0, hz0, hz1, hz2⟩ := info_parts infoB
  obtain ⟨a, c, rfl, p1, q1, r1⟩ := hv
  unfold maxLen at q1
  have HLS := Lib.hid r1
  obtain ⟨n, hn⟩ : ∃ n, n = l.length := ⟨_, rfl⟩
  have HN := Lib.hid hn
  rw [← hn] at hl p1 HLS
  clear r1
  rw [← hn]
  clear hn
  obtain ⟨Z, hZ, hmk⟩ := make_bids w n (by omega)
  have HO0 : Hid (OwnB (w.alloc (.cells Z.toArray 24)) w.heap.size (.slice (some ⟨w.heap.size, 0, none⟩) 0 n) []) :=
    ⟨rfl, .inr ⟨w.heap.size, n, Z.toArray, rfl, Nat.le_refl _, heap_alloc_new w _, Nat.zero_le _, by unfold maxLen; omega, by simpa using hZ, by simp [bdc]⟩⟩
  have HF0 := Lib.hid (Fr.alloc w (.cells Z.toArray 24) [])
  clear hZ
  go_enter Try.func25, Try.ntmps25
  go_wp2
  go_loopw [3, 4] (fun s3 s4 wr => ∃ k : Nat, k ≤ n ∧ s4 = .int .i64 k ∧ Hid (OwnB wr w.heap.size s3 (l.take k)) ∧ Hid (Fr w wr [])) (fun _ i _ => n - (intOf i).toNat)
  case atStart => exact ⟨0, Nat.zero_le _, rfl, HO0.out, HF0.out⟩
  case round =>
    obtain ⟨k, hk, rfl, HO, HG⟩ := hrel
    by_cases hlt : k < n
    · obtain ⟨bk, off, rfl, hc⟩ := HLS.out (by omega)
      obtain ⟨x, hx⟩ : ∃ x, x = l.getD k (0, 0) := ⟨_, rfl⟩
      have hc1 := hc k hlt
      rw [← hx] at hc1
      have x0 := HG.out.cell hc1.1 (by simp)
      have x1 := HG.out.cell hc1.2 (by simp)
      have HTK : Hid (l.take (k + 1) = l.take k ++ [x]) := by show _ = _; rw [hx]; exact take_more l k (by have := HN.out; omega)
      have HLEN : Hid ((l.take k).length ≤ 1000) := by show _ ≤ 1000; rw [List.length_take]; omega
      obtain ⟨ua, uc, hu⟩ := HO.out.shape
      clear hx hc hc1 hmk
      go_wp2_with (at_builtin; refine wpList_append_own _ rfl _ _ 22 rfl w.heap.size 24 i0 (.agg #[.int .i64 0, .int .i64 0]) 2 16 Try.underlying22 hi0 hz0 hz1 hz2 rfl (by decide) _ _ _ rfl (World.ownsRow.alloc HO.out _) ⟨wr.heap.size, 0, none⟩ 1 1 [.int .i64 x.1, .int .i64 x.2] rfl rfl (row_new2 _ _ _ _) (bid_one x) (by have := HLEN.out; unfold maxLen; omega) (by have := HLEN.out; omega) (by have := HG.out.size; simp; omega) ?_; intro v' w3 hown3 hg3 _)
      have HF3 := Lib.hid ((HG.out.trans (Fr.alloc wr (.cells #[.int .i64 x.1, .int .i64 x.2] 24) [])).grown_own hg3 (fun r hr => .inr (HO.out.block r hr).1))
      have HO3 := Lib.hid (OwnB.snoc hown3)
      clear hown3 hg3 x0 x1 hu
      go_wp2
      go_roundw
      case rel => exact ⟨k + 1, by omega, by go_num, (by rw [HTK.out]; exact HO3.out : OwnB _ _ _ _), HF3⟩
      case measure => simp [intOf]; omega
    · obtain rfl : n = k := by omega
      have HO2 : Hid (OwnB wr w.heap.size u3 l) := by
        have := HO.out
        rwa [HN.out, List.take_length] at this
      go_wp2
      go_ret
      exact gives ⟨HO2.out, HG.out⟩
end Go.Proofs.Ytfphihhcclfmnaa
