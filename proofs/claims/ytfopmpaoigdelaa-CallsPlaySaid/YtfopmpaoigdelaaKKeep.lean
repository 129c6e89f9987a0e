/- A set of calls: Keep. -/
import Derived.Test.YtfopmpaoigdelaaKDelS
import Derived.Laws.StructEq
namespace Go.Proofs.Ytfopmpaoigdelaa
open Go.RowKit

theorem eqLatch (W : World) (a1 a2 a3 b1 b2 b3 : Int) (r : Bool) (hr : r = decide (a1 = b1 ∧ a2 = b2 ∧ a3 = b3)) :
    (binOp .eql 25 (.agg #[.int .i64 a1, .int .i64 a2, .int .i64 a3]) (.agg #[.int .i64 b1, .int .i64 b2, .int .i64 b3])).run Try.prog W = .ok (.bool r) W := by
  have hcase : (a1 == b1) = false ∨ ((a1 == b1) = true ∧ (a2 == b2) = false) ∨ ((a1 == b1) = true ∧ (a2 == b2) = true ∧ (a3 == b3) = false) ∨ ((a1 == b1) = true ∧ (a2 == b2) = true ∧ (a3 == b3) = true) := by
    cases (a1 == b1) <;> cases (a2 == b2) <;> cases (a3 == b3) <;> simp
  rcases hcase with e1 | ⟨e1, e2⟩ | ⟨e1, e2, e3⟩ | ⟨e1, e2, e3⟩
  · have : r = false := by rw [hr, decide_eq_false_iff_not]; rintro ⟨rfl, _⟩; simp at e1
    subst this; clear hr; go_simp
  · have : r = false := by rw [hr, decide_eq_false_iff_not]; rintro ⟨_, rfl, _⟩; simp at e2
    subst this; clear hr; go_simp
  · have : r = false := by rw [hr, decide_eq_false_iff_not]; rintro ⟨_, _, rfl⟩; simp at e3
    subst this; clear hr; go_simp
  · have : r = true := by rw [hr, decide_eq_true_iff]; simp at e1 e2 e3; exact ⟨e1, e2, e3⟩
    subst this; clear hr; go_simp

theorem keep_snoc_in {L K : List La} {x : La} (h : Sd L) (hx : x ∈ L) : putL (keepL L K) x = keepL L (K ++ [x]) := by
  refine sd_unique ((h.keep K).put x) (h.keep _) fun y => ?_
  rw [mem_put, mem_keep, mem_keep, List.mem_append, List.mem_singleton]
  constructor
  · rintro (rfl | ⟨⟨h1, h2⟩, _⟩)
    · exact ⟨hx, .inr rfl⟩
    · exact ⟨h1, .inl h2⟩
  · rintro ⟨h1, h2 | h2⟩
    · by_cases e : y.at x.f x.d
      · exact .inl (sd_one h h1 hx e)
      · exact .inr ⟨⟨h1, h2⟩, e⟩
    · exact .inl h2
theorem keep_snoc_out {L K : List La} {x : La} (hx : x ∉ L) : keepL L (K ++ [x]) = keepL L K := by
  unfold keepL
  refine List.filter_congr fun y hy => ?_
  have : y ≠ x := fun e => hx (e ▸ hy)
  simp [this]
theorem get_in {L : List La} (h : Sd L) {x : La} (hh : hasL L x.f x.d = true) : (getL L x.f x.d = x) ↔ x ∈ L := by
  obtain ⟨_, h2, h3⟩ := h.get_at hh
  exact ⟨fun e => e ▸ h3, fun hx => sd_one h h3 hx h2⟩
theorem not_in {L : List La} {x : La} (hh : hasL L x.f x.d = false) : x ∉ L := fun hx => has_no.1 hh x hx ⟨rfl, rfl⟩

set_option maxHeartbeats 1000000 in
set_option maxRecDepth 100000 in
theorem keepS_any (B p : Nat) (s : Value) (L : List La) (v : Value) (K : List La) (w : World) (h : Ss w B p s L) (hv : HLs w v K) (hB : B ≤ w.heap.size) (hl : L.length ≤ 1000) :
    Calls Try.prog 20 #[.pointer (some ⟨p, 0, none⟩), v] w fun e w' => e = .returned (.int .i64 ((L.length : Int) - (keepL L K).length)) ∧ Turned w B p s (keepL L K) w' := by
  obtain ⟨a, c, rfl, p1, q1, r1⟩ := hv
  unfold maxLen at q1
  have HS := Lib.hid h
  have HLS := Lib.hid r1
  have HBB := Lib.hid hB
  have HSD := Lib.hid h.2.2
  have HF0 := Lib.hid (Fr.alloc w (.cells #[.slice none 0 0] 29) [])
  have HS0 := Lib.hid (Ss.new w w.heap.size)
  obtain ⟨n, hn⟩ : ∃ n, n = K.length := ⟨_, rfl⟩
  have HN := Lib.hid hn
  rw [← hn] at p1 HLS ⊢
  clear h r1 hB hn
  go_enter Try.func20, Try.ntmps20
  go_wp2
  go_loopw [13] (fun i wr => ∃ k : Nat, k ≤ n ∧ i = .int .i64 k ∧ ∃ s2, Hid (Ss wr w.heap.size w.heap.size s2 (keepL L (K.take k))) ∧ Hid (Fr w wr [])) (fun i _ => n - (intOf i).toNat)
  case atStart => exact ⟨0, Nat.zero_le _, rfl, _, (by rw [show keepL L (K.take 0) = [] by simp [keepL]]; exact HS0.out : Ss _ _ _ _ _), HF0.out⟩
  case round =>
    obtain ⟨k, hk, rfl, s2, HS2, HF⟩ := hrel
    by_cases hlt : k < n
    · obtain ⟨bk, off, rfl, hc⟩ := HLS.out (by omega)
      have g1 := hc k hlt
      obtain ⟨x, hx⟩ : ∃ x, x = K.getD k zLa := ⟨_, rfl⟩
      rw [← hx] at g1
      have HTK : Hid (K.take (k + 1) = K.take k ++ [x]) := by show _ = _; rw [hx]; exact la_snoc K k (by have := HN.out; omega)
      have x0 := HF.out.cell g1.1 (by simp)
      have x1 := HF.out.cell g1.2.1 (by simp)
      have x2 := HF.out.cell g1.2.2 (by simp)
      clear hx hc g1
      have HF7 := Lib.hid (HF.out.trans (Fr.alloc wr x.row []))
      have HX7 := Lib.hid (show (wr.alloc x.row).heap[wr.heap.size]? = some x.row from heap_alloc_new wr x.row)
      have HS7 := Lib.hid (HS.out.keep HF7.out)
      have HS27 := Lib.hid (HS2.out.keep (Fr.alloc wr x.row []))
      clear HS2
      cases hq : hasL L x.f x.d with
      | false =>
        have HKK : Hid (keepL L (K.take (k + 1)) = keepL L (K.take k)) := by show _ = _; rw [HTK.out]; exact keep_snoc_out (not_in hq)
        have HV := Lib.hid (getS_no B p s L x.f x.d _ HS7.out (by omega) hq)
        clear hq
        go_wp2_with fail
        refine HV.out.mono ?_
        rintro e w2 ⟨rfl, hf⟩
        have HF8 := Lib.hid (HF7.out.trans hf)
        have HS28 := Lib.hid (HS27.out.keep hf)
        clear hf
        go_wp2
        go_roundw
        case rel =>
          have HA := (Fr.alloc w2 zLa.row [])
          exact ⟨k + 1, by omega, by go_num, s2, (by rw [HKK.out]; exact HS28.out.keep HA : Ss _ _ _ _ _), HF8.out.trans HA⟩
        case measure => simp [intOf]; omega
      | true =>
        obtain ⟨y, hy⟩ : ∃ y, y = getL L x.f x.d := ⟨_, rfl⟩
        have hyin := get_in HSD.out hq
        have hyat := (HSD.out.get_at hq).2.1
        rw [← hy] at hyin hyat
        have HV := Lib.hid (getS_yes B p s L x.f x.d _ HS7.out (by omega) hq y hy)
        have h0 : wr.heap.size < (wr.alloc x.row).heap.size := by simp
        have H0 := Lib.hid h0
        clear hq hy h0
        by_cases hyx : y = x
        · have HKK : Hid (putL (keepL L (K.take k)) x = keepL L (K.take (k + 1))) := by show _ = _; rw [HTK.out]; exact keep_snoc_in HSD.out (hyin.1 hyx)
          have hreg := fun W => eqLatch W x.f x.d x.g x.f x.d x.g true (by simp)
          have hkl : (keepL L (K.take k)).length ≤ 100000 := by have := keep_le L (K.take k); omega
          subst hyx
          clear hyin hyat
          go_wp2_with fail
          refine HV.out.mono ?_
          rintro e w2 ⟨rfl, hf⟩
          have HF8 := Lib.hid ((HF7.out.trans hf).trans (Fr.alloc w2 y.row []))
          have HS28 := Lib.hid (HS27.out.keep (hf.trans (Fr.alloc w2 y.row [])))
          have hX7 : (w2.alloc (.cells #[.int .i64 y.f, .int .i64 y.d, .int .i64 y.g] 25)).heap[wr.heap.size]? = some y.row := ((hf.trans (Fr.alloc w2 y.row [])).heap HX7.out (by simp))
          have hX8 : (w2.alloc (.cells #[.int .i64 y.f, .int .i64 y.d, .int .i64 y.g] 25)).heap[w2.heap.size]? = some y.row := heap_alloc_new w2 y.row
          obtain ⟨a0, a1, a2⟩ := box3_call hX7
          obtain ⟨b0, b1, b2⟩ := box3_call hX8
          have HP := Lib.hid (putS_any w.heap.size w.heap.size s2 _ y (w2.alloc y.row) HS28.out HF8.out.size hkl _ rfl)
          clear hf hX7 hX8 x0 x1 x2
          go_wp2_with fail
          refine HP.out.mono ?_
          rintro e w3 ⟨rfl, s3, hs3, hf3, _⟩
          have HS3 := Lib.hid hs3
          have HF3 : Hid (Fr w w3 []) := HF8.out.new hf3 (fun r hr => by
            rcases mem_sbs.1 hr with rfl | hr
            · exact Nat.le_refl _
            · exact (HS28.out.own r hr).1)
          clear hs3 hf3
          go_wp2
          go_roundw
          case rel => exact ⟨k + 1, by omega, by go_num, s3, (by rw [← HKK.out]; exact HS3.out : Ss _ _ _ _ _), HF3⟩
          case measure => simp [intOf]; omega
        · have HKK : Hid (keepL L (K.take (k + 1)) = keepL L (K.take k)) := by show _ = _; rw [HTK.out]; exact keep_snoc_out (fun h => hyx (hyin.2 h))
          have hreg := fun W => eqLatch W y.f y.d y.g x.f x.d x.g false (by
            symm
            rw [decide_eq_false_iff_not]
            rintro ⟨e1, e2, e3⟩
            apply hyx
            obtain ⟨_, _, _⟩ := x
            obtain ⟨_, _, _⟩ := y
            simp only at e1 e2 e3
            rw [e1, e2, e3])
          clear hyin hyat hyx
          go_wp2_with fail
          refine HV.out.mono ?_
          rintro e w2 ⟨rfl, hf⟩
          have HF8 := Lib.hid ((HF7.out.trans hf).trans (Fr.alloc w2 y.row []))
          have HS28 := Lib.hid (HS27.out.keep (hf.trans (Fr.alloc w2 y.row [])))
          have hX7 : (w2.alloc (.cells #[.int .i64 y.f, .int .i64 y.d, .int .i64 y.g] 25)).heap[wr.heap.size]? = some x.row := ((hf.trans (Fr.alloc w2 y.row [])).heap HX7.out (by simp))
          have hX8 : (w2.alloc (.cells #[.int .i64 y.f, .int .i64 y.d, .int .i64 y.g] 25)).heap[w2.heap.size]? = some y.row := heap_alloc_new w2 y.row
          obtain ⟨a0, a1, a2⟩ := box3_call hX7
          obtain ⟨b0, b1, b2⟩ := box3_call hX8
          clear hf hX7 hX8 x0 x1 x2
          go_wp2
          go_roundw
          case rel => exact ⟨k + 1, by omega, by go_num, s2, (by rw [HKK.out]; exact HS28.out : Ss _ _ _ _ _), HF8.out⟩
          case measure => simp [intOf]; omega
    · obtain rfl : k = n := by omega
      have HTK : Hid (K.take k = K) := by show _ = _; rw [HN.out, List.take_length]
      rw [HTK.out] at HS2
      have HSr := Lib.hid (HS.out.keep HF.out)
      have hkl := keep_le L K
      obtain ⟨a2, c2, hs2⟩ := HS2.out.2.1.shape
      subst hs2
      have HL1 := Lib.hid (len_any B p s L wr HSr.out)
      have HL2 := Lib.hid (len_any w.heap.size w.heap.size _ _ wr HS2.out)
      have hcell2 := HS2.out.cell
      have hcellp := HSr.out.cell
      have hfzp := frozen_of_row wr p 0 _ _ HSr.out.1
      obtain ⟨m, hm⟩ : ∃ m, m = (keepL L K).length := ⟨_, rfl⟩
      have HM := Lib.hid hm
      rw [← hm] at hkl hcell2 HL2 HS2
      have hwr : IntKind.i64.wrap ((L.length : Int) - (m : Int)) = (L.length : Int) - (m : Int) := by rw [IntKind.wrap_i64]; omega
      have hP := Lib.hid (show p < w.heap.size from HS.out.lt)
      have HTU : Hid (Turned w B p s (keepL L K) (wr.setCell ⟨p, 0, none⟩ (.slice a2 m c2))) := by
        have hrow := heap_setCell_same wr p 0 _ _ (.slice a2 m c2) HSr.out.1
        refine ⟨.slice a2 m c2, ⟨hrow, row_mono (HS2.out.2.1.fr (Fr.setCell wr p 0 _ (S := [p]) (by simp)) (by intro r hr; rw [List.mem_singleton.1 hr]; exact row_ne HS2.out.2.1 HSr.out.1 (by decide))) HBB.out, HS2.out.2.2⟩, ?_, fun r hr => .inr (HS2.out.own r hr).1⟩
        exact (HF.out.mono (by simp)).trans (Fr.setCell wr p 0 _ (by simp [sbs]))
      clear HTK hm
      go_wp2_with (first
        | (go_at_call 12; with_reducible refine HL1.out.mono ?_; rintro e w' ⟨rfl, rfl⟩)
        | (go_at_call 12; with_reducible refine HL2.out.mono ?_; rintro e w' ⟨rfl, rfl⟩))
      go_ret
      exact ⟨by rw [← HM.out]; rfl, HTU.out⟩
end Go.Proofs.Ytfopmpaoigdelaa
