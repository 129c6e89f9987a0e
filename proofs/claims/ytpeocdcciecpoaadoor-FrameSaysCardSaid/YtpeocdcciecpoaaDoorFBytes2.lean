/- The bytes of an entry, a ring, a beat, a frame. -/
import Derived.Test.YtpeocdcciecpoaaDoorFBytes
namespace Go.Proofs.YtpeocdcciecpoaaDoor
open Go.RowKit Fm

theorem lit_ints {w : World} {g : Nat} (L : List Int) (T : TypeId) (h : w.heap[g]? = some (.cells (i64s L).toArray T (0, 0))) (hT : T ≠ 5) (hm : L.length ≤ maxLen) (B n : Nat) (hn : n = L.length) : ∀ wr, FrB B w wr → Holds .i64 wr (.slice (some ⟨g, 0, none⟩) n n) L :=
  fun _ hf => holds_row (hf.box h hT) hm n hn
def EnR (e : En) : Prop := I64 e.fl ∧ I64 e.di ∧ I64 e.ge ∧ I64 e.aw ∧ ∀ b ∈ e.bs, I64 b.1 ∧ I64 b.2
theorem encE_put (e : En) : encE e = [e.fl, e.di, e.ge, e.aw, (e.bs.length : Int)].flatMap Wm.enc ++ e.bs.flatMap encB := by
  unfold encE; simp
theorem encB_put (b : Int × Int) : encB b = [b.1, b.2].flatMap Wm.enc := by unfold encB; simp
theorem encB_len (l : List (Int × Int)) (k : Nat) : ((l.take k).flatMap encB).length ≤ 20 * k := by
  have key : ∀ l : List (Int × Int), (l.flatMap encB).length ≤ 20 * l.length := by
    intro l
    induction l with
    | nil => simp
    | cons x xs ih => have := Wm.enc_len x.1; have := Wm.enc_len x.2; simp only [List.flatMap_cons, List.length_append, List.length_cons, encB] at *; omega
  have := key (l.take k)
  have h2 : (l.take k).length ≤ k := List.length_take_le _ _
  omega
theorem flat5 (ns : List Int) : (ns.flatMap Wm.enc).length ≤ 10 * ns.length := by
  have := flat_len ns ns.length; rwa [List.take_length] at this

set_option maxHeartbeats 2000000 in
set_option maxRecDepth 100000 in
theorem putEntry_any (e : En) (vb : Value) (v : Value) (l : List Int) (w : World) (B : Nat) (ho : Own w B v l) (hB : B ≤ w.heap.size) (hb : ∀ wr, FrB B w wr → HB wr vb e.bs) (hlen : l.length + 50 + 20 * e.bs.length ≤ 70368744177664) (hr : EnR e) :
    Calls Tryd.prog 60 #[v, enV e vb] w (Gives fun u w' => Own w' B u (l ++ encE e) ∧ FrB B w w') := by
  obtain ⟨e0, e1, e2, bs, e4⟩ := e
  unfold enV
  simp only at hb hlen ⊢
  obtain ⟨ab, cb, rfl⟩ := (hb w (FrB.refl _ _)).shape
  have hbm : bs.length ≤ 9223372036854775807 := by omega
  have HO := Lib.hid (ho.kept (World.grownBy_alloc w (.cells #[.int .i64 e0, .int .i64 e1, .int .i64 e2, .slice ab bs.length cb, .int .i64 e4] 61) none) (fun r e => by cases e))
  have HB0 := Lib.hid hb
  have HR := Lib.hid hr
  have HBB := Lib.hid hB
  have HF0 := Lib.hid (FrB.of_fr (B := B) (Fr.alloc w (.cells #[.int .i64 e0, .int .i64 e1, .int .i64 e2, .slice ab bs.length cb, .int .i64 e4] 61) []))
  have HZ := Lib.hid (two_boxes w (.cells #[.int .i64 e0, .int .i64 e1, .int .i64 e2, .slice ab bs.length cb, .int .i64 e4] 61) (.cells (i64s [e0, e1, e2, e4, (bs.length : Int)]).toArray 3))
  have HF1 := Lib.hid (FrB.of_fr (B := B) (Fr.alloc (w.alloc (.cells #[.int .i64 e0, .int .i64 e1, .int .i64 e2, .slice ab bs.length cb, .int .i64 e4] 61)) (.cells (i64s [e0, e1, e2, e4, (bs.length : Int)]).toArray 3) []))
  clear ho hb hr hB
  go_enter Tryd.func60, Tryd.ntmps60
  go_wp2_with fail
  refine (putInts_any _ l _ [e0, e1, e2, e4, (bs.length : Int)] _ B (HO.out.kept (World.grownBy_alloc _ (.cells (i64s [e0, e1, e2, e4, (bs.length : Int)]).toArray 3) none) (fun r e => by cases e)) (by have := HBB.out; simp; omega) (lit_ints _ 3 HZ.out.2 (by decide) (by simp [maxLen]) B 5 rfl) (by simp; omega) ?_).mono ?_
  · obtain ⟨r1, r2, r3, r4, _⟩ := HR.out
    intro x hx
    simp only [List.mem_cons, List.not_mem_nil, or_false] at hx
    rcases hx with rfl | rfl | rfl | rfl | rfl
    · exact r1
    · exact r2
    · exact r3
    · exact r4
    · exact ⟨by omega, by omega⟩
  rintro e w1 ⟨u, rfl, hu, hf⟩
  have HU := Lib.hid hu
  have hk := row5 (hf.box HZ.out.1 (by decide))
  have HFA := Lib.hid ((HF0.out.trans HF1.out).trans hf)
  have HFB := Lib.hid hf
  clear hu hf
  go_wp2
  clear hk
  go_loopw [0, 29] (fun u i wr => ∃ k : Nat, k ≤ bs.length ∧ i = .int .i64 k ∧ Own wr B u ((l ++ [e0, e1, e2, e4, (bs.length : Int)].flatMap Wm.enc) ++ (bs.take k).flatMap encB) ∧ FrB B w wr) (fun _ i _ => bs.length - (intOf i).toNat)
  case atStart => exact ⟨0, Nat.zero_le _, rfl, by simpa using HU.out, HFA.out⟩
  case round =>
    obtain ⟨k, hk, rfl, hown, hf⟩ := hrel
    have HOW := Lib.hid hown
    have HF := Lib.hid hf
    clear hown hf
    by_cases hlt : k < bs.length
    · have hh := HB0.out _ HF.out
      obtain ⟨a', cap', he, _, _, h3⟩ := hh
      simp only [Value.slice.injEq, true_and] at he
      obtain ⟨rfl, rfl⟩ := he
      obtain ⟨bl, off, rfl, hc⟩ := h3 (by omega)
      obtain ⟨c1, c2⟩ := hc k hlt
      obtain ⟨x, hx⟩ : ∃ x, x = (bs.getD k (0, 0)).1 := ⟨_, rfl⟩
      obtain ⟨y, hy⟩ : ∃ y, y = (bs.getD k (0, 0)).2 := ⟨_, rfl⟩
      rw [← hx] at c1
      rw [← hy] at c2
      have hrx := HR.out.2.2.2.2 (bs.getD k (0, 0)) (getD_mem hlt (0, 0))
      rw [← hx, ← hy] at hrx
      have HRX := Lib.hid hrx
      have hstep : (bs.take (k + 1)).flatMap encB = (bs.take k).flatMap encB ++ [x, y].flatMap Wm.enc := by rw [tk_snoc bs k hlt (0, 0), hx, hy]; simp [encB]
      have HST := Lib.hid hstep
      have hfl := encB_len bs k
      have hf5 := flat5 [e0, e1, e2, e4, (bs.length : Int)]
      have hwl : ((l ++ [e0, e1, e2, e4, (bs.length : Int)].flatMap Wm.enc) ++ (bs.take k).flatMap encB).length ≤ l.length + 50 + 20 * k := by rw [List.length_append, List.length_append]; simp only [List.length_cons, List.length_nil] at hf5; omega
      have HWL := Lib.hid hwl
      have HBX := Lib.hid (two_boxes wr (.cells #[.int .i64 x, .int .i64 y] 63) (.cells (i64s [x, y]).toArray 3))
      have HFX := Lib.hid (Fr.alloc wr (.cells #[.int .i64 x, .int .i64 y] 63) [])
      have HFY := Lib.hid (HFX.out.trans (Fr.alloc _ (.cells (i64s [x, y]).toArray 3) []))
      clear hx hy h3 hc hstep hfl hwl hf5 hrx
      go_wp2_with fail
      refine (putInts_any _ _ _ [x, y] _ B (HOW.out.kept (Fr.grown HFY.out (by simp)) (fun r e => by cases e)) (by have := HBB.out; have := HF.out.size; simp; omega) (lit_ints _ 3 HBX.out.2 (by decide) (by simp [maxLen]) B 2 rfl) (by have := HWL.out; simp only [List.length_cons, List.length_nil]; omega) ?_).mono ?_
      · intro z hz
        simp only [List.mem_cons, List.not_mem_nil, or_false] at hz
        rcases hz with rfl | rfl
        · exact HRX.out.1
        · exact HRX.out.2
      rintro e w2 ⟨u, rfl, hu, hf2⟩
      have HN2 : Hid (Own w2 B u ((l ++ [e0, e1, e2, e4, (bs.length : Int)].flatMap Wm.enc) ++ (bs.take (k + 1)).flatMap encB)) := by
        show Own _ _ _ _
        rw [HST.out, ← List.append_assoc]; exact hu
      have HF2 := Lib.hid ((HF.out.trans (FrB.of_fr HFY.out)).trans hf2)
      clear hu hf2
      go_wp2
      go_roundw
      case rel => exact ⟨k + 1, by omega, by go_num, HN2.out, HF2.out⟩
      case measure => simp [intOf]; omega
    · obtain rfl : k = bs.length := by omega
      have HN2 := Lib.hid (show Own wr B u0 (l ++ encE ⟨e0, e1, e2, bs, e4⟩) by
        have := HOW.out
        rw [List.take_length] at this
        rw [encE_put, ← List.append_assoc]; exact this)
      go_wp2
      go_ret
      exact gives ⟨HN2.out, HF.out⟩
end Go.Proofs.YtpeocdcciecpoaaDoor
