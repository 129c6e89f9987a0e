/- The first bid of a car: Of. -/
import Derived.Test.YtfphihhcclfmnaaBMin
namespace Go.Proofs.Ytfphihhcclfmnaa
open Go.RowKit

/-- The answer's box. -/
def OF (W : World) (z : Int × Int) (a : World) : Prop := Fr W a [] ∧ a.heap[W.heap.size]? = some (bidBox z)
theorem OF.fr {W : World} {z : Int × Int} {a a' : World} (h : OF W z a) (k : Fr a a' []) : OF W z a' := ⟨h.1.trans k, k.heap h.2 (by simp)⟩
theorem OF.set {W : World} {z : Int × Int} {a : World} (h : OF W z a) (x : Int × Int) : OF W x ((a.setCell ⟨W.heap.size, 0, none⟩ (.int .i64 x.1)).setCell ⟨W.heap.size, 1, none⟩ (.int .i64 x.2)) :=
  ⟨h.1.new (bset_fr a _ _ _) (by intro r hr; obtain rfl := List.mem_singleton.1 hr; omega), bset h.2 _ _⟩
set_option maxHeartbeats 1000000 in
set_option maxRecDepth 100000 in
theorem bof_any (v : Value) (l : List (Int × Int)) (c : Int) (w : World) (h : HB w v l) (hl : l.length ≤ 1000) (y : Int × Int) (r : Bool) (hy : (bidOf l c = some y ∧ r = true) ∨ (bidOf l c = none ∧ y = (0, 0) ∧ r = false)) :
    Calls Try.prog 13 #[v, .int .i64 c] w fun x w' => x = .returned (.tuple #[bidV y, .bool r]) ∧ Fr w w' [] := by
  obtain ⟨a, cap, rfl, p1, q1, r1⟩ := h
  unfold maxLen at q1
  have HCE := Lib.hid r1
  have HY := Lib.hid hy
  obtain ⟨n, hn⟩ : ∃ n, n = l.length := ⟨_, rfl⟩
  have HN := Lib.hid hn
  have O0 := Lib.hid (show OF w (0, 0) _ from ⟨Fr.alloc w (bidBox (0, 0)) [], heap_alloc_new w _⟩)
  rw [← hn] at hl p1 HCE ⊢
  clear r1 hn hy
  dsimp only [bidV, bidBox] at *
  go_enter Try.func13, Try.ntmps13
  go_wp2
  go_loopw [7, 10] (fun _ s10 wx => ∃ k : Nat, s10 = .int .i64 k ∧ Hid (k ≤ n) ∧ Hid (∀ i, i < k → (l.getD i (0, 0)).1 ≠ c) ∧ Hid (OF w (0, 0) wx)) (fun _ s10 _ => n - (intOf s10).toNat)
  case atStart => exact ⟨0, rfl, Lib.hid (Nat.zero_le _), Lib.hid (fun i hi => by omega), O0⟩
  case round =>
    obtain ⟨k, rfl, HK, HA, HO⟩ := hrel
    have hk := HK.out
    by_cases hlt : k < n
    · obtain ⟨b, off, rfl, hc⟩ := HCE.out (by omega)
      obtain ⟨x, hx⟩ : ∃ x, x = l.getD k (0, 0) := ⟨_, rfl⟩
      have HX := Lib.hid hx
      obtain ⟨z0, z1⟩ := hc k hlt
      rw [← hx] at z0 z1
      have z0 := HO.out.1.cell z0 (by simp)
      have z1 := HO.out.1.cell z1 (by simp)
      have O1 := Lib.hid (HO.out.fr (Fr.alloc wr (bidBox x) []))
      obtain ⟨m0, m1⟩ := brow (heap_alloc_new wr (bidBox x))
      obtain ⟨xa, xb⟩ := x
      dsimp only [bidV, bidBox] at *
      clear hc hx HO
      by_cases he : xa = c
      · have HR : Hid (y = (xa, xb) ∧ r = true) := by
          show _ ∧ _
          have e := find_take (l := l) (c := c) (k := k) (by rw [← HN.out]; exact hlt) HA.out (by rw [← HX.out]; exact he)
          rw [← HX.out] at e
          rcases HY.out with ⟨h1, h2⟩ | ⟨h1, _⟩
          · rw [e] at h1; exact ⟨(Option.some.inj h1).symm, h2⟩
          · rw [e] at h1; cases h1
        obtain ⟨rfl, rfl⟩ := HR.out
        subst he
        obtain ⟨t0, t1⟩ := brow O1.out.2
        obtain ⟨f0, f1⟩ := bfz O1.out.2
        have O2 := Lib.hid (O1.out.set (xa, xb))
        obtain ⟨e0, e1⟩ := brow O2.out.2
        have HF := Lib.hid O2.out.1
        have he : (xa == xa) = true := by simp
        clear HY HR HA HX O0 O2
        go_wp2
        generalize World.setCell (World.setCell _ _ _) _ _ = W at HF e0 e1 ⊢
        exact bodyPost_ret (v := .tuple #[.agg #[.int .i64 xa, .int .i64 xb], .bool true]) (by simp [results, Try.results13, go_sem, e0, e1]) rfl ⟨rfl, HF.out⟩
      · have HA2 : Hid (∀ i, i < k + 1 → (l.getD i (0, 0)).1 ≠ c) := Lib.hid (fun i hi => by
          by_cases e : i = k
          · subst e; rw [← HX.out]; exact he
          · exact HA.out i (by omega))
        have he2 : (xa == c) = false := by simp [he]
        clear HA HX he
        go_wp2
        go_roundw
        case rel => exact ⟨k + 1, by go_num, Lib.hid (by omega), HA2, O1⟩
        case measure => simp [intOf]; omega
    · obtain rfl : k = n := by omega
      have HR : Hid (y = (0, 0) ∧ r = false) := by
        show _ ∧ _
        have e := find_none' (l := l) (c := c) (by rw [← HN.out]; exact HA.out)
        rcases HY.out with ⟨h1, _⟩ | ⟨_, h2⟩
        · rw [e] at h1; cases h1
        · exact h2
      obtain ⟨rfl, rfl⟩ := HR.out
      obtain ⟨t0, t1⟩ := brow HO.out.2
      obtain ⟨f0, f1⟩ := bfz HO.out.2
      have O2 := Lib.hid (HO.out.set (0, 0))
      obtain ⟨e0, e1⟩ := brow O2.out.2
      have HF := Lib.hid O2.out.1
      clear HY HR HA O0 O2 HO HCE
      go_wp2
      generalize World.setCell (World.setCell _ _ _) _ _ = W at HF e0 e1 ⊢
      exact bodyPost_ret (v := .tuple #[.agg #[.int .i64 0, .int .i64 0], .bool false]) (by simp [results, Try.results13, go_sem, e0, e1]) rfl ⟨rfl, HF.out⟩
end Go.Proofs.Ytfphihhcclfmnaa
