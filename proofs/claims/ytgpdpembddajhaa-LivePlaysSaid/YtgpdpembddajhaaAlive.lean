/- A table: Alive. -/
import Derived.Test.YtgpdpembddajhaaTbl
import Derived.Test.YtgpdpembddajhaaOwnI
namespace Go.Proofs.Ytgpdpembddajhaa
open Go.RowKit

/-- It is heard, and not out. -/
def on (x : Pe) : Bool := hd x && !x.ou
/-- Who is alive among the first k. -/
def alV (f : Nat → Pe) (k : Nat) : List Int := ((List.range k).filter fun i => on (f i)).map fun i : Nat => (i : Int)
theorem alV_yes (f : Nat → Pe) (k : Nat) (h : on (f k) = true) : alV f (k + 1) = alV f k ++ [(k : Int)] := by
  simp [alV, List.range_succ, List.filter_append, h]
theorem alV_no (f : Nat → Pe) (k : Nat) (h : on (f k) = false) : alV f (k + 1) = alV f k := by
  simp [alV, List.range_succ, List.filter_append, h]
theorem alV_len (f : Nat → Pe) (k : Nat) : (alV f k).length ≤ k := by
  unfold alV
  rw [List.length_map]
  have := List.length_filter_le (fun i => on (f i)) (List.range k)
  simpa using this

set_option maxRecDepth 100000 in
theorem alive_any (p : Nat) (f : Nat → Pe) (s : Int) (w : World) (h : Tb w p f s) :
    Calls Try.prog 12 #[.pointer (some ⟨p, 0, none⟩)] w (Gives fun u w' => OwnI w' w.heap.size u (alV f 16) ∧ Fr w w' []) := by
  obtain ⟨cs, hcs, hr, hpe⟩ := h.range
  obtain ⟨i0, hi, hz0, hz1, hz2⟩ := info_parts infoI
  have HP := Lib.hid hpe
  have hi64 : (Try.prog.info? 26).map (·.size) = some cs.toList.length := by rw [Array.length_toList, hcs]; exact infoPs
  have HI := Lib.hid hi64
  have HR := Lib.hid hr
  have HW := Lib.hid h.lt
  clear h hpe hi64 hr hcs
  go_enter Try.func12, Try.ntmps12
  go_wp2_with (with_reducible refine wpList_load_mid rfl _ _ rfl p 0 rfl cs.toList _ HR.out Try.underlying26 rfl HI.out ?_)
  go_loopw [3, 10] (fun a i wr => ∃ k : Nat, k ≤ 16 ∧ i = .int .i64 k ∧ OwnI wr w.heap.size a (alV f k) ∧ Fr w wr []) (fun _ i _ => 16 - (intOf i).toNat)
  case atStart => exact ⟨0, by omega, rfl, OwnI.nil _ _, Fr.refl _ _⟩
  case round =>
    obtain ⟨k, hk, rfl, ho, hf⟩ := hrel
    have O0 := Lib.hid ho
    have F0 := Lib.hid hf
    clear ho hf
    by_cases hlt : k < 16
    · have hidx := run_peer (cs := cs) k hlt (HP.out k hlt)
      obtain ⟨x, hx⟩ : ∃ x, x = f k := ⟨_, rfl⟩
      rw [← hx] at hidx
      have HX := Lib.hid hx
      clear hx
      go_wp2_with fail
      refine (heard_any x _).mono ?_
      rintro e w2 ⟨rfl, hf2⟩
      have B2 := Lib.hid (hf2.heap (heap_alloc_new wr (.cells #[.bool x.kn, .bool x.ou, .int .i64 x.li, .int .i64 x.ag] 25)) (by simp))
      have c1 : w2.cell? ⟨wr.heap.size, 1, none⟩ = some (.bool x.ou) := by rw [cell_of_row _ _ _ _ _ _ B2.out]; rfl
      have O2 := Lib.hid ((O0.out.keep (Fr.alloc wr (.cells #[.bool x.kn, .bool x.ou, .int .i64 x.li, .int .i64 x.ag] 25) [])).keep hf2)
      have F2 := Lib.hid ((F0.out.trans (Fr.alloc wr (.cells #[.bool x.kn, .bool x.ou, .int .i64 x.li, .int .i64 x.ag] 25) [])).trans hf2)
      have HL := Lib.hid (alV_len f k)
      clear hf2 hidx
      cases hh : hd x with
      | false =>
        have HH := Lib.hid (show on (f k) = false by rw [← HX.out]; simp [on, hh])
        clear hh
        go_wp2
        go_roundw
        case rel => exact ⟨k + 1, by omega, by go_num, by rw [alV_no f k HH.out]; exact O2.out, F2.out⟩
        case measure => simp [intOf]; omega
      | true =>
        cases hu : x.ou with
        | true =>
          have HH := Lib.hid (show on (f k) = false by rw [← HX.out]; simp [on, hh, hu])
          rw [hu] at c1
          clear hh hu
          go_wp2
          go_roundw
          case rel => exact ⟨k + 1, by omega, by go_num, by rw [alV_no f k HH.out]; exact O2.out, F2.out⟩
          case measure => simp [intOf]; omega
        | false =>
          have HH := Lib.hid (show on (f k) = true by rw [← HX.out]; simp [on, hh, hu])
          rw [hu] at c1
          clear hh hu
          go_wp2_with (at_builtin; refine wpList_append_own _ rfl _ _ 22 rfl w.heap.size 3 i0 (.int .i64 0) 1 8 Try.underlying22 hi hz0 hz1 hz2 rfl (by decide) _ _ _ rfl (World.ownsRow.alloc O2.out _) ⟨w2.heap.size, 0, none⟩ 1 1 [.int .i64 k] rfl rfl (cell_one_new _ _ _) (one_cell _ _) (by have := HL.out; unfold maxLen; omega) (by have := HL.out; omega) (by have := F2.out.size; simp; omega) ?_; intro v' w3 hown3 hg3 _)
          have F3 := Lib.hid ((F2.out.trans (Fr.alloc w2 (.cells #[.int .i64 (k : Int)] 3) [])).grown_own hg3 (fun r hr => .inr (O2.out.block r hr).1))
          have O3 := Lib.hid (show OwnI w3 w.heap.size v' (alV f (k + 1)) by rw [alV_yes f k HH.out]; exact OwnI.snoc hown3)
          clear hown3 hg3
          go_wp2
          go_roundw
          case rel => exact ⟨k + 1, by omega, by go_num, O3.out, F3.out⟩
          case measure => simp [intOf]; omega
    · obtain rfl : k = 16 := by omega
      go_wp2
      go_ret
      exact gives ⟨O0.out, F0.out⟩
end Go.Proofs.Ytgpdpembddajhaa
