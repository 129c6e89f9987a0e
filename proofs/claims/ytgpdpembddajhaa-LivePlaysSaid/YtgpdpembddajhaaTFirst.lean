/- The chapter's example: heard, and ticked Hold times: alive; once more: not. -/
import Derived.Test.YtgpdpembddajhaaHear
import Derived.Test.YtgpdpembddajhaaTick
import Derived.Test.YtgpdpembddajhaaTLife
import Derived.Test.YtgpdpembddajhaaAlive
namespace Go.Proofs.Ytgpdpembddajhaa
open Go.RowKit

def nP : Nat → Pe := fun _ => zP
theorem AgOk.new : AgOk nP := fun i _ => by simp [nP, zP]
set_option maxRecDepth 100000 in
theorem first_any (w : World) : Calls Try.prog 7 #[] w fun e w' => e = .returned (.bool true) ∧ Fr w w' [] := by
  have hz := zeroTb
  have T1 := Lib.hid (new_tb w)
  have F1 := Lib.hid (Fr.alloc w (.cells zTb 28) [])
  have A1 := Lib.hid AgOk.new
  go_enter Try.func7, Try.ntmps7
  go_wp2_with fail
  refine (hear_yes w.heap.size _ 0 2 1 0 false _ T1.out (by omega) (by omega) (by omega) (by decide)).mono ?_
  rintro e w2 ⟨rfl, h, hf⟩
  have T2 := Lib.hid h
  have F2 := Lib.hid (F1.out.new hf (by simp))
  have A2 := Lib.hid (A1.out.up 2 ⟨true, false, 1, 0⟩ (by decide) (by decide))
  clear h hf
  go_wp2_with fail
  refine (tick_any w.heap.size _ _ _ T2.out A2.out).mono ?_
  rintro e w3 ⟨rfl, h, hf⟩
  have T3 := Lib.hid h
  have F3 := Lib.hid (F2.out.new hf (by simp))
  clear h hf
  go_wp2_with fail
  refine (tick_any w.heap.size _ _ _ T3.out A2.out.tk).mono ?_
  rintro e w4 ⟨rfl, h, hf⟩
  have T4 := Lib.hid h
  have F4 := Lib.hid (F3.out.new hf (by simp))
  clear h hf
  go_wp2_with fail
  refine (tick_any w.heap.size _ _ _ T4.out A2.out.tk.tk).mono ?_
  rintro e w5 ⟨rfl, h, hf⟩
  have T5 := Lib.hid h
  have F5 := Lib.hid (F4.out.new hf (by simp))
  clear h hf
  go_wp2_with fail
  refine (alive_any w.heap.size _ _ _ T5.out).mono ?_
  rintro e w6 ⟨u, rfl, ho, hf⟩
  have he : alV (tkP (tkP (tkP (upP (fun _ => zP) 2 ⟨true, false, 1, 0⟩)))) 16 = [2] := by rfl
  rw [he] at ho
  have T6 := Lib.hid (T5.out.fr hf (by simp))
  have F6 := Lib.hid (F5.out.trans hf)
  have HH := Lib.hid ho.holds
  have O6 := Lib.hid ho
  clear ho hf he
  go_wp2_with fail
  refine (tick_any w.heap.size _ _ _ T6.out A2.out.tk.tk.tk).mono ?_
  rintro e w7 ⟨rfl, h, hf⟩
  have T7 := Lib.hid h
  have F7 := Lib.hid (F6.out.new hf (by simp))
  obtain ⟨cs, hr, _⟩ := T6.out
  have O7 := (O6.out.far hf hr (by decide)).holds
  clear h hf hr
  obtain ⟨a, cap, hv, _, _, hc⟩ := O7
  replace hv : u = .slice a 1 cap := hv
  subst hv
  obtain ⟨b, off, rfl, hd⟩ := hc (show 0 < ([2] : List Int).length by decide)
  have c0 := hd 0 (show 0 < ([2] : List Int).length by decide)
  clear hc hd
  simp only [Nat.add_zero, List.getD_cons_zero] at c0
  go_wp2_with fail
  refine (alive_any w.heap.size _ _ _ T7.out).mono ?_
  rintro e w8 ⟨u, rfl, ho, hf⟩
  have he : alV (tkP (tkP (tkP (tkP (upP (fun _ => zP) 2 ⟨true, false, 1, 0⟩))))) 16 = [] := by rfl
  rw [he] at ho
  have F8 := Lib.hid (F7.out.trans hf)
  obtain ⟨a2, c2, hv⟩ := row_shape ho
  replace hv : u = .slice a2 0 c2 := hv
  subst hv
  clear ho hf he
  go_wp2
  go_ret
  exact ⟨rfl, F8.out⟩
end Go.Proofs.Ytgpdpembddajhaa
