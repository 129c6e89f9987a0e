/- A table: Life, Clone. -/
import Derived.Test.YtgpdpembddajhaaTbl
namespace Go.Proofs.Ytgpdpembddajhaa
open Go.RowKit

theorem life_no (p : Nat) (f : Nat → Pe) (s c : Int) (w : World) (_h : Tb w p f s) (hc : ¬ (0 ≤ c ∧ c < 16)) :
    Calls Try.prog 10 #[.pointer (some ⟨p, 0, none⟩), .int .i64 c] w fun e w' => e = .returned (.tuple #[.int .i64 0, .bool false]) ∧ w = w' := by
  go_enter Try.func10, Try.ntmps10
  go_wp2_with fail
  refine (isCar_no _ _ hc).mono ?_
  rintro e w' ⟨rfl, rfl⟩
  go_wp2
  go_ret2
  exact ⟨rfl, rfl⟩
theorem life_yes (p : Nat) (f : Nat → Pe) (s : Int) (k : Nat) (w : World) (h : Tb w p f s) (hk : k < 16) :
    Calls Try.prog 10 #[.pointer (some ⟨p, 0, none⟩), .int .i64 (k : Int)] w fun e w' => e = .returned (.tuple #[.int .i64 (f k).li, .bool (f k).kn]) ∧ Fr w w' [] := by
  obtain ⟨c0, c1, c2, c3⟩ := h.at k hk
  clear h
  go_enter Try.func10, Try.ntmps10
  go_wp2_with fail
  refine (isCar_yes _ _ (by omega) (by omega)).mono ?_
  rintro e w' ⟨rfl, rfl⟩
  go_wp2
  go_quiet (fail)
  go_wp2
  go_ret2
  exact ⟨rfl, (Fr.alloc w _ []).trans (Fr.drewN _ _ [])⟩

/-- Another table. -/
def CloT (w : World) (f : Nat → Pe) (s : Int) (u : Value) (w' : World) : Prop := u = .pointer (some ⟨w.heap.size, 0, none⟩) ∧ Tb w' w.heap.size f s ∧ Fr w w' []
theorem clone_any (p : Nat) (f : Nat → Pe) (s : Int) (w : World) (h : Tb w p f s) :
    Calls Try.prog 11 #[.pointer (some ⟨p, 0, none⟩)] w (Gives (CloT w f s)) := by
  obtain ⟨cs, h1, h2⟩ := h
  have H1 := Lib.hid h1
  have H2 := Lib.hid h2
  have HI := Lib.hid (show (Try.prog.info? 28).map (·.size) = some cs.size by rw [h2.size]; exact infoTb)
  have HS := Lib.hid (show zTb.size = cs.size by rw [h2.size]; rfl)
  have hz := zeroTb
  clear h1 h2
  go_enter Try.func11, Try.ntmps11
  go_wp2_with (first | (with_reducible refine wpList_load_row rfl _ _ rfl p rfl _ cs _ _ H1.out Try.underlying28 rfl HI.out ?_) | (with_reducible refine wpList_store_row rfl _ _ _ rfl w.heap.size cs rfl rfl _ zTb (heap_alloc_new _ _) HI.out HS.out H2.out.one ?_))
  go_ret
  rw [World.setRow_alloc_new]
  exact gives ⟨rfl, ⟨cs, heap_alloc_new _ _, H2.out⟩, Fr.alloc _ _ _⟩
end Go.Proofs.Ytgpdpembddajhaa
