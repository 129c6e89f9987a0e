/- The reader's other calls: behind an error; Bool, At, Left, Err. -/
import Derived.Test.YtpeocdcciecpoaaDoorRead
import Derived.RegionTactic
import Derived.ChangeAlike
import Derived.Laws.BytesArg
namespace Go.Proofs.YtpeocdcciecpoaaDoor
open Go.RowKit

set_option maxRecDepth 100000 in
theorem num_bad (p : Nat) (l : List Int) (k : Nat) (low high : Int) (w : World) (A : Nat → Addr) (B c : Nat) (h : Rd w B p l k (ev A c)) (hc : c ≠ 0) :
    Calls Tryd.prog 69 #[.pointer (some ⟨p, 0, none⟩), .int .i64 low, .int .i64 high] w fun e w' => e = .returned (.int .i64 0) ∧ w = w' := by
  obtain ⟨hB, v, hp, ho⟩ := h
  have hev : ev A c = .iface 137 (.pointer (some (A c))) := if_neg hc
  rw [hev] at hp
  obtain ⟨c0, c1, c2, f1, f2⟩ := Rd.cells hp
  go_enter Tryd.func69, Tryd.ntmps69
  go_wp2
  go_ret
  exact ⟨rfl, rfl⟩

set_option maxRecDepth 100000 in
theorem left_any (p : Nat) (l : List Int) (k : Nat) (w : World) (B : Nat) (e : Value) (h : Rd w B p l k e) (hk : k ≤ l.length) :
    Calls Tryd.prog 73 #[.pointer (some ⟨p, 0, none⟩)] w fun e w' => e = .returned (.int .i64 ((l.length - k : Nat) : Int)) ∧ Drawn w w' := by
  obtain ⟨hB, v, hp, ho⟩ := h
  have hsl := bytes_size ho.bytes
  unfold maxLen at hsl
  obtain ⟨a, cap, rfl⟩ := ho.shape
  obtain ⟨c0, c1, c2, f1, f2⟩ := Rd.cells hp
  go_enter Tryd.func73, Tryd.ntmps73
  go_wp2
  go_quiet (fail)
  go_wp2
  go_ret
  refine ⟨?_, _, rfl⟩
  rw [show ((l.length - k : Nat) : Int) = (l.length : Int) - (k : Int) by omega]
  rfl

theorem err_nil (p : Nat) (l : List Int) (k : Nat) (w : World) (B : Nat) (h : Rd w B p l k .nilIface) :
    Calls Tryd.prog 72 #[.pointer (some ⟨p, 0, none⟩)] w fun e w' => e = .returned .nilIface ∧ w = w' := by
  obtain ⟨hB, v, hp, ho⟩ := h
  obtain ⟨c0, c1, c2, f1, f2⟩ := Rd.cells hp
  go_enter Tryd.func72, Tryd.ntmps72
  go_wp2
  go_ret
  exact ⟨rfl, rfl⟩

set_option maxRecDepth 100000 in
theorem err_bad (p : Nat) (l : List Int) (k : Nat) (w : World) (A : Nat → Addr) (B c : Nat) (h : Rd w B p l k (ev A c)) (hc : c ≠ 0) :
    Calls Tryd.prog 72 #[.pointer (some ⟨p, 0, none⟩)] w (Gives fun u w' => AtErr w' A u k c ∧ w.grownBy w' none) := by
  obtain ⟨hB, v, hp, ho⟩ := h
  have hev : ev A c = .iface 137 (.pointer (some (A c))) := if_neg hc
  rw [hev] at hp
  obtain ⟨c0, c1, c2, f1, f2⟩ := Rd.cells hp
  have HE := Lib.hid hev
  clear hev
  go_enter Tryd.func72, Tryd.ntmps72
  go_wp2
  go_region
  all_goals go_wp2
  all_goals go_ret
  all_goals exact gives ⟨⟨w.heap.size, rfl, by rw [HE.out]; exact heap_alloc_new w _⟩, grown_drew (World.grownBy_alloc w _ none)⟩

theorem bool_ok (p : Nat) (l : List Int) (k : Nat) (w : World) (A : Nat → Addr) (B : Nat) (h : Rd w B p l k .nilIface) (hk : k ≤ l.length) (hb : Wm.Byte l) (hE : E3 w A B)
    (s : Int × Nat × Nat) (hs : s = Wm.numS l k 0 1) :
    Calls Tryd.prog 70 #[.pointer (some ⟨p, 0, none⟩)] w fun e w' => e = .returned (.bool (s.1 == 1)) ∧ Rd w' B p l s.2.1 (ev A s.2.2) ∧ w.grownBy w' (some p) := by
  have HS := Lib.hid hs
  clear hs
  go_enter Tryd.func70, Tryd.ntmps70
  go_wp2_with fail
  refine (num_ok p l k 0 1 _ A B h hk hb hE s HS.out).mono ?_
  rintro e w1 ⟨rfl, h1, h2⟩
  go_wp2
  go_ret
  exact ⟨rfl, h1, h2⟩
theorem bool_bad (p : Nat) (l : List Int) (k : Nat) (w : World) (A : Nat → Addr) (B c : Nat) (h : Rd w B p l k (ev A c)) (hc : c ≠ 0) :
    Calls Tryd.prog 70 #[.pointer (some ⟨p, 0, none⟩)] w fun e w' => e = .returned (.bool false) ∧ w = w' := by
  go_enter Tryd.func70, Tryd.ntmps70
  go_wp2_with fail
  refine (num_bad p l k 0 1 _ A B c h hc).mono ?_
  rintro e w1 ⟨rfl, rfl⟩
  go_wp2
  go_ret
  exact ⟨rfl, rfl⟩

end Go.Proofs.YtpeocdcciecpoaaDoor
