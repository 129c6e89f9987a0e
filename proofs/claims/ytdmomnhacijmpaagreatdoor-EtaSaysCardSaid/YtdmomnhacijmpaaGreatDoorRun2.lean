/- A ride that is reckoned when it is asked for: once. -/
import Derived.Test.YtdmomnhacijmpaaGreatDoorRun
namespace Go.Proofs.YtdmomnhacijmpaaGreatDoor
open Go.RowKit

abbrev reckonV (p : Nat) : Value := .func (.func 21) #[runP p] #[]
/-- The library's table is no run. -/
theorem tz_ne {w : World} {p : Nat} {h : Ho} {c : Ca} {s : Sp} {q e dn st t n : Int} (hT : Tz w) (k : RO w p h c s q e dn st t n) : 0 ≠ p := fun x => by
  have a := hT 0 (by decide)
  have b := k.rm.2.1.1
  rw [← x, a] at b
  simp at b
theorem Tz.past {w w' : World} {p : Nat} (hT : Tz w) (hp : 0 ≠ p) (f : Fr w w' [p]) : Tz w' := fun j hj => f.cell (hT j hj) (by simpa using hp)

set_option maxHeartbeats 4000000 in
set_option maxRecDepth 100000 in
theorem slow_any (h : Ho) (c : Ca) (s : Sp) (q e : Int) (p : Nat) (w : World) (hk : h.ok) (ok : s.ok) (hT : Tz w) (hc : c.k ≤ 9223372036854775807) (r : Int) (H : EtaV h c s q e r) (R0 : RO w p h c s q e 0 0 0 0) :
    Calls Tryz.prog 40 #[.pointer (some ⟨p, 14, none⟩), reckonV p] w fun x w' => x = .returned (.tuple #[]) ∧ RO w' p h c s q e 1 0 r 1 ∧ Fr w w' [p] := by
  have LK := Lib.hid (lock_any p 15 w R0.at.2.1 (R0.fz 15))
  have R1 := Lib.hid (R0.state 1)
  have F1 := Lib.hid (Fr.setCell w p 15 (.int .i32 1) (S := [p]) (by simp))
  have Z1 := Lib.hid (hT.past (tz_ne hT R0) F1.out)
  have DN := Lib.hid (done_any p 14 0 _ false rfl R1.out.at.1)
  have RK := Lib.hid (reckon_any h c s q e 0 1 p _ hk ok Z1.out hc r H R1.out)
  clear hk ok hT hc H R0
  dsimp only [runP, reckonV] at *
  have hnot : ∀ (x : Bool) (w : World), (Op.unary .not (.bool x)).run Tryz.prog w = .ok (.bool (!x)) w := fun _ _ => rfl
  go_enter_defers Tryz.func40, Tryz.ntmps40
  go_wp2_with fail
  with_reducible refine (LK.out).mono ?_
  rintro v w1 ⟨rfl, rfl⟩
  generalize World.setCell w _ _ = w1 at *
  go_wp2_with fail
  with_reducible refine (DN.out).mono ?_
  rintro v w2 ⟨rfl, rfl⟩
  go_wp2_with fail
  with_reducible refine (RK.out).mono ?_
  rintro v w2 ⟨rfl, R2, F2⟩
  have F3 := Lib.hid ((F1.out.trans F2).trans (Fr.drew w2 [p]))
  have R3 := Lib.hid (R2.fr (Fr.drew w2 []) (by simp))
  have R4 := Lib.hid (R3.out.done 1)
  have F4 := Lib.hid (F3.out.trans (Fr.setCell w2.drew p 14 (.int .u32 1) (S := [p]) (by simp)))
  have SD := Lib.hid (store_deferred ⟨p, 14, none⟩ (.int .u32 0) .returning w2 R2.at.1 (R2.fz 14))
  have UD := Lib.hid (unlock_deferred p 15 .returning _ R4.out.at.2.1 (R4.out.fz 15))
  have R5 := Lib.hid (R4.out.state 0)
  have F5 := Lib.hid (F4.out.trans (Fr.setCell _ p 15 (.int .i32 0) (S := [p]) (by simp)))
  clear F1 F2 F3 R2 R3 R4 F4 R1 Z1 LK DN RK
  go_wp2
  refine leaves_cons (f := 55) (args := #[.pointer (some ⟨p, 14, none⟩), .bool true]) (by simp) (by simp [go_sem]) ?_
  refine (SD.out).mono ?_
  rintro v u w3 ⟨rfl, rfl, rfl⟩
  refine leaves_cons (f := 54) (args := #[.pointer (some ⟨p, 15, none⟩)]) (by simp [settle]) (by simp [go_sem]) ?_
  refine (UD.out).mono ?_
  rintro v u w4 ⟨rfl, rfl, rfl⟩
  simp only [Leaves, settle, results, Tryz.results40]
  simp
  exact ⟨R5.out, F5.out⟩

set_option maxHeartbeats 2000000 in
set_option maxRecDepth 100000 in
theorem do_first (h : Ho) (c : Ca) (s : Sp) (q e : Int) (p : Nat) (w : World) (hk : h.ok) (ok : s.ok) (hT : Tz w) (hc : c.k ≤ 9223372036854775807) (r : Int) (H : EtaV h c s q e r) (R0 : RO w p h c s q e 0 0 0 0) :
    Calls Tryz.prog 20 #[.pointer (some ⟨p, 14, none⟩), reckonV p] w fun x w' => x = .returned (.tuple #[]) ∧ RO w' p h c s q e 1 0 r 1 ∧ Fr w w' [p] := by
  have DN := Lib.hid (done_any p 14 0 w false rfl R0.at.1)
  have SL := Lib.hid (slow_any h c s q e p w hk ok hT hc r H R0)
  clear hk ok hT hc H R0
  dsimp only [runP, reckonV] at *
  have hnot : ∀ (x : Bool) (w : World), (Op.unary .not (.bool x)).run Tryz.prog w = .ok (.bool (!x)) w := fun _ _ => rfl
  go_enter Tryz.func20, Tryz.ntmps20
  go_wp2_with fail
  with_reducible refine (DN.out).mono ?_
  rintro v w2 ⟨rfl, rfl⟩
  go_wp2_with fail
  with_reducible refine (SL.out).mono ?_
  rintro v w2 ⟨rfl, R2, F2⟩
  go_wp2
  go_end0
  exact ⟨rfl, R2, F2⟩
set_option maxHeartbeats 2000000 in
set_option maxRecDepth 100000 in
theorem do_again (h : Ho) (c : Ca) (s : Sp) (q e t n : Int) (p : Nat) (w : World) (R0 : RO w p h c s q e 1 0 t n) :
    Calls Tryz.prog 20 #[.pointer (some ⟨p, 14, none⟩), reckonV p] w fun x w' => x = .returned (.tuple #[]) ∧ w' = w := by
  have DN := Lib.hid (done_any p 14 1 w true rfl R0.at.1)
  clear R0
  dsimp only [runP, reckonV] at *
  have hnot : ∀ (x : Bool) (w : World), (Op.unary .not (.bool x)).run Tryz.prog w = .ok (.bool (!x)) w := fun _ _ => rfl
  go_enter Tryz.func20, Tryz.ntmps20
  go_wp2_with fail
  with_reducible refine (DN.out).mono ?_
  rintro v w2 ⟨rfl, rfl⟩
  go_wp2
  go_end0
  exact ⟨rfl, rfl⟩
set_option maxHeartbeats 2000000 in
set_option maxRecDepth 100000 in
/-- Ticks, the first time. -/
theorem ticks_first (h : Ho) (c : Ca) (s : Sp) (q e : Int) (p : Nat) (w : World) (hk : h.ok) (ok : s.ok) (hT : Tz w) (hc : c.k ≤ 9223372036854775807) (r : Int) (H : EtaV h c s q e r) (R0 : RO w p h c s q e 0 0 0 0) :
    Calls Tryz.prog 9 #[runP p] w fun x w' => x = .returned (.int .i64 r) ∧ RO w' p h c s q e 1 0 r 1 ∧ Fr w w' [p] := by
  have DO := Lib.hid (do_first h c s q e p w hk ok hT hc r H R0)
  clear hk ok hT hc H R0
  dsimp only [runP, reckonV] at *
  have hmf : ∀ (fn : Fn) (first cap : Array Value) (w : World), (Instr.makeFunc fn first cap).run Tryz.prog w = .ok (.func fn first cap) w := fun _ _ _ _ => rfl
  go_enter Tryz.func9, Tryz.ntmps9
  go_wp2_with fail
  with_reducible refine (DO.out).mono ?_
  rintro v w2 ⟨rfl, R2, F2⟩
  obtain ⟨x0, x1, x2, x3⟩ := R2.at
  have R2 := Lib.hid R2
  have F2 := Lib.hid F2
  go_wp2
  go_ret
  exact ⟨rfl, R2.out, F2.out⟩
set_option maxHeartbeats 2000000 in
set_option maxRecDepth 100000 in
/-- Ticks, again. -/
theorem ticks_again (h : Ho) (c : Ca) (s : Sp) (q e t n : Int) (p : Nat) (w : World) (R0 : RO w p h c s q e 1 0 t n) :
    Calls Tryz.prog 9 #[runP p] w fun x w' => x = .returned (.int .i64 t) ∧ w' = w := by
  have DO := Lib.hid (do_again h c s q e t n p w R0)
  obtain ⟨x0, x1, x2, x3⟩ := R0.at
  clear R0
  dsimp only [runP, reckonV] at *
  have hmf : ∀ (fn : Fn) (first cap : Array Value) (w : World), (Instr.makeFunc fn first cap).run Tryz.prog w = .ok (.func fn first cap) w := fun _ _ _ _ => rfl
  go_enter Tryz.func9, Tryz.ntmps9
  go_wp2_with fail
  with_reducible refine (DO.out).mono ?_
  rintro v w2 ⟨rfl, rfl⟩
  go_wp2
  go_ret
  exact ⟨rfl, rfl⟩
set_option maxHeartbeats 2000000 in
set_option maxRecDepth 100000 in
theorem times_any (h : Ho) (c : Ca) (s : Sp) (q e dn st t n : Int) (p : Nat) (w : World) (R0 : RO w p h c s q e dn st t n) (hn : n = 0 ∨ n = 1) :
    Calls Tryz.prog 8 #[runP p] w fun x w' => x = .returned (.int .i64 n) ∧ w' = w := by
  have LD := Lib.hid (count_any p 18 n w R0.at.2.2.2)
  have hw : IntKind.i64.wrap n = n := IntWalk.i64_in _ (by omega)
  clear R0 hn
  dsimp only [runP] at *
  go_enter Tryz.func8, Tryz.ntmps8
  go_wp2_with fail
  with_reducible refine (LD.out).mono ?_
  rintro v w2 ⟨rfl, rfl⟩
  go_wp2
  go_ret
  exact ⟨rfl, rfl⟩
end Go.Proofs.YtdmomnhacijmpaaGreatDoor
