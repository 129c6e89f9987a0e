import Derived.Test.YtiflmkicnkbeaaaGreatDoorZp02
import Derived.Deep.MidRow
import Derived.Deep.WholeRow
import Derived.BigRegion
namespace Go.Proofs.YtiflmkicnkbeaaaGreatDoor
open Go.RowKit
structure Pe where
 kn : Bool
 ou : Bool
 li : Int
 ag : Int
def zP : Pe := ⟨false, false, 0, 0⟩
def hd (x : Pe) : Bool := x.kn && decide (x.ag ≤ 3)
def tk (x : Pe) : Pe := if hd x then ⟨x.kn, x.ou, x.li, x.ag + 1⟩ else x
def upP (f : Nat → Pe) (i : Nat) (x : Pe) : Nat → Pe := fun j => if j = i then x else f j
def pe4 (cs : Array Value) (o : Nat) (x : Pe) : Prop := cs[o]? = some (.bool x.kn) ∧ cs[o + 1]? = some (.bool x.ou) ∧ cs[o + 2]? = some (.int .i64 x.li) ∧ cs[o + 3]? = some (.int .i64 x.ag)
theorem pe4.cut {cs : Array Value} {o : Nat} {x : Pe} (h : pe4 cs o x) : cs.extract o (o + 4) = #[.bool x.kn, .bool x.ou, .int .i64 x.li, .int .i64 x.ag] := by
 obtain ⟨a, b, c, d⟩ := h
 have hs : o + 3 < cs.size := by
  have := (Array.getElem?_eq_some_iff.1 d).1; omega
 apply Array.ext_getElem?
 intro j
 rw [Array.getElem?_extract]
 by_cases hj : j < 4
 · rw [if_pos (by omega)]
   match j, hj with
   | 0, _ => simpa using a
   | 1, _ => simpa using b
   | 2, _ => simpa using c
   | 3, _ => simpa using d
 · rw [if_neg (by omega)]
   rw [Array.getElem?_eq_none (by simp; omega)]
theorem infoPe : (Tryz.prog.info? 129).map (·.size) = some 4 := by kernel_rfl
theorem infoPs : (Tryz.prog.info? 130).map (·.size) = some 64 := by kernel_rfl
theorem run_peer {cs : Array Value} {x : Pe} (i : Nat) (hi : i < 16) (h : pe4 cs (i * 4) x) (W : World) :
 (Instr.index 130 (.agg cs) (.int .i64 (i : Int))).run Tryz.prog W = .ok (.agg #[.bool x.kn, .bool x.ou, .int .i64 x.li, .int .i64 x.ag]) W := by
 have hi' : (0 : Int) ≤ (i : Int) ∧ (i : Int) < ((16 : Nat) : Int) := by omega
 have hsz : (Tryz.prog.info? 129).map (·.size) = some 4 := infoPe
 cases hq : Tryz.prog.info? 129 with
 | none => simp [hq] at hsz
 | some ii =>
   have hs : ii.size = 4 := by simpa [hq] using hsz
   simp only [Instr.index, asIntOf, Sem.run_bind, Sem.run_pure, Result.andThen_ok, run_underlying Tryz.underlying130 W]
   rw [if_pos hi']
   simp [Sem.run_bind, part, sizeOf, typeInfo, hq, hs, h.cut]
theorem isCar_yes (c : Int) (w : World) (h0 : 0 ≤ c) (h1 : c < 16) :
 Calls Tryz.prog 120 #[.int .i64 c] w fun e w' => e = .returned (.bool true) ∧ w = w' := by
 go_enter Tryz.func120, Tryz.ntmps120
 go_wp2
 go_ret
 exact ⟨rfl, rfl⟩
theorem isCar_no (c : Int) (w : World) (h : ¬ (0 ≤ c ∧ c < 16)) :
 Calls Tryz.prog 120 #[.int .i64 c] w fun e w' => e = .returned (.bool false) ∧ w = w' := by
 by_cases h0 : 0 ≤ c
 · have h1 : ¬ c < 16 := by omega
   clear h
   go_enter Tryz.func120, Tryz.ntmps120
   go_wp2
   go_ret
   exact ⟨rfl, rfl⟩
 · clear h
   go_enter Tryz.func120, Tryz.ntmps120
   go_wp2
   go_ret
   exact ⟨rfl, rfl⟩
theorem heard_any (x : Pe) (w : World) :
 Calls Tryz.prog 181 #[.agg #[.bool x.kn, .bool x.ou, .int .i64 x.li, .int .i64 x.ag]] w fun e w' => e = .returned (.bool (hd x)) ∧ Fr w w' [] := by
 obtain ⟨k, o, l, a⟩ := x
 have HF := Lib.hid (Fr.alloc w (.cells #[.bool k, .bool o, .int .i64 l, .int .i64 a] 129) [])
 cases k with
 | false =>
   have HE : Hid (hd ⟨false, o, l, a⟩ = false) := by show _ = _; simp [hd]
   go_enter Tryz.func181, Tryz.ntmps181
   go_wp2
   go_ret
   exact ⟨by rw [HE.out]; rfl, HF.out⟩
 | true =>
   by_cases h : a ≤ 3
   · have HE : Hid (hd ⟨true, o, l, a⟩ = true) := by show _ = _; simp [hd, h]
     go_enter Tryz.func181, Tryz.ntmps181
     go_wp2
     go_ret
     exact ⟨by rw [HE.out]; rfl, HF.out⟩
   · have HE : Hid (hd ⟨true, o, l, a⟩ = false) := by show _ = _; simp [hd, h]
     go_enter Tryz.func181, Tryz.ntmps181
     go_wp2
     go_ret
     exact ⟨by rw [HE.out]; rfl, HF.out⟩
end Go.Proofs.YtiflmkicnkbeaaaGreatDoor
namespace Go.Proofs.YtiflmkicnkbeaaaGreatDoor
open Go.RowKit
def on (x : Pe) : Bool := hd x && !x.ou
def alV (f : Nat → Pe) (k : Nat) : List Int := ((List.range k).filter fun i => on (f i)).map fun i : Nat => (i : Int)
theorem alV_yes (f : Nat → Pe) (k : Nat) (h : on (f k) = true) : alV f (k + 1) = alV f k ++ [(k : Int)] := by
 simp [alV, List.range_succ, List.filter_append, h]
theorem alV_no (f : Nat → Pe) (k : Nat) (h : on (f k) = false) : alV f (k + 1) = alV f k := by
 simp [alV, List.range_succ, List.filter_append, h]
theorem alV_len (f : Nat → Pe) (k : Nat) : (alV f k).length ≤ k := by
 unfold alV
 rw [List.length_map]
 have := List.length_filter_le (fun i => on (f i)) (List.range k)
 simpa using this
end Go.Proofs.YtiflmkicnkbeaaaGreatDoor
namespace Go.Proofs.YtiflmkicnkbeaaaGreatDoor
open Go.RowKit
def tkTo (f : Nat → Pe) (k : Nat) : Nat → Pe := fun j => if j < k then tk (f j) else f j
def tkP (f : Nat → Pe) : Nat → Pe := fun j => tk (f j)
def AgOk (f : Nat → Pe) : Prop := ∀ i, i < 16 → 0 ≤ (f i).ag ∧ (f i).ag ≤ 4
theorem AgOk.up {f : Nat → Pe} (h : AgOk f) (k : Nat) (x : Pe) (h0 : 0 ≤ x.ag) (h1 : x.ag ≤ 4) : AgOk (upP f k x) := by
 intro i hi
 unfold upP
 by_cases e : i = k
 · rw [if_pos e]; exact ⟨h0, h1⟩
 · rw [if_neg e]; exact h i hi
theorem tkTo_at (f : Nat → Pe) (k : Nat) : tkTo f k k = f k := by simp [tkTo]
theorem tkTo_succ_no (f : Nat → Pe) (k : Nat) (h : hd (f k) = false) : ∀ i, i < 16 → tkTo f k i = tkTo f (k + 1) i := by
 intro i _
 unfold tkTo
 by_cases e : i = k
 · subst e; simp [tk, h]
 · by_cases e2 : i < k
   · rw [if_pos e2, if_pos (by omega)]
   · rw [if_neg e2, if_neg (by omega)]
theorem tkTo_succ_yes (f : Nat → Pe) (k : Nat) (h : hd (f k) = true) : ∀ i, i < 16 → upP (tkTo f k) k ⟨(tkTo f k k).kn, (tkTo f k k).ou, (tkTo f k k).li, (f k).ag + 1⟩ i = tkTo f (k + 1) i := by
 intro i _
 rw [tkTo_at]
 unfold upP tkTo
 by_cases e : i = k
 · subst e; simp [tk, h]
 · rw [if_neg e]
   by_cases e2 : i < k
   · rw [if_pos e2, if_pos (by omega)]
   · rw [if_neg e2, if_neg (by omega)]
theorem tkTo_end (f : Nat → Pe) : ∀ i, i < 16 → tkTo f 16 i = tkP f i := by
 intro i hi; simp [tkTo, tkP, hi]
end Go.Proofs.YtiflmkicnkbeaaaGreatDoor
namespace Go.Proofs.YtiflmkicnkbeaaaGreatDoor
open Go.RowKit
def mx (a b : Int) : Int := if a < b then b else a
end Go.Proofs.YtiflmkicnkbeaaaGreatDoor
