/- A table of who is alive: what lies in memory, as plain data; isCar, heard, Seen. -/
import Derived.Test.YtgpdpembddajhaaRow
import Derived.Deep.MidRow
import Derived.Deep.WholeRow
namespace Go.Proofs.Ytgpdpembddajhaa
open Go.RowKit

/-- What was heard of one car. -/
structure Pe where
  kn : Bool
  ou : Bool
  li : Int
  ag : Int
def zP : Pe := ⟨false, false, 0, 0⟩
def hd (x : Pe) : Bool := x.kn && decide (x.ag ≤ 3)
def tk (x : Pe) : Pe := if hd x then ⟨x.kn, x.ou, x.li, x.ag + 1⟩ else x
def upP (f : Nat → Pe) (i : Nat) (x : Pe) : Nat → Pe := fun j => if j = i then x else f j
def pe4 (cs : Array Value) (o : Nat) (x : Pe) : Prop := cs[o]? = some (.bool x.kn) ∧ cs[o + 1]? = some (.bool x.ou) ∧ cs[o + 2]? = some (.int .i64 x.li) ∧ cs[o + 3]? = some (.int .i64 x.ag)
/-- The cells of a table. -/
structure TC (cs : Array Value) (f : Nat → Pe) (s : Int) : Prop where
  size : cs.size = 65
  pe : ∀ i, i < 16 → pe4 cs (i * 4) (f i)
  seen : cs[64]? = some (.int .i64 s)
def Tb (w : World) (p : Nat) (f : Nat → Pe) (s : Int) : Prop := ∃ cs, w.heap[p]? = some (.cells cs 28 (0, 0)) ∧ TC cs f s

theorem Tb.fr {w w' : World} {p : Nat} {f : Nat → Pe} {s : Int} {S : List Nat} (h : Tb w p f s) (hf : Fr w w' S) (hp : p ∉ S) : Tb w' p f s :=
  h.imp fun _ hh => ⟨hf.heap hh.1 hp, hh.2⟩
theorem Tb.lt {w : World} {p : Nat} {f : Nat → Pe} {s : Int} (h : Tb w p f s) : p < w.heap.size := by
  obtain ⟨cs, h1, _⟩ := h; exact size_of_row h1
theorem Tb.congr {w : World} {p : Nat} {f g : Nat → Pe} {s : Int} (h : Tb w p f s) (he : ∀ i, i < 16 → f i = g i) : Tb w p g s := by
  obtain ⟨cs, h1, h2, h3, h4⟩ := h
  exact ⟨cs, h1, h2, fun i hi => by rw [← he i hi]; exact h3 i hi, h4⟩
/-- The cells of one car. -/
theorem Tb.at {w : World} {p : Nat} {f : Nat → Pe} {s : Int} (h : Tb w p f s) (i : Nat) (hi : i < 16) :
    w.cell? ⟨p, i * 4, none⟩ = some (.bool (f i).kn) ∧ w.cell? ⟨p, i * 4 + 1, none⟩ = some (.bool (f i).ou) ∧ w.cell? ⟨p, i * 4 + 2, none⟩ = some (.int .i64 (f i).li) ∧ w.cell? ⟨p, i * 4 + 3, none⟩ = some (.int .i64 (f i).ag) := by
  obtain ⟨cs, h1, h2, h3, h4⟩ := h
  obtain ⟨a, b, c, d⟩ := h3 i hi
  exact ⟨by rw [cell_of_row w p _ _ _ _ h1, a], by rw [cell_of_row w p _ _ _ _ h1, b], by rw [cell_of_row w p _ _ _ _ h1, c], by rw [cell_of_row w p _ _ _ _ h1, d]⟩
theorem Tb.sn {w : World} {p : Nat} {f : Nat → Pe} {s : Int} (h : Tb w p f s) : w.cell? ⟨p, 64, none⟩ = some (.int .i64 s) := by
  obtain ⟨cs, h1, h2, h3, h4⟩ := h
  rw [cell_of_row w p _ _ _ _ h1, h4]
theorem Tb.fz {w : World} {p : Nat} {f : Nat → Pe} {s : Int} (h : Tb w p f s) (j : Nat) : w.frozen? ⟨p, j, none⟩ = false := by
  obtain ⟨cs, h1, h2⟩ := h
  exact frozen_of_row _ _ _ _ _ h1
/-- What was seen is written. -/
theorem Tb.setSn {w : World} {p : Nat} {f : Nat → Pe} {s : Int} (h : Tb w p f s) (t : Int) : Tb (w.setCell ⟨p, 64, none⟩ (.int .i64 t)) p f t := by
  obtain ⟨cs, h1, h2, h3, h4⟩ := h
  refine ⟨_, heap_setCell_same _ _ _ _ _ _ h1, by simpa using h2, fun i hi => ?_, by rw [Array.getElem?_setIfInBounds_self_of_lt (by omega)]⟩
  obtain ⟨a, b, c, d⟩ := h3 i hi
  refine ⟨?_, ?_, ?_, ?_⟩
  all_goals rw [Array.getElem?_setIfInBounds_ne (by omega)]; assumption
/-- An age is written. -/
theorem Tb.setAg {w : World} {p : Nat} {f : Nat → Pe} {s : Int} (h : Tb w p f s) (k : Nat) (hk : k < 16) (t : Int) : Tb (w.setCell ⟨p, k * 4 + 3, none⟩ (.int .i64 t)) p (upP f k ⟨(f k).kn, (f k).ou, (f k).li, t⟩) s := by
  obtain ⟨cs, h1, h2, h3, h4⟩ := h
  refine ⟨_, heap_setCell_same _ _ _ _ _ _ h1, by simpa using h2, fun i hi => ?_, by rw [Array.getElem?_setIfInBounds_ne (by omega)]; exact h4⟩
  obtain ⟨a, b, c, d⟩ := h3 i hi
  by_cases e : i = k
  · subst e
    refine ⟨?_, ?_, ?_, ?_⟩
    · rw [Array.getElem?_setIfInBounds_ne (by omega)]; simpa [upP] using a
    · rw [Array.getElem?_setIfInBounds_ne (by omega)]; simpa [upP] using b
    · rw [Array.getElem?_setIfInBounds_ne (by omega)]; simpa [upP] using c
    · rw [Array.getElem?_setIfInBounds_self_of_lt (by omega)]; simp [upP]
  · have e' : upP f k ⟨(f k).kn, (f k).ou, (f k).li, t⟩ i = f i := by simp [upP, e]
    rw [e']
    refine ⟨?_, ?_, ?_, ?_⟩
    all_goals rw [Array.getElem?_setIfInBounds_ne (by omega)]; assumption
/-- What was heard of one car is written. -/
theorem Tb.setPe {w : World} {p : Nat} {f : Nat → Pe} {s : Int} (h : Tb w p f s) (k : Nat) (hk : k < 16) (x : Pe) :
    Tb ((((w.setCell ⟨p, k * 4, none⟩ (.bool x.kn)).setCell ⟨p, k * 4 + 1, none⟩ (.bool x.ou)).setCell ⟨p, k * 4 + 2, none⟩ (.int .i64 x.li)).setCell ⟨p, k * 4 + 3, none⟩ (.int .i64 x.ag)) p (upP f k x) s := by
  obtain ⟨cs, h1, h2, h3, h4⟩ := h
  have g1 := heap_setCell_same _ _ (k * 4) _ _ (.bool x.kn) h1
  have g2 := heap_setCell_same _ _ (k * 4 + 1) _ _ (.bool x.ou) g1
  have g3 := heap_setCell_same _ _ (k * 4 + 2) _ _ (.int .i64 x.li) g2
  have g4 := heap_setCell_same _ _ (k * 4 + 3) _ _ (.int .i64 x.ag) g3
  refine ⟨_, g4, by simpa using h2, fun i hi => ?_, ?_⟩
  · obtain ⟨a, b, c, d⟩ := h3 i hi
    by_cases e : i = k
    · subst e
      refine ⟨?_, ?_, ?_, ?_⟩
      · rw [Array.getElem?_setIfInBounds_ne (by omega), Array.getElem?_setIfInBounds_ne (by omega), Array.getElem?_setIfInBounds_ne (by omega), Array.getElem?_setIfInBounds_self_of_lt (by omega)]; simp [upP]
      · rw [Array.getElem?_setIfInBounds_ne (by omega), Array.getElem?_setIfInBounds_ne (by omega), Array.getElem?_setIfInBounds_self_of_lt (by simp; omega)]; simp [upP]
      · rw [Array.getElem?_setIfInBounds_ne (by omega), Array.getElem?_setIfInBounds_self_of_lt (by simp; omega)]; simp [upP]
      · rw [Array.getElem?_setIfInBounds_self_of_lt (by simp; omega)]; simp [upP]
    · have e' : upP f k x i = f i := by simp [upP, e]
      rw [e']
      refine ⟨?_, ?_, ?_, ?_⟩
      all_goals
        rw [Array.getElem?_setIfInBounds_ne (by omega), Array.getElem?_setIfInBounds_ne (by omega), Array.getElem?_setIfInBounds_ne (by omega), Array.getElem?_setIfInBounds_ne (by omega)]
        assumption
  · rw [Array.getElem?_setIfInBounds_ne (by omega), Array.getElem?_setIfInBounds_ne (by omega), Array.getElem?_setIfInBounds_ne (by omega), Array.getElem?_setIfInBounds_ne (by omega)]
    exact h4
/-- The peers alone. -/
theorem Tb.range {w : World} {p : Nat} {f : Nat → Pe} {s : Int} (h : Tb w p f s) : ∃ cs : Array Value, cs.size = 64 ∧ w.rangeAt p 0 cs.toList ∧ ∀ i, i < 16 → pe4 cs (i * 4) (f i) := by
  obtain ⟨cs, h1, h2, h3, h4⟩ := h
  refine ⟨cs.extract 0 64, by simp; omega, by simpa using World.rangeAt_of_block h1 0 64, fun i hi => ?_⟩
  obtain ⟨a, b, c, d⟩ := h3 i hi
  refine ⟨?_, ?_, ?_, ?_⟩
  all_goals
    rw [Array.getElem?_extract, if_pos (by omega), Nat.zero_add]
    assumption
theorem pe4.cut {cs : Array Value} {o : Nat} {x : Pe} (h : pe4 cs o x) : cs.extract o (o + 4) = #[.bool x.kn, .bool x.ou, .int .i64 x.li, .int .i64 x.ag] := by
  obtain ⟨a, b, c, d⟩ := h
  have hs : o + 3 < cs.size := by
    have := (Array.getElem?_eq_some_iff.1 d).1; omega
  apply Array.ext_getElem?
  intro j
  rw [Array.getElem?_extract]
  by_cases hj : j < 4
  · rw [if_pos (by omega)]
    match j, hj with
    | 0, _ => simpa using a
    | 1, _ => simpa using b
    | 2, _ => simpa using c
    | 3, _ => simpa using d
  · rw [if_neg (by omega)]
    rw [Array.getElem?_eq_none (by simp; omega)]
theorem infoPe : (Try.prog.info? 25).map (·.size) = some 4 := by kernel_rfl
theorem infoTb : (Try.prog.info? 28).map (·.size) = some 65 := by kernel_rfl
theorem infoPs : (Try.prog.info? 26).map (·.size) = some 64 := by kernel_rfl
/-- One car of the peers, by value. -/
theorem run_peer {cs : Array Value} {x : Pe} (i : Nat) (hi : i < 16) (h : pe4 cs (i * 4) x) (W : World) :
    (Instr.index 26 (.agg cs) (.int .i64 (i : Int))).run Try.prog W = .ok (.agg #[.bool x.kn, .bool x.ou, .int .i64 x.li, .int .i64 x.ag]) W := by
  have hi' : (0 : Int) ≤ (i : Int) ∧ (i : Int) < ((16 : Nat) : Int) := by omega
  have hsz : (Try.prog.info? 25).map (·.size) = some 4 := infoPe
  cases hq : Try.prog.info? 25 with
  | none => simp [hq] at hsz
  | some ii =>
    have hs : ii.size = 4 := by simpa [hq] using hsz
    simp only [Instr.index, asIntOf, Sem.run_bind, Sem.run_pure, Result.andThen_ok, run_underlying Try.underlying26 W]
    rw [if_pos hi']
    simp [Sem.run_bind, part, sizeOf, typeInfo, hq, hs, h.cut]

/-- The zero table. -/
def zTb : Array Value := ((List.replicate 16 [Value.bool false, .bool false, .int .i64 0, .int .i64 0]).flatten ++ [Value.int .i64 0]).toArray
theorem zTb_ok : TC zTb (fun _ => zP) 0 := by
  refine ⟨rfl, fun i hi => ?_, rfl⟩
  have : ∀ i, i < 16 → zTb[i * 4]? = some (.bool false) ∧ zTb[i * 4 + 1]? = some (.bool false) ∧ zTb[i * 4 + 2]? = some (.int .i64 0) ∧ zTb[i * 4 + 3]? = some (.int .i64 0) := by
    intro i hi
    rcases (by omega : i = 0 ∨ i = 1 ∨ i = 2 ∨ i = 3 ∨ i = 4 ∨ i = 5 ∨ i = 6 ∨ i = 7 ∨ i = 8 ∨ i = 9 ∨ i = 10 ∨ i = 11 ∨ i = 12 ∨ i = 13 ∨ i = 14 ∨ i = 15) with rfl | rfl | rfl | rfl | rfl | rfl | rfl | rfl | rfl | rfl | rfl | rfl | rfl | rfl | rfl | rfl
    all_goals exact ⟨rfl, rfl, rfl, rfl⟩
  exact this i hi
theorem zeroTb (W : World) : (zeroValue 28).run Try.prog W = .ok (.agg zTb) W :=
  (zero_of_info (n := 65) (show (Try.prog.info? 28).map (fun i => (i.zero, i.size)) = some (some (.agg zTb), 65) by kernel_rfl)).1 W
theorem new_tb (w : World) : Tb (w.alloc (.cells zTb 28)) w.heap.size (fun _ => zP) 0 := ⟨_, heap_alloc_new _ _, zTb_ok⟩
theorem TC.one {cs : Array Value} {f : Nat → Pe} {s : Int} (h : TC cs f s) : cs.all (·.oneCell') = true := by
  rw [Array.all_eq_true]
  intro i hi
  have hs := h.size
  by_cases e : i = 64
  · subst e
    have := h.seen
    rw [Array.getElem?_eq_getElem hi] at this
    rw [Option.some.inj this]; rfl
  · obtain ⟨a, b, c, d⟩ := h.pe (i / 4) (by omega)
    rcases (by omega : i = i / 4 * 4 ∨ i = i / 4 * 4 + 1 ∨ i = i / 4 * 4 + 2 ∨ i = i / 4 * 4 + 3) with e | e | e | e
    · rw [← e, Array.getElem?_eq_getElem hi] at a; rw [Option.some.inj a]; rfl
    · rw [← e, Array.getElem?_eq_getElem hi] at b; rw [Option.some.inj b]; rfl
    · rw [← e, Array.getElem?_eq_getElem hi] at c; rw [Option.some.inj c]; rfl
    · rw [← e, Array.getElem?_eq_getElem hi] at d; rw [Option.some.inj d]; rfl

theorem isCar_yes (c : Int) (w : World) (h0 : 0 ≤ c) (h1 : c < 16) :
    Calls Try.prog 20 #[.int .i64 c] w fun e w' => e = .returned (.bool true) ∧ w = w' := by
  go_enter Try.func20, Try.ntmps20
  go_wp2
  go_ret
  exact ⟨rfl, rfl⟩
theorem isCar_no (c : Int) (w : World) (h : ¬ (0 ≤ c ∧ c < 16)) :
    Calls Try.prog 20 #[.int .i64 c] w fun e w' => e = .returned (.bool false) ∧ w = w' := by
  by_cases h0 : 0 ≤ c
  · have h1 : ¬ c < 16 := by omega
    clear h
    go_enter Try.func20, Try.ntmps20
    go_wp2
    go_ret
    exact ⟨rfl, rfl⟩
  · clear h
    go_enter Try.func20, Try.ntmps20
    go_wp2
    go_ret
    exact ⟨rfl, rfl⟩
theorem heard_any (x : Pe) (w : World) :
    Calls Try.prog 21 #[.agg #[.bool x.kn, .bool x.ou, .int .i64 x.li, .int .i64 x.ag]] w fun e w' => e = .returned (.bool (hd x)) ∧ Fr w w' [] := by
  obtain ⟨k, o, l, a⟩ := x
  have HF := Lib.hid (Fr.alloc w (.cells #[.bool k, .bool o, .int .i64 l, .int .i64 a] 25) [])
  cases k with
  | false =>
    have HE : Hid (hd ⟨false, o, l, a⟩ = false) := by show _ = _; simp [hd]
    go_enter Try.func21, Try.ntmps21
    go_wp2
    go_ret
    exact ⟨by rw [HE.out]; rfl, HF.out⟩
  | true =>
    by_cases h : a ≤ 3
    · have HE : Hid (hd ⟨true, o, l, a⟩ = true) := by show _ = _; simp [hd, h]
      go_enter Try.func21, Try.ntmps21
      go_wp2
      go_ret
      exact ⟨by rw [HE.out]; rfl, HF.out⟩
    · have HE : Hid (hd ⟨true, o, l, a⟩ = false) := by show _ = _; simp [hd, h]
      go_enter Try.func21, Try.ntmps21
      go_wp2
      go_ret
      exact ⟨by rw [HE.out]; rfl, HF.out⟩
theorem seen_any (p : Nat) (f : Nat → Pe) (s : Int) (w : World) (h : Tb w p f s) :
    Calls Try.prog 14 #[.pointer (some ⟨p, 0, none⟩)] w fun e w' => e = .returned (.int .i64 s) ∧ w = w' := by
  have c := h.sn
  clear h
  go_enter Try.func14, Try.ntmps14
  go_wp2
  go_ret
  exact ⟨rfl, rfl⟩
end Go.Proofs.Ytgpdpembddajhaa
