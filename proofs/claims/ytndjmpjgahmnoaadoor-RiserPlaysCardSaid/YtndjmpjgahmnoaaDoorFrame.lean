/- From the listed variables to api's errors: what a row's condition gives a walk; the door's own heap meets it. -/
import Derived.Test.YtndjmpjgahmnoaaDoorSee
import Derived.Test.YtndjmpjgahmnoaaDoorInts
import Derived.ProofKit
import Derived.LaidLaws
import Derived.LaidMore
import Derived.LaidHandle
import Derived.MakeChecks
import Derived.OpenShut
import Derived.Stop.Joined
import Derived.SevenTiedAt
import Derived.Test.YtndjmpjgahmnoaaDoorTie
import Derived.Test.YtndjmpjgahmnoaaDoorCards
namespace Go.Proofs.YtndjmpjgahmnoaaDoor
open Go.RowKit Go.ChangeShapes Go.WideShapes

theorem own : ownKnob Tryd.prog.godebug = none := by kernel_rfl
theorem laidOut : laidOutB Tryd.prog = true := by kernel_rfl
theorem star : "*" ++ "errors.errorString" = "*errors.errorString" := by decide
theorem rowErr (u : TypeId) (h : Tryd.prog.typeName? 3 u = some "*errors.errorString") : u = 85 :=
  typeName_ptr_named (nm := "errors.errorString") (by rw [star]; kernel_rfl) (by kernel_rfl) (by decide) u (by rw [star]; exact h)
theorem cellsStr : Tryd.prog.cellsOf 103 = 1 := by kernel_rfl
theorem cellsString : Tryd.prog.cellsOf 9 = 1 := by kernel_rfl

/-- A sentinel's datum. -/
def sent {H : Type} (x : List UInt8) : DataW H := .iface "*errors.errorString" (.ptr (.agg [.lit (.string x)]))
/-- What is known of one listed error. -/
def LaidAt (W : World) (n : String) (x : List UInt8) (a : Addr) : Prop :=
  ∃ g s, Tryd.prog.globalNamed n = some g ∧ W.cell? ⟨g, 0, none⟩ = some (.iface 85 (.pointer (some a))) ∧ W.cell? a = some (.string s) ∧ s.data.toList = x ∧ ∃ c t, W.heap[a.block]? = some (.cells c t (0, 0))

set_option maxRecDepth 100000 in
theorem laid_list {W : World} : ∀ (L : List (String × List UInt8)) (ps : List MemPlace), DataW.LaidVars Tryd.prog W (L.map fun x => (x.1, sent x.2)) ps →
    (∀ b off, MemPlace.cell b off ∈ ps → (∃ c t, W.heap[b]? = some (.cells c t (0, 0))) ∧ ∀ u v, W.cell? ⟨b, off, none⟩ = some (.iface u v) → Value.okWide Tryd.prog W .any 0 u v) →
    (∀ x ∈ L, ∀ g, Tryd.prog.globalNamed x.1 = some g → (Tryd.prog.globals[g]?).map (·.type) = some 28) → ∃ ads : List Addr, ads.length = L.length ∧ ∀ i n x, L[i]? = some (n, x) → LaidAt W n x (ads.getD i ⟨0, 0, none⟩)
  | [], _, _, _, _ => ⟨[], rfl, fun i n x h => by simp at h⟩
  | (n, x) :: L, ps, hl, hr, ht => by
    obtain ⟨g, t, cs, f, p, q, hg, hty, hv, hd, hrest, rfl⟩ := hl
    obtain rfl := Option.some.inj (hty.symm.trans (ht (n, x) (by simp) g hg))
    obtain ⟨ads, hlen, hall⟩ := laid_list L q hrest (fun b off h => hr b off (by simp [h])) (fun y hy => ht y (by simp [hy]))
    obtain ⟨l0⟩ := cs
    have ok0 : ∀ u v, l0 = [.iface u v] → Value.okWide Tryd.prog W .any 0 u v := fun u v e => by
      subst e
      exact (hr g 0 (by simp [MemPlace.row])).2 u v (by simpa using World.var?_cell hg hv 0)
    obtain ⟨a0, s0, rfl, hc0, hs0, hz0, rfl⟩ := errorString_of_trod Tryd.underlying28 rowErr Tryd.underlying85 Tryd.underlying103 rfl rfl Tryd.underlying9 cellsStr cellsString hd ok0
    obtain ⟨c0, t0, hb0⟩ := (hr a0.block a0.off (by simp [MemPlace.row])).1
    refine ⟨a0 :: ads, by simp [hlen], fun i m y hi => ?_⟩
    match i, hi with
    | 0, hi =>
      simp only [List.getElem?_cons_zero, Option.some.injEq, Prod.mk.injEq] at hi
      obtain ⟨rfl, rfl⟩ := hi
      exact ⟨g, s0, hg, by simpa using World.var?_cell hg hv 0, hc0, hs0, c0, t0, hb0⟩
    | i + 1, hi => exact hall i m y (by simpa using hi)

/-- The errors' names and texts. -/
def errRows : List (String × List UInt8) := [("paternoster/api.ErrEnd", [105, 116, 32, 101, 110, 100, 115, 32, 116, 111, 111, 32, 101, 97, 114, 108, 121]), ("paternoster/api.ErrShape", [110, 111, 116, 32, 97, 115, 32, 105, 116, 32, 104, 97, 115, 32, 116, 111, 32, 98, 101]), ("paternoster/api.ErrRange", [97, 32, 110, 117, 109, 98, 101, 114, 32, 111, 117, 116, 32, 111, 102, 32, 105, 116, 115, 32, 114, 97, 110, 103, 101]), ("paternoster/api.ErrMany", [116, 111, 111, 32, 109, 97, 110, 121]), ("paternoster/api.ErrPower", [116, 104, 101, 32, 112, 111, 119, 101, 114, 32, 105, 115, 32, 103, 111, 110, 101]), ("paternoster/api.ErrNone", [116, 104, 101, 114, 101, 32, 105, 115, 32, 110, 111, 110, 101]), ("paternoster/api.ErrKind", [110, 111, 116, 32, 111, 102, 32, 116, 104, 97, 116, 32, 107, 105, 110, 100]), ("paternoster/api.ErrOrder", [110, 111, 116, 32, 105, 110, 32, 116, 104, 97, 116, 32, 111, 114, 100, 101, 114]), ("paternoster/api.ErrDoor", [110, 111, 116, 32, 119, 105, 116, 104, 32, 116, 104, 101, 32, 100, 111, 111, 114, 32, 115, 111]), ("paternoster/api.ErrFloor", [110, 111, 116, 32, 97, 116, 32, 116, 104, 97, 116, 32, 102, 108, 111, 111, 114]), ("paternoster/api.ErrTwice", [116, 104, 101, 114, 101, 32, 105, 115, 32, 111, 110, 101]), ("paternoster/api.ErrWord", [110, 111, 32, 115, 117, 99, 104, 32, 119, 111, 114, 100]), ("paternoster/api.ErrNumber", [110, 111, 116, 32, 97, 32, 110, 117, 109, 98, 101, 114])]

theorem errNames : ∀ i, i < 13 → ∃ n x, errRows[i]? = some (n, x) ∧ Tryd.prog.globalNamed n = some (errVars.getD i 0) := by
  intro i hi
  match i, hi with
  | 0, _ => exact ⟨_, _, rfl, by kernel_rfl⟩
  | 1, _ => exact ⟨_, _, rfl, by kernel_rfl⟩
  | 2, _ => exact ⟨_, _, rfl, by kernel_rfl⟩
  | 3, _ => exact ⟨_, _, rfl, by kernel_rfl⟩
  | 4, _ => exact ⟨_, _, rfl, by kernel_rfl⟩
  | 5, _ => exact ⟨_, _, rfl, by kernel_rfl⟩
  | 6, _ => exact ⟨_, _, rfl, by kernel_rfl⟩
  | 7, _ => exact ⟨_, _, rfl, by kernel_rfl⟩
  | 8, _ => exact ⟨_, _, rfl, by kernel_rfl⟩
  | 9, _ => exact ⟨_, _, rfl, by kernel_rfl⟩
  | 10, _ => exact ⟨_, _, rfl, by kernel_rfl⟩
  | 11, _ => exact ⟨_, _, rfl, by kernel_rfl⟩
  | 12, _ => exact ⟨_, _, rfl, by kernel_rfl⟩
theorem errTypes : ∀ x ∈ errRows, ∀ g, Tryd.prog.globalNamed x.1 = some g → (Tryd.prog.globals[g]?).map (·.type) = some 28 := by
  have h : (errRows.all fun x => match Tryd.prog.globalNamed x.1 with | some g => (Tryd.prog.globals[g]?).map (·.type) == some 28 | none => true) = true := by kernel_rfl
  intro x hx g hg
  have := List.all_eq_true.1 h x hx
  rw [hg] at this
  simpa using this
theorem errTexts : ∀ i j, i < 13 → j < 13 → (errRows[i]?).map (·.2) = (errRows[j]?).map (·.2) → i = j := by
  have h : ∀ i < 13, ∀ j < 13, (errRows[i]?).map (·.2) = (errRows[j]?).map (·.2) → i = j := by decide
  intro i j hi hj; exact h i hi j hj

theorem e13_of_laid {W : World} {laid : List (String × DataW Unit)} (hl : laid = errRows.map fun x => (x.1, sent x.2)) (h : laidMetH Tryd.prog laid W) : ∃ A, E13 W A W.heap.size := by
  subst hl
  rw [MakeChecks.laidMetH_plain _ _ _ (by decide)] at h
  obtain ⟨ps, hv, _, hr⟩ := h
  obtain ⟨ads, hlen, hall⟩ := laid_list errRows ps hv hr errTypes
  have key : ∀ i, i < 13 → ∃ s x, (errRows[i]?).map (·.2) = some x ∧ W.cell? ⟨errVars.getD i 0, 0, none⟩ = some (.iface 85 (.pointer (some (ads.getD i ⟨0, 0, none⟩)))) ∧ W.cell? (ads.getD i ⟨0, 0, none⟩) = some (.string s) ∧ s.data.toList = x ∧ ∃ c t, W.heap[(ads.getD i ⟨0, 0, none⟩).block]? = some (.cells c t (0, 0)) := by
    intro i hi
    obtain ⟨n, x, hx, hn⟩ := errNames i hi
    obtain ⟨g, s, hg, h1, h2, h3, h4⟩ := hall i n x hx
    obtain rfl := Option.some.inj (hn.symm.trans hg)
    exact ⟨s, x, by rw [hx]; rfl, h1, h2, h3, h4⟩
  refine ⟨fun c => ads.getD (c - 1) ⟨0, 0, none⟩, ⟨fun i hi => ?_, fun i hi => ?_, fun i j hi hj e => ?_⟩⟩
  · obtain ⟨s, x, _, h1, _⟩ := key i hi
    exact ⟨h1, World.block_lt_of_cell? W _ h1⟩
  · obtain ⟨s, x, _, _, h2, _, h4⟩ := key i hi
    exact ⟨World.block_lt_of_cell? W _ h2, h4⟩
  · obtain ⟨s, x, hx, _, h2, h3, _⟩ := key i hi
    obtain ⟨s', x', hx', _, h2', h3', _⟩ := key j hj
    simp only [Nat.add_sub_cancel] at e
    rw [e] at h2
    have := Option.some.inj (h2.symm.trans h2')
    simp only [Value.string.injEq] at this
    subst this
    exact errTexts i j hi hj (by rw [hx, hx', ← h3, ← h3'])
theorem e3_of_laid {W : World} {laid : List (String × DataW Unit)} (hl : laid = (errRows.take 3).map fun x => (x.1, sent x.2)) (h : laidMetH Tryd.prog laid W) : ∃ A, E3 W A W.heap.size := by
  subst hl
  rw [MakeChecks.laidMetH_plain _ _ _ (by decide)] at h
  obtain ⟨ps, hv, _, hr⟩ := h
  obtain ⟨ads, hlen, hall⟩ := laid_list (errRows.take 3) ps hv hr (fun x hx => errTypes x (List.mem_of_mem_take hx))
  have key : ∀ i, i < 3 → W.cell? ⟨errVars.getD i 0, 0, none⟩ = some (.iface 85 (.pointer (some (ads.getD i ⟨0, 0, none⟩)))) := by
    intro i hi
    obtain ⟨n, x, hx, hn⟩ := errNames i (by omega)
    obtain ⟨g, s, hg, h1, _⟩ := hall i n x (by rw [List.getElem?_take, if_pos hi]; exact hx)
    obtain rfl := Option.some.inj (hn.symm.trans hg)
    exact h1
  refine ⟨fun c => ads.getD (c - 1) ⟨0, 0, none⟩, ⟨key 0 (by decide), World.block_lt_of_cell? W _ (key 0 (by decide))⟩, ⟨key 1 (by decide), World.block_lt_of_cell? W _ (key 1 (by decide))⟩, key 2 (by decide), World.block_lt_of_cell? W _ (key 2 (by decide))⟩

def errPick (is : List Nat) : List (String × List UInt8) := is.map fun i => errRows.getD i ("", [])
theorem ev_of_laid {W : World} {laid : List (String × DataW Unit)} (is : List Nat) (hl : laid = (errPick is).map fun x => (x.1, sent x.2)) (h : laidMetH Tryd.prog laid W)
    (his : ∀ i ∈ is, i < 13 := by decide) (hp : (((errPick is).map fun x => (x.1, (sent x.2 : DataW Unit))).all fun x => x.2.handleName?.isNone) = true := by decide) : ∃ A, EV is W A W.heap.size := by
  subst hl
  rw [MakeChecks.laidMetH_plain _ _ _ hp] at h
  obtain ⟨ps, hv, _, hr⟩ := h
  have hmem : ∀ x ∈ errPick is, x ∈ errRows := by
    intro x hx
    obtain ⟨i, hi, rfl⟩ := List.mem_map.1 hx
    have hi13 := his i hi
    have : i < errRows.length := hi13
    simp [List.getD, this]
  obtain ⟨ads, hlen, hall⟩ := laid_list (errPick is) ps hv hr (fun x hx => errTypes x (hmem x hx))
  have key : ∀ j i, is[j]? = some i → W.cell? ⟨errVars.getD i 0, 0, none⟩ = some (.iface 85 (.pointer (some (ads.getD j ⟨0, 0, none⟩)))) := by
    intro j i hj
    have hi := his i (List.mem_of_getElem? hj)
    obtain ⟨n, x, hx, hn⟩ := errNames i hi
    have hpk : (errPick is)[j]? = some (n, x) := by unfold errPick; rw [List.getElem?_map, hj]; simp [List.getD, hx]
    obtain ⟨g, s, hg, h1, _⟩ := hall j n x hpk
    obtain rfl := Option.some.inj (hn.symm.trans hg)
    exact h1
  refine ⟨fun c => ads.getD (is.idxOf (c - 1)) ⟨0, 0, none⟩, ⟨fun i hi => ?_⟩⟩
  have hj : is[is.idxOf i]? = some i := by
    have := List.idxOf_lt_length_of_mem hi
    rw [List.getElem?_eq_getElem this]; simp
  have h1 := key _ i hj
  exact ⟨by simpa [ev] using h1, World.block_lt_of_cell? W _ h1⟩

/-- The door's own heap meets the conditions. -/
theorem door4 (os : Os) (args : Array Value) : laidMetH Tryd.prog ((errPick [2, 4, 5, 7]).map fun x => (x.1, sent x.2)) ((World.doorLaid Tryd.prog 256 os).forCall (fun _ _ => 0) ⟨#[], args, []⟩).memory :=
  laidMetH_of_parts3 (fuel := 8) (laidMet_of_run' 8 (by kernel_rfl) (by kernel_rfl)) (by kernel_rfl) (by kernel_rfl)
theorem door13 (os : Os) (args : Array Value) : laidMetH Tryd.prog (errRows.map fun x => (x.1, sent x.2)) ((World.doorLaid Tryd.prog 256 os).forCall (fun _ _ => 0) ⟨#[], args, []⟩).memory :=
  laidMetH_of_parts3 (fuel := 8) (laidMet_of_run' 8 (by kernel_rfl) (by kernel_rfl)) (by kernel_rfl) (by kernel_rfl)
theorem door3 (os : Os) (args : Array Value) : laidMetH Tryd.prog ((errRows.take 3).map fun x => (x.1, sent x.2)) ((World.doorLaid Tryd.prog 256 os).forCall (fun _ _ => 0) ⟨#[], args, []⟩).memory :=
  laidMetH_of_parts3 (fuel := 8) (laidMet_of_run' 8 (by kernel_rfl) (by kernel_rfl)) (by kernel_rfl) (by kernel_rfl)

end Go.Proofs.YtndjmpjgahmnoaaDoor
