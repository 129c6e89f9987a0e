/- Slices of structs of numbers that came in: what they hold. -/
import Derived.Test.YtpeocdcciecpoaaDoorFrame
import Derived.Deep.Slices
import Derived.Deep.Fields
import Derived.ChangeSame
namespace Go.Proofs.YtpeocdcciecpoaaDoor
open Go.RowKit Go.ChangeShapes Go.WideShapes Go.Deep

section
variable {H : Type} {enc : TypeId × Value → H} {P : Program} {w : World} {base : Nat} {spare : Nat → Bool} {held : Bool}
theorem open_slice_fields {t e : TypeId} {fs : Array Field} {fuel : Nat} {cs : List Value} {x : DataW H × List MemPlace} (ht : P.underlying t = some (.slice e)) (he : P.underlying e = some (.struct fs))
    (hone : oneCellFields P fs = true) (hC : P.cellsOf e = fs.size) (h : DataW.trod enc P w base spare held fuel t cs = some x) :
    (cs = [.slice none 0 0] ∧ x = (.nil, [])) ∨
    ∃ (a : Addr) (len cap m : Nat), cs = [.slice (some a) len cap] ∧ len ≤ cap ∧ cap ≤ maxLen ∧ m = (if spare a.block then cap else len) ∧
      ∀ i, i < m → ∃ (n : Nat), ∀ (j : Nat) (f : Field), fs[j]? = some f → ∃ (v : Value) (y : DataW H × List MemPlace), w.cell? (a.add (i * fs.size + j)) = some v ∧ DataW.trod enc P w base spare held n f.type [v] = some y := by
  rcases open_slice ht h with h0 | ⟨a, len, cap, m, n, D, Pl, hcs, hb, hl, hm, hmm, hx, hi⟩
  · exact .inl h0
  · refine .inr ⟨a, len, cap, m, hcs, hl, hm, hmm, fun i him => ?_⟩
    obtain ⟨cs', hc, ht'⟩ := hi i him
    rw [hC] at hc
    obtain ⟨ys, n', hn', hy, hlen, hyl, hf⟩ := DataW.trod_struct he ht'
    obtain ⟨_, hcl, hat⟩ := World.cells?_some hc
    simp only [Prod.mk.injEq] at hy
    refine ⟨n', fun j f hj => ?_⟩
    obtain ⟨ho, hk⟩ := hone_of hone j f hj
    have hjl : j < fs.size := (Array.getElem?_eq_some_iff.1 hj).1
    have hcell := hat j hjl
    have hv : cs'[j]? = some (cs'[j]'(by omega)) := List.getElem?_eq_getElem (by omega)
    have h1 := hf j f hj
    rw [ho, hk] at h1
    have hone' : (cs'.drop j).take 1 = [cs'[j]'(by omega)] := by
      rw [List.drop_eq_getElem_cons (by omega)]
      rfl
    rw [hone'] at h1
    have hys : ys[j]? = some (ys[j]'(by omega)) := List.getElem?_eq_getElem (by omega)
    refine ⟨_, _, ?_, h1.trans hys⟩
    rw [← Go.Deep.add_add, hcell, hv]

/-- The number in a value. -/
def numOfV : Value → Int | .int _ q => q | _ => 0
/-- The slice v holds n rows of numbers, of kinds ks; F tells them. -/
def HoldsR (ks : List IntKind) (w : World) (v : Value) (n : Nat) (F : Nat → Nat → Int) : Prop :=
  ∃ a cap, v = .slice a n cap ∧ n ≤ cap ∧ cap ≤ maxLen ∧ (0 < n → ∃ b off, a = some ⟨b, off, none⟩ ∧
    ∀ i, i < n → ∀ j, j < ks.length → w.cell? ⟨b, off + (i * ks.length + j), none⟩ = some (.int (ks.getD j .i64) (F i j)) ∧ (Lit.int (ks.getD j .i64) (F i j)).wf = true)
theorem open_rows {t e : TypeId} {fs : Array Field} {a : Option Addr} {len cap : Nat} {d : DataW H} {ps : List MemPlace} (ks : List IntKind) (ht : P.underlying t = some (.slice e)) (he : P.underlying e = some (.struct fs))
    (hone : oneCellFields P fs = true) (hC : P.cellsOf e = fs.size) (hks : fs.size = ks.length) (hk0 : 0 < ks.length) (hk : ∀ j f, fs[j]? = some f → P.underlying f.type = some (.int (ks.getD j .i64)))
    (h : DataW.Trod enc P w base spare held t (.slice a len cap) d ps) : ∃ F, HoldsR ks w (.slice a len cap) len F := by
  obtain ⟨fuel, hf⟩ := h
  rcases open_slice_fields ht he hone hC hf with ⟨hcs, _⟩ | ⟨x, l, c, m, hcs, hl, hm, hmm, hi⟩
  · simp [Value.cells] at hcs
    obtain ⟨rfl, rfl, rfl⟩ := hcs
    exact ⟨fun _ _ => 0, none, 0, rfl, Nat.le_refl _, by decide, fun h => absurd h (by omega)⟩
  · simp [Value.cells] at hcs
    obtain ⟨rfl, rfl, rfl⟩ := hcs
    refine ⟨fun i j => numOfV ((w.cell? (x.add (i * fs.size + j))).getD undef), some x, cap, rfl, hl, hm, fun h0 => ?_⟩
    have hlm : len ≤ m := by rw [hmm]; split <;> omega
    have key : ∀ i, i < len → ∀ j, j < ks.length → ∃ n, w.cell? (x.add (i * fs.size + j)) = some (.int (ks.getD j .i64) n) ∧ (Lit.int (ks.getD j .i64) n).wf = true := by
      intro i hi' j hj
      obtain ⟨n, hn⟩ := hi i (by omega)
      have hj' : j < fs.size := by omega
      obtain ⟨v, y, hc, hy⟩ := hn j _ (Array.getElem?_eq_getElem hj')
      obtain ⟨q, hq, _, hw⟩ := DataW.trod_int (hk j _ (Array.getElem?_eq_getElem hj')) hy
      simp only [List.cons.injEq, and_true] at hq
      exact ⟨q, by rw [hc, hq], hw⟩
    obtain ⟨b, off, spot⟩ := x
    have hspot : spot = none := by
      obtain ⟨n, hn, _⟩ := key 0 h0 0 hk0
      simpa [Addr.add] using World.cell?_spot hn
    subst hspot
    refine ⟨b, off, rfl, fun i hi' j hj => ?_⟩
    obtain ⟨n, hn, hw⟩ := key i hi' j hj
    have e : (⟨b, off, none⟩ : Addr).add (i * fs.size + j) = ⟨b, off + (i * ks.length + j), none⟩ := by rw [Addr.add_lit, hks]
    rw [e] at hn
    simp only [e, hn, Option.getD_some, numOfV]
    exact ⟨trivial, hw⟩
end
end Go.Proofs.YtpeocdcciecpoaaDoor
