/- A case by value that came in. -/
import Derived.Test.YtjjlajcpngphpaaFd3
import Derived.Test.YtjjlajcpngphpaaInts
import Derived.ProofKit
import Derived.OpenShut
import Derived.Deep.Slices
import Derived.Deep.Fields
import Derived.ChangeSame
namespace Go.Proofs.Ytjjlajcpngphpaa
open Go.RowKit Go.ChangeShapes Go.WideShapes Go.Deep

section
variable {H : Type} {enc : TypeId × Value → H} {w : World} {base : Nat} {held : Bool}
theorem cfld {P : Program} {spare : Nat → Bool} {fuel : Nat} {t : TypeId} {fs : Array Field} {cs : List Value} {x : DataW H × List MemPlace} (ht : P.underlying t = some (.struct fs)) (h : DataW.trod enc P w base spare held fuel t cs = some x) (i : Nat) (f : Field) (hi : fs[i]? = some f) (o k : Nat) (T : TypeId) (hT : f.type = T) (ho : f.offset = o) (hk : P.cellsOf T = k) :
    ∃ n y, DataW.trod enc P w base spare held n T ((cs.drop o).take k) = some y := by
  obtain ⟨xs, n, _, _, _, hl, hf⟩ := DataW.trod_struct ht h
  have h1 := hf i f hi
  have hlt : i < xs.length := by rw [hl]; exact (Array.getElem?_eq_some_iff.1 hi).1
  rw [List.getElem?_eq_getElem hlt] at h1
  subst hT ho hk
  exact ⟨n, _, h1⟩
theorem open_hif {fuel : Nat} {c : Value} {x : DataW H × List MemPlace} (h : DataW.trod enc Try.prog w base (fun _ => true) held fuel 22 [c] = some x) : ∃ l, HIf w c l := by
  have key : ∃ (a : Option Addr) (len cap : Nat) (zs : List Int), c = .slice a len cap ∧ ((a = none ∧ len = 0 ∧ cap = 0 ∧ zs = []) ∨ ∃ x, a = some x ∧ len ≤ cap ∧ cap ≤ maxLen ∧ zs.length = cap ∧ (∀ i, i < zs.length → w.cell? (x.add i) = some (.int .i64 (zs.getD i 0))) ∧ ∀ n ∈ zs, (Lit.int .i64 n).wf = true) := by
    rcases open_ints Try.underlying22 Try.underlying3 (by kernel_rfl) h with ⟨hcs, _⟩ | ⟨x, l, c', zs, hcs, _, hl, hm, hz, _, hcell, hwz⟩
    · simp at hcs
      exact ⟨none, 0, 0, [], hcs, .inl ⟨rfl, rfl, rfl, rfl⟩⟩
    · simp at hcs
      exact ⟨some x, l, c', zs, hcs, .inr ⟨x, rfl, hl, hm, by simpa using hz, hcell, hwz⟩⟩
  obtain ⟨a, len, cap, zs, rfl, hw⟩ := key
  obtain ⟨h1, h2, _⟩ := holds_of_ints hw
  refine ⟨_, h1, ?_⟩
  rcases h2 with ⟨h2, _⟩ | h2
  · exact .inl h2
  · exact .inr h2
set_option maxRecDepth 100000 in
/-- A case's cells. -/
theorem open_case {fuel : Nat} {cs : List Value} {x : DataW H × List MemPlace} (h : DataW.trod enc Try.prog w base (fun _ => true) held fuel 24 cs = some x) :
    ∃ (ca cc : Int) (ou an : Bool) (va vr : Value) (si fo : Int) (A R : List Int), cs = [.int .i64 ca, .int .i64 cc, .bool ou, .bool an, va, vr, .int .i64 si, .int .i64 fo] ∧ HIf w va A ∧ HInts w vr R ∧ (-9223372036854775808 ≤ si ∧ si ≤ 9223372036854775807) ∧ (-9223372036854775808 ≤ fo ∧ fo ≤ 9223372036854775807) := by
  obtain ⟨_, _, _, _, hlen, _⟩ := DataW.trod_struct Try.underlying24 h
  rw [show Try.prog.cellsOf 24 = 8 by kernel_rfl] at hlen
  obtain ⟨r0, z0, g0⟩ := cfld Try.underlying24 h 0 _ rfl 0 1 3 rfl rfl (by kernel_rfl)
  obtain ⟨r1, z1, g1⟩ := cfld Try.underlying24 h 1 _ rfl 1 1 3 rfl rfl (by kernel_rfl)
  obtain ⟨r2, z2, g2⟩ := cfld Try.underlying24 h 2 _ rfl 2 1 4 rfl rfl (by kernel_rfl)
  obtain ⟨r3, z3, g3⟩ := cfld Try.underlying24 h 3 _ rfl 3 1 4 rfl rfl (by kernel_rfl)
  obtain ⟨r4, z4, g4⟩ := cfld Try.underlying24 h 4 _ rfl 4 1 22 rfl rfl (by kernel_rfl)
  obtain ⟨r5, z5, g5⟩ := cfld Try.underlying24 h 5 _ rfl 5 1 22 rfl rfl (by kernel_rfl)
  obtain ⟨r6, z6, g6⟩ := cfld Try.underlying24 h 6 _ rfl 6 1 3 rfl rfl (by kernel_rfl)
  obtain ⟨r7, z7, g7⟩ := cfld Try.underlying24 h 7 _ rfl 7 1 3 rfl rfl (by kernel_rfl)
  match cs, hlen with
  | [c0, c1, c2, c3, c4, c5, c6, c7], _ =>
    obtain ⟨A, hA⟩ := open_hif g4
    obtain ⟨R, hR⟩ := open_hif g5
    obtain ⟨q0, e0, _⟩ := DataW.trod_int Try.underlying3 g0
    obtain ⟨q1, e1, _⟩ := DataW.trod_int Try.underlying3 g1
    obtain ⟨q2, e2, _⟩ := DataW.trod_bool Try.underlying4 g2
    obtain ⟨q3, e3, _⟩ := DataW.trod_bool Try.underlying4 g3
    obtain ⟨q6, e6, _, h6⟩ := DataW.trod_int Try.underlying3 g6
    obtain ⟨q7, e7, _, h7⟩ := DataW.trod_int Try.underlying3 g7
    simp at e0 e1 e2 e3 e6 e7
    subst e0 e1 e2 e3 e6 e7
    exact ⟨q0, q1, q2, q3, c4, c5, q6, q7, A, R, rfl, hA, hR.1, bounds_i64 h6, bounds_i64 h7⟩
end
end Go.Proofs.Ytjjlajcpngphpaa
