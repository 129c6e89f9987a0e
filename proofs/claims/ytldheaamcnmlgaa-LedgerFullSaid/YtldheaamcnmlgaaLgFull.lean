/- As many entries as a token has room for. Plain: no program. -/
import Derived.Test.YtldheaamcnmlgaaLgAdd2
namespace Go.Proofs.Ytldheaamcnmlgaa
open Go.RowKit Fm

def laI (g : Int) (i : Nat) : La := ⟨((i / 2 % 64 : Nat) : Int), 2 * ((i % 2 : Nat) : Int) - 1, g⟩
/-- The first k that the law lights, from the last call down. -/
def litTo (n : Nat) (g : Int) (k : Nat) : List La := (List.range k).map fun j => laI g (n - 1 - j)
theorem litTo_succ (n : Nat) (g : Int) (k : Nat) : litTo n g (k + 1) = litTo n g k ++ [laI g (n - 1 - k)] := by
  unfold litTo; rw [List.range_succ, List.map_append]; rfl
theorem litTo_len (n : Nat) (g : Int) (k : Nat) : (litTo n g k).length = k := by simp [litTo]
theorem mem_lit {n : Nat} {g : Int} {x : La} : x ∈ litTo n g n ↔ ∃ i, i < n ∧ x = laI g i := by
  unfold litTo
  rw [List.mem_map]
  constructor
  · rintro ⟨j, hj, rfl⟩
    exact ⟨n - 1 - j, by have := List.mem_range.1 hj; omega, rfl⟩
  · rintro ⟨i, hi, rfl⟩
    exact ⟨n - 1 - i, List.mem_range.2 (by omega), by congr 1; omega⟩
theorem laI_ok (g : Int) (i : Nat) : CallOk (laI g i).f (laI g i).d := by unfold CallOk laI; dsimp only; omega
structure FullIs (n : Nat) (g : Int) (R : Rg) : Prop where
  len : R.es.length = min n 128
  rise : R.es.Pairwise Less
  each : ∀ e ∈ R.es, e.aw = -1 ∧ e.bs = [] ∧ e.ge = g
  none : purgeE R.es [] = []
  all : purgeE R.es (litTo n g n) = R.es
  want0 : (wantsR R 0).length = R.es.length
  want1 : wantsR R 1 = []
  mem : R.ms.length = 1
theorem full_is (co fo g : Int) (n : Nat) : FullIs n g (addR (newR co fo [0]) (litTo n g n)) := by
  have h : Added [] (litTo n g n) (addR (newR co fo [0]) (litTo n g n)).es := addR_added (r := newR co fo [0]) .nil (by intro e he; cases he) (fun x hx => by
    obtain ⟨i, _, rfl⟩ := mem_lit.1 hx
    exact laI_ok g i)
  have hms : (addR (newR co fo [0]) (litTo n g n)).ms = [0] := setOf_self (List.pairwise_singleton _ _)
  generalize addR (newR co fo [0]) (litTo n g n) = R at h hms
  have hl := added_la h
  have hcode : ∀ x, x ∈ R.es.map codeE ↔ (0 : Int) ≤ x ∧ x < ((min n 128 : Nat) : Int) := fun x => by
    constructor
    · intro hx
      obtain ⟨e, he, rfl⟩ := List.mem_map.1 hx
      obtain ⟨i, hi, h1⟩ := mem_lit.1 (hl e he).1
      simp only [laOf, laI, La.mk.injEq] at h1
      unfold codeE
      rw [h1.1, h1.2.1]
      omega
    · rintro ⟨h1, h2⟩
      obtain ⟨v, rfl⟩ := Int.eq_ofNat_of_zero_le h1
      obtain ⟨e, he, h3, h4⟩ := h.all (laI g v) (mem_lit.2 ⟨v, by omega, rfl⟩)
      refine List.mem_map.2 ⟨e, he, ?_⟩
      unfold codeE
      rw [h3, h4]
      unfold laI
      dsimp only
      omega
  have hlen : R.es.length = min n 128 := by
    have := rise_count (code_rise h.rise h.ok) hcode (by omega)
    rw [List.length_map] at this
    omega
  refine ⟨hlen, h.rise, fun e he => ?_, ?_, purgeE_same (fun e he => (hl e he).1), ?_, ?_, by rw [hms]; rfl⟩
  · obtain ⟨h1, h2, h3⟩ := hl e he
    obtain ⟨i, _, h4⟩ := mem_lit.1 h1
    simp only [laOf, laI, La.mk.injEq] at h4
    exact ⟨h2, h3, h4.2.2⟩
  · unfold purgeE
    exact List.filter_eq_nil_iff.2 (fun e _ => by simp)
  · unfold wantsR
    rw [if_pos (by rw [hms]; simp), List.length_map, List.filter_eq_self.2]
    intro e he
    obtain ⟨_, h2, h3⟩ := hl e he
    unfold wantE
    rw [h2, h3]; rfl
  · unfold wantsR
    rw [if_neg (by rw [hms]; simp)]
end Go.Proofs.Ytldheaamcnmlgaa
