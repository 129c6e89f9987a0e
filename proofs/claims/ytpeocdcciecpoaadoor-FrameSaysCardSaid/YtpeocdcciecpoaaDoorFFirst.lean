/- The chapter's example; is a frame light? -/
import Derived.Test.YtpeocdcciecpoaaDoorFBytes4
import Derived.Test.YtpeocdcciecpoaaDoorSee3
import Derived.Test.YtpeocdcciecpoaaDoorNum
namespace Go.Proofs.YtpeocdcciecpoaaDoor
open Go.RowKit Fm

theorem BytesE.ok {A : Nat → Addr} {f : F} {w0 : World} {e : Ending} {w' : World} (h : BytesE A f w0 e w') (hc : frameC f = 0) : ∃ u, e = .returned (.tuple #[u, .nilIface]) ∧ Own w' w0.heap.size u (bytesF f) ∧ Fr w0 w' [] := by
  rcases h with h | h
  · exact h.2
  · exact absurd hc h.1
theorem BytesE.bad {A : Nat → Addr} {f : F} {w0 : World} {e : Ending} {w' : World} (h : BytesE A f w0 e w') (hc : frameC f ≠ 0) : e = .returned (.tuple #[.slice none 0 0, ev A (frameC f)]) ∧ Fr w0 w' [] := by
  rcases h with h | h
  · exact absurd h.1 hc
  · exact h.2
def beat0 : F := ⟨1, 0, 0, 0, 0, false, zeroR⟩
theorem beat0_ok : frameC beat0 = 0 := by decide
theorem beat0_bytes : bytesF beat0 = [80, 1, 0, 0, 0, 0, 0] := by decide

set_option maxRecDepth 100000 in
theorem first5_any (w : World) (A : Nat → Addr) (B : Nat) (is : List Nat) (hE : EV is w A B) (hs : ∀ i ∈ [2, 3, 6, 10], i ∈ is := by decide) :
    Calls Tryd.prog 8 #[] w fun e w' => e = .returned (.bool true) ∧ Fr w w' [] := by
  have HE := Lib.hid hE
  have HS := Lib.hid hs
  clear hE hs
  go_enter Tryd.func8, Tryd.ntmps8
  go_wp2_with fail
  refine (bytes_frame beat0 (.slice none 0 0) (.slice none 0 0) _ A B is HE.out nil_ints nil_ents HS.out).mono ?_
  rintro e w1 h
  obtain ⟨u, rfl, ho, hf⟩ := h.ok beat0_ok
  rw [beat0_bytes] at ho
  have HO := Lib.hid ho
  have HF := Lib.hid hf
  clear ho hf h
  go_wp2_with fail
  have hb := lit_bytes w1 [80, 1, 0, 0, 0, 0, 0]
  refine (same_any _ [80, 1, 0, 0, 0, 0, 0] _ [80, 1, 0, 0, 0, 0, 0] _ (HO.out.bytes.grown (World.grownBy_alloc w1 _ none)) hb (by decide) true (by decide)).mono ?_
  rintro e w2 ⟨rfl, hg2⟩
  clear hb
  go_wp2
  go_ret
  exact ⟨rfl, (HF.out.trans (Fr.alloc w1 _ [])).trans (Fr.of_grown hg2 [])⟩

/-- Is it light? -/
def Light (f : F) : Prop := (∀ e ∈ f.rg.es, e.bs.length ≤ 20) ∧ f.rg.ms.length ≤ 20 ∧ f.rg.es.length ≤ 40
instance (f : F) : Decidable (Light f) := by unfold Light; exact inferInstance
set_option maxRecDepth 100000 in
theorem light_any (f : F) (vm ve : Value) (b : Bool) (hb : b = decide (Light f)) (w : World) (hm : Holds .i64 w vm f.rg.ms) (he : HE w ve f.rg.es) :
    Calls Tryd.prog 9 #[frV f vm ve] w fun e w' => e = .returned (.bool b) ∧ Fr w w' [] := by
  obtain ⟨ki, fr, to, li, se, ou, ⟨co, fo, ho, ms, es⟩⟩ := f
  unfold frV
  simp only at hm he ⊢
  obtain ⟨am, cm, rfl, m1, m2, _⟩ := hm
  have HE0 := Lib.hid he
  obtain ⟨ae, ce, rfl, e1, e2, _⟩ := he
  unfold maxLen at m2 e2
  have HB := Lib.hid hb
  have HF0 := Lib.hid (Fr.alloc w (.cells #[.int .i64 ki, .int .i64 fr, .int .i64 to, .int .i64 li, .int .i64 se, .bool ou, .int .i64 co, .int .i64 fo, .int .i64 ho, .slice am ms.length cm, .slice ae es.length ce] 29) [])
  clear hb
  go_enter Tryd.func9, Tryd.ntmps9
  go_wp2
  go_loop [3] (fun i => ∃ k : Nat, k ≤ es.length ∧ i = .int .i64 k ∧ ∀ e ∈ es.take k, e.bs.length ≤ 20) (fun i => es.length - (intOf i).toNat)
  case atStart => exact ⟨0, Nat.zero_le _, rfl, by simp⟩
  case round =>
    obtain ⟨k, hk, rfl, hno⟩ := hrel
    have HN := Lib.hid hno
    clear hno
    by_cases hlt : k < es.length
    · obtain ⟨bl, off, cap', vb, he', h1, h2, x0, x1, x2, x3, x4, hbb⟩ := HE0.out.at hlt
      simp only [Value.slice.injEq, true_and] at he'
      obtain ⟨rfl, rfl⟩ := he'
      have c3 := HF0.out.cell x3 (by simp)
      obtain ⟨z, d, rfl⟩ := hbb.shape
      obtain ⟨e, he⟩ : ∃ e, e = es.getD k zeroE := ⟨_, rfl⟩
      rw [← he] at c3
      have HEE := Lib.hid he
      clear x0 x1 x2 x3 x4 hbb he
      by_cases hL : e.bs.length ≤ 20
      · have hL2 : ¬ 20 < (e.bs.length : Int) := by omega
        have HN2 : Hid (∀ e ∈ es.take (k + 1), e.bs.length ≤ 20) := by
          show ∀ e ∈ _, _
          rw [tk_snoc es k hlt zeroE]
          intro e' he'
          rcases List.mem_append.1 he' with h | h
          · exact HN.out e' h
          · obtain rfl := List.mem_singleton.1 h; rw [← HEE.out]; exact hL
        go_wp2
        go_round
        case rel => exact ⟨k + 1, by omega, by go_num, HN2.out⟩
        case measure => simp [intOf]; omega
      · have hL2 : 20 < (e.bs.length : Int) := by omega
        have HT : Hid (b = false) := by
          show _ = _
          rw [HB.out, decide_eq_false_iff_not]
          rintro ⟨h, _⟩
          exact hL (by rw [HEE.out]; exact h _ (getD_mem hlt zeroE))
        go_wp2
        go_ret
        exact ⟨by rw [HT.out]; rfl, HF0.out⟩
    · obtain rfl : k = es.length := by omega
      have hall : ∀ e ∈ es, e.bs.length ≤ 20 := by have := HN.out; rwa [List.take_length] at this
      have hcase : (ms.length ≤ 20 ∧ es.length ≤ 40 ∧ b = true) ∨ (¬ ms.length ≤ 20 ∧ b = false) ∨ (ms.length ≤ 20 ∧ ¬ es.length ≤ 40 ∧ b = false) := by
        rcases bcase HB.out with ⟨h, e⟩ | ⟨h, e⟩
        · exact .inl ⟨h.2.1, h.2.2, e⟩
        · by_cases q : ms.length ≤ 20
          · exact .inr (.inr ⟨q, fun q2 => h ⟨hall, q, q2⟩, e⟩)
          · exact .inr (.inl ⟨q, e⟩)
      clear HB hall
      rcases hcase with ⟨q1, q2, rfl⟩ | ⟨q1, rfl⟩ | ⟨q1, q2, rfl⟩
      · have g1 : (ms.length : Int) ≤ 20 := by omega
        have g2 : (es.length : Int) ≤ 40 := by omega
        go_wp2
        go_ret
        exact ⟨rfl, HF0.out⟩
      · have g1 : ¬ (ms.length : Int) ≤ 20 := by omega
        go_wp2
        go_ret
        exact ⟨rfl, HF0.out⟩
      · have g1 : (ms.length : Int) ≤ 20 := by omega
        have g2 : ¬ (es.length : Int) ≤ 40 := by omega
        go_wp2
        go_ret
        exact ⟨rfl, HF0.out⟩
end Go.Proofs.YtpeocdcciecpoaaDoor
