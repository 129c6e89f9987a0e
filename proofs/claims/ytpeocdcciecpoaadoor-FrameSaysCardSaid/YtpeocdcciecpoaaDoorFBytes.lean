/- The bytes of a frame: numbers behind one another. -/
import Derived.Test.YtpeocdcciecpoaaDoorFValid5
import Derived.Test.YtpeocdcciecpoaaDoorPut
namespace Go.Proofs.YtpeocdcciecpoaaDoor
open Go.RowKit Fm

/-- From w to w' no block has turned but rows of bytes from block B on. -/
structure FrB (B : Nat) (w w' : World) : Prop where
  os : w'.os = w.os
  tape : w'.tape = w.tape
  output : w'.output = w.output
  size : w.heap.size ≤ w'.heap.size
  block : ∀ k o, w.heap[k]? = some o → (k < B ∨ ∃ cs T, o = .cells cs T (0, 0) ∧ T ≠ 5) → w'.heap[k]? = some o
theorem FrB.refl (B : Nat) (w : World) : FrB B w w := ⟨rfl, rfl, rfl, Nat.le_refl _, fun _ _ h _ => h⟩
theorem FrB.trans {B : Nat} {a b c : World} (h : FrB B a b) (k : FrB B b c) : FrB B a c :=
  ⟨k.os.trans h.os, k.tape.trans h.tape, k.output.trans h.output, Nat.le_trans h.size k.size, fun i o hi hc => k.block i o (h.block i o hi hc) hc⟩
theorem FrB.of_fr {B : Nat} {w w' : World} (h : Fr w w' []) : FrB B w w' := ⟨h.os, h.tape, h.output, h.size, fun _ _ hi _ => h.heap hi (by simp)⟩
theorem FrB.of_row {B : Nat} {w w' : World} {v : Value} {l : List Int} (ho : Own w B v l) (h : w.grownBy w' v.ownBlock) : FrB B w w' :=
  ⟨h.os, h.tape, h.output, h.size, fun k o hk hc => by
    have hlt := (Array.getElem?_eq_some_iff.1 hk).1
    rw [h.block k hlt, hk]
    rcases hc with hc | ⟨cs, T, rfl, hT⟩
    · intro e; have := (ho.block k e.symm).1; omega
    · exact fun e => ho.apart hk hT e.symm⟩
/-- What lies below B, seen from an elder world. -/
theorem FrB.fr {B : Nat} {w0 w w' : World} (h : FrB B w w') (h0 : Fr w0 w []) (hB : w0.heap.size ≤ B) : Fr w0 w' [] :=
  ⟨h.os.trans h0.os, h.tape.trans h0.tape, h.output.trans h0.output, Nat.le_trans h0.size h.size, fun k hk _ => by
    have e : w0.heap[k]? = some w0.heap[k] := Array.getElem?_eq_getElem hk
    rw [h.block k _ (h0.heap e (by simp)) (.inl (by omega)), e]⟩
theorem FrB.box {B : Nat} {w w' : World} (h : FrB B w w') {g : Nat} {cs : Array Value} {T : TypeId} (hg : w.heap[g]? = some (.cells cs T (0, 0))) (hT : T ≠ 5) : w'.heap[g]? = some (.cells cs T (0, 0)) := h.block g _ hg (.inr ⟨cs, T, rfl, hT⟩)
theorem own_some {w : World} {B : Nat} {v : Value} {l : List Int} (h : Own w B v l) (h0 : 0 < l.length) : ∃ g cap, v = .slice (some ⟨g, 0, none⟩) l.length cap ∧ ∀ j u, (u8s l)[j]? = some u → w.cell? ((⟨g, 0, none⟩ : Addr).add j) = some u := by
  rcases h.2 with ⟨rfl, h1⟩ | ⟨g, cap, cur, rfl, _⟩
  · omega
  · refine ⟨g, cap, rfl, fun j u hj => ?_⟩
    have hb := h.bytes
    obtain ⟨a, c, e, _, _, h3⟩ := hb
    simp only [Value.slice.injEq, true_and] at e
    obtain ⟨rfl, rfl⟩ := e
    obtain ⟨b, off, e2, hc⟩ := h3 h0
    simp only [Option.some.injEq, Addr.mk.injEq, and_true] at e2
    obtain ⟨rfl, rfl⟩ := e2
    have hjl : j < l.length := by have := (List.getElem?_eq_some_iff.1 hj).1; simpa using this
    have e : (u8s l)[j]? = some (.int .u8 (l.getD j 0)) := by simp [u8s, hjl]
    rw [e] at hj
    obtain rfl := Option.some.inj hj
    rw [Addr.add_lit]
    exact hc j hjl
def I64 (n : Int) : Prop := -9223372036854775808 ≤ n ∧ n ≤ 9223372036854775807
theorem flat_len (ns : List Int) (k : Nat) : ((ns.take k).flatMap Wm.enc).length ≤ 10 * k := by
  have key : ∀ l : List Int, (l.flatMap Wm.enc).length ≤ 10 * l.length := by
    intro l
    induction l with
    | nil => simp
    | cons x xs ih => have := Wm.enc_len x; simp only [List.flatMap_cons, List.length_append, List.length_cons]; omega
  have := key (ns.take k)
  have h2 : (ns.take k).length ≤ k := List.length_take_le _ _
  omega

set_option maxHeartbeats 1000000 in
set_option maxRecDepth 100000 in
theorem putInts_any (v : Value) (l : List Int) (vl : Value) (ns : List Int) (w : World) (B : Nat) (ho : Own w B v l) (hB : B ≤ w.heap.size) (hn : ∀ wr, FrB B w wr → Holds .i64 wr vl ns) (hlen : l.length + 10 * ns.length ≤ 70368744177664) (hr : ∀ x ∈ ns, I64 x) :
    Calls Tryd.prog 27 #[v, vl] w (Gives fun u w' => Own w' B u (l ++ ns.flatMap Wm.enc) ∧ FrB B w w') := by
  obtain ⟨i0, hi, hz0, hz1, hz2⟩ := info_parts infoU8
  have HO := Lib.hid ho
  have HN := Lib.hid hn
  have HR := Lib.hid hr
  obtain ⟨a, cap, rfl, h1, h2, _⟩ := hn w (FrB.refl _ _)
  unfold maxLen at h2
  clear ho hn hr
  go_enter Tryd.func27, Tryd.ntmps27
  go_wp2
  go_loopw [0, 9] (fun u i wr => ∃ k : Nat, k ≤ ns.length ∧ i = .int .i64 k ∧ Own wr B u (l ++ (ns.take k).flatMap Wm.enc) ∧ FrB B w wr) (fun _ i _ => ns.length - (intOf i).toNat)
  case atStart => exact ⟨0, Nat.zero_le _, rfl, by simpa using HO.out, FrB.refl _ _⟩
  case round =>
    obtain ⟨k, hk, rfl, hown, hf⟩ := hrel
    have HOW := Lib.hid hown
    have HF := Lib.hid hf
    clear hown hf
    by_cases hlt : k < ns.length
    · have hh := HN.out _ HF.out
      obtain ⟨a', cap', he, _, _, h3⟩ := hh
      simp only [Value.slice.injEq, true_and] at he
      obtain ⟨rfl, rfl⟩ := he
      obtain ⟨bl, off, rfl, hc⟩ := h3 (by omega)
      have hcell := hc k hlt
      obtain ⟨x, hx⟩ : ∃ x, x = ns.getD k 0 := ⟨_, rfl⟩
      rw [← hx] at hcell
      have HRX := Lib.hid (HR.out x (by rw [hx]; exact getD_mem hlt 0))
      have hstep : (ns.take (k + 1)).flatMap Wm.enc = (ns.take k).flatMap Wm.enc ++ Wm.enc x := by rw [tk_snoc ns k hlt 0, hx]; simp
      have HST := Lib.hid hstep
      have hfl := flat_len ns k
      have hel := Wm.enc_len x
      have hwl : (l ++ (ns.take k).flatMap Wm.enc).length ≤ l.length + 10 * k := by rw [List.length_append]; omega
      have HWL := Lib.hid hwl
      clear hx h3 hc hstep hfl hwl
      go_wp2_with fail
      refine (put_any _ [] x _ nil_bytes (by simp) HRX.out.1 HRX.out.2).mono ?_
      rintro e w1 ⟨u, rfl, hu, hg⟩
      rw [List.nil_append] at hu
      obtain ⟨g, c, rfl, hcells⟩ := own_some hu (by omega)
      have HO1 := Lib.hid (HOW.out.kept hg (fun r e => by cases e))
      have hsz := hg.size
      have HG := Lib.hid hg
      have HCL := Lib.hid hcells
      have HB1 := Lib.hid (show B ≤ w1.heap.size by have := HF.out.size; omega)
      clear hu hg hcells
      go_wp2_with (at_builtin; refine wpList_append_own _ rfl _ _ 30 rfl B 5 i0 (.int .u8 0) 1 1 Tryd.underlying30 hi hz0 hz1 hz2 rfl (by decide) _ _ _ rfl HO1.out ⟨g, 0, none⟩ _ c (u8s (Wm.enc x)) rfl (by simp) HCL.out (u8s_one _) (by have := HWL.out; unfold maxLen; omega) (by have := HWL.out; omega) HB1.out ?_; intro v' w3 hown2 hg2 _)
      have HN2 : Hid (Own w3 B v' (l ++ (ns.take (k + 1)).flatMap Wm.enc)) := by
        show Own _ _ _ _
        rw [HST.out, ← List.append_assoc]
        unfold Own
        rw [List.length_append, u8s_append]
        exact hown2
      have HF2 := Lib.hid ((HF.out.trans (FrB.of_fr (Fr.of_grown HG.out []))).trans (FrB.of_row HO1.out hg2))
      clear hown2 hg2
      go_wp2
      go_roundw
      case rel => exact ⟨k + 1, by omega, by go_num, HN2.out, HF2.out⟩
      case measure => simp [intOf]; omega
    · obtain rfl : k = ns.length := by omega
      have HN2 := Lib.hid (show Own wr B u0 (l ++ ns.flatMap Wm.enc) by have := HOW.out; rwa [List.take_length] at this)
      go_wp2
      go_ret
      exact gives ⟨HN2.out, HF.out⟩

set_option maxHeartbeats 1000000 in
set_option maxRecDepth 100000 in
theorem putInt64s_any (v : Value) (l : List Int) (vl : Value) (ns : List Int) (w : World) (B : Nat) (ho : Own w B v l) (hB : B ≤ w.heap.size) (hn : ∀ wr, FrB B w wr → Holds .i64 wr vl ns) (hlen : l.length + 10 * ns.length ≤ 70368744177664) (hr : ∀ x ∈ ns, I64 x) :
    Calls Tryd.prog 59 #[v, vl] w (Gives fun u w' => Own w' B u (l ++ ns.flatMap Wm.enc) ∧ FrB B w w') := by
  obtain ⟨i0, hi, hz0, hz1, hz2⟩ := info_parts infoU8
  have HO := Lib.hid ho
  have HN := Lib.hid hn
  have HR := Lib.hid hr
  obtain ⟨a, cap, rfl, h1, h2, _⟩ := hn w (FrB.refl _ _)
  unfold maxLen at h2
  clear ho hn hr
  go_enter Tryd.func59, Tryd.ntmps59
  go_wp2
  go_loopw [0, 9] (fun u i wr => ∃ k : Nat, k ≤ ns.length ∧ i = .int .i64 k ∧ Own wr B u (l ++ (ns.take k).flatMap Wm.enc) ∧ FrB B w wr) (fun _ i _ => ns.length - (intOf i).toNat)
  case atStart => exact ⟨0, Nat.zero_le _, rfl, by simpa using HO.out, FrB.refl _ _⟩
  case round =>
    obtain ⟨k, hk, rfl, hown, hf⟩ := hrel
    have HOW := Lib.hid hown
    have HF := Lib.hid hf
    clear hown hf
    by_cases hlt : k < ns.length
    · have hh := HN.out _ HF.out
      obtain ⟨a', cap', he, _, _, h3⟩ := hh
      simp only [Value.slice.injEq, true_and] at he
      obtain ⟨rfl, rfl⟩ := he
      obtain ⟨bl, off, rfl, hc⟩ := h3 (by omega)
      have hcell := hc k hlt
      obtain ⟨x, hx⟩ : ∃ x, x = ns.getD k 0 := ⟨_, rfl⟩
      rw [← hx] at hcell
      have HRX := Lib.hid (HR.out x (by rw [hx]; exact getD_mem hlt 0))
      have hstep : (ns.take (k + 1)).flatMap Wm.enc = (ns.take k).flatMap Wm.enc ++ Wm.enc x := by rw [tk_snoc ns k hlt 0, hx]; simp
      have HST := Lib.hid hstep
      have hfl := flat_len ns k
      have hel := Wm.enc_len x
      have hwl : (l ++ (ns.take k).flatMap Wm.enc).length ≤ l.length + 10 * k := by rw [List.length_append]; omega
      have HWL := Lib.hid hwl
      clear hx h3 hc hstep hfl hwl
      go_wp2_with fail
      refine (put_any _ [] x _ nil_bytes (by simp) HRX.out.1 HRX.out.2).mono ?_
      rintro e w1 ⟨u, rfl, hu, hg⟩
      rw [List.nil_append] at hu
      obtain ⟨g, c, rfl, hcells⟩ := own_some hu (by omega)
      have HO1 := Lib.hid (HOW.out.kept hg (fun r e => by cases e))
      have hsz := hg.size
      have HG := Lib.hid hg
      have HCL := Lib.hid hcells
      have HB1 := Lib.hid (show B ≤ w1.heap.size by have := HF.out.size; omega)
      clear hu hg hcells
      go_wp2_with (at_builtin; refine wpList_append_own _ rfl _ _ 30 rfl B 5 i0 (.int .u8 0) 1 1 Tryd.underlying30 hi hz0 hz1 hz2 rfl (by decide) _ _ _ rfl HO1.out ⟨g, 0, none⟩ _ c (u8s (Wm.enc x)) rfl (by simp) HCL.out (u8s_one _) (by have := HWL.out; unfold maxLen; omega) (by have := HWL.out; omega) HB1.out ?_; intro v' w3 hown2 hg2 _)
      have HN2 : Hid (Own w3 B v' (l ++ (ns.take (k + 1)).flatMap Wm.enc)) := by
        show Own _ _ _ _
        rw [HST.out, ← List.append_assoc]
        unfold Own
        rw [List.length_append, u8s_append]
        exact hown2
      have HF2 := Lib.hid ((HF.out.trans (FrB.of_fr (Fr.of_grown HG.out []))).trans (FrB.of_row HO1.out hg2))
      clear hown2 hg2
      go_wp2
      go_roundw
      case rel => exact ⟨k + 1, by omega, by go_num, HN2.out, HF2.out⟩
      case measure => simp [intOf]; omega
    · obtain rfl : k = ns.length := by omega
      have HN2 := Lib.hid (show Own wr B u0 (l ++ ns.flatMap Wm.enc) by have := HOW.out; rwa [List.take_length] at this)
      go_wp2
      go_ret
      exact gives ⟨HN2.out, HF.out⟩
end Go.Proofs.YtpeocdcciecpoaaDoor
