/- The walk of the epoch's law of chains: epochs founded one behind the other, each behind all that were seen, rise; no two founders have the same one. -/
import Derived.Test.YtnlicmcijmglfaaDoorTxt
import Derived.Test.YtnlicmcijmglfaaDoorNum
import Derived.Deep.DeepCutAuto
import Derived.Deep.CutBlock
namespace Go.Proofs.YtnlicmcijmglfaaDoor
open Go.RowKit

theorem infoEp : (Tryd.prog.info? 23).map (fun i => (i.zero, i.size, i.bytes)) = some (some (.agg #[.int .i64 0, .int .i64 0]), 2, 16) := by kernel_rfl

/-- The cells of the chain: the counts from j + 1 on, and their founders. -/
def chain : Nat → List Nat → List Value
  | _, [] => []
  | j, f :: r => .int .i64 ((j : Int) + 1) :: .int .i64 (f : Int) :: chain (j + 1) r
theorem chain_snoc (j : Nat) (F : List Nat) (f : Nat) : chain j (F ++ [f]) = chain j F ++ [.int .i64 (((j + F.length : Nat) : Int) + 1), .int .i64 (f : Int)] := by
  induction F generalizing j with
  | nil => simp [chain]
  | cons a r ih =>
    simp only [List.cons_append, chain, ih, List.length_cons]
    rw [show j + 1 + r.length = j + (r.length + 1) by omega]
theorem chain_get (j : Nat) (F : List Nat) (m : Nat) (hm : m < F.length) : (chain j F)[m * 2]? = some (.int .i64 (((j + m : Nat) : Int) + 1)) ∧ (chain j F)[m * 2 + 1]? = some (.int .i64 ((F.getD m 0 : Nat) : Int)) := by
  induction F generalizing j m with
  | nil => simp at hm
  | cons a r ih =>
    cases m with
    | zero => simp [chain]
    | succ m =>
      obtain ⟨h1, h2⟩ := ih (j + 1) m (by simpa using hm)
      rw [show (m + 1) * 2 = m * 2 + 1 + 1 by omega]
      simp only [chain, List.getElem?_cons_succ]
      refine ⟨?_, ?_⟩
      · rw [h1, show j + 1 + m = j + (m + 1) by omega]
      · rw [h2]; simp
theorem chain_len (j : Nat) (F : List Nat) : (chain j F).length = F.length * 2 := by
  induction F generalizing j with
  | nil => rfl
  | cons a r ih => simp only [chain, List.length_cons, ih]; omega
theorem chain_one (a b : Int) : ∀ u ∈ [Value.int .i64 a, Value.int .i64 b], u.oneCell' = true := by
  intro u hu
  simp only [List.mem_cons, List.not_mem_nil, or_false] at hu
  rcases hu with rfl | rfl <;> rfl
theorem owns_fr {w w' : World} {B size n : Nat} {e : TypeId} {v : Value} {xs : List Value} {S : List Nat} (h : w.ownsRow B e size v n xs) (hg : Fr w w' S) (hne : ∀ r ∈ S, v.ownBlock ≠ some r) : w'.ownsRow B e size v n xs := by
  refine ⟨h.1, ?_⟩
  rcases h.2 with h2 | ⟨g, cap, cur, rfl, hb, hgg, rest⟩
  · exact .inl h2
  · exact .inr ⟨g, cap, cur, rfl, hb, hg.heap hgg (fun hm => hne g hm rfl), rest⟩

theorem owns_shape {w : World} {B size n : Nat} {e : TypeId} {v : Value} {xs : List Value} (h : w.ownsRow B e size v n xs) : ∃ a cap, v = .slice a n cap := by
  rcases h.2 with ⟨rfl, h0⟩ | ⟨g, cap, cur, rfl, _⟩
  · exact ⟨none, 0, by rw [h0]⟩
  · exact ⟨_, _, rfl⟩
/-- What stands while the two epochs of a round are looked at. -/
def EChS (W1 : World) (E G : Nat) (e1 e2 g1 g2 : Int) (a : World) : Prop := Fr W1 a [] ∧
  (a.cell? ⟨E, 0, none⟩ = some (.int .i64 e1) ∧ a.cell? ⟨E, 1, none⟩ = some (.int .i64 e2)) ∧
  (a.cell? ⟨G, 0, none⟩ = some (.int .i64 g1) ∧ a.cell? ⟨G, 1, none⟩ = some (.int .i64 g2))
theorem EChS.fr {W1 : World} {E G : Nat} {e1 e2 g1 g2 : Int} {a b : World} (h : EChS W1 E G e1 e2 g1 g2 a) (k : Fr a b []) : EChS W1 E G e1 e2 g1 g2 b := by
  obtain ⟨h0, ⟨h1, h2⟩, h3, h4⟩ := h
  exact ⟨h0.trans k, ⟨k.cell h1 (by simp), k.cell h2 (by simp)⟩, k.cell h3 (by simp), k.cell h4 (by simp)⟩

/-- What stands while an elder epoch is held against the new one. -/
def EChI (W1 : World) (B o E : Nat) (d1 d2 e1 e2 : Int) (a : World) : Prop := Fr W1 a [] ∧
  (a.cell? ⟨B, o, none⟩ = some (.int .i64 d1) ∧ a.cell? ⟨B, o + 1, none⟩ = some (.int .i64 d2)) ∧
  (a.cell? ⟨E, 0, none⟩ = some (.int .i64 e1) ∧ a.cell? ⟨E, 1, none⟩ = some (.int .i64 e2))
theorem EChI.fr {W1 : World} {B o E : Nat} {d1 d2 e1 e2 : Int} {a b : World} (h : EChI W1 B o E d1 d2 e1 e2 a) (k : Fr a b []) : EChI W1 B o E d1 d2 e1 e2 b := by
  obtain ⟨h0, ⟨h1, h2⟩, h3, h4⟩ := h
  exact ⟨h0.trans k, ⟨k.cell h1 (by simp), k.cell h2 (by simp)⟩, k.cell h3 (by simp), k.cell h4 (by simp)⟩

/-- The other founder. -/
def nextF (f : Nat) : Nat := (f + 1) % 16
theorem nextF_rem (f : Nat) : ((f : Int) + 1).tmod 16 = (nextF f : Int) := by
  unfold nextF
  rw [Int.tmod_eq_emod_of_nonneg (by omega)]
  omega
theorem nextF_lt (f : Nat) : nextF f < 16 := Nat.mod_lt _ (by decide)
theorem nextF_ne (f : Nat) (_h : f < 16) : nextF f ≠ f := by unfold nextF; omega
theorem cell_two_new (w : World) (x y : Value) (T : TypeId) : ∀ j u, [x, y][j]? = some u → (w.alloc (.cells #[x, y] T)).cell? ((⟨w.heap.size, 0, none⟩ : Addr).add j) = some u := by
  intro j u h
  rw [Addr.add_lit, cell_of_row _ _ _ _ _ _ (heap_alloc_new w _), Nat.zero_add]
  simpa using h

set_option maxHeartbeats 4000000 in
set_option maxRecDepth 100000 in
theorem echain_walk (v : Value) (l : List Int) (hl : ∀ n ∈ l, (Lit.int .i64 n).wf = true) (w : World) (hT : Tab w) (hv : Holds .i64 w v l) :
    Calls Tryd.prog 5 #[v] w fun e w' => e = .returned (.bool true) ∧ w.grownBy w' none := by
  obtain ⟨i0, hi, hz0, hz1, hz2⟩ := info_parts infoEp
  have HT := Lib.hid hT
  have HL := Lib.hid hl
  obtain ⟨a, cap, rfl, hcap, hcm, hcell⟩ := hv
  unfold maxLen at hcm
  have HCELL := Lib.hid hcell
  clear hcell hl hT
  by_cases h30 : 30 < l.length
  · go_enter Tryd.func5, Tryd.ntmps5
    go_wp2_with fail
    refine (first4_any _ HT.out).mono ?_
    rintro e w1 ⟨rfl, hf1⟩
    go_wp2
    go_ret
    exact ⟨rfl, hf1.grown (by simp)⟩
  · go_enter Tryd.func5, Tryd.ntmps5
    go_wp2_with fail
    refine (first4_any _ HT.out).mono ?_
    rintro e w1 ⟨rfl, hf1⟩
    have HF1 := Lib.hid hf1
    clear hf1
    go_wp2_with fail
    go_loopw [4, 5, 6] (fun al sn ix wr => ∃ (F : List Nat), F.length ≤ l.length ∧ sn = .int .i64 (F.length : Int) ∧ ix = .int .i64 (F.length : Int) ∧ (∀ f ∈ F, f < 16) ∧ wr.ownsRow w.heap.size 23 2 al F.length (chain 0 F) ∧ Fr w wr []) (fun _ _ ix _ => l.length - (intOf ix).toNat)
    case atStart => exact ⟨[], Nat.zero_le _, rfl, rfl, by simp, World.ownsRow_nil _ _ _ _, HF1.out⟩
    case round =>
      obtain ⟨F, hk, rfl, rfl, h16, ho, hf⟩ := hrel
      obtain ⟨k, hkF⟩ : ∃ k, k = F.length := ⟨_, rfl⟩
      rw [← hkF] at hk ho ⊢
      have HO := Lib.hid ho
      have HF := Lib.hid hf
      have H16 := Lib.hid h16
      have HK := Lib.hid hkF
      obtain ⟨ga, ca, rfl⟩ := owns_shape ho
      clear ho hf h16 HF1 hkF
      by_cases hlt : k < l.length
      · obtain ⟨bb, off, rfl, hc⟩ := HCELL.out (by omega)
        have hcl := HF.out.cell (hc k hlt) (by simp)
        have hwf : (Lit.int .i64 (l.getD k 0)).wf = true := HL.out _ (by simp [List.getD, hlt])
        obtain ⟨x, hx⟩ : ∃ x, x = l.getD k 0 := ⟨_, rfl⟩
        rw [← hx] at hcl hwf
        obtain ⟨f, hf16, _, hnum⟩ := numberTo_nat x 16 (by decide) (by decide) hwf
        have HNUM := Lib.hid hnum
        clear hnum hwf hc hx
        go_wp2_with fail
        refine (HNUM.out _).mono ?_
        rintro e w2 ⟨rfl, rfl⟩
        obtain ⟨g, hg⟩ : ∃ g, g = nextF f := ⟨_, rfl⟩
        have hg16 : g < 16 := hg ▸ nextF_lt f
        have hgf : g ≠ f := hg ▸ nextF_ne f hf16
        have hrem : ((f : Int) + 1).tmod 16 = (g : Int) := hg ▸ nextF_rem f
        have hw1 : IntKind.i64.wrap ((f : Int) + 1) = (f : Int) + 1 := IntWalk.i64_in _ (by omega)
        have HNE := Lib.hid (fun W => next_any k f ((k : Int) + 1) f true W (.inl ⟨by omega, by omega, by omega, by omega, rfl, rfl, rfl⟩) (by omega) (by omega))
        have HNG := Lib.hid (fun W => next_any k g ((k : Int) + 1) g true W (.inl ⟨by omega, by omega, by omega, by omega, rfl, rfl, rfl⟩) (by omega) (by omega))
        have HG := Lib.hid (show g < 16 ∧ g ≠ f ∧ f < 16 from ⟨hg16, hgf, hf16⟩)
        clear hg hg16 hgf hf16
        go_wp2_with fail
        refine (HNE.out _).mono ?_
        rintro e w3 ⟨rfl, hf3⟩
        have HGE := Lib.hid (heap_alloc_new w3 (.cells #[.int .i64 ((k : Int) + 1), .int .i64 (f : Int)] 23))
        have HF3 := Lib.hid (hf3.trans (Fr.alloc w3 (.cells #[.int .i64 ((k : Int) + 1), .int .i64 (f : Int)] 23) []))
        have HLT := Lib.hid hf3.size
        clear hf3 hcl
        go_wp2_with fail
        refine (HNG.out _).mono ?_
        rintro e w4 ⟨rfl, hf4⟩
        have HGE4 := Lib.hid (hf4.heap HGE.out (by simp))
        have HF4 := Lib.hid (HF3.out.trans hf4)
        clear hf4 hrem hw1
        go_upto_region 14 with fail
        have hgg := heap_alloc_new w4 (.cells #[.int .i64 ((k : Int) + 1), .int .i64 (g : Int)] 23)
        generalize hW5 : World.alloc w4 _ = W5 at hgg
        have hf45 : Fr w4 W5 [] := by rw [← hW5]; exact Fr.alloc _ _ _
        have HS5 : Hid (EChS wr w3.heap.size w4.heap.size ((k : Int) + 1) f ((k : Int) + 1) g W5) := ⟨HF4.out.trans hf45, (pair_kept (hf45.heap HGE4.out (by simp)) (Fr.refl _ _)).1, (pair_kept hgg (Fr.refl _ _)).1⟩
        clear hgg hW5 hf45
        go_cut [78] (fun s78 wx => s78 = .bool false ∧ EChS wr w3.heap.size w4.heap.size ((k : Int) + 1) f ((k : Int) + 1) g wx)
        case first =>
          have keep := @EChS.fr wr w3.heap.size w4.heap.size ((k : Int) + 1) f ((k : Int) + 1) g
          have hvb : validB ((k : Int) + 1) f = true := by have := HG.out; simp only [validB, decide_eq_true_eq]; omega
          have hnb : decide ((k : Int) + 1 = 0) = false := by rw [decide_eq_false_iff_not]; omega
          have hleg : lessB ((k : Int) + 1) f ((k : Int) + 1) g = decide (f < g) := by unfold lessB; rw [decide_eq_decide]; omega
          have hlge : lessB ((k : Int) + 1) g ((k : Int) + 1) f = decide (g < f) := by unfold lessB; rw [decide_eq_decide]; omega
          have HV := Lib.hid (hvb ▸ valid_any ((k : Int) + 1) f)
          have HNO := Lib.hid (hnb ▸ none_any ((k : Int) + 1) f)
          have HLE := Lib.hid (hleg ▸ less_any ((k : Int) + 1) f ((k : Int) + 1) g)
          have HLG := Lib.hid (hlge ▸ less_any ((k : Int) + 1) g ((k : Int) + 1) f)
          have HTE := Lib.hid (text_any ((k : Int) + 1) f (by omega) (by have := HG.out; omega))
          have HTG := Lib.hid (text_any ((k : Int) + 1) g (by omega) (by have := HG.out; omega))
          have hne : ¬ epTxt ((k : Int) + 1) f = epTxt ((k : Int) + 1) g := by
            intro h
            have := (epTxt_inj (c := k + 1) (d := k + 1) (by simpa using h)).2
            exact HG.out.2.1 this.symm
          generalize epTxt ((k : Int) + 1) f = te at HTE hne
          generalize epTxt ((k : Int) + 1) g = tg at HTG hne
          have hneb := txt_ne hne
          clear hvb hnb hleg hlge hne
          have hways : (f < g ∧ decide (f < g) = true) ∨ (g < f ∧ decide (f < g) = false ∧ decide (g < f) = true) := by
            have := HG.out
            by_cases h : f < g
            · exact .inl ⟨h, decide_eq_true h⟩
            · exact .inr ⟨by omega, decide_eq_false h, decide_eq_true (by omega)⟩
          rcases hways with ⟨_, h1⟩ | ⟨_, h1, h2⟩
          · rw [h1] at HLE
            clear h1
            refine wp_region_det (S := EChS wr w3.heap.size w4.heap.size ((k : Int) + 1) f ((k : Int) + 1) g) (by kernel_rfl) (keep HS5.out (Fr.drew _ _)) ?_
            refine wpDet_take (i := 0) (oi := _) (v := ?dv1) (by simp only [List.getElem?_toArray, List.getElem?_cons_zero]; rfl) (by kernel_rfl) (by kernel_rfl) (by kernel_rfl) (Or.inl ⟨by rfl, ?dy1⟩) ?dr1
            case dy1 => (intro w hSw; have hS0 := hSw; (try dsimp only [EChS] at hSw); go_simp; refine Came.value ?_ hS0; with_reducible rfl)
            try simp only [Act.put, List.setIfInBounds_toArray, List.set_cons_zero, List.set_cons_succ]
            refine wpDet_take (i := 1) (oi := _) (v := ?dv2) (by simp only [List.getElem?_toArray, List.getElem?_cons_zero, List.getElem?_cons_succ]; rfl) (by kernel_rfl) (by kernel_rfl) (by kernel_rfl) (Or.inl ⟨by rfl, ?dy2⟩) ?dr2
            case dy2 => (intro w hSw; have hS0 := hSw; (try dsimp only [EChS] at hSw); go_simp; refine Came.value ?_ hS0; with_reducible rfl)
            try simp only [Act.put, List.setIfInBounds_toArray, List.set_cons_zero, List.set_cons_succ]
            refine wpDet_take (i := 2) (oi := _) (v := ?dv3) (by simp only [List.getElem?_toArray, List.getElem?_cons_zero, List.getElem?_cons_succ]; rfl) (by kernel_rfl) (by kernel_rfl) (by kernel_rfl) (Or.inl ⟨by rfl, ?dy3⟩) ?dr3
            case dy3 => (intro w hSw; have hS0 := hSw; (try dsimp only [EChS] at hSw); go_simp; refine Came.value ?_ hS0; with_reducible rfl)
            try simp only [Act.put, List.setIfInBounds_toArray, List.set_cons_zero, List.set_cons_succ]
            refine wpDet_take (i := 3) (oi := _) (v := ?dv4) (by simp only [List.getElem?_toArray, List.getElem?_cons_zero, List.getElem?_cons_succ]; rfl) (by kernel_rfl) (by kernel_rfl) (by kernel_rfl) (Or.inl ⟨by rfl, ?dy4⟩) ?dr4
            case dy4 => (intro w hSw; have hS0 := hSw; (try dsimp only [EChS] at hSw); go_simp; refine Came.value ?_ hS0; with_reducible rfl)
            try simp only [Act.put, List.setIfInBounds_toArray, List.set_cons_zero, List.set_cons_succ]
            refine wpDet_take (i := 4) (oi := _) (v := ?dv5) (by simp only [List.getElem?_toArray, List.getElem?_cons_zero, List.getElem?_cons_succ]; rfl) (by kernel_rfl) (by kernel_rfl) (by kernel_rfl) (Or.inl ⟨by rfl, ?dy5⟩) ?dr5
            case dy5 => (intro w hSw; have hS0 := hSw; (try dsimp only [EChS] at hSw); go_simp; refine Came.value ?_ hS0; with_reducible rfl)
            try simp only [Act.put, List.setIfInBounds_toArray, List.set_cons_zero, List.set_cons_succ]
            refine wpDet_take (i := 5) (oi := _) (v := ?dv6) (by simp only [List.getElem?_toArray, List.getElem?_cons_zero, List.getElem?_cons_succ]; rfl) (by kernel_rfl) (by kernel_rfl) (by kernel_rfl) (Or.inl ⟨by rfl, ?dy6⟩) ?dr6
            case dy6 => (intro w hSw; have hS0 := hSw; (try dsimp only [EChS] at hSw); go_simp; refine Came.value ?_ hS0; with_reducible rfl)
            try simp only [Act.put, List.setIfInBounds_toArray, List.set_cons_zero, List.set_cons_succ]
            refine wpDet_take (i := 6) (oi := _) (v := ?dv7) (by simp only [List.getElem?_toArray, List.getElem?_cons_zero, List.getElem?_cons_succ]; rfl) (by kernel_rfl) (by kernel_rfl) (by kernel_rfl) (Or.inl ⟨by rfl, ?dy7⟩) ?dr7
            case dy7 => (intro w hSw; have hS0 := hSw; (try dsimp only [EChS] at hSw); go_simp; refine Came.value ?_ hS0; with_reducible rfl)
            try simp only [Act.put, List.setIfInBounds_toArray, List.set_cons_zero, List.set_cons_succ]
            refine wpDet_take (i := 7) (oi := _) (v := ?dv8) (by simp only [List.getElem?_toArray, List.getElem?_cons_zero, List.getElem?_cons_succ]; rfl) (by kernel_rfl) (by kernel_rfl) (by kernel_rfl) (Or.inl ⟨by rfl, ?dy8⟩) ?dr8
            case dy8 => (intro w hSw; have hS0 := hSw; (try dsimp only [EChS] at hSw); go_simp; refine Came.value ?_ hS0; with_reducible rfl)
            try simp only [Act.put, List.setIfInBounds_toArray, List.set_cons_zero, List.set_cons_succ]
            refine wpDet_take (i := 8) (oi := _) (v := ?dv9) (by simp only [List.getElem?_toArray, List.getElem?_cons_zero, List.getElem?_cons_succ]; rfl) (by kernel_rfl) (by kernel_rfl) (by kernel_rfl) (Or.inl ⟨by rfl, ?dy9⟩) ?dr9
            case dy9 => (intro w hSw; go_simp; exact Came.call ((HV.out w).mono fun e w' ⟨he, hf⟩ => ⟨he, keep hSw hf⟩) (by with_reducible rfl))
            try simp only [Act.put, List.setIfInBounds_toArray, List.set_cons_zero, List.set_cons_succ]
            refine wpDet_take (i := 9) (oi := _) (v := ?dv10) (by simp only [List.getElem?_toArray, List.getElem?_cons_zero, List.getElem?_cons_succ]; rfl) (by kernel_rfl) (by kernel_rfl) (by kernel_rfl) (Or.inl ⟨by rfl, ?dy10⟩) ?dr10
            case dy10 => (intro w hSw; have hS0 := hSw; (try dsimp only [EChS] at hSw); go_simp; refine Came.value ?_ hS0; with_reducible rfl)
            try simp only [Act.put, List.setIfInBounds_toArray, List.set_cons_zero, List.set_cons_succ]
            refine wpDet_take (i := 10) (oi := _) (v := ?dv11) (by simp only [List.getElem?_toArray, List.getElem?_cons_zero, List.getElem?_cons_succ]; rfl) (by kernel_rfl) (by kernel_rfl) (by kernel_rfl) (Or.inl ⟨by rfl, ?dy11⟩) ?dr11
            case dy11 => (intro w hSw; have hS0 := hSw; (try dsimp only [EChS] at hSw); go_simp; refine Came.value ?_ hS0; with_reducible rfl)
            try simp only [Act.put, List.setIfInBounds_toArray, List.set_cons_zero, List.set_cons_succ]
            refine wpDet_take (i := 11) (oi := _) (v := ?dv12) (by simp only [List.getElem?_toArray, List.getElem?_cons_zero, List.getElem?_cons_succ]; rfl) (by kernel_rfl) (by kernel_rfl) (by kernel_rfl) (Or.inl ⟨by rfl, ?dy12⟩) ?dr12
            case dy12 => (intro w hSw; have hS0 := hSw; (try dsimp only [EChS] at hSw); go_simp; refine Came.value ?_ hS0; with_reducible rfl)
            try simp only [Act.put, List.setIfInBounds_toArray, List.set_cons_zero, List.set_cons_succ]
            refine wpDet_take (i := 12) (oi := _) (v := ?dv13) (by simp only [List.getElem?_toArray, List.getElem?_cons_zero, List.getElem?_cons_succ]; rfl) (by kernel_rfl) (by kernel_rfl) (by kernel_rfl) (Or.inl ⟨by rfl, ?dy13⟩) ?dr13
            case dy13 => (intro w hSw; have hS0 := hSw; (try dsimp only [EChS] at hSw); go_simp; refine Came.value ?_ hS0; with_reducible rfl)
            try simp only [Act.put, List.setIfInBounds_toArray, List.set_cons_zero, List.set_cons_succ]
            refine wpDet_take (i := 13) (oi := _) (v := ?dv14) (by simp only [List.getElem?_toArray, List.getElem?_cons_zero, List.getElem?_cons_succ]; rfl) (by kernel_rfl) (by kernel_rfl) (by kernel_rfl) (Or.inl ⟨by rfl, ?dy14⟩) ?dr14
            case dy14 => (intro w hSw; go_simp; exact Came.call ((HNO.out w).mono fun e w' ⟨he, hf⟩ => ⟨he, keep hSw hf⟩) (by with_reducible rfl))
            try simp only [Act.put, List.setIfInBounds_toArray, List.set_cons_zero, List.set_cons_succ]
            refine wpDet_take (i := 14) (oi := _) (v := ?dv15) (by simp only [List.getElem?_toArray, List.getElem?_cons_zero, List.getElem?_cons_succ]; rfl) (by kernel_rfl) (by kernel_rfl) (by kernel_rfl) (Or.inl ⟨by rfl, ?dy15⟩) ?dr15
            case dy15 => (intro w hSw; have hS0 := hSw; (try dsimp only [EChS] at hSw); go_simp; refine Came.value ?_ hS0; with_reducible rfl)
            try simp only [Act.put, List.setIfInBounds_toArray, List.set_cons_zero, List.set_cons_succ]
            refine wpDet_take (i := 15) (oi := _) (v := ?dv16) (by simp only [List.getElem?_toArray, List.getElem?_cons_zero, List.getElem?_cons_succ]; rfl) (by kernel_rfl) (by kernel_rfl) (by kernel_rfl) (Or.inl ⟨by rfl, ?dy16⟩) ?dr16
            case dy16 => (intro w hSw; have hS0 := hSw; (try dsimp only [EChS] at hSw); go_simp; refine Came.value ?_ hS0; with_reducible rfl)
            try simp only [Act.put, List.setIfInBounds_toArray, List.set_cons_zero, List.set_cons_succ]
            refine wpDet_take (i := 16) (oi := _) (v := ?dv17) (by simp only [List.getElem?_toArray, List.getElem?_cons_zero, List.getElem?_cons_succ]; rfl) (by kernel_rfl) (by kernel_rfl) (by kernel_rfl) (Or.inl ⟨by rfl, ?dy17⟩) ?dr17
            case dy17 => (intro w hSw; have hS0 := hSw; (try dsimp only [EChS] at hSw); go_simp; refine Came.value ?_ hS0; with_reducible rfl)
            try simp only [Act.put, List.setIfInBounds_toArray, List.set_cons_zero, List.set_cons_succ]
            refine wpDet_take (i := 17) (oi := _) (v := ?dv18) (by simp only [List.getElem?_toArray, List.getElem?_cons_zero, List.getElem?_cons_succ]; rfl) (by kernel_rfl) (by kernel_rfl) (by kernel_rfl) (Or.inl ⟨by rfl, ?dy18⟩) ?dr18
            case dy18 => (intro w hSw; go_simp; exact Came.call ((HTE.out w (HT.out.fr (HF.out.trans hSw.1))).mono fun e w' ⟨he, hf⟩ => ⟨he, keep hSw hf⟩) (by with_reducible rfl))
            try simp only [Act.put, List.setIfInBounds_toArray, List.set_cons_zero, List.set_cons_succ]
            refine wpDet_take (i := 18) (oi := _) (v := ?dv19) (by simp only [List.getElem?_toArray, List.getElem?_cons_zero, List.getElem?_cons_succ]; rfl) (by kernel_rfl) (by kernel_rfl) (by kernel_rfl) (Or.inl ⟨by rfl, ?dy19⟩) ?dr19
            case dy19 => (intro w hSw; have hS0 := hSw; (try dsimp only [EChS] at hSw); go_simp; refine Came.value ?_ hS0; with_reducible rfl)
            try simp only [Act.put, List.setIfInBounds_toArray, List.set_cons_zero, List.set_cons_succ]
            refine wpDet_take (i := 19) (oi := _) (v := ?dv20) (by simp only [List.getElem?_toArray, List.getElem?_cons_zero, List.getElem?_cons_succ]; rfl) (by kernel_rfl) (by kernel_rfl) (by kernel_rfl) (Or.inl ⟨by rfl, ?dy20⟩) ?dr20
            case dy20 => (intro w hSw; go_simp; exact Came.call ((HTG.out w (HT.out.fr (HF.out.trans hSw.1))).mono fun e w' ⟨he, hf⟩ => ⟨he, keep hSw hf⟩) (by with_reducible rfl))
            try simp only [Act.put, List.setIfInBounds_toArray, List.set_cons_zero, List.set_cons_succ]
            refine wpDet_take (i := 20) (oi := _) (v := ?dv21) (by simp only [List.getElem?_toArray, List.getElem?_cons_zero, List.getElem?_cons_succ]; rfl) (by kernel_rfl) (by kernel_rfl) (by kernel_rfl) (Or.inl ⟨by rfl, ?dy21⟩) ?dr21
            case dy21 => (intro w hSw; have hS0 := hSw; (try dsimp only [EChS] at hSw); go_simp; refine Came.value ?_ hS0; with_reducible rfl)
            try simp only [Act.put, List.setIfInBounds_toArray, List.set_cons_zero, List.set_cons_succ]
            refine wpDet_take (i := 21) (oi := _) (v := ?dv22) (by simp only [List.getElem?_toArray, List.getElem?_cons_zero, List.getElem?_cons_succ]; rfl) (by kernel_rfl) (by kernel_rfl) (by kernel_rfl) (Or.inl ⟨by rfl, ?dy22⟩) ?dr22
            case dy22 => (intro w hSw; have hS0 := hSw; (try dsimp only [EChS] at hSw); go_simp; refine Came.value ?_ hS0; with_reducible rfl)
            try simp only [Act.put, List.setIfInBounds_toArray, List.set_cons_zero, List.set_cons_succ]
            refine wpDet_take (i := 22) (oi := _) (v := ?dv23) (by simp only [List.getElem?_toArray, List.getElem?_cons_zero, List.getElem?_cons_succ]; rfl) (by kernel_rfl) (by kernel_rfl) (by kernel_rfl) (Or.inl ⟨by rfl, ?dy23⟩) ?dr23
            case dy23 => (intro w hSw; have hS0 := hSw; (try dsimp only [EChS] at hSw); go_simp; refine Came.value ?_ hS0; with_reducible rfl)
            try simp only [Act.put, List.setIfInBounds_toArray, List.set_cons_zero, List.set_cons_succ]
            refine wpDet_take (i := 23) (oi := _) (v := ?dv24) (by simp only [List.getElem?_toArray, List.getElem?_cons_zero, List.getElem?_cons_succ]; rfl) (by kernel_rfl) (by kernel_rfl) (by kernel_rfl) (Or.inl ⟨by rfl, ?dy24⟩) ?dr24
            case dy24 => (intro w hSw; have hS0 := hSw; (try dsimp only [EChS] at hSw); go_simp; refine Came.value ?_ hS0; with_reducible rfl)
            try simp only [Act.put, List.setIfInBounds_toArray, List.set_cons_zero, List.set_cons_succ]
            refine wpDet_take (i := 24) (oi := _) (v := ?dv25) (by simp only [List.getElem?_toArray, List.getElem?_cons_zero, List.getElem?_cons_succ]; rfl) (by kernel_rfl) (by kernel_rfl) (by kernel_rfl) (Or.inl ⟨by rfl, ?dy25⟩) ?dr25
            case dy25 => (intro w hSw; have hS0 := hSw; (try dsimp only [EChS] at hSw); go_simp; refine Came.value ?_ hS0; with_reducible rfl)
            try simp only [Act.put, List.setIfInBounds_toArray, List.set_cons_zero, List.set_cons_succ]
            refine wpDet_take (i := 25) (oi := _) (v := ?dv26) (by simp only [List.getElem?_toArray, List.getElem?_cons_zero, List.getElem?_cons_succ]; rfl) (by kernel_rfl) (by kernel_rfl) (by kernel_rfl) (Or.inl ⟨by rfl, ?dy26⟩) ?dr26
            case dy26 => (intro w hSw; go_simp; exact Came.call ((HLE.out w).mono fun e w' ⟨he, hf⟩ => ⟨he, keep hSw hf⟩) (by with_reducible rfl))
            try simp only [Act.put, List.setIfInBounds_toArray, List.set_cons_zero, List.set_cons_succ]
            refine wpDet_take (i := 26) (oi := _) (v := ?dv27) (by simp only [List.getElem?_toArray, List.getElem?_cons_zero, List.getElem?_cons_succ]; rfl) (by kernel_rfl) (by kernel_rfl) (by kernel_rfl) (Or.inl ⟨by rfl, ?dy27⟩) ?dr27
            case dy27 => (intro w hSw; have hS0 := hSw; (try dsimp only [EChS] at hSw); go_simp; refine Came.value ?_ hS0; with_reducible rfl)
            try simp only [Act.put, List.setIfInBounds_toArray, List.set_cons_zero, List.set_cons_succ]
            refine wpDet_take (i := 27) (oi := _) (v := ?dv28) (by simp only [List.getElem?_toArray, List.getElem?_cons_zero, List.getElem?_cons_succ]; rfl) (by kernel_rfl) (by kernel_rfl) (by kernel_rfl) (Or.inl ⟨by rfl, ?dy28⟩) ?dr28
            case dy28 => (intro w hSw; have hS0 := hSw; (try dsimp only [EChS] at hSw); go_simp; refine Came.value ?_ hS0; with_reducible rfl)
            try simp only [Act.put, List.setIfInBounds_toArray, List.set_cons_zero, List.set_cons_succ]
            refine wpDet_take (i := 28) (oi := _) (v := undef) (by simp only [List.getElem?_toArray, List.getElem?_cons_zero, List.getElem?_cons_succ]; rfl) (by kernel_rfl) (by kernel_rfl) (by kernel_rfl) (Or.inr ⟨by rfl, rfl⟩) ?_
            try simp only [Act.put, List.setIfInBounds_toArray, List.set_cons_zero, List.set_cons_succ]
            refine wpDet_take (i := 29) (oi := _) (v := undef) (by simp only [List.getElem?_toArray, List.getElem?_cons_zero, List.getElem?_cons_succ]; rfl) (by kernel_rfl) (by kernel_rfl) (by kernel_rfl) (Or.inr ⟨by rfl, rfl⟩) ?_
            try simp only [Act.put, List.setIfInBounds_toArray, List.set_cons_zero, List.set_cons_succ]
            refine wpDet_take (i := 30) (oi := _) (v := undef) (by simp only [List.getElem?_toArray, List.getElem?_cons_zero, List.getElem?_cons_succ]; rfl) (by kernel_rfl) (by kernel_rfl) (by kernel_rfl) (Or.inr ⟨by rfl, rfl⟩) ?_
            try simp only [Act.put, List.setIfInBounds_toArray, List.set_cons_zero, List.set_cons_succ]
            refine wpDet_take (i := 31) (oi := _) (v := undef) (by simp only [List.getElem?_toArray, List.getElem?_cons_zero, List.getElem?_cons_succ]; rfl) (by kernel_rfl) (by kernel_rfl) (by kernel_rfl) (Or.inr ⟨by rfl, rfl⟩) ?_
            try simp only [Act.put, List.setIfInBounds_toArray, List.set_cons_zero, List.set_cons_succ]
            refine wpDet_take (i := 32) (oi := _) (v := ?dv33) (by simp only [List.getElem?_toArray, List.getElem?_cons_zero, List.getElem?_cons_succ]; rfl) (by kernel_rfl) (by kernel_rfl) (by kernel_rfl) (Or.inl ⟨by rfl, ?dy33⟩) ?dr33
            case dy33 => (intro w hSw; have hS0 := hSw; (try dsimp only [EChS] at hSw); go_simp; refine Came.value ?_ hS0; with_reducible rfl)
            try simp only [Act.put, List.setIfInBounds_toArray, List.set_cons_zero, List.set_cons_succ]
            refine wpDet_take (i := 33) (oi := _) (v := ?dv34) (by simp only [List.getElem?_toArray, List.getElem?_cons_zero, List.getElem?_cons_succ]; rfl) (by kernel_rfl) (by kernel_rfl) (by kernel_rfl) (Or.inl ⟨by rfl, ?dy34⟩) ?dr34
            case dy34 => (intro w hSw; have hS0 := hSw; (try dsimp only [EChS] at hSw); go_simp; refine Came.value ?_ hS0; with_reducible rfl)
            try simp only [Act.put, List.setIfInBounds_toArray, List.set_cons_zero, List.set_cons_succ]
            refine wpDet_done (by kernel_rfl) ?_ _
            rintro wx hS
            go_wp2_with fail
            go_meet
            exact ⟨rfl, hS⟩
          · rw [h1] at HLE
            rw [h2] at HLG
            clear h1 h2
            refine wp_region_det (S := EChS wr w3.heap.size w4.heap.size ((k : Int) + 1) f ((k : Int) + 1) g) (by kernel_rfl) (keep HS5.out (Fr.drew _ _)) ?_
            refine wpDet_take (i := 0) (oi := _) (v := ?dv35) (by simp only [List.getElem?_toArray, List.getElem?_cons_zero]; rfl) (by kernel_rfl) (by kernel_rfl) (by kernel_rfl) (Or.inl ⟨by rfl, ?dy35⟩) ?dr35
            case dy35 => (intro w hSw; have hS0 := hSw; (try dsimp only [EChS] at hSw); go_simp; refine Came.value ?_ hS0; with_reducible rfl)
            try simp only [Act.put, List.setIfInBounds_toArray, List.set_cons_zero, List.set_cons_succ]
            refine wpDet_take (i := 1) (oi := _) (v := ?dv36) (by simp only [List.getElem?_toArray, List.getElem?_cons_zero, List.getElem?_cons_succ]; rfl) (by kernel_rfl) (by kernel_rfl) (by kernel_rfl) (Or.inl ⟨by rfl, ?dy36⟩) ?dr36
            case dy36 => (intro w hSw; have hS0 := hSw; (try dsimp only [EChS] at hSw); go_simp; refine Came.value ?_ hS0; with_reducible rfl)
            try simp only [Act.put, List.setIfInBounds_toArray, List.set_cons_zero, List.set_cons_succ]
            refine wpDet_take (i := 2) (oi := _) (v := ?dv37) (by simp only [List.getElem?_toArray, List.getElem?_cons_zero, List.getElem?_cons_succ]; rfl) (by kernel_rfl) (by kernel_rfl) (by kernel_rfl) (Or.inl ⟨by rfl, ?dy37⟩) ?dr37
            case dy37 => (intro w hSw; have hS0 := hSw; (try dsimp only [EChS] at hSw); go_simp; refine Came.value ?_ hS0; with_reducible rfl)
            try simp only [Act.put, List.setIfInBounds_toArray, List.set_cons_zero, List.set_cons_succ]
            refine wpDet_take (i := 3) (oi := _) (v := ?dv38) (by simp only [List.getElem?_toArray, List.getElem?_cons_zero, List.getElem?_cons_succ]; rfl) (by kernel_rfl) (by kernel_rfl) (by kernel_rfl) (Or.inl ⟨by rfl, ?dy38⟩) ?dr38
            case dy38 => (intro w hSw; have hS0 := hSw; (try dsimp only [EChS] at hSw); go_simp; refine Came.value ?_ hS0; with_reducible rfl)
            try simp only [Act.put, List.setIfInBounds_toArray, List.set_cons_zero, List.set_cons_succ]
            refine wpDet_take (i := 4) (oi := _) (v := ?dv39) (by simp only [List.getElem?_toArray, List.getElem?_cons_zero, List.getElem?_cons_succ]; rfl) (by kernel_rfl) (by kernel_rfl) (by kernel_rfl) (Or.inl ⟨by rfl, ?dy39⟩) ?dr39
            case dy39 => (intro w hSw; have hS0 := hSw; (try dsimp only [EChS] at hSw); go_simp; refine Came.value ?_ hS0; with_reducible rfl)
            try simp only [Act.put, List.setIfInBounds_toArray, List.set_cons_zero, List.set_cons_succ]
            refine wpDet_take (i := 5) (oi := _) (v := ?dv40) (by simp only [List.getElem?_toArray, List.getElem?_cons_zero, List.getElem?_cons_succ]; rfl) (by kernel_rfl) (by kernel_rfl) (by kernel_rfl) (Or.inl ⟨by rfl, ?dy40⟩) ?dr40
            case dy40 => (intro w hSw; have hS0 := hSw; (try dsimp only [EChS] at hSw); go_simp; refine Came.value ?_ hS0; with_reducible rfl)
            try simp only [Act.put, List.setIfInBounds_toArray, List.set_cons_zero, List.set_cons_succ]
            refine wpDet_take (i := 6) (oi := _) (v := ?dv41) (by simp only [List.getElem?_toArray, List.getElem?_cons_zero, List.getElem?_cons_succ]; rfl) (by kernel_rfl) (by kernel_rfl) (by kernel_rfl) (Or.inl ⟨by rfl, ?dy41⟩) ?dr41
            case dy41 => (intro w hSw; have hS0 := hSw; (try dsimp only [EChS] at hSw); go_simp; refine Came.value ?_ hS0; with_reducible rfl)
            try simp only [Act.put, List.setIfInBounds_toArray, List.set_cons_zero, List.set_cons_succ]
            refine wpDet_take (i := 7) (oi := _) (v := ?dv42) (by simp only [List.getElem?_toArray, List.getElem?_cons_zero, List.getElem?_cons_succ]; rfl) (by kernel_rfl) (by kernel_rfl) (by kernel_rfl) (Or.inl ⟨by rfl, ?dy42⟩) ?dr42
            case dy42 => (intro w hSw; have hS0 := hSw; (try dsimp only [EChS] at hSw); go_simp; refine Came.value ?_ hS0; with_reducible rfl)
            try simp only [Act.put, List.setIfInBounds_toArray, List.set_cons_zero, List.set_cons_succ]
            refine wpDet_take (i := 8) (oi := _) (v := ?dv43) (by simp only [List.getElem?_toArray, List.getElem?_cons_zero, List.getElem?_cons_succ]; rfl) (by kernel_rfl) (by kernel_rfl) (by kernel_rfl) (Or.inl ⟨by rfl, ?dy43⟩) ?dr43
            case dy43 => (intro w hSw; go_simp; exact Came.call ((HV.out w).mono fun e w' ⟨he, hf⟩ => ⟨he, keep hSw hf⟩) (by with_reducible rfl))
            try simp only [Act.put, List.setIfInBounds_toArray, List.set_cons_zero, List.set_cons_succ]
            refine wpDet_take (i := 9) (oi := _) (v := ?dv44) (by simp only [List.getElem?_toArray, List.getElem?_cons_zero, List.getElem?_cons_succ]; rfl) (by kernel_rfl) (by kernel_rfl) (by kernel_rfl) (Or.inl ⟨by rfl, ?dy44⟩) ?dr44
            case dy44 => (intro w hSw; have hS0 := hSw; (try dsimp only [EChS] at hSw); go_simp; refine Came.value ?_ hS0; with_reducible rfl)
            try simp only [Act.put, List.setIfInBounds_toArray, List.set_cons_zero, List.set_cons_succ]
            refine wpDet_take (i := 10) (oi := _) (v := ?dv45) (by simp only [List.getElem?_toArray, List.getElem?_cons_zero, List.getElem?_cons_succ]; rfl) (by kernel_rfl) (by kernel_rfl) (by kernel_rfl) (Or.inl ⟨by rfl, ?dy45⟩) ?dr45
            case dy45 => (intro w hSw; have hS0 := hSw; (try dsimp only [EChS] at hSw); go_simp; refine Came.value ?_ hS0; with_reducible rfl)
            try simp only [Act.put, List.setIfInBounds_toArray, List.set_cons_zero, List.set_cons_succ]
            refine wpDet_take (i := 11) (oi := _) (v := ?dv46) (by simp only [List.getElem?_toArray, List.getElem?_cons_zero, List.getElem?_cons_succ]; rfl) (by kernel_rfl) (by kernel_rfl) (by kernel_rfl) (Or.inl ⟨by rfl, ?dy46⟩) ?dr46
            case dy46 => (intro w hSw; have hS0 := hSw; (try dsimp only [EChS] at hSw); go_simp; refine Came.value ?_ hS0; with_reducible rfl)
            try simp only [Act.put, List.setIfInBounds_toArray, List.set_cons_zero, List.set_cons_succ]
            refine wpDet_take (i := 12) (oi := _) (v := ?dv47) (by simp only [List.getElem?_toArray, List.getElem?_cons_zero, List.getElem?_cons_succ]; rfl) (by kernel_rfl) (by kernel_rfl) (by kernel_rfl) (Or.inl ⟨by rfl, ?dy47⟩) ?dr47
            case dy47 => (intro w hSw; have hS0 := hSw; (try dsimp only [EChS] at hSw); go_simp; refine Came.value ?_ hS0; with_reducible rfl)
            try simp only [Act.put, List.setIfInBounds_toArray, List.set_cons_zero, List.set_cons_succ]
            refine wpDet_take (i := 13) (oi := _) (v := ?dv48) (by simp only [List.getElem?_toArray, List.getElem?_cons_zero, List.getElem?_cons_succ]; rfl) (by kernel_rfl) (by kernel_rfl) (by kernel_rfl) (Or.inl ⟨by rfl, ?dy48⟩) ?dr48
            case dy48 => (intro w hSw; go_simp; exact Came.call ((HNO.out w).mono fun e w' ⟨he, hf⟩ => ⟨he, keep hSw hf⟩) (by with_reducible rfl))
            try simp only [Act.put, List.setIfInBounds_toArray, List.set_cons_zero, List.set_cons_succ]
            refine wpDet_take (i := 14) (oi := _) (v := ?dv49) (by simp only [List.getElem?_toArray, List.getElem?_cons_zero, List.getElem?_cons_succ]; rfl) (by kernel_rfl) (by kernel_rfl) (by kernel_rfl) (Or.inl ⟨by rfl, ?dy49⟩) ?dr49
            case dy49 => (intro w hSw; have hS0 := hSw; (try dsimp only [EChS] at hSw); go_simp; refine Came.value ?_ hS0; with_reducible rfl)
            try simp only [Act.put, List.setIfInBounds_toArray, List.set_cons_zero, List.set_cons_succ]
            refine wpDet_take (i := 15) (oi := _) (v := ?dv50) (by simp only [List.getElem?_toArray, List.getElem?_cons_zero, List.getElem?_cons_succ]; rfl) (by kernel_rfl) (by kernel_rfl) (by kernel_rfl) (Or.inl ⟨by rfl, ?dy50⟩) ?dr50
            case dy50 => (intro w hSw; have hS0 := hSw; (try dsimp only [EChS] at hSw); go_simp; refine Came.value ?_ hS0; with_reducible rfl)
            try simp only [Act.put, List.setIfInBounds_toArray, List.set_cons_zero, List.set_cons_succ]
            refine wpDet_take (i := 16) (oi := _) (v := ?dv51) (by simp only [List.getElem?_toArray, List.getElem?_cons_zero, List.getElem?_cons_succ]; rfl) (by kernel_rfl) (by kernel_rfl) (by kernel_rfl) (Or.inl ⟨by rfl, ?dy51⟩) ?dr51
            case dy51 => (intro w hSw; have hS0 := hSw; (try dsimp only [EChS] at hSw); go_simp; refine Came.value ?_ hS0; with_reducible rfl)
            try simp only [Act.put, List.setIfInBounds_toArray, List.set_cons_zero, List.set_cons_succ]
            refine wpDet_take (i := 17) (oi := _) (v := ?dv52) (by simp only [List.getElem?_toArray, List.getElem?_cons_zero, List.getElem?_cons_succ]; rfl) (by kernel_rfl) (by kernel_rfl) (by kernel_rfl) (Or.inl ⟨by rfl, ?dy52⟩) ?dr52
            case dy52 => (intro w hSw; go_simp; exact Came.call ((HTE.out w (HT.out.fr (HF.out.trans hSw.1))).mono fun e w' ⟨he, hf⟩ => ⟨he, keep hSw hf⟩) (by with_reducible rfl))
            try simp only [Act.put, List.setIfInBounds_toArray, List.set_cons_zero, List.set_cons_succ]
            refine wpDet_take (i := 18) (oi := _) (v := ?dv53) (by simp only [List.getElem?_toArray, List.getElem?_cons_zero, List.getElem?_cons_succ]; rfl) (by kernel_rfl) (by kernel_rfl) (by kernel_rfl) (Or.inl ⟨by rfl, ?dy53⟩) ?dr53
            case dy53 => (intro w hSw; have hS0 := hSw; (try dsimp only [EChS] at hSw); go_simp; refine Came.value ?_ hS0; with_reducible rfl)
            try simp only [Act.put, List.setIfInBounds_toArray, List.set_cons_zero, List.set_cons_succ]
            refine wpDet_take (i := 19) (oi := _) (v := ?dv54) (by simp only [List.getElem?_toArray, List.getElem?_cons_zero, List.getElem?_cons_succ]; rfl) (by kernel_rfl) (by kernel_rfl) (by kernel_rfl) (Or.inl ⟨by rfl, ?dy54⟩) ?dr54
            case dy54 => (intro w hSw; go_simp; exact Came.call ((HTG.out w (HT.out.fr (HF.out.trans hSw.1))).mono fun e w' ⟨he, hf⟩ => ⟨he, keep hSw hf⟩) (by with_reducible rfl))
            try simp only [Act.put, List.setIfInBounds_toArray, List.set_cons_zero, List.set_cons_succ]
            refine wpDet_take (i := 20) (oi := _) (v := ?dv55) (by simp only [List.getElem?_toArray, List.getElem?_cons_zero, List.getElem?_cons_succ]; rfl) (by kernel_rfl) (by kernel_rfl) (by kernel_rfl) (Or.inl ⟨by rfl, ?dy55⟩) ?dr55
            case dy55 => (intro w hSw; have hS0 := hSw; (try dsimp only [EChS] at hSw); go_simp; refine Came.value ?_ hS0; with_reducible rfl)
            try simp only [Act.put, List.setIfInBounds_toArray, List.set_cons_zero, List.set_cons_succ]
            refine wpDet_take (i := 21) (oi := _) (v := ?dv56) (by simp only [List.getElem?_toArray, List.getElem?_cons_zero, List.getElem?_cons_succ]; rfl) (by kernel_rfl) (by kernel_rfl) (by kernel_rfl) (Or.inl ⟨by rfl, ?dy56⟩) ?dr56
            case dy56 => (intro w hSw; have hS0 := hSw; (try dsimp only [EChS] at hSw); go_simp; refine Came.value ?_ hS0; with_reducible rfl)
            try simp only [Act.put, List.setIfInBounds_toArray, List.set_cons_zero, List.set_cons_succ]
            refine wpDet_take (i := 22) (oi := _) (v := ?dv57) (by simp only [List.getElem?_toArray, List.getElem?_cons_zero, List.getElem?_cons_succ]; rfl) (by kernel_rfl) (by kernel_rfl) (by kernel_rfl) (Or.inl ⟨by rfl, ?dy57⟩) ?dr57
            case dy57 => (intro w hSw; have hS0 := hSw; (try dsimp only [EChS] at hSw); go_simp; refine Came.value ?_ hS0; with_reducible rfl)
            try simp only [Act.put, List.setIfInBounds_toArray, List.set_cons_zero, List.set_cons_succ]
            refine wpDet_take (i := 23) (oi := _) (v := ?dv58) (by simp only [List.getElem?_toArray, List.getElem?_cons_zero, List.getElem?_cons_succ]; rfl) (by kernel_rfl) (by kernel_rfl) (by kernel_rfl) (Or.inl ⟨by rfl, ?dy58⟩) ?dr58
            case dy58 => (intro w hSw; have hS0 := hSw; (try dsimp only [EChS] at hSw); go_simp; refine Came.value ?_ hS0; with_reducible rfl)
            try simp only [Act.put, List.setIfInBounds_toArray, List.set_cons_zero, List.set_cons_succ]
            refine wpDet_take (i := 24) (oi := _) (v := ?dv59) (by simp only [List.getElem?_toArray, List.getElem?_cons_zero, List.getElem?_cons_succ]; rfl) (by kernel_rfl) (by kernel_rfl) (by kernel_rfl) (Or.inl ⟨by rfl, ?dy59⟩) ?dr59
            case dy59 => (intro w hSw; have hS0 := hSw; (try dsimp only [EChS] at hSw); go_simp; refine Came.value ?_ hS0; with_reducible rfl)
            try simp only [Act.put, List.setIfInBounds_toArray, List.set_cons_zero, List.set_cons_succ]
            refine wpDet_take (i := 25) (oi := _) (v := ?dv60) (by simp only [List.getElem?_toArray, List.getElem?_cons_zero, List.getElem?_cons_succ]; rfl) (by kernel_rfl) (by kernel_rfl) (by kernel_rfl) (Or.inl ⟨by rfl, ?dy60⟩) ?dr60
            case dy60 => (intro w hSw; go_simp; exact Came.call ((HLE.out w).mono fun e w' ⟨he, hf⟩ => ⟨he, keep hSw hf⟩) (by with_reducible rfl))
            try simp only [Act.put, List.setIfInBounds_toArray, List.set_cons_zero, List.set_cons_succ]
            refine wpDet_take (i := 26) (oi := _) (v := ?dv61) (by simp only [List.getElem?_toArray, List.getElem?_cons_zero, List.getElem?_cons_succ]; rfl) (by kernel_rfl) (by kernel_rfl) (by kernel_rfl) (Or.inl ⟨by rfl, ?dy61⟩) ?dr61
            case dy61 => (intro w hSw; have hS0 := hSw; (try dsimp only [EChS] at hSw); go_simp; refine Came.value ?_ hS0; with_reducible rfl)
            try simp only [Act.put, List.setIfInBounds_toArray, List.set_cons_zero, List.set_cons_succ]
            refine wpDet_take (i := 27) (oi := _) (v := ?dv62) (by simp only [List.getElem?_toArray, List.getElem?_cons_zero, List.getElem?_cons_succ]; rfl) (by kernel_rfl) (by kernel_rfl) (by kernel_rfl) (Or.inl ⟨by rfl, ?dy62⟩) ?dr62
            case dy62 => (intro w hSw; have hS0 := hSw; (try dsimp only [EChS] at hSw); go_simp; refine Came.value ?_ hS0; with_reducible rfl)
            try simp only [Act.put, List.setIfInBounds_toArray, List.set_cons_zero, List.set_cons_succ]
            refine wpDet_take (i := 28) (oi := _) (v := ?dv63) (by simp only [List.getElem?_toArray, List.getElem?_cons_zero, List.getElem?_cons_succ]; rfl) (by kernel_rfl) (by kernel_rfl) (by kernel_rfl) (Or.inl ⟨by rfl, ?dy63⟩) ?dr63
            case dy63 => (intro w hSw; have hS0 := hSw; (try dsimp only [EChS] at hSw); go_simp; refine Came.value ?_ hS0; with_reducible rfl)
            try simp only [Act.put, List.setIfInBounds_toArray, List.set_cons_zero, List.set_cons_succ]
            refine wpDet_take (i := 29) (oi := _) (v := ?dv64) (by simp only [List.getElem?_toArray, List.getElem?_cons_zero, List.getElem?_cons_succ]; rfl) (by kernel_rfl) (by kernel_rfl) (by kernel_rfl) (Or.inl ⟨by rfl, ?dy64⟩) ?dr64
            case dy64 => (intro w hSw; have hS0 := hSw; (try dsimp only [EChS] at hSw); go_simp; refine Came.value ?_ hS0; with_reducible rfl)
            try simp only [Act.put, List.setIfInBounds_toArray, List.set_cons_zero, List.set_cons_succ]
            refine wpDet_take (i := 30) (oi := _) (v := ?dv65) (by simp only [List.getElem?_toArray, List.getElem?_cons_zero, List.getElem?_cons_succ]; rfl) (by kernel_rfl) (by kernel_rfl) (by kernel_rfl) (Or.inl ⟨by rfl, ?dy65⟩) ?dr65
            case dy65 => (intro w hSw; go_simp; exact Came.call ((HLG.out w).mono fun e w' ⟨he, hf⟩ => ⟨he, keep hSw hf⟩) (by with_reducible rfl))
            try simp only [Act.put, List.setIfInBounds_toArray, List.set_cons_zero, List.set_cons_succ]
            refine wpDet_take (i := 31) (oi := _) (v := ?dv66) (by simp only [List.getElem?_toArray, List.getElem?_cons_zero, List.getElem?_cons_succ]; rfl) (by kernel_rfl) (by kernel_rfl) (by kernel_rfl) (Or.inl ⟨by rfl, ?dy66⟩) ?dr66
            case dy66 => (intro w hSw; have hS0 := hSw; (try dsimp only [EChS] at hSw); go_simp; refine Came.value ?_ hS0; with_reducible rfl)
            try simp only [Act.put, List.setIfInBounds_toArray, List.set_cons_zero, List.set_cons_succ]
            refine wpDet_take (i := 32) (oi := _) (v := ?dv67) (by simp only [List.getElem?_toArray, List.getElem?_cons_zero, List.getElem?_cons_succ]; rfl) (by kernel_rfl) (by kernel_rfl) (by kernel_rfl) (Or.inl ⟨by rfl, ?dy67⟩) ?dr67
            case dy67 => (intro w hSw; have hS0 := hSw; (try dsimp only [EChS] at hSw); go_simp; refine Came.value ?_ hS0; with_reducible rfl)
            try simp only [Act.put, List.setIfInBounds_toArray, List.set_cons_zero, List.set_cons_succ]
            refine wpDet_take (i := 33) (oi := _) (v := ?dv68) (by simp only [List.getElem?_toArray, List.getElem?_cons_zero, List.getElem?_cons_succ]; rfl) (by kernel_rfl) (by kernel_rfl) (by kernel_rfl) (Or.inl ⟨by rfl, ?dy68⟩) ?dr68
            case dy68 => (intro w hSw; have hS0 := hSw; (try dsimp only [EChS] at hSw); go_simp; refine Came.value ?_ hS0; with_reducible rfl)
            try simp only [Act.put, List.setIfInBounds_toArray, List.set_cons_zero, List.set_cons_succ]
            refine wpDet_done (by kernel_rfl) ?_ _
            rintro wx hS
            go_wp2_with fail
            go_meet
            exact ⟨rfl, hS⟩
        case rest =>
        obtain ⟨rfl, hS⟩ := hcut
        have HS := Lib.hid hS
        clear hS
        go_wp2_with fail
        go_loopw [12] (fun m wi => ∃ j : Nat, j ≤ k ∧ m = .int .i64 (j : Int) ∧ EChS wr w3.heap.size w4.heap.size ((k : Int) + 1) f ((k : Int) + 1) g wi) (fun m _ => k - (intOf m).toNat)
        case atStart => exact ⟨0, Nat.zero_le _, rfl, HS.out⟩
        case round =>
          obtain ⟨j, hj, rfl, hS⟩ := hrel
          have HSI := Lib.hid hS
          clear hS HS
          by_cases hjk : j < k
          · obtain ⟨gb, cb, hform⟩ := Joins.ownsRow_form HO.out (by omega)
            simp only [Value.slice.injEq, true_and] at hform
            obtain ⟨rfl, rfl⟩ := hform
            have hfr := HSI.out.1
            obtain ⟨q1, q2⟩ := chain_get 0 F j (by have := HK.out; omega)
            have r1 := hfr.cell ((HO.out.cellAt (j * 2) (by omega)).trans q1) (by simp)
            have r2 := hfr.cell ((HO.out.cellAt (j * 2 + 1) (by omega)).trans q2) (by simp)
            have hd16 : F.getD j 0 < 16 := H16.out _ (by have := HK.out; simp [List.getD, show j < F.length by omega])
            rw [Nat.zero_add] at r1
            obtain ⟨d, hd⟩ : ∃ d, d = F.getD j 0 := ⟨_, rfl⟩
            rw [← hd] at r2 hd16
            obtain ⟨⟨c1, c2⟩, -⟩ := HSI.out.2
            have HFI := Lib.hid (HF.out.trans hfr)
            clear q1 q2 hd hfr
            go_upto_region 19 with fail
            have keep := @EChI.fr wr gb (j * 2) w3.heap.size ((j : Int) + 1) d ((k : Int) + 1) f
            have hsi : EChI wr gb (j * 2) w3.heap.size ((j : Int) + 1) d ((k : Int) + 1) f wr := ⟨Fr.refl _ _, ⟨r1, r2⟩, c1, c2⟩
            have HSI0 := Lib.hid (keep hsi (Fr.drew _ _))
            have hld : lessB ((j : Int) + 1) d ((k : Int) + 1) f = true := by simp only [lessB, decide_eq_true_eq]; omega
            have HLD := Lib.hid (hld ▸ less_any ((j : Int) + 1) d ((k : Int) + 1) f)
            have HTD := Lib.hid (text_any ((j : Int) + 1) d (by omega) (by omega))
            have HTE := Lib.hid (text_any ((k : Int) + 1) f (by omega) (by have := HG.out; omega))
            have hne : ¬ epTxt ((j : Int) + 1) d = epTxt ((k : Int) + 1) f := by
              intro h
              have := (epTxt_inj (c := j + 1) (d := k + 1) (by simpa using h)).1
              omega
            generalize epTxt ((j : Int) + 1) d = td at HTD hne
            generalize epTxt ((k : Int) + 1) f = te at HTE hne
            have hneb := txt_ne hne
            clear hne hld hsi c1 c2 r1 r2 hd16
            refine wp_region_det (S := EChI wr gb (j * 2) w3.heap.size ((j : Int) + 1) d ((k : Int) + 1) f) (by kernel_rfl) HSI0.out ?_
            refine wpDet_take (i := 0) (oi := _) (v := ?dv69) (by simp only [List.getElem?_toArray, List.getElem?_cons_zero]; rfl) (by kernel_rfl) (by kernel_rfl) (by kernel_rfl) (Or.inl ⟨by rfl, ?dy69⟩) ?dr69
            case dy69 => (intro w hSw; have hS0 := hSw; (try dsimp only [EChI] at hSw); go_simp; refine Came.value ?_ hS0; with_reducible rfl)
            try simp only [Act.put, List.setIfInBounds_toArray, List.set_cons_zero, List.set_cons_succ]
            refine wpDet_take (i := 1) (oi := _) (v := ?dv70) (by simp only [List.getElem?_toArray, List.getElem?_cons_zero, List.getElem?_cons_succ]; rfl) (by kernel_rfl) (by kernel_rfl) (by kernel_rfl) (Or.inl ⟨by rfl, ?dy70⟩) ?dr70
            case dy70 => (intro w hSw; have hS0 := hSw; (try dsimp only [EChI] at hSw); go_simp; refine Came.value ?_ hS0; with_reducible rfl)
            try simp only [Act.put, List.setIfInBounds_toArray, List.set_cons_zero, List.set_cons_succ]
            refine wpDet_take (i := 2) (oi := _) (v := ?dv71) (by simp only [List.getElem?_toArray, List.getElem?_cons_zero, List.getElem?_cons_succ]; rfl) (by kernel_rfl) (by kernel_rfl) (by kernel_rfl) (Or.inl ⟨by rfl, ?dy71⟩) ?dr71
            case dy71 => (intro w hSw; have hS0 := hSw; (try dsimp only [EChI] at hSw); go_simp; refine Came.value ?_ hS0; with_reducible rfl)
            try simp only [Act.put, List.setIfInBounds_toArray, List.set_cons_zero, List.set_cons_succ]
            refine wpDet_take (i := 3) (oi := _) (v := ?dv72) (by simp only [List.getElem?_toArray, List.getElem?_cons_zero, List.getElem?_cons_succ]; rfl) (by kernel_rfl) (by kernel_rfl) (by kernel_rfl) (Or.inl ⟨by rfl, ?dy72⟩) ?dr72
            case dy72 => (intro w hSw; have hS0 := hSw; (try dsimp only [EChI] at hSw); go_simp; refine Came.value ?_ hS0; with_reducible rfl)
            try simp only [Act.put, List.setIfInBounds_toArray, List.set_cons_zero, List.set_cons_succ]
            refine wpDet_take (i := 4) (oi := _) (v := ?dv73) (by simp only [List.getElem?_toArray, List.getElem?_cons_zero, List.getElem?_cons_succ]; rfl) (by kernel_rfl) (by kernel_rfl) (by kernel_rfl) (Or.inl ⟨by rfl, ?dy73⟩) ?dr73
            case dy73 => (intro w hSw; have hS0 := hSw; (try dsimp only [EChI] at hSw); go_simp; refine Came.value ?_ hS0; with_reducible rfl)
            try simp only [Act.put, List.setIfInBounds_toArray, List.set_cons_zero, List.set_cons_succ]
            refine wpDet_take (i := 5) (oi := _) (v := ?dv74) (by simp only [List.getElem?_toArray, List.getElem?_cons_zero, List.getElem?_cons_succ]; rfl) (by kernel_rfl) (by kernel_rfl) (by kernel_rfl) (Or.inl ⟨by rfl, ?dy74⟩) ?dr74
            case dy74 => (intro w hSw; go_simp; exact Came.call ((HLD.out w).mono fun e w' ⟨he, hf⟩ => ⟨he, keep hSw hf⟩) (by with_reducible rfl))
            try simp only [Act.put, List.setIfInBounds_toArray, List.set_cons_zero, List.set_cons_succ]
            refine wpDet_take (i := 6) (oi := _) (v := ?dv75) (by simp only [List.getElem?_toArray, List.getElem?_cons_zero, List.getElem?_cons_succ]; rfl) (by kernel_rfl) (by kernel_rfl) (by kernel_rfl) (Or.inl ⟨by rfl, ?dy75⟩) ?dr75
            case dy75 => (intro w hSw; have hS0 := hSw; (try dsimp only [EChI] at hSw); go_simp; refine Came.value ?_ hS0; with_reducible rfl)
            try simp only [Act.put, List.setIfInBounds_toArray, List.set_cons_zero, List.set_cons_succ]
            refine wpDet_take (i := 7) (oi := _) (v := ?dv76) (by simp only [List.getElem?_toArray, List.getElem?_cons_zero, List.getElem?_cons_succ]; rfl) (by kernel_rfl) (by kernel_rfl) (by kernel_rfl) (Or.inl ⟨by rfl, ?dy76⟩) ?dr76
            case dy76 => (intro w hSw; have hS0 := hSw; (try dsimp only [EChI] at hSw); go_simp; refine Came.value ?_ hS0; with_reducible rfl)
            try simp only [Act.put, List.setIfInBounds_toArray, List.set_cons_zero, List.set_cons_succ]
            refine wpDet_take (i := 8) (oi := _) (v := ?dv77) (by simp only [List.getElem?_toArray, List.getElem?_cons_zero, List.getElem?_cons_succ]; rfl) (by kernel_rfl) (by kernel_rfl) (by kernel_rfl) (Or.inl ⟨by rfl, ?dy77⟩) ?dr77
            case dy77 => (intro w hSw; have hS0 := hSw; (try dsimp only [EChI] at hSw); go_simp; refine Came.value ?_ hS0; with_reducible rfl)
            try simp only [Act.put, List.setIfInBounds_toArray, List.set_cons_zero, List.set_cons_succ]
            refine wpDet_take (i := 9) (oi := _) (v := ?dv78) (by simp only [List.getElem?_toArray, List.getElem?_cons_zero, List.getElem?_cons_succ]; rfl) (by kernel_rfl) (by kernel_rfl) (by kernel_rfl) (Or.inl ⟨by rfl, ?dy78⟩) ?dr78
            case dy78 => (intro w hSw; have hS0 := hSw; (try dsimp only [EChI] at hSw); go_simp; refine Came.value ?_ hS0; with_reducible rfl)
            try simp only [Act.put, List.setIfInBounds_toArray, List.set_cons_zero, List.set_cons_succ]
            refine wpDet_take (i := 10) (oi := _) (v := ?dv79) (by simp only [List.getElem?_toArray, List.getElem?_cons_zero, List.getElem?_cons_succ]; rfl) (by kernel_rfl) (by kernel_rfl) (by kernel_rfl) (Or.inl ⟨by rfl, ?dy79⟩) ?dr79
            case dy79 => (intro w hSw; have hS0 := hSw; (try dsimp only [EChI] at hSw); go_simp; refine Came.value ?_ hS0; with_reducible rfl)
            try simp only [Act.put, List.setIfInBounds_toArray, List.set_cons_zero, List.set_cons_succ]
            refine wpDet_take (i := 11) (oi := _) (v := ?dv80) (by simp only [List.getElem?_toArray, List.getElem?_cons_zero, List.getElem?_cons_succ]; rfl) (by kernel_rfl) (by kernel_rfl) (by kernel_rfl) (Or.inl ⟨by rfl, ?dy80⟩) ?dr80
            case dy80 => (intro w hSw; have hS0 := hSw; (try dsimp only [EChI] at hSw); go_simp; refine Came.value ?_ hS0; with_reducible rfl)
            try simp only [Act.put, List.setIfInBounds_toArray, List.set_cons_zero, List.set_cons_succ]
            refine wpDet_take (i := 12) (oi := _) (v := ?dv81) (by simp only [List.getElem?_toArray, List.getElem?_cons_zero, List.getElem?_cons_succ]; rfl) (by kernel_rfl) (by kernel_rfl) (by kernel_rfl) (Or.inl ⟨by rfl, ?dy81⟩) ?dr81
            case dy81 => (intro w hSw; go_simp; exact Came.call ((HTD.out w (HT.out.fr (HFI.out.trans hSw.1))).mono fun e w' ⟨he, hf⟩ => ⟨he, keep hSw hf⟩) (by with_reducible rfl))
            try simp only [Act.put, List.setIfInBounds_toArray, List.set_cons_zero, List.set_cons_succ]
            refine wpDet_take (i := 13) (oi := _) (v := ?dv82) (by simp only [List.getElem?_toArray, List.getElem?_cons_zero, List.getElem?_cons_succ]; rfl) (by kernel_rfl) (by kernel_rfl) (by kernel_rfl) (Or.inl ⟨by rfl, ?dy82⟩) ?dr82
            case dy82 => (intro w hSw; have hS0 := hSw; (try dsimp only [EChI] at hSw); go_simp; refine Came.value ?_ hS0; with_reducible rfl)
            try simp only [Act.put, List.setIfInBounds_toArray, List.set_cons_zero, List.set_cons_succ]
            refine wpDet_take (i := 14) (oi := _) (v := ?dv83) (by simp only [List.getElem?_toArray, List.getElem?_cons_zero, List.getElem?_cons_succ]; rfl) (by kernel_rfl) (by kernel_rfl) (by kernel_rfl) (Or.inl ⟨by rfl, ?dy83⟩) ?dr83
            case dy83 => (intro w hSw; go_simp; exact Came.call ((HTE.out w (HT.out.fr (HFI.out.trans hSw.1))).mono fun e w' ⟨he, hf⟩ => ⟨he, keep hSw hf⟩) (by with_reducible rfl))
            try simp only [Act.put, List.setIfInBounds_toArray, List.set_cons_zero, List.set_cons_succ]
            refine wpDet_take (i := 15) (oi := _) (v := ?dv84) (by simp only [List.getElem?_toArray, List.getElem?_cons_zero, List.getElem?_cons_succ]; rfl) (by kernel_rfl) (by kernel_rfl) (by kernel_rfl) (Or.inl ⟨by rfl, ?dy84⟩) ?dr84
            case dy84 => (intro w hSw; have hS0 := hSw; (try dsimp only [EChI] at hSw); go_simp; refine Came.value ?_ hS0; with_reducible rfl)
            try simp only [Act.put, List.setIfInBounds_toArray, List.set_cons_zero, List.set_cons_succ]
            refine wpDet_take (i := 16) (oi := _) (v := ?dv85) (by simp only [List.getElem?_toArray, List.getElem?_cons_zero, List.getElem?_cons_succ]; rfl) (by kernel_rfl) (by kernel_rfl) (by kernel_rfl) (Or.inl ⟨by rfl, ?dy85⟩) ?dr85
            case dy85 => (intro w hSw; have hS0 := hSw; (try dsimp only [EChI] at hSw); go_simp; refine Came.value ?_ hS0; with_reducible rfl)
            try simp only [Act.put, List.setIfInBounds_toArray, List.set_cons_zero, List.set_cons_succ]
            refine wpDet_done (by kernel_rfl) ?_ _
            rintro wx hS
            have HSX := Lib.hid (HSI.out.fr hS.1)
            clear hS
            go_wp2
            go_roundw
            case rel => exact ⟨j + 1, by omega, by go_num, HSX.out⟩
            case measure => simp [intOf]; omega
          · obtain rfl : j = k := by omega
            have hfr := HSI.out.1
            obtain ⟨⟨c1, c2⟩, -⟩ := HSI.out.2
            have ho2 := owns_fr HO.out hfr (by simp)
            have HO2 := Lib.hid ho2
            have HFI := Lib.hid (HF.out.trans hfr)
            clear hfr ho2 hjk hj
            have hsz := HFI.out.size
            have hap : ∀ r, (Value.slice ga j ca).ownBlock = some r → r < w3.heap.size := fun r hr => Nat.lt_of_lt_of_le (World.ownsRow.lt HO.out r hr).2 HLT.out
            have HAP := Lib.hid hap
            clear hap
            go_wp2_with (at_builtin; refine wpList_append_own _ rfl _ _ 33 rfl w.heap.size 23 i0 (.agg #[.int .i64 0, .int .i64 0]) 2 16 Tryd.underlying33 hi hz0 hz1 hz2 rfl (by decide) _ _ _ rfl (World.ownsRow.alloc HO2.out _) ⟨wr.heap.size, 0, none⟩ 1 1 [_, _] rfl rfl (cell_two_new _ _ _ _) (chain_one _ _) (by unfold maxLen; omega) (by omega) (by simp; omega) ?_; intro v' w6 hown6 hg6 _; have x1 := hg6.cell ((Fr.alloc wr _ []).cell c1 (by simp)) (fun e => Nat.lt_irrefl _ (HAP.out _ e.symm)))
            have hg6' : (wr.alloc (.cells #[.int .i64 ((j : Int) + 1), .int .i64 (f : Int)] 23)).grownBy w6 (Value.slice ga j ca).ownBlock := hg6
            have hf6 : Fr w w6 [] := Fr.of_grown (grown_new (HFI.out.grown (by simp)) (grown_trans (World.grownBy_alloc wr _ _) hg6') (fun r hr => (World.ownsRow.lt HO2.out r hr).1)) []
            have hkl := HK.out
            have hch : chain 0 (F ++ [f]) = chain 0 F ++ [.int .i64 ((j : Int) + 1), .int .i64 (f : Int)] := by rw [chain_snoc, ← hkl, Nat.zero_add]
            have hlen : (F ++ [f]).length = j + 1 := by simp [← hkl]
            go_roundw
            case rel =>
              refine ⟨F ++ [f], by omega, by rw [hlen]; go_num, by rw [hlen]; go_num, ?_, ?_, hf6⟩
              · intro y hy
                rcases List.mem_append.1 hy with h | h
                · exact H16.out y h
                · simp only [List.mem_singleton] at h; rw [h]; exact HG.out.2.2
              · rw [hlen, hch]; exact hown6
            case measure => simp [intOf]; omega
      · have HV := Lib.hid (valid_any 0 0)
        have HNO := Lib.hid (none_any 0 0)
        rw [show validB 0 0 = false by decide] at HV
        rw [show decide ((0 : Int) = 0) = true by decide] at HNO
        go_wp2_with fail
        refine (HNO.out _).mono ?_
        rintro e w2 ⟨rfl, hf2⟩
        have HF2 := Lib.hid (HF.out.trans hf2)
        clear hf2
        go_wp2_with fail
        refine (HV.out _).mono ?_
        rintro e w3 ⟨rfl, hf3⟩
        have HF3 := Lib.hid (HF2.out.trans hf3)
        clear hf3
        go_wp2
        go_ret
        exact ⟨rfl, HF3.out.grown (by simp)⟩
end Go.Proofs.YtnlicmcijmglfaaDoor
