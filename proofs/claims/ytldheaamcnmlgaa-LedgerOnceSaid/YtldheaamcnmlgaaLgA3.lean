/- Package ledger: passed on, bid: the answer's ring stays when another ring's box is written. -/
import Derived.Test.YtldheaamcnmlgaaLgC15
namespace Go.Proofs.Ytldheaamcnmlgaa
open Go.RowKit Fm

/-- What is written is a ring's box: the ring stands all the same. -/
def Alone (w : World) (u : Value) (r : Rg) : Prop := ∀ (w' : World) (S : List Nat), (∀ p ∈ S, ∃ cs, w.heap[p]? = some (.cells cs 27 (0, 0))) → Fr w w' S → HR w' u r
def GTwoA (r : Rg) (b : Bool) (w : World) (u : Value) (w' : World) : Prop := ∃ x, u = .tuple #[x, .bool b] ∧ HR w' x r ∧ Fr w w' [] ∧ Alone w' x r
theorem RB.giveA {w a : World} {g g2 : Nat} {co fo ho : Int} {um ve : Value} {ms : List Int} {xs : List (En × Value)} {z0 z1 z2 z3 z4 : Value} (h : RB w g co fo ho um ve ms xs a) (hz2 : a.heap[g2]? = some (.cells #[z0, z1, z2, z3, z4] 27 (0, 0))) :
    ∀ (w' : World) (S : List Nat), (∀ p ∈ S, ∃ cs, (((((a.setCell ⟨g2, 0, none⟩ (.int .i64 co)).setCell ⟨g2, 1, none⟩ (.int .i64 fo)).setCell ⟨g2, 2, none⟩ (.int .i64 ho)).setCell ⟨g2, 3, none⟩ um).setCell ⟨g2, 4, none⟩ ve).heap[p]? = some (.cells cs 27 (0, 0))) → Fr (((((a.setCell ⟨g2, 0, none⟩ (.int .i64 co)).setCell ⟨g2, 1, none⟩ (.int .i64 fo)).setCell ⟨g2, 2, none⟩ (.int .i64 ho)).setCell ⟨g2, 3, none⟩ um).setCell ⟨g2, 4, none⟩ ve) w' S → HInts w' um ms ∧ HE w' ve (xs.map (·.1)) := by
  intro w' S hp hf
  have hF := set5_fr a g2 (.int .i64 co) (.int .i64 fo) (.int .i64 ho) um ve
  have h1 := h.oi.far hF hz2 (by decide)
  have h2 := h.oe.fr hF (by intro r hr; obtain rfl := List.mem_singleton.1 hr; exact ⟨_, _, hz2, by decide, by decide⟩)
  exact ⟨(h1.fr hf (by intro r hr; obtain ⟨cs, hc⟩ := hp r hr; exact row_ne h1 hc (by decide))).holds, (h2.fr hf (by intro r hr; obtain ⟨cs, hc⟩ := hp r hr; exact ⟨_, _, hc, by decide, by decide⟩)).he⟩
set_option maxHeartbeats 2000000 in
set_option maxRecDepth 100000 in
theorem pass_al (r : Rg) (vm ve : Value) (w : World) (hm : HInts w vm r.ms) (he : HE w ve r.es) (hml : r.ms.length ≤ 1000) (hel : r.es.length ≤ 1000) (hbl : ∀ e ∈ r.es, e.bs.length ≤ 1000) (hh : -9223372036854775808 ≤ r.ho ∧ r.ho ≤ 9223372036854775807) :
    Calls Try.prog 19 #[rgV r vm ve] w (Gives (GTwoA (passR r) (passB r) w)) := by
  obtain ⟨co, fo, ho, ms, es⟩ := r
  dsimp only at hm he hml hel hbl
  have HMV := Lib.hid hm
  have HEV := Lib.hid he
  obtain ⟨am, cm, rfl, pm, qm, rm⟩ := hm
  obtain ⟨ae, ce, rfl, pe, qe, re⟩ := he
  unfold maxLen at qm qe
  have HBL := Lib.hid hbl
  have HEL := Lib.hid hel
  have HML := Lib.hid hml
  have HLS := Lib.hid re
  obtain ⟨n, hn⟩ : ∃ n, n = es.length := ⟨_, rfl⟩
  have HN := Lib.hid hn
  obtain ⟨m, hmm⟩ : ∃ m, m = ms.length := ⟨_, rfl⟩
  have HM := Lib.hid hmm
  rw [← hn] at hel pe HLS HEV
  rw [← hmm] at hml pm HMV
  unfold rgV
  dsimp only
  rw [← hn, ← hmm]
  clear rm re hbl hn hmm
  dsimp only at hh
  obtain ⟨pb, hpb⟩ : ∃ b, b = passB ⟨co, fo, ho, ms, es⟩ := ⟨_, rfl⟩
  rw [← hpb]
  unfold passB at hpb
  dsimp only at hpb
  have CR := Lib.hid (fun W (hW : Fr w W []) => clone_any ⟨co, fo, ho, ms, es⟩ _ _ W (HMV.out.keep hW) (HEV.out.keep hW) HML.out HEL.out HBL.out)
  obtain ⟨g, hg⟩ : ∃ g, g = w.heap.size := ⟨_, rfl⟩
  have HG := Lib.hid hg
  have HTW := Lib.hid (two_boxes w (.cells #[.int .i64 co, .int .i64 fo, .int .i64 ho, .slice am m cm, .slice ae n ce] 27) (.cells #[.int .i64 0, .int .i64 0, .int .i64 0, .slice none 0 0, .slice none 0 0] 27))
  have HF2 := Lib.hid ((Fr.alloc w (.cells #[.int .i64 co, .int .i64 fo, .int .i64 ho, .slice am m cm, .slice ae n ce] 27) []).trans (Fr.alloc _ (.cells #[.int .i64 0, .int .i64 0, .int .i64 0, .slice none 0 0, .slice none 0 0] 27) []))
  go_enter Try.func19, Try.ntmps19
  go_upto_region 1 with fail
  generalize (w.alloc _).alloc _ = V at HTW HF2 ⊢
  rw [← hg] at HTW ⊢
  clear hg
  obtain ⟨y0, y1, y2, y3, y4⟩ := row5 HTW.out.1
  have CR1 := Lib.hid (CR.out V HF2.out)
  unfold rgV at CR1
  dsimp only at CR1
  clear CR
  go_wp2_with fail
  with_reducible refine (CR1.out).mono ?_
  rintro e w1 ⟨u, rfl, hcr⟩
  obtain ⟨va, vc, ua, uc, xs, hu, hxs, ⟨x0, x1, x2, x3, x4⟩, ⟨f0, f1, f2, f3, f4⟩, hrb, hfv⟩ := RB.of_clone hcr HF2.out (Nat.le_of_eq HG.out.symm) HTW.out.1
  dsimp only at hu hxs hrb hfv
  rw [← HN.out, ← HM.out] at hu hrb hfv
  subst hu
  have HRB := Lib.hid hrb
  have HFV := Lib.hid hfv
  have HXS := Lib.hid hxs
  have HZ := Lib.hid (hfv.heap HTW.out.2 (by intro hm; have := List.mem_singleton.1 hm; omega))
  clear hcr hrb hfv hxs CR1
  unfold rgV
  dsimp only
  go_upto_region 2 with fail
  clear y0 y1 y2 y3 y4 x0 x1 x2 x3 x4 f0 f1 f2 f3 f4
  generalize World.setCell (World.setCell (World.setCell (World.setCell (World.setCell w1 _ _) _ _) _ _) _ _) _ _ = w2 at HRB HFV HZ ⊢
  obtain ⟨q0, q1, q2, q3, q4⟩ := row5 HRB.out.row
  by_cases hq : 1099511627776 ≤ ho
  · have HPE := Lib.hid (show passR ⟨co, fo, ho, ms, es⟩ = ⟨co, fo, ho, ms, es⟩ ∧ pb = false from ⟨by unfold passR; rw [if_pos hq], by rw [hpb]; simpa using hq⟩)
    clear hpb q0 q1 q3 q4
    obtain ⟨q0, q1, q2, q3, q4⟩ := row5 HRB.out.row
    obtain ⟨z0, z1, z2, z3, z4⟩ := row5 HZ.out
    obtain ⟨f0, f1, f2, f3, f4⟩ := fz5 HZ.out
    obtain ⟨⟨e0, e1, e2, e3, e4⟩, HENDa⟩ := HRB.out.give HZ.out (by have := HG.out; omega)
    have HEND := Lib.hid (And.intro HENDa (HRB.out.giveA HZ.out))
    clear HENDa HZ HRB
    go_wp2
    generalize World.setCell (World.setCell (World.setCell (World.setCell (World.setCell w2 _ _) _ _) _ _) _ _) _ _ = WE at e0 e1 e2 e3 e4 HEND ⊢
    exact bodyPost_ret (v := .tuple #[.agg #[.int .i64 co, .int .i64 fo, .int .i64 ho, .slice va m vc, .slice ua n uc], .bool false]) (by simp [results, Try.results19, go_sem, e0, e1, e2, e3, e4]) rfl (gives (by rw [HPE.out.1, HPE.out.2]; exact ⟨_, rfl, ⟨_, _, rfl, HEND.out.1.1, HXS.out ▸ HEND.out.1.2.1⟩, HEND.out.1.2.2, fun w' S hp hf => ⟨_, _, rfl, (HEND.out.2 w' S hp hf).1, HXS.out ▸ (HEND.out.2 w' S hp hf).2⟩⟩))
  · have HPE := Lib.hid (show passR ⟨co, fo, ho, ms, es⟩ = ⟨co, fo, ho + 1, ms, es⟩ ∧ pb = true from ⟨by unfold passR; rw [if_neg hq], by rw [hpb]; simpa using hq⟩)
    have W1 : IntKind.i64.wrap (ho + 1) = ho + 1 := IntWalk.i64_in _ (by omega)
    obtain ⟨f0, f1, f2, f3, f4⟩ := fz5 HRB.out.row
    have HRB2 := Lib.hid (HRB.out.hop (ho + 1))
    have HZ2 := Lib.hid ((Fr.setCell w2 g 2 (.int .i64 (ho + 1)) (S := [g]) (by simp)).heap HZ.out (by intro hm; have := List.mem_singleton.1 hm; omega))
    clear hpb q0 q1 q3 q4 f0 f1 f3 f4 HRB HZ HFV
    go_upto_region 5 with fail
    generalize World.setCell w2 _ _ = w3 at HRB2 HZ2 ⊢
    have HRB := HRB2
    have HZ := HZ2
    clear HRB2 HZ2 q2 f2
    obtain ⟨q0, q1, q2, q3, q4⟩ := row5 HRB.out.row
    obtain ⟨z0, z1, z2, z3, z4⟩ := row5 HZ.out
    obtain ⟨f0, f1, f2, f3, f4⟩ := fz5 HZ.out
    obtain ⟨⟨e0, e1, e2, e3, e4⟩, HENDa⟩ := HRB.out.give HZ.out (by have := HG.out; omega)
    have HEND := Lib.hid (And.intro HENDa (HRB.out.giveA HZ.out))
    clear HENDa HZ HRB
    go_wp2
    generalize World.setCell (World.setCell (World.setCell (World.setCell (World.setCell w3 _ _) _ _) _ _) _ _) _ _ = WE at e0 e1 e2 e3 e4 HEND ⊢
    exact bodyPost_ret (v := .tuple #[.agg #[.int .i64 co, .int .i64 fo, .int .i64 (ho + 1), .slice va m vc, .slice ua n uc], .bool true]) (by simp [results, Try.results19, go_sem, e0, e1, e2, e3, e4]) rfl (gives (by rw [HPE.out.1, HPE.out.2]; exact ⟨_, rfl, ⟨_, _, rfl, HEND.out.1.1, HXS.out ▸ HEND.out.1.2.1⟩, HEND.out.1.2.2, fun w' S hp hf => ⟨_, _, rfl, (HEND.out.2 w' S hp hf).1, HXS.out ▸ (HEND.out.2 w' S hp hf).2⟩⟩))
end Go.Proofs.Ytldheaamcnmlgaa
