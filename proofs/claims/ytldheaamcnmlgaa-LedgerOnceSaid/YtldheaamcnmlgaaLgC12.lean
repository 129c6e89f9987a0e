/- Package ledger: added. -/
import Derived.Test.YtldheaamcnmlgaaLgC11
import Derived.Test.YtldheaamcnmlgaaGLi
import Derived.Test.YtldheaamcnmlgaaGLj
namespace Go.Proofs.Ytldheaamcnmlgaa
open Go.RowKit Fm

theorem placeG_eq {x : La} : ∀ {es : List En}, (∀ e ∈ es, ¬ (e.fl = x.f ∧ e.di = x.d)) → placeG es x.f x.d = insPl x es
  | [], _ => rfl
  | e :: es, h => by
    have he := h e (by simp)
    have q : (!ltC x.f x.d e.fl e.di) = ltC e.fl e.di x.f x.d := by
      unfold ltC
      by_cases a : x.f < e.fl <;> by_cases b : x.f = e.fl <;> by_cases c : x.d < e.di <;> by_cases d : x.d = e.di <;> simp [a, b, c, d, Ne.symm, eq_comm] <;> omega
    have ih := placeG_eq (es := es) (fun e he => h e (by simp [he]))
    unfold placeG insPl at *
    rw [List.takeWhile_cons, List.takeWhile_cons, q]
    split
    · rw [List.length_cons, List.length_cons, ih]
    · rfl
theorem RB.farL {V a a' : World} {g n B : Nat} {co fo ho : Int} {um ve v : Value} {ms : List Int} {xs : List (En × Value)} {T : List Value} (h : RB V g co fo ho um ve ms xs a) (hf : Fr a a' ve.ownBlock.toList) (hT : a.ownsRow B 37 3 v n T) : a'.ownsRow B 37 3 v n T :=
  row_fr hT hf (fun r hr => by
    have hb : ve.ownBlock = some r := by simpa using hr
    rcases h.oe.1.2 with ⟨h1, _⟩ | ⟨b, cap, cur, h1, _, hgg, _⟩
    · rw [h1] at hb; simp [Value.ownBlock] at hb
    · rw [h1] at hb
      obtain rfl : b = r := by simpa [Value.ownBlock] using hb
      exact row_ne hT hgg (by decide))
/-- Behind Insert, ahead of the store. -/
theorem RB.insE {V a a' : World} {g k : Nat} {co fo ho : Int} {um ve v' : Value} {ms : List Int} {xs : List (En × Value)} {x : La} (h : RB V g co fo ho um ve ms xs a) (hr : RowE a' V.heap.size v' (xs.take k ++ (newE x, Value.slice none 0 0) :: xs.drop k)) (hf : Fr a a' ve.ownBlock.toList) :
    RBA V g co fo ho um ve ms v' (xs.take k ++ (newE x, Value.slice none 0 0) :: xs.drop k) a' := by
  refine h.anew hf ⟨hr, fun y hy => ?_⟩
  have key : ∀ y ∈ xs, OwnB a' V.heap.size y.2 y.1.bs := fun y hy => row_fr (h.oe.2 y hy) hf (fun r hr => by
    have hb : ve.ownBlock = some r := by simpa using hr
    rcases h.oe.1.2 with ⟨h1, _⟩ | ⟨b, cap, cur, h1, _, hgg, _⟩
    · rw [h1] at hb; simp [Value.ownBlock] at hb
    · rw [h1] at hb
      obtain rfl : b = r := by simpa [Value.ownBlock] using hb
      exact row_ne (h.oe.2 y hy) hgg (by decide))
  rcases List.mem_append.1 hy with q | q
  · exact key y (List.mem_of_mem_take q)
  · rcases List.mem_cons.1 q with rfl | q
    · exact OwnB.nil _ _
    · exact key y (List.mem_of_mem_drop q)
/-- What the adding of an entry reads. -/
def SAn (V : World) (g p q : Nat) (co fo ho : Int) (um ve : Value) (xf xd xg : Int) (a : World) : Prop :=
  Fr V a [] ∧ C5 g (.int .i64 co) (.int .i64 fo) (.int .i64 ho) um ve a ∧ (a.cell? ⟨p, 0, none⟩ = some (.int .i64 xf) ∧ a.cell? ⟨p, 1, none⟩ = some (.int .i64 xd)) ∧ C5 q (.int .i64 xf) (.int .i64 xd) (.int .i64 xg) (.slice none 0 0) (.int .i64 (-1)) a
theorem SAn.fr {V : World} {g p q : Nat} {co fo ho : Int} {um ve : Value} {xf xd xg : Int} {a a' : World} (h : SAn V g p q co fo ho um ve xf xd xg a) (k : Fr a a' []) : SAn V g p q co fo ho um ve xf xd xg a' :=
  ⟨h.1.trans k, h.2.1.fr k (by simp), ⟨k.cell h.2.2.1.1 (by simp), k.cell h.2.2.1.2 (by simp)⟩, h.2.2.2.fr k (by simp)⟩
theorem SAn.ins {V a a' : World} {g p q n uc : Nat} {ua : Option Addr} {co fo ho : Int} {um : Value} {ms : List Int} {xs : List (En × Value)} {xf xd xg : Int} (h : SAn V g p q co fo ho um (.slice ua n uc) xf xd xg a) (hb : RB V g co fo ho um (.slice ua n uc) ms xs a) (hf : Fr a a' (Value.slice ua n uc).ownBlock.toList)
    (hp : a.heap[p]? = some (.cells #[.int .i64 xf, .int .i64 xd, .int .i64 xg] 37 (0, 0))) (hq : ∀ r ∈ (Value.slice ua n uc).ownBlock.toList, r < q) (hV : Fr V a' []) : SAn V g p q co fo ho um (.slice ua n uc) xf xd xg a' := by
  have hp2 := row3 (hb.far1 hf hp (by decide))
  exact ⟨hV, row5 (hb.far1 hf hb.row (by decide)), ⟨hp2.1, hp2.2.1⟩, h.2.2.2.fr hf (fun hm => Nat.lt_irrefl _ (hq q hm))⟩
set_option maxHeartbeats 8000000 in
set_option maxRecDepth 100000 in
theorem add_any (r : Rg) (vm ve vl : Value) (L : List La) (w : World) (hm : HInts w vm r.ms) (he : HE w ve r.es) (hml : r.ms.length ≤ 1000) (hel : r.es.length ≤ 1000) (hbl : ∀ e ∈ r.es, e.bs.length ≤ 1000) (hlv : HLs w vl L) (hll : L.length ≤ 1000) :
    Calls Try.prog 16 #[rgV r vm ve, vl] w (Gives (GRing (addR r L) w)) := by
  have HLV := Lib.hid hlv
  obtain ⟨al, cl, hvl, _⟩ := hlv
  obtain ⟨nl, hnl⟩ : ∃ nl, nl = L.length := ⟨_, rfl⟩
  rw [← hnl] at hvl
  subst hvl
  have HSL0 : Hid ((sortL L).length = L.length) := Lib.hid (foldL_stb L (s := []) List.Pairwise.nil).2.len.symm
  clear hnl
  obtain ⟨co, fo, ho, ms, es⟩ := r
  dsimp only at hm he hml hel hbl
  have HMV := Lib.hid hm
  have HEV := Lib.hid he
  obtain ⟨am, cm, rfl, pm, qm, rm⟩ := hm
  obtain ⟨ae, ce, rfl, pe, qe, re⟩ := he
  unfold maxLen at qm qe
  have HBL := Lib.hid hbl
  have HEL := Lib.hid hel
  have HML := Lib.hid hml
  have HLS := Lib.hid re
  obtain ⟨n, hn⟩ : ∃ n, n = es.length := ⟨_, rfl⟩
  have HN := Lib.hid hn
  obtain ⟨m, hmm⟩ : ∃ m, m = ms.length := ⟨_, rfl⟩
  have HM := Lib.hid hmm
  rw [← hn] at hel pe HLS HEV
  rw [← hmm] at hml pm HMV
  unfold rgV
  dsimp only
  rw [← hn, ← hmm]
  clear rm re hbl hn hmm
  have CR := Lib.hid (fun W (hW : Fr w W []) => clone_any ⟨co, fo, ho, ms, es⟩ _ _ W (HMV.out.keep hW) (HEV.out.keep hW) HML.out HEL.out HBL.out)
  obtain ⟨g, hg⟩ : ∃ g, g = w.heap.size := ⟨_, rfl⟩
  have HG := Lib.hid hg
  have HTW := Lib.hid (two_boxes w (.cells #[.int .i64 co, .int .i64 fo, .int .i64 ho, .slice am m cm, .slice ae n ce] 27) (.cells #[.int .i64 0, .int .i64 0, .int .i64 0, .slice none 0 0, .slice none 0 0] 27))
  have HF2 := Lib.hid ((Fr.alloc w (.cells #[.int .i64 co, .int .i64 fo, .int .i64 ho, .slice am m cm, .slice ae n ce] 27) []).trans (Fr.alloc _ (.cells #[.int .i64 0, .int .i64 0, .int .i64 0, .slice none 0 0, .slice none 0 0] 27) []))
  go_enter Try.func16, Try.ntmps16
  go_upto_region 1 with fail
  generalize (w.alloc _).alloc _ = V at HTW HF2 ⊢
  rw [← hg] at HTW ⊢
  clear hg
  obtain ⟨y0, y1, y2, y3, y4⟩ := row5 HTW.out.1
  have CR1 := Lib.hid (CR.out V HF2.out)
  unfold rgV at CR1
  dsimp only at CR1
  clear CR
  go_wp2_with fail
  with_reducible refine (CR1.out).mono ?_
  rintro e w1 ⟨u, rfl, hcr⟩
  obtain ⟨va, vc, ua, uc, xs, hu, hxs, ⟨x0, x1, x2, x3, x4⟩, ⟨f0, f1, f2, f3, f4⟩, hrb, hfv⟩ := RB.of_clone hcr HF2.out (Nat.le_of_eq HG.out.symm) HTW.out.1
  dsimp only at hu hxs hrb hfv
  rw [← HN.out, ← HM.out] at hu hrb hfv
  subst hu
  have HRB := Lib.hid hrb
  have HFV := Lib.hid hfv
  have HXS := Lib.hid hxs
  have HZ := Lib.hid (hfv.heap HTW.out.2 (by intro hm; have := List.mem_singleton.1 hm; omega))
  clear hcr hrb hfv hxs CR1
  unfold rgV
  dsimp only
  go_upto_region 2 with fail
  clear y0 y1 y2 y3 y4 x0 x1 x2 x3 x4 f0 f1 f2 f3 f4
  generalize World.setCell (World.setCell (World.setCell (World.setCell (World.setCell w1 _ _) _ _) _ _) _ _) _ _ = w2 at HRB HFV HZ ⊢
  have IO := Lib.hid (in_order (.slice al nl cl) L w2 (HLV.out.keep HRB.out.f) hll)
  go_wp2_with fail
  with_reducible refine (IO.out).mono ?_
  rintro e w3 ⟨u, rfl, hown, hf⟩
  have HRB3 := Lib.hid (HRB.out.fr hf)
  have HZ3 := Lib.hid (hf.heap HZ.out (by simp))
  obtain ⟨T, hT⟩ : ∃ T, T = sortL L := ⟨_, rfl⟩
  have HTL : Hid (T.length ≤ 1000) := Lib.hid (by rw [hT, HSL0.out]; exact hll)
  have HADD : Hid (addR ⟨co, fo, ho, ms, es⟩ L = ⟨co, fo, ho, ms, T.foldl addStep es⟩) := Lib.hid (by rw [hT]; rfl)
  rw [← hT] at hown
  have HT3 : Hid (OwnL w3 w.heap.size u T) := Lib.hid (row_mono hown HRB.out.f.size)
  obtain ⟨ta, tc, rfl⟩ := hown.shape
  obtain ⟨nt, hnt⟩ : ∃ nt, nt = T.length := ⟨_, rfl⟩
  have HNT := Lib.hid hnt
  rw [← hnt] at HT3 ⊢
  have htl : nt ≤ 1000 := by rw [hnt]; exact HTL.out
  clear hown hf IO HRB HZ hT hnt HFV HSL0 hll
  go_wp2_with fail
  go_loopw [13] (fun s13 wx => ∃ (k : Nat) (ve : Value) (xs : List (En × Value)), s13 = .int .i64 k ∧ Hid (k ≤ nt) ∧ Hid (RB w g co fo ho (.slice va m vc) ve ms xs wx) ∧ Hid (xs.map (·.1) = addK es T k) ∧ Hid (wx.heap[g + 1]? = some (.cells #[.int .i64 0, .int .i64 0, .int .i64 0, .slice none 0 0, .slice none 0 0] 27 (0, 0))) ∧ Hid (OwnL wx w.heap.size (.slice ta nt tc) T)) (fun s13 _ => nt - (intOf s13).toNat)
  case atStart => exact ⟨0, _, xs, rfl, Lib.hid (Nat.zero_le _), HRB3, Lib.hid HXS.out, HZ3, HT3⟩
  case round =>
    clear HRB3 HZ3 HT3 HXS
    obtain ⟨k, ve, xs, rfl, HK, HRB, HX, HZ, HT⟩ := hrel
    have hk := HK.out
    have HXN : Hid (xs.length ≤ 1000 + k ∧ xs.length = (addK es T k).length) := Lib.hid (by
      have h := congrArg List.length HX.out
      rw [List.length_map] at h
      have h2 := addK_len es T k
      have := HEL.out
      omega)
    obtain ⟨ua, uc, rfl⟩ := HRB.out.oe.shape
    obtain ⟨q0, q1, q2, q3, q4⟩ := row5 HRB.out.row
    have HLEN : Hid (nt ≤ 1000) := Lib.hid htl
    by_cases hlt : k < nt
    · obtain ⟨a3, c3, e3, _, _, h3⟩ := HT.out.holds
      simp only [Value.slice.injEq] at e3
      obtain ⟨rfl, hq, rfl⟩ := e3
      clear hq
      obtain ⟨b3, o3, rfl, hc3⟩ := h3 (by have := HNT.out; omega)
      obtain ⟨x, hx⟩ : ∃ x, x = T.getD k zLa := ⟨_, rfl⟩
      obtain ⟨x0, x1, x2⟩ := hc3 k (by have := HNT.out; omega)
      rw [← hx] at x0 x1 x2
      have HSTEP := Lib.hid (show addK es T (k + 1) = addStep (addK es T k) x by rw [hx]; exact addK_step es T k (by have := HNT.out; omega))
      have HX0 := Lib.hid (And.intro x0 (And.intro x1 x2))
      obtain ⟨xf, xd, xg⟩ := x
      dsimp only at x0 x1 x2
      obtain ⟨p, hp⟩ : ∃ p, p = wr.heap.size := ⟨_, rfl⟩
      have FA := Lib.hid (Fr.alloc wr (.cells #[.int .i64 xf, .int .i64 xd, .int .i64 xg] 37) [])
      have HPX := Lib.hid (heap_alloc_new wr (.cells #[.int .i64 xf, .int .i64 xd, .int .i64 xg] 37))
      have hgp : g < p := by rw [hp]; exact size_of_row HRB.out.row
      clear hc3 hx
      have HRBA := Lib.hid (HRB.out.fr FA.out)
      have HZA := Lib.hid (FA.out.heap HZ.out (by simp))
      have HTA := Lib.hid (HT.out.keep FA.out)
      obtain ⟨r0, r1, r2, r3, r4⟩ := row5 HRBA.out.row
      by_cases hfull : 128 ≤ xs.length
      · have HEQ : Hid (addR ⟨co, fo, ho, ms, es⟩ L = ⟨co, fo, ho, ms, addK es T k⟩) := Lib.hid (by rw [HADD.out, addK_full es T k (by have := HXN.out; omega)])
        have hfi : (128 : Int) ≤ (xs.length : Int) := by omega
        clear HRB HZ HSTEP HADD HX0 HTA HT FA hfull
        have HRB := HRBA
        have HZ := HZA
        clear HRBA HZA
        go_upto_region 10 with fail
        generalize World.alloc wr _ = wb at HRB HZ HPX ⊢
        clear hfi x0 x1 x2 q0 q1 q2 q3 q4 r0 r1 r2 r3 r4 hp
        obtain ⟨q0, q1, q2, q3, q4⟩ := row5 HRB.out.row
        obtain ⟨z0, z1, z2, z3, z4⟩ := row5 HZ.out
        obtain ⟨f0, f1, f2, f3, f4⟩ := fz5 HZ.out
        obtain ⟨⟨e0, e1, e2, e3, e4⟩, HENDa⟩ := HRB.out.give HZ.out (by have := HG.out; omega)
        have HEND := Lib.hid HENDa
        clear HENDa HZ HRB
        go_wp2
        generalize World.setCell (World.setCell (World.setCell (World.setCell (World.setCell wb _ _) _ _) _ _) _ _) _ _ = WE at e0 e1 e2 e3 e4 HEND ⊢
        exact bodyPost_ret (v := .agg #[.int .i64 co, .int .i64 fo, .int .i64 ho, .slice va m vc, .slice ua xs.length uc]) (by simp [results, Try.results16, go_sem, e0, e1, e2, e3, e4]) rfl (gives (by rw [HEQ.out]; exact ⟨⟨_, _, rfl, HEND.out.1, HX.out ▸ HEND.out.2.1⟩, HEND.out.2.2⟩))
      · have hfi : ¬ (128 : Int) ≤ (xs.length : Int) := by omega
        have HFI := Lib.hid (find_any (.slice ua xs.length uc) (addK es T k) xf xd (wr.alloc (.cells #[.int .i64 xf, .int .i64 xd, .int .i64 xg] 37)) (HX.out ▸ (HRB.out.oe.he.keep FA.out)) (by have := HXN.out; omega))
        obtain ⟨l0, l1, l2⟩ := row3 HPX.out
        go_wp2_with fail
        with_reducible refine (HFI.out).mono ?_
        rintro e w4 ⟨z, rfl, hz, hf⟩
        have HRB4 := Lib.hid (HRBA.out.fr hf)
        have HZ4 := Lib.hid (hf.heap HZA.out (by simp))
        have HT4 := Lib.hid (HTA.out.keep hf)
        have HP4 := Lib.hid (hf.heap HPX.out (by simp))
        rw [← hp] at HP4 ⊢
        have hp4 : p < w4.heap.size := size_of_row HP4.out
        clear hf HFI HRB HRBA HZA HTA HPX FA x0 x1 x2 q0 q1 q2 q3 q4 r0 r1 r2 r3 r4 l0 l1 l2 hp HT HZ HX0
        rcases hz with ⟨rfl, hno⟩ | ⟨rfl, hyes⟩
        rotate_left
        · have HX2 : Hid (xs.map (·.1) = addK es T (k + 1)) := Lib.hid (by rw [HX.out, HSTEP.out]; unfold addStep; rw [if_pos (.inr hyes)])
          clear hyes HSTEP HX hfi hp4 HP4
          go_wp2
          go_roundw
          case rel => exact ⟨k + 1, _, xs, by go_num, Lib.hid (by omega), HRB4, HX2, HZ4, HT4⟩
          case measure => simp [intOf]; omega
        obtain ⟨pk, hpk⟩ : ∃ pk, pk = placeG (addK es T k) xf xd := ⟨_, rfl⟩
        have hpi : pk = insPl ⟨xf, xd, xg⟩ (addK es T k) := by
          rw [hpk]
          exact placeG_eq (x := ⟨xf, xd, xg⟩) (fun e he hc => hno (placeE_lt.2 ⟨e, he, hc⟩))
        have HXK : Hid ((xs.take pk ++ (newE ⟨xf, xd, xg⟩, Value.slice none 0 0) :: xs.drop pk).map (·.1) = addK es T (k + 1)) := Lib.hid (by
          rw [HSTEP.out]
          unfold addStep
          rw [if_neg (fun h => h.elim (fun h => by have := HXN.out; omega) (fun h => hno h)), insE_split, ← hpi, List.map_append, List.map_take, List.map_cons, List.map_drop, HX.out])
        have HPK : Hid (pk ≤ xs.length) := Lib.hid (by rw [HXN.out.2, hpi]; exact insPl_le _ _)
        have HONE : Hid (∀ y ∈ xs, y.2.oneCell' = true) := Lib.hid (fun y hy => own_shape (HRB4.out.oe.2 y hy))
        obtain ⟨q, hq⟩ : ∃ q, q = w4.heap.size := ⟨_, rfl⟩
        have FB := Lib.hid (Fr.alloc w4 (.cells #[.int .i64 xf, .int .i64 xd, .int .i64 xg, .slice none 0 0, .int .i64 (-1)] 40) [])
        have HQ5 := Lib.hid (heap_alloc_new w4 (.cells #[.int .i64 xf, .int .i64 xd, .int .i64 xg, .slice none 0 0, .int .i64 (-1)] 40))
        rw [← hq] at HQ5 hp4
        have HRB5 := Lib.hid (HRB4.out.fr (FB.out.trans (Fr.drew _ [])))
        have HZ5 := Lib.hid ((FB.out.trans (Fr.drew _ [])).heap HZ4.out (by simp))
        have HT5 := Lib.hid (HT4.out.keep (FB.out.trans (Fr.drew _ [])))
        have HP5 := Lib.hid ((FB.out.trans (Fr.drew _ [])).heap HP4.out (by simp))
        have HQ6 : Hid ((w4.alloc (.cells #[.int .i64 xf, .int .i64 xd, .int .i64 xg, .slice none 0 0, .int .i64 (-1)] 40)).drew.heap.size = q + 1) := Lib.hid (by rw [hq]; simp)
        have HBQ : Hid (∀ r ∈ (Value.slice ua xs.length uc).ownBlock.toList, r < q) := Lib.hid (fun r hr => by rw [hq]; exact (HRB4.out.oe.block r (by simpa using hr)).2)
        have HPL := Lib.hid (fun W (hW : Fr (w4.alloc (.cells #[.int .i64 xf, .int .i64 xd, .int .i64 xg, .slice none 0 0, .int .i64 (-1)] 40)).drew W []) => eplace_any (.slice ua xs.length uc) (addK es T k) xf xd W (HX.out ▸ (HRB5.out.oe.he.keep hW)) (by have := HXN.out; omega) pk hpk)
        have HS5 : Hid (SAn w g p q co fo ho (.slice va m vc) (.slice ua xs.length uc) xf xd xg (w4.alloc (.cells #[.int .i64 xf, .int .i64 xd, .int .i64 xg, .slice none 0 0, .int .i64 (-1)] 40)).drew) := Lib.hid ⟨HRB5.out.f, row5 HRB5.out.row, ⟨((FB.out.trans (Fr.drew _ [])).cell (row3 HP4.out).1 (by simp)), ((FB.out.trans (Fr.drew _ [])).cell (row3 HP4.out).2.1 (by simp))⟩, row5 HQ5.out⟩
        obtain ⟨l0, l1, l2⟩ := row3 HP4.out
        obtain ⟨q0, q1, q2, q3, q4⟩ := row5 HRB4.out.row
        clear hno hpk hpi HSTEP hfi
        go_upto_region 8 with fail
        rw [← hq]
        clear l0 l1 l2 q0 q1 q2 q3 q4
        have HQB := Lib.hid hq
        clear hq
        refine wp_region_noPanic ?_
        refine wp_region_heldL (S := SAn w g p q co fo ho (.slice va m vc) (.slice ua xs.length uc) xf xd xg) 11 (by kernel_rfl) HS5.out (fun hHeld => ?_)
        refine wpHL_take (j := 11) (by decide) (by kernel_rfl) (i := 0) (oi := _) (v := ?fv0h1n2) (by simp only [List.getElem?_toArray, List.getElem?_cons_zero]; rfl) (by kernel_rfl) (by kernel_rfl) (by kernel_rfl) (fun _ _ _ h => h) (Or.inl ⟨by rfl, ?fy0h1n2⟩) (by assumption) ?fr0h1n2
        case fy0h1n2 => (intro w hSw; (try dsimp only [SAn, C5] at hSw); go_simp; try with_reducible rfl)
        try simp only [Act.put, List.setIfInBounds_toArray, List.set_cons_zero, List.set_cons_succ]
        refine wpHL_take (j := 11) (by decide) (by kernel_rfl) (i := 1) (oi := _) (v := ?fv1h1n2) (by simp only [List.getElem?_toArray, List.getElem?_cons_zero, List.getElem?_cons_succ]; rfl) (by kernel_rfl) (by kernel_rfl) (by kernel_rfl) (fun _ _ _ h => h) (Or.inl ⟨by rfl, ?fy1h1n2⟩) (by assumption) ?fr1h1n2
        case fy1h1n2 => (intro w hSw; (try dsimp only [SAn, C5] at hSw); go_simp; try with_reducible rfl)
        try simp only [Act.put, List.setIfInBounds_toArray, List.set_cons_zero, List.set_cons_succ]
        refine wpHL_take (j := 11) (by decide) (by kernel_rfl) (i := 2) (oi := _) (v := ?fv2h1n2) (by simp only [List.getElem?_toArray, List.getElem?_cons_zero, List.getElem?_cons_succ]; rfl) (by kernel_rfl) (by kernel_rfl) (by kernel_rfl) (fun _ _ _ h => h) (Or.inl ⟨by rfl, ?fy2h1n2⟩) (by assumption) ?fr2h1n2
        case fy2h1n2 => (intro w hSw; (try dsimp only [SAn, C5] at hSw); go_simp; try with_reducible rfl)
        try simp only [Act.put, List.setIfInBounds_toArray, List.set_cons_zero, List.set_cons_succ]
        refine wpHL_take (j := 11) (by decide) (by kernel_rfl) (i := 3) (oi := _) (v := ?fv3h1n2) (by simp only [List.getElem?_toArray, List.getElem?_cons_zero, List.getElem?_cons_succ]; rfl) (by kernel_rfl) (by kernel_rfl) (by kernel_rfl) (fun _ _ _ h => h) (Or.inl ⟨by rfl, ?fy3h1n2⟩) (by assumption) ?fr3h1n2
        case fy3h1n2 => (intro w hSw; (try dsimp only [SAn, C5] at hSw); go_simp; try with_reducible rfl)
        try simp only [Act.put, List.setIfInBounds_toArray, List.set_cons_zero, List.set_cons_succ]
        refine wpHL_take (j := 11) (by decide) (by kernel_rfl) (i := 4) (oi := _) (v := ?fv4h1n2) (by simp only [List.getElem?_toArray, List.getElem?_cons_zero, List.getElem?_cons_succ]; rfl) (by kernel_rfl) (by kernel_rfl) (by kernel_rfl) (fun _ _ _ h => h) (Or.inl ⟨by rfl, ?fy4h1n2⟩) (by assumption) ?fr4h1n2
        case fy4h1n2 => (intro w hSw; (try dsimp only [SAn, C5] at hSw); go_simp; try with_reducible rfl)
        try simp only [Act.put, List.setIfInBounds_toArray, List.set_cons_zero, List.set_cons_succ]
        refine wpHL_take (j := 11) (by decide) (by kernel_rfl) (i := 5) (oi := _) (v := ?fv5h1n2) (by simp only [List.getElem?_toArray, List.getElem?_cons_zero, List.getElem?_cons_succ]; rfl) (by kernel_rfl) (by kernel_rfl) (by kernel_rfl) (fun _ _ _ h => h) (Or.inl ⟨by rfl, ?fy5h1n2⟩) (by assumption) ?fr5h1n2
        case fy5h1n2 => (intro w hSw; (try dsimp only [SAn, C5] at hSw); go_simp; try with_reducible rfl)
        try simp only [Act.put, List.setIfInBounds_toArray, List.set_cons_zero, List.set_cons_succ]
        refine wpHL_take (j := 11) (by decide) (by kernel_rfl) (i := 7) (oi := _) (v := ?fv7h1n2) (by simp only [List.getElem?_toArray, List.getElem?_cons_zero, List.getElem?_cons_succ]; rfl) (by kernel_rfl) (by kernel_rfl) (by kernel_rfl) (fun _ _ _ h => h) (Or.inl ⟨by rfl, ?fy7h1n2⟩) (by assumption) ?fr7h1n2
        case fy7h1n2 => (intro w hSw; (try dsimp only [SAn, C5] at hSw); go_simp; try with_reducible rfl)
        try simp only [Act.put, List.setIfInBounds_toArray, List.set_cons_zero, List.set_cons_succ]
        generalize World.drew (World.alloc w4 _) = W5 at HRB5 HZ5 HT5 HPL HS5 HQ6 HP5 hHeld ⊢
        refine wpHL_ready (rs := [6, 8]) (by kernel_rfl) (by simp) ?_
        refine AllReadyHL.cons (o := _) (by decide) (by simp only [List.getElem?_toArray, List.getElem?_cons_zero, List.getElem?_cons_succ]; rfl) (fun K hK => ?_) ?_
        focus
          go_simp
          ((with_reducible refine (HPL.out W5 (Fr.refl _ _)).mono ?_); rintro e W6 ⟨rfl, hf⟩; have HRB6 := Lib.hid (HRB5.out.fr hf); have HZ6 := Lib.hid (hf.heap HZ5.out (by simp)); have HT6 := Lib.hid (HT5.out.keep hf); have HP6 := Lib.hid (hf.heap HP5.out (by simp)); have HS6 : Hid (q + 1 ≤ W6.heap.size) := Lib.hid (by have := hf.size; have := HQ6.out; omega); have hS6 := hHeld.fr hf; clear hf)
          go_wp2_with fail
          refine hK.out _ _ hS6 (fun hHeld => ?_)
          clear hK K
          try simp only [Act.put, List.setIfInBounds_toArray, List.set_cons_zero, List.set_cons_succ]
          clear hS6
          refine wpHL_ready (rs := [8]) (by kernel_rfl) (by simp) ?_
          refine AllReadyHL.cons (o := _) (by decide) (by simp only [List.getElem?_toArray, List.getElem?_cons_zero, List.getElem?_cons_succ]; rfl) (fun K hK => ?_) AllReadyHL.nil
          go_simp
          have FN := Lib.hid (Fr.alloc W6 (.cells #[.int .i64 xf, .int .i64 xd, .int .i64 xg, .slice none 0 0, .int .i64 (-1)] 40) [])
          have HRW := Lib.hid (HRB6.out.fr FN.out)
          have HZW := Lib.hid (FN.out.heap HZ6.out (by simp))
          have HTW2 : Hid (OwnL _ w.heap.size (.slice (some ⟨b3, o3, none⟩) nt tc) T) := Lib.hid (HT6.out.keep FN.out)
          have HPW := Lib.hid (FN.out.heap HP6.out (by simp))
          have HVB : Hid (_ = some (enRow (newE ⟨xf, xd, xg⟩, Value.slice none 0 0))) := Lib.hid (heap_alloc_new W6 (.cells #[.int .i64 xf, .int .i64 xd, .int .i64 xg, .slice none 0 0, .int .i64 (-1)] 40))
          have HVN : Hid ((Value.slice ua xs.length uc).ownBlock ≠ some W6.heap.size) := Lib.hid (fun e => by
            have h1 := HBQ.out W6.heap.size (by rw [e]; simp)
            have h2 := HS6.out
            omega)
          have hSX := hHeld.fr FN.out
          refine hK.out _ _ hSX (fun hHeld => ?_)
          clear hK K
          try simp only [Act.put, List.setIfInBounds_toArray, List.set_cons_zero, List.set_cons_succ]
          clear hSX HRB6 HZ6 HT6 HP6 HS6 FN
          generalize World.alloc W6 _ = W at HRW HZW HTW2 HPW HVB hHeld ⊢
          generalize W6.heap.size = vb at HVB HVN ⊢
          have HRO : Hid (RowE W w.heap.size (.slice ua xs.length uc) xs) := Lib.hid HRW.out.oe.1
          refine wpHL_ready (rs := [9]) (by kernel_rfl) (by simp) ?_
          refine AllReadyHL.cons (o := _) (by decide) (by simp only [List.getElem?_toArray, List.getElem?_cons_zero, List.getElem?_cons_succ]; rfl) (fun K hK => ?_) AllReadyHL.nil
          go_simp
          ((with_reducible refine (eins_any w.heap.size (.slice ua xs.length uc) xs (newE ⟨xf, xd, xg⟩, .slice none 0 0) pk vb W HRO.out HRW.out.f.size HPK.out HONE.out rfl (by have := HXN.out; have := HLEN.out; omega) HVB.out HVN.out).mono ?_); rintro e W9 ⟨u9, rfl, hrow9, hf9, hsh9⟩; have HBX := Lib.hid (HRW.out.insE hrow9 hf9); have HZ9 := Lib.hid (HRW.out.far1 hf9 HZW.out (by decide)); have HT9 := Lib.hid (HRW.out.farL hf9 HTW2.out); obtain ⟨g9, c9, hsh, _⟩ := hsh9; obtain ⟨nn, hnn⟩ : ∃ nn, nn = (xs.take pk ++ (newE ⟨xf, xd, xg⟩, Value.slice none 0 0) :: xs.drop pk).length := ⟨_, rfl⟩; rw [← hnn] at hsh; subst hsh; clear hnn; have hS9 := hHeld.ins HRW.out hf9 HPW.out HBQ.out HBX.out.f; clear hrow9 hf9)
          go_wp2_with fail
          refine hK.out _ _ hS9 (fun hHeld => ?_)
          clear hK K
          try simp only [Act.put, List.setIfInBounds_toArray, List.set_cons_zero, List.set_cons_succ]
          clear hS9 HRW HZW HTW2 HVB HVN HPW HRO
          refine wpHL_take (j := 11) (by decide) (by kernel_rfl) (i := 10) (oi := _) (v := ?fv10h1n3) (by simp only [List.getElem?_toArray, List.getElem?_cons_zero, List.getElem?_cons_succ]; rfl) (by kernel_rfl) (by kernel_rfl) (by kernel_rfl) (fun _ _ _ h => h) (Or.inl ⟨by rfl, ?fy10h1n3⟩) (by assumption) ?fr10h1n3
          case fy10h1n3 => (intro w hSw; (try dsimp only [SAn, C5] at hSw); go_simp; try with_reducible rfl)
          try simp only [Act.put, List.setIfInBounds_toArray, List.set_cons_zero, List.set_cons_succ]
          obtain ⟨t0, t1⟩ := HBX.out.cells
          have HRN := Lib.hid HBX.out.store
          have hfs : Fr W9 (W9.setCell ⟨g, 4, none⟩ (.slice (some ⟨g9, 0, none⟩) nn c9)) [g] := Fr.setCell W9 g 4 _ (by simp)
          have HZN := Lib.hid (hfs.heap HZ9.out (by intro hm; have := List.mem_singleton.1 hm; omega))
          have HTN : Hid (OwnL _ w.heap.size (.slice (some ⟨b3, o3, none⟩) nt tc) T) := Lib.hid (row_fr HT9.out hfs (by intro r hr; obtain rfl := List.mem_singleton.1 hr; exact row_ne HT9.out HBX.out.row (by decide)))
          clear hfs HBX HZ9 HT9 hHeld
          refine wpHL_last (by kernel_rfl) (by kernel_rfl) (by simp only [List.getElem?_toArray, List.getElem?_cons_zero, List.getElem?_cons_succ]; rfl) ?_
          intro K hK
          go_simp
          clear t0 t1
          generalize World.setCell W9 _ _ = W10 at HRN HZN HTN ⊢
          refine hK.out _ _ ?_
          refine NoPanic.normal ?_
          go_wp2_with fail
          go_roundw
          case rel => exact ⟨k + 1, _, _, by go_num, Lib.hid (by omega), HRN, HXK, HZN, HTN⟩
          case measure => simp [intOf]; omega
        refine AllReadyHL.cons (o := _) (by decide) (by simp only [List.getElem?_toArray, List.getElem?_cons_zero, List.getElem?_cons_succ]; rfl) (fun K hK => ?_) AllReadyHL.nil
        focus
          go_simp
          have HS51 : Hid (q + 1 ≤ W5.heap.size) := Lib.hid (Nat.le_of_eq HQ6.out.symm)
          have HPQQ := Lib.hid (HPL.out _ (Fr.alloc W5 (.cells #[.int .i64 xf, .int .i64 xd, .int .i64 xg, .slice none 0 0, .int .i64 (-1)] 40) []))
          have FNB := Lib.hid (Fr.alloc W5 (.cells #[.int .i64 xf, .int .i64 xd, .int .i64 xg, .slice none 0 0, .int .i64 (-1)] 40) [])
          have FN := Lib.hid (Fr.alloc W5 (.cells #[.int .i64 xf, .int .i64 xd, .int .i64 xg, .slice none 0 0, .int .i64 (-1)] 40) [])
          have HRW := Lib.hid (HRB5.out.fr FN.out)
          have HZW := Lib.hid (FN.out.heap HZ5.out (by simp))
          have HTW2 : Hid (OwnL _ w.heap.size (.slice (some ⟨b3, o3, none⟩) nt tc) T) := Lib.hid (HT5.out.keep FN.out)
          have HPW := Lib.hid (FN.out.heap HP5.out (by simp))
          have HVB : Hid (_ = some (enRow (newE ⟨xf, xd, xg⟩, Value.slice none 0 0))) := Lib.hid (heap_alloc_new W5 (.cells #[.int .i64 xf, .int .i64 xd, .int .i64 xg, .slice none 0 0, .int .i64 (-1)] 40))
          have HVN : Hid ((Value.slice ua xs.length uc).ownBlock ≠ some W5.heap.size) := Lib.hid (fun e => by
            have h1 := HBQ.out W5.heap.size (by rw [e]; simp)
            have h2 := HS51.out
            omega)
          have hSX := hHeld.fr FN.out
          go_wp2_with fail
          refine hK.out _ _ hSX (fun hHeld => ?_)
          clear hK K
          try simp only [Act.put, List.setIfInBounds_toArray, List.set_cons_zero, List.set_cons_succ]
          clear hSX HRB5 HZ5 HT5 HP5 HS51 FN
          generalize World.alloc W5 _ = W at HRW HZW HTW2 HPW HVB HPQQ hHeld ⊢
          generalize W5.heap.size = vb at HVB HVN ⊢
          refine wpHL_ready (rs := [6]) (by kernel_rfl) (by simp) ?_
          refine AllReadyHL.cons (o := _) (by decide) (by simp only [List.getElem?_toArray, List.getElem?_cons_zero, List.getElem?_cons_succ]; rfl) (fun K hK => ?_) AllReadyHL.nil
          go_simp
          ((with_reducible refine (HPQQ.out).mono ?_); rintro e W6 ⟨rfl, hf⟩; have HRW6 := Lib.hid (HRW.out.fr hf); have HZW6 := Lib.hid (hf.heap HZW.out (by simp)); have HTW6 : Hid (OwnL _ w.heap.size (.slice (some ⟨b3, o3, none⟩) nt tc) T) := Lib.hid (HTW2.out.keep hf); have HPW6 := Lib.hid (hf.heap HPW.out (by simp)); have HVB6 := Lib.hid (hf.heap HVB.out (by simp)); have hS6 := hHeld.fr hf; clear hf)
          go_wp2_with fail
          refine hK.out _ _ hS6 (fun hHeld => ?_)
          clear hK K
          try simp only [Act.put, List.setIfInBounds_toArray, List.set_cons_zero, List.set_cons_succ]
          clear hS6 HRW HZW HTW2 HPW HVB HPQQ
          have HRW := HRW6
          have HZW := HZW6
          have HTW2 := HTW6
          have HPW := HPW6
          have HVB := HVB6
          clear HRW6 HZW6 HTW6 HPW6 HVB6
          generalize W6 = W at HRW HZW HTW2 HPW HVB hHeld ⊢
          have HRO : Hid (RowE W w.heap.size (.slice ua xs.length uc) xs) := Lib.hid HRW.out.oe.1
          refine wpHL_ready (rs := [9]) (by kernel_rfl) (by simp) ?_
          refine AllReadyHL.cons (o := _) (by decide) (by simp only [List.getElem?_toArray, List.getElem?_cons_zero, List.getElem?_cons_succ]; rfl) (fun K hK => ?_) AllReadyHL.nil
          go_simp
          ((with_reducible refine (eins_any w.heap.size (.slice ua xs.length uc) xs (newE ⟨xf, xd, xg⟩, .slice none 0 0) pk vb W HRO.out HRW.out.f.size HPK.out HONE.out rfl (by have := HXN.out; have := HLEN.out; omega) HVB.out HVN.out).mono ?_); rintro e W9 ⟨u9, rfl, hrow9, hf9, hsh9⟩; have HBX := Lib.hid (HRW.out.insE hrow9 hf9); have HZ9 := Lib.hid (HRW.out.far1 hf9 HZW.out (by decide)); have HT9 := Lib.hid (HRW.out.farL hf9 HTW2.out); obtain ⟨g9, c9, hsh, _⟩ := hsh9; obtain ⟨nn, hnn⟩ : ∃ nn, nn = (xs.take pk ++ (newE ⟨xf, xd, xg⟩, Value.slice none 0 0) :: xs.drop pk).length := ⟨_, rfl⟩; rw [← hnn] at hsh; subst hsh; clear hnn; have hS9 := hHeld.ins HRW.out hf9 HPW.out HBQ.out HBX.out.f; clear hrow9 hf9)
          go_wp2_with fail
          refine hK.out _ _ hS9 (fun hHeld => ?_)
          clear hK K
          try simp only [Act.put, List.setIfInBounds_toArray, List.set_cons_zero, List.set_cons_succ]
          clear hS9 HRW HZW HTW2 HVB HVN HPW HRO
          refine wpHL_take (j := 11) (by decide) (by kernel_rfl) (i := 10) (oi := _) (v := ?fv10h1n4) (by simp only [List.getElem?_toArray, List.getElem?_cons_zero, List.getElem?_cons_succ]; rfl) (by kernel_rfl) (by kernel_rfl) (by kernel_rfl) (fun _ _ _ h => h) (Or.inl ⟨by rfl, ?fy10h1n4⟩) (by assumption) ?fr10h1n4
          case fy10h1n4 => (intro w hSw; (try dsimp only [SAn, C5] at hSw); go_simp; try with_reducible rfl)
          try simp only [Act.put, List.setIfInBounds_toArray, List.set_cons_zero, List.set_cons_succ]
          obtain ⟨t0, t1⟩ := HBX.out.cells
          have HRN := Lib.hid HBX.out.store
          have hfs : Fr W9 (W9.setCell ⟨g, 4, none⟩ (.slice (some ⟨g9, 0, none⟩) nn c9)) [g] := Fr.setCell W9 g 4 _ (by simp)
          have HZN := Lib.hid (hfs.heap HZ9.out (by intro hm; have := List.mem_singleton.1 hm; omega))
          have HTN : Hid (OwnL _ w.heap.size (.slice (some ⟨b3, o3, none⟩) nt tc) T) := Lib.hid (row_fr HT9.out hfs (by intro r hr; obtain rfl := List.mem_singleton.1 hr; exact row_ne HT9.out HBX.out.row (by decide)))
          clear hfs HBX HZ9 HT9 hHeld
          refine wpHL_last (by kernel_rfl) (by kernel_rfl) (by simp only [List.getElem?_toArray, List.getElem?_cons_zero, List.getElem?_cons_succ]; rfl) ?_
          intro K hK
          go_simp
          clear t0 t1
          generalize World.setCell W9 _ _ = W10 at HRN HZN HTN ⊢
          refine hK.out _ _ ?_
          refine NoPanic.normal ?_
          go_wp2_with fail
          go_roundw
          case rel => exact ⟨k + 1, _, _, by go_num, Lib.hid (by omega), HRN, HXK, HZN, HTN⟩
          case measure => simp [intOf]; omega
    · obtain rfl : k = nt := by omega
      have HEQ : Hid (addR ⟨co, fo, ho, ms, es⟩ L = ⟨co, fo, ho, ms, addK es T k⟩) := Lib.hid (by rw [HADD.out]; unfold addK; rw [HNT.out, List.take_length])
      clear HT
      obtain ⟨q0, q1, q2, q3, q4⟩ := row5 HRB.out.row
      obtain ⟨z0, z1, z2, z3, z4⟩ := row5 HZ.out
      obtain ⟨f0, f1, f2, f3, f4⟩ := fz5 HZ.out
      obtain ⟨⟨e0, e1, e2, e3, e4⟩, HENDa⟩ := HRB.out.give HZ.out (by have := HG.out; omega)
      have HEND := Lib.hid HENDa
      clear HENDa HZ HRB
      go_wp2
      generalize World.setCell (World.setCell (World.setCell (World.setCell (World.setCell wr _ _) _ _) _ _) _ _) _ _ = WE at e0 e1 e2 e3 e4 HEND ⊢
      exact bodyPost_ret (v := .agg #[.int .i64 co, .int .i64 fo, .int .i64 ho, .slice va m vc, .slice ua xs.length uc]) (by simp [results, Try.results16, go_sem, e0, e1, e2, e3, e4]) rfl (gives (by rw [HEQ.out]; exact ⟨⟨_, _, rfl, HEND.out.1, HX.out ▸ HEND.out.2.1⟩, HEND.out.2.2⟩))
end Go.Proofs.Ytldheaamcnmlgaa
