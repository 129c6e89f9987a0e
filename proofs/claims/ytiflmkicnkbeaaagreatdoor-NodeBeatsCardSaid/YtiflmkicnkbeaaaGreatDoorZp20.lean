import Derived.Test.YtiflmkicnkbeaaaGreatDoorZp02
import Derived.Test.YtiflmkicnkbeaaaGreatDoorZp07
import Derived.Test.YtiflmkicnkbeaaaGreatDoorZp09
import Derived.Test.YtiflmkicnkbeaaaGreatDoorZp10
import Derived.Test.YtiflmkicnkbeaaaGreatDoorZp19
import Derived.ProofKit
import Derived.LaidLaws
import Derived.LaidMore
import Derived.LaidHandle
import Derived.MakeChecks
import Derived.OpenShut
import Derived.Stop.Joined
import Derived.SevenTiedAt
import Derived.Lib.LaidTab
import Derived.Test.YtiflmkicnkbeaaaGreatDoorTie
import Derived.Test.YtiflmkicnkbeaaaGreatDoorCards
namespace Go.Proofs.YtiflmkicnkbeaaaGreatDoor
open Go.RowKit Fm
theorem EV.up {is : List Nat} {w : World} {A : Nat → Addr} {B B' : Nat} (h : EV is w A B) (k : B ≤ B') : EV is w A B' := ⟨fun i hi => ⟨(h.cell i hi).1, Nat.lt_of_lt_of_le (h.cell i hi).2 k⟩⟩
theorem open_zero (n : Nat) : openOf (CS.new n).l = SR.none := by
 unfold openOf
 rw [beat_no _ _ 0 (by rw [CS.new_get]; omega), beat_no _ _ 1 (by rw [CS.new_get]; omega)]
def s1 : CS := { CS.new 26 with l := setAll (CS.new 26).l (plan SR.none.spare 0 1), n := (CS.new 26).n + 14 }
def R1 : SR := ⟨0, 1, (SR.none.spare : Int)⟩
theorem save_new : SR.none.save (CS.new 26) SR.none.c (SR.none.n + 1) = (s1, R1, 0) := SR.save_ok SR.none (CS.new 26) 0 1 rfl (by decide) rfl rfl
def Made (h : Ho) (id pos : Int) (w : World) (u : Value) (w' : World) : Prop :=
 ∃ m, u = .tuple #[.pointer (some ⟨m.p, 0, none⟩), .pointer (some ⟨m.rp, 0, none⟩)] ∧ NdW w' w.heap.size m (newN h id R1 pos) s1 (zS h.f.toNat) ∧ m.vm = .slice none 0 0 ∧ m.vc = .slice none 0 0 ∧ m.vp = .slice none 0 0 ∧ Fr w w' []
set_option maxHeartbeats 2000000 in
set_option maxRecDepth 100000 in
theorem nmade_any (h : Ho) (id pos : Int) (is : List Nat) (A : Nat → Addr) (B : Nat) (w : World) (hk : h.ok) (hid : 0 ≤ id ∧ id < h.c) (hpos : 0 ≤ pos ∧ pos ≤ h.top) (hE : EV is w A B) (hB : B ≤ w.heap.size) (hs : ∀ i ∈ [2, 4, 5, 7], i ∈ is) :
 Calls Tryz.prog 13 #[h.v, .int .i64 id, .int .i64 pos] w (Gives (Made h id pos w)) := by
 have CN := Lib.hid (fun W => (show Calls Tryz.prog 22 #[.int .i64 26] W (Gives (NewClT W (CS.new 26))) from cellNew_ok 26 W (by omega) (by omega)))
 obtain ⟨k, hkf⟩ := Int.eq_ofNat_of_zero_le (show 0 ≤ h.f by have := hk.2.1.1; omega)
 have RN := Lib.hid (fun W => new_yes k (by have := hk.2.1.1; omega) (by have := hk.2.1.2; omega) W)
 have NN := Lib.hid (fun q g rp W (hW : Fr w W []) (hC : Cl W q g (CS.new 26)) (hq : w.heap.size ≤ q) (hg : w.heap.size ≤ g) (hR : Rs W rp (zS k)) (hr : w.heap.size ≤ rp) => nnew_any w.heap.size h id pos q g rp (CS.new 26) (zS k) is A W hk hid hpos hC rfl (by decide) (By8.zero 26) (by decide) ((hE.fr hW (by simp)).up hB) hs hW.size hq hg hR hr)
 have FA := Lib.hid (Fr.alloc w h.box [])
 have HBX := Lib.hid (heap_alloc_new w h.box)
 have HKF := Lib.hid (show h.f.toNat = k by rw [hkf]; simp)
 clear hk hid hpos hE hB hs
 obtain ⟨hc, hf, hsp, hd⟩ := h
 dsimp only at hkf
 subst hkf
 dsimp only [Ho.v, Ho.box] at *
 go_enter Tryz.func13, Tryz.ntmps13
 go_upto_region 1 with fail
 generalize w.alloc _ = V at FA HBX ⊢
 obtain ⟨b0, hb0⟩ : ∃ b, b = w.heap.size := ⟨_, rfl⟩
 rw [← hb0] at HBX ⊢
 clear hb0
 go_wp2_with fail
 with_reducible refine (CN.out _).mono ?_
 rintro e w1 ⟨u1, rfl, q, g, rfl, hcl, hq, hg, hf1⟩
 have HCL := Lib.hid hcl
 have HQ := Lib.hid (And.intro (Nat.le_trans FA.out.size hq) (Nat.le_trans FA.out.size hg))
 have HF1 := Lib.hid (FA.out.trans hf1)
 have HB1 := Lib.hid (hf1.heap HBX.out (by simp))
 clear hcl hq hg hf1 CN FA HBX
 obtain ⟨y0, y1, y2, y3⟩ := row4 HB1.out
 go_wp2_with fail
 with_reducible refine (RN.out _).mono ?_
 rintro e w2 ⟨rfl, hr, hf2⟩
 have HRS := Lib.hid hr
 have HRP := Lib.hid HF1.out.size
 have HF2 := Lib.hid (HF1.out.trans hf2)
 have HB2 := Lib.hid (hf2.heap HB1.out (by simp))
 have HC2 := Lib.hid (HCL.out.fr hf2 (by simp) (by simp))
 clear hr hf2 RN y0 y1 y2 y3 HF1 HB1 HCL
 obtain ⟨rp, hrp⟩ : ∃ b, b = w1.heap.size := ⟨_, rfl⟩
 rw [← hrp] at HRS HRP ⊢
 clear hrp
 have N1 := Lib.hid (NN.out q g rp w2 HF2.out HC2.out HQ.out.1 HQ.out.2 HRS.out HRP.out)
 obtain ⟨y0, y1, y2, y3⟩ := row4 HB2.out
 clear NN
 go_wp2_with fail
 with_reducible refine (N1.out).mono ?_
 rintro e w3 ⟨u3, rfl, hn⟩
 unfold Newed at hn
 rw [open_zero, save_new, if_pos rfl] at hn
 obtain ⟨hcl3, hf3, p, sp, gp, ve, rfl, hve, hnw, hp⟩ := hn
 have HNW := Lib.hid hnw
 have HF3 : Hid (Fr w w3 []) := Lib.hid (HF2.out.new hf3 (fun x hx => by
  simp only [List.mem_cons, List.not_mem_nil, or_false] at hx
  rcases hx with rfl | rfl
  · exact HQ.out.1
  · exact HQ.out.2))
 clear hcl3 hf3 hve hnw hp N1 y0 y1 y2 y3
 go_wp2
 go_ret2
 refine gives ⟨⟨p, sp, gp, q, g, rp, .slice none 0 0, .slice none 0 0, .slice none 0 0⟩, rfl, ?_, rfl, rfl, rfl, HF3.out⟩
 have := HNW.out
 rw [← HKF.out] at this
 exact this
theorem Tz.lt {w : World} (h : Tz w) : 13 < w.heap.size := World.block_lt_of_cell? w _ (h 0 (by decide))
theorem ntick_idle (B C : Nat) (m : Mm) (n : Nd) (s : CS) (r : RS) (w : World) (H : NdW w B m n s r) (hk : n.h.ok) (hc : n.car = startC n.h 0) (h1 : n.cl = []) (h2 : n.cs = []) (ho : n.ou = false) (hd : n.dn = false) (hrn : r.n ≤ 64) (hT : Tz w) (hG : 13 < B) (hB : B ≤ w.heap.size) (hA : AgOk n.pe) (hC : n.h.c = (C : Int)) (hml : n.ms.length ≤ 1000)
 (hs1 : -9223372036854775808 ≤ n.si ∧ n.si < 9223372036854775807) (hs2 : -9223372036854775808 ≤ n.ag ∧ n.ag < 9223372036854775807) (hgr : -9223372036854775808 ≤ n.grt ∧ n.grt ≤ 9223372036854775807) (hno : n.aged.founds = false) :
 Calls Tryz.prog 15 #[.pointer (some ⟨m.p, 0, none⟩), .pointer (some ⟨m.rp, 0, none⟩), .bool false] w (Gives (Ticked B m n n.aged s r n.aged.beats [] w)) := by
 have hx : n.car.tick n.h (ofS n.cs []) false = (n.car, ⟨false, false, 0, 0, 0, zSp⟩) := by
  rw [h2, ofS_nil, hc]; exact idle_car hk false
 have hk0 : n.car.k = 0 := by rw [hc, start_zero hk]
 have e : ({ n with car := n.car, cs := notP (fun z => hasB zSp.c z) n.cs } : Nd) = n := by
  obtain ⟨nh, nid, nR, nli, ncar, npe, nsn, nga, nms, ncl, ncs, nsi, nag, nou, ndn⟩ := n
  dsimp only at h2
  subst h2
  rfl
 have hl : n.leave = (n, []) := Nd.leave_idle ho (by rw [hc, start_zero hk])
 have := ntick_no B C m n n.aged s r false w H hd h1 hrn hT hG hB (by omega) (by rw [h2]; simp) n.car ⟨false, false, 0, 0, 0, zSp⟩ hx (by omega) hA hC (by have := hk.1.2; omega) hml hs1 hs2 hgr (by dsimp only; rw [e, hl]) (fun q => by rw [hno] at q; exact absurd q.1 (by decide))
 dsimp only at this
 rw [e, hl] at this
 exact this
def zF : F := ⟨0, 0, 0, 0, 0, false, zeroR⟩
def zFT : FT := ⟨zF, .slice none 0 0, .slice none 0 0⟩
theorem ftC_get (T : List FT) (i : Nat) (h : i < T.length) : (ftC T)[i * 11]? = some (.int .i64 (T.getD i zFT).f.ki) ∧ (ftC T)[i * 11 + 1]? = some (.int .i64 (T.getD i zFT).f.fr) ∧ (ftC T)[i * 11 + 2]? = some (.int .i64 (T.getD i zFT).f.dst) ∧ (ftC T)[i * 11 + 3]? = some (.int .i64 (T.getD i zFT).f.li) ∧ (ftC T)[i * 11 + 4]? = some (.int .i64 (T.getD i zFT).f.se) ∧ (ftC T)[i * 11 + 5]? = some (.bool (T.getD i zFT).f.ou) ∧
 (ftC T)[i * 11 + 6]? = some (.int .i64 (T.getD i zFT).f.rg.co) ∧ (ftC T)[i * 11 + 7]? = some (.int .i64 (T.getD i zFT).f.rg.fo) ∧ (ftC T)[i * 11 + 8]? = some (.int .i64 (T.getD i zFT).f.rg.ho) ∧ (ftC T)[i * 11 + 9]? = some (T.getD i zFT).vm ∧ (ftC T)[i * 11 + 10]? = some (T.getD i zFT).ve := by
 induction T generalizing i with
 | nil => simp at h
 | cons b l ih =>
   have e : ftC (b :: l) = .int .i64 b.f.ki :: .int .i64 b.f.fr :: .int .i64 b.f.dst :: .int .i64 b.f.li :: .int .i64 b.f.se :: .bool b.f.ou :: .int .i64 b.f.rg.co :: .int .i64 b.f.rg.fo :: .int .i64 b.f.rg.ho :: b.vm :: b.ve :: ftC l := by simp [ftC, FT.c]
   rw [e]
   cases i with
   | zero => simp
   | succ i =>
     have h' : i < l.length := by simpa using h
     have := ih i h'
     rw [show (i + 1) * 11 = i * 11 + 1 + 1 + 1 + 1 + 1 + 1 + 1 + 1 + 1 + 1 + 1 by omega]
     simpa using this
structure FC (w : World) (g o : Nat) (f : F) (vm ve : Value) : Prop where
 c0 : w.cell? ⟨g, o, none⟩ = some (.int .i64 f.ki)
 c1 : w.cell? ⟨g, o + 1, none⟩ = some (.int .i64 f.fr)
 c2 : w.cell? ⟨g, o + 2, none⟩ = some (.int .i64 f.dst)
 c3 : w.cell? ⟨g, o + 3, none⟩ = some (.int .i64 f.li)
 c4 : w.cell? ⟨g, o + 4, none⟩ = some (.int .i64 f.se)
 c5 : w.cell? ⟨g, o + 5, none⟩ = some (.bool f.ou)
 c6 : w.cell? ⟨g, o + 6, none⟩ = some (.int .i64 f.rg.co)
 c7 : w.cell? ⟨g, o + 7, none⟩ = some (.int .i64 f.rg.fo)
 c8 : w.cell? ⟨g, o + 8, none⟩ = some (.int .i64 f.rg.ho)
 c9 : w.cell? ⟨g, o + 9, none⟩ = some vm
 c10 : w.cell? ⟨g, o + 10, none⟩ = some ve
theorem OwnF.at {w : World} {B : Nat} {v : Value} {l : List F} (h : OwnF w B v l) : ∃ a c, v = .slice a l.length c ∧ ∀ i, i < l.length → ∃ g vm ve, a = some ⟨g, 0, none⟩ ∧ FC w g (i * 11) (l.getD i zF) vm ve ∧ OwnI w B vm (l.getD i zF).rg.ms ∧ HEO B w ve (l.getD i zF).rg.es := by
 obtain ⟨xs, rfl, h2, h3⟩ := h
 obtain ⟨a, c, rfl⟩ := row_shape h2
 refine ⟨a, c, by simp, fun i hi => ?_⟩
 have hi' : i < xs.length := by simpa using hi
 obtain ⟨g, c', he, _⟩ := row_head h2 (by omega)
 simp only [Value.slice.injEq, true_and] at he
 obtain ⟨rfl, rfl⟩ := he
 have hc := World.ownsRow.cellAt h2
 obtain ⟨g0, g1, g2, g3, g4, g5, g6, g7, g8, g9, g10⟩ := ftC_get xs i hi'
 have ex : (xs.map (·.f)).getD i zF = (xs.getD i zFT).f := by
  rw [List.getD_eq_getElem?_getD, List.getElem?_map, List.getD_eq_getElem?_getD, List.getElem?_eq_getElem hi']; rfl
 have hm := h3 (xs.getD i zFT) (by rw [List.getD_eq_getElem?_getD, List.getElem?_eq_getElem hi']; exact List.getElem_mem hi')
 rw [ex]
 exact ⟨g, _, _, rfl, ⟨(hc _ (by omega)).trans g0, (hc _ (by omega)).trans g1, (hc _ (by omega)).trans g2, (hc _ (by omega)).trans g3, (hc _ (by omega)).trans g4, (hc _ (by omega)).trans g5, (hc _ (by omega)).trans g6, (hc _ (by omega)).trans g7, (hc _ (by omega)).trans g8, (hc _ (by omega)).trans g9, (hc _ (by omega)).trans g10⟩, hm.1, hm.2⟩
set_option maxHeartbeats 2000000 in
set_option maxRecDepth 100000 in
theorem ndfirst_any (is : List Nat) (A : Nat → Addr) (B : Nat) (w : World) (hE : EV is w A B) (hB : B ≤ w.heap.size) (hs : ∀ i ∈ [2, 4, 5, 7], i ∈ is) (hT : Tz w) :
 Calls Tryz.prog 11 #[] w fun e w' => e = .returned (.bool true) ∧ Fr w w' [] := by
 have hk : (⟨3, 3, 1, 1⟩ : Ho).ok := by decide
 have CN := Lib.hid (fun W => (show Calls Tryz.prog 22 #[.int .i64 26] W (Gives (NewClT W (CS.new 26))) from cellNew_ok 26 W (by omega) (by omega)))
 have RN := Lib.hid (fun W => (show Calls Tryz.prog 26 #[.int .i64 3] W _ from new_yes 3 (by omega) (by omega) W))
 have NN := Lib.hid (fun q g rp W (hW : Fr w W []) (hC : Cl W q g (CS.new 26)) (hq : w.heap.size ≤ q) (hg : w.heap.size ≤ g) (hR : Rs W rp (zS 3)) (hr : w.heap.size ≤ rp) => (show Calls Tryz.prog 23 #[.agg #[.int .i64 3, .int .i64 3, .int .i64 1, .int .i64 1], .int .i64 1, .pointer (some ⟨q, 0, none⟩), .int .i64 0] W _ from nnew_any w.heap.size ⟨3, 3, 1, 1⟩ 1 0 q g rp (CS.new 26) (zS 3) is A W hk (by decide) (by decide) hC rfl (by decide) (By8.zero 26) (by decide) ((hE.fr hW (by simp)).up hB) hs hW.size hq hg hR hr))
 have TK := Lib.hid (fun m W (hW : Fr w W []) (H : NdW W w.heap.size m (newN ⟨3, 3, 1, 1⟩ 1 R1 0) s1 (zS 3)) => ntick_idle w.heap.size 3 m (newN ⟨3, 3, 1, 1⟩ 1 R1 0) s1 (zS 3) W H hk rfl rfl rfl rfl rfl (by decide) (hT.fr hW) hT.lt hW.size (fun i _ => (show (0 : Int) ≤ 0 ∧ (0 : Int) ≤ 4 by decide)) rfl (by decide) (by decide) (by decide) (by decide) (founds_early (by decide)))
 have HLI := Lib.hid (fun m W (H : NdR W m (newN ⟨3, 3, 1, 1⟩ 1 R1 0).aged) => nlife_any m _ W H)
 clear hE hB hs hT hk
 go_enter Tryz.func11, Tryz.ntmps11
 go_wp2_with fail
 with_reducible refine (CN.out _).mono ?_
 rintro e w1 ⟨u1, rfl, q, g, rfl, hcl, hq, hg, hf1⟩
 have HCL := Lib.hid hcl
 have HQ := Lib.hid (And.intro hq hg)
 have HF1 := Lib.hid hf1
 clear hcl hq hg hf1 CN
 go_wp2_with fail
 with_reducible refine (RN.out _).mono ?_
 rintro e w2 ⟨rfl, hr, hf2⟩
 have HRS := Lib.hid hr
 have HRP := Lib.hid HF1.out.size
 have HF2 := Lib.hid (HF1.out.trans hf2)
 have HC2 := Lib.hid (HCL.out.fr hf2 (by simp) (by simp))
 clear hr hf2 RN HF1 HCL
 obtain ⟨rp, hrp⟩ : ∃ b, b = w1.heap.size := ⟨_, rfl⟩
 rw [← hrp] at HRS HRP ⊢
 clear hrp
 have N1 := Lib.hid (NN.out q g rp w2 HF2.out HC2.out HQ.out.1 HQ.out.2 HRS.out HRP.out)
 clear NN
 go_wp2_with fail
 with_reducible refine (N1.out).mono ?_
 rintro e w3 ⟨u3, rfl, hn⟩
 unfold Newed at hn
 rw [open_zero, save_new, if_pos rfl] at hn
 obtain ⟨hcl3, hf3, p, sp, gp, ve, rfl, hve, hnw, hp⟩ := hn
 have HNW := Lib.hid hnw
 obtain ⟨va, vc, rfl⟩ := hve.shape
 have HF3 : Hid (Fr w w3 []) := Lib.hid (HF2.out.new hf3 (fun x hx => by
  simp only [List.mem_cons, List.not_mem_nil, or_false] at hx
  rcases hx with rfl | rfl
  · exact HQ.out.1
  · exact HQ.out.2))
 have T1 := Lib.hid (TK.out _ w3 HF3.out hnw)
 dsimp only at T1
 clear hcl3 hf3 hve hnw hp N1 TK
 rw [show [ev0 9 1 0 0].length = 1 from rfl]
 go_wp2_with fail
 with_reducible refine (T1.out).mono ?_
 rintro e w4 ⟨u4, rfl, vf, ve4, m', rfl, hof, hov, hw4, hp4, _, _, hf4⟩
 dsimp only at hp4
 have L1 := Lib.hid (HLI.out m' w4 hw4.row)
 rw [hp4] at L1
 have HF4 : Hid (Fr w w4 []) := Lib.hid (HF3.out.new hf4 (HNW.out.low))
 obtain ⟨a5, c5, rfl⟩ := hov.shape
 obtain ⟨af, cf, rfl, hat⟩ := hof.at
 obtain ⟨gf, vm0, ve0, rfl, h0, _⟩ := hat 0 (by decide)
 obtain ⟨gf', vm1, ve1, he1, h1, _⟩ := hat 1 (by decide)
 obtain rfl : gf = gf' := by simpa using he1
 have k0 : w4.cell? ⟨gf, 2, none⟩ = some (.int .i64 0) := h0.c2
 have k1 : w4.cell? ⟨gf, 13, none⟩ = some (.int .i64 2) := h1.c2
 clear hof hov hw4 hf4 hat h0 h1 he1 T1 HLI HNW HF3
 rw [show (newN ⟨3, 3, 1, 1⟩ 1 R1 0).aged.beats.length = 2 from rfl]
 go_wp2_with fail
 with_reducible refine (L1.out).mono ?_
 rintro e w5 ⟨rfl, rfl⟩
 go_wp2
 go_ret
 exact ⟨rfl, HF4.out⟩
end Go.Proofs.YtiflmkicnkbeaaaGreatDoor
namespace Go.Proofs.YtiflmkicnkbeaaaGreatDoor
open Go.RowKit Fm
theorem beatsTo_mono (n : Nd) {j k : Nat} (h : j ≤ k) : ∃ l, n.beatsTo k = n.beatsTo j ++ l := by
 induction k with
 | zero => obtain rfl : j = 0 := by omega
           exact ⟨[], rfl⟩
 | succ k ih =>
   rcases Nat.eq_or_lt_of_le h with rfl | h
   · exact ⟨[], by simp⟩
   · obtain ⟨l, hl⟩ := ih (by omega)
     by_cases q : (k : Int) = n.id
     · exact ⟨l, by rw [beatsTo_no n k q, hl]⟩
     · exact ⟨l ++ [n.beat k], by rw [beatsTo_yes n k q, hl, List.append_assoc]⟩
theorem beats_at (n : Nd) {C k : Nat} (hk : k < C) (h : (k : Int) ≠ n.id) : (n.beatsTo k).length < (n.beatsTo C).length ∧ (n.beatsTo C).getD (n.beatsTo k).length zF = n.beat k := by
 obtain ⟨l, hl⟩ := beatsTo_mono n (show k + 1 ≤ C from hk)
 rw [beatsTo_yes n k h] at hl
 rw [hl]
 refine ⟨by simp, ?_⟩
 rw [List.getD_eq_getElem?_getD, List.append_assoc, List.getElem?_append_right (Nat.le_refl _), Nat.sub_self]
 rfl
theorem alive_one (k : Nat) (hk : k < 16) (o : Bool) : alV (upP (fun _ => zP) k ⟨true, o, 3, 0⟩) 16 = if o = true then [] else [(k : Int)] := by
 rcases (by omega : k = 0 ∨ k = 1 ∨ k = 2 ∨ k = 3 ∨ k = 4 ∨ k = 5 ∨ k = 6 ∨ k = 7 ∨ k = 8 ∨ k = 9 ∨ k = 10 ∨ k = 11 ∨ k = 12 ∨ k = 13 ∨ k = 14 ∨ k = 15) with rfl | rfl | rfl | rfl | rfl | rfl | rfl | rfl | rfl | rfl | rfl | rfl | rfl | rfl | rfl | rfl
 all_goals cases o <;> rfl
theorem alive_no : alV (fun _ => zP) 16 = [] := rfl
theorem beaten_new {h : Ho} {id fr se : Int} {ou : Bool} (hf : 0 ≤ fr ∧ fr < 16) (hs : 0 ≤ se) :
 (newN h id R1 0).beaten ⟨1, fr, id, 3, se, ou, zeroR⟩ = if fr = id then newN h id R1 0 else { newN h id R1 0 with pe := upP (fun _ => zP) fr.toNat ⟨true, ou, 3, 0⟩, sn := se } := by
 unfold Nd.beaten
 by_cases q : fr = id
 · rw [if_neg (fun x => x.1 q), if_pos q]
 · rw [if_pos ⟨q, hf.1, hf.2, (by decide : (0 : Int) ≤ 3), hs, (by decide : (0 : Int) ≤ 3)⟩, if_neg q]
   have : mx (newN h id R1 0).sn se = se := by
    show mx 0 se = se
    unfold mx
    split <;> omega
   rw [this]
   rfl
theorem beat_valid {fr id se : Int} {ou : Bool} (hf : 0 ≤ fr ∧ fr < 16) (hi : 0 ≤ id ∧ id < 16) (hs : 0 ≤ se ∧ se < 281474976710656) : frameC ⟨1, fr, id, 3, se, ou, zeroR⟩ = 0 := by
 unfold frameC
 rw [if_neg (fun x => x (.inl rfl)), if_neg (fun x => x ⟨by simpa [Car] using hf, by simpa [Car] using hi⟩), if_pos rfl, if_pos ⟨⟨(by decide : (0 : Int) ≤ 3), (by decide : (3 : Int) ≤ 281474976710655)⟩, ⟨hs.1, (by show se ≤ 281474976710655; omega)⟩, rfl, rfl, rfl, rfl, rfl⟩]
set_option maxHeartbeats 8000000 in
set_option maxRecDepth 100000 in
theorem ndbeats_walk (a0 a1 a2 se : Int) (ou : Bool) (w : World) (is : List Nat) (A : Nat → Addr) (B : Nat) (h0 : (Lit.int .i64 a0).wf = true) (h1 : (Lit.int .i64 a1).wf = true) (h2 : (Lit.int .i64 a2).wf = true) (h3 : (Lit.int .i64 se).wf = true)
 (hE : EV is w A B) (hB : B ≤ w.heap.size) (hs : ∀ i ∈ [2, 3, 4, 5, 6, 7, 10], i ∈ is) (hT : Tz w) :
 Calls Tryz.prog 8 #[.int .i64 a0, .int .i64 a1, .int .i64 a2, .int .i64 se, .bool ou] w fun e w' => e = .returned (.bool true) ∧ w.grownBy w' none := by
 have FI := Lib.hid (ndfirst_any is A B w hE hB (fun i hi => hs i (by simp at hi ⊢; omega)) hT)
 obtain ⟨c0, hc0, _, hN0⟩ := numberTo_nat a0 5 (by omega) (by omega) h0
 obtain ⟨C, hC⟩ : ∃ C, C = c0 + 2 := ⟨_, rfl⟩
 have hC2 : 2 ≤ C ∧ C ≤ 6 := by omega
 obtain ⟨id, hid, _, hN1⟩ := numberTo_nat a1 C (by omega) (by omega) h1
 obtain ⟨fr, hfr, _, hN2⟩ := numberTo_nat a2 C (by omega) (by omega) h2
 have N0 := Lib.hid hN0
 have N1 := Lib.hid hN1
 have N2 := Lib.hid hN2
 have hck : (c0 : Int) + 2 = (C : Int) := by omega
 have hk : (⟨(C : Int), 4, 2, 1⟩ : Ho).ok := ⟨⟨by show (1 : Int) ≤ C; omega, by show (C : Int) ≤ 16; omega⟩, (by show (2 : Int) ≤ 4 ∧ (4 : Int) ≤ 64; decide), (by show (1 : Int) ≤ 2 ∧ (2 : Int) ≤ 8; decide), (by show (1 : Int) ≤ 1 ∧ (1 : Int) ≤ 8; decide)⟩
 obtain ⟨b31, b32⟩ := bounds_i64 h3
 clear hN0 hN1 hN2 h0 h1 h2 h3 hC hc0
 by_cases hse : 0 ≤ se ∧ se < 281474976710656
 rotate_left
 · clear hE hT hs hk
   go_enter Tryz.func8, Tryz.ntmps8
   go_wp2_with fail
   with_reducible refine (FI.out).mono ?_
   rintro e w1 ⟨rfl, hf⟩
   have F1 := Lib.hid hf
   clear hf FI
   go_wp2_with fail
   refine (N0.out _).mono ?_
   rintro e w2 ⟨rfl, rfl⟩
   go_wp2_with fail
   refine (N1.out _).mono ?_
   rintro e w2 ⟨rfl, rfl⟩
   go_wp2_with fail
   refine (N2.out _).mono ?_
   rintro e w2 ⟨rfl, rfl⟩
   by_cases q : se < 0
   · go_wp2
     go_ret
     exact ⟨rfl, F1.out.grown (by simp)⟩
   · have q2 : 281474976710656 ≤ se := by omega
     go_wp2
     go_ret
     exact ⟨rfl, F1.out.grown (by simp)⟩
 · have MA := Lib.hid (fun W (hW : Fr w W []) => nmade_any ⟨(C : Int), 4, 2, 1⟩ (id : Int) 0 is A B W hk ⟨by omega, by show (id : Int) < C; omega⟩ ⟨by omega, by show (0 : Int) ≤ (4 - 1) * 2; omega⟩ (hE.fr hW (by simp)) (Nat.le_trans hB hW.size) (fun i hi => hs i (by simp at hi ⊢; omega)))
   have HEV := Lib.hid hE
   have HSI := Lib.hid hs
   have HTZ := Lib.hid hT
   have HKH := Lib.hid hk
   have HBW := Lib.hid hB
   have t1 : ¬ se < 0 := by omega
   have t2 : ¬ 281474976710656 ≤ se := by omega
   have HSE := Lib.hid hse
   have HCC := Lib.hid hC2
   have HFR := Lib.hid hfr
   have HID := Lib.hid hid
   clear hE hs hT hk hB hse hC2 b31 b32 hfr hid
   go_enter Tryz.func8, Tryz.ntmps8
   go_wp2_with fail
   with_reducible refine (FI.out).mono ?_
   rintro e w1 ⟨rfl, hf⟩
   have F1 := Lib.hid hf
   clear hf FI
   go_wp2_with fail
   refine (N0.out _).mono ?_
   rintro e w2 ⟨rfl, rfl⟩
   go_wp2_with fail
   refine (N1.out _).mono ?_
   rintro e w2 ⟨rfl, rfl⟩
   go_wp2_with fail
   refine (N2.out _).mono ?_
   rintro e w2 ⟨rfl, rfl⟩
   have M1 := Lib.hid (MA.out _ F1.out)
   dsimp only [Ho.v] at M1
   clear MA N0 N1 N2
   go_wp2_with fail
   with_reducible refine (M1.out).mono ?_
   rintro e w3 ⟨u, rfl, m, rfl, hnw, hvm, hvc, hvp, hf3⟩
   rename_i w2
   have HW := Lib.hid hnw
   have HF3 := Lib.hid (F1.out.trans hf3)
   have HB2 := Lib.hid F1.out.size
   have HM := Lib.hid (And.intro hvm (And.intro hvc hvp))
   have HR := Lib.hid (nhear_beat m (newN ⟨(C : Int), 4, 2, 1⟩ (id : Int) R1 0) ⟨1, (fr : Int), (id : Int), 3, se, ou, zeroR⟩ (.slice none 0 0) (.slice none 0 0) is A B w3 hnw.row rfl (HEV.out.fr HF3.out (by simp)) (fun i hi => HSI.out i (by simp at hi ⊢; omega)) (nil_ints _) nil_ents rfl (beat_valid (by have := HCC.out; have := HFR.out; omega) (by have := HCC.out; have := HID.out; omega) HSE.out) rfl)
   rw [beaten_new (by have := HCC.out; have := HFR.out; omega) HSE.out.1] at HR
   unfold frV zeroR at HR
   dsimp only at HR
   clear hnw hvm hvc hvp hf3 M1
   go_wp2_with fail
   with_reducible refine (HR.out).mono ?_
   rintro e w4 ⟨rfl, hr4, hf4⟩
   have H4 := Lib.hid (fun N' (e1 : NdR w4 m N') (e2 : N'.R = R1) (e3 : N'.ga = ⟨0, 0, 0, 0⟩) (e4 : N'.ms = []) (e5 : N'.cl = []) (e6 : N'.cs = []) => HW.out.past (hf4.mono (fun y hy => .inl (by rw [List.mem_singleton.1 hy]; exact List.mem_cons_self))) rfl rfl rfl rfl rfl rfl rfl rfl e1 (by rw [e6, HM.out.2.2]; exact OwnI.nil _ _) (by rw [e5, HM.out.2.1]; exact OwnL.nil _ _) e2 e3 e4)
   have HF4 : Hid (Fr w w4 []) := Lib.hid (HF3.out.new hf4 (fun y hy => by rw [List.mem_singleton.1 hy]; exact Nat.le_trans HB2.out HW.out.lo.1))
   have HS4 := Lib.hid (Nat.le_trans (Nat.le_of_lt HW.out.row.lt) hf4.size)
   have HS24 := Lib.hid (show w1.heap.size ≤ w4.heap.size from Nat.le_trans (by have := HW.out.row.lt; have := HW.out.lo.1; omega) hf4.size)
   clear HR HF3
   by_cases hq : (fr : Int) = (id : Int)
   · rw [if_pos hq] at hr4
     have e0 : ((fr : Int) != (id : Int)) = false := by simpa using hq
     clear hq
     obtain ⟨N, hN⟩ : ∃ N, N = newN ⟨(C : Int), 4, 2, 1⟩ (id : Int) R1 0 := ⟨_, rfl⟩
     rw [← hN] at hr4
     have HNW := Lib.hid (H4.out N hr4 (by rw [hN]; rfl) (by rw [hN]; rfl) (by rw [hN]; rfl) (by rw [hN]; rfl) (by rw [hN]; rfl))
     have HALI := Lib.hid (show alV N.pe 16 = [] by rw [hN]; exact alive_no)
     have AL := Lib.hid (nalive_any m N w4 hr4)
     rw [HALI.out] at AL
     have TK := Lib.hid (fun W (hW : Fr w4 W []) => ntick_idle w1.heap.size C m N s1 (zS 4) W (HNW.out.keep hW) (by rw [hN]; exact HKH.out) (by rw [hN]; rfl) (by rw [hN]; rfl) (by rw [hN]; rfl) (by rw [hN]; rfl) (by rw [hN]; rfl) (by decide) (HTZ.out.fr (HF4.out.trans hW)) (Nat.lt_of_lt_of_le HTZ.out.lt HB2.out) (Nat.le_trans HS24.out hW.size) (by rw [hN]; exact (fun i _ => (show (0 : Int) ≤ 0 ∧ (0 : Int) ≤ 4 by decide))) (by rw [hN]; rfl) (by rw [hN]; exact Nat.zero_le _) (by rw [hN]; show (-9223372036854775808 : Int) ≤ 0 ∧ (0 : Int) < 9223372036854775807; decide) (by rw [hN]; show (-9223372036854775808 : Int) ≤ 0 ∧ (0 : Int) < 9223372036854775807; decide) (by rw [hN]; show _ ≤ max (0 : Int) (max 0 0) ∧ max (0 : Int) (max 0 0) ≤ _; have := HSE.out; omega) (founds_early (by rw [hN]; show (0 : Int) + 1 ≤ 4 * (C : Int) + 8; have := HCC.out; omega)))
     have HBL := Lib.hid (show N.aged.beats.length + 1 = C ∧ N.aged.beats = N.aged.beatsTo C from ⟨by
      rw [Nd.beats_len (by rw [hN]; show (0 : Int) ≤ id; omega) (by rw [hN]; show (id : Int) < C; have := HID.out; omega)]
      rw [hN]
      show (C : Int).toNat - 1 + 1 = C
      have := HCC.out
      simp
      omega, by unfold Nd.beats; rw [hN]; show _ = Nd.beatsTo _ C; congr 1⟩)
     have HBT := Lib.hid (show ∀ k : Nat, N.aged.beat (k : Int) = ⟨1, (id : Int), (k : Int), 1, 0, false, zeroR⟩ ∧ N.aged.id = (id : Int) from fun k => by
      rw [hN]
      refine ⟨?_, rfl⟩
      show (⟨1, _, _, _, max (0 : Int) (max 0 0), _, zeroR⟩ : F) = _
      first | rfl | (congr 1; have := HSE.out; omega))
     clear hN hr4 H4 HNW HALI hf4
     go_wp2_with fail
     with_reducible refine (AL.out).mono ?_
     rintro e w5 ⟨u5, rfl, ho5, hf5⟩
     obtain ⟨a5, c5, rfl⟩ := row_shape ho5
     have HF5 := Lib.hid hf5
     have T1 := Lib.hid (TK.out w5 hf5)
     clear ho5 hf5 AL TK
     rw [show ([] : List Int).length = 0 from rfl]
     go_wp2_with fail
     with_reducible refine (T1.out).mono ?_
     rintro e w6 ⟨u6, rfl, vf, ve6, m', rfl, hof, hov, hw6, hp6, _, _, hf6⟩
     obtain ⟨a6, c6, rfl⟩ := hov.shape
     obtain ⟨af, cf, rfl, hat⟩ := hof.at
     have HAT := Lib.hid hat
     obtain ⟨L, hL⟩ : ∃ L, L = N.aged.beats.length := ⟨_, rfl⟩
     rw [← hL] at HBL HAT ⊢
     have hL1 : (C : Int) - 1 = (L : Int) := by have := HBL.out.1; omega
     have HF6 : Hid (Fr w w6 []) := Lib.hid ((HF4.out.trans HF5.out).new hf6 (fun y hy => by
      have h1 := HW.out.lo.1
      rcases List.mem_cons.1 hy with rfl | hy
      · exact Nat.le_trans HB2.out h1
      · rw [HM.out.2.2, HM.out.2.1] at hy
        simp [Value.ownBlock] at hy))
     have HLL := Lib.hid hL
     clear hof hov hw6 hp6 hf6 hat T1 HW HM HF4 HF5 hL
     go_wp2_with fail
     go_loopw [19, 20] (fun s19 s20 wx => ∃ (k : Nat), s20 = .int .i64 k ∧ s19 = .int .i64 ((N.aged.beatsTo k).length : Nat) ∧ Hid (k ≤ C) ∧ Hid (Fr w6 wx [])) (fun _ s20 _ => C - (intOf s20).toNat)
     case atStart => exact ⟨0, rfl, rfl, Lib.hid (Nat.zero_le _), Lib.hid (Fr.refl _ _)⟩
     case round =>
      obtain ⟨k, rfl, rfl, HK, HFX⟩ := hrel
      have hk := HK.out
      by_cases hlt : k < C
      · by_cases hq : k = id
        · subst hq
          have HNX := Lib.hid (beatsTo_no N.aged k (HBT.out k).2.symm)
          rw [← HNX.out]
          clear HNX
          go_wp2
          go_roundw
          case rel => exact ⟨k + 1, by go_num, rfl, Lib.hid (by omega), HFX⟩
          case measure => simp [intOf]; omega
        · have hq1 : ((k : Int) == (id : Int)) = false := by simp; omega
          have hq2 : (k : Int) ≠ N.aged.id := by rw [(HBT.out k).2]; omega
          have HYE := Lib.hid (beatsTo_yes N.aged k hq2)
          have HBA := Lib.hid (beats_at N.aged hlt hq2)
          have HB1 := Lib.hid (show (N.aged.beatsTo k).length < L ∧ N.aged.beats.getD (N.aged.beatsTo k).length zF = N.aged.beat k by rw [HLL.out, HBL.out.2]; exact HBA.out)
          have HY2 := Lib.hid (show (N.aged.beatsTo (k + 1)).length = (N.aged.beatsTo k).length + 1 by rw [HYE.out]; simp)
          obtain ⟨j, hj⟩ : ∃ j, j = (N.aged.beatsTo k).length := ⟨_, rfl⟩
          rw [← hj] at HB1 HY2 ⊢
          have hjL := HB1.out.1
          obtain ⟨g, vm, ve, rfl, hfc, hms, hes⟩ := HAT.out j hjL
          rw [HB1.out.2, (HBT.out k).1] at hfc
          obtain ⟨ma, mk, mc, rfl⟩ : ∃ a k c, vm = .slice a k c := by obtain ⟨a, c, e⟩ := row_shape hms; exact ⟨a, _, c, e⟩
          obtain ⟨ea, ek, ec, rfl⟩ : ∃ a k c, ve = .slice a k c := by obtain ⟨zs, h1, _⟩ := hes; obtain ⟨a, c, e⟩ := h1.shape; exact ⟨a, _, c, e⟩
          have y0 := HFX.out.cell hfc.c0 (by simp)
          have y1 := HFX.out.cell hfc.c1 (by simp)
          have y2 := HFX.out.cell hfc.c2 (by simp)
          have y3 := HFX.out.cell hfc.c3 (by simp)
          have y4 := HFX.out.cell hfc.c4 (by simp)
          have y5 := HFX.out.cell hfc.c5 (by simp)
          have y6 := HFX.out.cell hfc.c6 (by simp)
          have y7 := HFX.out.cell hfc.c7 (by simp)
          have y8 := HFX.out.cell hfc.c8 (by simp)
          have y9 := HFX.out.cell hfc.c9 (by simp)
          have y10 := HFX.out.cell hfc.c10 (by simp)
          dsimp only [zeroR] at y0 y1 y2 y3 y4 y5 y6 y7 y8
          have HFN := Lib.hid (HFX.out.trans (Fr.alloc wr (.cells #[.int .i64 1, .int .i64 (id : Int), .int .i64 (k : Int), .int .i64 1, .int .i64 0, .bool false, .int .i64 0, .int .i64 0, .int .i64 0, .slice ma mk mc, .slice ea ek ec] 41) []))
          have hjb : (j : Int) < 140737488355328 := by have := HCC.out; have := HBL.out.1; omega
          clear hfc hms hes HB1 HBA HYE hj hq hq2
          go_wp2
          go_roundw
          case rel => exact ⟨k + 1, by go_num, by rw [HY2.out]; go_num, Lib.hid (by omega), HFN⟩
          case measure => simp [intOf]; omega
      · obtain rfl : k = C := by omega
        have HFE := Lib.hid (HF6.out.trans HFX.out)
        go_wp2
        go_ret
        exact ⟨rfl, HFE.out.grown (by simp)⟩
   · rw [if_neg hq] at hr4
     have e0 : ((fr : Int) != (id : Int)) = true := by simpa using hq
     clear hq
     cases ou with
     | true =>
       obtain ⟨N, hN⟩ : ∃ N, N = ({ newN ⟨(C : Int), 4, 2, 1⟩ (id : Int) R1 0 with pe := upP (fun _ => zP) (fr : Int).toNat ⟨true, true, 3, 0⟩, sn := se } : Nd) := ⟨_, rfl⟩
       rw [← hN] at hr4
       have HNW := Lib.hid (H4.out N hr4 (by rw [hN]; rfl) (by rw [hN]; rfl) (by rw [hN]; rfl) (by rw [hN]; rfl) (by rw [hN]; rfl))
       have HALI := Lib.hid (show alV N.pe 16 = [] by rw [hN]; show alV (upP (fun _ => zP) (fr : Int).toNat _) 16 = _; rw [Int.toNat_natCast]; exact alive_one fr (by have := HCC.out; have := HFR.out; omega) true)
       have AL := Lib.hid (nalive_any m N w4 hr4)
       rw [HALI.out] at AL
       have TK := Lib.hid (fun W (hW : Fr w4 W []) => ntick_idle w1.heap.size C m N s1 (zS 4) W (HNW.out.keep hW) (by rw [hN]; exact HKH.out) (by rw [hN]; rfl) (by rw [hN]; rfl) (by rw [hN]; rfl) (by rw [hN]; rfl) (by rw [hN]; rfl) (by decide) (HTZ.out.fr (HF4.out.trans hW)) (Nat.lt_of_lt_of_le HTZ.out.lt HB2.out) (Nat.le_trans HS24.out hW.size) (by rw [hN]; exact AgOk.up (fun i _ => (show (0 : Int) ≤ 0 ∧ (0 : Int) ≤ 4 by decide)) _ _ (by decide) (by decide)) (by rw [hN]; rfl) (by rw [hN]; exact Nat.zero_le _) (by rw [hN]; show (-9223372036854775808 : Int) ≤ 0 ∧ (0 : Int) < 9223372036854775807; decide) (by rw [hN]; show (-9223372036854775808 : Int) ≤ 0 ∧ (0 : Int) < 9223372036854775807; decide) (by rw [hN]; show _ ≤ max (0 : Int) (max se 0) ∧ max (0 : Int) (max se 0) ≤ _; have := HSE.out; omega) (founds_early (by rw [hN]; show (0 : Int) + 1 ≤ 4 * (C : Int) + 8; have := HCC.out; omega)))
       have HBL := Lib.hid (show N.aged.beats.length + 1 = C ∧ N.aged.beats = N.aged.beatsTo C from ⟨by
        rw [Nd.beats_len (by rw [hN]; show (0 : Int) ≤ id; omega) (by rw [hN]; show (id : Int) < C; have := HID.out; omega)]
        rw [hN]
        show (C : Int).toNat - 1 + 1 = C
        have := HCC.out
        simp
        omega, by unfold Nd.beats; rw [hN]; show _ = Nd.beatsTo _ C; congr 1⟩)
       have HBT := Lib.hid (show ∀ k : Nat, N.aged.beat (k : Int) = ⟨1, (id : Int), (k : Int), 1, se, false, zeroR⟩ ∧ N.aged.id = (id : Int) from fun k => by
        rw [hN]
        refine ⟨?_, rfl⟩
        show (⟨1, _, _, _, max (0 : Int) (max se 0), _, zeroR⟩ : F) = _
        first | rfl | (congr 1; have := HSE.out; omega))
       clear hN hr4 H4 HNW HALI hf4
       go_wp2_with fail
       with_reducible refine (AL.out).mono ?_
       rintro e w5 ⟨u5, rfl, ho5, hf5⟩
       obtain ⟨a5, c5, rfl⟩ := row_shape ho5
       have HF5 := Lib.hid hf5
       have T1 := Lib.hid (TK.out w5 hf5)
       clear ho5 hf5 AL TK
       rw [show ([] : List Int).length = 0 from rfl]
       go_wp2_with fail
       with_reducible refine (T1.out).mono ?_
       rintro e w6 ⟨u6, rfl, vf, ve6, m', rfl, hof, hov, hw6, hp6, _, _, hf6⟩
       obtain ⟨a6, c6, rfl⟩ := hov.shape
       obtain ⟨af, cf, rfl, hat⟩ := hof.at
       have HAT := Lib.hid hat
       obtain ⟨L, hL⟩ : ∃ L, L = N.aged.beats.length := ⟨_, rfl⟩
       rw [← hL] at HBL HAT ⊢
       have hL1 : (C : Int) - 1 = (L : Int) := by have := HBL.out.1; omega
       have HF6 : Hid (Fr w w6 []) := Lib.hid ((HF4.out.trans HF5.out).new hf6 (fun y hy => by
        have h1 := HW.out.lo.1
        rcases List.mem_cons.1 hy with rfl | hy
        · exact Nat.le_trans HB2.out h1
        · rw [HM.out.2.2, HM.out.2.1] at hy
          simp [Value.ownBlock] at hy))
       have HLL := Lib.hid hL
       clear hof hov hw6 hp6 hf6 hat T1 HW HM HF4 HF5 hL
       go_wp2_with fail
       go_loopw [19, 20] (fun s19 s20 wx => ∃ (k : Nat), s20 = .int .i64 k ∧ s19 = .int .i64 ((N.aged.beatsTo k).length : Nat) ∧ Hid (k ≤ C) ∧ Hid (Fr w6 wx [])) (fun _ s20 _ => C - (intOf s20).toNat)
       case atStart => exact ⟨0, rfl, rfl, Lib.hid (Nat.zero_le _), Lib.hid (Fr.refl _ _)⟩
       case round =>
        obtain ⟨k, rfl, rfl, HK, HFX⟩ := hrel
        have hk := HK.out
        by_cases hlt : k < C
        · by_cases hq : k = id
          · subst hq
            have HNX := Lib.hid (beatsTo_no N.aged k (HBT.out k).2.symm)
            rw [← HNX.out]
            clear HNX
            go_wp2
            go_roundw
            case rel => exact ⟨k + 1, by go_num, rfl, Lib.hid (by omega), HFX⟩
            case measure => simp [intOf]; omega
          · have hq1 : ((k : Int) == (id : Int)) = false := by simp; omega
            have hq2 : (k : Int) ≠ N.aged.id := by rw [(HBT.out k).2]; omega
            have HYE := Lib.hid (beatsTo_yes N.aged k hq2)
            have HBA := Lib.hid (beats_at N.aged hlt hq2)
            have HB1 := Lib.hid (show (N.aged.beatsTo k).length < L ∧ N.aged.beats.getD (N.aged.beatsTo k).length zF = N.aged.beat k by rw [HLL.out, HBL.out.2]; exact HBA.out)
            have HY2 := Lib.hid (show (N.aged.beatsTo (k + 1)).length = (N.aged.beatsTo k).length + 1 by rw [HYE.out]; simp)
            obtain ⟨j, hj⟩ : ∃ j, j = (N.aged.beatsTo k).length := ⟨_, rfl⟩
            rw [← hj] at HB1 HY2 ⊢
            have hjL := HB1.out.1
            obtain ⟨g, vm, ve, rfl, hfc, hms, hes⟩ := HAT.out j hjL
            rw [HB1.out.2, (HBT.out k).1] at hfc
            obtain ⟨ma, mk, mc, rfl⟩ : ∃ a k c, vm = .slice a k c := by obtain ⟨a, c, e⟩ := row_shape hms; exact ⟨a, _, c, e⟩
            obtain ⟨ea, ek, ec, rfl⟩ : ∃ a k c, ve = .slice a k c := by obtain ⟨zs, h1, _⟩ := hes; obtain ⟨a, c, e⟩ := h1.shape; exact ⟨a, _, c, e⟩
            have y0 := HFX.out.cell hfc.c0 (by simp)
            have y1 := HFX.out.cell hfc.c1 (by simp)
            have y2 := HFX.out.cell hfc.c2 (by simp)
            have y3 := HFX.out.cell hfc.c3 (by simp)
            have y4 := HFX.out.cell hfc.c4 (by simp)
            have y5 := HFX.out.cell hfc.c5 (by simp)
            have y6 := HFX.out.cell hfc.c6 (by simp)
            have y7 := HFX.out.cell hfc.c7 (by simp)
            have y8 := HFX.out.cell hfc.c8 (by simp)
            have y9 := HFX.out.cell hfc.c9 (by simp)
            have y10 := HFX.out.cell hfc.c10 (by simp)
            dsimp only [zeroR] at y0 y1 y2 y3 y4 y5 y6 y7 y8
            have HFN := Lib.hid (HFX.out.trans (Fr.alloc wr (.cells #[.int .i64 1, .int .i64 (id : Int), .int .i64 (k : Int), .int .i64 1, .int .i64 se, .bool false, .int .i64 0, .int .i64 0, .int .i64 0, .slice ma mk mc, .slice ea ek ec] 41) []))
            have hjb : (j : Int) < 140737488355328 := by have := HCC.out; have := HBL.out.1; omega
            clear hfc hms hes HB1 HBA HYE hj hq hq2
            go_wp2
            go_roundw
            case rel => exact ⟨k + 1, by go_num, by rw [HY2.out]; go_num, Lib.hid (by omega), HFN⟩
            case measure => simp [intOf]; omega
        · obtain rfl : k = C := by omega
          have HFE := Lib.hid (HF6.out.trans HFX.out)
          go_wp2
          go_ret
          exact ⟨rfl, HFE.out.grown (by simp)⟩
     | false =>
       obtain ⟨N, hN⟩ : ∃ N, N = ({ newN ⟨(C : Int), 4, 2, 1⟩ (id : Int) R1 0 with pe := upP (fun _ => zP) (fr : Int).toNat ⟨true, false, 3, 0⟩, sn := se } : Nd) := ⟨_, rfl⟩
       rw [← hN] at hr4
       have HNW := Lib.hid (H4.out N hr4 (by rw [hN]; rfl) (by rw [hN]; rfl) (by rw [hN]; rfl) (by rw [hN]; rfl) (by rw [hN]; rfl))
       have HALI := Lib.hid (show alV N.pe 16 = [(fr : Int)] by rw [hN]; show alV (upP (fun _ => zP) (fr : Int).toNat _) 16 = _; rw [Int.toNat_natCast]; exact alive_one fr (by have := HCC.out; have := HFR.out; omega) false)
       have AL := Lib.hid (nalive_any m N w4 hr4)
       rw [HALI.out] at AL
       have TK := Lib.hid (fun W (hW : Fr w4 W []) => ntick_idle w1.heap.size C m N s1 (zS 4) W (HNW.out.keep hW) (by rw [hN]; exact HKH.out) (by rw [hN]; rfl) (by rw [hN]; rfl) (by rw [hN]; rfl) (by rw [hN]; rfl) (by rw [hN]; rfl) (by decide) (HTZ.out.fr (HF4.out.trans hW)) (Nat.lt_of_lt_of_le HTZ.out.lt HB2.out) (Nat.le_trans HS24.out hW.size) (by rw [hN]; exact AgOk.up (fun i _ => (show (0 : Int) ≤ 0 ∧ (0 : Int) ≤ 4 by decide)) _ _ (by decide) (by decide)) (by rw [hN]; rfl) (by rw [hN]; exact Nat.zero_le _) (by rw [hN]; show (-9223372036854775808 : Int) ≤ 0 ∧ (0 : Int) < 9223372036854775807; decide) (by rw [hN]; show (-9223372036854775808 : Int) ≤ 0 ∧ (0 : Int) < 9223372036854775807; decide) (by rw [hN]; show _ ≤ max (0 : Int) (max se 0) ∧ max (0 : Int) (max se 0) ≤ _; have := HSE.out; omega) (founds_early (by rw [hN]; show (0 : Int) + 1 ≤ 4 * (C : Int) + 8; have := HCC.out; omega)))
       have HBL := Lib.hid (show N.aged.beats.length + 1 = C ∧ N.aged.beats = N.aged.beatsTo C from ⟨by
        rw [Nd.beats_len (by rw [hN]; show (0 : Int) ≤ id; omega) (by rw [hN]; show (id : Int) < C; have := HID.out; omega)]
        rw [hN]
        show (C : Int).toNat - 1 + 1 = C
        have := HCC.out
        simp
        omega, by unfold Nd.beats; rw [hN]; show _ = Nd.beatsTo _ C; congr 1⟩)
       have HBT := Lib.hid (show ∀ k : Nat, N.aged.beat (k : Int) = ⟨1, (id : Int), (k : Int), 1, se, false, zeroR⟩ ∧ N.aged.id = (id : Int) from fun k => by
        rw [hN]
        refine ⟨?_, rfl⟩
        show (⟨1, _, _, _, max (0 : Int) (max se 0), _, zeroR⟩ : F) = _
        first | rfl | (congr 1; have := HSE.out; omega))
       clear hN hr4 H4 HNW HALI hf4
       go_wp2_with fail
       with_reducible refine (AL.out).mono ?_
       rintro e w5 ⟨u5, rfl, ho5, hf5⟩
       obtain ⟨a5, c5, rfl⟩ := row_shape ho5
       have HF5 := Lib.hid hf5
       have T1 := Lib.hid (TK.out w5 hf5)
       clear ho5 hf5 AL TK
       rw [show ([(fr : Int)] : List Int).length = 1 from rfl]
       go_wp2_with fail
       with_reducible refine (T1.out).mono ?_
       rintro e w6 ⟨u6, rfl, vf, ve6, m', rfl, hof, hov, hw6, hp6, _, _, hf6⟩
       obtain ⟨a6, c6, rfl⟩ := hov.shape
       obtain ⟨af, cf, rfl, hat⟩ := hof.at
       have HAT := Lib.hid hat
       obtain ⟨L, hL⟩ : ∃ L, L = N.aged.beats.length := ⟨_, rfl⟩
       rw [← hL] at HBL HAT ⊢
       have hL1 : (C : Int) - 1 = (L : Int) := by have := HBL.out.1; omega
       have HF6 : Hid (Fr w w6 []) := Lib.hid ((HF4.out.trans HF5.out).new hf6 (fun y hy => by
        have h1 := HW.out.lo.1
        rcases List.mem_cons.1 hy with rfl | hy
        · exact Nat.le_trans HB2.out h1
        · rw [HM.out.2.2, HM.out.2.1] at hy
          simp [Value.ownBlock] at hy))
       have HLL := Lib.hid hL
       clear hof hov hw6 hp6 hf6 hat T1 HW HM HF4 HF5 hL
       go_wp2_with fail
       go_loopw [19, 20] (fun s19 s20 wx => ∃ (k : Nat), s20 = .int .i64 k ∧ s19 = .int .i64 ((N.aged.beatsTo k).length : Nat) ∧ Hid (k ≤ C) ∧ Hid (Fr w6 wx [])) (fun _ s20 _ => C - (intOf s20).toNat)
       case atStart => exact ⟨0, rfl, rfl, Lib.hid (Nat.zero_le _), Lib.hid (Fr.refl _ _)⟩
       case round =>
        obtain ⟨k, rfl, rfl, HK, HFX⟩ := hrel
        have hk := HK.out
        by_cases hlt : k < C
        · by_cases hq : k = id
          · subst hq
            have HNX := Lib.hid (beatsTo_no N.aged k (HBT.out k).2.symm)
            rw [← HNX.out]
            clear HNX
            go_wp2
            go_roundw
            case rel => exact ⟨k + 1, by go_num, rfl, Lib.hid (by omega), HFX⟩
            case measure => simp [intOf]; omega
          · have hq1 : ((k : Int) == (id : Int)) = false := by simp; omega
            have hq2 : (k : Int) ≠ N.aged.id := by rw [(HBT.out k).2]; omega
            have HYE := Lib.hid (beatsTo_yes N.aged k hq2)
            have HBA := Lib.hid (beats_at N.aged hlt hq2)
            have HB1 := Lib.hid (show (N.aged.beatsTo k).length < L ∧ N.aged.beats.getD (N.aged.beatsTo k).length zF = N.aged.beat k by rw [HLL.out, HBL.out.2]; exact HBA.out)
            have HY2 := Lib.hid (show (N.aged.beatsTo (k + 1)).length = (N.aged.beatsTo k).length + 1 by rw [HYE.out]; simp)
            obtain ⟨j, hj⟩ : ∃ j, j = (N.aged.beatsTo k).length := ⟨_, rfl⟩
            rw [← hj] at HB1 HY2 ⊢
            have hjL := HB1.out.1
            obtain ⟨g, vm, ve, rfl, hfc, hms, hes⟩ := HAT.out j hjL
            rw [HB1.out.2, (HBT.out k).1] at hfc
            obtain ⟨ma, mk, mc, rfl⟩ : ∃ a k c, vm = .slice a k c := by obtain ⟨a, c, e⟩ := row_shape hms; exact ⟨a, _, c, e⟩
            obtain ⟨ea, ek, ec, rfl⟩ : ∃ a k c, ve = .slice a k c := by obtain ⟨zs, h1, _⟩ := hes; obtain ⟨a, c, e⟩ := h1.shape; exact ⟨a, _, c, e⟩
            have y0 := HFX.out.cell hfc.c0 (by simp)
            have y1 := HFX.out.cell hfc.c1 (by simp)
            have y2 := HFX.out.cell hfc.c2 (by simp)
            have y3 := HFX.out.cell hfc.c3 (by simp)
            have y4 := HFX.out.cell hfc.c4 (by simp)
            have y5 := HFX.out.cell hfc.c5 (by simp)
            have y6 := HFX.out.cell hfc.c6 (by simp)
            have y7 := HFX.out.cell hfc.c7 (by simp)
            have y8 := HFX.out.cell hfc.c8 (by simp)
            have y9 := HFX.out.cell hfc.c9 (by simp)
            have y10 := HFX.out.cell hfc.c10 (by simp)
            dsimp only [zeroR] at y0 y1 y2 y3 y4 y5 y6 y7 y8
            have HFN := Lib.hid (HFX.out.trans (Fr.alloc wr (.cells #[.int .i64 1, .int .i64 (id : Int), .int .i64 (k : Int), .int .i64 1, .int .i64 se, .bool false, .int .i64 0, .int .i64 0, .int .i64 0, .slice ma mk mc, .slice ea ek ec] 41) []))
            have hjb : (j : Int) < 140737488355328 := by have := HCC.out; have := HBL.out.1; omega
            clear hfc hms hes HB1 HBA HYE hj hq hq2
            go_wp2
            go_roundw
            case rel => exact ⟨k + 1, by go_num, by rw [HY2.out]; go_num, Lib.hid (by omega), HFN⟩
            case measure => simp [intOf]; omega
        · obtain rfl : k = C := by omega
          have HFE := Lib.hid (HF6.out.trans HFX.out)
          go_wp2
          go_ret
          exact ⟨rfl, HFE.out.grown (by simp)⟩
end Go.Proofs.YtiflmkicnkbeaaaGreatDoor
namespace Go.Proofs.YtiflmkicnkbeaaaGreatDoor
open Go.RowKit Go.ChangeShapes Go.WideShapes
theorem own : ownKnob Tryz.prog.godebug = none := by kernel_rfl
theorem star : "*" ++ "errors.errorString" = "*errors.errorString" := by decide
theorem rowErr (u : TypeId) (h : Tryz.prog.typeName? 3 u = some "*errors.errorString") : u = 417 :=
 typeName_ptr_named (nm := "errors.errorString") (by rw [star]; kernel_rfl) (by kernel_rfl) (by decide) u (by rw [star]; exact h)
theorem cellsStr : Tryz.prog.cellsOf 436 = 1 := by kernel_rfl
theorem cellsString : Tryz.prog.cellsOf 9 = 1 := by kernel_rfl
def sent {H : Type} (x : List UInt8) : DataW H := .iface "*errors.errorString" (.ptr (.agg [.lit (.string x)]))
def LaidAt (W : World) (n : String) (x : List UInt8) (a : Addr) : Prop :=
 ∃ g s, Tryz.prog.globalNamed n = some g ∧ W.cell? ⟨g, 0, none⟩ = some (.iface 417 (.pointer (some a))) ∧ W.cell? a = some (.string s) ∧ s.data.toList = x ∧ ∃ c t, W.heap[a.block]? = some (.cells c t (0, 0))
set_option maxRecDepth 100000 in
theorem laid_list {W : World} : ∀ (L : List (String × List UInt8)) (ps : List MemPlace), DataW.LaidVars Tryz.prog W (L.map fun x => (x.1, sent x.2)) ps →
 (∀ b off, MemPlace.cell b off ∈ ps → (∃ c t, W.heap[b]? = some (.cells c t (0, 0))) ∧ ∀ u v, W.cell? ⟨b, off, none⟩ = some (.iface u v) → Value.okWide Tryz.prog W .any 0 u v) →
 (∀ x ∈ L, ∀ g, Tryz.prog.globalNamed x.1 = some g → (Tryz.prog.globals[g]?).map (·.type) = some 58) → ∃ ads : List Addr, ads.length = L.length ∧ ∀ i n x, L[i]? = some (n, x) → LaidAt W n x (ads.getD i ⟨0, 0, none⟩)
 | [], _, _, _, _ => ⟨[], rfl, fun i n x h => by simp at h⟩
 | (n, x) :: L, ps, hl, hr, ht => by
   obtain ⟨g, t, cs, f, p, q, hg, hty, hv, hd, hrest, rfl⟩ := hl
   obtain rfl := Option.some.inj (hty.symm.trans (ht (n, x) (by simp) g hg))
   obtain ⟨ads, hlen, hall⟩ := laid_list L q hrest (fun b off h => hr b off (by simp [h])) (fun y hy => ht y (by simp [hy]))
   obtain ⟨l0⟩ := cs
   have ok0 : ∀ u v, l0 = [.iface u v] → Value.okWide Tryz.prog W .any 0 u v := fun u v e => by
    subst e
    exact (hr g 0 (by simp [MemPlace.row])).2 u v (by simpa using World.var?_cell hg hv 0)
   obtain ⟨a0, s0, rfl, hc0, hs0, hz0, rfl⟩ := errorString_of_trod Tryz.underlying58 rowErr Tryz.underlying417 Tryz.underlying436 rfl rfl Tryz.underlying9 cellsStr cellsString hd ok0
   obtain ⟨c0, t0, hb0⟩ := (hr a0.block a0.off (by simp [MemPlace.row])).1
   refine ⟨a0 :: ads, by simp [hlen], fun i m y hi => ?_⟩
   match i, hi with
   | 0, hi =>
     simp only [List.getElem?_cons_zero, Option.some.injEq, Prod.mk.injEq] at hi
     obtain ⟨rfl, rfl⟩ := hi
     exact ⟨g, s0, hg, by simpa using World.var?_cell hg hv 0, hc0, hs0, c0, t0, hb0⟩
   | i + 1, hi => exact hall i m y (by simpa using hi)
def errRows : List (String × List UInt8) := [("paternoster/api.ErrEnd", [105, 116, 32, 101, 110, 100, 115, 32, 116, 111, 111, 32, 101, 97, 114, 108, 121]), ("paternoster/api.ErrShape", [110, 111, 116, 32, 97, 115, 32, 105, 116, 32, 104, 97, 115, 32, 116, 111, 32, 98, 101]), ("paternoster/api.ErrRange", [97, 32, 110, 117, 109, 98, 101, 114, 32, 111, 117, 116, 32, 111, 102, 32, 105, 116, 115, 32, 114, 97, 110, 103, 101]), ("paternoster/api.ErrMany", [116, 111, 111, 32, 109, 97, 110, 121]), ("paternoster/api.ErrPower", [116, 104, 101, 32, 112, 111, 119, 101, 114, 32, 105, 115, 32, 103, 111, 110, 101]), ("paternoster/api.ErrNone", [116, 104, 101, 114, 101, 32, 105, 115, 32, 110, 111, 110, 101]), ("paternoster/api.ErrKind", [110, 111, 116, 32, 111, 102, 32, 116, 104, 97, 116, 32, 107, 105, 110, 100]), ("paternoster/api.ErrOrder", [110, 111, 116, 32, 105, 110, 32, 116, 104, 97, 116, 32, 111, 114, 100, 101, 114]), ("paternoster/api.ErrDoor", [110, 111, 116, 32, 119, 105, 116, 104, 32, 116, 104, 101, 32, 100, 111, 111, 114, 32, 115, 111]), ("paternoster/api.ErrFloor", [110, 111, 116, 32, 97, 116, 32, 116, 104, 97, 116, 32, 102, 108, 111, 111, 114]), ("paternoster/api.ErrTwice", [116, 104, 101, 114, 101, 32, 105, 115, 32, 111, 110, 101]), ("paternoster/api.ErrWord", [110, 111, 32, 115, 117, 99, 104, 32, 119, 111, 114, 100]), ("paternoster/api.ErrNumber", [110, 111, 116, 32, 97, 32, 110, 117, 109, 98, 101, 114])]
theorem errNames : ∀ i, i < 13 → ∃ n x, errRows[i]? = some (n, x) ∧ Tryz.prog.globalNamed n = some (errVars.getD i 0) := by
 intro i hi
 match i, hi with
 | 0, _ => exact ⟨_, _, rfl, by kernel_rfl⟩
 | 1, _ => exact ⟨_, _, rfl, by kernel_rfl⟩
 | 2, _ => exact ⟨_, _, rfl, by kernel_rfl⟩
 | 3, _ => exact ⟨_, _, rfl, by kernel_rfl⟩
 | 4, _ => exact ⟨_, _, rfl, by kernel_rfl⟩
 | 5, _ => exact ⟨_, _, rfl, by kernel_rfl⟩
 | 6, _ => exact ⟨_, _, rfl, by kernel_rfl⟩
 | 7, _ => exact ⟨_, _, rfl, by kernel_rfl⟩
 | 8, _ => exact ⟨_, _, rfl, by kernel_rfl⟩
 | 9, _ => exact ⟨_, _, rfl, by kernel_rfl⟩
 | 10, _ => exact ⟨_, _, rfl, by kernel_rfl⟩
 | 11, _ => exact ⟨_, _, rfl, by kernel_rfl⟩
 | 12, _ => exact ⟨_, _, rfl, by kernel_rfl⟩
theorem errTypes : ∀ x ∈ errRows, ∀ g, Tryz.prog.globalNamed x.1 = some g → (Tryz.prog.globals[g]?).map (·.type) = some 58 := by
 have h : (errRows.all fun x => match Tryz.prog.globalNamed x.1 with | some g => (Tryz.prog.globals[g]?).map (·.type) == some 58 | none => true) = true := by kernel_rfl
 intro x hx g hg
 have := List.all_eq_true.1 h x hx
 rw [hg] at this
 simpa using this
def errPick (is : List Nat) : List (String × List UInt8) := is.map fun i => errRows.getD i ("", [])
def tabs : List (String × DataW Unit) := [("math/bits.deBruijn64tab", Rows.laid_math_bits_deBruijn64tab)]
def debI : List Int := Lib.deBruijn64tab.map fun n : Nat => (n : Int)
theorem deb_data : (Rows.laid_math_bits_deBruijn64tab : DataW Unit) = Lib.tabData .u8 debI := by kernel_rfl
def laidB (is : List Nat) : List (String × DataW Unit) := tabs ++ (errPick is).map fun x => (x.1, sent x.2)
theorem both_of_laid {W : World} (is : List Nat) {laid : List (String × DataW Unit)} (hl : laid = laidB is) (h : laidMetH Tryz.prog laid W) (his : ∀ i ∈ is, i < 13 := by decide) (hp : ((laidB is).all fun x => x.2.handleName?.isNone) = true := by decide) : Tz W ∧ ∃ A, EV is W A W.heap.size := by
 subst hl
 rw [MakeChecks.laidMetH_plain _ _ _ hp] at h
 obtain ⟨ps, ⟨g, t, cs, fuel, p, q, hg, ht, hvar, hd, hrest, rfl⟩, _, hr⟩ := h
 refine ⟨?_, ?_⟩
 · obtain rfl : 13 = g := Option.some.inj ((show Tryz.prog.globalNamed "math/bits.deBruijn64tab" = some 13 by kernel_rfl).symm.trans hg)
   obtain rfl : 416 = t := Option.some.inj ((show (Tryz.prog.globals[13]?).map (·.type) = some 416 by kernel_rfl).symm.trans ht)
   rw [deb_data] at hd
   have hcs := Lib.cells_of_tab Tryz.underlying416 Tryz.underlying5 (by kernel_rfl) (by kernel_rfl) hd
   intro j hj
   have hcell := World.var?_cell hg hvar j
   have hl : j < Lib.deBruijn64tab.length := hj
   rw [hcell]
   have e : cs.toList = _ := hcs
   rw [← Array.getElem?_toList, e]
   simp [debI, List.getD, hl]
 · have hmem : ∀ x ∈ errPick is, x ∈ errRows := by
    intro x hx
    obtain ⟨i, hi, rfl⟩ := List.mem_map.1 hx
    have hi13 := his i hi
    have : i < errRows.length := hi13
    simp [List.getD, this]
   obtain ⟨ads, hlen, hall⟩ := laid_list (errPick is) q hrest (fun b off h => hr b off (by simp [h])) (fun x hx => errTypes x (hmem x hx))
   have key : ∀ j i, is[j]? = some i → W.cell? ⟨errVars.getD i 0, 0, none⟩ = some (.iface 417 (.pointer (some (ads.getD j ⟨0, 0, none⟩)))) := by
    intro j i hj
    have hi := his i (List.mem_of_getElem? hj)
    obtain ⟨n, x, hx, hn⟩ := errNames i hi
    have hpk : (errPick is)[j]? = some (n, x) := by unfold errPick; rw [List.getElem?_map, hj]; simp [List.getD, hx]
    obtain ⟨g, s, hg, h1, _⟩ := hall j n x hpk
    obtain rfl := Option.some.inj (hn.symm.trans hg)
    exact h1
   refine ⟨fun c => ads.getD (is.idxOf (c - 1)) ⟨0, 0, none⟩, ⟨fun i hi => ?_⟩⟩
   have hj : is[is.idxOf i]? = some i := by
    have := List.idxOf_lt_length_of_mem hi
    rw [List.getElem?_eq_getElem this]; simp
   have h1 := key _ i hj
   exact ⟨by simpa [ev] using h1, World.block_lt_of_cell? W _ h1⟩
theorem door7 (os : Os) (args : Array Value) : laidMetH Tryz.prog (laidB [2, 3, 4, 5, 6, 7, 10]) ((World.doorLaid Tryz.prog 256 os).forCall (fun _ _ => 0) ⟨#[], args, []⟩).memory :=
 laidMetH_of_parts3 (fuel := 8) (laidMet_of_run' 8 (by kernel_rfl) (by kernel_rfl)) (by kernel_rfl) (by kernel_rfl)
end Go.Proofs.YtiflmkicnkbeaaaGreatDoor
