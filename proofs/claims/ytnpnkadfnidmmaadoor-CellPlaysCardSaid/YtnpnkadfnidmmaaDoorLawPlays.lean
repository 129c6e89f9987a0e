/- The walk of the law of plays: a memory that is told anything is what the chapter says. -/
import Derived.Test.YtnpnkadfnidmmaaDoorLawArms
import Derived.Test.YtnpnkadfnidmmaaDoorRCell
import Derived.Deep.DeepCutAuto
import Derived.Deep.CutBlock
import Derived.Deep.RegionWith
import Derived.Deep.RegionHeld3
namespace Go.Proofs.YtnpnkadfnidmmaaDoor
open Go.RowKit

/-- A contract that leaves the world alone, in a quiet region. -/
theorem quiet_same {P : Program} {f : FuncId} {args : Array Value} {w : World} {n : Nat} {v : Value}
    (h : Calls P f args (w.drewN n) fun e w' => e = .returned v ∧ w.drewN n = w') : Calls P f args (w.drewN n) fun e w'' => e = .returned v ∧ ∃ m, w'' = w.drewN m :=
  h.mono fun _ _ ⟨he, hm⟩ => ⟨he, n, hm.symm⟩
/-- The slice v holds n things that a cell is told. -/
def HoldsDo (w : World) (v : Value) (n : Nat) (K N X : Nat → Int) : Prop :=
  ∃ a cap, v = .slice a n cap ∧ n ≤ cap ∧ cap ≤ maxLen ∧ (0 < n → ∃ b off, a = some ⟨b, off, none⟩ ∧ ∀ i, i < n →
    w.cell? ⟨b, off + i * 3, none⟩ = some (.int .i64 (K i)) ∧ w.cell? ⟨b, off + i * 3 + 1, none⟩ = some (.int .i64 (N i)) ∧ w.cell? ⟨b, off + i * 3 + 2, none⟩ = some (.int .u8 (X i)))

/-- The program's cell and the document's, side by side, apart. -/
structure Pair (w : World) (p g q h : Nat) (s : CS) : Prop where
  c : Cl w p g s
  x : RCl w q h s
  a : p ≠ q ∧ p ≠ h ∧ g ≠ q ∧ g ≠ h
theorem Pair.fr {w w' : World} {p g q h : Nat} {s : CS} {S : List Nat} (hp : Pair w p g q h s) (hf : Fr w w' S) (hS : p ∉ S ∧ g ∉ S ∧ q ∉ S ∧ h ∉ S) : Pair w' p g q h s :=
  ⟨hp.c.fr hf hS.1 hS.2.1, hp.x.fr hf hS.2.2.1 hS.2.2.2, hp.a⟩

set_option maxHeartbeats 8000000 in
set_option maxRecDepth 100000 in
theorem plays_walk (size0 : Int) (v : Value) (n : Nat) (K N X : Nat → Int) (hs : (Lit.int .i64 size0).wf = true) (hN : ∀ i, i < n → N i ≤ 9223372036854775807) (w : World) (A : Nat → Addr) (hE : E13 w A w.heap.size) (hv : HoldsDo w v n K N X) :
    Calls Tryd.prog 3 #[.int .i64 size0, v] w fun e w' => e = .returned (.bool true) ∧ w.grownBy w' none := by
  obtain ⟨hs0, hs1⟩ := bounds_i64 hs
  have HE := Lib.hid hE
  obtain ⟨a, cap, rfl, hcap, hcm, hcell⟩ := hv
  unfold maxLen at hcm
  have HCELL := Lib.hid hcell
  have HNN := Lib.hid hN
  clear hE hcell hs hN
  by_cases hbad : size0 < 1 ∨ 4096 < size0
  · have hcase : size0 < 1 ∨ (¬ size0 < 1 ∧ 4096 < size0) := by omega
    have HB := Lib.hid hbad
    clear hbad
    rcases hcase with hz | ⟨hz, hz2⟩
    all_goals
      go_enter Tryd.func3, Tryd.ntmps3
      go_wp2_with fail
      refine (first_any _ A HE.out).mono ?_
      rintro e w1 ⟨rfl, hg1⟩
      have HF1 := Lib.hid (Fr.of_grown hg1 [])
      clear hg1
      go_wp2_with fail
      refine (cellNew_bad size0 _ A w.heap.size (HE.out.fr HF1.out (by simp)) HB.out).mono ?_
      rintro e w2 ⟨rfl, hd2⟩
      have HF2 := Lib.hid (HF1.out.trans (hd2.fr []))
      clear hd2
      go_wp2_with fail
      refine (is_any A w.heap.size 3 _ _ (HE.out.fr HF2.out (by simp)) (by decide) rfl).mono ?_
      rintro e w3 ⟨rfl, hg3⟩
      have HF3 := Lib.hid (HF2.out.trans (Fr.of_grown hg3 []))
      clear hg3
      go_wp2
      go_ret
      exact ⟨rfl, HF3.out.grown (by simp)⟩
  · obtain ⟨S, hS⟩ := Int.eq_ofNat_of_zero_le (show 0 ≤ size0 by omega)
    subst hS
    have hS1 : 1 ≤ S := by omega
    have hS2 : S ≤ 4096 := by omega
    have hz : ¬ (S : Int) < 1 := by omega
    have hz2 : ¬ 4096 < (S : Int) := by omega
    clear hbad hs0 hs1
    by_cases hbig : 40 < S ∨ 60 < n
    · have hcase : 40 < (S : Int) ∨ (¬ 40 < (S : Int) ∧ 60 < n) := by omega
      clear hbig
      rcases hcase with hy | ⟨hy, hy2⟩
      all_goals
        go_enter Tryd.func3, Tryd.ntmps3
        go_wp2_with fail
        refine (first_any _ A HE.out).mono ?_
        rintro e w1 ⟨rfl, hg1⟩
        have HF1 := Lib.hid (Fr.of_grown hg1 [])
        clear hg1
        go_wp2_with fail
        refine (cellNew_ok S _ hS1 hS2).mono ?_
        rintro e w2 ⟨u, rfl, p, g, rfl, h2, hp, hg, hf2⟩
        have HF2 := Lib.hid (HF1.out.trans hf2)
        clear h2 hf2
        go_wp2
        go_ret
        exact ⟨rfl, HF2.out.grown (by simp)⟩
    · have hy : ¬ 40 < (S : Int) := by omega
      have hy2 : ¬ 60 < n := by omega
      clear hbig
      go_enter Tryd.func3, Tryd.ntmps3
      go_wp2_with fail
      refine (first_any _ A HE.out).mono ?_
      rintro e w1 ⟨rfl, hg1⟩
      have HF1 := Lib.hid (Fr.of_grown hg1 [])
      clear hg1
      go_wp2_with fail
      refine (cellNew_ok S _ hS1 hS2).mono ?_
      rintro e w2 ⟨u, rfl, p, g, rfl, h2, hp, hg, hf2⟩
      have hlt := h2.lt
      have hp0 : w.heap.size ≤ p := Nat.le_trans HF1.out.size hp
      have hg0 : w.heap.size ≤ g := Nat.le_trans HF1.out.size hg
      have H2 := Lib.hid h2
      have HF2 := Lib.hid (HF1.out.trans hf2)
      have hmk := make_zero w2 S (by omega) (S : Int) rfl
      obtain ⟨Z, hZ⟩ : ∃ Z, Z = (u8s (List.replicate S 0)).toArray := ⟨_, rfl⟩
      rw [← hZ] at hmk
      have HZ := Lib.hid hZ
      clear h2 hf2 hp hg hZ
      go_wp2
      generalize hW : World.alloc (World.alloc w2 _) _ = W3
      have hf3 : Fr w2 W3 [] := by rw [← hW]; exact (Fr.alloc _ _ _).trans (Fr.alloc _ _ _)
      have hx3 : RCl W3 (w2.heap.size + 1) w2.heap.size (CS.new S) := by
        rw [← hW]
        refine ⟨?_, ?_, ?_⟩
        · simp only [CS.new, List.length_replicate]
          have := heap_alloc_new (w2.alloc (.cells Z 5)) (.cells #[.slice (some ⟨w2.heap.size, 0, none⟩) S S, .int .i64 0, .int .i64 0, .bool false] 33)
          simpa using this
        · rw [Below.heap_alloc _ _ _ (by simp), heap_alloc_new, HZ.out]; rfl
        · simp [CS.ok, CS.new]; omega
      have hP3 : Pair W3 p g (w2.heap.size + 1) w2.heap.size (CS.new S) := ⟨H2.out.fr hf3 (by simp) (by simp), hx3, by omega⟩
      have hq0 : w.heap.size ≤ w2.heap.size + 1 := by have := HF2.out.size; omega
      have hh0 : w.heap.size ≤ w2.heap.size := HF2.out.size
      have HF3 := Lib.hid (HF2.out.trans hf3)
      obtain ⟨q, hq⟩ : ∃ q, q = w2.heap.size + 1 := ⟨_, rfl⟩
      obtain ⟨h, hh⟩ : ∃ h, h = w2.heap.size := ⟨_, rfl⟩
      rw [← hq, ← hh] at hP3
      rw [← hq] at hq0
      rw [← hh] at hh0
      have HP3 := Lib.hid hP3
      rw [← hq]
      clear hx3 hf3 hP3 hW hmk hlt
      have HQ := Lib.hid hq
      have HH := Lib.hid hh
      clear hq hh
      go_loopw [9] (fun i wr => ∃ (k : Nat) (s : CS), k ≤ n ∧ i = .int .i64 k ∧ Pair wr p g q h s ∧ s.l.length = S ∧ s.n ≤ (k : Int) ∧ Fr w wr []) (fun i _ => n - (intOf i).toNat)
      case atStart => exact ⟨0, CS.new S, Nat.zero_le _, rfl, HP3.out, by simp [CS.new], by simp [CS.new], HF3.out⟩
      case round =>
        obtain ⟨k, s, hk, rfl, hp, hl, hn, hf⟩ := hrel
        have HP := Lib.hid hp
        have HL := Lib.hid hl
        have HF := Lib.hid hf
        clear hp hl hf
        by_cases hlt : k < n
        · go_wp2_with fail
          refine (cellClone_any p g _ _ HP.out.c).mono ?_
          rintro e w5 ⟨u, rfl, p3, g3, rfl, h5, hp3, hg3, hf5⟩
          have hl1 := HP.out.c.lt
          have hl2 := HP.out.x.lt
          have hap : p ≠ p3 ∧ p ≠ g3 ∧ g ≠ p3 ∧ g ≠ g3 ∧ q ≠ p3 ∧ q ≠ g3 ∧ h ≠ p3 ∧ h ≠ g3 := by omega
          have HA3 := Lib.hid hap
          have HP5 := Lib.hid (HP.out.fr hf5 (by simp))
          have H5 := Lib.hid h5
          have HF5 := Lib.hid (HF.out.trans hf5)
          clear h5 hf5 hp3 hg3 hap hl1 hl2
          go_wp2_with fail
          refine (cellWrites_any p3 g3 s _ H5.out).mono ?_
          rintro e w6 ⟨rfl, rfl⟩
          obtain ⟨bb, off, rfl, hcl⟩ := HCELL.out (by omega)
          obtain ⟨c0, c1, c2⟩ := hcl k hlt
          have d0 := HF5.out.cell c0 (by simp)
          have d1 := HF5.out.cell c1 (by simp)
          have d2 := HF5.out.cell c2 (by simp)
          clear c0 c1 c2
          have hbb : bb < w.heap.size := World.block_lt_of_cell? w _ (hcl k hlt).1
          have hNk := HNN.out k hlt
          clear hcl
          obtain ⟨Kk, hKk⟩ : ∃ x, x = K k := ⟨_, rfl⟩
          obtain ⟨Nk, hNN⟩ : ∃ x, x = N k := ⟨_, rfl⟩
          obtain ⟨Xk, hXk⟩ : ∃ x, x = X k := ⟨_, rfl⟩
          rw [← hKk] at d0
          rw [← hNN] at d1 hNk
          rw [← hXk] at d2
          clear hKk hNN hXk
          go_upto_block 2 with fail
          go_cut [] (fun wc => ∃ s' : CS, Pair wc p g q h s' ∧ s'.l.length = S ∧ s'.n ≤ (k : Int) + 1 ∧ Cl wc p3 g3 s ∧ Fr w wc [])
          case first =>
            by_cases k1 : Kk = 1
            · subst k1
              go_wp2_with fail
              have hpc : ∀ W, Fr w5 W [q, h] → Calls Tryd.prog 11 #[.pointer (some ⟨p, 0, none⟩), .int .i64 Nk, .int .u8 Xk] W fun e w' => e = .returned (ev A (s.put Nk Xk).2) ∧ Cl w' p g (s.put Nk Xk).1 ∧ Fr W w' [p, g] := fun W hW =>
                cellPut_any p g s Nk Xk W A w.heap.size (HP5.out.c.fr hW (by have := HP5.out.a; simp; omega) (by have := HP5.out.a; simp; omega)) (by omega) (HE.out.fr (HF5.out.new hW (by simp; omega)) (by simp)) hp0 hg0
              have hpx : ∀ W, Fr w5 W [p, g] → Calls Tryd.prog 12 #[.pointer (some ⟨q, 0, none⟩), .int .i64 Nk, .int .u8 Xk] W fun e w' => e = .returned (.int .i64 (fcode (s.put Nk Xk).2)) ∧ RCl w' q h (s.put Nk Xk).1 ∧ Fr W w' [q, h] := fun W hW =>
                refPut_cell q h s Nk Xk W (HP5.out.x.fr hW (by have := HP5.out.a; simp; omega) (by have := HP5.out.a; simp; omega)) (by omega)
              have hcode : (s.put Nk Xk).2 ≤ 13 := by unfold CS.put; split <;> (try split) <;> (try split) <;> simp
              have hst : (s.put Nk Xk).1.l.length = S ∧ (s.put Nk Xk).1.n ≤ (k : Int) + 1 := by
                have h1 := HL.out
                unfold CS.put
                split
                · exact ⟨h1, by simp only; omega⟩
                · split
                  · exact ⟨by rw [s.fg_l]; exact h1, by rw [s.fg_n]; omega⟩
                  · split
                    · exact ⟨by simp [h1], by simp only; omega⟩
                    · exact ⟨by rw [s.fg_l]; exact h1, by rw [s.fg_n]; omega⟩
              have his : ∀ W, Fr w5 W [p, g, q, h] → Calls Tryd.prog 8 #[ev A (s.put Nk Xk).2, .int .i64 (fcode (s.put Nk Xk).2)] W fun e w' => e = .returned (.bool true) ∧ W.grownBy w' none := fun W hW =>
                is_any A w.heap.size _ _ W (HE.out.fr (HF5.out.new hW (by simp; omega)) (by simp)) hcode rfl
              obtain ⟨s', hs'⟩ : ∃ s', s' = (s.put Nk Xk).1 := ⟨_, rfl⟩
              obtain ⟨cd, hcd⟩ : ∃ cd, cd = (s.put Nk Xk).2 := ⟨_, rfl⟩
              rw [← hcd, ← hs'] at hpc hpx
              rw [← hcd] at his
              rw [← hs'] at hst
              have HPC := Lib.hid hpc
              have HPX := Lib.hid hpx
              have HIS := Lib.hid his
              have HST := Lib.hid hst
              clear hpc hpx his hst hcode hs' hcd
              go_region_held3 (fun w' => w'.cell? ⟨bb, off + k * 3 + 1, none⟩ = some (.int .i64 Nk) ∧ w'.cell? ⟨bb, off + k * 3 + 2, none⟩ = some (.int .u8 Xk)) (first | exact ⟨d1, d2⟩ | exact ⟨dd1, dd2⟩)
                (first
                  | (go_at_call 11; refine (HPC.out _ hfx0).mono ?_; rintro e wc ⟨rfl, hc1, hfc⟩; have hx2 := hx1.fr hfc (by have := HP5.out.a; simp; omega) (by have := HP5.out.a; simp; omega); have hall : Fr w5 wc [p, g, q, h] := hfx0.comb hfc (by simp) (by simp); have dd1 := hall.cell d1 (by simp; omega); have dd2 := hall.cell d2 (by simp; omega))
                  | (go_at_call 11; refine (HPC.out _ (Fr.drew _ _)).mono ?_; rintro e wc ⟨rfl, hc1, hfc⟩; have hfc0 := (Fr.drew w5 [p, g]).trans hfc; have dd1 := hfc0.cell d1 (by simp; omega); have dd2 := hfc0.cell d2 (by simp; omega))
                  | (go_at_call 12; refine (HPX.out _ hfc0).mono ?_; rintro e wx ⟨rfl, hx1, hfx⟩; have hc2 := hc1.fr hfx (by have := HP5.out.a; simp; omega) (by have := HP5.out.a; simp; omega); have hall : Fr w5 wx [p, g, q, h] := hfc0.comb hfx (by simp) (by simp); have dd1 := hall.cell d1 (by simp; omega); have dd2 := hall.cell d2 (by simp; omega))
                  | (go_at_call 12; refine (HPX.out _ (Fr.drew _ _)).mono ?_; rintro e wx ⟨rfl, hx1, hfx⟩; have hfx0 := (Fr.drew w5 [q, h]).trans hfx; have dd1 := hfx0.cell d1 (by simp; omega); have dd2 := hfx0.cell d2 (by simp; omega))
                  | (go_at_call 8; refine (HIS.out _ hall).mono ?_; rintro e wi ⟨rfl, hgi⟩; have hdone := Fr.of_grown hgi []; have dd1 := hdone.cell dd1 (by simp); have dd2 := hdone.cell dd2 (by simp)))
              · have HPD : Hid (Pair wi p g q h s') := Pair.fr ⟨hc2, hx1, HP5.out.a⟩ hdone (by simp)
                have H5D : Hid (Cl wi p3 g3 s) := (H5.out.fr hall (by have := HA3.out; simp; omega) (by have := HA3.out; simp; omega)).fr hdone (by simp) (by simp)
                have HFD : Hid (Fr w wi []) := (HF5.out.new hall (by simp; omega)).trans hdone
                clear hc2 hx1 hdone hall hfc0 hc1 hfx
                go_wp2_with fail
                go_meet
                exact ⟨s', HPD.out, HST.out.1, HST.out.2, H5D.out, HFD.out⟩
            · have kb1 : (Kk == 1) = false := by simp [k1]
              clear k1
              by_cases k2 : Kk = 2
              · subst k2
                have hN2 := hNk
                go_wp2_with fail
                obtain ⟨m, hm⟩ : ∃ m, m = max Nk 0 := ⟨_, rfl⟩
                have HARM := Lib.hid (cellArm_any p g s Nk w5 HP5.out.c hNk m hm)
                have HM := Lib.hid hm
                clear hm
                refine HARM.out.mono ?_
                rintro e w7 ⟨rfl, h7, hf7⟩
                have hx7 := HP5.out.x.fr hf7 (by have := HP5.out.a; simp; omega) (by have := HP5.out.a; simp; omega)
                obtain ⟨r0, r1, r2, r3⟩ := hx7.cells
                have rf := hx7.frozen 1
                have dd1 := hf7.cell d1 (by simp; omega)
                have H7 := Lib.hid h7
                have HX7 := Lib.hid hx7
                have H57 := Lib.hid (H5.out.fr hf7 (by have := HA3.out; simp; omega) (by have := HA3.out; simp; omega))
                have HF7 := Lib.hid (HF5.out.new hf7 (by simp; omega))
                clear h7 hx7 hf7 r0 r2 r3
                go_wp2_with fail
                · go_meet
                  have em : m = 0 := by rw [HM.out]; omega
                  subst em
                  exact ⟨_, ⟨H7.out.fr (Fr.setCell w7 q 1 _ (List.mem_singleton.2 rfl)) (by have := HP5.out.a; simp; omega) (by have := HP5.out.a; simp; omega), HX7.out.arm _ (by omega), HP5.out.a⟩, HL.out, by simp only; omega, H57.out.fr (Fr.setCell w7 q 1 _ (List.mem_singleton.2 rfl)) (by have := HA3.out; simp; omega) (by have := HA3.out; simp; omega), HF7.out.new (Fr.setCell w7 q 1 _ (List.mem_singleton.2 rfl)) (by simp; omega)⟩
                · go_meet
                  have em : m = Nk := by rw [HM.out]; omega
                  subst em
                  exact ⟨_, ⟨H7.out.fr (Fr.setCell w7 q 1 _ (List.mem_singleton.2 rfl)) (by have := HP5.out.a; simp; omega) (by have := HP5.out.a; simp; omega), HX7.out.arm _ (by omega), HP5.out.a⟩, HL.out, by simp only; omega, H57.out.fr (Fr.setCell w7 q 1 _ (List.mem_singleton.2 rfl)) (by have := HA3.out; simp; omega) (by have := HA3.out; simp; omega), HF7.out.new (Fr.setCell w7 q 1 _ (List.mem_singleton.2 rfl)) (by simp; omega)⟩
              · have kb2 : (Kk == 2) = false := by simp [k2]
                clear k2
                by_cases k3 : Kk = 3
                · subst k3
                  go_wp2_with fail
                  refine (cellBack_any p g s w5 HP5.out.c).mono ?_
                  rintro e w7 ⟨rfl, h7, hf7⟩
                  have H7 := Lib.hid h7
                  have HX7 := Lib.hid (HP5.out.x.fr hf7 (by have := HP5.out.a; simp; omega) (by have := HP5.out.a; simp; omega))
                  have H57 := Lib.hid (H5.out.fr hf7 (by have := HA3.out; simp; omega) (by have := HA3.out; simp; omega))
                  have HF7 := Lib.hid (HF5.out.new hf7 (by simp; omega))
                  clear h7 hf7
                  go_wp2_with fail
                  refine (refBack_cell q h s w7 HX7.out).mono ?_
                  rintro e w8 ⟨rfl, h8, hf8⟩
                  have H8 := Lib.hid h8
                  have HC8 := Lib.hid (H7.out.fr hf8 (by have := HP5.out.a; simp; omega) (by have := HP5.out.a; simp; omega))
                  have H58 := Lib.hid (H57.out.fr hf8 (by have := HA3.out; simp; omega) (by have := HA3.out; simp; omega))
                  have HF8 := Lib.hid (HF7.out.new hf8 (by simp; omega))
                  clear h8 hf8
                  go_wp2_with fail
                  go_meet
                  exact ⟨_, ⟨HC8.out, H8.out, HP5.out.a⟩, HL.out, by simp only; omega, H58.out, HF8.out⟩
                · have kb3 : (Kk == 3) = false := by simp [k3]
                  clear k3
                  go_wp2_with fail
                  go_meet
                  exact ⟨s, HP5.out, HL.out, by omega, H5.out, HF5.out⟩
          case rest =>
            obtain ⟨s', hp', hl', hn', h5', hf'⟩ := hcut
            have HP6 := Lib.hid hp'
            have HL6 := Lib.hid hl'
            have H6 := Lib.hid h5'
            have HF6 := Lib.hid hf'
            clear hp' hl' h5' hf' d0 d1 d2 HP5 H5 HF5
            go_wp2
            go_loopw [12] (fun i wr => ∃ j : Int, -1 ≤ j ∧ j ≤ (S : Int) + 1 ∧ i = .int .i64 j ∧ Pair wr p g q h s' ∧ Cl wr p3 g3 s ∧ Fr w wr []) (fun i _ => ((S : Int) + 1 - intOf i).toNat)
            case atStart => exact ⟨-1, by omega, by omega, rfl, HP6.out, H6.out, HF6.out⟩
            case round =>
              obtain ⟨j, hj0, hj1, rfl, hp7, h7, hf7⟩ := hrel
              have HP7 := Lib.hid hp7
              have H7 := Lib.hid h7
              have HF7 := Lib.hid hf7
              clear hp7 h7 hf7
              by_cases hjl : j ≤ (S : Int)
              · have hgc := cellGet_any p g s' j wr A w.heap.size HP7.out.c (HE.out.fr HF7.out (by simp))
                have hgx := fun W (hW : Fr wr W []) => refGet_cell q h s' j W (HP7.out.x.fr hW (by simp) (by simp))
                have hcode : (s'.get j).2 ≤ 13 := by unfold CS.get; split <;> (try split) <;> simp
                have his : ∀ W, Fr wr W [] → Calls Tryd.prog 8 #[ev A (s'.get j).2, .int .i64 (fcode (s'.get j).2)] W fun e w' => e = .returned (.bool true) ∧ W.grownBy w' none := fun W hW =>
                  is_any A w.heap.size _ _ W (HE.out.fr (HF7.out.trans hW) (by simp)) hcode rfl
                obtain ⟨y, hy⟩ : ∃ y, y = (s'.get j).1 := ⟨_, rfl⟩
                obtain ⟨cd, hcd⟩ : ∃ cd, cd = (s'.get j).2 := ⟨_, rfl⟩
                rw [← hy, ← hcd] at hgc hgx
                rw [← hcd] at his
                have HGC := Lib.hid hgc
                have HGX := Lib.hid hgx
                have HIS := Lib.hid his
                have hne : (y != y) = false := by simp
                clear hgc hgx his hy hcd hcode
                go_wp2_with fail
                refine HGC.out.mono ?_
                rintro e w8 ⟨rfl, hd8⟩
                have HD8 := Lib.hid (hd8.fr [])
                clear hd8
                go_wp2_with fail
                refine (HGX.out _ HD8.out).mono ?_
                rintro e w9 ⟨rfl, rfl⟩
                go_wp2_with fail
                refine (HIS.out _ HD8.out).mono ?_
                rintro e w9 ⟨rfl, hg9⟩
                have HD9 := Lib.hid (HD8.out.trans (Fr.of_grown hg9 []))
                clear hg9
                go_wp2
                go_roundw
                case rel => exact ⟨j + 1, by omega, by omega, rfl, HP7.out.fr HD9.out (by simp), H7.out.fr HD9.out (by simp) (by simp), HF7.out.trans HD9.out⟩
                case measure => simp [intOf]; omega
              · have hdn := fun W (hW : Fr wr W []) => cellDown_any p g s' W (HP7.out.c.fr hW (by simp) (by simp))
                have hwn := fun W (hW : Fr wr W []) => cellWrites_any p g s' W (HP7.out.c.fr hW (by simp) (by simp))
                have hsz := fun W (hW : Fr wr W []) => cellSize_any p g s' W (HP7.out.c.fr hW (by simp) (by simp))
                have hwd := fun W (hW : Fr wr W []) => cellWrites_any p3 g3 s W (H7.out.fr hW (by simp) (by simp))
                rw [HL6.out] at hsz
                obtain ⟨r0, r1, r2, r3⟩ := HP7.out.x.cells
                obtain ⟨dd, hdd⟩ : ∃ y, y = s'.d := ⟨_, rfl⟩
                obtain ⟨nn, hnn⟩ : ∃ y, y = s'.n := ⟨_, rfl⟩
                obtain ⟨mm, hmm⟩ : ∃ y, y = s.n := ⟨_, rfl⟩
                rw [← hdd] at hdn r3
                rw [← hnn] at hwn r2
                rw [← hmm] at hwd ⊢
                have HDN := Lib.hid hdn
                have HWN := Lib.hid hwn
                have HSZ := Lib.hid hsz
                have HWD := Lib.hid hwd
                have n1 : (dd != dd) = false := by simp
                have n2 : (nn != nn) = false := by simp
                have n3 : ((S : Int) != (S : Int)) = false := by simp
                have n4 : (mm != mm) = false := by simp
                clear hdn hwn hsz hwd r0 r1 hdd hnn hmm
                go_wp2
                go_quiet ((first
                  | (go_at_call 18; exact quiet_same (HDN.out _ (Fr.drewN _ _ _)))
                  | (go_at_call 19; exact quiet_same (HSZ.out _ (Fr.drewN _ _ _)))
                  | (go_at_call 10; exact quiet_same (HWN.out _ (Fr.drewN _ _ _)))
                  | (go_at_call 10; exact quiet_same (HWD.out _ (Fr.drewN _ _ _)))))
                have HFQ := Lib.hid (Fr.drewN wr nq [])
                go_wp2
                go_roundw
                case rel => exact ⟨k + 1, s', by omega, by go_num, HP7.out.fr HFQ.out (by simp), HL6.out, by omega, HF7.out.trans HFQ.out⟩
                case measure => simp [intOf]; omega
        · go_wp2
          go_ret
          exact ⟨rfl, HF.out.grown (by simp)⟩
end Go.Proofs.YtnpnkadfnidmmaaDoor
