/- The meter's stage law (whatever is counted, and set back: each counter, their sum, of which there are most, are what the chapter says): its walk. -/
import Derived.Test.YtklfjglbehjcaaaMeter3
import Derived.Test.YtklfjglbehjcaaaMeOpen
import Derived.BigQuiet
import Derived.BigRegion
import Derived.Deep.DeepCutAuto
import Derived.Deep.CutBlock
namespace Go.Proofs.Ytklfjglbehjcaaa
open Go.RowKit

/-- The document's counters, by kind. -/
def sh (g : Nat → Int) : Nat → Int := fun j => if j = 0 then 0 else g (j - 1)
abbrev Dc (w : World) (q : Nat) (g : Nat → Int) : Prop := Ln 33 12 w q (sh g)
theorem sh_up (g : Nat → Int) (k : Nat) (x : Int) : upN (sh g) (k + 1) x = sh (upN g k x) := by
  funext j
  unfold upN sh
  by_cases e : j = k + 1
  · subst e; simp
  · rw [if_neg e]
    by_cases e0 : j = 0
    · rw [if_pos e0, if_pos e0]
    · rw [if_neg e0, if_neg e0]
      show g (j - 1) = if j - 1 = k then x else g (j - 1)
      rw [if_neg (by omega)]
theorem sh_at (g : Nat → Int) (k : Nat) : sh g (k + 1) = g k := by simp [sh]
theorem new_dc (w : World) : Dc (w.alloc (.cells #[.int .i64 0, .int .i64 0, .int .i64 0, .int .i64 0, .int .i64 0, .int .i64 0, .int .i64 0, .int .i64 0, .int .i64 0, .int .i64 0, .int .i64 0, .int .i64 0] 33)) w.heap.size zN := by
  refine ⟨_, heap_alloc_new _ _, rfl, fun i hi => ?_⟩
  rcases (by omega : i = 0 ∨ i = 1 ∨ i = 2 ∨ i = 3 ∨ i = 4 ∨ i = 5 ∨ i = 6 ∨ i = 7 ∨ i = 8 ∨ i = 9 ∨ i = 10 ∨ i = 11) with rfl | rfl | rfl | rfl | rfl | rfl | rfl | rfl | rfl | rfl | rfl | rfl
  all_goals rfl
abbrev zDc : Array Value := #[.int .i64 0, .int .i64 0, .int .i64 0, .int .i64 0, .int .i64 0, .int .i64 0, .int .i64 0, .int .i64 0, .int .i64 0, .int .i64 0, .int .i64 0, .int .i64 0]
theorem oneDc : zDc.all (·.oneCell') = true := by simp [zDc, Value.oneCell']
theorem infoDc : (Try.prog.info? 33).map (·.size) = some zDc.size := by kernel_rfl
theorem dc_zero {w : World} {q : Nat} {g : Nat → Int} (h : Dc w q g) : Dc (w.setRow q zDc) q zN ∧ Fr w (w.setRow q zDc) [q] ∧ ∃ cs, w.heap[q]? = some (.cells cs 33 (0, 0)) ∧ cs.size = zDc.size := by
  obtain ⟨cs, h1, h2, h3⟩ := h
  refine ⟨⟨zDc, setRow_heap w q cs zDc _ _ h1, rfl, fun i hi => ?_⟩, ⟨rfl, rfl, rfl, by simp, fun k hk hn => setRow_other w q k zDc (fun e => hn (by simp [e]))⟩, cs, h1, h2⟩
  rcases (by omega : i = 0 ∨ i = 1 ∨ i = 2 ∨ i = 3 ∨ i = 4 ∨ i = 5 ∨ i = 6 ∨ i = 7 ∨ i = 8 ∨ i = 9 ∨ i = 10 ∨ i = 11) with rfl | rfl | rfl | rfl | rfl | rfl | rfl | rfl | rfl | rfl | rfl | rfl
  all_goals rfl
/-- Add, of any number. -/
theorem madd_any (p : Nat) (g : Nat → Int) (m : Int) (x : Int) (w : World) (h : Mt w p g) (hg : Few g m) (hm : m ≤ 1000) (b : Bool) (hb : b = (decide (1 ≤ x) && decide (x ≤ 11))) :
    Calls Try.prog 7 #[.pointer (some ⟨p, 0, none⟩), .int .i64 x] w fun e w' => e = .returned (.bool b) ∧ Mt w' p (if b then upN g (x - 1).toNat (g (x - 1).toNat + 1) else g) ∧ Fr w w' [p] := by
  by_cases hx : 1 ≤ x ∧ x ≤ 11
  · obtain ⟨k, hk⟩ := Int.eq_ofNat_of_zero_le (show 0 ≤ x - 1 by omega)
    have hbt : b = true := by rw [hb]; simp [hx]
    obtain rfl : x = (k : Int) + 1 := by omega
    subst hbt
    refine (madd_yes p g m k w h (by omega) hg hm).mono ?_
    rintro e w' ⟨rfl, h1, h2⟩
    rw [hk, Int.toNat_natCast, if_pos rfl]
    exact ⟨rfl, h1, h2⟩
  · have hbf : b = false := by
      rw [hb]
      by_cases h1 : 1 ≤ x
      · rw [decide_eq_true h1, decide_eq_false (by omega)]; rfl
      · rw [decide_eq_false h1]; rfl
    subst hbf
    refine (madd_no p x w hx).mono ?_
    rintro e w' ⟨rfl, rfl⟩
    exact ⟨rfl, by simpa using h, Fr.refl _ _⟩

set_option maxHeartbeats 4000000 in
set_option maxRecDepth 100000 in
theorem mplays_walk20 (v : Value) (l : List Int) (u : Value) (bs : List Bool) (ask : Int) (w : World) (h : Holds .i64 w v l) (hb : HBl w u bs) :
    Calls Try.prog 3 #[v, u, .int .i64 ask] w fun e w' => e = .returned (.bool true) ∧ w.grownBy w' none := by
  obtain ⟨a, cap, rfl, h1, h2, h3⟩ := h
  obtain ⟨ba, bcap, rfl, k1, k2, k3⟩ := hb
  unfold maxLen at h2 k2
  have HC := Lib.hid h3
  have HD := Lib.hid k3
  clear h3 k3
  by_cases hl : l.length ≤ 80
  · by_cases hbl : bs.length ≤ 80
    · go_enter Try.func3, Try.ntmps3
      go_wp2_with fail
      refine (mfirst_any _).mono ?_
      rintro e w1 ⟨rfl, hf⟩
      have M1 := Lib.hid ((new_mt w1).fr (Fr.alloc _ (.cells #[.int .i64 0, .int .i64 0, .int .i64 0, .int .i64 0, .int .i64 0, .int .i64 0, .int .i64 0, .int .i64 0, .int .i64 0, .int .i64 0, .int .i64 0, .int .i64 0] 33) []) (by simp))
      have D1 := Lib.hid (new_dc (w1.alloc (.cells #[.int .i64 0, .int .i64 0, .int .i64 0, .int .i64 0, .int .i64 0, .int .i64 0, .int .i64 0, .int .i64 0, .int .i64 0, .int .i64 0, .int .i64 0] 32)))
      rw [show (w1.alloc (.cells #[.int .i64 0, .int .i64 0, .int .i64 0, .int .i64 0, .int .i64 0, .int .i64 0, .int .i64 0, .int .i64 0, .int .i64 0, .int .i64 0, .int .i64 0] 32)).heap.size = w1.heap.size + 1 by simp] at D1
      have HP := Lib.hid hf.size
      have FF := Lib.hid ((hf.trans (Fr.alloc w1 (.cells #[.int .i64 0, .int .i64 0, .int .i64 0, .int .i64 0, .int .i64 0, .int .i64 0, .int .i64 0, .int .i64 0, .int .i64 0, .int .i64 0, .int .i64 0] 32) [])).trans (Fr.alloc _ (.cells #[.int .i64 0, .int .i64 0, .int .i64 0, .int .i64 0, .int .i64 0, .int .i64 0, .int .i64 0, .int .i64 0, .int .i64 0, .int .i64 0, .int .i64 0, .int .i64 0] 33) []))
      clear hf
      go_wp2
      go_loopw [10] (fun i wr => ∃ (k : Nat) (g : Nat → Int), k ≤ l.length ∧ i = .int .i64 k ∧ Mt wr w1.heap.size g ∧ Dc wr (w1.heap.size + 1) g ∧ Few g k ∧ Fr w wr []) (fun i _ => l.length - (intOf i).toNat)
      case atStart => exact ⟨0, zN, by omega, rfl, M1.out, D1.out, Few.zero, FF.out⟩
      case round =>
        obtain ⟨k, g, hk, rfl, hm, hd, hg, hf⟩ := hrel
        clear M1 D1 FF
        have M0 := Lib.hid hm
        have D0 := Lib.hid hd
        have G0 := Lib.hid hg
        have F0 := Lib.hid hf
        clear hm hd hg hf
        by_cases hlt : k < l.length
        · obtain ⟨b, off, rfl, hc⟩ := HC.out (by omega)
          obtain ⟨x, hx⟩ : ∃ x, x = l.getD k 0 := ⟨_, rfl⟩
          have hck := F0.out.cell (hc k hlt) (by simp)
          rw [← hx] at hck
          have HCK := Lib.hid (hc k hlt)
          rw [← hx] at HCK
          clear hc hx
          obtain ⟨r, hr⟩ : ∃ r : Bool, r = (decide (1 ≤ x) && decide (x ≤ 11)) := ⟨_, rfl⟩
          have HR := Lib.hid hr
          clear hr
          go_upto_region 11 with fail
          go_cut [11] (fun s11 wx => s11 = .bool r ∧ wx = wr)
          case first =>
            by_cases h1 : x ≥ 1
            · by_cases h2 : x ≤ 11
              · have q : r = true := by rw [HR.out]; simp [h1, h2]
                go_wp2_with fail
                go_meet
                exact ⟨by rw [q], rfl⟩
              · have q : r = false := by rw [HR.out]; simp [h2]
                go_wp2_with fail
                go_meet
                exact ⟨by rw [q], rfl⟩
            · have q : r = false := by rw [HR.out, show decide (1 ≤ x) = false from decide_eq_false h1]; rfl
              go_wp2_with fail
              go_meet
              exact ⟨by rw [q], rfl⟩
          case rest =>
            obtain ⟨rfl, hwc⟩ := hcut
            have hwc' : wr = wc := hwc.symm
            clear hwc
            subst hwc'
            go_wp2_with fail
            refine (madd_any w1.heap.size g k x _ M0.out G0.out (by omega) r HR.out).mono ?_
            rintro e w2 ⟨rfl, hm, hf⟩
            have M2 := Lib.hid hm
            have D2 := Lib.hid (D0.out.fr hf (by simp))
            have F2 := Lib.hid (F0.out.new hf (by have := HP.out; simp; omega))
            have G2 := Lib.hid (show Few (if r then upN g (x - 1).toNat (g (x - 1).toNat + 1) else g) ((k + 1 : Nat) : Int) by
              rw [show ((k + 1 : Nat) : Int) = (k : Int) + 1 by omega]
              cases r with
              | true => exact G0.out.up _
              | false => exact G0.out.mono (by omega))
            clear hm hf
            have c2 := F2.out.cell HCK.out (by simp)
            go_upto_if 55 with fail
            go_cut [] (fun wx => Hid (∃ g2, Few g2 ((k + 1 : Nat) : Int) ∧ Mt wx w1.heap.size g2 ∧ Dc wx (w1.heap.size + 1) g2 ∧ Fr w wx []))
            case first =>
              cases r with
              | true =>
                have hr1 : 1 ≤ x ∧ x ≤ 11 := by have := HR.out.symm; simpa using this
                obtain ⟨c, hc⟩ := Int.eq_ofNat_of_zero_le (show 0 ≤ x - 1 by omega)
                obtain rfl : x = (c : Int) + 1 := by omega
                have hc11 : c < 11 := by omega
                have hc12 : c + 1 < 12 := by omega
                rw [hc, Int.toNat_natCast, if_pos rfl] at M2 G2
                have d2 := D2.out.at (c + 1) hc12
                have z2 := D2.out.fz (c + 1)
                rw [sh_at] at d2
                have hgc : 0 ≤ g c ∧ g c ≤ 80 := by have := G0.out c; omega
                obtain ⟨y, ey⟩ : ∃ y, y = g c := ⟨_, rfl⟩
                rw [← ey] at d2 hgc
                obtain ⟨y0, y1⟩ := hgc
                have HE : Hid (∃ g2, Few g2 ((k + 1 : Nat) : Int) ∧ Mt (w2.setCell ⟨w1.heap.size + 1, c + 1, none⟩ (.int .i64 (y + 1))) w1.heap.size g2 ∧ Dc (w2.setCell ⟨w1.heap.size + 1, c + 1, none⟩ (.int .i64 (y + 1))) (w1.heap.size + 1) g2 ∧ Fr w (w2.setCell ⟨w1.heap.size + 1, c + 1, none⟩ (.int .i64 (y + 1))) []) := Lib.hid ⟨_, G2.out, M2.out.fr (Fr.setCell _ _ _ _ (S := [w1.heap.size + 1]) (by simp)) (by simp), by
                  have := D2.out.set (c + 1) hc12 (y + 1)
                  rw [sh_up, ey] at this
                  rw [ey]; exact this, F2.out.new (Fr.setCell _ _ _ _ (S := [w1.heap.size + 1]) (by simp)) (by have := HP.out; simp; omega)⟩
                clear ey hc hr1
                go_wp2_with fail
                go_meet
                exact HE
              | false =>
                have HE : Hid (∃ g2, Few g2 ((k + 1 : Nat) : Int) ∧ Mt w2 w1.heap.size g2 ∧ Dc w2 (w1.heap.size + 1) g2 ∧ Fr w w2 []) := Lib.hid ⟨g, by simpa using G2.out, by simpa using M2.out, D2.out, F2.out⟩
                go_wp2_with fail
                go_meet
                exact HE
            case rest =>
              obtain ⟨g2, hg, hm, hd, hf⟩ := hcut
              clear M2 D2 F2 G2 M0 D0 F0 G0 c2 hck HCK HR
              have M2 := Lib.hid hm
              have D2 := Lib.hid hd
              have F2 := Lib.hid hf
              have G2 := Lib.hid hg
              clear hm hd hf hg
              obtain ⟨W3, rfl⟩ : ∃ W, W = wc := ⟨_, rfl⟩
              obtain ⟨bb, hbb⟩ : ∃ bb : Bool, bb = (decide (k < bs.length) && bs.getD k false) := ⟨_, rfl⟩
              have HB := Lib.hid hbb
              clear hbb
              go_upto_region 16 with fail
              go_cut [73] (fun s73 wx => s73 = .bool bb ∧ wx = W3)
              case first =>
                by_cases hkb : k < bs.length
                · obtain ⟨b2, off2, rfl, hc2⟩ := HD.out (by omega)
                  have e2 := F2.out.cell (hc2 k hkb) (by simp)
                  cases hbk : bs.getD k false with
                  | true =>
                    rw [hbk] at e2
                    have q : bb = true := by rw [HB.out, hbk]; simp [hkb]
                    clear hbk hc2
                    go_wp2_with fail
                    go_meet
                    exact ⟨by rw [q], rfl⟩
                  | false =>
                    rw [hbk] at e2
                    have q : bb = false := by rw [HB.out, hbk]; simp
                    clear hbk hc2
                    go_wp2_with fail
                    go_meet
                    exact ⟨by rw [q], rfl⟩
                · have q : bb = false := by rw [HB.out]; simp [hkb]
                  go_wp2_with fail
                  go_meet
                  exact ⟨by rw [q], rfl⟩
              case rest =>
                obtain ⟨rfl, hwc⟩ := hcut
                have hwc' : W3 = wc := hwc.symm
                clear hwc
                subst hwc'
                go_upto_if 73 with fail
                go_cut [] (fun wx => Hid (∃ g2, Few g2 ((k + 1 : Nat) : Int) ∧ Mt wx w1.heap.size g2 ∧ Dc wx (w1.heap.size + 1) g2 ∧ Fr w wx []))
                case first =>
                  cases bb with
                  | true =>
                    go_wp2_with fail
                    refine (mreset_any w1.heap.size g2 _ M2.out).mono ?_
                    rintro e w4 ⟨rfl, hm, hf⟩
                    have M4 := Lib.hid hm
                    have D4 := Lib.hid (D2.out.fr hf (by simp))
                    have F4 := Lib.hid (F2.out.new hf (by have := HP.out; simp; omega))
                    clear hm hf
                    obtain ⟨hz, hfz, cs, hcs, hcsz⟩ := dc_zero D4.out
                    have HCS := Lib.hid hcs
                    have HE : Hid (∃ g2, Few g2 ((k + 1 : Nat) : Int) ∧ Mt (w4.setRow (w1.heap.size + 1) zDc) w1.heap.size g2 ∧ Dc (w4.setRow (w1.heap.size + 1) zDc) (w1.heap.size + 1) g2 ∧ Fr w (w4.setRow (w1.heap.size + 1) zDc) []) := Lib.hid ⟨zN, Few.zero.mono (by omega), M4.out.fr hfz (by simp), hz, F4.out.new hfz (by have := HP.out; simp; omega)⟩
                    clear hz hfz hcs
                    go_wp2_with (with_reducible refine wpList_store_row rfl _ _ _ rfl (w1.heap.size + 1) zDc rfl rfl _ cs HCS.out infoDc hcsz oneDc ?_)
                    go_meet
                    exact HE
                  | false =>
                    have HE : Hid (∃ g2, Few g2 ((k + 1 : Nat) : Int) ∧ Mt W3 w1.heap.size g2 ∧ Dc W3 (w1.heap.size + 1) g2 ∧ Fr w W3 []) := Lib.hid ⟨_, G2.out, M2.out, D2.out, F2.out⟩
                    go_wp2_with fail
                    go_meet
                    exact HE
                case rest =>
                  obtain ⟨g3, hg, hm, hd, hf⟩ := hcut
                  clear M2 D2 F2 G2 HB
                  have M3 := Lib.hid hm
                  have D3 := Lib.hid hd
                  have F3 := Lib.hid hf
                  have G3 := Lib.hid hg
                  clear hm hd hf hg
                  obtain ⟨W4, rfl⟩ : ∃ W, W = wc := ⟨_, rfl⟩
                  go_wp2
                  go_loopw [12, 13, 14] (fun s m i wr => ∃ j : Nat, j ≤ 11 ∧ i = .int .i64 ((j : Int) + 1) ∧ s = .int .i64 (sm g3 j) ∧ m = .int .i64 (mk g3 j : Nat) ∧ Fr W4 wr []) (fun _ _ i _ => 12 - (intOf i).toNat)
                  case atStart => exact ⟨0, by omega, rfl, rfl, rfl, Fr.refl _ _⟩
                  case round =>
                    obtain ⟨j, hj, rfl, rfl, rfl, hf⟩ := hrel
                    have F5 := Lib.hid hf
                    clear hf
                    by_cases hlt2 : j < 11
                    · obtain ⟨s, es⟩ : ∃ s, s = sm g3 j := ⟨_, rfl⟩
                      rw [← es]
                      obtain ⟨y, ey⟩ : ∃ y, y = g3 j := ⟨_, rfl⟩
                      have cy := (D3.out.fr F5.out (by simp)).at (j + 1) (by omega)
                      rw [sh_at, ← ey] at cy
                      have HS := Lib.hid (show sm g3 (j + 1) = s + y by rw [ey, es]; rfl)
                      have hb0 : 0 ≤ s ∧ s ≤ 880 := by
                        have := sm_few G3.out j
                        have h3 : (j : Int) * ((k + 1 : Nat) : Int) ≤ 11 * ((k + 1 : Nat) : Int) := Int.mul_le_mul_of_nonneg_right (by omega) (by omega)
                        omega
                      have hy0 : 0 ≤ y ∧ y ≤ 80 := by have := G3.out j; omega
                      obtain ⟨b0, b1⟩ := hb0
                      obtain ⟨c0, c1⟩ := hy0
                      have HMN := Lib.hid (mn_pos g3 j)
                      have EY := Lib.hid ey
                      clear es ey
                      obtain ⟨M, eM⟩ : ∃ M, M = mk g3 j := ⟨_, rfl⟩
                      rw [← eM]
                      have EM := Lib.hid eM
                      clear eM
                      by_cases hy : y > 0
                      · have hd1 : decide (y > 0) = true := decide_eq_true hy
                        cases M with
                        | zero =>
                          have HY := Lib.hid (mk_yes g3 j (by have := HMN.out; have := EM.out; have := EY.out; omega))
                          go_wp2_with fail
                          go_quiet (fail)
                          go_wp2
                          go_roundw
                          case rel => exact ⟨j + 1, by omega, by go_num, by rw [HS.out], by rw [HY.out.1]; go_num, F5.out.trans (Fr.drewN _ _ [])⟩
                          case measure => simp [intOf]; omega
                        | succ M' =>
                          have hM' : M' < j := by have := mk_le g3 j; have := EM.out; omega
                          have cz := (D3.out.fr F5.out (by simp)).at (M' + 1) (by omega)
                          rw [sh_at, ← mn_at g3 j M' EM.out.symm] at cz
                          obtain ⟨z, ez⟩ : ∃ z, z = mn g3 j := ⟨_, rfl⟩
                          rw [← ez] at cz
                          have EZ := Lib.hid ez
                          clear ez
                          have hM0 : (((M' : Int) + 1) == 0) = false := by simp; omega
                          have hM1 : decide ((M' : Int) + 1 = 0) = false := decide_eq_false (by omega)
                          have hM2 : (M' : Int) + 1 < 12 := by omega
                          by_cases hzy : y > z
                          · have HY := Lib.hid (mk_yes g3 j (by have := EZ.out; have := EY.out; omega))
                            have hd2 : decide (y > z) = true := decide_eq_true hzy
                            go_wp2_with fail
                            go_quiet (fail)
                            go_wp2
                            go_roundw
                            case rel => exact ⟨j + 1, by omega, by go_num, by rw [HS.out], by rw [HY.out.1]; go_num, F5.out.trans (Fr.drewN _ _ [])⟩
                            case measure => simp [intOf]; omega
                          · have HY := Lib.hid (mk_no g3 j (by have := EZ.out; have := EY.out; omega))
                            have hd2 : decide (y > z) = false := decide_eq_false hzy
                            go_wp2_with fail
                            go_quiet (fail)
                            go_wp2
                            go_roundw
                            case rel => exact ⟨j + 1, by omega, by go_num, by rw [HS.out], by rw [HY.out.1, ← EM.out]; go_num, F5.out.trans (Fr.drewN _ _ [])⟩
                            case measure => simp [intOf]; omega
                      · have HY := Lib.hid (mk_no g3 j (by have := HMN.out; have := EY.out; omega))
                        have hd1 : decide (y > 0) = false := decide_eq_false hy
                        go_wp2_with fail
                        go_quiet (fail)
                        go_wp2
                        go_roundw
                        case rel => exact ⟨j + 1, by omega, by go_num, by rw [HS.out], by rw [HY.out.1, ← EM.out], F5.out.trans (Fr.drewN _ _ [])⟩
                        case measure => simp [intOf]; omega
                    · obtain rfl : j = 11 := by omega
                      have M5 := Lib.hid (M3.out.fr F5.out (by simp))
                      have D5 := Lib.hid (D3.out.fr F5.out (by simp))
                      have FF := Lib.hid (F3.out.trans F5.out)
                      have HSUM := Lib.hid (fun W hW => msum_any w1.heap.size g3 _ W hW G3.out (by omega))
                      obtain ⟨s, es⟩ : ∃ s, s = sm g3 11 := ⟨_, rfl⟩
                      rw [← es] at HSUM ⊢
                      clear es
                      cases hM : mk g3 11 with
                      | zero =>
                        have HM5 := Lib.hid (mmost_any w1.heap.size g3 wr M5.out false (by rw [hM]; rfl))
                        rw [hM] at HM5
                        clear hM
                        go_wp2_with fail
                        refine HM5.out.mono ?_
                        rintro e w6 ⟨rfl, hf⟩
                        have M6 := Lib.hid (M5.out.fr hf (by simp))
                        have D6 := Lib.hid (D5.out.fr hf (by simp))
                        have F6 := Lib.hid (FF.out.trans hf)
                        clear hf
                        go_wp2_with fail
                        refine (HSUM.out _ M6.out).mono ?_
                        rintro e w7 ⟨rfl, hf⟩
                        have M7 := Lib.hid (M6.out.fr hf (by simp))
                        have D7 := Lib.hid (D6.out.fr hf (by simp))
                        have F7 := Lib.hid (F6.out.trans hf)
                        clear hf
                        go_wp2
                        go_roundw
                        case rel => exact ⟨k + 1, g3, by omega, by go_num, M7.out, D7.out, G3.out, F7.out⟩
                        case measure => simp [intOf]; omega
                      | succ M' =>
                        have HM5 := Lib.hid (mmost_any w1.heap.size g3 wr M5.out true (by rw [hM]; simp))
                        rw [hM] at HM5
                        clear hM
                        go_wp2_with fail
                        refine HM5.out.mono ?_
                        rintro e w6 ⟨rfl, hf⟩
                        have M6 := Lib.hid (M5.out.fr hf (by simp))
                        have D6 := Lib.hid (D5.out.fr hf (by simp))
                        have F6 := Lib.hid (FF.out.trans hf)
                        clear hf
                        go_wp2_with fail
                        refine (HSUM.out _ M6.out).mono ?_
                        rintro e w7 ⟨rfl, hf⟩
                        have M7 := Lib.hid (M6.out.fr hf (by simp))
                        have D7 := Lib.hid (D6.out.fr hf (by simp))
                        have F7 := Lib.hid (F6.out.trans hf)
                        clear hf
                        go_wp2
                        go_roundw
                        case rel => exact ⟨k + 1, g3, by omega, by go_num, M7.out, D7.out, G3.out, F7.out⟩
                        case measure => simp [intOf]; omega
        · obtain rfl : k = l.length := by omega
          by_cases ha : 1 ≤ ask ∧ ask ≤ 11
          · obtain ⟨ha0, ha1⟩ := ha
            obtain ⟨c, hc⟩ := Int.eq_ofNat_of_zero_le (show 0 ≤ ask - 1 by omega)
            obtain rfl : ask = (c : Int) + 1 := by omega
            have hc11 : c < 11 := by omega
            have d0 := D0.out.at (c + 1) (by omega)
            rw [sh_at] at d0
            have HGT := Lib.hid (mget_yes w1.heap.size g c wr M0.out hc11)
            obtain ⟨y, ey⟩ : ∃ y, y = g c := ⟨_, rfl⟩
            rw [← ey] at d0 HGT
            clear hc ey
            go_wp2_with fail
            refine HGT.out.mono ?_
            rintro e w2 ⟨rfl, rfl⟩
            go_wp2
            go_ret
            exact ⟨rfl, F0.out.grown (by simp)⟩
          · by_cases ha0 : ask ≥ 1
            · have ha1 : ¬ ask ≤ 11 := by omega
              clear ha
              go_wp2_with fail
              refine (mget_no w1.heap.size ask _ (by omega)).mono ?_
              rintro e w2 ⟨rfl, rfl⟩
              go_wp2
              go_ret
              exact ⟨rfl, F0.out.grown (by simp)⟩
            · clear ha
              go_wp2_with fail
              refine (mget_no w1.heap.size ask _ (by omega)).mono ?_
              rintro e w2 ⟨rfl, rfl⟩
              go_wp2
              go_ret
              exact ⟨rfl, F0.out.grown (by simp)⟩
    · have hl' : ((bs.length : Int) > 80) := by omega
      go_enter Try.func3, Try.ntmps3
      go_wp2_with fail
      refine (mfirst_any _).mono ?_
      rintro e w1 ⟨rfl, hf⟩
      go_wp2
      go_ret
      exact ⟨rfl, hf.grown (by simp)⟩
  · have hl' : ((l.length : Int) > 80) := by omega
    go_enter Try.func3, Try.ntmps3
    go_wp2_with fail
    refine (mfirst_any _).mono ?_
    rintro e w1 ⟨rfl, hf⟩
    go_wp2
    go_ret
    exact ⟨rfl, hf.grown (by simp)⟩
end Go.Proofs.Ytklfjglbehjcaaa
