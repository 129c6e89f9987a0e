/- No car turns while something lies ahead; it moves only where something lies that way; it stops where there is a call for it. -/
import Derived.Test.YtkdfnnikgliglaaDoorPlFirst
import Derived.Test.YtkdfnnikgliglaaDoorNum
namespace Go.Proofs.YtkdfnnikgliglaaDoor
open Go.RowKit

/-- The stops' cells and a deed's, for what only reads; in a world that came of W. -/
def KR (W : World) (p u d b : Nat) (xs : Bool) (xd xm : Int) (a : World) : Prop := Fr W a [] ∧
  (a.cell? ⟨W.heap.size, 0, none⟩ = some (.int .u64 p) ∧ a.cell? ⟨W.heap.size, 1, none⟩ = some (.int .u64 u) ∧ a.cell? ⟨W.heap.size, 2, none⟩ = some (.int .u64 d)) ∧
  a.cell? ⟨b, 0, none⟩ = some (.bool xs) ∧ a.cell? ⟨b, 1, none⟩ = some (.int .i64 xd) ∧ a.cell? ⟨b, 2, none⟩ = some (.int .i64 xm)
theorem KR.fr {W : World} {p u d b : Nat} {xs : Bool} {xd xm : Int} {a a' : World} (h : KR W p u d b xs xd xm a) (k : Fr a a' []) : KR W p u d b xs xd xm a' := by
  obtain ⟨h0, ⟨h1, h2, h3⟩, h4, h5, h6⟩ := h
  exact ⟨h0.trans k, ⟨k.cell h1 (by simp), k.cell h2 (by simp), k.cell h3 (by simp)⟩, k.cell h4 (by simp), k.cell h5 (by simp), k.cell h6 (by simp)⟩
theorem KR.new {W : World} {p u d : Nat} {a : World} (h : SS W W.heap.size p u d a) (xs : Bool) (xd xm : Int) : KR W p u d a.heap.size xs xd xm (a.alloc (.cells #[.bool xs, .int .i64 xd, .int .i64 xm] 31)) := by
  have h' := h.fr (Fr.alloc a (.cells #[.bool xs, .int .i64 xd, .int .i64 xm] 31) [])
  exact ⟨h'.1, h'.2, arow (heap_alloc_new _ _)⟩

set_option maxHeartbeats 4000000 in
set_option maxRecDepth 100000 in
theorem keeps_true (s : Sp) (k1 k2 : Int) (ok : s.ok) (a10 : -9223372036854775808 ≤ k1) (a11 : k1 ≤ 9223372036854775807) (a20 : -9223372036854775808 ≤ k2) (a21 : k2 ≤ 9223372036854775807) (w : World) (hT : Tz w) :
    Calls Tryd.prog 6 #[s.v, .int .i64 k1, .int .i64 k2] w fun x w' => x = .returned (.bool true) ∧ Fr w w' [] := by
  have N1 := Lib.hid (fun W => numberTo_any k1 64 W (by omega) (by omega) a10 a11)
  have N2 := Lib.hid (fun W => numberTo_any k2 3 W (by omega) (by omega) a20 a21)
  have P10 := Int.emod_nonneg k1 (show (64 : Int) ≠ 0 by omega)
  have P11 := Int.emod_lt_of_pos k1 (show (0 : Int) < 64 by omega)
  have P20 := Int.emod_nonneg k2 (show (3 : Int) ≠ 0 by omega)
  have P21 := Int.emod_lt_of_pos k2 (show (0 : Int) < 3 by omega)
  obtain ⟨f, hf⟩ : ∃ f, k1 % 64 = f := ⟨_, rfl⟩
  obtain ⟨r, hr⟩ : ∃ r, k2 % 3 = r := ⟨_, rfl⟩
  rw [hf] at N1 P10 P11
  rw [hr] at N2 P20 P21
  clear hf hr a10 a11 a20 a21
  obtain ⟨e, he⟩ : ∃ e, e = r - 1 := ⟨_, rfl⟩
  have hw3 : IntKind.i64.wrap (r - 1) = e := by rw [he]; exact IntWalk.i64_in _ (by omega)
  have HI := head_is ok P10 P11 (show e = 0 ∨ e = 1 ∨ e = -1 by omega)
  have HDE := deed_in (s := s) (f := f) (d := e) (by omega)
  have HST : s.stop f e = (hasB s.c f || s.hall f (s.head f e)) := rfl
  obtain ⟨xd, hxd⟩ : ∃ x, x = s.head f e := ⟨_, rfl⟩
  obtain ⟨xs, hxs⟩ : ∃ x, x = s.stop f e := ⟨_, rfl⟩
  rw [← hxd] at HI HDE HST
  rw [← hxs] at HDE HST
  obtain ⟨xm, hxm⟩ : ∃ x, x = if xs = true then 0 else xd := ⟨_, rfl⟩
  rw [← hxm] at HDE
  have DE := Lib.hid (fun W hT => deed_any s f e W ok hT ⟨xs, xd, xm⟩ HDE.symm)
  obtain ⟨b1, h1⟩ : ∃ b, b = towB s.all f e := ⟨_, rfl⟩
  have TO := Lib.hid (fun W => tow_any s f e W ok b1 h1)
  obtain ⟨b2, h2⟩ : ∃ b, b = s.hall f xd := ⟨_, rfl⟩
  have HA := Lib.hid (fun W => hall_any s f xd W ok b2 h2)
  obtain ⟨b3, h3⟩ : ∃ b, b = hasB s.c f := ⟨_, rfl⟩
  have AT := Lib.hid (fun W => at_any s f W ok b3 h3)
  rw [← h2, ← h3] at HST
  have TM := Lib.hid (fun W (hm : xm ≠ 0) => tow_any s f xm W ok true (by
    have g1 : ¬ xs = true := fun g => by rw [if_pos g] at hxm; exact hm hxm
    rw [if_neg g1] at hxm
    have g2 := HI.why (by rw [← hxm]; exact hm)
    have g3 : s.hall f xd = false := by
      rw [← h2]
      refine Bool.eq_false_iff.2 fun q => g1 ?_
      rw [HST, q]; simp
    rw [g3] at g2
    rw [hxm]
    exact (g2.resolve_right (by simp)).symm))
  obtain ⟨L, hL⟩ : ∃ L, L = bitsOf s.all := ⟨_, rfl⟩
  have FL := Lib.hid (fun W hT => floors_any s W ok hT L hL)
  have HLN := Lib.hid (show L.length ≤ 64 by rw [hL, bitsOf_len]; exact bits_len _)
  have K7 : Hid (e ≠ 0 → b1 = true → xd = e) := fun g q => HI.keep g (.inl (by rw [← h1]; exact q))
  have KM := Lib.hid hxm
  have K14 : Hid ((L.length = 0 ∧ xs = false ∧ xd = 0 ∧ xm = 0) ∨ (0 < L.length ∧ xs = true ∧ xm = 0) ∨ (0 < L.length ∧ xs = false ∧ xm ≠ 0)) := by
    show _ ∨ _ ∨ _
    have hall : 0 < L.length ↔ ∃ y, hasB s.all y = true := by
      rw [hL]
      constructor
      · intro h
        obtain ⟨z, hz⟩ := List.exists_mem_of_length_pos h
        exact ⟨z, (mem_bits ok.all z).1 hz⟩
      · rintro ⟨y, hy⟩
        exact List.length_pos_of_mem ((mem_bits ok.all y).2 hy)
    cases gx : xs with
    | true =>
      rw [gx, if_pos rfl] at hxm
      refine .inr (.inl ⟨hall.2 ⟨f, ?_⟩, rfl, hxm⟩)
      rw [gx, h2, h3] at HST
      exact (Bool.or_eq_true _ _ ▸ HST.symm).elim car_all hall_all
    | false =>
      rw [gx, if_neg (by simp)] at hxm
      rw [gx] at HST
      have g3 := Bool.or_eq_false_iff.1 HST.symm
      by_cases g : xd = 0
      · refine .inl ⟨?_, rfl, g, by rw [hxm, g]⟩
        have n := HI.none g
        have a0 : s.all = 0 := tow_none ok n.1 n.2.1 (by rw [all_parts, ← h3, g3.1, n.2.2.1, n.2.2.2]; rfl)
        rw [hL, a0]; simp [bitsOf, bits_zero]
      · refine .inr (.inr ⟨hall.2 ?_, rfl, by rw [hxm]; exact g⟩)
        rcases HI.why g with q | q
        · obtain ⟨y, _, hy⟩ := (towB_iff ok.all f xd).1 q
          exact ⟨y, hy⟩
        · exact ⟨f, hall_all q⟩
  have HB : Hid (xs = (b3 || b2)) := HST
  have HB0 : Hid (xd = 0 → b2 = false) := fun g => by rw [h2, g]; rfl
  have HT := Lib.hid hT
  obtain ⟨p, u, d⟩ := s
  have HS := Lib.hid (SS.new w 24 p u d)
  clear HI HDE HST hxd hxs hxm h1 h2 h3 hL hT ok he P10 P11 P20 P21
  dsimp only [Sp.v, De.v] at *
  go_enter Tryd.func6, Tryd.ntmps6
  have T0 := Lib.hid (HT.out.fr HS.out.1)
  go_wp2_with fail
  with_reducible refine (first_any _ T0.out).mono ?_
  rintro x w1 ⟨rfl, hf⟩
  have HS1 := Lib.hid (HS.out.fr hf)
  clear hf HS T0
  go_wp2_with fail
  with_reducible refine (N1.out _).mono ?_
  rintro x w2 ⟨rfl, rfl⟩
  go_wp2_with fail
  with_reducible refine (N2.out _).mono ?_
  rintro x w2 ⟨rfl, rfl⟩
  have T1 := Lib.hid (HT.out.fr HS1.out.1)
  obtain ⟨_, c0, c1, c2⟩ := HS1.out
  go_wp2_with fail
  with_reducible refine (DE.out _ T1.out).mono ?_
  rintro x w2 ⟨rfl, hf⟩
  have HK := Lib.hid (KR.new (HS1.out.fr hf) xs xd xm)
  clear hf c0 c1 c2 HS1 T1
  go_upto_region 7 with fail
  go_cut [35] (fun s35 wx => s35 = .bool false ∧ Hid (KR w p u d w2.heap.size xs xd xm wx))
  case first =>
    obtain ⟨_, ⟨c0, c1, c2⟩, x0, x1, x2⟩ := HK.out
    by_cases g : e = 0
    · have e1 : (e != 0) = false := by simp [g]
      clear g
      go_wp2_with fail
      go_meet
      exact ⟨rfl, HK⟩
    · have e1 : (e != 0) = true := by simp [g]
      have K7 := Lib.hid (K7.out g)
      clear g
      go_wp2_with fail
      with_reducible refine (TO.out _).mono ?_
      rintro x w3 ⟨rfl, hf⟩
      have HK2 := Lib.hid (HK.out.fr hf)
      clear hf c0 c1 c2 x0 x1 x2
      obtain ⟨_, ⟨c0, c1, c2⟩, x0, x1, x2⟩ := HK2.out
      cases b1 with
      | true =>
        have e2 : (xd != e) = false := by rw [K7.out rfl]; simp
        go_wp2_with fail
        go_meet
        exact ⟨rfl, HK2⟩
      | false =>
        go_wp2_with fail
        go_meet
        exact ⟨rfl, HK2⟩
  case rest =>
    obtain ⟨rfl, HK7⟩ := hcut
    clear HK TO K7
    go_upto_region 9 with fail
    go_cut [57] (fun s57 wx => s57 = .bool false ∧ Hid (KR w p u d w2.heap.size xs xd xm wx))
    case first =>
      obtain ⟨_, ⟨c0, c1, c2⟩, x0, x1, x2⟩ := HK7.out
      by_cases g : xm = 0
      · have e1 : (xm != 0) = false := by simp [g]
        clear g
        go_wp2_with fail
        go_meet
        exact ⟨rfl, HK7⟩
      · have e1 : (xm != 0) = true := by simp [g]
        have TM := Lib.hid (fun W => TM.out W g)
        obtain ⟨q1, q2⟩ : xs = false ∧ xm = xd := by
          have km := KM.out
          cases xs with
          | true => exact absurd (by rw [km]; rfl) g
          | false => exact ⟨rfl, by rw [km]; rfl⟩
        have e2 : (xm != xd) = false := by rw [q2]; simp
        clear g KM K14
        subst q1
        clear q2
        go_wp2_with fail
        with_reducible refine (TM.out _).mono ?_
        rintro x w3 ⟨rfl, hf⟩
        have HK2 := Lib.hid (HK7.out.fr hf)
        clear hf c0 c1 c2 x0 x1 x2
        go_wp2_with fail
        go_meet
        exact ⟨rfl, HK2⟩
    case rest =>
      obtain ⟨rfl, HK9⟩ := hcut
      clear HK7 TM KM
      go_upto_region 11 with fail
      go_cut [75] (fun s75 wx => s75 = .bool false ∧ Hid (KR w p u d w2.heap.size xs xd xm wx))
      case first =>
        have HKD := Lib.hid (HK9.out.fr (Fr.drew _ []))
        clear K14
        cases b3 with
        | true =>
          obtain rfl : xs = true := by rw [HB.out]; rfl
          clear HB
          refine wp_region_det (S := KR w p u d w2.heap.size true xd xm) (by kernel_rfl) HKD.out ?_
          refine wpDet_take (i := 0) (oi := _) (v := ?dv1) (by simp only [List.getElem?_toArray, List.getElem?_cons_zero]; rfl) (by kernel_rfl) (by kernel_rfl) (by kernel_rfl) (Or.inl ⟨by rfl, ?dy1⟩) ?dr1
          case dy1 => (intro w hSw; have hS0 := hSw; (try dsimp only [KR] at hSw); go_simp; refine Came.value ?_ hS0; with_reducible rfl)
          try simp only [Act.put, List.setIfInBounds_toArray, List.set_cons_zero, List.set_cons_succ]
          refine wpDet_take (i := 1) (oi := _) (v := ?dv2) (by simp only [List.getElem?_toArray, List.getElem?_cons_zero, List.getElem?_cons_succ]; rfl) (by kernel_rfl) (by kernel_rfl) (by kernel_rfl) (Or.inl ⟨by rfl, ?dy2⟩) ?dr2
          case dy2 => (intro w hSw; have hS0 := hSw; (try dsimp only [KR] at hSw); go_simp; refine Came.value ?_ hS0; with_reducible rfl)
          try simp only [Act.put, List.setIfInBounds_toArray, List.set_cons_zero, List.set_cons_succ]
          refine wpDet_take (i := 2) (oi := _) (v := ?dv3) (by simp only [List.getElem?_toArray, List.getElem?_cons_zero, List.getElem?_cons_succ]; rfl) (by kernel_rfl) (by kernel_rfl) (by kernel_rfl) (Or.inl ⟨by rfl, ?dy3⟩) ?dr3
          case dy3 => (intro w hSw; have hS0 := hSw; (try dsimp only [KR] at hSw); go_simp; refine Came.value ?_ hS0; with_reducible rfl)
          try simp only [Act.put, List.setIfInBounds_toArray, List.set_cons_zero, List.set_cons_succ]
          refine wpDet_take (i := 3) (oi := _) (v := ?dv4) (by simp only [List.getElem?_toArray, List.getElem?_cons_zero, List.getElem?_cons_succ]; rfl) (by kernel_rfl) (by kernel_rfl) (by kernel_rfl) (Or.inl ⟨by rfl, ?dy4⟩) ?dr4
          case dy4 => (intro w hSw; have hS0 := hSw; (try dsimp only [KR] at hSw); go_simp; refine Came.value ?_ hS0; with_reducible rfl)
          try simp only [Act.put, List.setIfInBounds_toArray, List.set_cons_zero, List.set_cons_succ]
          refine wpDet_take (i := 4) (oi := _) (v := ?dv5) (by simp only [List.getElem?_toArray, List.getElem?_cons_zero, List.getElem?_cons_succ]; rfl) (by kernel_rfl) (by kernel_rfl) (by kernel_rfl) (Or.inl ⟨by rfl, ?dy5⟩) ?dr5
          case dy5 => (intro w hSw; go_simp; exact Came.call ((AT.out w).mono fun e w' ⟨he, hf⟩ => ⟨he, hSw.fr hf⟩) (by with_reducible rfl))
          try simp only [Act.put, List.setIfInBounds_toArray, List.set_cons_zero, List.set_cons_succ]
          refine wpDet_take (i := 5) (oi := _) (v := ?dv6) (by simp only [List.getElem?_toArray, List.getElem?_cons_zero, List.getElem?_cons_succ]; rfl) (by kernel_rfl) (by kernel_rfl) (by kernel_rfl) (Or.inl ⟨by rfl, ?dy6⟩) ?dr6
          case dy6 => (intro w hSw; have hS0 := hSw; (try dsimp only [KR] at hSw); go_simp; refine Came.value ?_ hS0; with_reducible rfl)
          try simp only [Act.put, List.setIfInBounds_toArray, List.set_cons_zero, List.set_cons_succ]
          refine wpDet_take (i := 6) (oi := _) (v := undef) (by simp only [List.getElem?_toArray, List.getElem?_cons_zero, List.getElem?_cons_succ]; rfl) (by kernel_rfl) (by kernel_rfl) (by kernel_rfl) (Or.inr ⟨by rfl, rfl⟩) ?_
          try simp only [Act.put, List.setIfInBounds_toArray, List.set_cons_zero, List.set_cons_succ]
          refine wpDet_take (i := 7) (oi := _) (v := undef) (by simp only [List.getElem?_toArray, List.getElem?_cons_zero, List.getElem?_cons_succ]; rfl) (by kernel_rfl) (by kernel_rfl) (by kernel_rfl) (Or.inr ⟨by rfl, rfl⟩) ?_
          try simp only [Act.put, List.setIfInBounds_toArray, List.set_cons_zero, List.set_cons_succ]
          refine wpDet_take (i := 8) (oi := _) (v := undef) (by simp only [List.getElem?_toArray, List.getElem?_cons_zero, List.getElem?_cons_succ]; rfl) (by kernel_rfl) (by kernel_rfl) (by kernel_rfl) (Or.inr ⟨by rfl, rfl⟩) ?_
          try simp only [Act.put, List.setIfInBounds_toArray, List.set_cons_zero, List.set_cons_succ]
          refine wpDet_take (i := 9) (oi := _) (v := undef) (by simp only [List.getElem?_toArray, List.getElem?_cons_zero, List.getElem?_cons_succ]; rfl) (by kernel_rfl) (by kernel_rfl) (by kernel_rfl) (Or.inr ⟨by rfl, rfl⟩) ?_
          try simp only [Act.put, List.setIfInBounds_toArray, List.set_cons_zero, List.set_cons_succ]
          refine wpDet_take (i := 10) (oi := _) (v := undef) (by simp only [List.getElem?_toArray, List.getElem?_cons_zero, List.getElem?_cons_succ]; rfl) (by kernel_rfl) (by kernel_rfl) (by kernel_rfl) (Or.inr ⟨by rfl, rfl⟩) ?_
          try simp only [Act.put, List.setIfInBounds_toArray, List.set_cons_zero, List.set_cons_succ]
          refine wpDet_take (i := 11) (oi := _) (v := undef) (by simp only [List.getElem?_toArray, List.getElem?_cons_zero, List.getElem?_cons_succ]; rfl) (by kernel_rfl) (by kernel_rfl) (by kernel_rfl) (Or.inr ⟨by rfl, rfl⟩) ?_
          try simp only [Act.put, List.setIfInBounds_toArray, List.set_cons_zero, List.set_cons_succ]
          refine wpDet_take (i := 12) (oi := _) (v := undef) (by simp only [List.getElem?_toArray, List.getElem?_cons_zero, List.getElem?_cons_succ]; rfl) (by kernel_rfl) (by kernel_rfl) (by kernel_rfl) (Or.inr ⟨by rfl, rfl⟩) ?_
          try simp only [Act.put, List.setIfInBounds_toArray, List.set_cons_zero, List.set_cons_succ]
          refine wpDet_take (i := 13) (oi := _) (v := undef) (by simp only [List.getElem?_toArray, List.getElem?_cons_zero, List.getElem?_cons_succ]; rfl) (by kernel_rfl) (by kernel_rfl) (by kernel_rfl) (Or.inr ⟨by rfl, rfl⟩) ?_
          try simp only [Act.put, List.setIfInBounds_toArray, List.set_cons_zero, List.set_cons_succ]
          refine wpDet_take (i := 14) (oi := _) (v := undef) (by simp only [List.getElem?_toArray, List.getElem?_cons_zero, List.getElem?_cons_succ]; rfl) (by kernel_rfl) (by kernel_rfl) (by kernel_rfl) (Or.inr ⟨by rfl, rfl⟩) ?_
          try simp only [Act.put, List.setIfInBounds_toArray, List.set_cons_zero, List.set_cons_succ]
          refine wpDet_take (i := 15) (oi := _) (v := undef) (by simp only [List.getElem?_toArray, List.getElem?_cons_zero, List.getElem?_cons_succ]; rfl) (by kernel_rfl) (by kernel_rfl) (by kernel_rfl) (Or.inr ⟨by rfl, rfl⟩) ?_
          try simp only [Act.put, List.setIfInBounds_toArray, List.set_cons_zero, List.set_cons_succ]
          refine wpDet_take (i := 16) (oi := _) (v := ?dv17) (by simp only [List.getElem?_toArray, List.getElem?_cons_zero, List.getElem?_cons_succ]; rfl) (by kernel_rfl) (by kernel_rfl) (by kernel_rfl) (Or.inl ⟨by rfl, ?dy17⟩) ?dr17
          case dy17 => (intro w hSw; have hS0 := hSw; (try dsimp only [KR] at hSw); go_simp; refine Came.value ?_ hS0; with_reducible rfl)
          try simp only [Act.put, List.setIfInBounds_toArray, List.set_cons_zero, List.set_cons_succ]
          refine wpDet_take (i := 17) (oi := _) (v := ?dv18) (by simp only [List.getElem?_toArray, List.getElem?_cons_zero, List.getElem?_cons_succ]; rfl) (by kernel_rfl) (by kernel_rfl) (by kernel_rfl) (Or.inl ⟨by rfl, ?dy18⟩) ?dr18
          case dy18 => (intro w hSw; have hS0 := hSw; (try dsimp only [KR] at hSw); go_simp; refine Came.value ?_ hS0; with_reducible rfl)
          try simp only [Act.put, List.setIfInBounds_toArray, List.set_cons_zero, List.set_cons_succ]
          refine wpDet_done (by kernel_rfl) ?_ _
          intro w3 hS
          have hS := Lib.hid hS
          go_wp2_with fail
          go_meet
          exact ⟨rfl, hS⟩
        | false =>
          by_cases g : xd = 0
          · have g2 := HB0.out g
            obtain rfl : xs = false := by rw [HB.out, g2]; rfl
            have e1 : (xd != 0) = false := by simp [g]
            clear HB g g2
            refine wp_region_det (S := KR w p u d w2.heap.size false xd xm) (by kernel_rfl) HKD.out ?_
            refine wpDet_take (i := 0) (oi := _) (v := ?dv19) (by simp only [List.getElem?_toArray, List.getElem?_cons_zero]; rfl) (by kernel_rfl) (by kernel_rfl) (by kernel_rfl) (Or.inl ⟨by rfl, ?dy19⟩) ?dr19
            case dy19 => (intro w hSw; have hS0 := hSw; (try dsimp only [KR] at hSw); go_simp; refine Came.value ?_ hS0; with_reducible rfl)
            try simp only [Act.put, List.setIfInBounds_toArray, List.set_cons_zero, List.set_cons_succ]
            refine wpDet_take (i := 1) (oi := _) (v := ?dv20) (by simp only [List.getElem?_toArray, List.getElem?_cons_zero, List.getElem?_cons_succ]; rfl) (by kernel_rfl) (by kernel_rfl) (by kernel_rfl) (Or.inl ⟨by rfl, ?dy20⟩) ?dr20
            case dy20 => (intro w hSw; have hS0 := hSw; (try dsimp only [KR] at hSw); go_simp; refine Came.value ?_ hS0; with_reducible rfl)
            try simp only [Act.put, List.setIfInBounds_toArray, List.set_cons_zero, List.set_cons_succ]
            refine wpDet_take (i := 2) (oi := _) (v := ?dv21) (by simp only [List.getElem?_toArray, List.getElem?_cons_zero, List.getElem?_cons_succ]; rfl) (by kernel_rfl) (by kernel_rfl) (by kernel_rfl) (Or.inl ⟨by rfl, ?dy21⟩) ?dr21
            case dy21 => (intro w hSw; have hS0 := hSw; (try dsimp only [KR] at hSw); go_simp; refine Came.value ?_ hS0; with_reducible rfl)
            try simp only [Act.put, List.setIfInBounds_toArray, List.set_cons_zero, List.set_cons_succ]
            refine wpDet_take (i := 3) (oi := _) (v := ?dv22) (by simp only [List.getElem?_toArray, List.getElem?_cons_zero, List.getElem?_cons_succ]; rfl) (by kernel_rfl) (by kernel_rfl) (by kernel_rfl) (Or.inl ⟨by rfl, ?dy22⟩) ?dr22
            case dy22 => (intro w hSw; have hS0 := hSw; (try dsimp only [KR] at hSw); go_simp; refine Came.value ?_ hS0; with_reducible rfl)
            try simp only [Act.put, List.setIfInBounds_toArray, List.set_cons_zero, List.set_cons_succ]
            refine wpDet_take (i := 4) (oi := _) (v := ?dv23) (by simp only [List.getElem?_toArray, List.getElem?_cons_zero, List.getElem?_cons_succ]; rfl) (by kernel_rfl) (by kernel_rfl) (by kernel_rfl) (Or.inl ⟨by rfl, ?dy23⟩) ?dr23
            case dy23 => (intro w hSw; go_simp; exact Came.call ((AT.out w).mono fun e w' ⟨he, hf⟩ => ⟨he, hSw.fr hf⟩) (by with_reducible rfl))
            try simp only [Act.put, List.setIfInBounds_toArray, List.set_cons_zero, List.set_cons_succ]
            refine wpDet_take (i := 5) (oi := _) (v := ?dv24) (by simp only [List.getElem?_toArray, List.getElem?_cons_zero, List.getElem?_cons_succ]; rfl) (by kernel_rfl) (by kernel_rfl) (by kernel_rfl) (Or.inl ⟨by rfl, ?dy24⟩) ?dr24
            case dy24 => (intro w hSw; have hS0 := hSw; (try dsimp only [KR] at hSw); go_simp; refine Came.value ?_ hS0; with_reducible rfl)
            try simp only [Act.put, List.setIfInBounds_toArray, List.set_cons_zero, List.set_cons_succ]
            refine wpDet_take (i := 6) (oi := _) (v := ?dv25) (by simp only [List.getElem?_toArray, List.getElem?_cons_zero, List.getElem?_cons_succ]; rfl) (by kernel_rfl) (by kernel_rfl) (by kernel_rfl) (Or.inl ⟨by rfl, ?dy25⟩) ?dr25
            case dy25 => (intro w hSw; have hS0 := hSw; (try dsimp only [KR] at hSw); go_simp; refine Came.value ?_ hS0; with_reducible rfl)
            try simp only [Act.put, List.setIfInBounds_toArray, List.set_cons_zero, List.set_cons_succ]
            refine wpDet_take (i := 7) (oi := _) (v := ?dv26) (by simp only [List.getElem?_toArray, List.getElem?_cons_zero, List.getElem?_cons_succ]; rfl) (by kernel_rfl) (by kernel_rfl) (by kernel_rfl) (Or.inl ⟨by rfl, ?dy26⟩) ?dr26
            case dy26 => (intro w hSw; have hS0 := hSw; (try dsimp only [KR] at hSw); go_simp; refine Came.value ?_ hS0; with_reducible rfl)
            try simp only [Act.put, List.setIfInBounds_toArray, List.set_cons_zero, List.set_cons_succ]
            refine wpDet_take (i := 8) (oi := _) (v := ?dv27) (by simp only [List.getElem?_toArray, List.getElem?_cons_zero, List.getElem?_cons_succ]; rfl) (by kernel_rfl) (by kernel_rfl) (by kernel_rfl) (Or.inl ⟨by rfl, ?dy27⟩) ?dr27
            case dy27 => (intro w hSw; have hS0 := hSw; (try dsimp only [KR] at hSw); go_simp; refine Came.value ?_ hS0; with_reducible rfl)
            try simp only [Act.put, List.setIfInBounds_toArray, List.set_cons_zero, List.set_cons_succ]
            refine wpDet_take (i := 9) (oi := _) (v := ?dv28) (by simp only [List.getElem?_toArray, List.getElem?_cons_zero, List.getElem?_cons_succ]; rfl) (by kernel_rfl) (by kernel_rfl) (by kernel_rfl) (Or.inl ⟨by rfl, ?dy28⟩) ?dr28
            case dy28 => (intro w hSw; have hS0 := hSw; (try dsimp only [KR] at hSw); go_simp; refine Came.value ?_ hS0; with_reducible rfl)
            try simp only [Act.put, List.setIfInBounds_toArray, List.set_cons_zero, List.set_cons_succ]
            refine wpDet_take (i := 10) (oi := _) (v := undef) (by simp only [List.getElem?_toArray, List.getElem?_cons_zero, List.getElem?_cons_succ]; rfl) (by kernel_rfl) (by kernel_rfl) (by kernel_rfl) (Or.inr ⟨by rfl, rfl⟩) ?_
            try simp only [Act.put, List.setIfInBounds_toArray, List.set_cons_zero, List.set_cons_succ]
            refine wpDet_take (i := 11) (oi := _) (v := undef) (by simp only [List.getElem?_toArray, List.getElem?_cons_zero, List.getElem?_cons_succ]; rfl) (by kernel_rfl) (by kernel_rfl) (by kernel_rfl) (Or.inr ⟨by rfl, rfl⟩) ?_
            try simp only [Act.put, List.setIfInBounds_toArray, List.set_cons_zero, List.set_cons_succ]
            refine wpDet_take (i := 12) (oi := _) (v := undef) (by simp only [List.getElem?_toArray, List.getElem?_cons_zero, List.getElem?_cons_succ]; rfl) (by kernel_rfl) (by kernel_rfl) (by kernel_rfl) (Or.inr ⟨by rfl, rfl⟩) ?_
            try simp only [Act.put, List.setIfInBounds_toArray, List.set_cons_zero, List.set_cons_succ]
            refine wpDet_take (i := 13) (oi := _) (v := undef) (by simp only [List.getElem?_toArray, List.getElem?_cons_zero, List.getElem?_cons_succ]; rfl) (by kernel_rfl) (by kernel_rfl) (by kernel_rfl) (Or.inr ⟨by rfl, rfl⟩) ?_
            try simp only [Act.put, List.setIfInBounds_toArray, List.set_cons_zero, List.set_cons_succ]
            refine wpDet_take (i := 14) (oi := _) (v := undef) (by simp only [List.getElem?_toArray, List.getElem?_cons_zero, List.getElem?_cons_succ]; rfl) (by kernel_rfl) (by kernel_rfl) (by kernel_rfl) (Or.inr ⟨by rfl, rfl⟩) ?_
            try simp only [Act.put, List.setIfInBounds_toArray, List.set_cons_zero, List.set_cons_succ]
            refine wpDet_take (i := 15) (oi := _) (v := ?dv34) (by simp only [List.getElem?_toArray, List.getElem?_cons_zero, List.getElem?_cons_succ]; rfl) (by kernel_rfl) (by kernel_rfl) (by kernel_rfl) (Or.inl ⟨by rfl, ?dy34⟩) ?dr34
            case dy34 => (intro w hSw; have hS0 := hSw; (try dsimp only [KR] at hSw); go_simp; refine Came.value ?_ hS0; with_reducible rfl)
            try simp only [Act.put, List.setIfInBounds_toArray, List.set_cons_zero, List.set_cons_succ]
            refine wpDet_take (i := 16) (oi := _) (v := ?dv35) (by simp only [List.getElem?_toArray, List.getElem?_cons_zero, List.getElem?_cons_succ]; rfl) (by kernel_rfl) (by kernel_rfl) (by kernel_rfl) (Or.inl ⟨by rfl, ?dy35⟩) ?dr35
            case dy35 => (intro w hSw; have hS0 := hSw; (try dsimp only [KR] at hSw); go_simp; refine Came.value ?_ hS0; with_reducible rfl)
            try simp only [Act.put, List.setIfInBounds_toArray, List.set_cons_zero, List.set_cons_succ]
            refine wpDet_take (i := 17) (oi := _) (v := ?dv36) (by simp only [List.getElem?_toArray, List.getElem?_cons_zero, List.getElem?_cons_succ]; rfl) (by kernel_rfl) (by kernel_rfl) (by kernel_rfl) (Or.inl ⟨by rfl, ?dy36⟩) ?dr36
            case dy36 => (intro w hSw; have hS0 := hSw; (try dsimp only [KR] at hSw); go_simp; refine Came.value ?_ hS0; with_reducible rfl)
            try simp only [Act.put, List.setIfInBounds_toArray, List.set_cons_zero, List.set_cons_succ]
            refine wpDet_done (by kernel_rfl) ?_ _
            intro w3 hS
            have hS := Lib.hid hS
            go_wp2_with fail
            go_meet
            exact ⟨rfl, hS⟩
          · have e1 : (xd != 0) = true := by simp [g]
            obtain rfl : xs = b2 := by rw [HB.out]; rfl
            have e3 : (xs != xs) = false := by simp
            clear HB g
            refine wp_region_det (S := KR w p u d w2.heap.size xs xd xm) (by kernel_rfl) HKD.out ?_
            refine wpDet_take (i := 0) (oi := _) (v := ?dv37) (by simp only [List.getElem?_toArray, List.getElem?_cons_zero]; rfl) (by kernel_rfl) (by kernel_rfl) (by kernel_rfl) (Or.inl ⟨by rfl, ?dy37⟩) ?dr37
            case dy37 => (intro w hSw; have hS0 := hSw; (try dsimp only [KR] at hSw); go_simp; refine Came.value ?_ hS0; with_reducible rfl)
            try simp only [Act.put, List.setIfInBounds_toArray, List.set_cons_zero, List.set_cons_succ]
            refine wpDet_take (i := 1) (oi := _) (v := ?dv38) (by simp only [List.getElem?_toArray, List.getElem?_cons_zero, List.getElem?_cons_succ]; rfl) (by kernel_rfl) (by kernel_rfl) (by kernel_rfl) (Or.inl ⟨by rfl, ?dy38⟩) ?dr38
            case dy38 => (intro w hSw; have hS0 := hSw; (try dsimp only [KR] at hSw); go_simp; refine Came.value ?_ hS0; with_reducible rfl)
            try simp only [Act.put, List.setIfInBounds_toArray, List.set_cons_zero, List.set_cons_succ]
            refine wpDet_take (i := 2) (oi := _) (v := ?dv39) (by simp only [List.getElem?_toArray, List.getElem?_cons_zero, List.getElem?_cons_succ]; rfl) (by kernel_rfl) (by kernel_rfl) (by kernel_rfl) (Or.inl ⟨by rfl, ?dy39⟩) ?dr39
            case dy39 => (intro w hSw; have hS0 := hSw; (try dsimp only [KR] at hSw); go_simp; refine Came.value ?_ hS0; with_reducible rfl)
            try simp only [Act.put, List.setIfInBounds_toArray, List.set_cons_zero, List.set_cons_succ]
            refine wpDet_take (i := 3) (oi := _) (v := ?dv40) (by simp only [List.getElem?_toArray, List.getElem?_cons_zero, List.getElem?_cons_succ]; rfl) (by kernel_rfl) (by kernel_rfl) (by kernel_rfl) (Or.inl ⟨by rfl, ?dy40⟩) ?dr40
            case dy40 => (intro w hSw; have hS0 := hSw; (try dsimp only [KR] at hSw); go_simp; refine Came.value ?_ hS0; with_reducible rfl)
            try simp only [Act.put, List.setIfInBounds_toArray, List.set_cons_zero, List.set_cons_succ]
            refine wpDet_take (i := 4) (oi := _) (v := ?dv41) (by simp only [List.getElem?_toArray, List.getElem?_cons_zero, List.getElem?_cons_succ]; rfl) (by kernel_rfl) (by kernel_rfl) (by kernel_rfl) (Or.inl ⟨by rfl, ?dy41⟩) ?dr41
            case dy41 => (intro w hSw; go_simp; exact Came.call ((AT.out w).mono fun e w' ⟨he, hf⟩ => ⟨he, hSw.fr hf⟩) (by with_reducible rfl))
            try simp only [Act.put, List.setIfInBounds_toArray, List.set_cons_zero, List.set_cons_succ]
            refine wpDet_take (i := 5) (oi := _) (v := ?dv42) (by simp only [List.getElem?_toArray, List.getElem?_cons_zero, List.getElem?_cons_succ]; rfl) (by kernel_rfl) (by kernel_rfl) (by kernel_rfl) (Or.inl ⟨by rfl, ?dy42⟩) ?dr42
            case dy42 => (intro w hSw; have hS0 := hSw; (try dsimp only [KR] at hSw); go_simp; refine Came.value ?_ hS0; with_reducible rfl)
            try simp only [Act.put, List.setIfInBounds_toArray, List.set_cons_zero, List.set_cons_succ]
            refine wpDet_take (i := 6) (oi := _) (v := ?dv43) (by simp only [List.getElem?_toArray, List.getElem?_cons_zero, List.getElem?_cons_succ]; rfl) (by kernel_rfl) (by kernel_rfl) (by kernel_rfl) (Or.inl ⟨by rfl, ?dy43⟩) ?dr43
            case dy43 => (intro w hSw; have hS0 := hSw; (try dsimp only [KR] at hSw); go_simp; refine Came.value ?_ hS0; with_reducible rfl)
            try simp only [Act.put, List.setIfInBounds_toArray, List.set_cons_zero, List.set_cons_succ]
            refine wpDet_take (i := 7) (oi := _) (v := ?dv44) (by simp only [List.getElem?_toArray, List.getElem?_cons_zero, List.getElem?_cons_succ]; rfl) (by kernel_rfl) (by kernel_rfl) (by kernel_rfl) (Or.inl ⟨by rfl, ?dy44⟩) ?dr44
            case dy44 => (intro w hSw; have hS0 := hSw; (try dsimp only [KR] at hSw); go_simp; refine Came.value ?_ hS0; with_reducible rfl)
            try simp only [Act.put, List.setIfInBounds_toArray, List.set_cons_zero, List.set_cons_succ]
            refine wpDet_take (i := 8) (oi := _) (v := ?dv45) (by simp only [List.getElem?_toArray, List.getElem?_cons_zero, List.getElem?_cons_succ]; rfl) (by kernel_rfl) (by kernel_rfl) (by kernel_rfl) (Or.inl ⟨by rfl, ?dy45⟩) ?dr45
            case dy45 => (intro w hSw; have hS0 := hSw; (try dsimp only [KR] at hSw); go_simp; refine Came.value ?_ hS0; with_reducible rfl)
            try simp only [Act.put, List.setIfInBounds_toArray, List.set_cons_zero, List.set_cons_succ]
            refine wpDet_take (i := 9) (oi := _) (v := ?dv46) (by simp only [List.getElem?_toArray, List.getElem?_cons_zero, List.getElem?_cons_succ]; rfl) (by kernel_rfl) (by kernel_rfl) (by kernel_rfl) (Or.inl ⟨by rfl, ?dy46⟩) ?dr46
            case dy46 => (intro w hSw; have hS0 := hSw; (try dsimp only [KR] at hSw); go_simp; refine Came.value ?_ hS0; with_reducible rfl)
            try simp only [Act.put, List.setIfInBounds_toArray, List.set_cons_zero, List.set_cons_succ]
            refine wpDet_take (i := 10) (oi := _) (v := ?dv47) (by simp only [List.getElem?_toArray, List.getElem?_cons_zero, List.getElem?_cons_succ]; rfl) (by kernel_rfl) (by kernel_rfl) (by kernel_rfl) (Or.inl ⟨by rfl, ?dy47⟩) ?dr47
            case dy47 => (intro w hSw; have hS0 := hSw; (try dsimp only [KR] at hSw); go_simp; refine Came.value ?_ hS0; with_reducible rfl)
            try simp only [Act.put, List.setIfInBounds_toArray, List.set_cons_zero, List.set_cons_succ]
            refine wpDet_take (i := 11) (oi := _) (v := ?dv48) (by simp only [List.getElem?_toArray, List.getElem?_cons_zero, List.getElem?_cons_succ]; rfl) (by kernel_rfl) (by kernel_rfl) (by kernel_rfl) (Or.inl ⟨by rfl, ?dy48⟩) ?dr48
            case dy48 => (intro w hSw; have hS0 := hSw; (try dsimp only [KR] at hSw); go_simp; refine Came.value ?_ hS0; with_reducible rfl)
            try simp only [Act.put, List.setIfInBounds_toArray, List.set_cons_zero, List.set_cons_succ]
            refine wpDet_take (i := 12) (oi := _) (v := ?dv49) (by simp only [List.getElem?_toArray, List.getElem?_cons_zero, List.getElem?_cons_succ]; rfl) (by kernel_rfl) (by kernel_rfl) (by kernel_rfl) (Or.inl ⟨by rfl, ?dy49⟩) ?dr49
            case dy49 => (intro w hSw; have hS0 := hSw; (try dsimp only [KR] at hSw); go_simp; refine Came.value ?_ hS0; with_reducible rfl)
            try simp only [Act.put, List.setIfInBounds_toArray, List.set_cons_zero, List.set_cons_succ]
            refine wpDet_take (i := 13) (oi := _) (v := ?dv50) (by simp only [List.getElem?_toArray, List.getElem?_cons_zero, List.getElem?_cons_succ]; rfl) (by kernel_rfl) (by kernel_rfl) (by kernel_rfl) (Or.inl ⟨by rfl, ?dy50⟩) ?dr50
            case dy50 => (intro w hSw; have hS0 := hSw; (try dsimp only [KR] at hSw); go_simp; refine Came.value ?_ hS0; with_reducible rfl)
            try simp only [Act.put, List.setIfInBounds_toArray, List.set_cons_zero, List.set_cons_succ]
            refine wpDet_take (i := 14) (oi := _) (v := ?dv51) (by simp only [List.getElem?_toArray, List.getElem?_cons_zero, List.getElem?_cons_succ]; rfl) (by kernel_rfl) (by kernel_rfl) (by kernel_rfl) (Or.inl ⟨by rfl, ?dy51⟩) ?dr51
            case dy51 => (intro w hSw; go_simp; exact Came.call ((HA.out w).mono fun e w' ⟨he, hf⟩ => ⟨he, hSw.fr hf⟩) (by with_reducible rfl))
            try simp only [Act.put, List.setIfInBounds_toArray, List.set_cons_zero, List.set_cons_succ]
            refine wpDet_take (i := 15) (oi := _) (v := ?dv52) (by simp only [List.getElem?_toArray, List.getElem?_cons_zero, List.getElem?_cons_succ]; rfl) (by kernel_rfl) (by kernel_rfl) (by kernel_rfl) (Or.inl ⟨by rfl, ?dy52⟩) ?dr52
            case dy52 => (intro w hSw; have hS0 := hSw; (try dsimp only [KR] at hSw); go_simp; refine Came.value ?_ hS0; with_reducible rfl)
            try simp only [Act.put, List.setIfInBounds_toArray, List.set_cons_zero, List.set_cons_succ]
            refine wpDet_take (i := 16) (oi := _) (v := ?dv53) (by simp only [List.getElem?_toArray, List.getElem?_cons_zero, List.getElem?_cons_succ]; rfl) (by kernel_rfl) (by kernel_rfl) (by kernel_rfl) (Or.inl ⟨by rfl, ?dy53⟩) ?dr53
            case dy53 => (intro w hSw; have hS0 := hSw; (try dsimp only [KR] at hSw); go_simp; refine Came.value ?_ hS0; with_reducible rfl)
            try simp only [Act.put, List.setIfInBounds_toArray, List.set_cons_zero, List.set_cons_succ]
            refine wpDet_take (i := 17) (oi := _) (v := ?dv54) (by simp only [List.getElem?_toArray, List.getElem?_cons_zero, List.getElem?_cons_succ]; rfl) (by kernel_rfl) (by kernel_rfl) (by kernel_rfl) (Or.inl ⟨by rfl, ?dy54⟩) ?dr54
            case dy54 => (intro w hSw; have hS0 := hSw; (try dsimp only [KR] at hSw); go_simp; refine Came.value ?_ hS0; with_reducible rfl)
            try simp only [Act.put, List.setIfInBounds_toArray, List.set_cons_zero, List.set_cons_succ]
            refine wpDet_done (by kernel_rfl) ?_ _
            intro w3 hS
            have hS := Lib.hid hS
            go_wp2_with fail
            go_meet
            exact ⟨rfl, hS⟩
      case rest =>
        obtain ⟨rfl, HK11⟩ := hcut
        clear HK9 AT HA HB HB0
        have T11 := Lib.hid (HT.out.fr HK11.out.1)
        obtain ⟨_, ⟨c0, c1, c2⟩, x0, x1, x2⟩ := HK11.out
        go_wp2_with fail
        have TF := Lib.hid (FL.out _ T11.out)
        with_reducible refine TF.out.mono ?_
        rintro x w4 ⟨v, rfl, ho, hf⟩
        have HK12 := Lib.hid (HK11.out.fr hf)
        obtain ⟨a, cap, rfl, p1, q1, r1⟩ := ho.holds
        unfold maxLen at q1
        clear hf ho c0 c1 c2 x0 x1 x2 FL HK11 TF T11 r1
        obtain ⟨_, ⟨c0, c1, c2⟩, x0, x1, x2⟩ := HK12.out
        rcases K14.out with ⟨g1, g2, g3, g4⟩ | ⟨g1, g2, g3⟩ | ⟨g1, g2, g3⟩
        · have e1 : ((L.length : Int) == 0) = true := by simp [g1]
          subst g2 g3 g4
          clear g1 K14
          go_wp2
          go_ret
          exact ⟨rfl, HK12.out.1⟩
        · have e1 : ((L.length : Int) == 0) = false := by simp; intro e; rw [e] at g1; simp at g1
          subst g2 g3
          clear g1 K14
          go_wp2
          go_ret
          exact ⟨rfl, HK12.out.1⟩
        · have e1 : ((L.length : Int) == 0) = false := by simp; intro e; rw [e] at g1; simp at g1
          have e2 : (xm != 0) = true := by simp [g3]
          subst g2
          clear g1 g3 K14
          go_wp2
          go_ret
          exact ⟨rfl, HK12.out.1⟩
theorem plkeeps_walk (s : Sp) (h : s.ok) (k1 k2 : Int) (a10 : -9223372036854775808 ≤ k1) (a11 : k1 ≤ 9223372036854775807) (a20 : -9223372036854775808 ≤ k2) (a21 : k2 ≤ 9223372036854775807) (W : World) (hT : Tz W) :
    Calls Tryd.prog 6 #[s.v, .int .i64 k1, .int .i64 k2] W fun x w' => x = .returned (.bool true) ∧ W.grownBy w' none :=
  (keeps_true s k1 k2 h a10 a11 a20 a21 W hT).mono fun _ _ ⟨he, hf⟩ => ⟨he, hf.grown (by simp)⟩
end Go.Proofs.YtkdfnnikgliglaaDoor
