/- What is done at a floor: the package's. -/
import Derived.Test.YtgcgbiaigbblkaaDoorATz
import Derived.Test.YtgcgbiaigbblkaaDoorTow
import Derived.Test.YtgcgbiaigbblkaaDoorPlMath
import Derived.Test.YtgcgbiaigbblkaaDoorAhd3
namespace Go.Proofs.YtgcgbiaigbblkaaDoor
open Go.RowKit

theorem tow_any (s : Sp) (z e : Int) (w : World) (h : s.ok) (b : Bool) (hb : b = towB s.all z e) :
    Calls Tryd.prog 52 #[s.v, .int .i64 z, .int .i64 e] w fun x w' => x = .returned (.bool b) ∧ Fr w w' [] := by
  refine toward_any s z e w h b (fun k => ?_) (fun k => ?_) (fun k1 k2 => ?_)
  · rw [hb, towB, if_pos k]; exact upB_iff h.all z
  · rw [hb, towB, if_neg (by omega), if_pos k]; exact dnB_iff h.all z
  · rw [hb, towB, if_neg k1, if_neg k2]
theorem nr_any (s : Sp) (z : Int) (w : World) (h : s.ok) (hT : Tz w) (x : Int) (hx : x = nearN s.all z) :
    Calls Tryd.prog 51 #[s.v, .int .i64 z] w fun e w' => e = .returned (.int .i64 x) ∧ Fr w w' [] :=
  near_any s z w h hT x (by rw [hx]; exact nearN_is h.all z)

set_option maxHeartbeats 1000000 in
theorem wanted_any (s : Sp) (z e : Int) (w : World) (h : s.ok) (b : Bool) (hb : b = (towB s.all z e || s.hall z e)) :
    Calls Tryd.prog 49 #[s.v, .int .i64 z, .int .i64 e] w fun x w' => x = .returned (.bool b) ∧ Fr w w' [] := by
  obtain ⟨b1, h1⟩ : ∃ b1, b1 = towB s.all z e := ⟨_, rfl⟩
  obtain ⟨b2, h2⟩ : ∃ b2, b2 = s.hall z e := ⟨_, rfl⟩
  rw [← h1, ← h2] at hb
  have TO := Lib.hid (fun W => tow_any s z e W h b1 h1)
  have HA := Lib.hid (fun W => hall_any s z e W h b2 h2)
  obtain ⟨p, u, d⟩ := s
  have HS := Lib.hid (SS.new w 37 p u d)
  have HB := Lib.hid hb
  clear h1 h2 hb h
  dsimp only [Sp.v] at *
  obtain ⟨_, c0, c1, c2⟩ := HS.out
  go_enter Tryd.func49, Tryd.ntmps49
  go_wp2_with fail
  with_reducible refine (TO.out _).mono ?_
  rintro x w2 ⟨rfl, hf⟩
  have HS2 := Lib.hid (HS.out.fr hf)
  clear hf c0 c1 c2
  cases b1 with
  | true =>
    have HV : Hid (b = true) := by show _ = _; rw [HB.out]; rfl
    go_wp2
    go_ret
    exact ⟨by rw [HV.out]; rfl, HS2.out.1⟩
  | false =>
    have HV : Hid (b = b2) := by show _ = _; rw [HB.out]; rfl
    obtain ⟨_, c0, c1, c2⟩ := HS2.out
    go_wp2_with fail
    with_reducible refine (HA.out _).mono ?_
    rintro x w3 ⟨rfl, hf⟩
    have HS3 := Lib.hid (HS2.out.fr hf)
    clear hf c0 c1 c2
    go_wp2
    go_ret
    exact ⟨by rw [HV.out]; rfl, HS3.out.1⟩

set_option maxHeartbeats 1000000 in
theorem start_any (s : Sp) (z : Int) (w : World) (h : s.ok) (hT : Tz w) (x : Int) (hx : x = if s.hall z 1 = true then 1 else if s.hall z (-1) = true then -1 else nearN s.all z) :
    Calls Tryd.prog 48 #[s.v, .int .i64 z] w fun e w' => e = .returned (.int .i64 x) ∧ Fr w w' [] := by
  obtain ⟨b1, h1⟩ : ∃ b1, b1 = s.hall z 1 := ⟨_, rfl⟩
  obtain ⟨b2, h2⟩ : ∃ b2, b2 = s.hall z (-1) := ⟨_, rfl⟩
  obtain ⟨n, hn⟩ : ∃ n, n = nearN s.all z := ⟨_, rfl⟩
  rw [← h1, ← h2, ← hn] at hx
  have HU := Lib.hid (fun W => hall_any s z 1 W h b1 h1)
  have HD := Lib.hid (fun W => hall_any s z (-1) W h b2 h2)
  have NE := Lib.hid (fun W hT => nr_any s z W h hT n hn)
  obtain ⟨p, u, d⟩ := s
  have HS := Lib.hid (SS.new w 37 p u d)
  have HX := Lib.hid hx
  have HT := Lib.hid hT
  clear h1 h2 hn hx h hT
  dsimp only [Sp.v] at *
  obtain ⟨_, c0, c1, c2⟩ := HS.out
  go_enter Tryd.func48, Tryd.ntmps48
  go_wp2_with fail
  with_reducible refine (HU.out _).mono ?_
  rintro x w2 ⟨rfl, hf⟩
  have HS2 := Lib.hid (HS.out.fr hf)
  clear hf c0 c1 c2
  cases b1 with
  | true =>
    have HV : Hid (x = 1) := by show _ = _; rw [HX.out]; rfl
    go_wp2
    go_ret
    exact ⟨by rw [HV.out]; rfl, HS2.out.1⟩
  | false =>
    obtain ⟨_, c0, c1, c2⟩ := HS2.out
    go_wp2_with fail
    with_reducible refine (HD.out _).mono ?_
    rintro x w3 ⟨rfl, hf⟩
    have HS3 := Lib.hid (HS2.out.fr hf)
    clear hf c0 c1 c2
    cases b2 with
    | true =>
      have HV : Hid (x = -1) := by show _ = _; rw [HX.out]; rfl
      go_wp2
      go_ret
      exact ⟨by rw [HV.out]; rfl, HS3.out.1⟩
    | false =>
      have HV : Hid (x = n) := by show _ = _; rw [HX.out]; rfl
      obtain ⟨_, c0, c1, c2⟩ := HS3.out
      have T3 := Lib.hid (HT.out.fr HS3.out.1)
      go_wp2_with fail
      with_reducible refine (NE.out _ T3.out).mono ?_
      rintro x w4 ⟨rfl, hf⟩
      have HS4 := Lib.hid (HS3.out.fr hf)
      clear hf c0 c1 c2
      go_wp2
      go_ret
      exact ⟨by rw [HV.out]; rfl, HS4.out.1⟩

set_option maxHeartbeats 1000000 in
theorem heading_any (s : Sp) (z e : Int) (w : World) (h : s.ok) (hT : Tz w) (he : -1 ≤ e ∧ e ≤ 1) (x : Int) (hx : x = s.head z e) :
    Calls Tryd.prog 46 #[s.v, .int .i64 z, .int .i64 e] w fun r w' => r = .returned (.int .i64 x) ∧ Fr w w' [] := by
  unfold Sp.head at hx
  by_cases e0 : e = 0
  · rw [if_pos e0] at hx
    have ST := Lib.hid (fun W hT => start_any s z W h hT x hx)
    obtain ⟨p, u, d⟩ := s
    have HS := Lib.hid (SS.new w 37 p u d)
    have T1 := Lib.hid (hT.fr (Fr.alloc w (.cells #[.int .u64 p, .int .u64 u, .int .u64 d] 37) []))
    subst e0
    clear hx h hT he
    dsimp only [Sp.v] at *
    obtain ⟨_, c0, c1, c2⟩ := HS.out
    go_enter Tryd.func46, Tryd.ntmps46
    go_wp2_with fail
    with_reducible refine (ST.out _ T1.out).mono ?_
    rintro r w2 ⟨rfl, hf⟩
    have HS2 := Lib.hid (HS.out.fr hf)
    clear hf c0 c1 c2
    go_wp2
    go_ret
    exact ⟨rfl, HS2.out.1⟩
  · rw [if_neg e0] at hx
    obtain ⟨b1, h1⟩ : ∃ b1, b1 = (towB s.all z e || s.hall z e) := ⟨_, rfl⟩
    obtain ⟨b2, h2⟩ : ∃ b2, b2 = (towB s.all z (-e) || s.hall z (-e)) := ⟨_, rfl⟩
    rw [← h1, ← h2] at hx
    have W1 := Lib.hid (fun W => wanted_any s z e W h b1 h1)
    have W2 := Lib.hid (fun W => wanted_any s z (-e) W h b2 h2)
    have hw : IntKind.i64.wrap (-e) = -e := IntWalk.i64_in _ (by omega)
    have k0 : (e == 0) = false := by simp [e0]
    obtain ⟨p, u, d⟩ := s
    have HS := Lib.hid (SS.new w 37 p u d)
    have HX := Lib.hid hx
    obtain ⟨ne, hne⟩ : ∃ ne, ne = -e := ⟨_, rfl⟩
    rw [← hne] at W2 HX hw
    clear h1 h2 hx h hT he e0
    have hng := Lib.hid hne
    have hwn : IntKind.i64.wrap (-e) = ne := by rw [← hng.out]; exact hw
    clear hne hw
    dsimp only [Sp.v] at *
    obtain ⟨_, c0, c1, c2⟩ := HS.out
    go_enter Tryd.func46, Tryd.ntmps46
    go_wp2_with fail
    with_reducible refine (W1.out _).mono ?_
    rintro r w2 ⟨rfl, hf⟩
    have HS2 := Lib.hid (HS.out.fr hf)
    clear hf c0 c1 c2
    cases b1 with
    | true =>
      have HV : Hid (x = e) := by show _ = _; rw [HX.out]; rfl
      go_wp2
      go_ret
      exact ⟨by rw [HV.out]; rfl, HS2.out.1⟩
    | false =>
      obtain ⟨_, c0, c1, c2⟩ := HS2.out
      go_wp2_with fail
      with_reducible refine (W2.out _).mono ?_
      rintro r w3 ⟨rfl, hf⟩
      have HS3 := Lib.hid (HS2.out.fr hf)
      clear hf c0 c1 c2
      cases b2 with
      | true =>
        have HV : Hid (x = ne) := by show _ = _; rw [HX.out]; rfl
        go_wp2
        go_ret
        exact ⟨by rw [HV.out]; rfl, HS3.out.1⟩
      | false =>
        have HV : Hid (x = 0) := by show _ = _; rw [HX.out]; rfl
        go_wp2
        go_ret
        exact ⟨by rw [HV.out]; rfl, HS3.out.1⟩

/-- A deed as a value; as a box. -/
abbrev De.v (x : De) : Value := .agg #[.bool x.stop, .int .i64 x.dir, .int .i64 x.move]
abbrev De.box (T : TypeId) (x : De) : Obj := .cells #[.bool x.stop, .int .i64 x.dir, .int .i64 x.move] T
/-- The stops' cells, behind them a box of a deed that is nothing; in a world that came of W. -/
def DB (W : World) (T : TypeId) (p u d : Nat) (a : World) : Prop := SS W W.heap.size p u d a ∧ a.heap[W.heap.size + 1]? = some (.cells #[.bool false, .int .i64 0, .int .i64 0] T (0, 0))
theorem DB.fr {W : World} {T : TypeId} {p u d : Nat} {a a' : World} (h : DB W T p u d a) (k : Fr a a' []) : DB W T p u d a' := ⟨h.1.fr k, k.heap h.2 (by simp)⟩
theorem DB.new (w : World) (T1 T : TypeId) (p u d : Nat) : DB w T p u d ((w.alloc (.cells #[.int .u64 p, .int .u64 u, .int .u64 d] T1)).alloc (.cells #[.bool false, .int .i64 0, .int .i64 0] T)) := by
  have a2 := heap_alloc_new (w.alloc (.cells #[.int .u64 p, .int .u64 u, .int .u64 d] T1)) (.cells #[.bool false, .int .i64 0, .int .i64 0] T)
  rw [show (w.alloc (.cells #[.int .u64 p, .int .u64 u, .int .u64 d] T1)).heap.size = w.heap.size + 1 by simp] at a2
  exact ⟨(SS.new w T1 p u d).fr (Fr.alloc _ _ []), a2⟩

set_option maxHeartbeats 2000000 in
set_option maxRecDepth 100000 in
theorem deed_any (s : Sp) (f e : Int) (w : World) (h : s.ok) (hT : Tz w) (r : De) (hr : r = s.deed f e) :
    Calls Tryd.prog 41 #[s.v, .int .i64 f, .int .i64 e] w fun x w' => x = .returned r.v ∧ Fr w w' [] := by
  by_cases hin : 0 ≤ f ∧ f < 64 ∧ -1 ≤ e ∧ e ≤ 1
  · rw [deed_in hin] at hr
    obtain ⟨x, hx⟩ : ∃ x, x = s.head f e := ⟨_, rfl⟩
    obtain ⟨b1, h1⟩ : ∃ b1, b1 = hasB s.c f := ⟨_, rfl⟩
    obtain ⟨b2, h2⟩ : ∃ b2, b2 = s.hall f x := ⟨_, rfl⟩
    have hst : s.stop f e = (b1 || b2) := by rw [Sp.stop, ← hx, h1, h2]
    rw [hst, ← hx] at hr
    have HE := Lib.hid (fun W hT => heading_any s f e W h hT hin.2.2 x hx)
    have AT := Lib.hid (fun W => at_any s f W h b1 h1)
    have HA := Lib.hid (fun W => hall_any s f x W h b2 h2)
    have HR := Lib.hid hr
    obtain ⟨f0, f1, e0, e1⟩ := hin
    obtain ⟨p, u, d⟩ := s
    have HD := Lib.hid (DB.new w 37 85 p u d)
    have T1 := Lib.hid (hT.fr HD.out.1.1)
    clear hx h1 h2 hst hr hT h
    dsimp only [Sp.v] at *
    obtain ⟨_, c0, c1, c2⟩ := HD.out.1
    go_enter Tryd.func41, Tryd.ntmps41
    go_wp2_with fail
    with_reducible refine (HE.out _ T1.out).mono ?_
    rintro x w2 ⟨rfl, hf⟩
    have HD2 := Lib.hid (HD.out.fr hf)
    clear hf c0 c1 c2 T1
    obtain ⟨_, c0, c1, c2⟩ := HD2.out.1
    go_wp2_with fail
    with_reducible refine (AT.out _).mono ?_
    rintro x w3 ⟨rfl, hf⟩
    have HD3 := Lib.hid (HD2.out.fr hf)
    clear hf c0 c1 c2
    cases b1 with
    | true =>
      have HV : Hid (r = ⟨true, x, 0⟩) := by show _ = _; rw [HR.out]; rfl
      obtain ⟨x0, x1, x2⟩ := arow HD3.out.2
      have z := fun i => frozen_of_row _ _ i _ _ HD3.out.2
      have z0 := z 0
      have z1 := z 1
      have z2 := z 2
      have AF := Lib.hid (HD3.out.1.1.new (aset_fr _ (w.heap.size + 1) (.bool true) (.int .i64 x) (.int .i64 0)) (by simp))
      obtain ⟨y0, y1, y2⟩ := arow (aset HD3.out.2 (.bool true) (.int .i64 x) (.int .i64 0))
      clear z
      go_wp2
      exact bodyPost_ret (v := .agg #[.bool true, .int .i64 x, .int .i64 0]) (by simp [results, Tryd.results41, go_sem, y0, y1, y2]) rfl ⟨by rw [HV.out], AF.out⟩
    | false =>
      obtain ⟨_, c0, c1, c2⟩ := HD3.out.1
      go_wp2_with fail
      with_reducible refine (HA.out _).mono ?_
      rintro y w4 ⟨rfl, hf⟩
      have HD4 := Lib.hid (HD3.out.fr hf)
      clear hf c0 c1 c2
      cases b2 with
      | true =>
        have HV : Hid (r = ⟨true, x, 0⟩) := by show _ = _; rw [HR.out]; rfl
        obtain ⟨x0, x1, x2⟩ := arow HD4.out.2
        have z := fun i => frozen_of_row _ _ i _ _ HD4.out.2
        have z0 := z 0
        have z1 := z 1
        have z2 := z 2
        have AF := Lib.hid (HD4.out.1.1.new (aset_fr _ (w.heap.size + 1) (.bool true) (.int .i64 x) (.int .i64 0)) (by simp))
        obtain ⟨y0, y1, y2⟩ := arow (aset HD4.out.2 (.bool true) (.int .i64 x) (.int .i64 0))
        clear z
        go_wp2
        exact bodyPost_ret (v := .agg #[.bool true, .int .i64 x, .int .i64 0]) (by simp [results, Tryd.results41, go_sem, y0, y1, y2]) rfl ⟨by rw [HV.out], AF.out⟩
      | false =>
        have HV : Hid (r = ⟨false, x, x⟩) := by show _ = _; rw [HR.out]; rfl
        obtain ⟨x0, x1, x2⟩ := arow HD4.out.2
        have z := fun i => frozen_of_row _ _ i _ _ HD4.out.2
        have z0 := z 0
        have z1 := z 1
        have z2 := z 2
        have AF := Lib.hid (HD4.out.1.1.new (aset_fr _ (w.heap.size + 1) (.bool false) (.int .i64 x) (.int .i64 x)) (by simp))
        obtain ⟨y0, y1, y2⟩ := arow (aset HD4.out.2 (.bool false) (.int .i64 x) (.int .i64 x))
        clear z
        go_wp2
        exact bodyPost_ret (v := .agg #[.bool false, .int .i64 x, .int .i64 x]) (by simp [results, Tryd.results41, go_sem, y0, y1, y2]) rfl ⟨by rw [HV.out], AF.out⟩
  · rw [deed_out hin] at hr
    obtain ⟨p, u, d⟩ := s
    have HF := Lib.hid (DB.new w 37 85 p u d).1.1
    subst hr
    clear hT h
    dsimp only [Sp.v, De.v, zDe] at *
    by_cases g1 : f < 0
    · clear hin
      go_enter Tryd.func41, Tryd.ntmps41
      go_wp2
      exact bodyPost_ret (v := .agg #[.bool false, .int .i64 0, .int .i64 0]) (by simp [results, Tryd.results41, go_sem]) rfl ⟨rfl, HF.out⟩
    · have g1' : 0 ≤ f := by omega
      clear g1
      by_cases g2 : 64 ≤ f
      · clear hin
        go_enter Tryd.func41, Tryd.ntmps41
        go_wp2
        exact bodyPost_ret (v := .agg #[.bool false, .int .i64 0, .int .i64 0]) (by simp [results, Tryd.results41, go_sem]) rfl ⟨rfl, HF.out⟩
      · have g2' : f < 64 := by omega
        clear g2
        by_cases g3 : e < -1
        · clear hin
          go_enter Tryd.func41, Tryd.ntmps41
          go_wp2
          exact bodyPost_ret (v := .agg #[.bool false, .int .i64 0, .int .i64 0]) (by simp [results, Tryd.results41, go_sem]) rfl ⟨rfl, HF.out⟩
        · have g3' : -1 ≤ e := by omega
          have g4 : 1 < e := by omega
          clear g3 hin
          go_enter Tryd.func41, Tryd.ntmps41
          go_wp2
          exact bodyPost_ret (v := .agg #[.bool false, .int .i64 0, .int .i64 0]) (by simp [results, Tryd.results41, go_sem]) rfl ⟨rfl, HF.out⟩
end Go.Proofs.YtgcgbiaigbblkaaDoor
