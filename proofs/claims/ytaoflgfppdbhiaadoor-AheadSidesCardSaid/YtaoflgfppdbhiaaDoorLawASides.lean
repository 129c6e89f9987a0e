/- Each floor at which there is something lies above a floor, below it, or is it; the nearer one is no further than the other. -/
import Derived.Test.YtaoflgfppdbhiaaDoorATz
import Derived.Test.YtaoflgfppdbhiaaDoorAFirst
import Derived.Test.YtaoflgfppdbhiaaDoorNum
namespace Go.Proofs.YtaoflgfppdbhiaaDoor
open Go.RowKit

/-- The least way up, down, among those told; 100: none. -/
def UpIs (f : Int) (l : List Int) (u : Int) : Prop := (u = 100 ∧ ∀ z ∈ l, ¬ f < z) ∨ (u < 100 ∧ 0 < u ∧ f + u ∈ l ∧ ∀ z ∈ l, f < z → u ≤ z - f)
def DnIs (f : Int) (l : List Int) (d : Int) : Prop := (d = 100 ∧ ∀ z ∈ l, ¬ z < f) ∨ (d < 100 ∧ 0 < d ∧ f - d ∈ l ∧ ∀ z ∈ l, z < f → d ≤ f - z)
theorem UpIs.nil (f : Int) : UpIs f [] 100 := .inl ⟨rfl, by simp⟩
theorem DnIs.nil (f : Int) : DnIs f [] 100 := .inl ⟨rfl, by simp⟩
theorem UpIs.no {f z u : Int} {l : List Int} (h : UpIs f l u) (hz : ¬ f < z) : UpIs f (l ++ [z]) u := by
  rcases h with ⟨a, b⟩ | ⟨a, b, c, d⟩
  · refine .inl ⟨a, fun y hy => ?_⟩
    rcases List.mem_append.1 hy with hy | hy
    · exact b y hy
    · obtain rfl := List.mem_singleton.1 hy; exact hz
  · refine .inr ⟨a, b, List.mem_append_left _ c, fun y hy hf => ?_⟩
    rcases List.mem_append.1 hy with hy | hy
    · exact d y hy hf
    · obtain rfl := List.mem_singleton.1 hy; exact absurd hf hz
theorem DnIs.no {f z u : Int} {l : List Int} (h : DnIs f l u) (hz : ¬ z < f) : DnIs f (l ++ [z]) u := by
  rcases h with ⟨a, b⟩ | ⟨a, b, c, d⟩
  · refine .inl ⟨a, fun y hy => ?_⟩
    rcases List.mem_append.1 hy with hy | hy
    · exact b y hy
    · obtain rfl := List.mem_singleton.1 hy; exact hz
  · refine .inr ⟨a, b, List.mem_append_left _ c, fun y hy hf => ?_⟩
    rcases List.mem_append.1 hy with hy | hy
    · exact d y hy hf
    · obtain rfl := List.mem_singleton.1 hy; exact absurd hf hz
theorem UpIs.yes {f z u : Int} {l : List Int} (h : UpIs f l u) (hz : f < z) (hb : z - f < 100) : UpIs f (l ++ [z]) (min u (z - f)) := by
  rcases h with ⟨a, b⟩ | ⟨a, b, c, d⟩
  · refine .inr ⟨by omega, by omega, ?_, fun y hy hf => ?_⟩
    · rw [show f + min u (z - f) = z by omega]; simp
    · rcases List.mem_append.1 hy with hy | hy
      · exact absurd hf (b y hy)
      · obtain rfl := List.mem_singleton.1 hy; omega
  · refine .inr ⟨by omega, by omega, ?_, fun y hy hf => ?_⟩
    · by_cases hm : u ≤ z - f
      · rw [show f + min u (z - f) = f + u by omega]; exact List.mem_append_left _ c
      · rw [show f + min u (z - f) = z by omega]; simp
    · rcases List.mem_append.1 hy with hy | hy
      · have := d y hy hf; omega
      · obtain rfl := List.mem_singleton.1 hy; omega
theorem DnIs.yes {f z u : Int} {l : List Int} (h : DnIs f l u) (hz : z < f) (hb : f - z < 100) : DnIs f (l ++ [z]) (min u (f - z)) := by
  rcases h with ⟨a, b⟩ | ⟨a, b, c, d⟩
  · refine .inr ⟨by omega, by omega, ?_, fun y hy hf => ?_⟩
    · rw [show f - min u (f - z) = z by omega]; simp
    · rcases List.mem_append.1 hy with hy | hy
      · exact absurd hf (b y hy)
      · obtain rfl := List.mem_singleton.1 hy; omega
  · refine .inr ⟨by omega, by omega, ?_, fun y hy hf => ?_⟩
    · by_cases hm : u ≤ f - z
      · rw [show f - min u (f - z) = f - u by omega]; exact List.mem_append_left _ c
      · rw [show f - min u (f - z) = z by omega]; simp
    · rcases List.mem_append.1 hy with hy | hy
      · have := d y hy hf; omega
      · obtain rfl := List.mem_singleton.1 hy; omega
theorem UpIs.bound {f u : Int} {l : List Int} (h : UpIs f l u) : 0 < u ∧ u ≤ 100 := by
  rcases h with ⟨a, _⟩ | ⟨a, b, _⟩ <;> omega
theorem DnIs.bound {f u : Int} {l : List Int} (h : DnIs f l u) : 0 < u ∧ u ≤ 100 := by
  rcases h with ⟨a, _⟩ | ⟨a, b, _⟩ <;> omega
theorem UpIs.some {n : Nat} (hn : n < 18446744073709551616) {f u : Int} (h : UpIs f (bitsOf n) u) : decide (u < 100) = true ↔ ∃ y, f < y ∧ hasB n y = true := by
  rw [decide_eq_true_iff]
  rcases h with ⟨a, b⟩ | ⟨a, b, c, d⟩
  · exact ⟨fun e => by omega, fun ⟨y, hy, hb⟩ => absurd hy (b y ((mem_bits hn y).2 hb))⟩
  · exact ⟨fun _ => ⟨f + u, by omega, (mem_bits hn _).1 c⟩, fun _ => a⟩
theorem DnIs.some {n : Nat} (hn : n < 18446744073709551616) {f u : Int} (h : DnIs f (bitsOf n) u) : decide (u < 100) = true ↔ ∃ y, y < f ∧ hasB n y = true := by
  rw [decide_eq_true_iff]
  rcases h with ⟨a, b⟩ | ⟨a, b, c, d⟩
  · exact ⟨fun e => by omega, fun ⟨y, hy, hb⟩ => absurd hy (b y ((mem_bits hn y).2 hb))⟩
  · exact ⟨fun _ => ⟨f - u, by omega, (mem_bits hn _).1 c⟩, fun _ => a⟩
/-- Which way is nearer, of both. -/
def wantOf (u d : Int) : Int := if u < 100 ∧ u ≤ d then 1 else if d < 100 ∧ d < u then -1 else 0
theorem near_want {n : Nat} (hn : n < 18446744073709551616) {f u d : Int} (hu : UpIs f (bitsOf n) u) (hd : DnIs f (bitsOf n) d) : NearIs n f (wantOf u d) := by
  have M := fun z => mem_bits hn z
  have F : ∀ z, ¬ z ∈ bitsOf n → hasB n z = false := fun z h => by
    cases e : hasB n z with
    | false => rfl
    | true => exact absurd ((M z).2 e) h
  unfold wantOf
  rcases hu with ⟨a, b⟩ | ⟨a, b, c, e⟩
  · rw [if_neg (by omega)]
    rcases hd with ⟨a', b'⟩ | ⟨a', b', c', e'⟩
    · rw [if_neg (by omega)]
      exact .inl ⟨rfl, fun k hk => ⟨F _ fun h => b _ h (by omega), F _ fun h => b' _ h (by omega)⟩⟩
    · rw [if_pos (by omega)]
      exact .inr (.inr ⟨rfl, d, b', (M _).1 c', fun j hj _ => F _ fun h => b _ h (by omega)⟩)
  · rcases hd with ⟨a', b'⟩ | ⟨a', b', c', e'⟩
    · rw [if_pos (by omega)]
      exact .inr (.inl ⟨rfl, u, b, (M _).1 c, fun j hj _ => F _ fun h => b' _ h (by omega)⟩)
    · by_cases hle : u ≤ d
      · rw [if_pos (by omega)]
        exact .inr (.inl ⟨rfl, u, b, (M _).1 c, fun j hj hj2 => F _ fun h => by have := e' _ h (by omega); omega⟩)
      · rw [if_neg (by omega), if_pos (by omega)]
        exact .inr (.inr ⟨rfl, d, b', (M _).1 c', fun j hj hj2 => F _ fun h => by have := e _ h (by omega); omega⟩)
theorem any_len {n : Nat} (hn : n < 18446744073709551616) : 0 < (bitsOf n).length ↔ ∃ y, hasB n y = true := by
  constructor
  · intro h
    obtain ⟨z, hz⟩ := List.exists_mem_of_length_pos h
    exact ⟨z, (mem_bits hn z).1 hz⟩
  · rintro ⟨y, hy⟩
    exact List.length_pos_of_mem ((mem_bits hn y).2 hy)

set_option maxHeartbeats 4000000 in
set_option maxRecDepth 100000 in
theorem sides_true (s : Sp) (k : Int) (h : s.ok) (hk0 : -9223372036854775808 ≤ k) (hk1 : k ≤ 9223372036854775807) (w : World) (hT : Tz w) :
    Calls Tryd.prog 4 #[s.v, .int .i64 k] w fun x w' => x = .returned (.bool true) ∧ Fr w w' [] := by
  have NU := Lib.hid (fun W => numberTo_any k 64 W (by omega) (by omega) hk0 hk1)
  have P0 := Int.emod_nonneg k (show (64 : Int) ≠ 0 by omega)
  have P1 := Int.emod_lt_of_pos k (show (0 : Int) < 64 by omega)
  obtain ⟨f, hf⟩ : ∃ f, k % 64 = f := ⟨_, rfl⟩
  rw [hf] at NU P0 P1
  clear hf hk0 hk1
  obtain ⟨n, hn⟩ : ∃ n, n = s.all := ⟨_, rfl⟩
  have hlt : n < 18446744073709551616 := by rw [hn]; exact h.all
  obtain ⟨L, hL⟩ : ∃ L, L = bitsOf n := ⟨_, rfl⟩
  have FL := Lib.hid (fun W hT => floors_any s W h hT L (by rw [hL, hn]))
  have NE := Lib.hid (fun W hT x (hx : NearIs n f x) => near_any s f W h hT x (by rw [show min (max f (-1)) 64 = f by omega, ← hn]; exact hx))
  obtain ⟨x1, hx1⟩ : ∃ x, x = hasB s.c f := ⟨_, rfl⟩
  obtain ⟨x2, hx2⟩ : ∃ x, x = hasB s.u f := ⟨_, rfl⟩
  obtain ⟨x3, hx3⟩ : ∃ x, x = hasB s.d f := ⟨_, rfl⟩
  have HX : Hid (hasB n f = (x1 || x2 || x3)) := by show _ = _; rw [hn, Sp.all, hasB_or, hasB_or, hx1, hx2, hx3]
  have AT := Lib.hid (fun W => at_any s f W h x1 hx1)
  have HU := Lib.hid (fun W => hall_any s f 1 W h x2 (by rw [hx2]; rfl))
  have HD := Lib.hid (fun W => hall_any s f (-1) W h x3 (by rw [hx3]; rfl))
  have AA := Lib.hid (fun W (b : Bool) (hb : b = true ↔ ∃ y, f < y ∧ hasB n y = true) => aboveB_any s f W h b (by rw [← hn]; exact hb))
  have BB := Lib.hid (fun W (b : Bool) (hb : b = true ↔ ∃ y, y < f ∧ hasB n y = true) => belowB_any s f W h b (by rw [← hn]; exact hb))
  obtain ⟨g, hg⟩ : ∃ g, g = decide (0 < L.length) := ⟨_, rfl⟩
  have hgi : g = true ↔ ∃ y, hasB n y = true := by rw [hg, decide_eq_true_iff, hL]; exact any_len hlt
  have A5 := Lib.hid (fun W => aboveB_any s (-5) W h g (by rw [← hn]; exact hgi.trans ⟨fun ⟨y, hy⟩ => ⟨y, by have := hasB_range hlt hy; omega, hy⟩, fun ⟨y, _, hy⟩ => ⟨y, hy⟩⟩))
  have B9 := Lib.hid (fun W => belowB_any s 99 W h g (by rw [← hn]; exact hgi.trans ⟨fun ⟨y, hy⟩ => ⟨y, by have := hasB_range hlt hy; omega, hy⟩, fun ⟨y, _, hy⟩ => ⟨y, hy⟩⟩))
  have kg : (g == decide (0 < L.length)) = true := by rw [hg]; simp
  have hlr : ∀ z ∈ L, 0 ≤ z ∧ z < 64 := fun z hz => by rw [hL] at hz; exact hasB_range hlt ((mem_bits hlt z).1 hz)
  have HLR := Lib.hid hlr
  have HLN := Lib.hid (show L.length ≤ 64 by rw [hL, bitsOf_len]; exact bits_len _)
  have HL := Lib.hid hL
  have HLT := Lib.hid hlt
  have HT := Lib.hid hT
  obtain ⟨p, u, d⟩ := s
  have HS0 := Lib.hid (SS.new w 26 p u d)
  clear hn hL hx1 hx2 hx3 hg hgi hlr hlt hT h
  dsimp only [Sp.v] at *
  go_enter Tryd.func4, Tryd.ntmps4
  go_wp2_with fail
  with_reducible refine (first_any _).mono ?_
  rintro e w1 ⟨rfl, hf⟩
  have H1 := Lib.hid (HS0.out.fr hf)
  clear hf HS0
  go_wp2_with fail
  with_reducible refine (NU.out _).mono ?_
  rintro e w2 ⟨rfl, rfl⟩
  obtain ⟨_, c0, c1, c2⟩ := H1.out
  go_wp2_with fail
  have T1 := Lib.hid (FL.out w1 (HT.out.fr H1.out.1))
  with_reducible refine T1.out.mono ?_
  rintro e w4 ⟨v, rfl, ho, hf⟩
  have H4 := Lib.hid (H1.out.fr hf)
  obtain ⟨a, cap, rfl, p1, q1, r1⟩ := ho.holds
  unfold maxLen at q1
  clear hf ho c0 c1 c2 FL H1 T1
  go_wp2
  go_loopw [7, 8, 9, 10] (fun s7 s8 s9 s10 wr => ∃ (i : Nat) (a b : Int) (c : Bool), i ≤ L.length ∧ s10 = .int .i64 i ∧ s7 = .int .i64 a ∧ s8 = .int .i64 b ∧ s9 = .bool c ∧ Hid (UpIs f (L.take i) a) ∧ Hid (DnIs f (L.take i) b) ∧ Hid (c = decide (f ∈ L.take i)) ∧ wr = w4) (fun _ _ _ i _ => L.length - (intOf i).toNat)
  case atStart => exact ⟨0, 100, 100, false, Nat.zero_le _, rfl, rfl, rfl, rfl, Lib.hid (UpIs.nil _), Lib.hid (DnIs.nil _), Lib.hid (by simp), rfl⟩
  case round =>
    obtain ⟨i, up, dn, c, hi, rfl, rfl, rfl, rfl, HU1, HD1, HC1, rfl⟩ := hrel
    by_cases hlt : i < L.length
    · obtain ⟨b, off, rfl, hc⟩ := r1 (by omega)
      have hcell := hc i hlt
      have hzr := HLR.out (L.getD i 0) (by simp [List.getD, hlt])
      have hsn := take_snoc L i hlt
      obtain ⟨z, hz⟩ : ∃ z, z = L.getD i 0 := ⟨_, rfl⟩
      rw [← hz] at hcell hzr hsn
      have HSN := Lib.hid hsn
      clear hz hc r1 hsn
      by_cases g1 : f < z
      · have hw : IntKind.i64.wrap (z - f) = z - f := IntWalk.i64_in _ (by omega)
        obtain ⟨m, hm⟩ : ∃ m, min up (z - f) = m := ⟨_, rfl⟩
        have HN1 : Hid (UpIs f (L.take (i + 1)) m) := by show UpIs _ _ _; rw [HSN.out, ← hm]; exact HU1.out.yes g1 (by omega)
        have HN2 : Hid (DnIs f (L.take (i + 1)) dn) := by show DnIs _ _ _; rw [HSN.out]; exact HD1.out.no (by omega)
        have HN3 : Hid (c = decide (f ∈ L.take (i + 1))) := by
          show _ = _
          rw [HC1.out, HSN.out]
          refine decide_eq_decide.2 ?_
          rw [List.mem_append, List.mem_singleton]
          exact ⟨.inl, fun e => e.elim id fun e => by omega⟩
        go_wp2
        go_roundw
        case rel => exact ⟨i + 1, m, dn, c, by omega, by go_num, rfl, rfl, rfl, HN1, HN2, HN3, trivial⟩
        case measure => simp [intOf]; omega
      · by_cases g2 : z < f
        · have hw : IntKind.i64.wrap (f - z) = f - z := IntWalk.i64_in _ (by omega)
          obtain ⟨m, hm⟩ : ∃ m, min dn (f - z) = m := ⟨_, rfl⟩
          have HN1 : Hid (UpIs f (L.take (i + 1)) up) := by show UpIs _ _ _; rw [HSN.out]; exact HU1.out.no g1
          have HN2 : Hid (DnIs f (L.take (i + 1)) m) := by show DnIs _ _ _; rw [HSN.out, ← hm]; exact HD1.out.yes g2 (by omega)
          have HN3 : Hid (c = decide (f ∈ L.take (i + 1))) := by
            show _ = _
            rw [HC1.out, HSN.out]
            refine decide_eq_decide.2 ?_
            rw [List.mem_append, List.mem_singleton]
            exact ⟨.inl, fun e => e.elim id fun e => by omega⟩
          go_wp2
          go_roundw
          case rel => exact ⟨i + 1, up, m, c, by omega, by go_num, rfl, rfl, rfl, HN1, HN2, HN3, trivial⟩
          case measure => simp [intOf]; omega
        · obtain rfl : z = f := by omega
          have HN1 : Hid (UpIs z (L.take (i + 1)) up) := by show UpIs _ _ _; rw [HSN.out]; exact HU1.out.no (by omega)
          have HN2 : Hid (DnIs z (L.take (i + 1)) dn) := by show DnIs _ _ _; rw [HSN.out]; exact HD1.out.no (by omega)
          have HN3 : Hid (true = decide (z ∈ L.take (i + 1))) := by
            show _ = _
            rw [HSN.out]
            simp
          go_wp2
          go_roundw
          case rel => exact ⟨i + 1, up, dn, true, by omega, by go_num, rfl, rfl, rfl, HN1, HN2, HN3, trivial⟩
          case measure => simp [intOf]; omega
    · obtain rfl : L.length = i := by omega
      rw [List.take_length] at HU1 HD1 HC1
      have HH : Hid (c = (x1 || x2 || x3)) := by
        show _ = _
        rw [HC1.out, ← HX.out, HL.out]
        cases e : hasB n f with
        | true => exact decide_eq_true ((mem_bits HLT.out f).2 e)
        | false => exact decide_eq_false (fun m => by rw [(mem_bits HLT.out f).1 m] at e; cases e)
      obtain ⟨hb, hhb⟩ : ∃ hb, hb = c := ⟨_, rfl⟩
      subst hhb
      have U := HU1.out
      have D := HD1.out
      rw [HL.out] at U D
      have bu := U.bound
      have bd := D.bound
      have AF := Lib.hid (fun W => AA.out W (decide (up < 100)) (UpIs.some HLT.out U))
      have BF := Lib.hid (fun W => BB.out W (decide (dn < 100)) (DnIs.some HLT.out D))
      obtain ⟨x, hx⟩ : ∃ x, x = wantOf up dn := ⟨_, rfl⟩
      have HN := Lib.hid (NE.out _ (HT.out.fr H4.out.1) x (by rw [hx]; exact near_want HLT.out U D))
      have kx : (x == x) = true := by simp
      have kb : (hb == hb) = true := by simp
      clear U D HU1 HD1 HC1 AA BB NE r1 hlt hi
      obtain ⟨_, c0, c1, c2⟩ := H4.out
      go_wp2_with fail
      with_reducible refine HN.out.mono ?_
      rintro e w6 ⟨rfl, hf⟩
      have H6 := Lib.hid (H4.out.fr hf)
      clear hf c0 c1 c2 HN
      by_cases g1 : up < 100 ∧ up ≤ dn
      · obtain rfl : x = 1 := by rw [hx, wantOf, if_pos g1]
        obtain ⟨g1, g2⟩ := g1
        have g3 : ¬ dn < up := by omega
        clear hx
        by_cases g4 : dn < 100
        · skip
          go_upto_region 23 with fail
          go_cut [13] (fun s13 wx => s13 = .bool hb ∧ Hid (SS w w.heap.size p u d wx))
          case first =>
            obtain ⟨_, c0, c1, c2⟩ := H6.out
            go_wp2_with fail
            with_reducible refine (AT.out _).mono ?_
            rintro e w7 ⟨rfl, hf⟩
            have H7 := Lib.hid (H6.out.fr hf)
            clear hf c0 c1 c2
            cases x1 with
            | true =>
              have HV : Hid (hb = true) := by show _ = _; rw [HH.out]; rfl
              go_wp2
              go_meet
              exact ⟨by rw [HV.out], H7⟩
            | false =>
              obtain ⟨_, c0, c1, c2⟩ := H7.out
              go_wp2_with fail
              with_reducible refine (HU.out _).mono ?_
              rintro e w8 ⟨rfl, hf⟩
              have H8 := Lib.hid (H7.out.fr hf)
              clear hf c0 c1 c2
              cases x2 with
              | true =>
                have HV : Hid (hb = true) := by show _ = _; rw [HH.out]; rfl
                go_wp2
                go_meet
                exact ⟨by rw [HV.out], H8⟩
              | false =>
                obtain ⟨_, c0, c1, c2⟩ := H8.out
                go_wp2_with fail
                with_reducible refine (HD.out _).mono ?_
                rintro e w9 ⟨rfl, hf⟩
                have H9 := Lib.hid (H8.out.fr hf)
                clear hf c0 c1 c2
                have HV : Hid (hb = x3) := by show _ = _; rw [HH.out]; rfl
                go_wp2
                go_meet
                exact ⟨by rw [HV.out], H9⟩
          case rest =>
            obtain ⟨rfl, H7⟩ := hcut
            obtain ⟨_, c0, c1, c2⟩ := H7.out
            clear AT HU HD H6
            go_wp2_with fail
            with_reducible refine (AF.out _).mono ?_
            rintro e w8 ⟨rfl, hf⟩
            have H8 := Lib.hid (H7.out.fr hf)
            clear hf c0 c1 c2
            obtain ⟨_, c0, c1, c2⟩ := H8.out
            go_wp2_with fail
            with_reducible refine (BF.out _).mono ?_
            rintro e w9 ⟨rfl, hf⟩
            have H9 := Lib.hid (H8.out.fr hf)
            clear hf c0 c1 c2
            obtain ⟨_, c0, c1, c2⟩ := H9.out
            go_wp2_with fail
            with_reducible refine (A5.out _).mono ?_
            rintro e w10 ⟨rfl, hf⟩
            have H10 := Lib.hid (H9.out.fr hf)
            clear hf c0 c1 c2
            obtain ⟨_, c0, c1, c2⟩ := H10.out
            go_wp2_with fail
            with_reducible refine (B9.out _).mono ?_
            rintro e w11 ⟨rfl, hf⟩
            have H11 := Lib.hid (H10.out.fr hf)
            clear hf c0 c1 c2
            go_wp2
            go_ret
            exact ⟨rfl, H11.out.1⟩
        · skip
          go_upto_region 23 with fail
          go_cut [13] (fun s13 wx => s13 = .bool hb ∧ Hid (SS w w.heap.size p u d wx))
          case first =>
            obtain ⟨_, c0, c1, c2⟩ := H6.out
            go_wp2_with fail
            with_reducible refine (AT.out _).mono ?_
            rintro e w7 ⟨rfl, hf⟩
            have H7 := Lib.hid (H6.out.fr hf)
            clear hf c0 c1 c2
            cases x1 with
            | true =>
              have HV : Hid (hb = true) := by show _ = _; rw [HH.out]; rfl
              go_wp2
              go_meet
              exact ⟨by rw [HV.out], H7⟩
            | false =>
              obtain ⟨_, c0, c1, c2⟩ := H7.out
              go_wp2_with fail
              with_reducible refine (HU.out _).mono ?_
              rintro e w8 ⟨rfl, hf⟩
              have H8 := Lib.hid (H7.out.fr hf)
              clear hf c0 c1 c2
              cases x2 with
              | true =>
                have HV : Hid (hb = true) := by show _ = _; rw [HH.out]; rfl
                go_wp2
                go_meet
                exact ⟨by rw [HV.out], H8⟩
              | false =>
                obtain ⟨_, c0, c1, c2⟩ := H8.out
                go_wp2_with fail
                with_reducible refine (HD.out _).mono ?_
                rintro e w9 ⟨rfl, hf⟩
                have H9 := Lib.hid (H8.out.fr hf)
                clear hf c0 c1 c2
                have HV : Hid (hb = x3) := by show _ = _; rw [HH.out]; rfl
                go_wp2
                go_meet
                exact ⟨by rw [HV.out], H9⟩
          case rest =>
            obtain ⟨rfl, H7⟩ := hcut
            obtain ⟨_, c0, c1, c2⟩ := H7.out
            clear AT HU HD H6
            go_wp2_with fail
            with_reducible refine (AF.out _).mono ?_
            rintro e w8 ⟨rfl, hf⟩
            have H8 := Lib.hid (H7.out.fr hf)
            clear hf c0 c1 c2
            obtain ⟨_, c0, c1, c2⟩ := H8.out
            go_wp2_with fail
            with_reducible refine (BF.out _).mono ?_
            rintro e w9 ⟨rfl, hf⟩
            have H9 := Lib.hid (H8.out.fr hf)
            clear hf c0 c1 c2
            obtain ⟨_, c0, c1, c2⟩ := H9.out
            go_wp2_with fail
            with_reducible refine (A5.out _).mono ?_
            rintro e w10 ⟨rfl, hf⟩
            have H10 := Lib.hid (H9.out.fr hf)
            clear hf c0 c1 c2
            obtain ⟨_, c0, c1, c2⟩ := H10.out
            go_wp2_with fail
            with_reducible refine (B9.out _).mono ?_
            rintro e w11 ⟨rfl, hf⟩
            have H11 := Lib.hid (H10.out.fr hf)
            clear hf c0 c1 c2
            go_wp2
            go_ret
            exact ⟨rfl, H11.out.1⟩
      · by_cases g2 : dn < 100 ∧ dn < up
        · obtain rfl : x = -1 := by rw [hx, wantOf, if_neg g1, if_pos g2]
          obtain ⟨g2, g3⟩ := g2
          have g4 : ¬ up ≤ dn := by omega
          clear hx g1
          by_cases g5 : up < 100
          · skip
            go_upto_region 23 with fail
            go_cut [13] (fun s13 wx => s13 = .bool hb ∧ Hid (SS w w.heap.size p u d wx))
            case first =>
              obtain ⟨_, c0, c1, c2⟩ := H6.out
              go_wp2_with fail
              with_reducible refine (AT.out _).mono ?_
              rintro e w7 ⟨rfl, hf⟩
              have H7 := Lib.hid (H6.out.fr hf)
              clear hf c0 c1 c2
              cases x1 with
              | true =>
                have HV : Hid (hb = true) := by show _ = _; rw [HH.out]; rfl
                go_wp2
                go_meet
                exact ⟨by rw [HV.out], H7⟩
              | false =>
                obtain ⟨_, c0, c1, c2⟩ := H7.out
                go_wp2_with fail
                with_reducible refine (HU.out _).mono ?_
                rintro e w8 ⟨rfl, hf⟩
                have H8 := Lib.hid (H7.out.fr hf)
                clear hf c0 c1 c2
                cases x2 with
                | true =>
                  have HV : Hid (hb = true) := by show _ = _; rw [HH.out]; rfl
                  go_wp2
                  go_meet
                  exact ⟨by rw [HV.out], H8⟩
                | false =>
                  obtain ⟨_, c0, c1, c2⟩ := H8.out
                  go_wp2_with fail
                  with_reducible refine (HD.out _).mono ?_
                  rintro e w9 ⟨rfl, hf⟩
                  have H9 := Lib.hid (H8.out.fr hf)
                  clear hf c0 c1 c2
                  have HV : Hid (hb = x3) := by show _ = _; rw [HH.out]; rfl
                  go_wp2
                  go_meet
                  exact ⟨by rw [HV.out], H9⟩
            case rest =>
              obtain ⟨rfl, H7⟩ := hcut
              obtain ⟨_, c0, c1, c2⟩ := H7.out
              clear AT HU HD H6
              go_wp2_with fail
              with_reducible refine (AF.out _).mono ?_
              rintro e w8 ⟨rfl, hf⟩
              have H8 := Lib.hid (H7.out.fr hf)
              clear hf c0 c1 c2
              obtain ⟨_, c0, c1, c2⟩ := H8.out
              go_wp2_with fail
              with_reducible refine (BF.out _).mono ?_
              rintro e w9 ⟨rfl, hf⟩
              have H9 := Lib.hid (H8.out.fr hf)
              clear hf c0 c1 c2
              obtain ⟨_, c0, c1, c2⟩ := H9.out
              go_wp2_with fail
              with_reducible refine (A5.out _).mono ?_
              rintro e w10 ⟨rfl, hf⟩
              have H10 := Lib.hid (H9.out.fr hf)
              clear hf c0 c1 c2
              obtain ⟨_, c0, c1, c2⟩ := H10.out
              go_wp2_with fail
              with_reducible refine (B9.out _).mono ?_
              rintro e w11 ⟨rfl, hf⟩
              have H11 := Lib.hid (H10.out.fr hf)
              clear hf c0 c1 c2
              go_wp2
              go_ret
              exact ⟨rfl, H11.out.1⟩
          · skip
            go_upto_region 23 with fail
            go_cut [13] (fun s13 wx => s13 = .bool hb ∧ Hid (SS w w.heap.size p u d wx))
            case first =>
              obtain ⟨_, c0, c1, c2⟩ := H6.out
              go_wp2_with fail
              with_reducible refine (AT.out _).mono ?_
              rintro e w7 ⟨rfl, hf⟩
              have H7 := Lib.hid (H6.out.fr hf)
              clear hf c0 c1 c2
              cases x1 with
              | true =>
                have HV : Hid (hb = true) := by show _ = _; rw [HH.out]; rfl
                go_wp2
                go_meet
                exact ⟨by rw [HV.out], H7⟩
              | false =>
                obtain ⟨_, c0, c1, c2⟩ := H7.out
                go_wp2_with fail
                with_reducible refine (HU.out _).mono ?_
                rintro e w8 ⟨rfl, hf⟩
                have H8 := Lib.hid (H7.out.fr hf)
                clear hf c0 c1 c2
                cases x2 with
                | true =>
                  have HV : Hid (hb = true) := by show _ = _; rw [HH.out]; rfl
                  go_wp2
                  go_meet
                  exact ⟨by rw [HV.out], H8⟩
                | false =>
                  obtain ⟨_, c0, c1, c2⟩ := H8.out
                  go_wp2_with fail
                  with_reducible refine (HD.out _).mono ?_
                  rintro e w9 ⟨rfl, hf⟩
                  have H9 := Lib.hid (H8.out.fr hf)
                  clear hf c0 c1 c2
                  have HV : Hid (hb = x3) := by show _ = _; rw [HH.out]; rfl
                  go_wp2
                  go_meet
                  exact ⟨by rw [HV.out], H9⟩
            case rest =>
              obtain ⟨rfl, H7⟩ := hcut
              obtain ⟨_, c0, c1, c2⟩ := H7.out
              clear AT HU HD H6
              go_wp2_with fail
              with_reducible refine (AF.out _).mono ?_
              rintro e w8 ⟨rfl, hf⟩
              have H8 := Lib.hid (H7.out.fr hf)
              clear hf c0 c1 c2
              obtain ⟨_, c0, c1, c2⟩ := H8.out
              go_wp2_with fail
              with_reducible refine (BF.out _).mono ?_
              rintro e w9 ⟨rfl, hf⟩
              have H9 := Lib.hid (H8.out.fr hf)
              clear hf c0 c1 c2
              obtain ⟨_, c0, c1, c2⟩ := H9.out
              go_wp2_with fail
              with_reducible refine (A5.out _).mono ?_
              rintro e w10 ⟨rfl, hf⟩
              have H10 := Lib.hid (H9.out.fr hf)
              clear hf c0 c1 c2
              obtain ⟨_, c0, c1, c2⟩ := H10.out
              go_wp2_with fail
              with_reducible refine (B9.out _).mono ?_
              rintro e w11 ⟨rfl, hf⟩
              have H11 := Lib.hid (H10.out.fr hf)
              clear hf c0 c1 c2
              go_wp2
              go_ret
              exact ⟨rfl, H11.out.1⟩
        · obtain rfl : x = 0 := by rw [hx, wantOf, if_neg g1, if_neg g2]
          have g5 : ¬ up < 100 := by omega
          have g6 : ¬ dn < 100 := by omega
          clear hx g1 g2
          go_upto_region 23 with fail
          go_cut [13] (fun s13 wx => s13 = .bool hb ∧ Hid (SS w w.heap.size p u d wx))
          case first =>
            obtain ⟨_, c0, c1, c2⟩ := H6.out
            go_wp2_with fail
            with_reducible refine (AT.out _).mono ?_
            rintro e w7 ⟨rfl, hf⟩
            have H7 := Lib.hid (H6.out.fr hf)
            clear hf c0 c1 c2
            cases x1 with
            | true =>
              have HV : Hid (hb = true) := by show _ = _; rw [HH.out]; rfl
              go_wp2
              go_meet
              exact ⟨by rw [HV.out], H7⟩
            | false =>
              obtain ⟨_, c0, c1, c2⟩ := H7.out
              go_wp2_with fail
              with_reducible refine (HU.out _).mono ?_
              rintro e w8 ⟨rfl, hf⟩
              have H8 := Lib.hid (H7.out.fr hf)
              clear hf c0 c1 c2
              cases x2 with
              | true =>
                have HV : Hid (hb = true) := by show _ = _; rw [HH.out]; rfl
                go_wp2
                go_meet
                exact ⟨by rw [HV.out], H8⟩
              | false =>
                obtain ⟨_, c0, c1, c2⟩ := H8.out
                go_wp2_with fail
                with_reducible refine (HD.out _).mono ?_
                rintro e w9 ⟨rfl, hf⟩
                have H9 := Lib.hid (H8.out.fr hf)
                clear hf c0 c1 c2
                have HV : Hid (hb = x3) := by show _ = _; rw [HH.out]; rfl
                go_wp2
                go_meet
                exact ⟨by rw [HV.out], H9⟩
          case rest =>
            obtain ⟨rfl, H7⟩ := hcut
            obtain ⟨_, c0, c1, c2⟩ := H7.out
            clear AT HU HD H6
            go_wp2_with fail
            with_reducible refine (AF.out _).mono ?_
            rintro e w8 ⟨rfl, hf⟩
            have H8 := Lib.hid (H7.out.fr hf)
            clear hf c0 c1 c2
            obtain ⟨_, c0, c1, c2⟩ := H8.out
            go_wp2_with fail
            with_reducible refine (BF.out _).mono ?_
            rintro e w9 ⟨rfl, hf⟩
            have H9 := Lib.hid (H8.out.fr hf)
            clear hf c0 c1 c2
            obtain ⟨_, c0, c1, c2⟩ := H9.out
            go_wp2_with fail
            with_reducible refine (A5.out _).mono ?_
            rintro e w10 ⟨rfl, hf⟩
            have H10 := Lib.hid (H9.out.fr hf)
            clear hf c0 c1 c2
            obtain ⟨_, c0, c1, c2⟩ := H10.out
            go_wp2_with fail
            with_reducible refine (B9.out _).mono ?_
            rintro e w11 ⟨rfl, hf⟩
            have H11 := Lib.hid (H10.out.fr hf)
            clear hf c0 c1 c2
            go_wp2
            go_ret
            exact ⟨rfl, H11.out.1⟩
theorem asides_walk (s : Sp) (h : s.ok) (k : Int) (hk0 : -9223372036854775808 ≤ k) (hk1 : k ≤ 9223372036854775807) (w : World) (hT : Tz w) : Calls Tryd.prog 4 #[s.v, .int .i64 k] w fun x w' => x = .returned (.bool true) ∧ w.grownBy w' none :=
  (sides_true s k h hk0 hk1 w hT).mono fun _ _ ⟨he, hf⟩ => ⟨he, hf.grown (by simp)⟩
end Go.Proofs.YtaoflgfppdbhiaaDoor
