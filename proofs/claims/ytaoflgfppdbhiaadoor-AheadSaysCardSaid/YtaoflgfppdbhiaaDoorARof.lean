/- The document's stops of car calls and hall calls; the same stops; the other ones. -/
import Derived.Test.YtaoflgfppdbhiaaDoorAOf
import Derived.Test.YtaoflgfppdbhiaaDoorARef2
namespace Go.Proofs.YtaoflgfppdbhiaaDoor
open Go.RowKit

def OE (W : World) (T : TypeId) (p u d : Nat) (b o : Nat) (z : Int) (a : World) : Prop := OD W T p u d a ∧ a.cell? ⟨b, o, none⟩ = some (.int .i64 z)
theorem OE.fr {W : World} {T : TypeId} {p u d b o : Nat} {z : Int} {a a' : World} (h : OE W T p u d b o z a) (k : Fr a a' []) : OE W T p u d b o z a' := ⟨h.1.fr k, k.cell h.2 (by simp)⟩
def OG (W : World) (T : TypeId) (p u d : Nat) (b o : Nat) (y z : Int) (a : World) : Prop := OD W T p u d a ∧ a.cell? ⟨b, o, none⟩ = some (.int .i64 y) ∧ a.cell? ⟨b, o + 1, none⟩ = some (.int .i64 z)
theorem OG.fr {W : World} {T : TypeId} {p u d b o : Nat} {y z : Int} {a a' : World} (h : OG W T p u d b o y z a) (k : Fr a a' []) : OG W T p u d b o y z a' := ⟨h.1.fr k, k.cell h.2.1 (by simp), k.cell h.2.2 (by simp)⟩
set_option maxHeartbeats 2000000 in
set_option maxRecDepth 100000 in
theorem rof_any (v1 : Value) (l : List Int) (v2 : Value) (m : List La) (w : World) (h1 : HInts w v1 l) (h2 : HLs w v2 m) (r : Sp) (hr : r = ofS l m) :
    Calls Tryd.prog 11 #[v1, v2] w fun e w' => e = .returned r.v ∧ Fr w w' [] := by
  obtain ⟨a1, c1, rfl, p1, q1, r1⟩ := h1
  obtain ⟨a2, c2, rfl, p2, q2, r2⟩ := h2
  unfold maxLen at q1 q2
  have BI := Lib.hid (fun z W => rone_any z W)
  have PU := Lib.hid (fun (s : Sp) (f e : Int) W (h : s.ok) (r : Sp) (hr : r = s.put f e) => rput_any s f e W h r hr)
  have HD0 := Lib.hid (OD.new w 30)
  have HR := Lib.hid hr
  clear hr
  dsimp only [Sp.v] at *
  go_enter Tryd.func11, Tryd.ntmps11
  go_wp2
  go_loopw [6] (fun i wr => ∃ k : Nat, k ≤ l.length ∧ i = .int .i64 k ∧ Hid (OD w 30 (carOf (l.take k)) 0 0 wr)) (fun i _ => l.length - (intOf i).toNat)
  case atStart => exact ⟨0, Nat.zero_le _, rfl, HD0⟩
  case round =>
    obtain ⟨k, hk, rfl, HD⟩ := hrel
    by_cases hlt : k < l.length
    · obtain ⟨b, off, rfl, hc⟩ := r1 (by omega)
      have hcell := HD.out.1.cell (hc k hlt) (by simp)
      obtain ⟨z, hz⟩ : ∃ z, z = l.getD k 0 := ⟨_, rfl⟩
      obtain ⟨p, hp⟩ : ∃ p, p = carOf (l.take k) := ⟨_, rfl⟩
      obtain ⟨o, ho⟩ : ∃ o, o = oneN z := ⟨_, rfl⟩
      have E1 := bits_or_u64_nat p o (by rw [hp]; exact carOf_lt _) (by rw [ho]; exact oneN_lt _)
      have HN : Hid (carOf (l.take (k + 1)) = p ||| o) := by show _ = _; rw [take_snoc l k hlt, carOf_snoc, hp, ho, hz]
      have BI := Lib.hid (fun W => BI.out z W)
      rw [← hp] at HD
      rw [← hz] at hcell
      rw [← ho] at BI
      have HS := Lib.hid (OE.fr (T := 30) ⟨HD.out, hcell⟩ (Fr.drew _ []))
      clear hz hp ho hc r1
      go_wp2
      refine wp_region_detL 9 (S := OE w 30 p 0 0 b (off + k) z) (by kernel_rfl) HS.out ?_
      refine wpDetL_take (j := 9) (by decide) (by kernel_rfl) (i := 0) (oi := _) (v := ?dv1) (by simp only [List.getElem?_toArray, List.getElem?_cons_zero]; rfl) (by kernel_rfl) (by kernel_rfl) (by kernel_rfl) (Or.inl ⟨by rfl, ?dy1⟩) ?dr1
      case dy1 => (intro w hSw; have hS0 := hSw; (try dsimp only [OE,OD] at hSw); go_simp; refine Came.value ?_ hS0; with_reducible rfl)
      try simp only [Act.put, List.setIfInBounds_toArray, List.set_cons_zero, List.set_cons_succ]
      refine wpDetL_take (j := 9) (by decide) (by kernel_rfl) (i := 1) (oi := _) (v := ?dv2) (by simp only [List.getElem?_toArray, List.getElem?_cons_zero, List.getElem?_cons_succ]; rfl) (by kernel_rfl) (by kernel_rfl) (by kernel_rfl) (Or.inl ⟨by rfl, ?dy2⟩) ?dr2
      case dy2 => (intro w hSw; have hS0 := hSw; (try dsimp only [OE,OD] at hSw); go_simp; refine Came.value ?_ hS0; with_reducible rfl)
      try simp only [Act.put, List.setIfInBounds_toArray, List.set_cons_zero, List.set_cons_succ]
      refine wpDetL_take (j := 9) (by decide) (by kernel_rfl) (i := 2) (oi := _) (v := ?dv3) (by simp only [List.getElem?_toArray, List.getElem?_cons_zero, List.getElem?_cons_succ]; rfl) (by kernel_rfl) (by kernel_rfl) (by kernel_rfl) (Or.inl ⟨by rfl, ?dy3⟩) ?dr3
      case dy3 => (intro w hSw; have hS0 := hSw; (try dsimp only [OE,OD] at hSw); go_simp; refine Came.value ?_ hS0; with_reducible rfl)
      try simp only [Act.put, List.setIfInBounds_toArray, List.set_cons_zero, List.set_cons_succ]
      refine wpDetL_take (j := 9) (by decide) (by kernel_rfl) (i := 3) (oi := _) (v := ?dv4) (by simp only [List.getElem?_toArray, List.getElem?_cons_zero, List.getElem?_cons_succ]; rfl) (by kernel_rfl) (by kernel_rfl) (by kernel_rfl) (Or.inl ⟨by rfl, ?dy4⟩) ?dr4
      case dy4 => (intro w hSw; have hS0 := hSw; (try dsimp only [OE,OD] at hSw); go_simp; refine Came.value ?_ hS0; with_reducible rfl)
      try simp only [Act.put, List.setIfInBounds_toArray, List.set_cons_zero, List.set_cons_succ]
      refine wpDetL_take (j := 9) (by decide) (by kernel_rfl) (i := 4) (oi := _) (v := ?dv5) (by simp only [List.getElem?_toArray, List.getElem?_cons_zero, List.getElem?_cons_succ]; rfl) (by kernel_rfl) (by kernel_rfl) (by kernel_rfl) (Or.inl ⟨by rfl, ?dy5⟩) ?dr5
      case dy5 => (intro w hSw; have hS0 := hSw; (try dsimp only [OE,OD] at hSw); go_simp; refine Came.value ?_ hS0; with_reducible rfl)
      try simp only [Act.put, List.setIfInBounds_toArray, List.set_cons_zero, List.set_cons_succ]
      refine wpDetL_take (j := 9) (by decide) (by kernel_rfl) (i := 5) (oi := _) (v := ?dv6) (by simp only [List.getElem?_toArray, List.getElem?_cons_zero, List.getElem?_cons_succ]; rfl) (by kernel_rfl) (by kernel_rfl) (by kernel_rfl) (Or.inl ⟨by rfl, ?dy6⟩) ?dr6
      case dy6 => (intro w hSw; have hS0 := hSw; (try dsimp only [OE,OD] at hSw); go_simp; refine Came.value ?_ hS0; with_reducible rfl)
      try simp only [Act.put, List.setIfInBounds_toArray, List.set_cons_zero, List.set_cons_succ]
      refine wpDetL_take (j := 9) (by decide) (by kernel_rfl) (i := 6) (oi := _) (v := ?dv7) (by simp only [List.getElem?_toArray, List.getElem?_cons_zero, List.getElem?_cons_succ]; rfl) (by kernel_rfl) (by kernel_rfl) (by kernel_rfl) (Or.inl ⟨by rfl, ?dy7⟩) ?dr7
      case dy7 => (intro w hSw; go_simp; exact Came.call ((BI.out w).mono fun e w' ⟨he, hw⟩ => ⟨he, hw ▸ hSw⟩) (by with_reducible rfl))
      try simp only [Act.put, List.setIfInBounds_toArray, List.set_cons_zero, List.set_cons_succ]
      refine wpDetL_take (j := 9) (by decide) (by kernel_rfl) (i := 7) (oi := _) (v := ?dv8) (by simp only [List.getElem?_toArray, List.getElem?_cons_zero, List.getElem?_cons_succ]; rfl) (by kernel_rfl) (by kernel_rfl) (by kernel_rfl) (Or.inl ⟨by rfl, ?dy8⟩) ?dr8
      case dy8 => (intro w hSw; have hS0 := hSw; (try dsimp only [OE,OD] at hSw); go_simp; refine Came.value ?_ hS0; with_reducible rfl)
      try simp only [Act.put, List.setIfInBounds_toArray, List.set_cons_zero, List.set_cons_succ]
      refine wpDetL_take (j := 9) (by decide) (by kernel_rfl) (i := 8) (oi := _) (v := ?dv9) (by simp only [List.getElem?_toArray, List.getElem?_cons_zero, List.getElem?_cons_succ]; rfl) (by kernel_rfl) (by kernel_rfl) (by kernel_rfl) (Or.inl ⟨by rfl, ?dy9⟩) ?dr9
      case dy9 => (intro w hSw; have hS0 := hSw; (try dsimp only [OE,OD] at hSw); go_simp; refine Came.value ?_ hS0; with_reducible rfl)
      try simp only [Act.put, List.setIfInBounds_toArray, List.set_cons_zero, List.set_cons_succ]
      refine wpDetL_last (oj := _) (by kernel_rfl) (by kernel_rfl) (by simp only [List.getElem?_toArray, List.getElem?_cons_zero, List.getElem?_cons_succ]; rfl) ?_
      intro w3 hS K hK
      have hS := hS.1
      have zb0 := hS.fz 0
      have HX := Lib.hid (hS.car (p ||| o))
      obtain ⟨_, ⟨c0, _⟩, _⟩ := hS
      go_simp
      refine hK.out _ _ ?_
      clear hK K zb0 c0
      go_wp2
      go_roundw
      case rel => exact ⟨k + 1, by omega, by go_num, by rw [HN.out]; exact HX⟩
      case measure => simp [intOf]; omega
    · obtain rfl : k = l.length := by omega
      rw [List.take_length] at HD
      clear r1 HD0
      go_wp2
      go_loopw [7] (fun i wx => ∃ j : Nat, j ≤ m.length ∧ i = .int .i64 j ∧ Hid (OD w 30 (ofS l (m.take j)).c (ofS l (m.take j)).u (ofS l (m.take j)).d wx)) (fun i _ => m.length - (intOf i).toNat)
      case atStart => exact ⟨0, Nat.zero_le _, rfl, HD⟩
      case round =>
        clear HD
        obtain ⟨j, hj, rfl, HD⟩ := hrel
        by_cases hlt : j < m.length
        · obtain ⟨b, off, rfl, hc⟩ := r2 (by omega)
          obtain ⟨d0, d1, d2⟩ := hc j hlt
          have d0 := HD.out.1.cell d0 (by simp)
          have d1 := HD.out.1.cell d1 (by simp)
          have d2 := HD.out.1.cell d2 (by simp)
          obtain ⟨y, hy⟩ : ∃ y, y = m.getD j zLa := ⟨_, rfl⟩
          have HN : Hid (ofS l (m.take (j + 1)) = (ofS l (m.take j)).put y.f y.d) := by show _ = _; rw [take_la m j hlt, ofS, ofL_snoc, hy]; rfl
          have hok := ofS_ok l (m.take j)
          rw [← hy] at d0 d1 d2
          obtain ⟨s, hs⟩ : ∃ s, s = ofS l (m.take j) := ⟨_, rfl⟩
          rw [← hs] at HN HD hok
          obtain ⟨t, ht⟩ : ∃ t, t = s.put y.f y.d := ⟨_, rfl⟩
          rw [← ht] at HN
          have PU := Lib.hid (fun W => PU.out s y.f y.d W hok t ht)
          obtain ⟨p, u, d⟩ := s
          obtain ⟨p', u', d'⟩ := t
          obtain ⟨yf, yd, yg⟩ := y
          dsimp only at *
          have HS := Lib.hid (OG.fr (T := 30) ⟨HD.out, d0, d1⟩ (Fr.drew _ []))
          clear hy hs ht hok hc r2
          go_wp2
          refine wp_region_detL 7 (S := OG w 30 p u d b (off + j * 3) yf yd) (by kernel_rfl) HS.out ?_
          refine wpDetL_take (j := 7) (by decide) (by kernel_rfl) (i := 0) (oi := _) (v := ?dv10) (by simp only [List.getElem?_toArray, List.getElem?_cons_zero]; rfl) (by kernel_rfl) (by kernel_rfl) (by kernel_rfl) (Or.inl ⟨by rfl, ?dy10⟩) ?dr10
          case dy10 => (intro w hSw; have hS0 := hSw; (try dsimp only [OG,OD] at hSw); go_simp; refine Came.value ?_ hS0; with_reducible rfl)
          try simp only [Act.put, List.setIfInBounds_toArray, List.set_cons_zero, List.set_cons_succ]
          refine wpDetL_take (j := 7) (by decide) (by kernel_rfl) (i := 1) (oi := _) (v := ?dv11) (by simp only [List.getElem?_toArray, List.getElem?_cons_zero, List.getElem?_cons_succ]; rfl) (by kernel_rfl) (by kernel_rfl) (by kernel_rfl) (Or.inl ⟨by rfl, ?dy11⟩) ?dr11
          case dy11 => (intro w hSw; have hS0 := hSw; (try dsimp only [OG,OD] at hSw); go_simp; refine Came.value ?_ hS0; with_reducible rfl)
          try simp only [Act.put, List.setIfInBounds_toArray, List.set_cons_zero, List.set_cons_succ]
          refine wpDetL_take (j := 7) (by decide) (by kernel_rfl) (i := 2) (oi := _) (v := ?dv12) (by simp only [List.getElem?_toArray, List.getElem?_cons_zero, List.getElem?_cons_succ]; rfl) (by kernel_rfl) (by kernel_rfl) (by kernel_rfl) (Or.inl ⟨by rfl, ?dy12⟩) ?dr12
          case dy12 => (intro w hSw; have hS0 := hSw; (try dsimp only [OG,OD] at hSw); go_simp; refine Came.value ?_ hS0; with_reducible rfl)
          try simp only [Act.put, List.setIfInBounds_toArray, List.set_cons_zero, List.set_cons_succ]
          refine wpDetL_take (j := 7) (by decide) (by kernel_rfl) (i := 3) (oi := _) (v := ?dv13) (by simp only [List.getElem?_toArray, List.getElem?_cons_zero, List.getElem?_cons_succ]; rfl) (by kernel_rfl) (by kernel_rfl) (by kernel_rfl) (Or.inl ⟨by rfl, ?dy13⟩) ?dr13
          case dy13 => (intro w hSw; have hS0 := hSw; (try dsimp only [OG,OD] at hSw); go_simp; refine Came.value ?_ hS0; with_reducible rfl)
          try simp only [Act.put, List.setIfInBounds_toArray, List.set_cons_zero, List.set_cons_succ]
          refine wpDetL_take (j := 7) (by decide) (by kernel_rfl) (i := 4) (oi := _) (v := ?dv14) (by simp only [List.getElem?_toArray, List.getElem?_cons_zero, List.getElem?_cons_succ]; rfl) (by kernel_rfl) (by kernel_rfl) (by kernel_rfl) (Or.inl ⟨by rfl, ?dy14⟩) ?dr14
          case dy14 => (intro w hSw; have hS0 := hSw; (try dsimp only [OG,OD] at hSw); go_simp; refine Came.value ?_ hS0; with_reducible rfl)
          try simp only [Act.put, List.setIfInBounds_toArray, List.set_cons_zero, List.set_cons_succ]
          refine wpDetL_take (j := 7) (by decide) (by kernel_rfl) (i := 5) (oi := _) (v := ?dv15) (by simp only [List.getElem?_toArray, List.getElem?_cons_zero, List.getElem?_cons_succ]; rfl) (by kernel_rfl) (by kernel_rfl) (by kernel_rfl) (Or.inl ⟨by rfl, ?dy15⟩) ?dr15
          case dy15 => (intro w hSw; have hS0 := hSw; (try dsimp only [OG,OD] at hSw); go_simp; refine Came.value ?_ hS0; with_reducible rfl)
          try simp only [Act.put, List.setIfInBounds_toArray, List.set_cons_zero, List.set_cons_succ]
          refine wpDetL_take (j := 7) (by decide) (by kernel_rfl) (i := 6) (oi := _) (v := ?dv16) (by simp only [List.getElem?_toArray, List.getElem?_cons_zero, List.getElem?_cons_succ]; rfl) (by kernel_rfl) (by kernel_rfl) (by kernel_rfl) (Or.inl ⟨by rfl, ?dy16⟩) ?dr16
          case dy16 => (intro w hSw; go_simp; exact Came.call ((PU.out w).mono fun e w' ⟨he, hf⟩ => ⟨he, hSw.fr hf⟩) (by with_reducible rfl))
          try simp only [Act.put, List.setIfInBounds_toArray, List.set_cons_zero, List.set_cons_succ]
          refine wpDetL_last (oj := _) (by kernel_rfl) (by kernel_rfl) (by simp only [List.getElem?_toArray, List.getElem?_cons_zero, List.getElem?_cons_succ]; rfl) ?_
          intro w3 hS K hK
          have hS := hS.1
          have z0 := hS.fz 0
          have z1 := hS.fz 1
          have z2 := hS.fz 2
          have HX := Lib.hid (hS.set p' u' d')
          obtain ⟨_, ⟨c0, c1, c2⟩, _⟩ := hS
          go_simp
          refine hK.out _ _ ?_
          clear hK K z0 z1 z2 c0 c1 c2
          go_wp2
          go_roundw
          case rel => exact ⟨j + 1, by omega, by go_num, by rw [HN.out]; exact HX⟩
          case measure => simp [intOf]; omega
        · obtain rfl : j = m.length := by omega
          rw [List.take_length, ← HR.out] at HD
          obtain ⟨p, u, d⟩ := r
          obtain ⟨c0, c1, c2⟩ := HD.out.2.1
          obtain ⟨x0, x1, x2⟩ := arow HD.out.2.2.1
          have z0 := HD.out.fz0 0
          have z1 := HD.out.fz0 1
          have z2 := HD.out.fz0 2
          have AF := Lib.hid (HD.out.1.new (aset_fr wr w.heap.size (.int .u64 p) (.int .u64 u) (.int .u64 d)) (by simp))
          obtain ⟨y0, y1, y2⟩ := arow (aset HD.out.2.2.1 (.int .u64 p) (.int .u64 u) (.int .u64 d))
          clear r2
          dsimp only at *
          go_wp2
          exact bodyPost_ret (v := .agg #[.int .u64 p, .int .u64 u, .int .u64 d]) (by simp [results, Tryd.results11, go_sem, y0, y1, y2]) rfl ⟨rfl, AF.out⟩

set_option maxRecDepth 100000 in
theorem other_any (s : Sp) (w : World) : Calls Tryd.prog 7 #[s.v] w fun e w' => e = .returned s.v ∧ Fr w w' [] := by
  obtain ⟨p, u, d⟩ := s
  have FA := Lib.hid ((Fr.alloc w (.cells #[.int .u64 p, .int .u64 u, .int .u64 d] 26) []).trans (Fr.alloc _ (.cells #[.int .u64 p, .int .u64 u, .int .u64 d] 30) []))
  dsimp only [Sp.v] at *
  go_enter Tryd.func7, Tryd.ntmps7
  go_wp2
  exact bodyPost_ret (v := .agg #[.int .u64 p, .int .u64 u, .int .u64 d]) (by simp [results, Tryd.results7, go_sem]) rfl ⟨rfl, FA.out⟩
set_option maxRecDepth 100000 in
theorem same_any (s : Sp) (w : World) : Calls Tryd.prog 9 #[s.v, s.v] w fun e w' => e = .returned (.bool true) ∧ Fr w w' [] := by
  obtain ⟨p, u, d⟩ := s
  have FA := Lib.hid ((Fr.alloc w (.cells #[.int .u64 p, .int .u64 u, .int .u64 d] 26) []).trans (Fr.alloc _ (.cells #[.int .u64 p, .int .u64 u, .int .u64 d] 30) []))
  have k1 : ((p : Int) == p) = true := by simp
  have k2 : ((u : Int) == u) = true := by simp
  have k3 : ((d : Int) == d) = true := by simp
  dsimp only [Sp.v] at *
  go_enter Tryd.func9, Tryd.ntmps9
  go_wp2
  go_ret
  exact ⟨rfl, FA.out⟩
end Go.Proofs.YtaoflgfppdbhiaaDoor
