/- The walk of the law of puts: any numbers and texts, behind any bytes, are what the chapter says; read they are the same; what was handed in stays. -/
import Derived.Test.YtmacbafkbhigcaaDoorRead2
import Derived.OpenShut
namespace Go.Proofs.YtmacbafkbhigcaaDoor
open Go.RowKit

theorem Rd.mono3 {w : World} {B B' p : Nat} {l : List Int} {k : Nat} {e : Value} (h : Rd w B p l k e) (hB : B' ≤ B) : Rd w B' p l k e := by
  obtain ⟨h1, v, h2, h3⟩ := h
  exact ⟨by omega, v, h2, h3.mono hB⟩
theorem bs_byte (s : ByteArray) : Wm.Byte (bs s) := by
  intro x hx
  simp only [bs, List.mem_map] at hx
  obtain ⟨b, _, rfl⟩ := hx
  have := b.toNat_lt
  omega
theorem str_bs (s : ByteArray) : strOfNums (bs s) = s := by
  have h : (strOfNums (bs s)).data.toList = s.data.toList := by
    rw [strOfNums_data]
    simp only [bs, List.map_map]
    have : (fun n : Int => UInt8.ofNat n.toNat) ∘ (fun b : UInt8 => (b.toNat : Int)) = id := by
      funext b; simp
    rw [this, List.map_id]
  obtain ⟨d⟩ := s
  have h2 : (strOfNums (bs ⟨d⟩)).data = d := Array.toList_inj.1 h
  cases hh : strOfNums (bs ⟨d⟩) with
  | mk d' => rw [hh] at h2; simp at h2; rw [h2]

set_option maxHeartbeats 4000000 in
set_option maxRecDepth 100000 in
theorem puts_walk (v : Value) (L : List Int) (n : Int) (s : ByteArray) (hn : (Lit.int .i64 n).wf = true) (w : World) (A : Nat → Addr) (hE : E3 w A w.heap.size) (hv : Bytes w v L) :
    Calls Tryd.prog 3 #[v, .int .i64 n, .string s] w fun e w' => e = .returned (.bool true) ∧ w.grownBy w' none := by
  obtain ⟨hn0, hn1⟩ := bounds_i64 hn
  have hvl := bytes_size hv
  unfold maxLen at hvl
  have HV := Lib.hid hv
  obtain ⟨a, cap, rfl, _⟩ := hv
  have HE := Lib.hid hE
  clear hE
  by_cases h100 : 100 < L.length
  · go_enter Tryd.func3, Tryd.ntmps3
    go_wp2_with fail
    refine (first_any _).mono ?_
    rintro e w1 ⟨rfl, hg1⟩
    go_wp2
    go_ret
    exact ⟨rfl, hg1⟩
  · by_cases hs : 100 < s.size
    · go_enter Tryd.func3, Tryd.ntmps3
      go_wp2_with fail
      refine (first_any _).mono ?_
      rintro e w1 ⟨rfl, hg1⟩
      go_wp2
      go_ret
      exact ⟨rfl, hg1⟩
    · go_enter Tryd.func3, Tryd.ntmps3
      go_wp2_with fail
      refine (first_any _).mono ?_
      rintro e w1 ⟨rfl, hg1⟩
      go_wp2_with fail
      refine (bytes_any _ L _ (HV.out.grown hg1) (by omega)).mono ?_
      rintro e w2 ⟨was, rfl, howas, hg2⟩
      have hb2 := HV.out.grown (grown_trans hg1 hg2)
      have HB2 := Lib.hid hb2
      have HWAS := Lib.hid howas.bytes
      clear howas hb2
      go_wp2_with fail
      refine (put_any _ L n _ HB2.out (by omega) hn0 hn1).mono ?_
      rintro e w3 ⟨pv, rfl, hop, hg3⟩
      have HP := Lib.hid hop.bytes
      clear hop
      go_wp2_with fail
      refine (putText_any _ L s _ (HB2.out.grown hg3) (by omega)).mono ?_
      rintro e w4 ⟨qv, rfl, hoq, hg4⟩
      have HQ := Lib.hid hoq.bytes
      clear hoq
      go_wp2_with fail
      refine (put_any _ [] n _ nil_bytes (by simp) hn0 hn1).mono ?_
      rintro e w5 ⟨xv, rfl, hox, hg5⟩
      rw [List.nil_append] at hox
      have HX := Lib.hid hox.bytes
      clear hox
      have lx := Wm.enc_len n
      have ls := Wm.enc_len s.size
      go_wp2_with fail
      refine (putText_any _ (Wm.enc n) s _ HX.out (by omega)).mono ?_
      rintro e w6 ⟨yv, rfl, hoy, hg6⟩
      have HY := Lib.hid hoy.bytes
      clear hoy
      have hR := grown_trans hg1 (grown_trans hg2 (grown_trans hg3 (grown_trans hg4 (grown_trans hg5 hg6))))
      go_wp2_with fail
      refine (new_any _ (Wm.enc n ++ (Wm.enc s.size ++ bs s)) _ HY.out (by simp only [List.length_append, bs_len]; omega)).mono ?_
      rintro e w7 ⟨u7, rfl, p, rfl, hrd, hg7⟩
      have hrd' := hrd.mono3 (B' := w.heap.size) hR.size
      have h7 := grown_trans hR hg7
      have h27 := grown_trans hg3 (grown_trans hg4 (grown_trans hg5 (grown_trans hg6 hg7)))
      have h37 := grown_trans hg4 (grown_trans hg5 (grown_trans hg6 hg7))
      have h47 := grown_trans hg5 (grown_trans hg6 hg7)
      have HRD := Lib.hid hrd'
      have H7 := Lib.hid h7
      have HB7 := Lib.hid (HB2.out.grown h27)
      have HW7 := Lib.hid (HWAS.out.grown h27)
      have HP7 := Lib.hid (HP.out.grown h37)
      have HQ7 := Lib.hid (HQ.out.grown h47)
      clear hrd hrd' h7 h27 h37 h47 hR hg1 hg2 hg3 hg4 hg5 hg6 hg7 HB2 HWAS HP HQ HX HY
      go_wp2_with fail
      refine (refPut_any _ L n _ HB7.out (by omega) hn0 hn1).mono ?_
      rintro e w8 ⟨rv, rfl, hor, hg8⟩
      have HR8 := Lib.hid hor.bytes
      clear hor
      go_wp2_with fail
      refine (same_any _ _ _ _ _ (HP7.out.grown hg8) HR8.out (by rw [List.length_append]; omega) true (by simp)).mono ?_
      rintro e w9 ⟨rfl, hg9⟩
      have h79 := grown_trans hg8 hg9
      have H79 := Lib.hid h79
      clear h79 hg8 hg9
      go_wp2_with fail
      refine (refPutText_any _ L s _ (HB7.out.grown H79.out) (by omega)).mono ?_
      rintro e w10 ⟨tv, rfl, hot, hg10⟩
      have HT10 := Lib.hid hot.bytes
      clear hot
      go_wp2_with fail
      refine (same_any _ _ _ _ _ (HQ7.out.grown (grown_trans H79.out hg10)) HT10.out (by simp only [List.length_append, bs_len]; omega) true (by simp)).mono ?_
      rintro e w11 ⟨rfl, hg11⟩
      have h711 := grown_trans H79.out (grown_trans hg10 hg11)
      have H711 := Lib.hid h711
      clear h711 hg10 hg11
      go_wp2_with fail
      refine (same_any _ L _ L _ (HB7.out.grown H711.out) (HW7.out.grown H711.out) (by omega) true (by simp)).mono ?_
      rintro e w12 ⟨rfl, hg12⟩
      have h712 := grown_trans H711.out hg12
      have hw12 := grown_trans H7.out h712
      have HRD12 := Lib.hid (HRD.out.grown h712)
      have HE12 := Lib.hid (HE.out.kept hw12 (fun r e => by cases e))
      have HW12 := Lib.hid hw12
      clear h712 hw12 hg12
      obtain ⟨Z, hZ⟩ : ∃ Z, Z = Wm.enc n ++ (Wm.enc s.size ++ bs s) := ⟨_, rfl⟩
      have hZb : Wm.Byte Z := by
        rw [hZ]
        intro x hx
        rcases List.mem_append.1 hx with h | h
        · exact Wm.enc_byte n hn0 hn1 x h
        · rcases List.mem_append.1 h with h | h
          · exact Wm.enc_byte s.size (by omega) (by omega) x h
          · exact bs_byte s x h
      have hZl : Z.length = (Wm.enc n).length + ((Wm.enc s.size).length + s.size) := by rw [hZ]; simp only [List.length_append, bs_len]
      have hs1 : (n, (Wm.enc n).length, 0) = Wm.numS Z 0 (-9223372036854775808) 9223372036854775807 := by
        unfold Wm.numS
        rw [List.drop_zero, hZ, Wm.num_enc n hn0 hn1, if_neg (by simp), if_neg (by omega)]; simp
      have hs2 : (bs s, Z.length, 0) = Wm.textS Z (Wm.enc n).length 100 := by
        have e : (Wm.enc s.size ++ bs s) = Z.drop (Wm.enc n).length := by rw [hZ, List.drop_left]
        have hnum : Wm.numS Z (Wm.enc n).length 0 100 = ((s.size : Int), (Wm.enc n).length + (Wm.enc s.size).length, 0) := by
          unfold Wm.numS
          rw [← e, Wm.num_enc s.size (by omega) (by omega), if_neg (by simp), if_neg (by omega)]
        unfold Wm.textS
        rw [hnum, if_neg (by simp), if_neg (by simp only; omega)]
        have e2 : Z.drop ((Wm.enc n).length + (Wm.enc s.size).length) = bs s := by
          rw [← List.drop_drop, ← e, List.drop_left]
        simp only [e2, Int.toNat_natCast]
        rw [List.take_of_length_le (by rw [bs_len]; exact Nat.le_refl _), hZl, Nat.add_assoc]
      rw [← hZ] at HRD12
      have HZB := Lib.hid hZb
      have HZL := Lib.hid hZl
      have HS1 := Lib.hid hs1
      have HS2 := Lib.hid hs2
      clear hZ hZb hZl hs1 hs2
      go_wp2_with fail
      refine (num_ok p Z 0 _ _ _ A w.heap.size HRD12.out (Nat.zero_le _) HZB.out HE12.out _ HS1.out).mono ?_
      rintro e w13 ⟨rfl, hrd13, hg13⟩
      have HRD13 := Lib.hid hrd13
      have HE13 := Lib.hid (HE12.out.kept hg13 (fun r e => by cases e; exact HRD12.out.1))
      have HW13 := Lib.hid (grown_new HW12.out hg13 (fun r e => by cases e; exact HRD12.out.1))
      clear hrd13 hg13
      go_wp2_with fail
      refine (text_ok p Z _ 100 _ A w.heap.size HRD13.out (by have := HZL.out; show (Wm.enc n).length ≤ Z.length; omega) HZB.out HE13.out (by omega) (by omega) _ HS2.out).mono ?_
      rintro e w14 ⟨rfl, hrd14, hg14⟩
      have HRD14 := Lib.hid hrd14
      have HW14 := Lib.hid (grown_new HW13.out hg14 (fun r e => by cases e; exact HRD13.out.1))
      have hleft : ∀ W, w14.grownBy W none → Calls Tryd.prog 19 #[.pointer (some ⟨p, 0, none⟩)] W fun e w' => e = .returned (.int .i64 0) ∧ Drawn W w' := fun W hW => by
        have := left_any p Z Z.length W w.heap.size _ (HRD14.out.grown hW) (Nat.le_refl _)
        rw [Nat.sub_self] at this
        exact this
      have HLEFT := Lib.hid hleft
      have HSTR := Lib.hid (str_bs s)
      clear hrd14 hg14 hleft
      rw [HSTR.out]
      go_wp2_with fail
      refine (HLEFT.out _ (grown_refl _ _)).mono ?_
      rintro e w15 ⟨rfl, hdr⟩
      have HD := Lib.hid hdr
      clear hdr
      go_wp2_with fail
      refine (err_nil p _ Z.length _ w.heap.size (HRD14.out.grown (HD.out.grown none))).mono ?_
      rintro e w16 ⟨rfl, rfl⟩
      go_wp2
      go_ret
      exact ⟨rfl, grown_trans HW14.out (HD.out.grown none)⟩
end Go.Proofs.YtmacbafkbhigcaaDoor
