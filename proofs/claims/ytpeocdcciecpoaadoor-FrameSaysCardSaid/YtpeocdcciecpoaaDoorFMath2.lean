/- What is read of a frame's bytes; what is read has just these bytes; cut off, or longer, it is none. No program. -/
import Derived.Test.YtpeocdcciecpoaaDoorFMath
namespace Go.Proofs.YtpeocdcciecpoaaDoor
namespace Fm
open Go.RowKit

theorem frame_ki {f : F} (h : frameC f = 0) : f.ki = 1 ∨ f.ki = 2 := by
  rcases (frameC_cases h).2 with h | h
  · exact .inl h.1
  · exact .inr h.1
theorem body_of {f : F} (h : frameC f = 0) (post : List Int) : rdBody f.ki (bytesF f ++ post) 2 0 = (f, (bytesF f).length, 0) := by
  have h1 := enc_body h [80, f.ki] post
  have e : bytesF f ++ post = [80, f.ki] ++ (encBody f ++ post) := by simp [bytesF]
  rw [e]
  have h2 : rdBody f.ki ([80, f.ki] ++ (encBody f ++ post)) 2 0 = (f, 2 + (encBody f).length, 0) := h1
  rw [h2]
  simp [bytesF]; omega
theorem read_bytes {f : F} (h : frameC f = 0) : readF (bytesF f) = (f, 0, false, 0) := by
  have hb := body_of h []
  rw [List.append_nil] at hb
  have hk := frame_ki h
  have e1 : (bytesF f).getD 1 0 = f.ki := rfl
  have e0 : (bytesF f).getD 0 0 = 80 := rfl
  have el : 2 ≤ (bytesF f).length := by simp [bytesF]
  unfold readF
  rw [e1, e0, hb]
  rw [if_neg (by omega), if_neg (by omega), if_neg (by simp), if_neg (by simp), if_neg (by simpa using h)]
/-- Longer bytes are no frame. -/
theorem read_longer {f : F} (h : frameC f = 0) (post : List Int) (hp : 0 < post.length) : readF (bytesF f ++ post) = (zeroF, 2, false, 0) := by
  have hb := body_of h post
  have hk := frame_ki h
  have e1 : (bytesF f ++ post).getD 1 0 = f.ki := rfl
  have e0 : (bytesF f ++ post).getD 0 0 = 80 := rfl
  have el : 2 ≤ (bytesF f ++ post).length := by simp [bytesF]
  unfold readF
  rw [e1, e0, hb]
  rw [if_neg (by omega), if_neg (by omega), if_neg (by simp), if_pos (by simp; omega)]

theorem ext_en (m : Int) : Ext (rdEn m) :=
  (Ext.num _ _).bind (fun _ => (Dead.num _ _).bind fun _ => (Dead.num _ _).bind fun _ => (Dead.num _ _).bind fun _ => (Dead.num _ _).bind fun _ => (dead_bid.rep _).bind fun _ => Dead.ret _) fun _ =>
  (Ext.num _ _).bind (fun _ => (Dead.num _ _).bind fun _ => (Dead.num _ _).bind fun _ => (Dead.num _ _).bind fun _ => (dead_bid.rep _).bind fun _ => Dead.ret _) fun _ =>
  (Ext.num _ _).bind (fun _ => (Dead.num _ _).bind fun _ => (Dead.num _ _).bind fun _ => (dead_bid.rep _).bind fun _ => Dead.ret _) fun _ =>
  (Ext.num _ _).bind (fun _ => (Dead.num _ _).bind fun _ => (dead_bid.rep _).bind fun _ => Dead.ret _) fun _ =>
  (Ext.num _ _).bind (fun _ => (dead_bid.rep _).bind fun _ => Dead.ret _) fun _ => (Ext.rep dead_bid ext_bid _).bind (fun _ => Dead.ret _) fun _ => Ext.ret _
theorem ext_rg : Ext rdRg :=
  (Ext.num _ _).bind (fun _ => (Dead.num _ _).bind fun _ => (Dead.num _ _).bind fun _ => (Dead.num _ _).bind fun n => ((Dead.num _ _).rep _).bind fun _ => (Dead.num _ _).bind fun _ => ((dead_en n).rep _).bind fun _ => Dead.ret _) fun _ =>
  (Ext.num _ _).bind (fun _ => (Dead.num _ _).bind fun _ => (Dead.num _ _).bind fun n => ((Dead.num _ _).rep _).bind fun _ => (Dead.num _ _).bind fun _ => ((dead_en n).rep _).bind fun _ => Dead.ret _) fun _ =>
  (Ext.num _ _).bind (fun _ => (Dead.num _ _).bind fun n => ((Dead.num _ _).rep _).bind fun _ => (Dead.num _ _).bind fun _ => ((dead_en n).rep _).bind fun _ => Dead.ret _) fun _ =>
  (Ext.num _ _).bind (fun n => ((Dead.num _ _).rep _).bind fun _ => (Dead.num _ _).bind fun _ => ((dead_en n).rep _).bind fun _ => Dead.ret _) fun n =>
  (Ext.rep (Dead.num _ _) (Ext.num _ _) _).bind (fun _ => (Dead.num _ _).bind fun _ => ((dead_en n).rep _).bind fun _ => Dead.ret _) fun _ =>
  (Ext.num _ _).bind (fun _ => ((dead_en n).rep _).bind fun _ => Dead.ret _) fun _ => (Ext.rep (dead_en n) (ext_en n) _).bind (fun _ => Dead.ret _) fun _ => Ext.ret _
theorem ext_tail (k a b : Int) : Ext (if k = 1 then rdBeat k a b else rdToken k a b) := by
  split
  · exact (Ext.num _ _).bind (fun _ => (Dead.num _ _).bind fun _ => (Dead.num _ _).bind fun _ => Dead.ret _) fun _ => (Ext.num _ _).bind (fun _ => (Dead.num _ _).bind fun _ => Dead.ret _) fun _ => (Ext.num _ _).bind (fun _ => Dead.ret _) fun _ => Ext.ret _
  · exact ext_rg.bind (fun _ => Dead.ret _) fun _ => Ext.ret _
theorem ext_body (k : Int) : Ext (rdBody k) :=
  (Ext.num _ _).bind (fun a => (Dead.num _ _).bind fun b => dead_tail k a b) fun a => (Ext.num _ _).bind (fun b => dead_tail k a b) fun b => ext_tail k a b

/-- What is read as a frame. -/
theorem readF_fine {l : List Int} (h : (readF l).2.1 = 0) : 2 ≤ l.length ∧ l.getD 0 0 = 80 ∧ (l.getD 1 0 = 1 ∨ l.getD 1 0 = 2) ∧ (rdBody (l.getD 1 0) l 2 0).2.2 = 0 ∧ ¬ (rdBody (l.getD 1 0) l 2 0).2.1 < l.length ∧ frameC (readF l).1 = 0 ∧ (readF l).1 = (rdBody (l.getD 1 0) l 2 0).1 ∧ (readF l).2.2.1 = false := by
  unfold readF at h ⊢
  split at h
  · cases h
  · next h1 =>
    split at h
    · cases h
    · next h2 =>
      split at h
      · next h3 => exact absurd h h3
      · next h3 =>
        split at h
        · cases h
        · next h4 =>
          split at h
          · next h5 => exact absurd h h5
          · next h5 =>
            rw [if_neg h1, if_neg h2, if_neg h3, if_neg h4, if_neg h5]
            exact ⟨by omega, by omega, by omega, Classical.not_not.1 h3, h4, Classical.not_not.1 h5, rfl, rfl⟩
theorem enc_range_byte (n : Int) (h : -9223372036854775808 ≤ n ∧ n ≤ 9223372036854775807) : Wm.Byte (Wm.enc n) := Wm.enc_byte n h.1 h.2
theorem byte_app {a b : List Int} (h1 : Wm.Byte a) (h2 : Wm.Byte b) : Wm.Byte (a ++ b) := fun x hx => (List.mem_append.1 hx).elim (h1 x) (h2 x)
theorem byte_flat {α : Type} {l : List α} {f : α → List Int} (h : ∀ x ∈ l, Wm.Byte (f x)) : Wm.Byte (l.flatMap f) := fun x hx => by
  obtain ⟨a, ha, hx⟩ := List.mem_flatMap.1 hx
  exact h a ha x hx
theorem byte_en {m : Int} {e : En} (hm : m ≤ 16) (h : EnOk m e) : Wm.Byte (encE e) := by
  obtain ⟨h1, h2, h3, h4, h5, h6⟩ := h
  refine byte_app (enc_range_byte _ (by omega)) (byte_app (enc_range_byte _ (by omega)) (byte_app (enc_range_byte _ (by omega)) (byte_app (enc_range_byte _ (by omega)) (byte_app (enc_range_byte _ (by omega)) (byte_flat fun b hb => ?_)))))
  have := h6 b hb
  exact byte_app (enc_range_byte _ (by omega)) (enc_range_byte _ (by omega))
theorem byte_rg {r : Rg} (h : RgOk r) : Wm.Byte (encR r) := by
  obtain ⟨h1, h2, h3, h4, h5, h6, h7⟩ := h
  exact byte_app (enc_range_byte _ (by omega)) (byte_app (enc_range_byte _ (by omega)) (byte_app (enc_range_byte _ (by omega)) (byte_app (enc_range_byte _ (by omega)) (byte_app (byte_flat fun m hm => enc_range_byte _ (by have := h5 m hm; omega)) (byte_app (enc_range_byte _ (by omega)) (byte_flat fun e he => byte_en (by omega) (h7 e he)))))))
theorem byte_frame {f : F} (h : frameC f = 0) : Wm.Byte (bytesF f) := by
  have hk := frame_ki h
  obtain ⟨⟨hf, ht⟩, hc⟩ := frameC_cases h
  unfold Car at hf ht
  have hb : Wm.Byte (encBody f) := by
    refine byte_app (enc_range_byte _ (by omega)) (byte_app (enc_range_byte _ (by omega)) ?_)
    rcases hc with ⟨hk, hl, hs, hz⟩ | ⟨hk, hl, hs, ho, hr⟩
    · rw [if_pos hk]
      unfold Kept at hl hs
      exact byte_app (enc_range_byte _ (by omega)) (byte_app (enc_range_byte _ (by omega)) (enc_range_byte _ (by unfold bit; split <;> omega)))
    · rw [if_neg (by omega)]
      exact byte_rg (ringC_ok hr)
  intro x hx
  unfold bytesF at hx
  rcases List.mem_cons.1 hx with rfl | hx
  · omega
  · rcases List.mem_cons.1 hx with rfl | hx
    · omega
    · exact hb x hx

/- What was read has just these bytes. -/
theorem zz_unzz (u : Nat) (h : u < 18446744073709551616) : Wm.zz (Wm.unzz u) = u := by
  unfold Wm.zz Wm.unzz; split <;> split <;> omega
set_option maxRecDepth 100000 in
theorem numF_inv : ∀ (l : List Int) (i u : Nat), Wm.Byte l → i ≤ 9 → (Wm.numF i u l).2.2 = 0 →
    ∃ v, (Wm.numF i u l).1 = Wm.unzz (u + v * 2 ^ (7 * i)) ∧ v * 2 ^ (7 * i) < 18446744073709551616 ∧ (0 < i → v ≠ 0) ∧ (Wm.numF i u l).2.1 = i + (Wm.encF (9 - i) v).length ∧ (Wm.encF (9 - i) v).length ≤ l.length ∧ l.take (Wm.encF (9 - i) v).length = Wm.encF (9 - i) v
  | [], i, u, _, _, h => by cases h
  | x :: xs, i, u, hb, hi, h => by
    have hx := hb x (by simp)
    have hxs : Wm.Byte xs := fun y hy => hb y (by simp [hy])
    unfold Wm.numF at h ⊢
    by_cases h1 : i = 9 ∧ 1 < x ∨ 0 < i ∧ x = 0
    · rw [if_pos h1] at h; cases h
    · rw [if_neg h1] at h ⊢
      by_cases h2 : x < 128
      · rw [if_pos h2]
        have e : (x % 128).toNat = x.toNat := by omega
        have hv : Wm.encF (9 - i) x.toNat = [x] := by
          cases hf : 9 - i with
          | zero => show [((x.toNat : Nat) : Int)] = [x]; rw [show ((x.toNat : Nat) : Int) = x by omega]
          | succ f => show (if x.toNat < 128 then [((x.toNat : Nat) : Int)] else _) = _; rw [if_pos (by omega), show ((x.toNat : Nat) : Int) = x by omega]
        refine ⟨x.toNat, by rw [e], ?_, by omega, by rw [hv]; rfl, by rw [hv]; simp, by rw [hv]; simp⟩
        rcases (show i = 9 ∨ i ≤ 8 by omega) with rfl | hi8
        · have : x.toNat ≤ 1 := by omega
          rw [show (2 : Nat) ^ (7 * 9) = 9223372036854775808 by decide]; omega
        · have hp : (2 : Nat) ^ (7 * i) ≤ 2 ^ 56 := Nat.pow_le_pow_right (by decide) (by omega)
          have : x.toNat * 2 ^ (7 * i) ≤ 127 * 2 ^ 56 := Nat.mul_le_mul (by omega) hp
          rw [show (2 : Nat) ^ 56 = 72057594037927936 by decide] at this
          omega
      · rw [if_neg h2] at h ⊢
        have hi9 : i < 9 := by
          rcases (show i = 9 ∨ i < 9 by omega) with rfl | h
          · omega
          · exact h
        obtain ⟨v, e1, e2, e3, e4, e5, e6⟩ := numF_inv xs (i + 1) (u + (x % 128).toNat * 2 ^ (7 * i)) hxs (by omega) h
        have hv0 := e3 (by omega)
        have hp : (2 : Nat) ^ (7 * (i + 1)) = 128 * 2 ^ (7 * i) := Wm.pow_step i
        obtain ⟨q, hq⟩ : ∃ q, q = (2 : Nat) ^ (7 * i) := ⟨_, rfl⟩
        obtain ⟨y, hy⟩ : ∃ y, y = (x % 128).toNat := ⟨_, rfl⟩
        have hyl : y < 128 := by omega
        have hvv : (y + 128 * v) * q = y * q + v * (128 * q) := by rw [Nat.add_mul, Nat.mul_comm 128 v, Nat.mul_assoc]
        have henc : Wm.encF (9 - i) (y + 128 * v) = x :: Wm.encF (9 - (i + 1)) v := by
          rw [show 9 - i = (9 - (i + 1)) + 1 by omega]
          show (if y + 128 * v < 128 then _ else _) = _
          rw [if_neg (by omega), show (y + 128 * v) / 128 = v by omega, show (((y + 128 * v) % 128 + 128 : Nat) : Int) = x by omega]
        refine ⟨y + 128 * v, ?_, ?_, by omega, ?_, ?_, ?_⟩
        · rw [e1, hp, ← hq, ← hy, hvv, Nat.add_assoc]
        · rw [hp, ← hq] at e2
          rw [← hq, hvv]
          have : y * q ≤ 127 * q := Nat.mul_le_mul (by omega) (Nat.le_refl _)
          rcases (show i ≤ 7 ∨ i = 8 by omega) with h7 | rfl
          · have hq7 : q ≤ 2 ^ 49 := by rw [hq]; exact Nat.pow_le_pow_right (by decide) (by omega)
            have hvq : v * (128 * q) < 18446744073709551616 := e2
            -- the whole is a multiple of q below 2^64
            obtain ⟨r, hr⟩ : ∃ r, r * q = 18446744073709551616 := by
              refine ⟨2 ^ (64 - 7 * i), ?_⟩
              rw [hq, ← Nat.pow_add, show 64 - 7 * i + 7 * i = 64 by omega]
            have hlt : v * 128 < r := by
              apply Classical.byContradiction
              intro hn
              have := Nat.mul_le_mul (show r ≤ v * 128 by omega) (Nat.le_refl q)
              rw [hr, Nat.mul_assoc] at this
              omega
            have h128 : v * 128 + 128 ≤ r := by
              obtain ⟨s, hs⟩ : ∃ s, r = 128 * s := by
                refine ⟨2 ^ (57 - 7 * i), ?_⟩
                have hqp : 0 < q := by rw [hq]; exact Nat.pow_pos (by decide)
                apply Nat.eq_of_mul_eq_mul_right hqp
                rw [hr, Nat.mul_assoc, hq, ← Nat.pow_add, show 57 - 7 * i + 7 * i = 57 by omega]
              omega
            have := Nat.mul_le_mul (show v * 128 + y + 1 ≤ r by omega) (Nat.le_refl q)
            rw [hr, Nat.add_mul, Nat.add_mul, Nat.mul_assoc, Nat.one_mul] at this
            have hqp : 0 < q := by rw [hq]; exact Nat.pow_pos (by decide)
            omega
          · have hq8 : q = 72057594037927936 := by rw [hq]
            rw [hq8] at e2 this ⊢
            clear hq hvv hp henc e1 e3 e4 e5 e6
            have hv1 : v ≤ 1 := by omega
            have : v = 1 := by omega
            subst this
            omega
        · rw [e4, henc, List.length_cons]; omega
        · rw [henc, List.length_cons, List.length_cons]; omega
        · rw [henc, List.length_cons, List.take_succ_cons, e6]
theorem Back.num (lo hi : Int) : Back (num lo hi) fun n x => x = Wm.enc n ∧ lo ≤ n ∧ n ≤ hi := fun l k hb h hk => by
  have h' : (Wm.numS l k lo hi).2.2 = 0 := h
  have hin := Wm.numS_in l k lo hi h'
  show ∃ x, (Wm.numS l k lo hi).2.1 = _ ∧ _ ∧ _ ∧ x = Wm.enc (Wm.numS l k lo hi).1 ∧ lo ≤ (Wm.numS l k lo hi).1 ∧ (Wm.numS l k lo hi).1 ≤ hi
  have hf : (Wm.numF 0 0 (l.drop k)).2.2 = 0 := by
    unfold Wm.numS at h'
    split at h'
    · next hc => exact absurd h' hc
    · next hc => exact Classical.not_not.1 hc
  have hs : Wm.numS l k lo hi = ((Wm.numF 0 0 (l.drop k)).1, k + (Wm.numF 0 0 (l.drop k)).2.1, 0) := by
    unfold Wm.numS at h' ⊢
    rw [if_neg (by simpa using hf)] at h' ⊢
    split at h'
    · cases h'
    · next hc => rw [if_neg hc]
  obtain ⟨v, e1, e2, e3, e4, e5, e6⟩ := numF_inv (l.drop k) 0 0 (fun y hy => hb y (List.mem_of_mem_drop hy)) (by omega) hf
  simp only [Nat.mul_zero, Nat.pow_zero, Nat.mul_one, Nat.zero_add, Nat.sub_zero] at e1 e2 e4 e5 e6
  have hen : Wm.enc (Wm.numF 0 0 (l.drop k)).1 = Wm.encF 9 v := by rw [e1]; unfold Wm.enc; rw [zz_unzz _ e2]
  rw [hs] at hin ⊢
  simp only at hin ⊢
  refine ⟨Wm.encF 9 v, by rw [e4], by rw [List.length_drop] at e5; omega, ?_, hen.symm, hin.1, hin.2⟩
  rw [List.take_add, e6]
theorem Back.ret {α : Type} (a : α) : Back (ret a) fun b x => b = a ∧ x = [] := fun l k _ _ hk => ⟨[], rfl, by simpa using hk, by simp, rfl, rfl⟩
theorem Back.bind {α β : Type} {p : P α} {q : α → P β} {R : α → List Int → Prop} {S : α → β → List Int → Prop} (hp : Back p R) (hd : ∀ a, Dead (q a)) (hq : ∀ a, Back (q a) (S a)) :
    Back (Fm.bind p q) fun b z => ∃ a x y, R a x ∧ S a b y ∧ z = x ++ y := fun l k hb h hk => by
  have h0 := first_fine hd h
  obtain ⟨x, e1, e2, e3, e4⟩ := hp l k hb h0 hk
  have h' : (q (p l k 0).1 l (p l k 0).2.1 (p l k 0).2.2).2.2 = 0 := h
  rw [h0] at h'
  obtain ⟨y, f1, f2, f3, f4⟩ := hq (p l k 0).1 l (p l k 0).2.1 hb h' (by omega)
  refine ⟨x ++ y, ?_, ?_, ?_, (p l k 0).1, x, y, e4, ?_, rfl⟩
  · show (q (p l k 0).1 l (p l k 0).2.1 (p l k 0).2.2).2.1 = _
    rw [h0, f1, e1, List.length_append, Nat.add_assoc]
  · rw [List.length_append]; omega
  · rw [e1] at f3
    rw [List.length_append, ← Nat.add_assoc, f3, e3, List.append_assoc]
  · show S _ (q (p l k 0).1 l (p l k 0).2.1 (p l k 0).2.2).1 y
    rw [h0]; exact f4
theorem Back.mono {α : Type} {p : P α} {R S : α → List Int → Prop} (h : Back p R) (hs : ∀ a x, R a x → S a x) : Back p S := fun l k hb hc hk => by
  obtain ⟨x, e1, e2, e3, e4⟩ := h l k hb hc hk
  exact ⟨x, e1, e2, e3, hs _ _ e4⟩
theorem Back.rep {α : Type} {p : P α} {f : α → List Int} (hd : Dead p) (hp : Back p fun a x => x = f a) : ∀ n, Back (rep p n) fun xs x => xs.length = n ∧ x = xs.flatMap f
  | 0 => (Back.ret _).mono fun a x ⟨h1, h2⟩ => ⟨by rw [h1]; rfl, by rw [h1, h2]; rfl⟩
  | n + 1 => ((Back.rep hd hp n).bind (fun _ => hd.bind fun _ => Dead.ret _) (fun xs => hp.bind (fun _ => Dead.ret _) fun x => Back.ret (xs ++ [x]))).mono fun b z ⟨xs, x, y, ⟨h1, h2⟩, ⟨a, x', y', h3, ⟨h4, h5⟩, h6⟩, h7⟩ => by
    subst h2 h3 h4 h5 h6 h7
    exact ⟨by simp [h1], by simp⟩
theorem back_bid : Back rdBid fun b x => x = encB b :=
  ((Back.num _ _).bind (fun _ => (Dead.num _ _).bind fun _ => Dead.ret _) fun c => (Back.num _ _).bind (fun _ => Dead.ret _) fun t => Back.ret (c, t)).mono fun b z ⟨a, x, y, h1, ⟨a', x', y', h2, ⟨h3, h4⟩, h5⟩, h6⟩ => by
    subst h3 h4 h5 h6
    rw [h1.1, h2.1]; simp [encB]
theorem back_en (m : Int) : Back (rdEn m) fun e x => x = encE e :=
  ((Back.num _ _).bind (fun _ => (Dead.num _ _).bind fun _ => (Dead.num _ _).bind fun _ => (Dead.num _ _).bind fun _ => (Dead.num _ _).bind fun _ => (dead_bid.rep _).bind fun _ => Dead.ret _) fun f =>
  (Back.num _ _).bind (fun _ => (Dead.num _ _).bind fun _ => (Dead.num _ _).bind fun _ => (Dead.num _ _).bind fun _ => (dead_bid.rep _).bind fun _ => Dead.ret _) fun d =>
  (Back.num _ _).bind (fun _ => (Dead.num _ _).bind fun _ => (Dead.num _ _).bind fun _ => (dead_bid.rep _).bind fun _ => Dead.ret _) fun g =>
  (Back.num _ _).bind (fun _ => (Dead.num _ _).bind fun _ => (dead_bid.rep _).bind fun _ => Dead.ret _) fun a =>
  (Back.num _ _).bind (fun _ => (dead_bid.rep _).bind fun _ => Dead.ret _) fun n => (Back.rep dead_bid back_bid n.toNat).bind (fun _ => Dead.ret _) fun bs => Back.ret (⟨f, d, g, bs, a⟩ : En)).mono
  fun e z ⟨f, x1, y1, h1, ⟨d, x2, y2, h2, ⟨g, x3, y3, h3, ⟨a, x4, y4, h4, ⟨n, x5, y5, h5, ⟨bs, x6, y6, h6, ⟨h7, h8⟩, h9⟩, h10⟩, h11⟩, h12⟩, h13⟩, h14⟩ => by
    subst h7 h8 h9 h10 h11 h12 h13 h14
    rw [h1.1, h2.1, h3.1, h4.1, h5.1, h6.2]
    have : (n : Int) = (bs.length : Int) := by have := h6.1; have := h5.2; omega
    simp [encE, this]
theorem back_rg : Back rdRg fun r x => x = encR r :=
  ((Back.num _ _).bind (fun _ => (Dead.num _ _).bind fun _ => (Dead.num _ _).bind fun _ => (Dead.num _ _).bind fun n => ((Dead.num _ _).rep _).bind fun _ => (Dead.num _ _).bind fun _ => ((dead_en n).rep _).bind fun _ => Dead.ret _) fun c =>
  (Back.num _ _).bind (fun _ => (Dead.num _ _).bind fun _ => (Dead.num _ _).bind fun n => ((Dead.num _ _).rep _).bind fun _ => (Dead.num _ _).bind fun _ => ((dead_en n).rep _).bind fun _ => Dead.ret _) fun f =>
  (Back.num _ _).bind (fun _ => (Dead.num _ _).bind fun n => ((Dead.num _ _).rep _).bind fun _ => (Dead.num _ _).bind fun _ => ((dead_en n).rep _).bind fun _ => Dead.ret _) fun h =>
  (Back.num _ _).bind (fun n => ((Dead.num _ _).rep _).bind fun _ => (Dead.num _ _).bind fun _ => ((dead_en n).rep _).bind fun _ => Dead.ret _) fun n =>
  (Back.rep (f := Wm.enc) (Dead.num _ _) ((Back.num 0 15).mono fun a x h => h.1) n.toNat).bind (fun _ => (Dead.num _ _).bind fun _ => ((dead_en n).rep _).bind fun _ => Dead.ret _) fun ms =>
  (Back.num _ _).bind (fun _ => ((dead_en n).rep _).bind fun _ => Dead.ret _) fun m => (Back.rep (dead_en n) (back_en n) m.toNat).bind (fun _ => Dead.ret _) fun es => Back.ret (⟨c, f, h, ms, es⟩ : Rg)).mono
  fun r z ⟨c, x1, y1, h1, ⟨f, x2, y2, h2, ⟨h, x3, y3, h3, ⟨n, x4, y4, h4, ⟨ms, x5, y5, h5, ⟨m, x6, y6, h6, ⟨es, x7, y7, h7, ⟨h8, h9⟩, h10⟩, h11⟩, h12⟩, h13⟩, h14⟩, h15⟩, h16⟩ => by
    subst h8 h9 h10 h11 h12 h13 h14 h15 h16
    rw [h1.1, h2.1, h3.1, h4.1, h5.2, h6.1, h7.2]
    have e1 : (n : Int) = (ms.length : Int) := by have := h5.1; have := h4.2; omega
    have e2 : (m : Int) = (es.length : Int) := by have := h7.1; have := h6.2; omega
    simp [encR, e1, e2]
theorem back_body (k : Int) : Back (rdBody k) fun f x => x = encBody f ∧ f.ki = k := by
  refine ((Back.num 0 15).bind (fun a => (Dead.num _ _).bind fun b => dead_tail k a b) (S := fun a f y => ∃ b x y', (x = Wm.enc b ∧ 0 ≤ b ∧ b ≤ 15) ∧ (y' = (if k = 1 then Wm.enc f.li ++ (Wm.enc f.se ++ Wm.enc (bit f.ou)) else encR f.rg) ∧ f.ki = k ∧ f.fr = a ∧ f.to = b) ∧ y = x ++ y') fun a => (Back.num 0 15).bind (fun b => dead_tail k a b) fun b => ?_).mono ?_
  · by_cases hk : k = 1
    · rw [if_pos hk]
      refine ((Back.num _ _).bind (fun _ => (Dead.num _ _).bind fun _ => (Dead.num _ _).bind fun _ => Dead.ret _) fun l => (Back.num _ _).bind (fun _ => (Dead.num _ _).bind fun _ => Dead.ret _) fun s => (Back.num _ _).bind (fun _ => Dead.ret _) fun o => Back.ret (⟨k, a, b, l, s, o == 1, zeroR⟩ : F)).mono ?_
      rintro f z ⟨l, x1, y1, h1, ⟨s, x2, y2, h2, ⟨o, x3, y3, h3, ⟨h4, h5⟩, h6⟩, h7⟩, h8⟩
      subst h4 h5 h6 h7 h8
      refine ⟨?_, rfl, rfl, rfl⟩
      rw [if_pos hk, h1.1, h2.1, h3.1]
      have : bit (o == 1) = o := by
        rcases (show o = 0 ∨ o = 1 by have := h3.2; omega) with rfl | rfl <;> rfl
      simp [this]
    · rw [if_neg hk]
      refine (back_rg.bind (fun _ => Dead.ret _) fun r => Back.ret (⟨k, a, b, 0, 0, false, r⟩ : F)).mono ?_
      rintro f z ⟨r, x1, y1, h1, ⟨h4, h5⟩, h6⟩
      subst h4 h5 h6
      refine ⟨?_, rfl, rfl, rfl⟩
      rw [if_neg hk, h1]; simp
  · rintro f z ⟨a, x, y, h1, ⟨b, x', y', h2, ⟨h3, h4, h5, h6⟩, h7⟩, h8⟩
    subst h7 h8
    refine ⟨?_, h4⟩
    rw [h1.1, h2.1, h3]
    unfold encBody
    rw [h4, h5, h6]
theorem bytes_read {l : List Int} (hb : Wm.Byte l) (h : (readF l).2.1 = 0) : frameC (readF l).1 = 0 ∧ bytesF (readF l).1 = l := by
  obtain ⟨g1, g2, g3, g4, g5, g6, g7, _⟩ := readF_fine h
  refine ⟨g6, ?_⟩
  obtain ⟨x, e1, e2, e3, e4, e5⟩ := back_body (l.getD 1 0) l 2 hb g4 (by omega)
  rw [← g7] at e4 e5
  have hx : 2 + x.length = l.length := by omega
  rw [hx, List.take_length] at e3
  unfold bytesF
  rw [e5, ← e4, e3]
  match l, g1, g2 with
  | a :: b :: l, _, g2 =>
    have : a = 80 := g2
    subst this
    rfl
/-- Cut off it is none. -/
theorem read_cut {f : F} (h : frameC f = 0) (k : Nat) (hk : k < (bytesF f).length) : (readF ((bytesF f).take k)).2.1 ≠ 0 := by
  intro h0
  have hb : Wm.Byte ((bytesF f).take k) := fun x hx => byte_frame h x (List.mem_of_mem_take hx)
  obtain ⟨g1, g2, g3, g4, g5, g6, g7, _⟩ := readF_fine h0
  have e1 : ((bytesF f).take k).getD 1 0 = f.ki := by
    rw [List.length_take] at g1
    match k, g1 with
    | k + 2, _ => rfl
  obtain ⟨x, c1, c2, _⟩ := back_body _ _ 2 hb g4 (by omega)
  rw [e1] at g4 c1
  have hx := ext_body f.ki ((bytesF f).take k) ((bytesF f).drop k) 2 g4
  rw [List.take_append_drop] at hx
  have hb := body_of h []
  rw [List.append_nil] at hb
  rw [hb] at hx
  rw [← hx] at c1
  rw [List.length_take] at c2
  simp only at c1
  omega
theorem bytes_inj {f g : F} (hf : frameC f = 0) (hg : frameC g = 0) : bytesF f = bytesF g ↔ f = g := by
  refine ⟨fun h => ?_, fun h => by rw [h]⟩
  have h1 := read_bytes hf
  have h2 := read_bytes hg
  rw [h] at h1
  rw [h1] at h2
  simpa using h2
end Fm
end Go.Proofs.YtpeocdcciecpoaaDoor
