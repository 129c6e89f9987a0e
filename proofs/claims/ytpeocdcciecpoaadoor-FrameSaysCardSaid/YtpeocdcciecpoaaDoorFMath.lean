/- Frames as plain data: which may be, their bytes, what is read of bytes; and back. No program. -/
import Derived.Test.YtpeocdcciecpoaaDoorMath
namespace Go.Proofs.YtpeocdcciecpoaaDoor
namespace Fm
open Go.RowKit

structure En where
  fl : Int
  di : Int
  ge : Int
  bs : List (Int × Int)
  aw : Int
structure Rg where
  co : Int
  fo : Int
  ho : Int
  ms : List Int
  es : List En
structure F where
  ki : Int
  fr : Int
  to : Int
  li : Int
  se : Int
  ou : Bool
  rg : Rg
theorem En.ext' {a b : En} (h1 : a.fl = b.fl) (h2 : a.di = b.di) (h3 : a.ge = b.ge) (h4 : a.bs = b.bs) (h5 : a.aw = b.aw) : a = b := by
  cases a; cases b; simp only at *; subst h1 h2 h3 h4 h5; rfl
theorem Rg.ext' {a b : Rg} (h1 : a.co = b.co) (h2 : a.fo = b.fo) (h3 : a.ho = b.ho) (h4 : a.ms = b.ms) (h5 : a.es = b.es) : a = b := by
  cases a; cases b; simp only at *; subst h1 h2 h3 h4 h5; rfl
theorem F.ext' {a b : F} (h1 : a.ki = b.ki) (h2 : a.fr = b.fr) (h3 : a.to = b.to) (h4 : a.li = b.li) (h5 : a.se = b.se) (h6 : a.ou = b.ou) (h7 : a.rg = b.rg) : a = b := by
  cases a; cases b; simp only at *; subst h1 h2 h3 h4 h5 h6 h7; rfl
def zeroE : En := ⟨0, 0, 0, [], 0⟩
def zeroR : Rg := ⟨0, 0, 0, [], []⟩
def zeroF : F := ⟨0, 0, 0, 0, 0, false, zeroR⟩

/- Which may be. -/
def Car (n : Int) : Prop := 0 ≤ n ∧ n < 16
instance (n : Int) : Decidable (Car n) := by unfold Car; exact inferInstance
def Rise (l : List Int) : Prop := ∀ i, i < l.length - 1 → l.getD i 0 < l.getD (i + 1) 0
instance (l : List Int) : Decidable (Rise l) := by unfold Rise; exact inferInstance
def BidsOk (ms : List Int) (bs : List (Int × Int)) : Prop := ∀ b ∈ bs, b.1 ∈ ms ∧ 0 ≤ b.2 ∧ b.2 ≤ 1048576
instance (ms : List Int) (bs : List (Int × Int)) : Decidable (BidsOk ms bs) := by unfold BidsOk; exact inferInstance
def bidsC (ms : List Int) (bs : List (Int × Int)) : Nat :=
  if ms.length < bs.length then 4 else if ¬ BidsOk ms bs then 3 else if ¬ Rise (bs.map (·.1)) then 11 else 0
def LatchOk (e : En) : Prop := 0 ≤ e.fl ∧ e.fl < 64 ∧ (e.di = 1 ∨ e.di = -1) ∧ 1 ≤ e.ge ∧ e.ge ≤ 2147483647
instance (e : En) : Decidable (LatchOk e) := by unfold LatchOk; exact inferInstance
/-- The calls' order. -/
def Less (a b : En) : Prop := a.fl < b.fl ∨ a.fl = b.fl ∧ a.di < b.di
instance (a b : En) : Decidable (Less a b) := by unfold Less; exact inferInstance
def After : Option En → En → Prop
  | none, _ => True
  | some q, e => Less q e
instance (p : Option En) (e : En) : Decidable (After p e) := by cases p <;> (unfold After; exact inferInstance)
def entC (ms : List Int) (p : Option En) (e : En) : Nat :=
  if ¬ (LatchOk e ∧ (e.aw = -1 ∨ e.aw ∈ ms)) then 3 else if ¬ After p e then 11 else bidsC ms e.bs
def entsC (ms : List Int) : Option En → List En → Nat
  | _, [] => 0
  | p, e :: es => if entC ms p e = 0 then entsC ms (some e) es else entC ms p e
def HeadOk (r : Rg) : Prop := (1 ≤ r.co ∧ r.co ≤ 4294967295 ∧ 0 ≤ r.fo ∧ r.fo < 16) ∧ 0 ≤ r.ho ∧ r.ho ≤ 1099511627776
instance (r : Rg) : Decidable (HeadOk r) := by unfold HeadOk; exact inferInstance
def membC (ms : List Int) : Nat := if ¬ (∀ m ∈ ms, Car m) then 3 else if ¬ Rise ms then 11 else 0
def ringC (r : Rg) : Nat :=
  if ¬ HeadOk r then 3 else if 16 < r.ms.length ∨ r.ms.length = 0 ∨ 128 < r.es.length then 4
  else if membC r.ms = 0 then entsC r.ms none r.es else membC r.ms
def Kept (n : Int) : Prop := 0 ≤ n ∧ n ≤ 281474976710655
instance (n : Int) : Decidable (Kept n) := by unfold Kept; exact inferInstance
def Zero (r : Rg) : Prop := r.co = 0 ∧ r.fo = 0 ∧ r.ho = 0 ∧ r.ms.length = 0 ∧ r.es.length = 0
instance (r : Rg) : Decidable (Zero r) := by unfold Zero; exact inferInstance
theorem Zero.eq {r : Rg} (h : Zero r) : r = zeroR := by
  obtain ⟨a, b, c, d, e⟩ := h
  exact Rg.ext' a b c (List.eq_nil_of_length_eq_zero d) (List.eq_nil_of_length_eq_zero e)
def frameC (f : F) : Nat :=
  if ¬ (f.ki = 1 ∨ f.ki = 2) then 7 else if ¬ (Car f.fr ∧ Car f.to) then 3
  else if f.ki = 1 then (if Kept f.li ∧ Kept f.se ∧ Zero f.rg then 0 else 3)
  else if f.li = 0 ∧ f.se = 0 ∧ f.ou = false then ringC f.rg else 3

/- The bytes. -/
def encB (b : Int × Int) : List Int := Wm.enc b.1 ++ Wm.enc b.2
def encE (e : En) : List Int := Wm.enc e.fl ++ (Wm.enc e.di ++ (Wm.enc e.ge ++ (Wm.enc e.aw ++ (Wm.enc (e.bs.length : Int) ++ e.bs.flatMap encB))))
def encR (r : Rg) : List Int := Wm.enc r.co ++ (Wm.enc r.fo ++ (Wm.enc r.ho ++ (Wm.enc (r.ms.length : Int) ++ (r.ms.flatMap Wm.enc ++ (Wm.enc (r.es.length : Int) ++ r.es.flatMap encE)))))
def bit (b : Bool) : Int := if b then 1 else 0
def encBody (f : F) : List Int := Wm.enc f.fr ++ (Wm.enc f.to ++ (if f.ki = 1 then Wm.enc f.li ++ (Wm.enc f.se ++ Wm.enc (bit f.ou)) else encR f.rg))
def bytesF (f : F) : List Int := 80 :: f.ki :: encBody f

/- What is read. -/
def P (α : Type) := List Int → Nat → Nat → α × Nat × Nat
def num (lo hi : Int) : P Int := fun l k c => if c = 0 then Wm.numS l k lo hi else (0, k, c)
def ret {α : Type} (a : α) : P α := fun _ k c => (a, k, c)
def bind {α β : Type} (p : P α) (q : α → P β) : P β := fun l k c => q (p l k c).1 l (p l k c).2.1 (p l k c).2.2
def rep {α : Type} (p : P α) : Nat → P (List α)
  | 0 => ret []
  | n + 1 => bind (rep p n) fun xs => bind p fun x => ret (xs ++ [x])
def rdBid : P (Int × Int) := bind (num 0 15) fun c => bind (num 0 1048576) fun t => ret (c, t)
def rdEn (m : Int) : P En := bind (num 0 63) fun f => bind (num (-1) 1) fun d => bind (num 1 2147483647) fun g => bind (num (-1) 15) fun a => bind (num 0 m) fun n => bind (rep rdBid n.toNat) fun bs => ret ⟨f, d, g, bs, a⟩
def rdRg : P Rg := bind (num 1 4294967295) fun c => bind (num 0 15) fun f => bind (num 0 1099511627776) fun h => bind (num 0 16) fun n => bind (rep (num 0 15) n.toNat) fun ms => bind (num 0 128) fun m => bind (rep (rdEn n) m.toNat) fun es => ret ⟨c, f, h, ms, es⟩
def rdBeat (ki a b : Int) : P F := bind (num 0 281474976710655) fun l => bind (num 0 281474976710655) fun s => bind (num 0 1) fun o => ret ⟨ki, a, b, l, s, o == 1, zeroR⟩
def rdToken (ki a b : Int) : P F := bind rdRg fun r => ret ⟨ki, a, b, 0, 0, false, r⟩
def rdBody (ki : Int) : P F := bind (num 0 15) fun a => bind (num 0 15) fun b => if ki = 1 then rdBeat ki a b else rdToken ki a b
/-- The frame, the error's code (0: none), whether there is a place around it, the place. -/
def readF (l : List Int) : F × Nat × Bool × Nat :=
  if l.length < 1 ∨ l.getD 0 0 ≠ 80 then (zeroF, 2, false, 0)
  else if l.length < 2 ∨ ¬ (l.getD 1 0 = 1 ∨ l.getD 1 0 = 2) then (zeroF, 7, false, 0)
  else if (rdBody (l.getD 1 0) l 2 0).2.2 ≠ 0 then (zeroF, (rdBody (l.getD 1 0) l 2 0).2.2, true, (rdBody (l.getD 1 0) l 2 0).2.1)
  else if (rdBody (l.getD 1 0) l 2 0).2.1 < l.length then (zeroF, 2, false, 0)
  else if frameC (rdBody (l.getD 1 0) l 2 0).1 ≠ 0 then (zeroF, frameC (rdBody (l.getD 1 0) l 2 0).1, false, 0)
  else ((rdBody (l.getD 1 0) l 2 0).1, 0, false, 0)

/- Behind an error nothing goes on. -/
def Dead {α : Type} (p : P α) : Prop := ∀ l k c, c ≠ 0 → (p l k c).2 = (k, c)
theorem Dead.num (lo hi : Int) : Dead (num lo hi) := fun l k c h => by unfold Fm.num; rw [if_neg h]
theorem Dead.ret {α : Type} (a : α) : Dead (ret a) := fun _ _ _ _ => rfl
theorem Dead.bind {α β : Type} {p : P α} {q : α → P β} (hp : Dead p) (hq : ∀ a, Dead (q a)) : Dead (bind p q) := fun l k c h => by
  have h1 := hp l k c h
  show (q _ l (p l k c).2.1 (p l k c).2.2).2 = _
  rw [h1]; exact hq _ _ _ _ h
theorem Dead.rep {α : Type} {p : P α} (hp : Dead p) : ∀ n, Dead (rep p n)
  | 0 => Dead.ret _
  | n + 1 => (Dead.rep hp n).bind fun _ => hp.bind fun _ => Dead.ret _
theorem dead_bid : Dead rdBid := (Dead.num _ _).bind fun _ => (Dead.num _ _).bind fun _ => Dead.ret _
theorem dead_en (m : Int) : Dead (rdEn m) := (Dead.num _ _).bind fun _ => (Dead.num _ _).bind fun _ => (Dead.num _ _).bind fun _ => (Dead.num _ _).bind fun _ => (Dead.num _ _).bind fun _ => (dead_bid.rep _).bind fun _ => Dead.ret _
theorem dead_rg : Dead rdRg := (Dead.num _ _).bind fun _ => (Dead.num _ _).bind fun _ => (Dead.num _ _).bind fun _ => (Dead.num _ _).bind fun n => ((Dead.num _ _).rep _).bind fun _ => (Dead.num _ _).bind fun _ => ((dead_en n).rep _).bind fun _ => Dead.ret _
theorem dead_beat (k a b : Int) : Dead (rdBeat k a b) := (Dead.num _ _).bind fun _ => (Dead.num _ _).bind fun _ => (Dead.num _ _).bind fun _ => Dead.ret _
theorem dead_token (k a b : Int) : Dead (rdToken k a b) := dead_rg.bind fun _ => Dead.ret _
theorem dead_tail (k a b : Int) : Dead (if k = 1 then rdBeat k a b else rdToken k a b) := by split; exact dead_beat _ _ _; exact dead_token _ _ _

/- What was put is read. -/
def Enc {α : Type} (p : P α) (a : α) (x : List Int) : Prop := ∀ pre post : List Int, p (pre ++ (x ++ post)) pre.length 0 = (a, pre.length + x.length, 0)
theorem Enc.num {lo hi n : Int} (h1 : lo ≤ n) (h2 : n ≤ hi) (h3 : -9223372036854775808 ≤ n) (h4 : n ≤ 9223372036854775807) : Enc (num lo hi) n (Wm.enc n) := fun pre post => by
  show Wm.numS _ _ _ _ = _
  unfold Wm.numS
  rw [List.drop_left, Wm.num_enc n h3 h4]
  simp only
  rw [if_neg (by decide), if_neg (by omega)]
theorem Enc.ret {α : Type} (a : α) : Enc (ret a) a [] := fun _ _ => rfl
theorem Enc.bind {α β : Type} {p : P α} {q : α → P β} {a : α} {b : β} {x y : List Int} (hp : Enc p a x) (hq : Enc (q a) b y) : Enc (bind p q) b (x ++ y) := fun pre post => by
  have h1 := hp pre (y ++ post)
  have h2 := hq (pre ++ x) post
  show q _ _ (p _ _ _).2.1 (p _ _ _).2.2 = _
  rw [List.append_assoc, h1]
  simp only [List.append_assoc, List.length_append] at h2 ⊢
  rw [h2, Nat.add_assoc]
theorem Enc.one {α β : Type} {p : P α} {q : α → P β} {a : α} {b : β} {x : List Int} (hp : Enc p a x) (hq : Enc (q a) b []) : Enc (Fm.bind p q) b x := by
  have := Enc.bind (q := q) hp hq
  rwa [List.append_nil] at this
theorem Enc.rep {α : Type} {p : P α} {f : α → List Int} : ∀ (n : Nat) (xs : List α), xs.length = n → (∀ x ∈ xs, Enc p x (f x)) → Enc (rep p n) xs (xs.flatMap f)
  | 0, xs, hn, _ => by
    obtain rfl := List.eq_nil_of_length_eq_zero hn
    exact Enc.ret []
  | n + 1, xs, hn, h => by
    have hne : xs ≠ [] := by intro e; rw [e] at hn; simp at hn
    obtain ⟨ys, y, rfl⟩ : ∃ ys y, xs = ys ++ [y] := ⟨xs.dropLast, xs.getLast hne, (List.dropLast_concat_getLast hne).symm⟩
    have hl : ys.length = n := by simpa using hn
    have h1 := Enc.rep n ys hl (fun x hx => h x (by simp [hx]))
    have h2 := h y (by simp)
    have e : (ys ++ [y]).flatMap f = ys.flatMap f ++ f y := by simp
    rw [e]
    exact h1.bind (h2.one (Enc.ret _))
theorem enc_bid {b : Int × Int} (h : (0 ≤ b.1 ∧ b.1 ≤ 15) ∧ 0 ≤ b.2 ∧ b.2 ≤ 1048576) : Enc rdBid b (encB b) :=
  (Enc.num h.1.1 h.1.2 (by omega) (by omega)).bind ((Enc.num h.2.1 h.2.2 (by omega) (by omega)).one (Enc.ret _))

/-- What of an entry is asked, that it be read. -/
def EnOk (m : Int) (e : En) : Prop := (0 ≤ e.fl ∧ e.fl ≤ 63) ∧ (-1 ≤ e.di ∧ e.di ≤ 1) ∧ (1 ≤ e.ge ∧ e.ge ≤ 2147483647) ∧ (-1 ≤ e.aw ∧ e.aw ≤ 15) ∧ (e.bs.length : Int) ≤ m ∧ ∀ b ∈ e.bs, (0 ≤ b.1 ∧ b.1 ≤ 15) ∧ 0 ≤ b.2 ∧ b.2 ≤ 1048576
theorem enc_en {m : Int} {e : En} (hm : m ≤ 16) (h : EnOk m e) : Enc (rdEn m) e (encE e) := by
  obtain ⟨h1, h2, h3, h4, h5, h6⟩ := h
  refine (Enc.num h1.1 h1.2 (by omega) (by omega)).bind ((Enc.num h2.1 h2.2 (by omega) (by omega)).bind ((Enc.num h3.1 h3.2 (by omega) (by omega)).bind ((Enc.num h4.1 h4.2 (by omega) (by omega)).bind ((Enc.num (by omega) h5 (by omega) (by omega)).bind ?_))))
  refine Enc.one (Enc.rep _ _ (by simp) (fun b hb => enc_bid (h6 b hb))) ?_
  exact Enc.ret _
def RgOk (r : Rg) : Prop := (1 ≤ r.co ∧ r.co ≤ 4294967295) ∧ (0 ≤ r.fo ∧ r.fo ≤ 15) ∧ (0 ≤ r.ho ∧ r.ho ≤ 1099511627776) ∧ r.ms.length ≤ 16 ∧ (∀ m ∈ r.ms, 0 ≤ m ∧ m ≤ 15) ∧ r.es.length ≤ 128 ∧ ∀ e ∈ r.es, EnOk (r.ms.length : Int) e
theorem enc_rg {r : Rg} (h : RgOk r) : Enc rdRg r (encR r) := by
  obtain ⟨h1, h2, h3, h4, h5, h6, h7⟩ := h
  refine (Enc.num h1.1 h1.2 (by omega) (by omega)).bind ((Enc.num h2.1 h2.2 (by omega) (by omega)).bind ((Enc.num h3.1 h3.2 (by omega) (by omega)).bind ((Enc.num (n := (r.ms.length : Int)) (by omega) (by omega) (by omega) (by omega)).bind ?_)))
  refine (Enc.rep _ r.ms (by simp) (fun m hm => Enc.num (h5 m hm).1 (h5 m hm).2 (by have := h5 m hm; omega) (by have := h5 m hm; omega))).bind ?_
  refine (Enc.num (n := (r.es.length : Int)) (by omega) (by omega) (by omega) (by omega)).bind ?_
  refine Enc.one (Enc.rep _ r.es (by simp) (fun e he => enc_en (by omega) (h7 e he))) ?_
  exact Enc.ret _

/- Which may be, may be read. -/
theorem entsC_ok (ms : List Int) (hms : ∀ m ∈ ms, Car m) : ∀ (p : Option En) (es : List En), entsC ms p es = 0 → ∀ e ∈ es, EnOk (ms.length : Int) e
  | _, [], _ => by simp
  | p, e :: es, h => by
    unfold entsC at h
    split at h
    · next h0 =>
      intro x hx
      rcases List.mem_cons.1 hx with rfl | hx
      · unfold entC at h0
        split at h0
        · cases h0
        · next h1 =>
          split at h0
          · cases h0
          · unfold bidsC at h0
            split at h0
            · cases h0
            · next h3 =>
              split at h0
              · cases h0
              · next h4 =>
                obtain ⟨⟨a1, a2, a3, a4, a5⟩, a6⟩ := Classical.not_not.1 h1
                have h4 := Classical.not_not.1 h4
                refine ⟨⟨a1, by omega⟩, ⟨by omega, by omega⟩, ⟨a4, a5⟩, ?_, by omega, fun b hb => ?_⟩
                · rcases a6 with a6 | a6
                  · omega
                  · have := hms _ a6; unfold Car at this; omega
                · obtain ⟨c1, c2, c3⟩ := h4 b hb
                  have := hms _ c1
                  unfold Car at this
                  exact ⟨by omega, c2, c3⟩
      · exact entsC_ok ms hms (some e) es h x hx
    · next h0 => exact absurd h h0
theorem ringC_ok {r : Rg} (h : ringC r = 0) : RgOk r := by
  unfold ringC at h
  split at h
  · cases h
  · next h1 =>
    split at h
    · cases h
    · next h2 =>
      obtain ⟨⟨a1, a2, a3, a4⟩, a5, a6⟩ := Classical.not_not.1 h1
      split at h
      · next h3 =>
        unfold membC at h3
        split at h3
        · cases h3
        · next h4 =>
          have h4 := Classical.not_not.1 h4
          exact ⟨⟨a1, a2⟩, ⟨a3, by omega⟩, ⟨a5, a6⟩, by omega, fun m hm => by have := h4 m hm; unfold Car at this; omega, by omega, entsC_ok _ h4 _ _ h⟩
      · next h3 => exact absurd h h3
theorem frameC_cases {f : F} (h : frameC f = 0) : (Car f.fr ∧ Car f.to) ∧ ((f.ki = 1 ∧ Kept f.li ∧ Kept f.se ∧ Zero f.rg) ∨ (f.ki = 2 ∧ f.li = 0 ∧ f.se = 0 ∧ f.ou = false ∧ ringC f.rg = 0)) := by
  unfold frameC at h
  split at h
  · cases h
  · next h1 =>
    split at h
    · cases h
    · next h2 =>
      refine ⟨Classical.not_not.1 h2, ?_⟩
      split at h
      · next h3 =>
        split at h
        · next h4 => exact .inl ⟨h3, h4⟩
        · cases h
      · next h3 =>
        split at h
        · next h4 => exact .inr ⟨by omega, h4.1, h4.2.1, h4.2.2, h⟩
        · cases h
theorem enc_body {f : F} (h : frameC f = 0) : Enc (rdBody f.ki) f (encBody f) := by
  obtain ⟨⟨hf, ht⟩, h⟩ := frameC_cases h
  unfold Car at hf ht
  refine (Enc.num hf.1 (by omega) (by omega) (by omega)).bind ((Enc.num ht.1 (by omega) (by omega) (by omega)).bind ?_)
  rcases h with ⟨hk, hl, hs, hz⟩ | ⟨hk, hl, hs, ho, hr⟩
  · rw [if_pos hk, if_pos hk]
    unfold Kept at hl hs
    refine (Enc.num hl.1 hl.2 (by omega) (by omega)).bind ((Enc.num hs.1 hs.2 (by omega) (by omega)).bind (Enc.one (a := bit f.ou) (Enc.num (by unfold bit; split <;> omega) (by unfold bit; split <;> omega) (by unfold bit; split <;> omega) (by unfold bit; split <;> omega)) ?_))
    have e : (⟨f.ki, f.fr, f.to, f.li, f.se, bit f.ou == 1, zeroR⟩ : F) = f := F.ext' rfl rfl rfl rfl rfl (by unfold bit; cases f.ou <;> rfl) hz.eq.symm
    show Enc (ret _) _ _
    rw [e]
    exact Enc.ret f
  · have hk1 : ¬ f.ki = 1 := by omega
    rw [if_neg hk1, if_neg hk1]
    refine Enc.one (enc_rg (ringC_ok hr)) ?_
    have e : (⟨f.ki, f.fr, f.to, 0, 0, false, f.rg⟩ : F) = f := F.ext' rfl rfl rfl hl.symm hs.symm ho.symm rfl
    show Enc (ret _) _ _
    rw [e]
    exact Enc.ret f

/- Of longer bytes the same is read. -/
def Ext {α : Type} (p : P α) : Prop := ∀ (l m : List Int) (k : Nat), (p l k 0).2.2 = 0 → p (l ++ m) k 0 = p l k 0
theorem numF_ext : ∀ (l m : List Int) (i u : Nat), (Wm.numF i u l).2.2 = 0 → Wm.numF i u (l ++ m) = Wm.numF i u l
  | [], m, i, u, h => by cases h
  | x :: xs, m, i, u, h => by
    rw [List.cons_append]
    unfold Wm.numF at h ⊢
    split
    · rfl
    · split
      · rfl
      · next h1 h2 =>
        rw [if_neg h1, if_neg h2] at h
        exact numF_ext xs m _ _ h
theorem Ext.num (lo hi : Int) : Ext (num lo hi) := fun l m k h => by
  show Wm.numS _ _ _ _ = Wm.numS _ _ _ _
  have h' : (Wm.numS l k lo hi).2.2 = 0 := h
  have h0 : (Wm.numF 0 0 (l.drop k)).2.2 = 0 := by
    unfold Wm.numS at h'
    split at h'
    · next hc => exact absurd h' hc
    · next hc => exact Classical.not_not.1 hc
  have hk : k ≤ l.length := by
    apply Classical.byContradiction
    intro hn
    rw [List.drop_eq_nil_of_le (by omega)] at h0
    cases h0
  unfold Wm.numS
  rw [List.drop_append_of_le_length hk, numF_ext _ _ _ _ h0]
theorem Ext.ret {α : Type} (a : α) : Ext (ret a) := fun _ _ _ _ => rfl
theorem first_fine {α β : Type} {p : P α} {q : α → P β} (hq : ∀ a, Dead (q a)) {l : List Int} {k : Nat} (h : (Fm.bind p q l k 0).2.2 = 0) : (p l k 0).2.2 = 0 := by
  apply Classical.byContradiction
  intro hn
  have := hq (p l k 0).1 l (p l k 0).2.1 (p l k 0).2.2 hn
  have h' : (q (p l k 0).1 l (p l k 0).2.1 (p l k 0).2.2).2.2 = 0 := h
  rw [this] at h'
  exact hn h'
theorem Ext.bind {α β : Type} {p : P α} {q : α → P β} (hp : Ext p) (hd : ∀ a, Dead (q a)) (hq : ∀ a, Ext (q a)) : Ext (Fm.bind p q) := fun l m k h => by
  have h0 := first_fine hd h
  have h1 := hp l m k h0
  have h' : (q (p l k 0).1 l (p l k 0).2.1 (p l k 0).2.2).2.2 = 0 := h
  show q (p (l ++ m) k 0).1 (l ++ m) (p (l ++ m) k 0).2.1 (p (l ++ m) k 0).2.2 = q (p l k 0).1 l (p l k 0).2.1 (p l k 0).2.2
  rw [h1]
  rw [h0] at h' ⊢
  exact hq _ l m _ h'
theorem Ext.rep {α : Type} {p : P α} (hd : Dead p) (hp : Ext p) : ∀ n, Ext (rep p n)
  | 0 => Ext.ret _
  | n + 1 => (Ext.rep hd hp n).bind (fun _ => hd.bind fun _ => Dead.ret _) (fun _ => hp.bind (fun _ => Dead.ret _) fun _ => Ext.ret _)
theorem ext_bid : Ext rdBid := (Ext.num _ _).bind (fun _ => (Dead.num _ _).bind fun _ => Dead.ret _) fun _ => (Ext.num _ _).bind (fun _ => Dead.ret _) fun _ => Ext.ret _

/- What was read has just these bytes. -/
def Back {α : Type} (p : P α) (R : α → List Int → Prop) : Prop := ∀ (l : List Int) (k : Nat), Wm.Byte l → (p l k 0).2.2 = 0 → k ≤ l.length →
  ∃ x, (p l k 0).2.1 = k + x.length ∧ k + x.length ≤ l.length ∧ l.take (k + x.length) = l.take k ++ x ∧ R (p l k 0).1 x
end Fm
end Go.Proofs.YtpeocdcciecpoaaDoor
