/- A record that is kept (package store): what a memory's slots hold, over plain lists. -/
import Derived.Test.YthiimkjhlndcoaaDoorCell
import Derived.Lib.EndianBits
namespace Go.Proofs.YthiimkjhlndcoaaDoor

/-- Bytes. -/
def By8 (l : List Int) : Prop := ∀ x ∈ l, 0 ≤ x ∧ x ≤ 255
theorem By8.get {l : List Int} (h : By8 l) (i : Nat) : 0 ≤ l.getD i 0 ∧ l.getD i 0 ≤ 255 := by
  by_cases hi : i < l.length
  · exact h _ (by simp [hi])
  · simp [List.getD, show l.length ≤ i by omega]
theorem By8.set {l : List Int} (h : By8 l) (i : Nat) (x : Int) (hx : 0 ≤ x ∧ x ≤ 255) : By8 (l.set i x) := by
  intro y hy
  rcases List.mem_or_eq_of_mem_set hy with h' | rfl
  · exact h y h'
  · exact hx
theorem By8.zero (n : Nat) : By8 (List.replicate n 0) := by intro x hx; simp at hx; omega

/-- The number of the six bytes from place i on. -/
def numAt (l : List Int) (i : Nat) : Int := ((((l.getD i 0 * 256 + l.getD (i+1) 0) * 256 + l.getD (i+2) 0) * 256 + l.getD (i+3) 0) * 256 + l.getD (i+4) 0) * 256 + l.getD (i+5) 0
theorem numAt_range {l : List Int} (h : By8 l) (i : Nat) : 0 ≤ numAt l i ∧ numAt l i ≤ 281474976710655 := by
  have h0 := h.get i; have h1 := h.get (i+1); have h2 := h.get (i+2); have h3 := h.get (i+3); have h4 := h.get (i+4); have h5 := h.get (i+5)
  unfold numAt; omega
/-- Byte j of a number of six bytes. -/
def byteOf (n : Int) (j : Nat) : Int := n / 2 ^ (8 * (5 - j)) % 256
theorem byteOf_range (n : Int) (j : Nat) : 0 ≤ byteOf n j ∧ byteOf n j ≤ 255 := by unfold byteOf; omega

/-- Puts in a row: till one fails. -/
def CS.run : CS → List (Nat × Int) → CS × Nat
  | s, [] => (s, 0)
  | s, o :: ops => if (s.put o.1 o.2).2 = 0 then CS.run (s.put o.1 o.2).1 ops else s.put o.1 o.2
theorem CS.run_append (ops ops' : List (Nat × Int)) : ∀ s : CS, s.run (ops ++ ops') = if (s.run ops).2 = 0 then (s.run ops).1.run ops' else s.run ops := by
  induction ops with
  | nil => intro s; simp [CS.run]
  | cons o ops ih =>
    intro s
    simp only [List.cons_append, CS.run]
    by_cases h : (s.put o.1 o.2).2 = 0
    · simp only [h, if_true]; exact ih _
    · simp only [h, if_false]
theorem CS.run_one (s : CS) (i : Nat) (x : Int) : s.run [(i, x)] = s.put i x := by
  simp only [CS.run]; split
  · rename_i h; rw [← h]
  · rfl
theorem CS.put_l (s : CS) (i : Nat) (x : Int) : (s.put i x).1.l.length = s.l.length := by
  unfold CS.put; split
  · rfl
  · split
    · rw [s.fg_l]
    · split
      · simp
      · rw [s.fg_l]
theorem CS.put_n (s : CS) (i : Nat) (x : Int) : (s.put i x).1.n ≤ s.n + 1 := by
  unfold CS.put; split
  · simp only; omega
  · split
    · rw [s.fg_n]; omega
    · split
      · simp
      · rw [s.fg_n]; omega
theorem CS.put_code (s : CS) (i : Int) (x : Int) : (s.put i x).2 ≤ 6 := by
  unfold CS.put; split <;> (try split) <;> (try split) <;> simp
theorem CS.put_by {s : CS} (h : By8 s.l) (i : Nat) (x : Int) (hx : 0 ≤ x ∧ x ≤ 255) : By8 (s.put i x).1.l := by
  unfold CS.put; split
  · exact h
  · split
    · rw [s.fg_l]; exact h
    · split
      · exact h.set _ _ hx
      · rw [s.fg_l]; exact h
theorem CS.run_l (ops : List (Nat × Int)) : ∀ s : CS, (s.run ops).1.l.length = s.l.length := by
  induction ops with
  | nil => intro s; rfl
  | cons o ops ih => intro s; simp only [CS.run]; split; rw [ih, s.put_l]; exact s.put_l _ _
theorem CS.run_n (ops : List (Nat × Int)) : ∀ s : CS, (s.run ops).1.n ≤ s.n + ops.length := by
  induction ops with
  | nil => intro s; simp [CS.run]
  | cons o ops ih =>
    intro s; simp only [CS.run, List.length_cons]
    have := s.put_n o.1 o.2
    have h2 := ih (s.put o.1 o.2).1
    split <;> omega
theorem CS.run_code (ops : List (Nat × Int)) : ∀ s : CS, (s.run ops).2 ≤ 6 := by
  induction ops with
  | nil => intro s; simp [CS.run]
  | cons o ops ih => intro s; simp only [CS.run]; split; exact ih _; exact s.put_code _ _
theorem CS.run_by (ops : List (Nat × Int)) (ho : ∀ o ∈ ops, 0 ≤ o.2 ∧ o.2 ≤ 255) : ∀ s : CS, By8 s.l → By8 (s.run ops).1.l := by
  induction ops with
  | nil => intro s h; exact h
  | cons o ops ih =>
    intro s h; simp only [CS.run]
    have := CS.put_by h o.1 o.2 (ho o (by simp))
    split
    · exact ih (fun o h => ho o (by simp [h])) _ this
    · exact this

/-- Bytes that are written. -/
def setAll (l : List Int) (ops : List (Nat × Int)) : List Int := ops.foldl (fun l o => l.set o.1 o.2) l
theorem setAll_len (ops : List (Nat × Int)) : ∀ l, (setAll l ops).length = l.length := by
  induction ops with
  | nil => intro l; rfl
  | cons o ops ih => intro l; simp only [setAll, List.foldl_cons] at ih ⊢; rw [ih]; simp
theorem setAll_other (i : Nat) (ops : List (Nat × Int)) (h : ∀ o ∈ ops, o.1 ≠ i) : ∀ l, (setAll l ops).getD i 0 = l.getD i 0 := by
  induction ops with
  | nil => intro l; rfl
  | cons o ops ih =>
    intro l
    simp only [setAll, List.foldl_cons] at ih ⊢
    rw [ih (fun o h' => h o (by simp [h']))]
    have := h o (by simp)
    simp [List.getD, this]
theorem CS.put_fine (s : CS) (i : Nat) (x : Int) (hd : s.d = false) (hi : i < s.l.length) (ha : s.a ≠ 1) : s.put i x = ({ s with l := s.l.set i x, a := if s.a = 0 then 0 else s.a - 1, n := s.n + 1 }, 0) := by
  unfold CS.put CS.gone CS.has
  rw [if_neg (by rw [hd]; simp), if_neg (by simpa using ha), if_pos (by simp; omega)]
  unfold CS.fg
  split
  · rename_i h; simp [h]
  · rename_i h; simp [ha]; rw [hd]
theorem CS.put_gone (s : CS) (i : Nat) (x : Int) (hd : s.d = false) (ha : s.a = 1) : s.put i x = ({ s with a := 0, d := true }, 5) := by
  unfold CS.put CS.gone
  rw [if_neg (by rw [hd]; simp), if_pos (by simpa using ha)]
  unfold CS.fg
  rw [if_neg (by omega)]; simp [ha]
theorem CS.run_fine (ops : List (Nat × Int)) : ∀ s : CS, s.d = false → (∀ o ∈ ops, o.1 < s.l.length) → (s.a = 0 ∨ (ops.length : Int) < s.a) → s.run ops = ({ s with l := setAll s.l ops, a := if s.a = 0 then 0 else s.a - ops.length, n := s.n + ops.length }, 0) := by
  induction ops with
  | nil => intro s _ _ _; obtain ⟨l, a, d, n⟩ := s; simp_all [CS.run, setAll]
  | cons o ops ih =>
    intro s hd hi ha
    simp only [List.length_cons] at ha
    have e := s.put_fine o.1 o.2 hd (hi o (by simp)) (by omega)
    simp only [CS.run, e, if_true]
    refine (ih _ ?_ (fun o' h' => ?_) ?_).trans ?_
    · exact hd
    · have := hi o' (by simp [h']); simpa using this
    · simp only; split <;> omega
    simp only [setAll, List.foldl_cons, List.length_cons]
    by_cases h0 : s.a = 0
    · simp [h0]; omega
    · have h1 : ¬ s.a - 1 = 0 := by omega
      simp only [h0, h1, if_false]
      simp; omega
theorem CS.run_cut (ops : List (Nat × Int)) : ∀ (s : CS) (k : Nat), s.d = false → (∀ o ∈ ops, o.1 < s.l.length) → s.a = (k : Int) + 1 → k < ops.length → s.run ops = ({ s with l := setAll s.l (ops.take k), a := 0, d := true, n := s.n + k }, 5) := by
  induction ops with
  | nil => intro s k _ _ _ h; simp at h
  | cons o ops ih =>
    intro s k hd hi ha hk
    match k, ha, hk with
    | 0, ha, _ =>
      have e := s.put_gone o.1 o.2 hd (by simpa using ha)
      simp only [CS.run, e]
      simp [setAll]
    | k + 1, ha, hk =>
      have e := s.put_fine o.1 o.2 hd (hi o (by simp)) (by omega)
      simp only [CS.run, e, if_true]
      refine (ih _ k ?_ (fun o' h' => ?_) ?_ (by simpa using hk)).trans ?_
      · exact hd
      · have := hi o' (by simp [h']); simpa using this
      · simp only; rw [if_neg (by omega)]; omega
      · simp [setAll]; omega

/-- A number's six bytes, from a place on. -/
def six (i : Nat) (n : Int) : List (Nat × Int) := [(i, byteOf n 0), (i+1, byteOf n 1), (i+2, byteOf n 2), (i+3, byteOf n 3), (i+4, byteOf n 4), (i+5, byteOf n 5)]
theorem six_take (i : Nat) (n : Int) (j : Nat) (hj : j < 6) : (six i n).take (j + 1) = (six i n).take j ++ [(i + j, byteOf n j)] := by
  match j, hj with
  | 0, _ | 1, _ | 2, _ | 3, _ | 4, _ | 5, _ => rfl
theorem run_six (s : CS) (i : Nat) (n : Int) (j : Nat) (hj : j < 6) (h : (s.run ((six i n).take j)).2 = 0) :
    s.run ((six i n).take (j + 1)) = (s.run ((six i n).take j)).1.put ((i + j : Nat) : Int) (byteOf n j) := by
  rw [six_take i n j hj, CS.run_append, if_pos h, CS.run_one]
theorem run_stop (s : CS) (ops : List (Nat × Int)) (j : Nat) (h : ¬ (s.run (ops.take j)).2 = 0) : s.run ops = s.run (ops.take j) := by
  have e : s.run (ops.take j ++ ops.drop j) = s.run (ops.take j) := by rw [CS.run_append, if_neg h]
  rwa [List.take_append_drop] at e
/-- What a Save writes. -/
def plan (k : Nat) (c n : Int) : List (Nat × Int) := (13 * k, 0) :: (six (13 * k + 1) c ++ (six (13 * k + 7) n ++ [(13 * k, 1)]))
theorem plan_len (k : Nat) (c n : Int) : (plan k c n).length = 14 := rfl
theorem plan_in (k : Nat) (c n : Int) (hk : k < 2) : ∀ o ∈ plan k c n, o.1 < 26 := by
  intro o ho; simp [plan, six] at ho; rcases ho with h | h | h | h | h | h | h | h | h | h | h | h | h | h <;> (subst h; simp only; omega)
theorem plan_by (k : Nat) (c n : Int) : ∀ o ∈ plan k c n, 0 ≤ o.2 ∧ o.2 ≤ 255 := by
  intro o ho; simp [plan, six] at ho
  rcases ho with h | h | h | h | h | h | h | h | h | h | h | h | h | h <;> (subst h; first | exact byteOf_range _ _ | (simp only; omega))
theorem run_plan (s s1 s2 s3 : CS) (k : Nat) (c n : Int) (h1 : s.put ((13 * k : Nat) : Int) 0 = (s1, 0)) (h2 : s1.run (six (13 * k + 1) c) = (s2, 0)) (h3 : s2.run (six (13 * k + 7) n) = (s3, 0)) :
    s.run (plan k c n) = s3.put ((13 * k : Nat) : Int) 1 := by
  unfold plan
  simp only [CS.run, h1, if_true, CS.run_append, h2, h3]
  split
  · rename_i h; rw [← h]
  · rfl
theorem run_plan1 (s s1 : CS) (k : Nat) (c n : Int) (d : Nat) (h1 : s.put ((13 * k : Nat) : Int) 0 = (s1, d + 1)) : s.run (plan k c n) = (s1, d + 1) := by
  unfold plan; simp only [CS.run, h1]; rw [if_neg (by omega)]
theorem run_plan2 (s s1 s2 : CS) (k : Nat) (c n : Int) (d : Nat) (h1 : s.put ((13 * k : Nat) : Int) 0 = (s1, 0)) (h2 : s1.run (six (13 * k + 1) c) = (s2, d + 1)) : s.run (plan k c n) = (s2, d + 1) := by
  unfold plan; simp only [CS.run, h1, if_true, CS.run_append, h2]; simp
theorem run_plan3 (s s1 s2 s3 : CS) (k : Nat) (c n : Int) (d : Nat) (h1 : s.put ((13 * k : Nat) : Int) 0 = (s1, 0)) (h2 : s1.run (six (13 * k + 1) c) = (s2, 0)) (h3 : s2.run (six (13 * k + 7) n) = (s3, d + 1)) :
    s.run (plan k c n) = (s3, d + 1) := by
  unfold plan; simp only [CS.run, h1, if_true, CS.run_append, h2, h3]; simp

/-- A store: the record, the slot that has it (-1: none). -/
structure SR where
  c : Int
  n : Int
  k : Int
def SR.in (R : SR) : Prop := 0 ≤ R.c ∧ R.c ≤ 281474976710655 ∧ 0 ≤ R.n ∧ R.n ≤ 281474976710655 ∧ (R.k = -1 ∨ R.k = 0 ∨ R.k = 1)
/-- Is a slot better than what was found ahead of it? -/
def SR.beat (R : SR) (l : List Int) (k : Nat) : Bool := decide (l.getD (13 * k) 0 = 1 ∧ (R.k = -1 ∨ R.c + R.n < numAt l (13 * k + 1) + numAt l (13 * k + 7)))
def SR.step (R : SR) (l : List Int) (k : Nat) : SR := if R.beat l k = true then ⟨numAt l (13 * k + 1), numAt l (13 * k + 7), (k : Int)⟩ else R
def SR.none : SR := ⟨0, 0, -1⟩
def openOf (l : List Int) : SR := (SR.none.step l 0).step l 1
theorem SR.step_in {R : SR} (h : R.in) {l : List Int} (hl : By8 l) (k : Nat) (hk : k < 2) : (R.step l k).in := by
  unfold SR.step
  split
  · have h1 := numAt_range hl (13 * k + 1); have h2 := numAt_range hl (13 * k + 7)
    exact ⟨h1.1, h1.2, h2.1, h2.2, by simp only; omega⟩
  · exact h
theorem SR.none_in : SR.none.in := by unfold SR.in SR.none; simp
theorem openOf_in {l : List Int} (hl : By8 l) : (openOf l).in := SR.step_in (SR.step_in SR.none_in hl 0 (by omega)) hl 1 (by omega)
def SR.spare (R : SR) : Nat := if R.k = 0 then 1 else 0
/-- Why a record may not be saved (0: it may). -/
def SR.code (R : SR) (c n : Int) : Nat := if c < 0 ∨ n < 0 ∨ 281474976710655 < c ∨ 281474976710655 < n then 3 else if c < R.c ∨ n < R.n ∨ (c = R.c ∧ n = R.n) then 8 else 0
/-- A Save. -/
def SR.save (R : SR) (s : CS) (c n : Int) : CS × SR × Nat :=
  if R.code c n = 0 then
    (if (s.run (plan R.spare c n)).2 = 0 then ((s.run (plan R.spare c n)).1, ⟨c, n, (R.spare : Int)⟩, 0) else ((s.run (plan R.spare c n)).1, R, (s.run (plan R.spare c n)).2))
  else (s, R, R.code c n)
theorem SR.code_le (R : SR) (c n : Int) : R.code c n ≤ 8 := by unfold SR.code; split <;> (try split) <;> simp
theorem SR.save_code (R : SR) (s : CS) (c n : Int) : (R.save s c n).2.2 ≤ 8 := by
  unfold SR.save; split
  · split
    · simp
    · have := CS.run_code (plan R.spare c n) s; simp only; omega
  · exact R.code_le c n
theorem SR.save_l (R : SR) (s : CS) (c n : Int) : (R.save s c n).1.l.length = s.l.length := by
  unfold SR.save; split
  · split <;> exact CS.run_l _ _
  · rfl
theorem SR.save_n (R : SR) (s : CS) (c n : Int) : (R.save s c n).1.n ≤ s.n + 14 := by
  have := CS.run_n (plan R.spare c n) s
  rw [plan_len] at this
  unfold SR.save; split
  · split <;> (simp only; omega)
  · simp only; omega
theorem SR.save_by (R : SR) {s : CS} (h : By8 s.l) (c n : Int) : By8 (R.save s c n).1.l := by
  have := CS.run_by (plan R.spare c n) (plan_by _ _ _) s h
  unfold SR.save; split
  · split <;> exact this
  · exact h
theorem SR.save_in {R : SR} (h : R.in) (s : CS) (c n : Int) : (R.save s c n).2.1.in := by
  unfold SR.save; split
  · split
    · rename_i h0 _
      unfold SR.code at h0
      have : ¬ (c < 0 ∨ n < 0 ∨ 281474976710655 < c ∨ 281474976710655 < n) := by intro h1; rw [if_pos h1] at h0; omega
      refine ⟨by simp only; omega, by simp only; omega, by simp only; omega, by simp only; omega, ?_⟩
      unfold SR.spare; split <;> simp
    · exact h
  · exact h

/-- What a whole Save leaves. -/
theorem numAt_sets (l : List Int) (b0 b1 b2 b3 b4 b5 : Int) (i : Nat) (h0 : l.getD i 0 = b0) (h1 : l.getD (i+1) 0 = b1) (h2 : l.getD (i+2) 0 = b2) (h3 : l.getD (i+3) 0 = b3) (h4 : l.getD (i+4) 0 = b4) (h5 : l.getD (i+5) 0 = b5) :
    numAt l i = ((((b0 * 256 + b1) * 256 + b2) * 256 + b3) * 256 + b4) * 256 + b5 := by unfold numAt; rw [h0, h1, h2, h3, h4, h5]
theorem bytes_num (n : Int) (h0 : 0 ≤ n) (h1 : n ≤ 281474976710655) : ((((byteOf n 0 * 256 + byteOf n 1) * 256 + byteOf n 2) * 256 + byteOf n 3) * 256 + byteOf n 4) * 256 + byteOf n 5 = n := by
  have e0 : byteOf n 0 = n / 1099511627776 % 256 := rfl
  have e1 : byteOf n 1 = n / 4294967296 % 256 := rfl
  have e2 : byteOf n 2 = n / 16777216 % 256 := rfl
  have e3 : byteOf n 3 = n / 65536 % 256 := rfl
  have e4 : byteOf n 4 = n / 256 % 256 := rfl
  have e5 : byteOf n 5 = n / 1 % 256 := rfl
  rw [e0, e1, e2, e3, e4, e5]; omega
theorem full_slot (l : List Int) (k : Nat) (c n : Int) (hk : k < 2) (hl : 26 ≤ l.length) (hc : 0 ≤ c ∧ c ≤ 281474976710655) (hn : 0 ≤ n ∧ n ≤ 281474976710655) :
    (setAll l (plan k c n)).getD (13 * k) 0 = 1 ∧ numAt (setAll l (plan k c n)) (13 * k + 1) = c ∧ numAt (setAll l (plan k c n)) (13 * k + 7) = n := by
  have hk' : k = 0 ∨ k = 1 := by omega
  have key : ∀ m, m < 26 → m < l.length := fun m h => by omega
  refine ⟨?_, ?_, ?_⟩
  · rcases hk' with rfl | rfl <;> simp [setAll, plan, six, List.getD, key]
  · rw [numAt_sets _ (byteOf c 0) (byteOf c 1) (byteOf c 2) (byteOf c 3) (byteOf c 4) (byteOf c 5) (13 * k + 1), bytes_num c hc.1 hc.2]
    all_goals rcases hk' with rfl | rfl <;> simp [setAll, plan, six, List.getD, key]
  · rw [numAt_sets _ (byteOf n 0) (byteOf n 1) (byteOf n 2) (byteOf n 3) (byteOf n 4) (byteOf n 5) (13 * k + 7), bytes_num n hn.1 hn.2]
    all_goals rcases hk' with rfl | rfl <;> simp [setAll, plan, six, List.getD, key]
theorem plan_other (k o : Nat) (c n : Int) (_hk : k < 2) (_ho : o < 2) (hne : k ≠ o) (j : Nat) (hj : j < 13) : ∀ x ∈ plan k c n, x.1 ≠ 13 * o + j := by
  intro x hx; simp [plan, six] at hx; rcases hx with h | h | h | h | h | h | h | h | h | h | h | h | h | h <;> (subst h; simp only; omega)
/-- Two memories that have a slot alike. -/
def Alike (l l' : List Int) (o : Nat) : Prop := ∀ j, j < 13 → l'.getD (13 * o + j) 0 = l.getD (13 * o + j) 0
theorem Alike.step {l l' : List Int} {o : Nat} (h : Alike l l' o) (R : SR) : R.step l' o = R.step l o := by
  have e0 := h 0 (by omega)
  have e : ∀ i, i = 1 ∨ i = 7 → numAt l' (13 * o + i) = numAt l (13 * o + i) := by
    intro i hi
    unfold numAt
    rw [Nat.add_assoc, Nat.add_assoc, Nat.add_assoc, Nat.add_assoc, Nat.add_assoc]
    rw [h i (by omega), h (i+1) (by omega), h (i+2) (by omega), h (i+3) (by omega), h (i+4) (by omega), h (i+5) (by omega)]
  unfold SR.step SR.beat
  rw [show 13 * o + 0 = 13 * o from rfl] at e0
  rw [e0, e 1 (by omega), e 7 (by omega)]
theorem full_alike (l : List Int) (k o : Nat) (c n : Int) (hk : k < 2) (ho : o < 2) (hne : k ≠ o) : Alike l (setAll l (plan k c n)) o :=
  fun j hj => setAll_other _ _ (plan_other k o c n hk ho hne j hj) l
theorem part_alike (l : List Int) (k o : Nat) (c n : Int) (m : Nat) (hk : k < 2) (ho : o < 2) (hne : k ≠ o) : Alike l (setAll l ((plan k c n).take m)) o :=
  fun j hj => setAll_other _ _ (fun x hx => plan_other k o c n hk ho hne j hj x (List.mem_of_mem_take hx)) l
theorem part_mark (l : List Int) (k : Nat) (c n : Int) (m : Nat) (hk : k < 2) (hl : 26 ≤ l.length) (hm0 : 0 < m) (hm : m < 14) : (setAll l ((plan k c n).take m)).getD (13 * k) 0 = 0 := by
  obtain ⟨m, rfl⟩ : ∃ q, m = q + 1 := ⟨m - 1, by omega⟩
  have e : (plan k c n).take (m + 1) = (13 * k, 0) :: ((six (13 * k + 1) c ++ six (13 * k + 7) n).take m) := by
    unfold plan
    rw [List.take_succ_cons, ← List.append_assoc, List.take_append_of_le_length (by simp [six]; omega)]
  rw [e]
  have h2 : setAll l ((13 * k, 0) :: ((six (13 * k + 1) c ++ six (13 * k + 7) n).take m)) = setAll (l.set (13 * k) 0) ((six (13 * k + 1) c ++ six (13 * k + 7) n).take m) := rfl
  rw [h2, setAll_other]
  · have : 13 * k < l.length := by omega
    simp [List.getD, this]
  · intro x hx
    have hx' := List.mem_of_mem_take hx
    simp [six] at hx'
    rcases hx' with h | h | h | h | h | h | h | h | h | h | h | h <;> (subst h; simp only; omega)
theorem beat_one (R : SR) (l : List Int) (k : Nat) (h : l.getD (13 * k) 0 = 1) (h2 : R.k = -1 ∨ R.c + R.n < numAt l (13 * k + 1) + numAt l (13 * k + 7)) : R.step l k = ⟨numAt l (13 * k + 1), numAt l (13 * k + 7), (k : Int)⟩ := by
  unfold SR.step SR.beat; rw [if_pos (by simp only [decide_eq_true_eq]; exact ⟨h, h2⟩)]
theorem beat_no (R : SR) (l : List Int) (k : Nat) (h : ¬ l.getD (13 * k) 0 = 1) : R.step l k = R := by
  unfold SR.step SR.beat; rw [if_neg (by simp only [decide_eq_true_eq]; exact fun h' => h h'.1)]
theorem beat_less (R : SR) (l : List Int) (k : Nat) (h : ¬ R.k = -1) (h2 : ¬ R.c + R.n < numAt l (13 * k + 1) + numAt l (13 * k + 7)) : R.step l k = R := by
  unfold SR.step SR.beat; rw [if_neg (by simp only [decide_eq_true_eq]; exact fun h' => h'.2.elim h h2)]
theorem step_k (R : SR) (l : List Int) (k : Nat) : (R.step l k = R ∧ (¬ l.getD (13 * k) 0 = 1 ∨ (¬ R.k = -1 ∧ ¬ R.c + R.n < numAt l (13 * k + 1) + numAt l (13 * k + 7)))) ∨ ((R.step l k) = ⟨numAt l (13 * k + 1), numAt l (13 * k + 7), (k : Int)⟩ ∧ l.getD (13 * k) 0 = 1) := by
  by_cases h : l.getD (13 * k) 0 = 1
  · by_cases h2 : R.k = -1 ∨ R.c + R.n < numAt l (13 * k + 1) + numAt l (13 * k + 7)
    · exact .inr ⟨beat_one R l k h h2, h⟩
    · exact .inl ⟨beat_less R l k (fun e => h2 (.inl e)) (fun e => h2 (.inr e)), .inr ⟨fun e => h2 (.inl e), fun e => h2 (.inr e)⟩⟩
  · exact .inl ⟨beat_no R l k h, .inl h⟩
/-- What Open found, by the slot that has it. -/
theorem open_cases (l : List Int) : (openOf l = SR.none ∧ ¬ l.getD 0 0 = 1 ∧ ¬ l.getD 13 0 = 1) ∨ (openOf l = SR.none.step l 0 ∧ (openOf l).k = 0 ∧ l.getD 0 0 = 1) ∨ (openOf l = ⟨numAt l 14, numAt l 20, 1⟩ ∧ l.getD 13 0 = 1) := by
  rcases step_k (SR.none.step l 0) l 1 with ⟨h, h'⟩ | ⟨h, h'⟩
  · rcases step_k SR.none l 0 with ⟨g, g'⟩ | ⟨g, g'⟩
    · have e0 : ¬ l.getD 0 0 = 1 := by
        rcases g' with g' | g'
        · exact g'
        · exact absurd rfl g'.1
      have e1 : ¬ l.getD 13 0 = 1 := by
        rcases h' with h' | h'
        · exact h'
        · rw [g] at h'; exact absurd rfl h'.1
      exact .inl ⟨by unfold openOf; rw [h, g], e0, e1⟩
    · exact .inr (.inl ⟨h, by unfold openOf; rw [h, g]; rfl, g'⟩)
  · exact .inr (.inr ⟨h, h'⟩)
theorem open_full (l : List Int) (c n : Int) (hl : 26 ≤ l.length) (hc : (openOf l).code c n = 0) : openOf (setAll l (plan (openOf l).spare c n)) = ⟨c, n, ((openOf l).spare : Int)⟩ := by
  have hr : (0 ≤ c ∧ c ≤ 281474976710655) ∧ (0 ≤ n ∧ n ≤ 281474976710655) ∧ ¬ c < (openOf l).c ∧ ¬ n < (openOf l).n ∧ ¬ (c = (openOf l).c ∧ n = (openOf l).n) := by
    unfold SR.code at hc
    split at hc
    · omega
    · split at hc
      · omega
      · omega
  obtain ⟨hc0, hn0, h1, h2, h3⟩ := hr
  rcases open_cases l with ⟨e, m0, m1⟩ | ⟨e, ek, m0⟩ | ⟨e, m1⟩
  · have hs : (openOf l).spare = 0 := by rw [e]; rfl
    rw [hs]
    obtain ⟨f1, f2, f3⟩ := full_slot l 0 c n (by omega) hl hc0 hn0
    have ha := full_alike l 0 1 c n (by omega) (by omega) (by omega)
    have g0 := beat_one SR.none _ 0 f1 (.inl rfl)
    rw [f2, f3] at g0
    unfold openOf
    rw [g0, ha.step, beat_no _ _ _ m1]
  · have hs : (openOf l).spare = 1 := by unfold SR.spare; rw [if_pos ek]
    rw [hs]
    obtain ⟨f1, f2, f3⟩ := full_slot l 1 c n (by omega) hl hc0 hn0
    have ha := full_alike l 1 0 c n (by omega) (by omega) (by omega)
    have g1 := beat_one (SR.none.step l 0) _ 1 f1 (.inr (by rw [f2, f3, ← e]; omega))
    rw [f2, f3] at g1
    unfold openOf
    rw [ha.step, g1]
  · have hs : (openOf l).spare = 0 := by rw [e]; rfl
    rw [hs]
    obtain ⟨f1, f2, f3⟩ := full_slot l 0 c n (by omega) hl hc0 hn0
    have ha := full_alike l 0 1 c n (by omega) (by omega) (by omega)
    have g0 := beat_one SR.none _ 0 f1 (.inl rfl)
    rw [f2, f3] at g0
    rw [e] at h1 h2 h3
    unfold openOf
    simp only at h1 h2 h3
    have g1 := beat_less ⟨c, n, ((0 : Nat) : Int)⟩ l 1 (by show ¬ (0 : Int) = -1; omega) (by show ¬ c + n < numAt l 14 + numAt l 20; omega)
    rw [g0, ha.step, g1]
theorem open_part (l : List Int) (c n : Int) (m : Nat) (hl : 26 ≤ l.length) (hm : m < 14) : openOf (setAll l ((plan (openOf l).spare c n).take m)) = openOf l := by
  by_cases h0 : m = 0
  · subst h0; rfl
  rcases open_cases l with ⟨e, m0, m1⟩ | ⟨e, ek, m0⟩ | ⟨e, m1⟩
  · have hs : (openOf l).spare = 0 := by rw [e]; rfl
    rw [hs]
    have f := part_mark l 0 c n m (by omega) hl (by omega) hm
    have ha := part_alike l 0 1 c n m (by omega) (by omega) (by omega)
    rw [e]
    obtain ⟨L, hL⟩ : ∃ L, L = setAll l ((plan 0 c n).take m) := ⟨_, rfl⟩
    rw [← hL] at f ha ⊢
    have g0 := beat_no SR.none L 0 (by rw [f]; omega)
    unfold openOf
    rw [g0, ha.step, beat_no SR.none l 1 m1]
  · have hs : (openOf l).spare = 1 := by unfold SR.spare; rw [if_pos ek]
    rw [hs]
    have f := part_mark l 1 c n m (by omega) hl (by omega) hm
    have ha := part_alike l 1 0 c n m (by omega) (by omega) (by omega)
    rw [e]
    obtain ⟨L, hL⟩ : ∃ L, L = setAll l ((plan 1 c n).take m) := ⟨_, rfl⟩
    rw [← hL] at f ha ⊢
    have g0 := beat_no (SR.none.step l 0) L 1 (by rw [f]; omega)
    unfold openOf
    rw [ha.step, g0]
  · have hs : (openOf l).spare = 0 := by rw [e]; rfl
    rw [hs]
    have f := part_mark l 0 c n m (by omega) hl (by omega) hm
    have ha := part_alike l 0 1 c n m (by omega) (by omega) (by omega)
    rw [e]
    obtain ⟨L, hL⟩ : ∃ L, L = setAll l ((plan 0 c n).take m) := ⟨_, rfl⟩
    rw [← hL] at f ha ⊢
    have g0 := beat_no SR.none L 0 (by rw [f]; omega)
    unfold openOf
    rw [g0, ha.step]
    exact beat_one SR.none l 1 m1 (.inl rfl)
end Go.Proofs.YthiimkjhlndcoaaDoor
