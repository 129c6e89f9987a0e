/- What a copy of a frame is changed to; what stands at the end of the law. -/
import Derived.Test.YtpeocdcciecpoaaDoorFClone2
import Derived.Deep.RegionHeld3
namespace Go.Proofs.YtpeocdcciecpoaaDoor
open Go.RowKit Fm

/-- A frame by its cells. -/
def C11 (a : World) (b : Nat) (f : F) (vm ve : Value) : Prop :=
  a.cell? ⟨b, 0, none⟩ = some (.int .i64 f.ki) ∧ a.cell? ⟨b, 1, none⟩ = some (.int .i64 f.fr) ∧ a.cell? ⟨b, 2, none⟩ = some (.int .i64 f.to) ∧ a.cell? ⟨b, 3, none⟩ = some (.int .i64 f.li) ∧ a.cell? ⟨b, 4, none⟩ = some (.int .i64 f.se) ∧ a.cell? ⟨b, 5, none⟩ = some (.bool f.ou) ∧
  a.cell? ⟨b, 6, none⟩ = some (.int .i64 f.rg.co) ∧ a.cell? ⟨b, 7, none⟩ = some (.int .i64 f.rg.fo) ∧ a.cell? ⟨b, 8, none⟩ = some (.int .i64 f.rg.ho) ∧ a.cell? ⟨b, 9, none⟩ = some vm ∧ a.cell? ⟨b, 10, none⟩ = some ve
theorem C11.keep {a c : World} {b : Nat} {f : F} {vm ve : Value} (h : C11 a b f vm ve) (k : Fr a c []) : C11 c b f vm ve := by
  obtain ⟨h0, h1, h2, h3, h4, h5, h6, h7, h8, h9, h10⟩ := h
  exact ⟨k.cell h0 (by simp), k.cell h1 (by simp), k.cell h2 (by simp), k.cell h3 (by simp), k.cell h4 (by simp), k.cell h5 (by simp), k.cell h6 (by simp), k.cell h7 (by simp), k.cell h8 (by simp), k.cell h9 (by simp), k.cell h10 (by simp)⟩
theorem C11.of {a : World} {b : Nat} {f : F} {vm ve : Value} (h : a.heap[b]? = some (.cells #[.int .i64 f.ki, .int .i64 f.fr, .int .i64 f.to, .int .i64 f.li, .int .i64 f.se, .bool f.ou, .int .i64 f.rg.co, .int .i64 f.rg.fo, .int .i64 f.rg.ho, vm, ve] 29 (0, 0))) : C11 a b f vm ve := row11 h
/-- What stands at the law's end: two frames in boxes. -/
def OwnS (b1 b2 : Nat) (f1 f2 : F) (m1 e1 m2 e2 : Value) (a : World) : Prop := C11 a b1 f1 m1 e1 ∧ C11 a b2 f2 m2 e2
theorem OwnS.keep {b1 b2 : Nat} {f1 f2 : F} {m1 e1 m2 e2 : Value} {a c : World} (h : OwnS b1 b2 f1 f2 m1 e1 m2 e2 a) (k : Fr a c []) : OwnS b1 b2 f1 f2 m1 e1 m2 e2 c := ⟨h.1.keep k, h.2.keep k⟩

theorem row_n {w : World} {B sz n m g c : Nat} {T : TypeId} {xs : List Value} (h : w.ownsRow B T sz (.slice (some ⟨g, 0, none⟩) m c) n xs) : m = n := by
  obtain ⟨a, c', he⟩ := row_shape h
  simp only [Value.slice.injEq] at he
  exact he.2.1
theorem row_at {w : World} {B sz n m g c : Nat} {T : TypeId} {xs : List Value} (h : w.ownsRow B T sz (.slice (some ⟨g, 0, none⟩) m c) n xs) : ∃ cs, w.heap[g]? = some (.cells cs T (0, 0)) := by
  rcases h.2 with ⟨h, _⟩ | ⟨g', cap', cur, h, _, hg, _⟩
  · simp at h
  · simp only [Value.slice.injEq, Option.some.injEq, Addr.mk.injEq, and_true, true_and] at h
    obtain ⟨rfl, _⟩ := h
    exact ⟨cur, hg⟩
theorem OwnI.put {w : World} {B g n c : Nat} {l : List Int} (h : OwnI w B (.slice (some ⟨g, 0, none⟩) n c) l) (k : Nat) (x : Int) :
    OwnI (w.setCell ⟨g, k, none⟩ (.int .i64 x)) B (.slice (some ⟨g, 0, none⟩) n c) (l.set k x) := by
  obtain rfl := row_n h
  have h2 := (World.ownsRow.stored h k (.int .i64 x)).1
  unfold OwnI
  rw [List.length_set, show i64s (l.set k x) = (i64s l).set k (.int .i64 x) by simp [i64s, List.map_set]]
  exact h2
/-- The first entry's award is another one. -/
def awardOf (x : Int) : List (En × Value) → List (En × Value)
  | [] => []
  | y :: l => ({ y.1 with aw := x }, y.2) :: l
theorem encs_cons (y : En × Value) (l : List (En × Value)) : encs (y :: l) = .int .i64 y.1.fl :: .int .i64 y.1.di :: .int .i64 y.1.ge :: y.2 :: .int .i64 y.1.aw :: encs l := by simp [encs, enc1]
theorem encs_award (x : Int) (xs : List (En × Value)) (h : 0 < xs.length) : encs (awardOf x xs) = (encs xs).set 4 (.int .i64 x) := by
  cases xs with
  | nil => simp at h
  | cons y l => rw [awardOf, encs_cons, encs_cons]; simp
theorem award_len (x : Int) (xs : List (En × Value)) : (awardOf x xs).length = xs.length := by cases xs <;> simp [awardOf]
theorem OwnE.award {w : World} {B g n c : Nat} {xs : List (En × Value)} (h : OwnE w B (.slice (some ⟨g, 0, none⟩) n c) xs) (x : Int) (h0 : 0 < xs.length) :
    OwnE (w.setCell ⟨g, 4, none⟩ (.int .i64 x)) B (.slice (some ⟨g, 0, none⟩) n c) (awardOf x xs) := by
  obtain rfl := row_n h.1
  obtain ⟨cs, hcs⟩ := row_at h.1
  refine ⟨?_, fun y hy => ?_⟩
  · rw [award_len, encs_award x xs h0]
    exact (World.ownsRow.stored h.1 4 (.int .i64 x)).1
  · have key : ∀ z ∈ xs, OwnB (w.setCell ⟨g, 4, none⟩ (.int .i64 x)) B z.2 z.1.bs := fun z hz =>
      row_fr (h.2 z hz) (Fr.setCell w g 4 (.int .i64 x) (S := [g]) (by simp)) (by intro r hr; obtain rfl := List.mem_singleton.1 hr; exact row_ne (h.2 z hz) hcs (by decide))
    cases xs with
    | nil => simp at h0
    | cons z l =>
      rcases List.mem_cons.1 hy with rfl | hy
      · exact key z (by simp)
      · exact key y (by simp [hy])
/-- The first bid's ticks are others. -/
def bumpB (t : Int) : List (Int × Int) → List (Int × Int)
  | [] => []
  | b :: l => (b.1, t) :: l
def bumpX (g : Nat) (t : Int) (x : En × Value) : En × Value := if x.2.ownBlock = some g then ({ x.1 with bs := bumpB t x.1.bs }, x.2) else x
theorem bump_len (t : Int) (l : List (Int × Int)) : (bumpB t l).length = l.length := by cases l <;> simp [bumpB]
theorem bdc_bump (t : Int) (l : List (Int × Int)) : bdc (bumpB t l) = (bdc l).set 1 (.int .i64 t) := by
  cases l with
  | nil => simp [bumpB, bdc]
  | cons b l => simp [bumpB, bdc]
theorem enc1_bump (g : Nat) (t : Int) (x : En × Value) : enc1 (bumpX g t x) = enc1 x := by unfold bumpX; split <;> rfl
theorem encs_bump (g : Nat) (t : Int) (xs : List (En × Value)) : encs (xs.map (bumpX g t)) = encs xs := by
  simp only [encs, List.flatMap_map]
  congr 1
  funext x
  exact enc1_bump g t x
theorem OwnB.bump {w : World} {B g n c : Nat} {l : List (Int × Int)} (h : OwnB w B (.slice (some ⟨g, 0, none⟩) n c) l) (t : Int) :
    OwnB (w.setCell ⟨g, 1, none⟩ (.int .i64 t)) B (.slice (some ⟨g, 0, none⟩) n c) (bumpB t l) := by
  obtain rfl := row_n h
  have h2 := (World.ownsRow.stored h 1 (.int .i64 t)).1
  unfold OwnB
  rw [bump_len, bdc_bump]
  exact h2
theorem OwnE.bump {w : World} {B g : Nat} {v : Value} {xs : List (En × Value)} (h : OwnE w B v xs) {cs : Array Value} (hg : w.heap[g]? = some (.cells cs 63 (0, 0))) (t : Int) :
    OwnE (w.setCell ⟨g, 1, none⟩ (.int .i64 t)) B v (xs.map (bumpX g t)) := by
  have S := Fr.setCell w g 1 (.int .i64 t) (S := [g]) (by simp)
  refine ⟨?_, fun y hy => ?_⟩
  · rw [List.length_map, encs_bump]
    exact row_fr h.1 S (by intro r hr; obtain rfl := List.mem_singleton.1 hr; exact row_ne h.1 hg (by decide))
  · obtain ⟨x, hx, rfl⟩ := List.mem_map.1 hy
    have hb := h.2 x hx
    unfold bumpX
    split
    · next he =>
      rcases hb.2 with ⟨h1, _⟩ | ⟨g', cap', cur, h1, _⟩
      · rw [h1] at he; simp [Value.ownBlock] at he
      · obtain ⟨e, u⟩ := x
        simp only at h1 he hb ⊢
        subst h1
        obtain rfl : g' = g := by simpa [Value.ownBlock] using he
        exact OwnB.bump hb t
    · next he =>
      exact row_fr hb S (by intro r hr; obtain rfl := List.mem_singleton.1 hr; exact he)
/-- Frames that are changed are others. -/
theorem ms_ne (f : F) (ms : List Int) (h : ms ≠ f.rg.ms) : ({ f with rg := { f.rg with ms := ms } } : F) ≠ f := fun e => h (congrArg (fun g => g.rg.ms) e)
theorem es_ne (f : F) (es : List En) (h : es ≠ f.rg.es) : ({ f with rg := { f.rg with es := es } } : F) ≠ f := fun e => h (congrArg (fun g => g.rg.es) e)
theorem ho_ne (f : F) (ho : Int) (h : ho ≠ f.rg.ho) : ({ f with rg := { f.rg with ho := ho } } : F) ≠ f := fun e => h (congrArg (fun g => g.rg.ho) e)
theorem set_ne (l : List Int) (h : 0 < l.length) (x : Int) (hx : x ≠ l.getD 0 0) : l.set 0 x ≠ l := by
  intro e
  have := congrArg (fun l => l.getD 0 0) e
  cases l with
  | nil => simp at h
  | cons y l => simp at this hx; exact hx this
theorem award_ne (xs : List (En × Value)) (h : 0 < xs.length) (x : Int) (hx : ∀ y, xs[0]? = some y → x ≠ y.1.aw) : (awardOf x xs).map (·.1) ≠ xs.map (·.1) := by
  intro e
  cases xs with
  | nil => simp at h
  | cons y l =>
    simp only [awardOf, List.map_cons, List.cons.injEq] at e
    exact hx y rfl (congrArg (·.aw) e.1)
theorem bump_ne (xs : List (En × Value)) (g : Nat) (t : Int) (y : En × Value) (b : Int × Int) (l : List (Int × Int)) (h : xs[0]? = some y) (hb : y.1.bs = b :: l) (hg : y.2.ownBlock = some g) (ht : t ≠ b.2) : (xs.map (bumpX g t)).map (·.1) ≠ xs.map (·.1) := by
  intro e
  cases xs with
  | nil => simp at h
  | cons z l' =>
    simp only [List.getElem?_cons_zero, Option.some.injEq] at h
    subst h
    simp only [List.map_cons, List.cons.injEq] at e
    have h1 := congrArg (·.bs) e.1
    simp only [bumpX, if_pos hg, hb, bumpB, List.cons.injEq] at h1
    exact ht (congrArg Prod.snd h1.1)
theorem token_ok {f : F} (hc : frameC f = 0) (hk : f.ki = 2) : RgOk f.rg ∧ 0 < f.rg.ms.length := by
  obtain ⟨_, h⟩ := frameC_cases hc
  rcases h with ⟨h1, _⟩ | ⟨_, _, _, _, hr⟩
  · omega
  · refine ⟨ringC_ok hr, ?_⟩
    unfold ringC at hr
    split at hr
    · cases hr
    · split at hr
      · cases hr
      · next h => omega
end Go.Proofs.YtpeocdcciecpoaaDoor
