import Derived.Test.YtiflmkicnkbeaaaGreatDoorZp02
import Derived.Deep.AppendLies
import Derived.Deep.DeepCutAuto
import Derived.Deep.CutBlock
namespace Go.Proofs.YtiflmkicnkbeaaaGreatDoor
open Go.RowKit
def HB (w : World) (v : Value) (l : List (Int × Int)) : Prop :=
 ∃ a cap, v = .slice a l.length cap ∧ (l.length ≤ cap ∧ (a = none → cap = 0)) ∧ cap ≤ maxLen ∧ (0 < l.length → ∃ b off, a = some ⟨b, off, none⟩ ∧ ∀ i, i < l.length →
   w.cell? ⟨b, off + i * 2, none⟩ = some (.int .i64 (l.getD i (0, 0)).1) ∧ w.cell? ⟨b, off + i * 2 + 1, none⟩ = some (.int .i64 (l.getD i (0, 0)).2))
theorem HB.shape {w : World} {v : Value} {l : List (Int × Int)} (h : HB w v l) : ∃ a cap, v = .slice a l.length cap := by
 obtain ⟨a, cap, h, _⟩ := h; exact ⟨a, cap, h⟩
theorem HB.fr {w w' : World} {v : Value} {l : List (Int × Int)} {S : List Nat} (h : HB w v l) (hg : Fr w w' S) (hne : ∀ r ∈ S, v.ownBlock ≠ some r) : HB w' v l := by
 obtain ⟨a, cap, rfl, h1, h2, h3⟩ := h
 refine ⟨a, cap, rfl, h1, h2, fun h0 => ?_⟩
 obtain ⟨b, off, rfl, hc⟩ := h3 h0
 exact ⟨b, off, rfl, fun i hi => ⟨hg.cell (hc i hi).1 (fun hm => hne b hm rfl), hg.cell (hc i hi).2 (fun hm => hne b hm rfl)⟩⟩
theorem HB.keep {w w' : World} {v : Value} {l : List (Int × Int)} (h : HB w v l) (hg : Fr w w' []) : HB w' v l := h.fr hg (by simp)
def bdc (l : List (Int × Int)) : List Value := l.flatMap fun b => [.int .i64 b.1, .int .i64 b.2]
def OwnB (w : World) (B : Nat) (v : Value) (l : List (Int × Int)) : Prop := w.ownsRow B 123 2 v l.length (bdc l)
theorem brow {w : World} {g : Nat} {a b : Value} {T : TypeId} (h : w.heap[g]? = some (.cells #[a, b] T (0, 0))) : w.cell? ⟨g, 0, none⟩ = some a ∧ w.cell? ⟨g, 1, none⟩ = some b :=
 ⟨by rw [cell_of_row w g 0 _ _ _ h]; rfl, by rw [cell_of_row w g 1 _ _ _ h]; rfl⟩
end Go.Proofs.YtiflmkicnkbeaaaGreatDoor
namespace Go.Proofs.YtiflmkicnkbeaaaGreatDoor
open Go.RowKit
def B2 (b o1 o2 : Nat) (x y : Int × Int) (a : World) : Prop :=
 (a.cell? ⟨b, o1, none⟩ = some (.int .i64 x.1) ∧ a.cell? ⟨b, o1 + 1, none⟩ = some (.int .i64 x.2)) ∧ a.cell? ⟨b, o2, none⟩ = some (.int .i64 y.1) ∧ a.cell? ⟨b, o2 + 1, none⟩ = some (.int .i64 y.2)
end Go.Proofs.YtiflmkicnkbeaaaGreatDoor
namespace Go.Proofs.YtiflmkicnkbeaaaGreatDoor
namespace Fm
open Go.RowKit
structure En where
 fl : Int
 di : Int
 ge : Int
 bs : List (Int × Int)
 aw : Int
structure Rg where
 co : Int
 fo : Int
 ho : Int
 ms : List Int
 es : List En
theorem Rg.ext' {a b : Rg} (h1 : a.co = b.co) (h2 : a.fo = b.fo) (h3 : a.ho = b.ho) (h4 : a.ms = b.ms) (h5 : a.es = b.es) : a = b := by
 cases a; cases b; simp only at *; subst h1 h2 h3 h4 h5; rfl
def zeroE : En := ⟨0, 0, 0, [], 0⟩
def zeroR : Rg := ⟨0, 0, 0, [], []⟩
def Car (n : Int) : Prop := 0 ≤ n ∧ n < 16
instance (n : Int) : Decidable (Car n) := by unfold Car; exact inferInstance
def Rise (l : List Int) : Prop := ∀ i, i < l.length - 1 → l.getD i 0 < l.getD (i + 1) 0
instance (l : List Int) : Decidable (Rise l) := by unfold Rise; exact inferInstance
def BidsOk (ms : List Int) (bs : List (Int × Int)) : Prop := ∀ b ∈ bs, b.1 ∈ ms ∧ 0 ≤ b.2 ∧ b.2 ≤ 1048576
instance (ms : List Int) (bs : List (Int × Int)) : Decidable (BidsOk ms bs) := by unfold BidsOk; exact inferInstance
def bidsC (ms : List Int) (bs : List (Int × Int)) : Nat :=
 if ms.length < bs.length then 4 else if ¬ BidsOk ms bs then 3 else if ¬ Rise (bs.map (·.1)) then 11 else 0
def LatchOk (e : En) : Prop := 0 ≤ e.fl ∧ e.fl < 64 ∧ (e.di = 1 ∨ e.di = -1) ∧ 1 ≤ e.ge ∧ e.ge ≤ 2147483647
instance (e : En) : Decidable (LatchOk e) := by unfold LatchOk; exact inferInstance
def Less (a b : En) : Prop := a.fl < b.fl ∨ a.fl = b.fl ∧ a.di < b.di
instance (a b : En) : Decidable (Less a b) := by unfold Less; exact inferInstance
def After : Option En → En → Prop
 | none, _ => True
 | some q, e => Less q e
instance (p : Option En) (e : En) : Decidable (After p e) := by cases p <;> (unfold After; exact inferInstance)
def entC (ms : List Int) (p : Option En) (e : En) : Nat :=
 if ¬ (LatchOk e ∧ (e.aw = -1 ∨ e.aw ∈ ms)) then 3 else if ¬ After p e then 11 else bidsC ms e.bs
def entsC (ms : List Int) : Option En → List En → Nat
 | _, [] => 0
 | p, e :: es => if entC ms p e = 0 then entsC ms (some e) es else entC ms p e
def HeadOk (r : Rg) : Prop := (1 ≤ r.co ∧ r.co ≤ 4294967295 ∧ 0 ≤ r.fo ∧ r.fo < 16) ∧ 0 ≤ r.ho ∧ r.ho ≤ 1099511627776
instance (r : Rg) : Decidable (HeadOk r) := by unfold HeadOk; exact inferInstance
def membC (ms : List Int) : Nat := if ¬ (∀ m ∈ ms, Car m) then 3 else if ¬ Rise ms then 11 else 0
def ringC (r : Rg) : Nat :=
 if ¬ HeadOk r then 3 else if 16 < r.ms.length ∨ r.ms.length = 0 ∨ 128 < r.es.length then 4
 else if membC r.ms = 0 then entsC r.ms none r.es else membC r.ms
end Fm
end Go.Proofs.YtiflmkicnkbeaaaGreatDoor
namespace Go.Proofs.YtiflmkicnkbeaaaGreatDoor
open Go.RowKit Fm
def HE (w : World) (v : Value) (l : List En) : Prop :=
 ∃ a cap, v = .slice a l.length cap ∧ (l.length ≤ cap ∧ (a = none → cap = 0)) ∧ cap ≤ maxLen ∧ (0 < l.length → ∃ b off, a = some ⟨b, off, none⟩ ∧ ∀ i, i < l.length → ∃ vb,
   w.cell? ⟨b, off + i * 5, none⟩ = some (.int .i64 (l.getD i zeroE).fl) ∧ w.cell? ⟨b, off + i * 5 + 1, none⟩ = some (.int .i64 (l.getD i zeroE).di) ∧
   w.cell? ⟨b, off + i * 5 + 2, none⟩ = some (.int .i64 (l.getD i zeroE).ge) ∧ w.cell? ⟨b, off + i * 5 + 3, none⟩ = some vb ∧
   w.cell? ⟨b, off + i * 5 + 4, none⟩ = some (.int .i64 (l.getD i zeroE).aw) ∧ HB w vb (l.getD i zeroE).bs)
def enV (e : En) (vb : Value) : Value := .agg #[.int .i64 e.fl, .int .i64 e.di, .int .i64 e.ge, vb, .int .i64 e.aw]
def rgV (r : Rg) (vm ve : Value) : Value := .agg #[.int .i64 r.co, .int .i64 r.fo, .int .i64 r.ho, vm, ve]
theorem HE.shape {w : World} {v : Value} {l : List En} (h : HE w v l) : ∃ a cap, v = .slice a l.length cap := by
 obtain ⟨a, cap, h, _⟩ := h; exact ⟨a, cap, h⟩
theorem HE.keep {w w' : World} {v : Value} {l : List En} (h : HE w v l) (hg : Fr w w' []) : HE w' v l := by
 obtain ⟨a, cap, rfl, h1, h2, h3⟩ := h
 refine ⟨a, cap, rfl, h1, h2, fun h0 => ?_⟩
 obtain ⟨b, off, rfl, hc⟩ := h3 h0
 refine ⟨b, off, rfl, fun i hi => ?_⟩
 obtain ⟨vb, c0, c1, c2, c3, c4, hb⟩ := hc i hi
 exact ⟨vb, hg.cell c0 (by simp), hg.cell c1 (by simp), hg.cell c2 (by simp), hg.cell c3 (by simp), hg.cell c4 (by simp), hb.keep hg⟩
theorem nil_ents {w : World} : HE w (.slice none 0 0) [] := ⟨none, 0, rfl, by simp, by decide, fun h => absurd h (by simp)⟩
theorem row5 {w : World} {g : Nat} {a b c d e : Value} {T : TypeId} (h : w.heap[g]? = some (.cells #[a, b, c, d, e] T (0, 0))) :
 w.cell? ⟨g, 0, none⟩ = some a ∧ w.cell? ⟨g, 1, none⟩ = some b ∧ w.cell? ⟨g, 2, none⟩ = some c ∧ w.cell? ⟨g, 3, none⟩ = some d ∧ w.cell? ⟨g, 4, none⟩ = some e :=
 ⟨by rw [cell_of_row w g 0 _ _ _ h]; rfl, by rw [cell_of_row w g 1 _ _ _ h]; rfl, by rw [cell_of_row w g 2 _ _ _ h]; rfl, by rw [cell_of_row w g 3 _ _ _ h]; rfl, by rw [cell_of_row w g 4 _ _ _ h]; rfl⟩
theorem two_boxes (w : World) (o1 o2 : Obj) : ((w.alloc o1).alloc o2).heap[w.heap.size]? = some o1 ∧ ((w.alloc o1).alloc o2).heap[w.heap.size + 1]? = some o2 := by
 refine ⟨(Fr.alloc (w.alloc o1) o2 []).heap (heap_alloc_new w o1) (by simp), ?_⟩
 have h := heap_alloc_new (w.alloc o1) o2
 rwa [show (w.alloc o1).heap.size = w.heap.size + 1 by simp] at h
def enc1 (x : En × Value) : List Value := [.int .i64 x.1.fl, .int .i64 x.1.di, .int .i64 x.1.ge, x.2, .int .i64 x.1.aw]
def encs (xs : List (En × Value)) : List Value := xs.flatMap enc1
def OwnE (w : World) (B : Nat) (v : Value) (xs : List (En × Value)) : Prop := w.ownsRow B 121 5 v xs.length (encs xs) ∧ ∀ x ∈ xs, OwnB w B x.2 x.1.bs
theorem OwnE.fr {w w' : World} {B : Nat} {v : Value} {xs : List (En × Value)} (h : OwnE w B v xs) {S : List Nat} (hg : Fr w w' S) (hS : ∀ r ∈ S, ∃ cs T, w.heap[r]? = some (.cells cs T (0, 0)) ∧ T ≠ 121 ∧ T ≠ 123) : OwnE w' B v xs :=
 ⟨row_fr h.1 hg (fun r hr => by obtain ⟨cs, T, hc, h1, h2⟩ := hS r hr; exact row_ne h.1 hc h1), fun x hx => row_fr (h.2 x hx) hg (fun r hr => by obtain ⟨cs, T, hc, h1, h2⟩ := hS r hr; exact row_ne (h.2 x hx) hc h2)⟩
theorem OwnE.mono {w : World} {B B' : Nat} {v : Value} {xs : List (En × Value)} (h : OwnE w B v xs) (hB : B' ≤ B) : OwnE w B' v xs := ⟨row_mono h.1 hB, fun x hx => row_mono (h.2 x hx) hB⟩
def HX (w : World) (v : Value) (xs : List (En × Value)) : Prop :=
 ∃ a cap, v = .slice a xs.length cap ∧ xs.length ≤ cap ∧ cap ≤ maxLen ∧ (a = none → xs = []) ∧ (∀ x, a = some x → ∀ j u, (encs xs)[j]? = some u → w.cell? (x.add j) = some u) ∧ ∀ x ∈ xs, HB w x.2 x.1.bs
theorem OwnE.nil (w : World) (B : Nat) : OwnE w B (.slice none 0 0) [] := ⟨⟨rfl, .inl ⟨rfl, rfl⟩⟩, by simp⟩
theorem OwnE.shape {w : World} {B : Nat} {v : Value} {xs : List (En × Value)} (h : OwnE w B v xs) : ∃ a c, v = .slice a xs.length c := row_shape h.1
def HR (w : World) (v : Value) (r : Rg) : Prop := ∃ vm ve, v = rgV r vm ve ∧ HInts w vm r.ms ∧ HE w ve r.es
end Go.Proofs.YtiflmkicnkbeaaaGreatDoor
