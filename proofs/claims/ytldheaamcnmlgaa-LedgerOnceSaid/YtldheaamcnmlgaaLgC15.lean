/- Package ledger: its eight functions answer what the laws ask. -/
import Derived.Test.YtldheaamcnmlgaaLgC14
namespace Go.Proofs.Ytldheaamcnmlgaa
open Go.RowKit Fm

theorem small_bs {r : Rg} (h : Small r) : r.ms.length ≤ 1000 ∧ r.es.length ≤ 1000 ∧ ∀ e ∈ r.es, e.bs.length ≤ 1000 :=
  ⟨by have := h.1; omega, by have := h.2.1; omega, fun e he => by have := h.2.2 e he; omega⟩
theorem lg_is : LgIs where
  new := fun co fo v l w h hl => new_any co fo v l w h (by omega)
  purge := fun r vm ve vl L w hm he hs hl hll => purge_any r vm ve vl L w hm he (small_bs hs).1 (small_bs hs).2.1 (small_bs hs).2.2 hl (by omega)
  add := fun r vm ve vl L w hm he hs hl hll => add_any r vm ve vl L w hm he (small_bs hs).1 (small_bs hs).2.1 (small_bs hs).2.2 hl (by omega)
  wants := fun r vm ve car w hm he hs => wants_any r vm ve car w hm he (small_bs hs).1 (small_bs hs).2.1 (small_bs hs).2.2
  bid := fun r vm ve b f d w hm he hs => bid_any r vm ve b f d w hm he (small_bs hs).1 (small_bs hs).2.1 (small_bs hs).2.2
  award := fun r vm ve w hm he hs => award_any r vm ve w hm he (small_bs hs).1 (small_bs hs).2.1 (small_bs hs).2.2
  mine := fun r vm ve car w hm he hs ha => mine_any r vm ve car w hm he (small_bs hs).1 (small_bs hs).2.1 (small_bs hs).2.2 ha
  pass := fun r vm ve w hm he hs hh => pass_any r vm ve w hm he (small_bs hs).1 (small_bs hs).2.1 (small_bs hs).2.2 hh
theorem lf_any (w : World) : Calls Try.prog 8 #[] w fun e w' => e = .returned (.bool true) ∧ Fr w w' [] := lfirst_any lg_is w
end Go.Proofs.Ytldheaamcnmlgaa
