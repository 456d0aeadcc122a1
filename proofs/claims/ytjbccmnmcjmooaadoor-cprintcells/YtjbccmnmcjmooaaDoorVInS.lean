/- Strings that are handed in. -/
import Derived.Test.YtjbccmnmcjmooaaDoorVBase
namespace Go.Proofs.YtjbccmnmcjmooaaDoor
open Go.RowKit

/-- strings that are handed in -/
def InS (w : World) (ks : List ByteArray) (v : Value) : Prop := ∃ (a : Addr), SlOf v a ks.length ∧ ∀ i c, ks[i]? = some c → w.cell? (a.add i) = some (.string c) ∧ c.size ≤ maxLen
theorem InS.onto {w w' : World} {ks : List ByteArray} {v : Value} (h : InS w ks v) (hb : Below w.heap.size w w') : InS w' ks v := by
  obtain ⟨a, h1, h2⟩ := h
  exact ⟨a, h1, fun i c hc => ⟨keepCell hb (h2 i c hc).1, (h2 i c hc).2⟩⟩
end Go.Proofs.YtjbccmnmcjmooaaDoor
