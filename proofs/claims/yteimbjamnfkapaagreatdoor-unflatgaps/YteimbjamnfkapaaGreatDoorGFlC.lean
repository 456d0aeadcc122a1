import Derived.Test.YteimbjamnfkapaaGreatDoorGMathFd
/- slices.BinarySearchFunc at paths, walked. -/
namespace Go.Proofs.YteimbjamnfkapaaGreatDoor
open Go.RowKit
def InC (w : World) (C : List (List PStep)) (v : Value) : Prop := ∃ a, SlOf v a C.length ∧ ∀ i p, C[i]? = some p → ∃ u, w.cell? (a.add i) = some u ∧ InP w p u
theorem InC.onto {w w' : World} {C : List (List PStep)} {v : Value} (h : InC w C v) (hb : Below w.heap.size w w') : InC w' C v := by
 obtain ⟨a, h1, h2⟩ := h
 exact ⟨a, h1, fun i p hp => by obtain ⟨u, h3, h4⟩ := h2 i p hp; exact ⟨u, keepCell hb h3, h4.onto hb⟩⟩
end Go.Proofs.YteimbjamnfkapaaGreatDoor
