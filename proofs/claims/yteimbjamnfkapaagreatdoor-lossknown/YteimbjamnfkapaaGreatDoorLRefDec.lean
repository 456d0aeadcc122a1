import Derived.Test.YteimbjamnfkapaaGreatDoorLOrders
import Derived.Deep.DeepCutAuto
import Derived.Deep.CutRange
import Derived.Test.YteimbjamnfkapaaGreatDoorLMathDecAll
import Derived.Deep.RegionWith
/- The document's own reckoning of numbers' texts, walked: digit, run, power, sign. -/
/- The document's own reckoning of a number's text, walked: parts. -/
/- The document's own reckoning of numbers' texts, walked: Form, Number, scaled, Whole. -/
/- The document's own order of numbers, walked: Cmp. -/
/- The document's own reading of whole numbers, walked: Int. -/
namespace Go.Proofs.YteimbjamnfkapaaGreatDoor
open Go.RowKit
def szOf (v : Value) : Nat := match v with | .string x => x.size | _ => 0
theorem num_len {l : List UInt8} (h : numB l = true) : l.length ≤ 400 := by
 unfold numB at h; simp only [Bool.and_eq_true,decide_eq_true_eq] at h; exact h.2
end Go.Proofs.YteimbjamnfkapaaGreatDoor
