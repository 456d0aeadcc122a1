
import Derived.Test.YtjcgkihkjjaefaaGreatDoorHOrders
import Derived.Deep.DeepCutAuto
import Derived.Deep.CutRange
import Derived.Test.YtjcgkihkjjaefaaGreatDoorHMathDecAll
import Derived.Deep.RegionWith
/- The document's own reckoning of numbers' texts, walked: digit, run, power, sign. -/
/- The document's own reckoning of a number's text, walked: parts. -/
/- The document's own reckoning of numbers' texts, walked: Form, Number, scaled, Whole. -/
/- The document's own order of numbers, walked: Cmp. -/
/- The document's own reading of whole numbers, walked: Int. -/
namespace Go.Proofs.YtjcgkihkjjaefaaGreatDoor
open Go.RowKit

end Go.Proofs.YtjcgkihkjjaefaaGreatDoor
namespace Go.Proofs.YtjcgkihkjjaefaaGreatDoor
open Go.RowKit

end Go.Proofs.YtjcgkihkjjaefaaGreatDoor
namespace Go.Proofs.YtjcgkihkjjaefaaGreatDoor
open Go.RowKit

def szOf (v : Value) : Nat := match v with | .string x => x.size | _ => 0
end Go.Proofs.YtjcgkihkjjaefaaGreatDoor
namespace Go.Proofs.YtjcgkihkjjaefaaGreatDoor
open Go.RowKit

theorem num_len {l : List UInt8} (h : numB l = true) : l.length ≤ 400 := by
  unfold numB at h; simp only [Bool.and_eq_true, decide_eq_true_eq] at h; exact h.2
theorem emp_mk_no (l : List UInt8) (h : ¬ l = []) : (mkS l).toList.isEmpty = false := emp_no _ (by rw [mkS_list]; exact h)
end Go.Proofs.YtjcgkihkjjaefaaGreatDoor
namespace Go.Proofs.YtjcgkihkjjaefaaGreatDoor
open Go.RowKit

end Go.Proofs.YtjcgkihkjjaefaaGreatDoor
