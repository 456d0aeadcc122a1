import Derived.Test.YteimbjamnfkapaaGreatDoorGFlC
import Derived.Test.YteimbjamnfkapaaGreatDoorGPathEvery
import Derived.Test.YteimbjamnfkapaaGreatDoorGOrders
import Derived.Deep.RegionLawGrows
import Derived.ArgAppend
import Derived.Lib.AppendZerosOnto
import Derived.Lib.AppendZeros
import Derived.Laws.IdiomCopy
import Derived.Lib.Overlaps
import Derived.Deep.Upon
/- slices.Insert of one path among columns, walked: at the end; in a new row; in the row that is there. -/
namespace Go.Proofs.YteimbjamnfkapaaGreatDoor
open Go.RowKit
def putA (A : Array Value) : Nat → List Value → Array Value
 | _, [] => A
 | o, v :: r => putA (A.setIfInBounds o v) (o + 1) r
def Ins1 (B n i : Nat) (U : List Value) (u cv : Value) (w : World) (e : Ending) (w' : World) : Prop := ∃ v', e = .returned v' ∧ w'.ownsRow B 41 1 v' (n + 1) (U.take i ++ u :: U.drop i) ∧ w.grownBy w' cv.ownBlock
theorem cins_at (U : List Value) (u : Value) (i j : Nat) (hi : i ≤ U.length) : (U.take i ++ u :: U.drop i)[j]? = if j < i then U[j]? else if j = i then some u else U[j - 1]? := by
 by_cases h : j < i
 ·rw [if_pos h, List.getElem?_append_left (by simp; omega), List.getElem?_take, if_pos h]
 ·rw [if_neg h, List.getElem?_append_right (by simp; omega), List.length_take, Nat.min_eq_left hi]
  by_cases h2 : j = i
  ·subst h2; rw [if_pos rfl, Nat.sub_self]; rfl
  ·rw [if_neg h2, show j - i = (j - i - 1) + 1 by omega, List.getElem?_cons_succ, List.getElem?_drop, show i + (j - i - 1) = j - 1 by omega]
end Go.Proofs.YteimbjamnfkapaaGreatDoor
/- slices.Insert of one path ahead of others, walked: in a new row; in the row that is there. -/
namespace Go.Proofs.YteimbjamnfkapaaGreatDoor
open Go.RowKit
end Go.Proofs.YteimbjamnfkapaaGreatDoor
/- slices.Insert of one path ahead of others, in the row that is there; and every way. -/
namespace Go.Proofs.YteimbjamnfkapaaGreatDoor
open Go.RowKit
end Go.Proofs.YteimbjamnfkapaaGreatDoor
