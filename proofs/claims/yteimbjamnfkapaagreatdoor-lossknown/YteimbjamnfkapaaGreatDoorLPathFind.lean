import Derived.Test.YteimbjamnfkapaaGreatDoorLPathTwo
import Derived.Deep.RegionHeld
import Derived.Test.YteimbjamnfkapaaGreatDoorLPathEvery
import Derived.Test.YteimbjamnfkapaaGreatDoorLVSameT
/- path.index at a place, walked. -/
/- slices.IndexFunc at pairs; path.index; path.find, walked. -/
/- path.find, walked: over any way of going down. -/
/- path.Get, walked. -/
namespace Go.Proofs.YteimbjamnfkapaaGreatDoor
open Go.RowKit
structure Desc (w : World) (Q : List PStep → Addr → VT → Value → Value → Prop) : Prop where
 node : ∀ p a T x y,Q p a T x y → Node w a T x y ∧ HV w T x y
 stepL : ∀ p a T x y s i t,Q p a T x y → s.place = true → idxT T s = some i → kidT T s i = some t → ∃ al n c x' y',x = .slice (some al) n c ∧ i < n ∧ n ≤ 1000000000000 ∧ Q (p ++ [s]) (al.add (i * 5)) t x' y'
 stepM : ∀ p a T x y s i t,Q p a T x y → s.place = false → idxT T s = some i → kidT T s i = some t → ∃ bl n c x' y',y = .slice (some bl) n c ∧ i < n ∧ n ≤ 1000000000000 ∧ Q (p ++ [s]) (nx (bl.add (i * 6))) t x' y'
def QV (w : World) (_ : List PStep) (a : Addr) (T : VT) (x y : Value) : Prop := Node w a T x y ∧ HV w T x y ∧ szT T ≤ 1000000
end Go.Proofs.YteimbjamnfkapaaGreatDoor
