/- Numbers of chapter 10, as the program reads them: plain mathematics. -/
import Derived.Test.YtiafcbmmadikcaaGreatDoorMathTs
import Derived.Test.YtiafcbmmadikcaaGreatDoorMathDecAll
namespace Go.Proofs.YtiafcbmmadikcaaGreatDoor

/-- without the one sign ahead -/
def sgA (l : List UInt8) : Bool := decide (bt l 0 = 43 ∨ bt l 0 = 45)
def unS (l : List UInt8) : List UInt8 := if sgA l = true then l.drop 1 else l
def infB (l : List UInt8) : Bool := decide (l = [105, 110, 102] ∨ l = [110, 97, 110])
/-- digits alone, and strokes between -/
def dgs (base : Nat) (d : List UInt8) : Bool := decide (d ≠ []) && decide (cdN (dgB base) false d = d.length)
/-- the base that is said; 0: none -/
def bsB (l : List UInt8) : Nat :=
  if bt l 0 = 48 ∧ bt l 1 = 120 ∧ dgs 16 (l.drop 2) = true then 16
  else if bt l 0 = 48 ∧ bt l 1 = 111 ∧ dgs 8 (l.drop 2) = true then 8
  else if bt l 0 = 48 ∧ bt l 1 = 98 ∧ dgs 2 (l.drop 2) = true then 2 else 0
/-- e and what may stand behind it -/
def pwB (l : List UInt8) : Bool := decide (bt l 0 = 101 ∨ bt l 0 = 69) && dgs 10 (unS (l.drop 1))
/-- behind the dot -/
def kdR (r : List UInt8) : List UInt8 := if bt r 0 = 46 then (r.drop 1).drop (cdN (dgB 10) false (r.drop 1)) else r
def kdF (r : List UInt8) : Bool := decide (bt r 0 = 46 ∧ cdN (dgB 10) false (r.drop 1) = 0)
def kdN (l : List UInt8) : Nat :=
  if cdN (dgB 10) false l = 0 ∨ (1 < cdN (dgB 10) false l ∧ bt l 0 = 48) then 0
  else if l.drop (cdN (dgB 10) false l) = [] then 2
  else if kdF (l.drop (cdN (dgB 10) false l)) = true then 0
  else if kdR (l.drop (cdN (dgB 10) false l)) ≠ [] ∧ pwB (kdR (l.drop (cdN (dgB 10) false l))) = false then 0 else 3
/-- the number of a base that digits say -/
def pvB (base : Nat) (l : List UInt8) : Nat := l.foldl (fun v b => base * v + hxV b) 0
def psV (base : Nat) (l : List UInt8) : Option Int := if pvB base l < 9223372036854775808 then some (pvB base l : Int) else none
def piV (l : List UInt8) : Option Int := match Lib.parseIntB 64 l with
  | .ok v => some v
  | _ => none
/-- without a + ahead -/
def noP (l : List UInt8) : List UInt8 := if bt l 0 = 43 then l.drop 1 else l
theorem dgB_ten (b : UInt8) : dgB 10 b = dgI b := by
  unfold dgB dgI hxI hxV
  have := b.toNat_lt
  rw [Bool.eq_iff_iff]
  simp only [Bool.and_eq_true, Bool.or_eq_true, decide_eq_true_eq]
  (repeat' split) <;> omega
theorem dgs_le {base : Nat} {d : List UInt8} (h : dgs base d = true) : d ≠ [] := by
  unfold dgs at h
  simp at h; exact h.1
end Go.Proofs.YtiafcbmmadikcaaGreatDoor
