/- What the library's variables hold: the tables of the decoder of letters. -/
import Derived.Test.YtkhjahpkbjafaaaGreatDoorURefOne
import Derived.Shelf.Unicode.DecodeSlow
import Derived.Test.YtkhjahpkbjafaaaGreatDoorUEscSide
namespace Go.Proofs.YtkhjahpkbjafaaaGreatDoor
open Go.RowKit

def GlobU (w : World) : Prop := Lib.Utf8Tabs 6 7 w
theorem GlobU.on {w w' : World} (h : GlobU w) (hb : Below w.heap.size w w') : GlobU w' := Utf8Tabs_below h hb
end Go.Proofs.YtkhjahpkbjafaaaGreatDoor
/- The document's own Hex, Bare, code, place, plain of chapter 6: walked. -/
/- The document's own escape of chapter 6: walked. -/
/- The document's own folded of chapter 6: walked. -/
/- The document's own Unquote of chapter 6: walked. -/
namespace Go.Proofs.YtkhjahpkbjafaaaGreatDoor
open Go.RowKit

/-- whether a letter behind a stroke says something, and what -/
def plnB (toml : Bool) (b : Nat) : Bool := decide (nmV toml b < 256)
def plnS (b : Nat) : List UInt8 := if b = 34 ∨ b = 92 then [UInt8.ofNat b] else if b = 98 then [8] else if b = 102 then [12] else if b = 110 then [10] else if b = 114 then [13] else if b = 116 then [9] else if b = 47 then [47] else if b = 101 then [27] else []
end Go.Proofs.YtkhjahpkbjafaaaGreatDoor
namespace Go.Proofs.YtkhjahpkbjafaaaGreatDoor
open Go.RowKit

end Go.Proofs.YtkhjahpkbjafaaaGreatDoor
namespace Go.Proofs.YtkhjahpkbjafaaaGreatDoor
open Go.RowKit

/-- all of a text's first bytes are so, as far as the j-th -/
def allF (p : UInt8 → Bool) (D : List UInt8) (j : Nat) : Prop := ∀ k, k < j → ∃ b, D[k]? = some b ∧ p b = true
def fdM (many : Bool) (l : List UInt8) : Nat := if many = true then fdN l else 0
end Go.Proofs.YtkhjahpkbjafaaaGreatDoor
namespace Go.Proofs.YtkhjahpkbjafaaaGreatDoor
open Go.RowKit

theorem mkS_app (a b : List UInt8) : mkS a ++ mkS b = mkS (a ++ b) := by
  refine mkS_of _ _ ?_
  rw [ByteArray.data_append, Array.toList_append]
  show (mkS a).data.toList ++ (mkS b).data.toList = _
  rw [mkS_list, mkS_list]
theorem oE_no {q : Nat} {l : List UInt8} (h : bt l 0 ≠ q) : (oE q l).2 = 0 := by unfold oE; rw [if_neg h]
theorem oE_yes {q : Nat} {l : List UInt8} (h : bt l 0 = q) : oE q l = ([], 1) := by unfold oE; rw [if_pos h]
end Go.Proofs.YtkhjahpkbjafaaaGreatDoor
