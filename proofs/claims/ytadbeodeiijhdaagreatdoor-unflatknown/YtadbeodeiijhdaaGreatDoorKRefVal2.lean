/- The tree that awake looks at: row, walked. -/
import Derived.Test.YtadbeodeiijhdaaGreatDoorKVPlus
import Derived.Test.YtadbeodeiijhdaaGreatDoorKFlM
import Derived.Test.YtadbeodeiijhdaaGreatDoorKVBase
import Derived.Deep.LoopGhost
/- The document's own reckoning of trees, walked: steep, Heavy, Deep. -/
namespace Go.Proofs.YtadbeodeiijhdaaGreatDoor
open Go.RowKit

def cRA : ByteArray := ⟨#[97]⟩
def tRL : VT := .mk 5 0 ⟨#[]⟩ [leafT 2 1 ⟨#[]⟩, leafT 2 2 ⟨#[]⟩] [] []
def tRow : VT := .mk 6 0 ⟨#[]⟩ [] [cRA] [tRL]
end Go.Proofs.YtadbeodeiijhdaaGreatDoor
/- The statements of stage 16: the value that they ask first; heads and rows held against each other. -/
namespace Go.Proofs.YtadbeodeiijhdaaGreatDoor
open Go.RowKit

def cF (l : List UInt8) : ByteArray := mkS l
def tOa : VT := leafT 2 1 ⟨#[]⟩
def tOx : VT := leafT 4 0 ⟨#[120]⟩
def tOc : VT := .mk 6 0 ⟨#[]⟩ [] [⟨#[99]⟩] [tOx]
def tOm : VT := .mk 6 0 ⟨#[]⟩ [] [⟨#[97]⟩, ⟨#[98]⟩] [tOa, tOc]
def tOne : VT := .mk 5 0 ⟨#[]⟩ [tOm] [] []
/-- a block's cells -/
def Cs (w : World) (b : Nat) (l : List Value) : Prop := ∀ i v, l[i]? = some v → w.cell? ⟨b, i, none⟩ = some v
theorem Cs.onto {w w' : World} {b : Nat} {l : List Value} (h : Cs w b l) (hb : Below w.heap.size w w') : Cs w' b l := fun i v hv => keepCell hb (h i v hv)
theorem InS.sl {w : World} {ks : List ByteArray} {u : Value} (h : InS w ks u) : ∃ o c, u = .slice o ks.length c := by
  obtain ⟨_, ⟨o, c, rfl, -⟩, -⟩ := h
  exact ⟨o, c, rfl⟩
theorem InRs.sl {w : World} {ks : List (List ByteArray)} {u : Value} (h : InRs w ks u) : ∃ o c, u = .slice o ks.length c := by
  obtain ⟨_, ⟨o, c, rfl, -⟩, -⟩ := h
  exact ⟨o, c, rfl⟩
end Go.Proofs.YtadbeodeiijhdaaGreatDoor
/- The statements of stage 16: what they ask first; FlatKnown. -/
namespace Go.Proofs.YtadbeodeiijhdaaGreatDoor
open Go.RowKit

def GlobF (w : World) : Prop := GlobC5 w ∧ Glob5 w
theorem GlobF.on {w w' : World} (h : GlobF w) (hb : Below w.heap.size w w') : GlobF w' := ⟨h.1.on hb, h.2.on hb⟩
end Go.Proofs.YtadbeodeiijhdaaGreatDoor
namespace Go.Proofs.YtadbeodeiijhdaaGreatDoor
open Go.RowKit

/-- a tree of at most so many nodes, at most so deep -/
def fitB (T : VT) (deep nodes : Int) : Bool := decide ((hgT T : Int) ≤ deep ∧ (szT T : Int) ≤ nodes)
def fitN (T : VT) (deep nodes : Int) : Int := if (hgT T : Int) ≤ deep ∧ (szT T : Int) ≤ nodes then nodes - szT T else 0
end Go.Proofs.YtadbeodeiijhdaaGreatDoor
