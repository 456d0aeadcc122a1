/- Plain mathematics: words of JSON are such that a value can be made of them. -/
import Derived.Test.YtkhjahpkbjafaaaGreatDoorTMathLexL
import Derived.Test.YtkhjahpkbjafaaaGreatDoorTMathJ
import Derived.Test.YtkhjahpkbjafaaaGreatDoorTRef8All
import Derived.Shelf.SlicesE.Clone
import Derived.Shelf.SlSortCmp.WholeK
import Derived.Shelf.SlSortCmp.NoneTotal
import Derived.Test.YtkhjahpkbjafaaaGreatDoorProg
import Derived.Test.YtkhjahpkbjafaaaGreatDoorTVBase
import Derived.Test.YtkhjahpkbjafaaaGreatDoorTVRise
import Derived.Test.YtkhjahpkbjafaaaGreatDoorTShelf
import Derived.Test.YtkhjahpkbjafaaaGreatDoorTMathDecAll
import Derived.Test.YtkhjahpkbjafaaaGreatDoorTVTextAll
import Derived.Test.YtkhjahpkbjafaaaGreatDoorTMathRead
/- The library's Clone and SortFunc at pairs, laid at this translation. -/
/- value.Map, walked. -/
/- Plain mathematics: parts with a comma between; how great what is read can be. -/
namespace Go.Proofs.YtkhjahpkbjafaaaGreatDoor
open Go.RowKit

/-- a word that a value takes -/
structure Fine (x : Wd) : Prop where
  kd : x.kd ≤ 4
  str : x.kd = 2 → Vl x.tx ∧ x.tx.length ≤ 4096
  num : x.kd = 3 → numB x.tx = true
  lit : x.kd = 4 → litB x.tx = true
end Go.Proofs.YtkhjahpkbjafaaaGreatDoor
namespace Go.Proofs
open Go.Shelf
def Tryz.laysClone_ren : Go.Shelf.Ren := ⟨fun | 41 => 116 | n => n, fun | 22 => 25 | 23 => 52 | 4 => 4 | n => n, fun | n => n⟩
def Tryz.laysSort_ren : Go.Shelf.Ren := ⟨fun | 6 => 117 | 15 => 146 | 14 => 145 | 28 => 184 | 29 => 185 | 20 => 176 | 21 => 177 | 22 => 178 | 23 => 179 | 24 => 180 | 25 => 181 | 26 => 182 | 27 => 183 | 46 => 219 | 47 => 220 | 48 => 221 | 49 => 222 | 50 => 223 | 57 => 246 | n => n, fun | 22 => 25 | 24 => 52 | 25 => 141 | 3 => 3 | 39 => 93 | 0 => 0 | 53 => 171 | 55 => 166 | 4 => 4 | 46 => 185 | 45 => 184 | 50 => 98 | 5 => 5 | 9 => 9 | 66 => 219 | 70 => 223 | 76 => 236 | 77 => 61 | n => n, fun | n => n⟩
end Go.Proofs
/- Pairs cloned and put in order by the library, as value.Map asks it to. -/
/- slices.Clone and slices.SortFunc over pairs that hold trees. -/
namespace Go.Proofs.YtkhjahpkbjafaaaGreatDoor
open Go.RowKit Go.Shelf Go.Sort

/-- a pair's cells -/
abbrev PE := ByteArray × Int × Int × ByteArray × (Option Addr × Nat × Nat) × (Option Addr × Nat × Nat)
def encP (e : PE) : List Value := [.string e.1, .int .i64 e.2.1, .int .i64 e.2.2.1, .string e.2.2.2.1, .slice e.2.2.2.2.1.1 e.2.2.2.2.1.2.1 e.2.2.2.2.1.2.2, .slice e.2.2.2.2.2.1 e.2.2.2.2.2.2.1 e.2.2.2.2.2.2.2]
def slc : Value → Option Addr × Nat × Nat | .slice o n c => (o, n, c) | _ => (none, 0, 0)
def peOf (c : ByteArray) (t : VT) (x y : Value) : PE := (c, t.kd, t.nm, t.st, slc x, slc y)
/-- how the pairs are put in order -/
def cfP (x y : PE) : Int := Lib.compareBytes x.1.data.toList y.1.data.toList
end Go.Proofs.YtkhjahpkbjafaaaGreatDoor
namespace Go.Proofs.YtkhjahpkbjafaaaGreatDoor
open Go.RowKit Go.Shelf Go.Sort

/-- the cells of a pair hold a key and a tree -/
def RelP (w : World) (x : PE × (ByteArray × VT)) : Prop := x.1.1 = x.2.1 ∧ x.2.1.size ≤ maxLen ∧ x.1.2.1 = x.2.2.kd ∧ x.1.2.2.1 = x.2.2.nm ∧ x.1.2.2.2.1 = x.2.2.st ∧ HV w x.2.2 (.slice x.1.2.2.2.2.1.1 x.1.2.2.2.2.1.2.1 x.1.2.2.2.2.1.2.2) (.slice x.1.2.2.2.2.2.1 x.1.2.2.2.2.2.2.1 x.1.2.2.2.2.2.2.2)
/-- pairs lie in a block of their own, their trees where they lay -/
def Held (w0 w : World) (g : Nat) (A : List (ByteArray × VT)) : Prop := ∃ (d : Array PE) (D : List (PE × (ByteArray × VT))), HoldsK encP 6 w g 0 d ∧ D.map (·.1) = d.toList ∧ D.map (·.2) = A ∧ ∀ x ∈ D, RelP w0 x
end Go.Proofs.YtkhjahpkbjafaaaGreatDoor
namespace Go.Proofs.YtkhjahpkbjafaaaGreatDoor
open Go.RowKit

end Go.Proofs.YtkhjahpkbjafaaaGreatDoor
namespace Go.Proofs.YtkhjahpkbjafaaaGreatDoor
open Go.RowKit

/-- what reading a part, or parts, ends in -/
inductive Sd (σ : Type) where
  | ok (s : σ) (n : Nat) (ws : List Wd)
  | bad (er at_ : Nat)
section
variable {σ : Type} (c : UInt8) (S : Nat → σ → Nat → List Wd → Sd σ)
def ptM : Nat → σ → Nat → List Wd → Sd σ
  | 0, _, _, _ => .bad 4 0
  | f + 1, s, n, ws => match S f s n ws with
    | .bad e a => .bad e a
    | .ok s' m q => if isM c q = true then .ok s' m q.tail else if isM 44 q = true then ptM f s' m q.tail else .bad 4 (atW q)
/-- behind a part -/
def ptL (f : Nat) (s : σ) (m : Nat) (q : List Wd) : Sd σ := if isM c q = true then .ok s m q.tail else if isM 44 q = true then ptM c S f s m q.tail else .bad 4 (atW q)
end
def Sd.rd {σ : Type} (g : σ → VT) : Sd σ → Rd
  | .ok s n ws => .ok (g s) n ws
  | .bad e a => .bad e a
/-- a part of a list -/
def stL (d f : Nat) (s : List VT) (n : Nat) (ws : List Wd) : Sd (List VT) := match jrV f (d + 1) n ws with
  | .bad e a => .bad e a
  | .ok t m q => .ok (s ++ [t]) m q
/-- a part of a map -/
def stP (d f : Nat) (s : List (ByteArray × VT)) (n : Nat) : List Wd → Sd (List (ByteArray × VT))
  | [] => .bad 4 0
  | x :: r =>
    if ¬ x.kd = 2 then .bad 4 x.at_
    else if (findK (mkS x.tx) (s.map (·.1)) (s.map (·.2))).isSome = true then .bad 5 x.at_
    else if ¬ isM 58 r = true then .bad 4 (atW r)
    else match jrV f (d + 1) n r.tail with
      | .bad e a => .bad e a
      | .ok t m q => .ok (insP (mkS x.tx) t false s) m q
end Go.Proofs.YtkhjahpkbjafaaaGreatDoor
