/- Plain mathematics of lines and columns: line ends counted, a line's beginning, the last line's beginning. -/
import Derived.Test.YtkhjahpkbjafaaaGreatDoorTMathJ
import Derived.Lib.Bytealg
import Derived.Lib.LastIndexByte
import Derived.Test.YtkhjahpkbjafaaaGreatDoorTBase
import Derived.Lib.Walk
import Derived.Test.YtkhjahpkbjafaaaGreatDoorTUtfMore
import Derived.Test.YtkhjahpkbjafaaaGreatDoorTRefOne
import Derived.Deep.QuietTactic
import Derived.BigQuiet
import Derived.Test.YtkhjahpkbjafaaaGreatDoorTMathDecAll
import Derived.Lib.IndexAny
import Derived.Test.YtkhjahpkbjafaaaGreatDoorTMathUtf
import Derived.Lib.MapLaws
import Derived.Test.YtkhjahpkbjafaaaGreatDoorTShelf
import Derived.Lib.OthersKept
import Derived.Deep.LoopGhost
import Derived.WalkMore
import Derived.Laws.Runes
namespace Go.Proofs.YtkhjahpkbjafaaaGreatDoor
open Go.RowKit

/-- how many line ends -/
def nls (l : List UInt8) : Nat := l.count 10
/-- where the last line of the first k bytes begins -/
def bol (l : List UInt8) : Nat → Nat
  | 0 => 0
  | k + 1 => if l.getD k 0 = 10 then k + 1 else bol l k
/-- a text's last line's column, behind its last byte -/
def colOf (m : List UInt8) : Nat := cnt (m.drop (bol m m.length)) + 1
def linOf (m : List UInt8) : Nat := nls m + 1
/-- where the (j+1)-th line begins -/
def lineAt (l : List UInt8) (j : Nat) : Nat := least (fun p => decide (nls (l.take p) < j)) l.length 0
/-- p is where the (j+1)-th line begins -/
def LineAt (l : List UInt8) (j p : Nat) : Prop := nls (l.take p) = j ∧ p ≤ l.length ∧ (p = 0 ∨ l.getD (p - 1) 0 = 10)
/-- what Begin answers -/
def bgB (l : List UInt8) (n : Int) : Bool := decide (1 ≤ n ∧ n ≤ nls l + 1)
def bgP (l : List UInt8) (n : Int) : Int := if 1 ≤ n ∧ n ≤ nls l + 1 then (lineAt l (n - 1).toNat : Int) else 0
/-- a place drawn into a text -/
def clN (n : Nat) (a : Int) : Nat := (min (max a 0) (n : Int)).toNat
end Go.Proofs.YtkhjahpkbjafaaaGreatDoor
/- The library's searches, walked at the text of one line end: strings.Index, strings.Count, strings.LastIndex. -/
/- Package place, walked: clamp, Lines, Begin; and the document's own clamp. -/
/- Package place, walked: Of, Fault; and the document's own reckoning of both. -/
/- The document's own reckoning of places, walked: Of, Fault. -/
namespace Go.Proofs.YtkhjahpkbjafaaaGreatDoor
open Go.RowKit

end Go.Proofs.YtkhjahpkbjafaaaGreatDoor
namespace Go.Proofs.YtkhjahpkbjafaaaGreatDoor
open Go.RowKit

end Go.Proofs.YtkhjahpkbjafaaaGreatDoor
namespace Go.Proofs.YtkhjahpkbjafaaaGreatDoor
open Go.RowKit

/-- where a text's first k letters begin, as values -/
def startsV (l : List UInt8) (k : Nat) : List Value := (List.range k).map (fun j => Value.int .i64 (pos l j))
end Go.Proofs.YtkhjahpkbjafaaaGreatDoor
namespace Go.Proofs.YtkhjahpkbjafaaaGreatDoor
open Go.RowKit

/-- the line and the column of a place -/
def ofL (t : ByteArray) (a : Int) : Nat := linOf (t.data.toList.take (clN t.size a))
def ofC (t : ByteArray) (a : Int) : Nat := colOf (t.data.toList.take (clN t.size a))
theorem below_drewN {B : Nat} {a w : World} (h : Below B a w) (n : Nat) : Below B a (w.drewN n) := h.trans ⟨rfl, rfl, rfl, Nat.le_refl _, fun _ _ => rfl⟩
theorem keeps {W V : World} (h : Below W.heap.size W V) : (∀ b o, b < W.heap.size → V.cell? ⟨b, o, none⟩ = W.cell? ⟨b, o, none⟩) ∧ ∀ b o, b < W.heap.size → V.frozen? ⟨b, o, none⟩ = W.frozen? ⟨b, o, none⟩ :=
  ⟨fun _ _ g => h.cell g, fun _ _ g => h.frozen g⟩
theorem onto {w a b : World} (h : Below w.heap.size w a) (k : Below a.heap.size a b) : Below w.heap.size w b := h.trans (k.mono h.size)
/-- a fault, as a value -/
def faultV (t : ByteArray) (a e : Int) : Value := .agg #[.int .i64 e, .int .i64 (clN t.size a), .int .i64 (ofL t a), .int .i64 (ofC t a)]
end Go.Proofs.YtkhjahpkbjafaaaGreatDoor
namespace Go.Proofs.YtkhjahpkbjafaaaGreatDoor
open Go.RowKit

end Go.Proofs.YtkhjahpkbjafaaaGreatDoor
/- Plain mathematics of a number's row: with noughts for the digits behind e it has a number's form just if the row has. -/
/- Plain mathematics: the model's decoder and the letters that a text begins with. -/
namespace Go.Proofs.YtkhjahpkbjafaaaGreatDoor
open Go.RowKit

/-- no e -/
def notE (b : UInt8) : Bool := !(decide (b.toNat = 101) || decide (b.toNat = 69))
/-- nought for a digit -/
def zd (b : UInt8) : UInt8 := if isD b = true then 48 else b
/-- a row with noughts for the digits behind e -/
def wpow (l : List UInt8) : List UInt8 := l.takeWhile notE ++ (l.dropWhile notE).map zd
end Go.Proofs.YtkhjahpkbjafaaaGreatDoor
namespace Go.Proofs.YtkhjahpkbjafaaaGreatDoor
open Go.RowKit

theorem tkN_c (a : UInt8) (t : List UInt8) : tkN (a :: t) = if tkOk a t = true then begN a.toNat else 0 := rfl
theorem tkR_c (a : UInt8) (t : List UInt8) : tkR (a :: t) = if tkOk a t = true then fol (begR a.toNat) (t.take (begN a.toNat - 1)) else 0 := rfl
theorem tk_n1 {a : UInt8} {t : List UInt8} (h : a.toNat < 128) : tkN (a :: t) = 1 ∧ tkR (a :: t) = a.toNat := by
  have hb : begN a.toNat = 1 := by unfold begN; rw [if_pos h]
  have hr : begR a.toNat = a.toNat := by unfold begR; rw [if_pos h]
  have ok : tkOk a t = true := by
    unfold tkOk; rw [hb, hr]
    have hf : fol a.toNat (t.take (1 - 1)) = a.toNat := by simp [fol]
    rw [hf]
    have g1 : goodN a.toNat = true := by unfold goodN; exact decide_eq_true (by omega)
    have g2 : wdN a.toNat = 1 := by unfold wdN; rw [if_pos h]
    rw [g1, g2]; simp
  rw [tkN_c, tkR_c, if_pos ok, if_pos ok, hb, hr]
  simp [fol]
end Go.Proofs.YtkhjahpkbjafaaaGreatDoor
/- jlex.among, rowEnd, piece, refuse: walked. -/
/- jlex.piece, refuse: walked. -/
/- jlex.lettersEnd: walked. -/
/- strings.IndexRune and ContainsRune at the ten digits; jlex.nought: walked. -/
namespace Go.Proofs.YtkhjahpkbjafaaaGreatDoor
open Go.RowKit

end Go.Proofs.YtkhjahpkbjafaaaGreatDoor
namespace Go.Proofs.YtkhjahpkbjafaaaGreatDoor
open Go.RowKit

/-- the world with the boxes of a word and of a fault -/
def Tryz.pw0 (w : World) : World := w.alloc (.cells #[.int .i64 0, .string ⟨#[]⟩, .int .i64 0] 70)
def Tryz.pwW (w : World) : World := (Tryz.pw0 w).alloc (.cells #[.int .i64 0, .int .i64 0, .int .i64 0, .int .i64 0] 30)
end Go.Proofs.YtkhjahpkbjafaaaGreatDoor
namespace Go.Proofs.YtkhjahpkbjafaaaGreatDoor
open Go.RowKit

end Go.Proofs.YtkhjahpkbjafaaaGreatDoor
namespace Go.Proofs.YtkhjahpkbjafaaaGreatDoor
open Go.RowKit

/-- nought for each digit, any other letter as it is -/
def nouI (x : Int) : Int := if 48 ≤ x ∧ x ≤ 57 then 48 else x
end Go.Proofs.YtkhjahpkbjafaaaGreatDoor
