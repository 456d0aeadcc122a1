/- Dotted keys of chapter 10: plain mathematics. -/
import Derived.Test.YtiaepihdfbahaaaGreatDoorARtC
import Derived.Test.YtiaepihdfbahaaaGreatDoorATlK
import Derived.Test.YtiaepihdfbahaaaGreatDoorAEscTun
import Derived.Test.YtiaepihdfbahaaaGreatDoorAMathPlace
import Derived.Test.YtiaepihdfbahaaaGreatDoorARtF
import Derived.Test.YtiaepihdfbahaaaGreatDoorATlF
/- tlex.refuse, plainString, stampEnd: walked. -/
/- tlex.keyPart, Key: walked. -/
/- tlex.Key: walked. -/
/- The document's Key of chapter 10: walked. -/
/- The document's reading of numbers: row, clean, split, based. Walked. -/
/- The document's reading of numbers: clean, split, based. Walked. -/
namespace Go.Proofs.YtiaepihdfbahaaaGreatDoor

/-- a part of a key -/
def kpT (T : List UInt8) (a : Nat) : List UInt8 × Nat × Int :=
  if m3 34 (T.drop a) = true ∨ m3 39 (T.drop a) = true then ([], 0, (a : Int))
  else if run brI (T.drop a) = 0 then unqT T (a : Int)
  else ((T.drop a).take (run brI (T.drop a)), a + run brI (T.drop a), -1)
/-- where the next part would begin: behind the blanks, the dot, the blanks -/
def kdP (T : List UInt8) (n : Nat) : Nat := n + run bkB (T.drop n)
def kyT (T : List UInt8) : Nat → Nat → List (List UInt8) → List (List UInt8) × Nat × Int
  | 0, a, _ => ([], 0, (a : Int))
  | f + 1, a, acc =>
    if 0 ≤ (kpT T a).2.2 then ([], 0, (kpT T a).2.2)
    else if bt T (kdP T (kpT T a).2.1) = 46 then kyT T f (kdP T (kdP T (kpT T a).2.1 + 1)) (acc ++ [(kpT T a).1])
    else (acc ++ [(kpT T a).1], (kpT T a).2.1, -1)
def kyA (T : List UInt8) (a : Int) : List (List UInt8) × Nat × Int := if a ≠ plc T a then ([], 0, plc T a) else kyT T (T.length + 1) a.toNat []
end Go.Proofs.YtiaepihdfbahaaaGreatDoor
namespace Go.Proofs.YtiaepihdfbahaaaGreatDoor
open Go.RowKit

/-- a value without parts, where one goes on, an error, where it is -/
structure PR where
  v : VT
  n : Int
  e : Int
  b : Int
def PR.V (r : PR) : Value := .tuple #[vv r.v nilS nilS, .int .i64 r.n, .int .i64 r.e, .int .i64 r.b]
def noPR (e b : Int) : PR := ⟨zeroT, 0, e, b⟩
def psT (T : List UInt8) (a : Nat) : PR :=
  if 0 ≤ (unqT T a).2.2 then noPR 4 (unqT T a).2.2 else if teI (mkS (unqT T a).1) ≠ 0 then noPR (teI (mkS (unqT T a).1)) a
  else ⟨leafT 4 0 (mkS (unqT T a).1), (unqT T a).2.1, 0, 0⟩
/-- the bytes between two places -/
def slc (T : List UInt8) (a b : Nat) : List UInt8 := (T.drop a).take (b - a)
/-- where the stamp ends that stands at a place -/
def seE (T : List UInt8) (n : Nat) : Nat := n + 1 + run rowC (T.drop (n + 1))
def seB (T : List UInt8) (a n : Nat) : Bool := dayB (slc T a n) && decide (bt T n = 32) && stB (slc T a (seE T n))
def seT (T : List UInt8) (a n : Nat) : Nat × Bool := if seB T a n = true then (seE T n, true) else (n, stB (slc T a n))
end Go.Proofs.YtiaepihdfbahaaaGreatDoor
namespace Go.Proofs.YtiaepihdfbahaaaGreatDoor
open Go.RowKit

end Go.Proofs.YtiaepihdfbahaaaGreatDoor
namespace Go.Proofs.YtiaepihdfbahaaaGreatDoor
open Go.RowKit

/-- texts as cells -/
def strV (l : List (List UInt8)) : List Value := l.map fun p => .string (mkS p)
/-- a dotted key read: its parts lie in a row of their own -/
def KeyPost (w : World) (R : List (List UInt8) × Nat × Int) (e : Ending) (w' : World) : Prop :=
  ∃ v, e = .returned (.tuple #[v, .int .i64 (R.2.1 : Nat), .int .i64 R.2.2]) ∧ w'.ownsRow w.heap.size 9 1 v R.1.length (strV R.1) ∧ Below w.heap.size w w'
end Go.Proofs.YtiaepihdfbahaaaGreatDoor
namespace Go.Proofs.YtiaepihdfbahaaaGreatDoor
open Go.RowKit

end Go.Proofs.YtiaepihdfbahaaaGreatDoor
namespace Go.Proofs.YtiaepihdfbahaaaGreatDoor
open Go.RowKit

theorem run_step {p : UInt8 → Bool} (t : ByteArray) (i : Nat) (h : i < t.size) : run p (t.data.toList.drop i) = if p t[i] = true then 1 + run p (t.data.toList.drop (i + 1)) else 0 := by
  rw [rdrop_at t i h]
  cases hp : p t[i] with
  | true => rw [run_cpos hp, if_pos rfl]; omega
  | false => rw [run_cneg hp, if_neg (by decide)]
end Go.Proofs.YtiaepihdfbahaaaGreatDoor
namespace Go.Proofs.YtiaepihdfbahaaaGreatDoor
open Go.RowKit

/-- digits and single strokes between them, byte by byte: 0 at the beginning, 1 behind a digit, 2 behind a stroke -/
def okC (base : Nat) : Nat → List UInt8 → Bool
  | st, [] => decide (st = 1)
  | st, b :: l => if b.toNat = 95 then decide (st = 1) && okC base 2 l else dgB base b && okC base 1 l
/-- what clean answers -/
def clnD (base : Nat) (l : List UInt8) : List UInt8 := if dgs base l = true then clnS l else []
/-- where reading stands -/
def stC (T : List UInt8) (i : Nat) : Nat := if i = 0 then 0 else if bt T (i - 1) = 95 then 2 else 1
end Go.Proofs.YtiaepihdfbahaaaGreatDoor
