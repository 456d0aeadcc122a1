/- A region that draws its order and whose callees make memory but change none that was there: one walk serves every order, in the class of the worlds above. -/
import Derived.Test.YtoamndiblckdlaaGreatDoorBase
import Derived.Deep.QuietTactic
import Derived.BigQuiet
namespace Go.Proofs.YtoamndiblckdlaaGreatDoor
open Go.RowKit

/-- the worlds in which all that was there is as it was -/
structure Abv (w : World) where
  u : World
  h : Below w.heap.size w u
theorem abv_some (w : World) : Nonempty (Abv w) := ⟨⟨w, Below.refl _ _⟩⟩
theorem wp_region_above {P : Program} {id : Nat} {Q : Exit → Act → World → Prop} {a : Act} {w : World} {l : List Oper} (hm : P.follows .mixedOrders = true) (hB : Region.lexB .any l.toArray = true)
    (h : wpQuiet P l.toArray (fun w' => ∃ x : Abv w, w' = x.u) (fun a' => ∀ w', (∃ x : Abv w, w' = x.u) → Q .normal a' w') l a) : (Code.region id l.toArray true).wp P Q a w :=
  wp_region_quiet (C := fun w' => ∃ x : Abv w, w' = x.u) hm hB ⟨⟨w.drew, (Below.refl _ _).drew⟩, rfl⟩ (by simpa using h)
theorem above_of {P : Program} {f : FuncId} {args : Array Value} {w : World} {x : Abv w} {v : Value}
    (h : Calls P f args x.u fun e w' => e = .returned v ∧ Below x.u.heap.size x.u w') : Calls P f args x.u fun e w'' => e = .returned v ∧ ∃ y : Abv w, w'' = y.u :=
  h.mono fun _ w' ⟨he, hb⟩ => ⟨he, ⟨w', x.h.trans (hb.mono x.h.size)⟩, rfl⟩
theorem above_cell {w : World} {a : Addr} {v : Value} (h : w.cell? a = some v) (x : Abv w) : x.u.cell? a = some v := by
  rw [x.h.cell (World.block_lt_of_cell? w a h)]; exact h
end Go.Proofs.YtoamndiblckdlaaGreatDoor
