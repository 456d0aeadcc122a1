
import Derived.Test.YtadbeodeiijhdaaGreatDoorKVInS
import Derived.Test.YtadbeodeiijhdaaGreatDoorKPathOne
/- flat.tooLong, walked; slices.ContainsFunc over names, and over rows. -/
namespace Go.Proofs.YtadbeodeiijhdaaGreatDoor
open Go.RowKit

/-- rows: a slice of slices of strings -/
def InRs (w : World) (R : List (List ByteArray)) (v : Value) : Prop := ∃ a, SlOf v a R.length ∧ ∀ i K, R[i]? = some K → ∃ u, w.cell? (a.add i) = some u ∧ InS w K u
theorem InRs.onto {w w' : World} {R : List (List ByteArray)} {v : Value} (h : InRs w R v) (hb : Below w.heap.size w w') : InRs w' R v := by
  obtain ⟨a, h1, h2⟩ := h
  exact ⟨a, h1, fun i p hp => by obtain ⟨u, h3, h4⟩ := h2 i p hp; exact ⟨u, keepCell hb h3, h4.onto hb⟩⟩
def longS (c : ByteArray) : Bool := decide (4096 < c.size)
theorem any_no {α : Type} {f : α → Bool} {K : List α} (h : ∀ (i : Nat) (d : α), K[i]? = some d → f d = false) : K.any f = false := by
  rw [List.any_eq_false]
  intro x hx
  obtain ⟨i, hi⟩ := List.getElem?_of_mem hx
  rw [h i x hi]; decide
theorem any_yes {α : Type} {f : α → Bool} {K : List α} {i : Nat} {d : α} (h : K[i]? = some d) (hf : f d = true) : K.any f = true := by
  rw [List.any_eq_true]
  exact ⟨d, List.mem_of_getElem? h, hf⟩
def IdxPost (b : Bool) (w : World) (e : Ending) (w' : World) : Prop := ∃ z : Int, e = .returned (.int .i64 z) ∧ decide (0 ≤ z) = b ∧ Below w.heap.size w w'
def longR (K : List ByteArray) : Bool := K.any longS
end Go.Proofs.YtadbeodeiijhdaaGreatDoor
