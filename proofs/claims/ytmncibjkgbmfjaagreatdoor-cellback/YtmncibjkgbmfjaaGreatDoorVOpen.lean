/- An argument that is a value: its tree. -/
import Derived.Test.YtmncibjkgbmfjaaGreatDoorVBase
import Derived.WideShapes
namespace Go.Proofs.YtmncibjkgbmfjaaGreatDoor
open Go.RowKit Go.WideShapes

set_option maxRecDepth 100000 in
theorem open_tree {H : Type} {enc : TypeId × Value → H} {w W : World} {base b : Nat} {r : Reach} {spare : Nat → Bool} {held : Bool} {v : Value} {d : DataW H} {ps : List MemPlace}
    (hv : Value.okWide Tryz.prog W r b 26 v) (h : DataW.Trod enc Tryz.prog w base spare held 26 v d ps) : ∃ (T : VT) (x y : Value), v = vv T x y ∧ HV w T x y := by
  obtain ⟨cs, rfl, -⟩ := okWide_struct Tryz.underlying26 hv
  obtain ⟨fuel, hf⟩ := h
  obtain ⟨T, x, y, hc, hT⟩ := tree_of fuel _ _ hf
  refine ⟨T, x, y, ?_, hT⟩
  have : cs.toList = [.int .i64 T.kd, .int .i64 T.nm, .string T.st, x, y] := by simpa [Value.cells] using hc
  unfold vv
  congr 1
  apply Array.ext'
  rw [this]
end Go.Proofs.YtmncibjkgbmfjaaGreatDoor
