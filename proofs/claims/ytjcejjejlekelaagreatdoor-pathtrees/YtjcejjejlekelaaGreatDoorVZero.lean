/- A fresh box, and what is put into it. -/
import Derived.Test.YtjcejjejlekelaaGreatDoorVBox
import Derived.Test.YtjcejjejlekelaaGreatDoorVCopyAll
namespace Go.Proofs.YtjcejjejlekelaaGreatDoor
open Go.RowKit

/-- a fresh box -/
def Z5 (w : World) (b : Nat) : Prop := (w.cell? ⟨b, 0, none⟩ = some (.int .i64 0) ∧ w.cell? ⟨b, 1, none⟩ = some (.int .i64 0) ∧ w.cell? ⟨b, 2, none⟩ = some (.string ⟨#[]⟩) ∧ w.cell? ⟨b, 3, none⟩ = some (.slice none 0 0) ∧ w.cell? ⟨b, 4, none⟩ = some (.slice none 0 0)) ∧ ∀ o, w.frozen? ⟨b, o, none⟩ = false
theorem z5_new (w : World) : Z5 (w.alloc (.cells #[.int .i64 0, .int .i64 0, .string ⟨#[]⟩, .slice none 0 0, .slice none 0 0] 31)) w.heap.size := ⟨by simp, fun o => (Row.new w #[.int .i64 0, .int .i64 0, .string ⟨#[]⟩, .slice none 0 0, .slice none 0 0] 31).frozen o⟩
theorem Z5.onto {w w' : World} {b : Nat} (h : Z5 w b) (hb : Below w.heap.size w w') : Z5 w' b :=
  ⟨⟨keepCell hb h.1.1, keepCell hb h.1.2.1, keepCell hb h.1.2.2.1, keepCell hb h.1.2.2.2.1, keepCell hb h.1.2.2.2.2⟩, fun o => (hb.frozen (p := ⟨b, o, none⟩) (World.block_lt_of_cell? w ⟨b, 0, none⟩ h.1.1)).trans (h.2 o)⟩
theorem z5_put {w : World} {b : Nat} (h : Z5 w b) (T : VT) (x y : Value) : Node (put5 w b 0 (.int .i64 T.kd) (.int .i64 T.nm) (.string T.st) x y) ⟨b, 0, none⟩ T x y := by
  unfold put5
  refine ⟨?_, ?_, ?_, ?_, ?_⟩
  · rw [set_other _ _ _ _ _ _ (Or.inr (by omega)), set_other _ _ _ _ _ _ (Or.inr (by omega)), set_other _ _ _ _ _ _ (Or.inr (by omega)), set_other _ _ _ _ _ _ (Or.inr (by omega))]
    exact World.cell?_setCell_same _ _ _ h.1.1
  · show World.cell? _ ⟨b, 0 + 1, none⟩ = _
    rw [set_other _ _ _ _ _ _ (Or.inr (by omega)), set_other _ _ _ _ _ _ (Or.inr (by omega)), set_other _ _ _ _ _ _ (Or.inr (by omega))]
    exact World.cell?_setCell_same _ _ _ ((set_other _ _ _ _ _ _ (Or.inr (by omega))).trans h.1.2.1)
  · show World.cell? _ ⟨b, 0 + 2, none⟩ = _
    rw [set_other _ _ _ _ _ _ (Or.inr (by omega)), set_other _ _ _ _ _ _ (Or.inr (by omega))]
    exact World.cell?_setCell_same _ _ _ ((set_other _ _ _ _ _ _ (Or.inr (by omega))).trans ((set_other _ _ _ _ _ _ (Or.inr (by omega))).trans h.1.2.2.1))
  · show World.cell? _ ⟨b, 0 + 3, none⟩ = _
    rw [set_other _ _ _ _ _ _ (Or.inr (by omega))]
    exact World.cell?_setCell_same _ _ _ ((set_other _ _ _ _ _ _ (Or.inr (by omega))).trans ((set_other _ _ _ _ _ _ (Or.inr (by omega))).trans ((set_other _ _ _ _ _ _ (Or.inr (by omega))).trans h.1.2.2.2.1)))
  · show World.cell? _ ⟨b, 0 + 4, none⟩ = _
    exact World.cell?_setCell_same _ _ _ ((set_other _ _ _ _ _ _ (Or.inr (by omega))).trans ((set_other _ _ _ _ _ _ (Or.inr (by omega))).trans ((set_other _ _ _ _ _ _ (Or.inr (by omega))).trans ((set_other _ _ _ _ _ _ (Or.inr (by omega))).trans h.1.2.2.2.2))))
/-- a tree that lies above it, put into a box that was there -/
theorem box_put {wl : World} {b lo : Nat} {T : VT} {x y : Value} (h : Z5 wl b) (hb : b < lo) (hf : HF wl lo wl.heap.size T x y) : Bx (put5 wl b 0 (.int .i64 T.kd) (.int .i64 T.nm) (.string T.st) x y) b T x y :=
  ⟨z5_put h T _ _, (hf.onto (fun k g1 g2 => put5_heap _ _ _ _ _ _ _ _ _ (by omega))).hv⟩
end Go.Proofs.YtjcejjejlekelaaGreatDoor
