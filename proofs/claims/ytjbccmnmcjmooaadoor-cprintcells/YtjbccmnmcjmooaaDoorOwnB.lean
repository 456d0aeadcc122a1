import Derived.Test.YtjbccmnmcjmooaaDoorVBase
/- Changes that keep to one block among the elder ones. -/
namespace Go.Proofs.YtjbccmnmcjmooaaDoor
open Go.RowKit

theorem set_grown (w : World) (b o : Nat) (u : Value) : w.grownBy (w.setCell ⟨b, o, none⟩ u) (some b) := ⟨rfl, rfl, rfl, by simp, fun k _ hk => Below.heap_setCell _ _ _ _ (fun e => hk (by rw [e]))⟩
/-- only the reader's own cells among the elder ones have changed -/
def Own (b : Nat) (w w' : World) : Prop := w.grownBy w' (some b)
theorem Own.of {b : Nat} {w w' : World} (h : Below w.heap.size w w') : Own b w w' := ⟨h.os, h.tape, h.output, h.size, fun k hk _ => h.block k hk⟩
theorem Own.trans {b : Nat} {w w1 w2 : World} (h : Own b w w1) (k : Own b w1 w2) : Own b w w2 :=
  ⟨k.os.trans h.os, k.tape.trans h.tape, k.output.trans h.output, Nat.le_trans h.size k.size, fun i hi hn => (k.block i (Nat.lt_of_lt_of_le hi h.size) hn).trans (h.block i hi hn)⟩
theorem Own.refl (b : Nat) (w : World) : Own b w w := ⟨rfl, rfl, rfl, Nat.le_refl _, fun _ _ _ => rfl⟩
theorem Own.set {b : Nat} {w w1 : World} (h : Own b w w1) (o : Nat) (u : Value) : Own b w (w1.setCell ⟨b, o, none⟩ u) :=
  h.trans (set_grown w1 b o u)
theorem Own.cell {b : Nat} {w w' : World} (h : Own b w w') {a : Addr} {u : Value} (hc : w.cell? a = some u) (hn : ¬ a.block = b) : w'.cell? a = some u := by
  rw [World.cell?_of_block (w := w) (h.block a.block (World.block_lt_of_cell? w a hc) (fun e => hn (by injection e with e)))]; exact hc
end Go.Proofs.YtjbccmnmcjmooaaDoor
