
import Derived.Test.YtadbeodeiijhdaaGreatDoorKMathFh
import Derived.Deep.DeepCutAuto
/- flat.Flat, walked: the table's box and its rows. -/
namespace Go.Proofs.YtadbeodeiijhdaaGreatDoor
open Go.RowKit

/-- a table in its box: its head, its rows being laid -/
structure Tb (w wr : World) (b g n : Nat) (hv : Value) (N : List ByteArray) (U : List Value) (Ks : List (List ByteArray)) : Prop where
  rw : RwS w wr g n U Ks
  hd : wr.ownsRow w.heap.size 9 1 hv N.length (N.map Value.string)
  c0 : wr.cell? ⟨b, 0, none⟩ = some hv
  c1 : wr.cell? ⟨b, 1, none⟩ = some (.slice (some ⟨g, 0, none⟩) n n)
  bx : Row wr b 45 2
  lo : w.heap.size ≤ b
  ne : ¬ b = g
theorem Tb.onto {w wr wr' : World} {b g n : Nat} {hv : Value} {N : List ByteArray} {U : List Value} {Ks : List (List ByteArray)} (h : Tb w wr b g n hv N U Ks) (hb : Below wr.heap.size wr wr') : Tb w wr' b g n hv N U Ks :=
  ⟨h.rw.onto hb, ownsRow_below h.hd hb, keepCell hb h.c0, keepCell hb h.c1, h.bx.onto (hb.block _ h.bx.lt), h.lo, h.ne⟩
theorem Tb.set {w wr : World} {b g n : Nat} {hv : Value} {N : List ByteArray} {U : List Value} {Ks : List (List ByteArray)} (h : Tb w wr b g n hv N U Ks) (hj : Ks.length < n) {v : Value} {K : List ByteArray} (hv' : wr.ownsRow (g + 1) 9 1 v K.length (K.map Value.string)) (hK : ∀ c ∈ K, c.size ≤ maxLen) :
    Tb w (wr.setCell ⟨g, Ks.length, none⟩ v) b g n hv N (U.set Ks.length v) (Ks ++ [K]) := by
  refine ⟨h.rw.set hj hv' hK, ?_, ?_, ?_, h.bx.set _ _, h.lo, h.ne⟩
  · exact h.hd.kept (set_grownW wr g Ks.length v) (own_ne h.hd h.rw.own (by decide))
  · rw [set_other _ _ _ _ _ _ (.inl (fun e => h.ne e.symm))]; exact h.c0
  · rw [set_other _ _ _ _ _ _ (.inl (fun e => h.ne e.symm))]; exact h.c1
section
variable {P : Program} {Q : Exit → Act → World → Prop} {md : Region.Mode}
end
/-- a table's box, new -/
structure Abx (w : World) (b : Nat) : Prop where
  c0 : w.cell? ⟨b, 0, none⟩ = some (.slice none 0 0)
  c1 : w.cell? ⟨b, 1, none⟩ = some (.slice none 0 0)
  cf : ∀ o, w.frozen? ⟨b, o, none⟩ = false
  bx : Row w b 45 2
theorem Abx.onto {w w' : World} {b : Nat} (h : Abx w b) (hb : Below w.heap.size w w') : Abx w' b := by
  have hr := h.bx.onto (hb.block _ h.bx.lt)
  exact ⟨keepCell hb h.c0, keepCell hb h.c1, hr.frozen, hr⟩
theorem Abx.lt {w : World} {b : Nat} (h : Abx w b) : b < w.heap.size := h.bx.lt
end Go.Proofs.YtadbeodeiijhdaaGreatDoor
