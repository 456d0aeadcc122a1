/- The tree that awake looks at: row, walked. -/
import Derived.Test.YteimbjamnfkapaaGreatDoorGMathFh
import Derived.Deep.DeepCutAuto
import Derived.Test.YteimbjamnfkapaaGreatDoorGVPlus
/- flat.Flat, walked: the table's box and its rows. -/
namespace Go.Proofs.YteimbjamnfkapaaGreatDoor
open Go.RowKit
structure Tb (w wr : World) (b g n : Nat) (hv : Value) (N : List ByteArray) (U : List Value) (Ks : List (List ByteArray)) : Prop where
 rw : RwS w wr g n U Ks
 hd : wr.ownsRow w.heap.size 9 1 hv N.length (N.map Value.string)
 c0 : wr.cell? ⟨b, 0, none⟩ = some hv
 c1 : wr.cell? ⟨b, 1, none⟩ = some (.slice (some ⟨g, 0, none⟩) n n)
 bx : Row wr b 34 2
 lo : w.heap.size ≤ b
 ne : ¬ b = g
theorem Tb.onto {w wr wr' : World} {b g n : Nat} {hv : Value} {N : List ByteArray} {U : List Value} {Ks : List (List ByteArray)} (h : Tb w wr b g n hv N U Ks) (hb : Below wr.heap.size wr wr') : Tb w wr' b g n hv N U Ks :=
 ⟨h.rw.onto hb, ownsRow_below h.hd hb, keepCell hb h.c0, keepCell hb h.c1, h.bx.onto (hb.block _ h.bx.lt), h.lo, h.ne⟩
theorem Tb.set {w wr : World} {b g n : Nat} {hv : Value} {N : List ByteArray} {U : List Value} {Ks : List (List ByteArray)} (h : Tb w wr b g n hv N U Ks) (hj : Ks.length < n) {v : Value} {K : List ByteArray} (hv' : wr.ownsRow (g + 1) 9 1 v K.length (K.map Value.string)) (hK : ∀ c ∈ K, c.size ≤ maxLen) :
  Tb w (wr.setCell ⟨g, Ks.length, none⟩ v) b g n hv N (U.set Ks.length v) (Ks ++ [K]) := by
 refine ⟨h.rw.set hj hv' hK, ?_, ?_, ?_, h.bx.set _ _, h.lo, h.ne⟩
 ·exact h.hd.kept (set_grownW wr g Ks.length v) (own_ne h.hd h.rw.own (by decide))
 ·rw [set_other _ _ _ _ _ _ (.inl (fun e => h.ne e.symm))]; exact h.c0
 ·rw [set_other _ _ _ _ _ _ (.inl (fun e => h.ne e.symm))]; exact h.c1
section
variable {P : Program} {Q : Exit → Act → World → Prop} {md : Region.Mode}
end
theorem nwf_bd {n : Int} (h : (Lit.int .i64 n).wf = true) : -9223372036854775808 ≤ n ∧ n < 9223372036854775808 := by
 simp [Lit.wf, IntKind.min, IntKind.max, IntKind.signed, IntKind.bits] at h
 omega
structure Abx (w : World) (b : Nat) : Prop where
 c0 : w.cell? ⟨b, 0, none⟩ = some (.slice none 0 0)
 c1 : w.cell? ⟨b, 1, none⟩ = some (.slice none 0 0)
 cf : ∀ o, w.frozen? ⟨b, o, none⟩ = false
 bx : Row w b 34 2
theorem Abx.onto {w w' : World} {b : Nat} (h : Abx w b) (hb : Below w.heap.size w w') : Abx w' b := by
 have hr := h.bx.onto (hb.block _ h.bx.lt)
 exact ⟨keepCell hb h.c0, keepCell hb h.c1, hr.frozen, hr⟩
theorem Abx.lt {w : World} {b : Nat} (h : Abx w b) : b < w.heap.size := h.bx.lt
end Go.Proofs.YteimbjamnfkapaaGreatDoor
namespace Go.Proofs.YteimbjamnfkapaaGreatDoor
open Go.RowKit
def cRA : ByteArray := ⟨#[97]⟩
def tRL : VT := .mk 5 0 ⟨#[]⟩ [leafT 2 1 ⟨#[]⟩, leafT 2 2 ⟨#[]⟩] [] []
def tRow : VT := .mk 6 0 ⟨#[]⟩ [] [cRA] [tRL]
end Go.Proofs.YteimbjamnfkapaaGreatDoor
/- The statements of stage 16: the value that they ask first; heads and rows held against each other. -/
namespace Go.Proofs.YteimbjamnfkapaaGreatDoor
open Go.RowKit
def cF (l : List UInt8) : ByteArray := mkS l
def tOa : VT := leafT 2 1 ⟨#[]⟩
def tOx : VT := leafT 4 0 ⟨#[120]⟩
def tOc : VT := .mk 6 0 ⟨#[]⟩ [] [⟨#[99]⟩] [tOx]
def tOm : VT := .mk 6 0 ⟨#[]⟩ [] [⟨#[97]⟩, ⟨#[98]⟩] [tOa, tOc]
def tOne : VT := .mk 5 0 ⟨#[]⟩ [tOm] [] []
def Cs (w : World) (b : Nat) (l : List Value) : Prop := ∀ i v, l[i]? = some v → w.cell? ⟨b, i, none⟩ = some v
theorem Cs.onto {w w' : World} {b : Nat} {l : List Value} (h : Cs w b l) (hb : Below w.heap.size w w') : Cs w' b l := fun i v hv => keepCell hb (h i v hv)
theorem InS.sl {w : World} {ks : List ByteArray} {u : Value} (h : InS w ks u) : ∃ o c, u = .slice o ks.length c := by
 obtain ⟨_, ⟨o, c, rfl, -⟩, -⟩ := h
 exact ⟨o, c, rfl⟩
theorem InRs.sl {w : World} {ks : List (List ByteArray)} {u : Value} (h : InRs w ks u) : ∃ o c, u = .slice o ks.length c := by
 obtain ⟨_, ⟨o, c, rfl, -⟩, -⟩ := h
 exact ⟨o, c, rfl⟩
end Go.Proofs.YteimbjamnfkapaaGreatDoor
/- The statements of stage 16: what they ask first; FlatKnown. -/
namespace Go.Proofs.YteimbjamnfkapaaGreatDoor
open Go.RowKit
def GlobF (w : World) : Prop := GlobC5 w ∧ Glob5 w
theorem GlobF.on {w w' : World} (h : GlobF w) (hb : Below w.heap.size w w') : GlobF w' := ⟨h.1.on hb, h.2.on hb⟩
end Go.Proofs.YteimbjamnfkapaaGreatDoor
