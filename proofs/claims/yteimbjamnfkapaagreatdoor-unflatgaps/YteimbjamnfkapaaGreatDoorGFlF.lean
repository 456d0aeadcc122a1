/- Strings that are handed in. -/
import Derived.Test.YteimbjamnfkapaaGreatDoorGMathFd
import Derived.Test.YteimbjamnfkapaaGreatDoorGFlG
import Derived.Test.YteimbjamnfkapaaGreatDoorGFlB5
import Derived.Test.YteimbjamnfkapaaGreatDoorGVBase
import Derived.Test.YteimbjamnfkapaaGreatDoorGPathOne
/- flat.columnsOf, walked. -/
namespace Go.Proofs.YteimbjamnfkapaaGreatDoor
open Go.RowKit
def InLf (w : World) (l : List (List PStep × VT)) (v : Value) : Prop := ∃ a, SlOf v a l.length ∧ ∀ i e, l[i]? = some e → ∃ u x y, w.cell? (a.add (i * 6)) = some u ∧ Node w (nx (a.add (i * 6))) e.2 x y ∧ InP w e.1 u ∧ HV w e.2 x y
theorem InLf.onto {w w' : World} {l : List (List PStep × VT)} {v : Value} (h : InLf w l v) (hb : Below w.heap.size w w') : InLf w' l v := by
 obtain ⟨a, h1, h2⟩ := h
 exact ⟨a, h1, fun i e he => by obtain ⟨u, x, y, h3, h4, h5, h6⟩ := h2 i e he; exact ⟨u, x, y, keepCell hb h3, h4.onto hb, h5.onto hb, h6.onto hb⟩⟩
def InMs (w : World) (X : List (List (List PStep × VT))) (v : Value) : Prop := ∃ a, SlOf v a X.length ∧ ∀ i l, X[i]? = some l → ∃ u, w.cell? (a.add i) = some u ∧ InLf w l u
theorem InMs.onto {w w' : World} {X : List (List (List PStep × VT))} {v : Value} (h : InMs w X v) (hb : Below w.heap.size w w') : InMs w' X v := by
 obtain ⟨a, h1, h2⟩ := h
 exact ⟨a, h1, fun i e he => by obtain ⟨u, h3, h4⟩ := h2 i e he; exact ⟨u, keepCell hb h3, h4.onto hb⟩⟩
structure ColS (w wr : World) (cv : Value) (R : List (List PStep)) : Prop where
 bel : Below w.heap.size w wr
 own : ∃ U : List Value, wr.ownsRow w.heap.size 41 1 cv R.length U ∧ U.length = R.length ∧ (∀ (i : Nat) (p : List PStep) (u : Value), R[i]? = some p → U[i]? = some u → InP w p u) ∧ ∀ u ∈ U, u.oneCell' = true
theorem ColS.onto {w wr wr' : World} {cv : Value} {R : List (List PStep)} (h : ColS w wr cv R) (hb : Below wr.heap.size wr wr') : ColS w wr' cv R := by
 obtain ⟨U, h1, h2⟩ := h.own
 exact ⟨vonto h.bel hb, U, ownsRow_below h1 hb, h2⟩
theorem ColS.sl {w wr : World} {cv : Value} {R : List (List PStep)} (h : ColS w wr cv R) : ∃ o c, cv = .slice o R.length c := by
 obtain ⟨U, h1, -⟩ := h.own
 exact own_slice h1
theorem ColS.put {w wr w3 : World} {cv v' u : Value} {R : List (List PStep)} {p : List PStep} (h : ColS w wr cv R) (hn : hasC R p = false) (U : List Value) (hU : wr.ownsRow w.heap.size 41 1 cv R.length U ∧ U.length = R.length ∧ (∀ (i : Nat) (p : List PStep) (u : Value), R[i]? = some p → U[i]? = some u → InP w p u) ∧ ∀ u ∈ U, u.oneCell' = true) (hu : InP w p u) (h1 : u.oneCell' = true)
  (h3 : w3.ownsRow w.heap.size 41 1 v' (R.length + 1) (U.take (posC R p) ++ u :: U.drop (posC R p))) (hg : wr.grownBy w3 cv.ownBlock) : ColS w w3 v' (putC R p) := by
 obtain ⟨a1, a2, a3, a4⟩ := hU
 have hle := posC_le R p
 have e : putC R p = R.take (posC R p) ++ p :: R.drop (posC R p) := by unfold putC; rw [if_neg (by rw [hn]; decide)]
 have el : (putC R p).length = R.length + 1 := by rw [e]; simp; omega
 refine ⟨h.bel.grown hg h.bel.size (fun q hq => (a1.lt q hq).1), U.take (posC R p) ++ u :: U.drop (posC R p), ?_, ?_, ?_, ?_⟩
 ·rw [el]; exact h3
 ·rw [el]; simp; omega
 ·intro i q v hq hv
  rw [cins_at _ _ _ _ (by omega)] at hv
  rw [e] at hq
  by_cases c1 : i < posC R p
  ·rw [if_pos c1] at hv
   rw [List.getElem?_append_left (by simp; omega), List.getElem?_take, if_pos c1] at hq
   exact a3 i q v hq hv
  ·rw [if_neg c1] at hv
   rw [List.getElem?_append_right (by simp; omega), List.length_take, Nat.min_eq_left hle] at hq
   by_cases c2 : i = posC R p
   ·rw [if_pos c2] at hv
    rw [c2, Nat.sub_self] at hq
    simp at hq hv
    subst hq hv; exact hu
   ·rw [if_neg c2] at hv
    rw [show i - posC R p = (i - posC R p - 1) + 1 by omega, List.getElem?_cons_succ, List.getElem?_drop, show posC R p + (i - posC R p - 1) = i - 1 by omega] at hq
    exact a3 (i - 1) q v hq hv
 ·intro v hv
  rcases List.mem_append.1 hv with hv | hv
  ·exact a4 v (List.mem_of_mem_take hv)
  ·rcases List.mem_cons.1 hv with rfl | hv
   ·exact h1
   ·exact a4 v (List.mem_of_mem_drop hv)
theorem inp_slice {w : World} {p : List PStep} {u : Value} (h : InP w p u) : ∃ o c, u = .slice o p.length c := by
 obtain ⟨a, ⟨o, c, rfl, -⟩, -⟩ := h
 exact ⟨o, c, rfl⟩
def ColPost (X : List (List (List PStep × VT))) (w : World) (e : Ending) (w' : World) : Prop := ∃ cv R, e = .returned cv ∧ ColS w w' cv R ∧ Good3 R ∧ R.length ≤ 65 ∧ (R = colA X ∨ (64 < R.length ∧ 64 < (colA X).length))
end Go.Proofs.YteimbjamnfkapaaGreatDoor
namespace Go.Proofs.YteimbjamnfkapaaGreatDoor
open Go.RowKit
def InS (w : World) (ks : List ByteArray) (v : Value) : Prop := ∃ (a : Addr), SlOf v a ks.length ∧ ∀ i c, ks[i]? = some c → w.cell? (a.add i) = some (.string c) ∧ c.size ≤ maxLen
theorem InS.onto {w w' : World} {ks : List ByteArray} {v : Value} (h : InS w ks v) (hb : Below w.heap.size w w') : InS w' ks v := by
 obtain ⟨a, h1, h2⟩ := h
 exact ⟨a, h1, fun i c hc => ⟨keepCell hb (h2 i c hc).1, (h2 i c hc).2⟩⟩
end Go.Proofs.YteimbjamnfkapaaGreatDoor
/- flat.tooLong, walked; slices.ContainsFunc over names, and over rows. -/
namespace Go.Proofs.YteimbjamnfkapaaGreatDoor
open Go.RowKit
def InRs (w : World) (R : List (List ByteArray)) (v : Value) : Prop := ∃ a, SlOf v a R.length ∧ ∀ i K, R[i]? = some K → ∃ u, w.cell? (a.add i) = some u ∧ InS w K u
theorem InRs.onto {w w' : World} {R : List (List ByteArray)} {v : Value} (h : InRs w R v) (hb : Below w.heap.size w w') : InRs w' R v := by
 obtain ⟨a, h1, h2⟩ := h
 exact ⟨a, h1, fun i p hp => by obtain ⟨u, h3, h4⟩ := h2 i p hp; exact ⟨u, keepCell hb h3, h4.onto hb⟩⟩
def longS (c : ByteArray) : Bool := decide (4096 < c.size)
theorem any_no {α : Type} {f : α → Bool} {K : List α} (h : ∀ (i : Nat) (d : α), K[i]? = some d → f d = false) : K.any f = false := by
 rw [List.any_eq_false]
 intro x hx
 obtain ⟨i, hi⟩ := List.getElem?_of_mem hx
 rw [h i x hi]; decide
theorem any_yes {α : Type} {f : α → Bool} {K : List α} {i : Nat} {d : α} (h : K[i]? = some d) (hf : f d = true) : K.any f = true := by
 rw [List.any_eq_true]
 exact ⟨d, List.mem_of_getElem? h, hf⟩
def IdxPost (b : Bool) (w : World) (e : Ending) (w' : World) : Prop := ∃ z : Int, e = .returned (.int .i64 z) ∧ decide (0 ≤ z) = b ∧ Below w.heap.size w w'
def longR (K : List ByteArray) : Bool := K.any longS
end Go.Proofs.YteimbjamnfkapaaGreatDoor
