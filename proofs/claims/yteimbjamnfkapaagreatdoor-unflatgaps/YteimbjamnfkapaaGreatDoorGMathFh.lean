/- The library's table of powers, and a number's digits written by it. -/
import Derived.Test.YteimbjamnfkapaaGreatDoorGDecOne
import Derived.Test.YteimbjamnfkapaaGreatDoorGMathDecAll
import Derived.Lib.AppendIntMem
import Derived.Test.YteimbjamnfkapaaGreatDoorGVSameT
import Derived.Test.YteimbjamnfkapaaGreatDoorGCeA
import Derived.Test.YteimbjamnfkapaaGreatDoorGVGood
import Derived.Test.YteimbjamnfkapaaGreatDoorGFlF
import Derived.Test.YteimbjamnfkapaaGreatDoorGMathFd
import Derived.Test.YteimbjamnfkapaaGreatDoorGOwnB
import Derived.Test.YteimbjamnfkapaaGreatDoorGMathCell
import Derived.Test.YteimbjamnfkapaaGreatDoorGRefMake
/- Plain mathematics: trees that are alike, strictly, are one. -/
/- Package cell, walked: writeString, write, Text. -/
namespace Go.Proofs.YteimbjamnfkapaaGreatDoor
open Go.RowKit
def GlobW (w : World) : Prop := Lib.TabIs Tryz.prog w "internal/strconv.uint64pow10" .u64 Lib.pow10Tab
theorem GlobW.on {w w' : World} (h : GlobW w) (hb : Below w.heap.size w w') : GlobW w' := var_on hb h
mutual
theorem same_eq : ∀ T U : VT, sameT false T U = true → T = U
 | .mk k n s L K V, .mk k' n' s' L' K' V', h => by
  rw [sameT, Bool.and_eq_true, Bool.and_eq_true, Bool.and_eq_true, Bool.and_eq_true] at h
  obtain ⟨⟨⟨⟨h0, h5⟩, h6⟩, h7⟩, h8⟩ := h
  obtain ⟨h1, h2, h3, h4⟩ := of_decide_eq_true h0
  have h7 : K = K' := of_decide_eq_true h7
  have h1 : k = k' := h1
  have h2 : n = n' := h2
  have h5 : strB false k s s' = true := h5
  unfold strB at h5
  simp at h5
  rw [h1, h2, h5, h7, sameL_eq L L' h3 h6, sameL_eq V V' h4 h8]
theorem sameL_eq : ∀ L M : List VT, L.length = M.length → sameL false L M = true → L = M
 | [], [], _, _ => rfl
 | [], _ :: _, h, _ => by simp at h
 | _ :: _, [], h, _ => by simp at h
 | t :: r, u :: q, h, g => by
  rw [sameL, Bool.and_eq_true] at g
  rw [same_eq t u g.1, sameL_eq r q (by simpa using h) g.2]
end
mutual
theorem eq_same : ∀ T : VT, sameT false T T = true
 | .mk k n s L K V => by
  have h1 := eqL_same L
  have h2 := eqL_same V
  simp [sameT, strB, VT.kd, VT.nm, VT.st, VT.ls, VT.ks, VT.vs, h1, h2]
theorem eqL_same : ∀ L : List VT, sameL false L L = true
 | [] => by rw [sameL]
 | t :: r => by rw [sameL, eq_same t, eqL_same r]; rfl
end
end Go.Proofs.YteimbjamnfkapaaGreatDoor
namespace Go.Proofs.YteimbjamnfkapaaGreatDoor
open Go.RowKit
def GlobC5 (w : World) : Prop := Glob w ∧ GlobW w
theorem GlobC5.on {w w' : World} (h : GlobC5 w) (hb : Below w.heap.size w w') : GlobC5 w' := ⟨h.1.on hb, h.2.on hb⟩
end Go.Proofs.YteimbjamnfkapaaGreatDoor
/- flat.names and flat.row, walked. -/
namespace Go.Proofs.YteimbjamnfkapaaGreatDoor
open Go.RowKit
structure Fil (w wr : World) (n : Nat) (K : List ByteArray) : Prop where
 bel : Below w.heap.size w wr
 own : wr.ownsRow w.heap.size 9 1 (.slice (some ⟨w.heap.size, 0, none⟩) n n) n (K.map Value.string)
theorem Fil.onto {w wr wr' : World} {n : Nat} {K : List ByteArray} (h : Fil w wr n K) (hb : Below wr.heap.size wr wr') : Fil w wr' n K := ⟨vonto h.bel hb, ownsRow_below h.own hb⟩
theorem Fil.new (w : World) (n : Nat) (h : n ≤ 1000001) : Fil w (w.alloc (.cells (madeCells #[.string ⟨#[]⟩] n) 9)) n (List.replicate n ⟨#[]⟩) := by
 refine ⟨valloc_bel (Below.refl _ _) _, ?_⟩
 have := World.ownsRow_lit (e := 9) (size := 1) (base := w.heap.size) w (madeCells #[.string ⟨#[]⟩] n) n (Nat.le_refl _) (by unfold maxLen; omega) (by rw [size_madeCells]; omega)
 rw [toList_madeCells_one] at this
 rw [List.map_replicate]; exact this
theorem Fil.len {w wr : World} {n : Nat} {K : List ByteArray} (h : Fil w wr n K) : K.length = n := by have := h.own.1; simp at this; omega
theorem Fil.set {w wr : World} {n : Nat} {K : List ByteArray} (h : Fil w wr n K) (j : Nat) (c : ByteArray) : Fil w (wr.setCell ⟨w.heap.size, j, none⟩ (.string c)) n (K.set j c) := by
 refine ⟨vset_bel h.bel (Nat.le_refl _), ?_⟩
 have := (h.own.stored j (.string c)).1
 rw [List.map_set]; exact this
theorem Fil.cell {w wr : World} {n : Nat} {K : List ByteArray} (h : Fil w wr n K) {j : Nat} (hj : j < n) : ∃ c, wr.cell? ⟨w.heap.size, j, none⟩ = some (.string c) := by
 have hl := h.len
 refine ⟨K[j], ?_⟩
 rw [h.own.cellAt j (by omega), List.getElem?_map, List.getElem?_eq_getElem (by omega)]; rfl
structure StrO (w wr : World) (K : List ByteArray) (v : Value) : Prop where
 own : wr.ownsRow w.heap.size 9 1 v K.length (K.map Value.string)
 sm : ∀ c ∈ K, c.size ≤ maxLen
theorem StrO.onto {w wr wr' : World} {K : List ByteArray} {v : Value} (h : StrO w wr K v) (hb : Below wr.heap.size wr wr') : StrO w wr' K v := ⟨ownsRow_below h.own hb, h.sm⟩
def nmP (p : List PStep) : ByteArray := mkS ((textP p).drop 1)
def nmL (C : List (List PStep)) (j : Nat) : List ByteArray := (C.take j).map nmP ++ List.replicate (C.length - j) ⟨#[]⟩
end Go.Proofs.YteimbjamnfkapaaGreatDoor
/- flat.row and flat.listOfMaps, walked. -/
namespace Go.Proofs.YteimbjamnfkapaaGreatDoor
open Go.RowKit
def cellP (T : VT) : ByteArray := if celB T = true then mkS (celW T) else ⟨#[]⟩
def rowF (l : List (List PStep × VT)) (C : List (List PStep)) (R : List ByteArray) : List ByteArray := l.foldl (fun R e => R.set (posC C e.1) (cellP e.2)) R
def rowM (l : List (List PStep × VT)) (C : List (List PStep)) : List ByteArray := rowF l C (List.replicate C.length ⟨#[]⟩)
def lomB (T : VT) : Bool := decide (T.kd = 5) && !T.ls.isEmpty && mayB 0 1 T && T.ls.all (fun t => decide (t.kd = 6) && !t.vs.isEmpty)
end Go.Proofs.YteimbjamnfkapaaGreatDoor
/- Plain mathematics of leaves: where they are, of what form their paths; what stands there; how long their cells are. -/
namespace Go.Proofs.YteimbjamnfkapaaGreatDoor
open Go.RowKit
theorem mem_lfL : ∀ (r : List VT) (i : Nat) (p : List PStep) (z : List PStep × VT), z ∈ lfL r i p → ∃ (j : Nat) (t : VT), r[j]? = some t ∧ z ∈ lfT t (p ++ [lpl (i + j)])
 | [], _, _, _, h => by simp [lfL] at h
 | a :: r, i, p, z, h => by
  rw [lfL, List.mem_append] at h
  rcases h with h | h
  ·exact ⟨0, a, rfl, h⟩
  ·obtain ⟨j, t, h1, h2⟩ := mem_lfL r (i + 1) p z h
   exact ⟨j + 1, t, h1, by rw [show i + (j + 1) = i + 1 + j by omega]; exact h2⟩
theorem mem_lfM : ∀ (r : List VT) (K : List ByteArray) (p : List PStep) (z : List PStep × VT), K.length = r.length → z ∈ lfM r K p → ∃ (j : Nat) (t : VT) (c : ByteArray), r[j]? = some t ∧ K[j]? = some c ∧ z ∈ lfT t (p ++ [lky c])
 | [], _, _, _, _, h => by simp [lfM] at h
 | a :: r, [], p, z, hl, h => by simp at hl
 | a :: r, c :: K, p, z, hl, h => by
  rw [lfM, List.mem_append] at h
  rcases h with h | h
  ·exact ⟨0, a, c, rfl, rfl, h⟩
  ·obtain ⟨j, t, d, h1, h2, h3⟩ := mem_lfM r K p z (by simpa using hl) h
   exact ⟨j + 1, t, d, h1, h2, h3⟩
theorem lfL_mem : ∀ (r : List VT) (i : Nat) (p : List PStep) (z : List PStep × VT) (j : Nat) (t : VT), r[j]? = some t → z ∈ lfT t (p ++ [lpl (i + j)]) → z ∈ lfL r i p
 | [], _, _, _, _, _, h, _ => by simp at h
 | a :: r, i, p, z, 0, t, h, hz => by
  simp at h; subst h
  rw [lfL, List.mem_append]; exact .inl hz
 | a :: r, i, p, z, j + 1, t, h, hz => by
  rw [lfL, List.mem_append]
  exact .inr (lfL_mem r (i + 1) p z j t (by simpa using h) (by rw [show i + 1 + j = i + (j + 1) by omega]; exact hz))
theorem lfM_mem : ∀ (r : List VT) (K : List ByteArray) (p : List PStep) (z : List PStep × VT) (j : Nat) (t : VT) (c : ByteArray), r[j]? = some t → K[j]? = some c → z ∈ lfT t (p ++ [lky c]) → z ∈ lfM r K p
 | [], _, _, _, _, _, _, h, _, _ => by simp at h
 | a :: r, [], p, z, j, t, c, _, h, _ => by simp at h
 | a :: r, d :: K, p, z, 0, t, c, h, hc, hz => by
  simp at h hc; subst h hc
  rw [lfM, List.mem_append]; exact .inl hz
 | a :: r, d :: K, p, z, j + 1, t, c, h, hc, hz => by
  rw [lfM, List.mem_append]
  exact .inr (lfM_mem r K p z j t c (by simpa using h) (by simpa using hc) hz)
structure LfAt (T : VT) (p q : List PStep) (t : VT) (r : List PStep) : Prop where
 e : q = p ++ r
 g : getP T r = some t
 f : ∀ s ∈ r, Frm s ∧ s.key.size ≤ 4096
 h : r.length + 1 ≤ hgT T
 b : t.ls = [] ∧ t.vs = []
 pl : plainT t = true
end Go.Proofs.YteimbjamnfkapaaGreatDoor
/- flat.Flat: what it says; its memory: the maps' leaves, the rows. -/
namespace Go.Proofs.YteimbjamnfkapaaGreatDoor
open Go.RowKit
def flatX (T : VT) : List (List (List PStep × VT)) := T.ls.map fun t => lfT t []
def flatC (T : VT) : List (List PStep) := colA (flatX T)
def flatN (T : VT) : List ByteArray := (flatC T).map nmP
def flatW (T : VT) : List (List ByteArray) := (flatX T).map fun l => rowM l (flatC T)
def flatL (T : VT) : Bool := (flatN T).any longS || (flatW T).any longR
def flatE (T : VT) : Int := if lomB T = false then 1 else if 512 < T.ls.length then 2 else if 64 < (flatC T).length then 2 else if flatL T = true then 2 else 0
def flatH (T : VT) : List ByteArray := if flatE T = 0 then flatN T else []
def flatR (T : VT) : List (List ByteArray) := if flatE T = 0 then flatW T else []
def FlatPost (T : VT) (w : World) (e : Ending) (w' : World) : Prop := ∃ h r, e = .returned (.tuple #[.agg #[h, r], .int .i64 (flatE T)]) ∧ InS w' (flatH T) h ∧ InRs w' (flatR T) r ∧ Below w.heap.size w w'
theorem ins_nil (w : World) : InS w [] (.slice none 0 0) := ⟨⟨0, 0, none⟩, ⟨none, 0, rfl, Nat.le_refl _, Nat.zero_le _, fun h => absurd h (by simp)⟩, fun i s h => by simp at h⟩
structure MpS (w wr : World) (g n : Nat) (U : List Value) (Es : List (List LE)) : Prop where
 bel : Below w.heap.size w wr
 lo : w.heap.size ≤ g
 own : wr.ownsRow w.heap.size 38 1 (.slice (some ⟨g, 0, none⟩) n n) n U
 es : ∀ (i : Nat) (E : List LE), Es[i]? = some E → ∃ u, U[i]? = some u ∧ wr.ownsRow (g + 1) 43 6 u E.length (E.flatMap lcE) ∧ ∀ e ∈ E, wr.ownsRow (g + 1) 78 3 e.u e.p.length (e.p.flatMap sc) ∧ Bare e
theorem MpS.onto {w wr wr' : World} {g n : Nat} {U : List Value} {Es : List (List LE)} (h : MpS w wr g n U Es) (hb : Below wr.heap.size wr wr') : MpS w wr' g n U Es :=
 ⟨vonto h.bel hb, h.lo, ownsRow_below h.own hb, fun i E hE => by
  obtain ⟨u, h1, h2, h3⟩ := h.es i E hE
  exact ⟨u, h1, ownsRow_below h2 hb, fun e he => ⟨ownsRow_below (h3 e he).1 hb, (h3 e he).2⟩⟩⟩
theorem MpS.ulen {w wr : World} {g n : Nat} {U : List Value} {Es : List (List LE)} (h : MpS w wr g n U Es) : U.length = n := by have := h.own.1; omega
theorem MpS.cell {w wr : World} {g n : Nat} {U : List Value} {Es : List (List LE)} (h : MpS w wr g n U Es) {j : Nat} (hj : j < n) : ∃ c, wr.cell? ⟨g, j, none⟩ = some c := by
 have hl := h.ulen
 exact ⟨U[j], by rw [h.own.cellAt j (by omega), List.getElem?_eq_getElem]⟩
theorem MpS.set {w wr : World} {g n : Nat} {U : List Value} {Es : List (List LE)} (h : MpS w wr g n U Es) (hj : Es.length < n) {v : Value} {E : List LE} (hv : wr.ownsRow (g + 1) 43 6 v E.length (E.flatMap lcE)) (hE : ∀ e ∈ E, wr.ownsRow (g + 1) 78 3 e.u e.p.length (e.p.flatMap sc) ∧ Bare e) :
  MpS w (wr.setCell ⟨g, Es.length, none⟩ v) g n (U.set Es.length v) (Es ++ [E]) := by
 have hl := h.ulen
 refine ⟨vset_bel h.bel h.lo, h.lo, (h.own.stored Es.length v).1, fun i E' hE' => ?_⟩
 by_cases hi : i < Es.length
 ·rw [List.getElem?_append_left hi] at hE'
  obtain ⟨u, h1, h2, h3⟩ := h.es i E' hE'
  exact ⟨u, by rw [List.getElem?_set_ne (by omega)]; exact h1, ownsRow_setCell_below h2 (by show g < g + 1; omega) _, fun e he => ⟨ownsRow_setCell_below (h3 e he).1 (by show g < g + 1; omega) _, (h3 e he).2⟩⟩
 ·rw [List.getElem?_append_right (by omega)] at hE'
  have hi2 : i = Es.length := by
   have := lt_of_some hE'
   simp at this; omega
  subst hi2
  rw [Nat.sub_self] at hE'
  simp at hE'
  subst hE'
  exact ⟨v, by rw [List.getElem?_set_self (by omega)], ownsRow_setCell_below hv (by show g < g + 1; omega) _, fun e he => ⟨ownsRow_setCell_below (hE e he).1 (by show g < g + 1; omega) _, (hE e he).2⟩⟩
structure RwS (w wr : World) (g n : Nat) (U : List Value) (Ks : List (List ByteArray)) : Prop where
 bel : Below w.heap.size w wr
 lo : w.heap.size ≤ g
 own : wr.ownsRow w.heap.size 22 1 (.slice (some ⟨g, 0, none⟩) n n) n U
 es : ∀ (i : Nat) (K : List ByteArray), Ks[i]? = some K → ∃ u, U[i]? = some u ∧ wr.ownsRow (g + 1) 9 1 u K.length (K.map Value.string) ∧ ∀ c ∈ K, c.size ≤ maxLen
theorem RwS.onto {w wr wr' : World} {g n : Nat} {U : List Value} {Ks : List (List ByteArray)} (h : RwS w wr g n U Ks) (hb : Below wr.heap.size wr wr') : RwS w wr' g n U Ks :=
 ⟨vonto h.bel hb, h.lo, ownsRow_below h.own hb, fun i E hE => by
  obtain ⟨u, h1, h2, h3⟩ := h.es i E hE
  exact ⟨u, h1, ownsRow_below h2 hb, h3⟩⟩
theorem RwS.ulen {w wr : World} {g n : Nat} {U : List Value} {Ks : List (List ByteArray)} (h : RwS w wr g n U Ks) : U.length = n := by have := h.own.1; omega
theorem RwS.cell {w wr : World} {g n : Nat} {U : List Value} {Ks : List (List ByteArray)} (h : RwS w wr g n U Ks) {j : Nat} (hj : j < n) : ∃ c, wr.cell? ⟨g, j, none⟩ = some c := by
 have hl := h.ulen
 exact ⟨U[j], by rw [h.own.cellAt j (by omega), List.getElem?_eq_getElem]⟩
theorem RwS.set {w wr : World} {g n : Nat} {U : List Value} {Ks : List (List ByteArray)} (h : RwS w wr g n U Ks) (hj : Ks.length < n) {v : Value} {K : List ByteArray} (hv : wr.ownsRow (g + 1) 9 1 v K.length (K.map Value.string)) (hK : ∀ c ∈ K, c.size ≤ maxLen) :
  RwS w (wr.setCell ⟨g, Ks.length, none⟩ v) g n (U.set Ks.length v) (Ks ++ [K]) := by
 have hl := h.ulen
 refine ⟨vset_bel h.bel h.lo, h.lo, (h.own.stored Ks.length v).1, fun i E' hE' => ?_⟩
 by_cases hi : i < Ks.length
 ·rw [List.getElem?_append_left hi] at hE'
  obtain ⟨u, h1, h2, h3⟩ := h.es i E' hE'
  exact ⟨u, by rw [List.getElem?_set_ne (by omega)]; exact h1, ownsRow_setCell_below h2 (by show g < g + 1; omega) _, h3⟩
 ·rw [List.getElem?_append_right (by omega)] at hE'
  have hi2 : i = Ks.length := by
   have := lt_of_some hE'
   simp at this; omega
  subst hi2
  rw [Nat.sub_self] at hE'
  simp at hE'
  subst hE'
  exact ⟨v, by rw [List.getElem?_set_self (by omega)], ownsRow_setCell_below hv (by show g < g + 1; omega) _, hK⟩
theorem stro_ins {wr : World} {B : Nat} {K : List ByteArray} {v : Value} (h : wr.ownsRow B 9 1 v K.length (K.map Value.string)) (hs : ∀ c ∈ K, c.size ≤ maxLen) : InS wr K v := by
 have hc := h
 rcases hc with ⟨-, ⟨rfl, h0⟩ | ⟨g, cap, cur, rfl, -, -, hn, hcm, -, -⟩⟩
 ·have : K = [] := List.eq_nil_of_length_eq_zero h0
  subst this
  exact ins_nil _
 ·refine ⟨⟨g, 0, none⟩, ⟨_, _, rfl, hn, hcm, fun _ => rfl⟩, fun i c hc => ⟨?_, hs c (List.mem_of_getElem? hc)⟩⟩
  have hi := lt_of_some hc
  rw [add_at, h.cellAt i (by omega), List.getElem?_map, hc]; rfl
theorem MpS.new (w wr : World) (hb : Below w.heap.size w wr) (n : Nat) (h : n ≤ 1000001) : MpS w (wr.alloc (.cells (madeCells #[.slice none 0 0] n) 38)) wr.heap.size n (List.replicate n (.slice none 0 0)) [] := by
 have hs := hb.size
 refine ⟨valloc_bel hb _, hs, ?_, fun i E h => by simp at h⟩
 have := World.ownsRow_lit (e := 38) (size := 1) (base := w.heap.size) wr (madeCells #[.slice none 0 0] n) n hs (by unfold maxLen; omega) (by rw [size_madeCells]; omega)
 rw [toList_madeCells_one] at this
 exact this
theorem RwS.new (w wr : World) (hb : Below w.heap.size w wr) (n : Nat) (h : n ≤ 1000001) : RwS w (wr.alloc (.cells (madeCells #[.slice none 0 0] n) 22)) wr.heap.size n (List.replicate n (.slice none 0 0)) [] := by
 have hs := hb.size
 refine ⟨valloc_bel hb _, hs, ?_, fun i E h => by simp at h⟩
 have := World.ownsRow_lit (e := 22) (size := 1) (base := w.heap.size) wr (madeCells #[.slice none 0 0] n) n hs (by unfold maxLen; omega) (by rw [size_madeCells]; omega)
 rw [toList_madeCells_one] at this
 exact this
end Go.Proofs.YteimbjamnfkapaaGreatDoor
/- Plain mathematics: a list's maps the other way round: the same columns, the rows the other way round. -/
namespace Go.Proofs.YteimbjamnfkapaaGreatDoor
open Go.RowKit
def revT (T : VT) : VT := .mk 5 0 ⟨#[]⟩ T.ls.reverse [] []
end Go.Proofs.YteimbjamnfkapaaGreatDoor
/- flat.Flat, walked: what is no list of maps; too many maps; and the rest. -/
namespace Go.Proofs.YteimbjamnfkapaaGreatDoor
open Go.RowKit
end Go.Proofs.YteimbjamnfkapaaGreatDoor
/- Plain mathematics of a table: each leaf's path once; a row's cells that are not empty are as many as the leaves; a head's names are paths' texts. -/
namespace Go.Proofs.YteimbjamnfkapaaGreatDoor
open Go.RowKit
def cntF (R : List ByteArray) : Nat := R.countP (fun c => !c.toList.isEmpty)
end Go.Proofs.YteimbjamnfkapaaGreatDoor
