/- How many nodes a tree has, and how deep it is. -/
import Derived.Test.YtnpojefcibfgkabGreatDoorVTree
namespace Go.Proofs.YtnpojefcibfgkabGreatDoor
open Go.RowKit

theorem szL_take_succ (L : List VT) (i : Nat) (t : VT) (h : L[i]? = some t) : szL (L.take (i + 1)) = szL (L.take i) + szT t := by
  induction L generalizing i with
  | nil => simp at h
  | cons a r ih =>
    cases i with
    | zero => simp at h; subst h; simp [szL]
    | succ i => simp at h; rw [List.take_succ_cons, List.take_succ_cons, szL, szL, ih i h]; omega
theorem szL_take_le (L : List VT) : ∀ i, szL (L.take i) ≤ szL L := by
  induction L with
  | nil => intro i; simp [szL]
  | cons a r ih =>
    intro i
    cases i with
    | zero => simp [szL]
    | succ i => rw [List.take_succ_cons, szL, szL]; have := ih i; omega
theorem box_cell (w wr : World) (c0 c1 c2 c3 c4 : Value) (t : TypeId) (h : Below (w.heap.size + 1) (w.alloc (.cells #[c0, c1, c2, c3, c4] t)) wr) (j : Nat) (u : Value) (hj : [c0, c1, c2, c3, c4][j]? = some u) : wr.cell? ⟨w.heap.size, j, none⟩ = some u := by
  rw [h.cell (show w.heap.size < w.heap.size + 1 by omega)]
  have := new_cells w [c0, c1, c2, c3, c4] t j u hj
  rw [← this]
  by_cases h0 : j = 0
  · subst h0; simp [Addr.add]
  · simp [Addr.add, h0]
mutual
def hgT : VT → Nat
  | .mk _ _ _ L _ V => 1 + max (hgL L) (hgL V)
def hgL : List VT → Nat
  | [] => 0
  | t :: r => max (hgT t) (hgL r)
end
theorem hgL_take_succ (L : List VT) (i : Nat) (t : VT) (h : L[i]? = some t) : hgL (L.take (i + 1)) = max (hgL (L.take i)) (hgT t) := by
  induction L generalizing i with
  | nil => simp at h
  | cons a r ih =>
    cases i with
    | zero => simp at h; subst h; simp [hgL]
    | succ i => simp at h; rw [List.take_succ_cons, List.take_succ_cons, hgL, hgL, ih i h]; omega
theorem hgL_take_le (L : List VT) : ∀ i, hgL (L.take i) ≤ hgL L := by
  induction L with
  | nil => intro i; simp [hgL]
  | cons a r ih =>
    intro i
    cases i with
    | zero => simp [hgL]
    | succ i => rw [List.take_succ_cons, hgL, hgL]; have := ih i; omega
mutual
theorem hg_sz : ∀ T : VT, hgT T ≤ szT T
  | .mk _ _ _ L _ V => by have h1 := hgL_sz L; have h2 := hgL_sz V; simp only [hgT, szT]; omega
theorem hgL_sz : ∀ L : List VT, hgL L ≤ szL L
  | [] => by simp [hgL, szL]
  | t :: r => by have h1 := hg_sz t; have h2 := hgL_sz r; simp only [hgL, szL]; omega
end
theorem hgT_pos (T : VT) : 1 ≤ hgT T := by cases T; simp only [hgT]; omega
end Go.Proofs.YtnpojefcibfgkabGreatDoor
