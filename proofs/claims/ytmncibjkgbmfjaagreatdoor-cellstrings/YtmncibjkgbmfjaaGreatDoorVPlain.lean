/- Trees that may be: the mathematics of it. -/
import Derived.Test.YtmncibjkgbmfjaaGreatDoorVNode
import Derived.Test.YtmncibjkgbmfjaaGreatDoorVBase
namespace Go.Proofs.YtmncibjkgbmfjaaGreatDoor
open Go.RowKit

mutual
/-- a tree may be, whatever its size -/
def plainT : VT → Bool
  | .mk k n s L K V => nodeB (.mk k n s L K V) && plainL L && plainL V
def plainL : List VT → Bool
  | [] => true
  | t :: r => plainT t && plainL r
end
theorem plainT_eq (T : VT) : plainT T = (nodeB T && plainL T.ls && plainL T.vs) := by cases T; rw [plainT]; rfl
theorem plainL_get : ∀ (L : List VT), plainL L = true ↔ ∀ (i : Nat) (t : VT), L[i]? = some t → plainT t = true
  | [] => by simp [plainL]
  | a :: r => by
    simp only [plainL, Bool.and_eq_true]
    rw [plainL_get r]
    constructor
    · rintro ⟨h1, h2⟩ i t hi
      cases i with
      | zero => simp at hi; subst hi; exact h1
      | succ i => simp at hi; exact h2 i t hi
    · intro g
      exact ⟨g 0 a rfl, fun i t hi => g (i + 1) t (by simpa using hi)⟩
theorem hgL_get : ∀ (L : List VT) (m : Nat), hgL L ≤ m ↔ ∀ (i : Nat) (t : VT), L[i]? = some t → hgT t ≤ m
  | [], m => by simp [hgL]
  | a :: r, m => by
    simp only [hgL, Nat.max_le]
    rw [hgL_get r m]
    constructor
    · rintro ⟨h1, h2⟩ i t hi
      cases i with
      | zero => simp at hi; subst hi; exact h1
      | succ i => simp at hi; exact h2 i t hi
    · intro g
      exact ⟨g 0 a rfl, fun i t hi => g (i + 1) t (by simpa using hi)⟩
/-- a tree may be, with so many nodes ahead of it, so deep below the top -/
def mayB (c d : Int) (T : VT) : Bool := decide (c + szT T ≤ 4096 ∧ d + hgT T ≤ 33) && plainT T
theorem good_node {c d : Int} {T : VT} (h : mayB c d T = true) : c + 1 ≤ 4096 ∧ d ≤ 32 ∧ nodeB T = true := by
  unfold mayB at h
  simp only [Bool.and_eq_true, decide_eq_true_eq] at h
  have h1 := szT_pos T; have h2 := hgT_pos T
  have h3 := h.2
  rw [plainT_eq] at h3
  simp only [Bool.and_eq_true] at h3
  exact ⟨by omega, by omega, h3.1.1⟩
theorem hg_ls (T : VT) : hgL T.ls + 1 ≤ hgT T ∧ hgL T.vs + 1 ≤ hgT T := by cases T; simp only [hgT, VT.ls, VT.vs]; omega
theorem sz_both (T : VT) : szT T = 1 + szL T.ls + szL T.vs := by cases T; simp only [szT, VT.ls, VT.vs]
theorem hg_both (T : VT) : hgT T = 1 + max (hgL T.ls) (hgL T.vs) := by cases T; simp only [hgT, VT.ls, VT.vs]
theorem good_ls {c d : Int} {T : VT} (h : mayB c d T = true) (i : Nat) (t : VT) (ht : T.ls[i]? = some t) : mayB (c + 1 + szL (T.ls.take i)) (d + 1) t = true := by
  unfold mayB at *
  simp only [Bool.and_eq_true, decide_eq_true_eq] at *
  have h3 := h.2
  rw [plainT_eq] at h3
  simp only [Bool.and_eq_true] at h3
  have h4 := szL_take_succ T.ls i t ht
  have h5 := szL_take_le T.ls (i + 1)
  have h6 := (hgL_get T.ls _).1 (Nat.le_refl _) i t ht
  have h7 := hg_ls T
  have h8 := sz_both T
  exact ⟨⟨by omega, by omega⟩, (plainL_get _).1 h3.1.2 i t ht⟩
theorem good_vs {c d : Int} {T : VT} (h : mayB c d T = true) (i : Nat) (t : VT) (ht : T.vs[i]? = some t) : mayB (c + 1 + szL T.ls + szL (T.vs.take i)) (d + 1) t = true := by
  unfold mayB at *
  simp only [Bool.and_eq_true, decide_eq_true_eq] at *
  have h3 := h.2
  rw [plainT_eq] at h3
  simp only [Bool.and_eq_true] at h3
  have h4 := szL_take_succ T.vs i t ht
  have h5 := szL_take_le T.vs (i + 1)
  have h6 := (hgL_get T.vs _).1 (Nat.le_refl _) i t ht
  have h7 := hg_ls T
  have h8 := sz_both T
  exact ⟨⟨by omega, by omega⟩, (plainL_get _).1 h3.2 i t ht⟩
theorem good_sz {c d : Int} {T : VT} (h : mayB c d T = true) : c + szT T ≤ 4096 ∧ d + hgT T ≤ 33 ∧ plainT T = true := by
  unfold mayB at h
  simp only [Bool.and_eq_true, decide_eq_true_eq] at h
  exact ⟨h.1.1, h.1.2, h.2⟩
theorem good_all {c d : Int} {T : VT} (hd : d ≤ 32) (hc : c + 1 + szL T.ls + szL T.vs ≤ 4096) (hn : nodeB T = true) (h1 : ∀ (i : Nat) (t : VT), T.ls[i]? = some t → d + 1 + hgT t ≤ 33 ∧ plainT t = true) (h2 : ∀ (i : Nat) (t : VT), T.vs[i]? = some t → d + 1 + hgT t ≤ 33 ∧ plainT t = true) : mayB c d T = true := by
  unfold mayB
  have h8 := sz_both T
  have h9 := hg_both T
  have g1 := (hgL_get T.ls (32 - d).toNat).2 (fun i t h => by have := (h1 i t h).1; omega)
  have g2 := (hgL_get T.vs (32 - d).toNat).2 (fun i t h => by have := (h2 i t h).1; omega)
  rw [plainT_eq, hn, (plainL_get _).2 (fun i t h => (h1 i t h).2), (plainL_get _).2 (fun i t h => (h2 i t h).2), decide_eq_true (by constructor <;> omega)]
  rfl
end Go.Proofs.YtmncibjkgbmfjaaGreatDoor
