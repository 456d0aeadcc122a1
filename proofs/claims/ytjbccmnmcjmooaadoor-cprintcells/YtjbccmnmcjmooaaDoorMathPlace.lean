/- Plain mathematics of lines and columns: line ends counted, a line's beginning, the last line's beginning. -/
import Derived.Test.YtjbccmnmcjmooaaDoorMathJ
import Derived.Lib.Bytealg
import Derived.Lib.LastIndexByte
namespace Go.Proofs.YtjbccmnmcjmooaaDoor
open Go.RowKit

theorem byte_no (b : UInt8) (h : ¬ b = 10) : ((b.toNat : Int) == 10) = false := by
  rw [beq_eq_false_iff_ne]; intro hc; apply h; apply UInt8.toNat_inj.1; show _ = 10; omega
/-- how many line ends -/
def nls (l : List UInt8) : Nat := l.count 10
/-- where the last line of the first k bytes begins -/
def bol (l : List UInt8) : Nat → Nat
  | 0 => 0
  | k + 1 => if l.getD k 0 = 10 then k + 1 else bol l k
theorem bol_le (l : List UInt8) : ∀ k, bol l k ≤ k
  | 0 => Nat.le_refl _
  | k + 1 => by have := bol_le l k; unfold bol; split <;> omega
theorem bol_no (l : List UInt8) (k : Nat) (h : ¬ l.getD k 0 = 10) : bol l (k + 1) = bol l k := by rw [bol, if_neg h]
theorem bol_yes (l : List UInt8) (k : Nat) (h : l.getD k 0 = 10) : bol l (k + 1) = k + 1 := by rw [bol, if_pos h]
theorem bol_take (l : List UInt8) (a : Nat) : ∀ k, k ≤ a → bol (l.take a) k = bol l k
  | 0, _ => rfl
  | k + 1, h => by
    have e : (l.take a).getD k 0 = l.getD k 0 := by simp [List.getD, List.getElem?_take_of_lt (show k < a by omega)]
    unfold bol; rw [e, bol_take l a k (by omega)]
/-- a text's last line's column, behind its last byte -/
def colOf (m : List UInt8) : Nat := cnt (m.drop (bol m m.length)) + 1
def linOf (m : List UInt8) : Nat := nls m + 1
theorem nls_le (l : List UInt8) : nls l ≤ l.length := List.count_le_length
theorem nls_take_succ (l : List UInt8) (k : Nat) (h : k < l.length) : nls (l.take (k + 1)) = nls (l.take k) + (if l.getD k 0 = 10 then 1 else 0) := by
  have e : l.getD k 0 = l[k] := by simp [List.getD, h]
  rw [e, List.take_succ_eq_append_getElem h]; unfold nls; rw [List.count_append, List.count_singleton]
  by_cases hb : l[k] = 10 <;> simp [hb]
theorem nls_mono (l : List UInt8) (i j : Nat) (h : i ≤ j) : nls (l.take i) ≤ nls (l.take j) := by
  unfold nls; exact (List.take_sublist_take_left h).count_le _
theorem nls_take_le (l : List UInt8) (i : Nat) : nls (l.take i) ≤ nls l := by
  unfold nls; exact (List.take_sublist i l).count_le _
theorem last_bol (s : ByteArray) : ∀ k, k ≤ s.size → Lib.lastIdx s 10 k + 1 = (bol s.data.toList k : Int)
  | 0, _ => rfl
  | k + 1, h => by
    have hk : k < s.data.toList.length := by simp; omega
    have hk2 : k < s.data.size := by simpa using hk
    have e : s.data[k]! = s.data.toList.getD k 0 := by rw [getElem!_pos s.data k hk2, List.getD, List.getElem?_eq_getElem hk]; simp
    by_cases hb : s.data.toList.getD k 0 = 10
    · rw [Lib.lastIdx_hit s 10 k (by rw [e, hb]; rfl)]; unfold bol; rw [if_pos hb]; omega
    · rw [Lib.lastIdx_miss s 10 k (by rw [e]; intro hc; apply hb; apply UInt8.toNat_inj.1; show _ = 10; omega), last_bol s k (by omega), bol_no _ _ hb]
/-- where the (j+1)-th line begins -/
def lineAt (l : List UInt8) (j : Nat) : Nat := least (fun p => decide (nls (l.take p) < j)) l.length 0
/-- p is where the (j+1)-th line begins -/
def LineAt (l : List UInt8) (j p : Nat) : Prop := nls (l.take p) = j ∧ p ≤ l.length ∧ (p = 0 ∨ l.getD (p - 1) 0 = 10)
theorem lineAt_eq (l : List UInt8) (j p : Nat) (h : LineAt l j p) : lineAt l j = p := by
  obtain ⟨h1, h2, h3⟩ := h
  refine least_eq _ _ _ _ (Nat.zero_le _) (by omega) (by simp [h1]) fun i _ hi => ?_
  have h4 : l.getD (p - 1) 0 = 10 := h3.resolve_left (by omega)
  have h5 := nls_take_succ l (p - 1) (by omega)
  rw [if_pos h4, show p - 1 + 1 = p by omega] at h5
  have := nls_mono l i (p - 1) (by omega)
  simp; omega
theorem LineAt_zero (l : List UInt8) : LineAt l 0 0 := ⟨by simp [nls], Nat.zero_le _, Or.inl rfl⟩
theorem index_spec (c : UInt8) : ∀ l : List UInt8, (Lib.indexByte l c = -1 ∧ l.count c = 0) ∨ ∃ e : Nat, Lib.indexByte l c = (e : Int) ∧ e < l.length ∧ l.getD e 0 = c ∧ (l.take e).count c = 0
  | [] => Or.inl ⟨rfl, rfl⟩
  | b :: l => by
    unfold Lib.indexByte
    by_cases hb : b = c
    · right; refine ⟨0, by simp [hb], by simp, by simp [hb], by simp⟩
    · rcases index_spec c l with ⟨h1, h2⟩ | ⟨e, h1, h2, h3, h4⟩
      · left; refine ⟨by simp [hb, h1], by simp [hb, h2]⟩
      · right; refine ⟨e + 1, ?_, by simpa using h2, by simpa using h3, by simp [hb, h4]⟩
        simp [hb, h1]
theorem LineAt_next (l : List UInt8) (j p e : Nat) (h : LineAt l j p) (he : Lib.indexByte (l.drop p) 10 = (e : Int)) : LineAt l (j + 1) (p + e + 1) := by
  obtain ⟨h1, h2, h3⟩ := h
  rcases index_spec 10 (l.drop p) with ⟨g1, -⟩ | ⟨e', g1, g2, g3, g4⟩
  · omega
  · have : e' = e := by omega
    subst this
    rw [List.length_drop] at g2
    have g5 : l.getD (p + e') 0 = 10 := by simpa [List.getD] using g3
    refine ⟨?_, by omega, Or.inr (by simpa using g5)⟩
    rw [nls_take_succ l (p + e') (by omega), if_pos g5, List.take_add]
    unfold nls at h1 ⊢
    rw [List.count_append, g4, h1]
theorem LineAt_none (l : List UInt8) (j p : Nat) (h : LineAt l j p) (he : Lib.indexByte (l.drop p) 10 = -1) : nls l = j := by
  rcases index_spec 10 (l.drop p) with ⟨-, g2⟩ | ⟨e', g1, -⟩
  · have := h.1
    unfold nls at this ⊢
    rw [← List.take_append_drop p l, List.count_append, g2, this]; rfl
  · omega
/-- what Begin answers -/
def bgB (l : List UInt8) (n : Int) : Bool := decide (1 ≤ n ∧ n ≤ nls l + 1)
def bgP (l : List UInt8) (n : Int) : Int := if 1 ≤ n ∧ n ≤ nls l + 1 then (lineAt l (n - 1).toNat : Int) else 0
theorem bg_no (l : List UInt8) (n : Int) (h : n < 1 ∨ (nls l : Int) + 1 < n) : bgP l n = 0 ∧ bgB l n = false := by
  have : ¬ (1 ≤ n ∧ n ≤ nls l + 1) := by omega
  unfold bgP bgB; rw [if_neg this]; exact ⟨rfl, by simp; omega⟩
theorem bg_yes (l : List UInt8) (j p : Nat) (h : LineAt l j p) : bgP l ((j : Int) + 1) = p ∧ bgB l ((j : Int) + 1) = true := by
  have h1 := nls_take_le l p
  rw [h.1] at h1
  have : 1 ≤ (j : Int) + 1 ∧ (j : Int) + 1 ≤ nls l + 1 := by omega
  unfold bgP bgB; rw [if_pos this]; refine ⟨?_, by simp; omega⟩
  rw [show ((j : Int) + 1 - 1).toNat = j by omega, lineAt_eq l j p h]
/-- a place drawn into a text -/
def clN (n : Nat) (a : Int) : Nat := (min (max a 0) (n : Int)).toNat
theorem clN_le (n : Nat) (a : Int) : clN n a ≤ n := by unfold clN; omega
end Go.Proofs.YtjbccmnmcjmooaaDoor
