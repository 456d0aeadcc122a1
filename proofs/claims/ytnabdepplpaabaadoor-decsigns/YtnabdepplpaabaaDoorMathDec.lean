/- Plain mathematics of numbers' texts: digits, a text's parts, its power, its digits without noughts at the ends. -/
import Derived.Test.YtnabdepplpaabaaDoorMathUtf
namespace Go.Proofs.YtnabdepplpaabaaDoor
open Go.RowKit

def isD (b : UInt8) : Bool := decide (48 ≤ b.toNat) && decide (b.toNat ≤ 57)
theorem isD_bd {b : UInt8} (h : isD b = true) : 48 ≤ b.toNat ∧ b.toNat ≤ 57 := by
  unfold isD at h; simpa [Bool.and_eq_true] using h
/-- how many digits a text begins with -/
def runN (l : List UInt8) : Nat := (l.takeWhile isD).length
theorem runN_le (l : List UInt8) : runN l ≤ l.length := (List.takeWhile_prefix isD).length_le
theorem runN_take (l : List UInt8) : l.take (runN l) = l.takeWhile isD := by
  have := List.takeWhile_prefix isD (l := l)
  exact (List.prefix_iff_eq_take.1 this).symm
theorem runN_drop (l : List UInt8) : l.drop (runN l) = l.dropWhile isD := by
  have h := List.takeWhile_append_dropWhile (p := isD) (l := l)
  have e := congrArg (List.drop (runN l)) h
  rw [← e]; exact List.drop_left
theorem runN_lt (l : List UInt8) : ∀ k, k < runN l → isD (l.getD k 0) = true := by
  induction l with
  | nil => intro k h; simp [runN] at h
  | cons b l ih =>
    intro k h
    unfold runN at h ih
    rw [List.takeWhile_cons] at h
    by_cases hb : isD b = true
    · rw [if_pos hb, List.length_cons] at h
      rcases k with _ | k
      · simpa using hb
      · rw [List.getD_cons_succ]; exact ih k (by omega)
    · rw [if_neg hb] at h; simp at h
theorem runN_at (l : List UInt8) (h : runN l < l.length) : isD (l.getD (runN l) 0) = false := by
  induction l with
  | nil => simp at h
  | cons b l ih =>
    unfold runN at h ih ⊢
    rw [List.takeWhile_cons] at h ⊢
    by_cases hb : isD b = true
    · rw [if_pos hb, List.length_cons] at h ⊢
      rw [List.getD_cons_succ]; exact ih (by simpa using h)
    · rw [if_neg hb]; simpa using hb
/-- a power's digits, read as a number (other bytes are passed over) -/
def pval (l : List UInt8) : Nat := l.foldl (fun v b => if isD b then 10 * v + (b.toNat - 48) else v) 0
theorem pval_snoc (l : List UInt8) (b : UInt8) : pval (l ++ [b]) = if isD b then 10 * pval l + (b.toNat - 48) else pval l := by simp [pval]
theorem pval_take (l : List UInt8) (k : Nat) (h : k < l.length) : pval (l.take (k + 1)) = if isD (l.getD k 0) then 10 * pval (l.take k) + ((l.getD k 0).toNat - 48) else pval (l.take k) := by
  have e : l.getD k 0 = l[k] := by simp [List.getD, h]
  rw [e, List.take_succ_eq_append_getElem h, pval_snoc]
theorem pval_mono (l : List UInt8) (k : Nat) : ∀ n, pval (l.take k) ≤ pval (l.take (k + n))
  | 0 => Nat.le_refl _
  | n + 1 => by
    have ih := pval_mono l k n
    by_cases h : k + n < l.length
    · rw [← Nat.add_assoc, pval_take l (k + n) h]; split <;> omega
    · rw [List.take_of_length_le (l := l) (i := k + (n + 1)) (by omega)]
      rwa [List.take_of_length_le (l := l) (i := k + n) (by omega)] at ih
theorem pval_le (l : List UInt8) (k : Nat) : pval (l.take k) ≤ pval l := by
  have := pval_mono l k l.length
  rwa [List.take_of_length_le (l := l) (i := k + l.length) (by omega)] at this
/-- what stands behind e -/
def pwOk (l : List UInt8) : Bool := decide (pval l ≤ 100000)
def pwV (l : List UInt8) : Int := if pwOk l then (if l.getD 0 0 = 45 then -(pval l : Int) else pval l) else 0
theorem pwV_bd (l : List UInt8) : -100000 ≤ pwV l ∧ pwV l ≤ 100000 := by
  unfold pwV
  by_cases h : pwOk l = true
  · have : pval l ≤ 100000 := by simpa [pwOk] using h
    rw [if_pos h]; split <;> omega
  · rw [if_neg h]; omega
def sgI (n : Bool) (d : List UInt8) : Int := if d = [] then 0 else if n then -1 else 1
/-- a text's parts, one behind the other -/
def pNeg (l : List UInt8) : Bool := decide ((l.getD 0 0).toNat = 45)
def pU (l : List UInt8) : List UInt8 := if pNeg l then l.drop 1 else l
def pW (l : List UInt8) : List UInt8 := (pU l).takeWhile isD
def pR (l : List UInt8) : List UInt8 := (pU l).dropWhile isD
def pWok (l : List UInt8) : Bool := !decide (pW l = []) && !(decide (1 < (pW l).length) && decide (((pW l).getD 0 0).toNat = 48))
def pDot (l : List UInt8) : Bool := decide (((pR l).getD 0 0).toNat = 46)
def pF (l : List UInt8) : List UInt8 := if pDot l then ((pR l).drop 1).takeWhile isD else []
def pS (l : List UInt8) : List UInt8 := if pDot l then ((pR l).drop 1).dropWhile isD else pR l
def pFok (l : List UInt8) : Bool := !(pDot l && decide (pF l = []))
def pP (l : List UInt8) : List UInt8 := (pS l).drop 1
def pE (l : List UInt8) : Bool := decide (((pS l).getD 0 0).toNat = 101) || decide (((pS l).getD 0 0).toNat = 69)
def pSg (p : List UInt8) : Bool := decide ((p.getD 0 0).toNat = 43) || decide ((p.getD 0 0).toNat = 45)
def pD (p : List UInt8) : List UInt8 := if pSg p then p.drop 1 else p
def pEok (l : List UInt8) : Bool := decide (pS l = []) || (pE l && !decide (pD (pP l) = []) && decide (runN (pD (pP l)) = (pD (pP l)).length))
def pOk (l : List UInt8) : Bool := pWok l && pFok l && pEok l
/-- what parts answers -/
def partsV (l : List UInt8) : Value :=
  if pOk l then .tuple #[.bool (pNeg l), .string (mkS (pW l)), .string (mkS (pF l)), .string (mkS (pP l)), .bool true]
  else .tuple #[.bool false, .string ⟨#[]⟩, .string ⟨#[]⟩, .string ⟨#[]⟩, .bool false]
theorem partsV_no (l : List UInt8) (h : pWok l = false ∨ pFok l = false ∨ pEok l = false) : partsV l = .tuple #[.bool false, .string ⟨#[]⟩, .string ⟨#[]⟩, .string ⟨#[]⟩, .bool false] := by
  have : pOk l = false := by unfold pOk; rcases h with h | h | h <;> simp [h]
  unfold partsV; rw [this]; rfl
theorem partsV_yes (l : List UInt8) (h1 : pWok l = true) (h2 : pFok l = true) (h3 : pEok l = true) : partsV l = .tuple #[.bool (pNeg l), .string (mkS (pW l)), .string (mkS (pF l)), .string (mkS (pP l)), .bool true] := by
  have : pOk l = true := by unfold pOk; simp [h1, h2, h3]
  unfold partsV; rw [this]; rfl
end Go.Proofs.YtnabdepplpaabaaDoor
