/- Plain mathematics of numbers' texts: a number or none, its digits without noughts at the ends, its whole part, its one form, its order. -/
import Derived.Test.YtnabdepplpaabaaDoorMathDec
namespace Go.Proofs.YtnabdepplpaabaaDoor
open Go.RowKit

/-- P3.1's Good -/
def numB (l : List UInt8) : Bool := pOk l && pwOk (pP l) && decide (l.length ≤ 400)
def is0 (b : UInt8) : Bool := decide (b.toNat = 48)
def lz (l : List UInt8) : Nat := (l.takeWhile is0).length
def lst (l : List UInt8) : List UInt8 := l.dropWhile is0
def rst (l : List UInt8) : List UInt8 := (l.reverse.dropWhile is0).reverse
theorem lz_cons (b : UInt8) (l : List UInt8) (h : b.toNat = 48) : lz (b :: l) = lz l + 1 ∧ lst (b :: l) = lst l := by
  have : is0 b = true := by simp [is0, h]
  simp [lz, lst, this]
theorem lz_stop (b : UInt8) (l : List UInt8) (h : ¬ b.toNat = 48) : lz (b :: l) = 0 ∧ lst (b :: l) = b :: l := by
  have : is0 b = false := by simp [is0, h]
  simp [lz, lst, this]
theorem rst_snoc (b : UInt8) (l : List UInt8) (h : b.toNat = 48) : rst (l ++ [b]) = rst l := by
  have : is0 b = true := by simp [is0, h]
  simp [rst, this]
theorem rst_stop (b : UInt8) (l : List UInt8) (h : ¬ b.toNat = 48) : rst (l ++ [b]) = l ++ [b] := by
  have : is0 b = false := by simp [is0, h]
  simp [rst, this]
/-- a number's digits, without noughts at the ends -/
def scD (l : List UInt8) : List UInt8 := rst (lst (pW l ++ pF l))
def scT (l : List UInt8) : Int := if scD l = [] then 0 else ((pW l).length : Int) - 1 + pwV (pP l) - lz (pW l ++ pF l)
def scN (l : List UInt8) : Bool := if scD l = [] then false else pNeg l
def wholeB (l : List UInt8) : Bool := numB l && (decide (scD l = []) || decide (((scD l).length : Int) - 1 ≤ scT l))
/-- a natural number's digits -/
def natD (n : Nat) : List UInt8 := if n < 10 then [UInt8.ofNat (48 + n)] else natD (n / 10) ++ [UInt8.ofNat (48 + n % 10)]
def txt (n : Int) : List UInt8 := if n < 0 then 45 :: natD (-n).toNat else natD n.toNat
theorem pU_le (l : List UInt8) : (pU l).length ≤ l.length := by unfold pU; split <;> simp
theorem pWR (l : List UInt8) : pW l ++ pR l = pU l := List.takeWhile_append_dropWhile
theorem parts_len (l : List UInt8) : (pW l).length + (pF l).length + (pP l).length ≤ l.length := by
  have h1 := congrArg List.length (pWR l)
  have h2 := pU_le l
  rw [List.length_append] at h1
  unfold pP pS pF
  cases hd : pDot l with
  | false => simp; omega
  | true =>
    have h3 := congrArg List.length (List.takeWhile_append_dropWhile (p := isD) (l := (pR l).drop 1))
    rw [List.length_append, List.length_drop] at h3
    simp at h3 ⊢; omega
theorem lz_le (l : List UInt8) : lz l ≤ l.length := (List.takeWhile_prefix is0).length_le
theorem lst_len (l : List UInt8) : (lst l).length ≤ l.length := (List.dropWhile_sublist is0).length_le
theorem rst_len (l : List UInt8) : (rst l).length ≤ l.length := by
  unfold rst; rw [List.length_reverse]; have := (List.dropWhile_sublist is0 (l := l.reverse)).length_le; simpa using this
theorem scD_len (l : List UInt8) : (scD l).length ≤ l.length := by
  have h1 := rst_len (lst (pW l ++ pF l)); have h2 := lst_len (pW l ++ pF l); have h3 := parts_len l
  rw [List.length_append] at h2; unfold scD; omega
theorem scT_bd (l : List UInt8) (h : l.length ≤ 1000000) : -2000000 ≤ scT l ∧ scT l ≤ 2000000 := by
  have h1 := pwV_bd (pP l); have h2 := lz_le (pW l ++ pF l); have h3 := parts_len l
  rw [List.length_append] at h2
  unfold scT; split <;> omega
/-- the order of two numbers, each by its sign, its digits, the power of the first -/
def ltB (d e : List UInt8) : Bool := Op.bytesLess d e
def lessB (d : List UInt8) (n : Int) (e : List UInt8) (m : Int) : Bool := decide (n < m) || (decide (n = m) && ltB d e)
def tcmp (p : Bool) (d : List UInt8) (n : Int) (q : Bool) (e : List UInt8) (m : Int) : Int :=
  if d = e ∧ p = q ∧ n = m then 0
  else if sgI p d = sgI q e then (if lessB d n e m = decide (0 < sgI p d) then -1 else 1)
  else if sgI p d < sgI q e then -1 else 1
def cmpI (a b : List UInt8) : Int :=
  if numB a && numB b then tcmp (scN a) (scD a) (scT a) (scN b) (scD b) (scT b)
  else if numB a = numB b then 0 else if numB b then -1 else 1
/-- a number's one form -/
def canA (l : List UInt8) : List UInt8 := (scD l).take 1 ++ (if 1 < (scD l).length then 46 :: (scD l).drop 1 else [])
def canB (l : List UInt8) : List UInt8 := if scN l then 45 :: canA l else canA l
def canC (l : List UInt8) : List UInt8 := if scT l = 0 then canB l else canB l ++ (101 :: txt (scT l))
def canV (l : List UInt8) : List UInt8 := if numB l then (if scD l = [] then [48] else canC l) else []
theorem canA_len (l : List UInt8) : (canA l).length ≤ (scD l).length + 1 := by
  unfold canA; rw [List.length_append, List.length_take]; split
  · rw [List.length_cons, List.length_drop]; omega
  · simp; omega
theorem canB_len (l : List UInt8) : (canB l).length ≤ (scD l).length + 2 := by
  have := canA_len l; unfold canB; split
  · rw [List.length_cons]; omega
  · omega
/-- a whole number, if it fits -/
def intB (l : List UInt8) : Bool := numB l && !decide (l = [45, 48]) && decide (pF l = []) && decide (pP l = []) && (if pNeg l then decide (pval (pW l) ≤ 9223372036854775808) else decide (pval (pW l) < 9223372036854775808))
def intV (l : List UInt8) : Int := if intB l then (if pNeg l then -(pval (pW l) : Int) else (pval (pW l) : Int)) else 0
end Go.Proofs.YtnabdepplpaabaaDoor
