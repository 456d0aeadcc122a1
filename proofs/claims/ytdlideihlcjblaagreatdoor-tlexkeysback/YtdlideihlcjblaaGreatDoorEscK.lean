/- esc.quote, Quote, TQuote: walked. -/
import Derived.Test.YtdlideihlcjblaaGreatDoorEscJ
import Derived.Test.YtdlideihlcjblaaGreatDoorEscSide
namespace Go.Proofs.YtdlideihlcjblaaGreatDoor
open Go.RowKit

theorem qst_len (toml : Bool) (l : List UInt8) : (qst toml l).length ≤ 6 := by
  unfold qst
  split
  · simp
  · split
    · have := begN_le
      rw [List.length_take]
      cases l with
      | nil => simp
      | cons a t =>
        have h1 : tkN (a :: t) ≤ 4 := by simp only [tkN]; split
                                         · exact begN_le _
                                         · omega
        omega
    · unfold qbB; (repeat' split) <;> simp
theorem qtK_len (toml : Bool) (t : List UInt8) (k : Nat) : (qtK toml t k).length ≤ 6 * k + 1 := by
  induction k with
  | zero => simp [qtK]
  | succ k ih => rw [qtK_succ, List.length_append]; have := qst_len toml (t.drop (pos t k)); omega
theorem tkN_4 (l : List UInt8) : tkN l ≤ 4 := by
  cases l with
  | nil => simp [tkN]
  | cons a t =>
    simp only [tkN]; split
    · exact begN_le _
    · omega
theorem tk_small {l : List UInt8} (h0 : tkN l ≠ 0) (h1 : ¬ 1 < tkN l) : bt l 0 < 128 := by
  cases l with
  | nil => simp [tkN] at h0
  | cons a t =>
    simp only [tkN] at h0 h1
    split at h0
    · next h =>
      rw [if_pos h] at h1
      have hb : begN a.toNat = 1 := by omega
      rw [bt_cons]
      exact (beg_one hb).1
    · exact absurd rfl h0
theorem own_snoc {w : World} {base : Nat} {v : Value} {a : List UInt8} {b : UInt8} (h : w.ownsRow base 5 1 v (a.length + 1) (Lib.strCells (mkS a) ++ [.int .u8 (b.toNat : Int)])) :
    w.ownsRow base 5 1 v (a ++ [b]).length (Lib.strCells (mkS (a ++ [b]))) := by
  rw [strCells_app, List.length_append]
  exact h
theorem ltr_fffd : ltr 65533 = [239, 191, 189] := by decide +kernel
end Go.Proofs.YtdlideihlcjblaaGreatDoor
