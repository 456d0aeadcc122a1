/- The document's own printer of JSON, walked: line, Print. -/
import Derived.Test.YtkhjahpkbjafaaaGreatDoorTRefDecE
import Derived.Test.YtkhjahpkbjafaaaGreatDoorTEscRQ2
namespace Go.Proofs.YtkhjahpkbjafaaaGreatDoor
open Go.RowKit

def inI : Option Nat → Int
  | none => -1
  | some k => (k : Int)
theorem ln_some (k : Nat) : txs (lnT (some k)) = 10 :: List.replicate (2 * k) 32 := by simp [lnT, txs, Tk.tx]
/-- what stands ahead of a part: a comma, but for the first, and a new line -/
def sepT (i : Option Nat) (b : Bool) : List Tk := (if b = true then [] else [.sg 44]) ++ lnT i
theorem tkLc_app (i : Option Nat) : ∀ (A B : List VT), tkLc i (A ++ B) = tkLc i A ++ tkLc i B
  | [], B => by rw [tkLc]; rfl
  | t :: A, B => by rw [List.cons_append, tkLc, tkLc, tkLc_app i A B]; simp
theorem tkL_snoc (i : Option Nat) (A : List VT) (t : VT) : tkL i (A ++ [t]) = tkL i A ++ (sepT i A.isEmpty ++ tkV i t) := by
  cases A with
  | nil => simp [tkL, tkLc, sepT]
  | cons a A => simp [tkL, tkLc_app, tkLc, sepT]
theorem tkMc_app (i : Option Nat) : ∀ (A B : List VT) (K J : List ByteArray), K.length = A.length → tkMc i (A ++ B) (K ++ J) = tkMc i A K ++ tkMc i B J
  | [], B, [], J, _ => by rw [show tkMc i [] [] = [] from by rw [tkMc]]; rfl
  | [], B, c :: K, J, h => by simp at h
  | t :: A, B, [], J, h => by simp at h
  | t :: A, B, c :: K, J, h => by
    rw [List.cons_append, List.cons_append, tkMc, tkMc, List.tail_cons, List.tail_cons, tkMc_app i A B K J (by simpa using h)]; simp
theorem tkM_snoc (i : Option Nat) (A : List VT) (t : VT) (K : List ByteArray) (c : ByteArray) (h : K.length = A.length) : tkM i (A ++ [t]) (K ++ [c]) = tkM i A K ++ (sepT i A.isEmpty ++ (.st c.data.toList :: (clnT i ++ tkV i t))) := by
  cases A with
  | nil =>
    cases K with
    | nil => simp [tkM, tkMc, sepT]
    | cons c K => simp at h
  | cons a A =>
    cases K with
    | nil => simp at h
    | cons d K =>
      rw [List.cons_append, List.cons_append, tkM, tkM, List.tail_cons, List.tail_cons, tkMc_app i A [t] K [c] (by simpa using h)]
      simp [tkMc, sepT]
theorem take_next {α : Type} {L : List α} {j : Nat} {t : α} (h : L[j]? = some t) : L.take (j + 1) = L.take j ++ [t] := by
  obtain ⟨hj, rfl⟩ := List.getElem?_eq_some_iff.1 h
  rw [List.take_succ_eq_append_getElem hj]
theorem take_emp {α : Type} {L : List α} {j : Nat} (hj : j ≤ L.length) : (L.take j).isEmpty = decide (j = 0) := by
  cases j with
  | zero => simp
  | succ j =>
    cases L with
    | nil => simp at hj
    | cons a L => simp
/-- a list's text, so far -/
def lsB (i : Option Nat) (L : List VT) (j : Nat) : List UInt8 := 91 :: txs (tkL (upN i) (L.take j))
theorem lsB_next {i : Option Nat} {L : List VT} {j : Nat} {t : VT} (h : L[j]? = some t) : lsB i L (j + 1) = lsB i L j ++ ((if j = 0 then [] else [44]) ++ (txs (lnT (upN i)) ++ txs (tkV (upN i) t))) := by
  unfold lsB
  rw [take_next h, tkL_snoc, txs_app, txs_app, take_emp (by have := lt_of_some h; omega), sepT, txs_app]
  by_cases h0 : j = 0
  · subst h0; simp [txs]
  · simp [h0, txs, Tk.tx]
theorem lsB_end {i : Option Nat} {n : Int} {s : ByteArray} {L : List VT} {K : List ByteArray} {V : List VT} (h : ¬ L = []) : txs (tkV i (.mk 5 n s L K V)) = lsB i L L.length ++ (txs (lnT i) ++ [93]) := by
  rw [tkV, if_pos rfl, txs_sg, txs_app, txs_app, lsB, List.take_length, if_neg (by simpa using h)]
  simp [txs, Tk.tx]
theorem tkL_pre (i : Option Nat) (L : List VT) (j : Nat) : txs (tkL i (L.take j)) <+: txs (tkL i L) := by
  have e : L = L.take j ++ L.drop j := (List.take_append_drop j L).symm
  cases hA : L.take j with
  | nil => rw [show tkL i [] = [] from by rw [tkL]]; exact List.nil_prefix
  | cons a A =>
    rw [hA] at e
    rw [e, List.cons_append, tkL, tkL, tkLc_app, ← List.append_assoc, ← List.append_assoc, ← List.append_assoc, txs_app (lnT i ++ tkV i a ++ tkLc i A)]
    exact List.prefix_append _ _
theorem lsB_len {i : Option Nat} {n : Int} {s : ByteArray} {L : List VT} {K : List ByteArray} {V : List VT} (j : Nat) : (lsB i L j).length ≤ (txs (tkV i (.mk 5 n s L K V))).length := by
  rw [tkV, if_pos rfl, txs_sg, txs_app, lsB, List.length_cons, List.length_cons, List.length_append]
  have := (tkL_pre (upN i) L j).length_le
  omega
/-- a map's text, so far -/
def msB (i : Option Nat) (V : List VT) (K : List ByteArray) (j : Nat) : List UInt8 := 123 :: txs (tkM (upN i) (V.take j) (K.take j))
theorem msB_next {i : Option Nat} {V : List VT} {K : List ByteArray} {j : Nat} {t : VT} {c : ByteArray} (h : V[j]? = some t) (g : K[j]? = some c) : msB i V K (j + 1) = msB i V K j ++ ((if j = 0 then [] else [44]) ++ (txs (lnT (upN i)) ++ (qtA false c.data.toList ++ (txs (clnT i) ++ txs (tkV (upN i) t))))) := by
  unfold msB
  have h1 := lt_of_some h
  have h2 := lt_of_some g
  rw [take_next h, take_next g, tkM_snoc _ _ _ _ _ (by rw [List.length_take, List.length_take]; omega), txs_app, txs_app, take_emp (by omega), sepT, txs_app, txs_cons, txs_app]
  have e : clnT (upN i) = clnT i := by cases i <;> rfl
  rw [e]
  by_cases h0 : j = 0
  · subst h0; simp [txs, Tk.tx]
  · simp [h0, txs, Tk.tx]
theorem msB_end {i : Option Nat} {n : Int} {s : ByteArray} {L : List VT} {K : List ByteArray} {V : List VT} (h : ¬ V = []) (hK : K.length = V.length) : txs (tkV i (.mk 6 n s L K V)) = msB i V K V.length ++ (txs (lnT i) ++ [125]) := by
  rw [tkV, if_neg (by decide), if_pos rfl, txs_sg, txs_app, txs_app, msB, List.take_length, ← hK, List.take_length, if_neg (by simpa using h)]
  simp [txs, Tk.tx]
theorem tkM_pre (i : Option Nat) (V : List VT) (K : List ByteArray) (hK : K.length = V.length) (j : Nat) : txs (tkM i (V.take j) (K.take j)) <+: txs (tkM i V K) := by
  have e : V = V.take j ++ V.drop j := (List.take_append_drop j V).symm
  have eK : K = K.take j ++ K.drop j := (List.take_append_drop j K).symm
  have hl : (K.take j).length = (V.take j).length := by rw [List.length_take, List.length_take, hK]
  cases hA : V.take j with
  | nil => rw [show ∀ J, tkM i [] J = [] from fun J => by rw [tkM]]; exact List.nil_prefix
  | cons a A =>
    cases hB : K.take j with
    | nil => rw [hA, hB] at hl; simp at hl
    | cons c B =>
      rw [hA, hB] at hl
      rw [hA] at e
      rw [hB] at eK
      rw [e, eK, List.cons_append, List.cons_append, tkM, tkM, List.tail_cons, List.tail_cons, tkMc_app i A _ B _ (by simpa using hl)]
      simp only [txs_app, txs_cons, ← List.append_assoc]
      exact List.prefix_append _ _
theorem msB_len {i : Option Nat} {n : Int} {s : ByteArray} {L : List VT} {K : List ByteArray} {V : List VT} (hK : K.length = V.length) (j : Nat) : (msB i V K j).length ≤ (txs (tkV i (.mk 6 n s L K V))).length := by
  rw [tkV, if_neg (by decide), if_pos rfl, txs_sg, txs_app, msB, List.length_cons, List.length_cons, List.length_append]
  have := (tkM_pre (upN i) V K hK j).length_le
  omega
end Go.Proofs.YtkhjahpkbjafaaaGreatDoor
