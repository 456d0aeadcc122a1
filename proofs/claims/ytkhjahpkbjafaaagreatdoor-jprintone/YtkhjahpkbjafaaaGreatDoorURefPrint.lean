/- Plain mathematics: a value's text is letters; read whole, cut off, and with more behind it. -/
import Derived.Test.YtkhjahpkbjafaaaGreatDoorUMathVal
import Derived.Test.YtkhjahpkbjafaaaGreatDoorUShelf2
import Derived.Test.YtkhjahpkbjafaaaGreatDoorUEscK
import Derived.Test.YtkhjahpkbjafaaaGreatDoorURefOne
import Derived.Test.YtkhjahpkbjafaaaGreatDoorURefDec
import Derived.Deep.RegionWith
import Derived.Test.YtkhjahpkbjafaaaGreatDoorUEscRQ2
/- The document's own writing of whole numbers, walked: Text. -/
/- The document's own printer of JSON, walked: line, Print. -/
namespace Go.Proofs.YtkhjahpkbjafaaaGreatDoor
open Go.RowKit

/-- the same of shapes -/
def balS : List (Nat × List UInt8) → Int
  | [] => 0
  | x :: r => (if x.1 = 1 then (if x.2 = [91] ∨ x.2 = [123] then 1 else if x.2 = [93] ∨ x.2 = [125] then -1 else 0) else 0) + balS r
theorem balS_app : ∀ a b, balS (a ++ b) = balS a + balS b
  | [], b => by simp [balS]
  | x :: a, b => by rw [List.cons_append, balS, balS, balS_app a b, Int.add_assoc]
/-- even at its end, and never below nought ahead of it -/
def Evn (A : List (Nat × List UInt8)) : Prop := balS A = 0 ∧ ∀ P, P <+: A → 0 ≤ balS P
theorem pre_app {α : Type} {P A B : List α} (h : P <+: A ++ B) : P <+: A ∨ ∃ Q, P = A ++ Q ∧ Q <+: B := by
  obtain ⟨R, hR⟩ := h
  rcases List.append_eq_append_iff.1 hR with ⟨C, h1, h2⟩ | ⟨C, h1, h2⟩
  · left; exact ⟨C, h1.symm⟩
  · right; exact ⟨C, h1, ⟨R, h2.symm⟩⟩
theorem evn_nil : Evn [] := ⟨rfl, fun P h => by rw [List.prefix_nil.1 h]; decide⟩
theorem Evn.app {A B : List (Nat × List UInt8)} (h : Evn A) (g : Evn B) : Evn (A ++ B) := by
  refine ⟨by rw [balS_app, h.1, g.1]; rfl, fun P hP => ?_⟩
  rcases pre_app hP with h1 | ⟨Q, rfl, h1⟩
  · exact h.2 P h1
  · rw [balS_app, h.1]
    have := g.2 Q h1
    omega
theorem evn_one {p : Nat × List UInt8} (h : balS [p] = 0) : Evn [p] := by
  refine ⟨h, fun P hP => ?_⟩
  rcases P with _ | ⟨x, _ | ⟨y, r⟩⟩
  · decide
  · obtain ⟨R, hR⟩ := hP
    simp at hR
    rw [hR.1, h]; decide
  · have := hP.length_le
    simp at this
theorem shS_bal (k n : Int) (s : ByteArray) : balS [shS k n s] = 0 := by
  unfold shS
  (repeat' split) <;> simp [balS]
theorem Evn.wrap {A : List (Nat × List UInt8)} {o c : UInt8} (h : Evn A) (ho : balS [(1, [o])] = 1) (hc : balS [(1, [c])] = -1) : Evn ((1, [o]) :: (A ++ [(1, [c])])) ∧ ∀ P, P <+: (1, [o]) :: (A ++ [(1, [c])]) → P ≠ [] → P ≠ (1, [o]) :: (A ++ [(1, [c])]) → 1 ≤ balS P := by
  have key : ∀ P, P <+: (1, [o]) :: (A ++ [(1, [c])]) → P ≠ [] → P ≠ (1, [o]) :: (A ++ [(1, [c])]) → 1 ≤ balS P := by
    intro P hP h0 h1
    cases P with
    | nil => exact absurd rfl h0
    | cons x Q =>
      obtain ⟨R, hR⟩ := hP
      rw [List.cons_append, List.cons.injEq] at hR
      obtain ⟨rfl, hR⟩ := hR
      rw [show (1, [o]) :: Q = [(1, [o])] ++ Q from rfl, balS_app, ho]
      rcases pre_app ⟨R, hR⟩ with h2 | ⟨S, rfl, h2⟩
      · have := h.2 Q h2
        omega
      · rcases S with _ | ⟨y, _ | ⟨z, r⟩⟩
        · rw [List.append_nil, h.1]; decide
        · obtain ⟨R2, hR2⟩ := h2
          simp at hR2
          rw [hR2.1] at h1
          exact absurd rfl h1
        · have := h2.length_le
          simp at this
  refine ⟨⟨?_, fun P hP => ?_⟩, key⟩
  · rw [show (1, [o]) :: (A ++ [(1, [c])]) = [(1, [o])] ++ (A ++ [(1, [c])]) from rfl, balS_app, balS_app, ho, hc, h.1]; decide
  · by_cases h0 : P = []
    · rw [h0]; decide
    · by_cases h1 : P = (1, [o]) :: (A ++ [(1, [c])])
      · rw [h1, show (1, [o]) :: (A ++ [(1, [c])]) = [(1, [o])] ++ (A ++ [(1, [c])]) from rfl, balS_app, balS_app, ho, hc, h.1]; decide
      · have := key P hP h0 h1
        omega
mutual
theorem evn_val : ∀ v : VT, Evn (shV v)
  | .mk k n s L K V => by
    rw [shV]
    split
    · exact ((evn_list L).wrap (by decide) (by decide)).1
    · split
      · exact ((evn_map V K).wrap (by decide) (by decide)).1
      · exact evn_one (shS_bal k n s)
theorem evn_list : ∀ L : List VT, Evn (shL L)
  | [] => by rw [shL]; exact evn_nil
  | t :: r => by rw [shL]; exact (evn_val t).app (evn_listc r)
theorem evn_listc : ∀ L : List VT, Evn (shLc L)
  | [] => by rw [shLc]; exact evn_nil
  | t :: r => by rw [shLc]; exact Evn.app (A := [(1, [44])]) (evn_one (by decide)) ((evn_val t).app (evn_listc r))
theorem evn_map : ∀ (V : List VT) (K : List ByteArray), Evn (shM V K)
  | [], K => by rw [shM]; exact evn_nil
  | t :: r, K => by rw [shM]; exact Evn.app (A := [_]) (evn_one (by simp [balS])) (Evn.app (A := [(1, [58])]) (evn_one (by decide)) ((evn_val t).app (evn_mapc r K.tail)))
theorem evn_mapc : ∀ (V : List VT) (K : List ByteArray), Evn (shMc V K)
  | [], K => by rw [shMc]; exact evn_nil
  | t :: r, K => by rw [shMc]; exact Evn.app (A := [(1, [44])]) (evn_one (by decide)) (Evn.app (A := [_]) (evn_one (by simp [balS])) (Evn.app (A := [(1, [58])]) (evn_one (by decide)) ((evn_val t).app (evn_mapc r K.tail))))
end
end Go.Proofs.YtkhjahpkbjafaaaGreatDoor
namespace Go.Proofs.YtkhjahpkbjafaaaGreatDoor
open Go.RowKit

end Go.Proofs.YtkhjahpkbjafaaaGreatDoor
namespace Go.Proofs.YtkhjahpkbjafaaaGreatDoor
open Go.RowKit

def inI : Option Nat → Int
  | none => -1
  | some k => (k : Int)
theorem ln_some (k : Nat) : txs (lnT (some k)) = 10 :: List.replicate (2 * k) 32 := by simp [lnT, txs, Tk.tx]
/-- what stands ahead of a part: a comma, but for the first, and a new line -/
def sepT (i : Option Nat) (b : Bool) : List Tk := (if b = true then [] else [.sg 44]) ++ lnT i
theorem tkLc_app (i : Option Nat) : ∀ (A B : List VT), tkLc i (A ++ B) = tkLc i A ++ tkLc i B
  | [], B => by rw [tkLc]; rfl
  | t :: A, B => by rw [List.cons_append, tkLc, tkLc, tkLc_app i A B]; simp
theorem tkL_snoc (i : Option Nat) (A : List VT) (t : VT) : tkL i (A ++ [t]) = tkL i A ++ (sepT i A.isEmpty ++ tkV i t) := by
  cases A with
  | nil => simp [tkL, tkLc, sepT]
  | cons a A => simp [tkL, tkLc_app, tkLc, sepT]
theorem tkMc_app (i : Option Nat) : ∀ (A B : List VT) (K J : List ByteArray), K.length = A.length → tkMc i (A ++ B) (K ++ J) = tkMc i A K ++ tkMc i B J
  | [], B, [], J, _ => by rw [show tkMc i [] [] = [] from by rw [tkMc]]; rfl
  | [], B, c :: K, J, h => by simp at h
  | t :: A, B, [], J, h => by simp at h
  | t :: A, B, c :: K, J, h => by
    rw [List.cons_append, List.cons_append, tkMc, tkMc, List.tail_cons, List.tail_cons, tkMc_app i A B K J (by simpa using h)]; simp
theorem tkM_snoc (i : Option Nat) (A : List VT) (t : VT) (K : List ByteArray) (c : ByteArray) (h : K.length = A.length) : tkM i (A ++ [t]) (K ++ [c]) = tkM i A K ++ (sepT i A.isEmpty ++ (.st c.data.toList :: (clnT i ++ tkV i t))) := by
  cases A with
  | nil =>
    cases K with
    | nil => simp [tkM, tkMc, sepT]
    | cons c K => simp at h
  | cons a A =>
    cases K with
    | nil => simp at h
    | cons d K =>
      rw [List.cons_append, List.cons_append, tkM, tkM, List.tail_cons, List.tail_cons, tkMc_app i A [t] K [c] (by simpa using h)]
      simp [tkMc, sepT]
theorem take_next {α : Type} {L : List α} {j : Nat} {t : α} (h : L[j]? = some t) : L.take (j + 1) = L.take j ++ [t] := by
  obtain ⟨hj, rfl⟩ := List.getElem?_eq_some_iff.1 h
  rw [List.take_succ_eq_append_getElem hj]
theorem take_emp {α : Type} {L : List α} {j : Nat} (hj : j ≤ L.length) : (L.take j).isEmpty = decide (j = 0) := by
  cases j with
  | zero => simp
  | succ j =>
    cases L with
    | nil => simp at hj
    | cons a L => simp
/-- a list's text, so far -/
def lsB (i : Option Nat) (L : List VT) (j : Nat) : List UInt8 := 91 :: txs (tkL (upN i) (L.take j))
theorem lsB_next {i : Option Nat} {L : List VT} {j : Nat} {t : VT} (h : L[j]? = some t) : lsB i L (j + 1) = lsB i L j ++ ((if j = 0 then [] else [44]) ++ (txs (lnT (upN i)) ++ txs (tkV (upN i) t))) := by
  unfold lsB
  rw [take_next h, tkL_snoc, txs_app, txs_app, take_emp (by have := lt_of_some h; omega), sepT, txs_app]
  by_cases h0 : j = 0
  · subst h0; simp [txs]
  · simp [h0, txs, Tk.tx]
theorem lsB_end {i : Option Nat} {n : Int} {s : ByteArray} {L : List VT} {K : List ByteArray} {V : List VT} (h : ¬ L = []) : txs (tkV i (.mk 5 n s L K V)) = lsB i L L.length ++ (txs (lnT i) ++ [93]) := by
  rw [tkV, if_pos rfl, txs_sg, txs_app, txs_app, lsB, List.take_length, if_neg (by simpa using h)]
  simp [txs, Tk.tx]
theorem tkL_pre (i : Option Nat) (L : List VT) (j : Nat) : txs (tkL i (L.take j)) <+: txs (tkL i L) := by
  have e : L = L.take j ++ L.drop j := (List.take_append_drop j L).symm
  cases hA : L.take j with
  | nil => rw [show tkL i [] = [] from by rw [tkL]]; exact List.nil_prefix
  | cons a A =>
    rw [hA] at e
    rw [e, List.cons_append, tkL, tkL, tkLc_app, ← List.append_assoc, ← List.append_assoc, ← List.append_assoc, txs_app (lnT i ++ tkV i a ++ tkLc i A)]
    exact List.prefix_append _ _
theorem lsB_len {i : Option Nat} {n : Int} {s : ByteArray} {L : List VT} {K : List ByteArray} {V : List VT} (j : Nat) : (lsB i L j).length ≤ (txs (tkV i (.mk 5 n s L K V))).length := by
  rw [tkV, if_pos rfl, txs_sg, txs_app, lsB, List.length_cons, List.length_cons, List.length_append]
  have := (tkL_pre (upN i) L j).length_le
  omega
/-- a map's text, so far -/
def msB (i : Option Nat) (V : List VT) (K : List ByteArray) (j : Nat) : List UInt8 := 123 :: txs (tkM (upN i) (V.take j) (K.take j))
theorem msB_next {i : Option Nat} {V : List VT} {K : List ByteArray} {j : Nat} {t : VT} {c : ByteArray} (h : V[j]? = some t) (g : K[j]? = some c) : msB i V K (j + 1) = msB i V K j ++ ((if j = 0 then [] else [44]) ++ (txs (lnT (upN i)) ++ (qtA false c.data.toList ++ (txs (clnT i) ++ txs (tkV (upN i) t))))) := by
  unfold msB
  have h1 := lt_of_some h
  have h2 := lt_of_some g
  rw [take_next h, take_next g, tkM_snoc _ _ _ _ _ (by rw [List.length_take, List.length_take]; omega), txs_app, txs_app, take_emp (by omega), sepT, txs_app, txs_cons, txs_app]
  have e : clnT (upN i) = clnT i := by cases i <;> rfl
  rw [e]
  by_cases h0 : j = 0
  · subst h0; simp [txs, Tk.tx]
  · simp [h0, txs, Tk.tx]
theorem msB_end {i : Option Nat} {n : Int} {s : ByteArray} {L : List VT} {K : List ByteArray} {V : List VT} (h : ¬ V = []) (hK : K.length = V.length) : txs (tkV i (.mk 6 n s L K V)) = msB i V K V.length ++ (txs (lnT i) ++ [125]) := by
  rw [tkV, if_neg (by decide), if_pos rfl, txs_sg, txs_app, txs_app, msB, List.take_length, ← hK, List.take_length, if_neg (by simpa using h)]
  simp [txs, Tk.tx]
theorem tkM_pre (i : Option Nat) (V : List VT) (K : List ByteArray) (hK : K.length = V.length) (j : Nat) : txs (tkM i (V.take j) (K.take j)) <+: txs (tkM i V K) := by
  have e : V = V.take j ++ V.drop j := (List.take_append_drop j V).symm
  have eK : K = K.take j ++ K.drop j := (List.take_append_drop j K).symm
  have hl : (K.take j).length = (V.take j).length := by rw [List.length_take, List.length_take, hK]
  cases hA : V.take j with
  | nil => rw [show ∀ J, tkM i [] J = [] from fun J => by rw [tkM]]; exact List.nil_prefix
  | cons a A =>
    cases hB : K.take j with
    | nil => rw [hA, hB] at hl; simp at hl
    | cons c B =>
      rw [hA, hB] at hl
      rw [hA] at e
      rw [hB] at eK
      rw [e, eK, List.cons_append, List.cons_append, tkM, tkM, List.tail_cons, List.tail_cons, tkMc_app i A _ B _ (by simpa using hl)]
      simp only [txs_app, txs_cons, ← List.append_assoc]
      exact List.prefix_append _ _
theorem msB_len {i : Option Nat} {n : Int} {s : ByteArray} {L : List VT} {K : List ByteArray} {V : List VT} (hK : K.length = V.length) (j : Nat) : (msB i V K j).length ≤ (txs (tkV i (.mk 6 n s L K V))).length := by
  rw [tkV, if_neg (by decide), if_pos rfl, txs_sg, txs_app, msB, List.length_cons, List.length_cons, List.length_append]
  have := (tkM_pre (upN i) V K hK j).length_le
  omega
end Go.Proofs.YtkhjahpkbjafaaaGreatDoor
