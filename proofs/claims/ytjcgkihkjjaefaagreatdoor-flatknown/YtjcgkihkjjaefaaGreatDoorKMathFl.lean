/- Trees that may be: the mathematics of it. -/
import Derived.Test.YtjcgkihkjjaefaaGreatDoorKVNode
import Derived.Test.YtjcgkihkjjaefaaGreatDoorKVBase
import Derived.Test.YtjcgkihkjjaefaaGreatDoorKPathOne
namespace Go.Proofs.YtjcgkihkjjaefaaGreatDoor
open Go.RowKit

mutual
/-- a tree may be, whatever its size -/
def plainT : VT → Bool
  | .mk k n s L K V => nodeB (.mk k n s L K V) && plainL L && plainL V
def plainL : List VT → Bool
  | [] => true
  | t :: r => plainT t && plainL r
end
theorem plainT_eq (T : VT) : plainT T = (nodeB T && plainL T.ls && plainL T.vs) := by cases T; rw [plainT]; rfl
theorem plainL_get : ∀ (L : List VT), plainL L = true ↔ ∀ (i : Nat) (t : VT), L[i]? = some t → plainT t = true
  | [] => by simp [plainL]
  | a :: r => by
    simp only [plainL, Bool.and_eq_true]
    rw [plainL_get r]
    constructor
    · rintro ⟨h1, h2⟩ i t hi
      cases i with
      | zero => simp at hi; subst hi; exact h1
      | succ i => simp at hi; exact h2 i t hi
    · intro g
      exact ⟨g 0 a rfl, fun i t hi => g (i + 1) t (by simpa using hi)⟩
theorem hgL_get : ∀ (L : List VT) (m : Nat), hgL L ≤ m ↔ ∀ (i : Nat) (t : VT), L[i]? = some t → hgT t ≤ m
  | [], m => by simp [hgL]
  | a :: r, m => by
    simp only [hgL, Nat.max_le]
    rw [hgL_get r m]
    constructor
    · rintro ⟨h1, h2⟩ i t hi
      cases i with
      | zero => simp at hi; subst hi; exact h1
      | succ i => simp at hi; exact h2 i t hi
    · intro g
      exact ⟨g 0 a rfl, fun i t hi => g (i + 1) t (by simpa using hi)⟩
/-- a tree may be, with so many nodes ahead of it, so deep below the top -/
def mayB (c d : Int) (T : VT) : Bool := decide (c + szT T ≤ 4096 ∧ d + hgT T ≤ 33) && plainT T
theorem good_node {c d : Int} {T : VT} (h : mayB c d T = true) : c + 1 ≤ 4096 ∧ d ≤ 32 ∧ nodeB T = true := by
  unfold mayB at h
  simp only [Bool.and_eq_true, decide_eq_true_eq] at h
  have h1 := szT_pos T; have h2 := hgT_pos T
  have h3 := h.2
  rw [plainT_eq] at h3
  simp only [Bool.and_eq_true] at h3
  exact ⟨by omega, by omega, h3.1.1⟩
theorem hg_ls (T : VT) : hgL T.ls + 1 ≤ hgT T ∧ hgL T.vs + 1 ≤ hgT T := by cases T; simp only [hgT, VT.ls, VT.vs]; omega
theorem sz_both (T : VT) : szT T = 1 + szL T.ls + szL T.vs := by cases T; simp only [szT, VT.ls, VT.vs]
theorem hg_both (T : VT) : hgT T = 1 + max (hgL T.ls) (hgL T.vs) := by cases T; simp only [hgT, VT.ls, VT.vs]
theorem good_ls {c d : Int} {T : VT} (h : mayB c d T = true) (i : Nat) (t : VT) (ht : T.ls[i]? = some t) : mayB (c + 1 + szL (T.ls.take i)) (d + 1) t = true := by
  unfold mayB at *
  simp only [Bool.and_eq_true, decide_eq_true_eq] at *
  have h3 := h.2
  rw [plainT_eq] at h3
  simp only [Bool.and_eq_true] at h3
  have h4 := szL_take_succ T.ls i t ht
  have h5 := szL_take_le T.ls (i + 1)
  have h6 := (hgL_get T.ls _).1 (Nat.le_refl _) i t ht
  have h7 := hg_ls T
  have h8 := sz_both T
  exact ⟨⟨by omega, by omega⟩, (plainL_get _).1 h3.1.2 i t ht⟩
theorem good_vs {c d : Int} {T : VT} (h : mayB c d T = true) (i : Nat) (t : VT) (ht : T.vs[i]? = some t) : mayB (c + 1 + szL T.ls + szL (T.vs.take i)) (d + 1) t = true := by
  unfold mayB at *
  simp only [Bool.and_eq_true, decide_eq_true_eq] at *
  have h3 := h.2
  rw [plainT_eq] at h3
  simp only [Bool.and_eq_true] at h3
  have h4 := szL_take_succ T.vs i t ht
  have h5 := szL_take_le T.vs (i + 1)
  have h6 := (hgL_get T.vs _).1 (Nat.le_refl _) i t ht
  have h7 := hg_ls T
  have h8 := sz_both T
  exact ⟨⟨by omega, by omega⟩, (plainL_get _).1 h3.2 i t ht⟩
theorem good_sz {c d : Int} {T : VT} (h : mayB c d T = true) : c + szT T ≤ 4096 ∧ d + hgT T ≤ 33 ∧ plainT T = true := by
  unfold mayB at h
  simp only [Bool.and_eq_true, decide_eq_true_eq] at h
  exact ⟨h.1.1, h.1.2, h.2⟩
theorem good_all {c d : Int} {T : VT} (hd : d ≤ 32) (hc : c + 1 + szL T.ls + szL T.vs ≤ 4096) (hn : nodeB T = true) (h1 : ∀ (i : Nat) (t : VT), T.ls[i]? = some t → d + 1 + hgT t ≤ 33 ∧ plainT t = true) (h2 : ∀ (i : Nat) (t : VT), T.vs[i]? = some t → d + 1 + hgT t ≤ 33 ∧ plainT t = true) : mayB c d T = true := by
  unfold mayB
  have h8 := sz_both T
  have h9 := hg_both T
  have g1 := (hgL_get T.ls (32 - d).toNat).2 (fun i t h => by have := (h1 i t h).1; omega)
  have g2 := (hgL_get T.vs (32 - d).toNat).2 (fun i t h => by have := (h2 i t h).1; omega)
  rw [plainT_eq, hn, (plainL_get _).2 (fun i t h => (h1 i t h).2), (plainL_get _).2 (fun i t h => (h2 i t h).2), decide_eq_true (by constructor <;> omega)]
  rfl
end Go.Proofs.YtjcgkihkjjaefaaGreatDoor
/- Plain mathematics of leaves: the parts of a tree that have no parts, with their paths. -/
namespace Go.Proofs.YtjcgkihkjjaefaaGreatDoor

def lpl (i : Nat) : PStep := ⟨⟨#[]⟩, i, true⟩
def lky (c : ByteArray) : PStep := ⟨c, 0, false⟩
mutual
def lfT : VT → List PStep → List (List PStep × VT)
  | .mk k n s L K V, p => if k = 5 ∧ 0 < L.length then lfL L 0 p else if k = 6 ∧ 0 < V.length then lfM V K p else [(p, .mk k n s L K V)]
def lfL : List VT → Nat → List PStep → List (List PStep × VT)
  | [], _, _ => []
  | t :: r, i, p => lfT t (p ++ [lpl i]) ++ lfL r (i + 1) p
def lfM : List VT → List ByteArray → List PStep → List (List PStep × VT)
  | [], _, _ => []
  | t :: r, K, p => lfT t (p ++ [lky (K.headD ⟨#[]⟩)]) ++ lfM r K.tail p
end
theorem lfT_at (T : VT) (p : List PStep) : lfT T p = if T.kd = 5 ∧ 0 < T.ls.length then lfL T.ls 0 p else if T.kd = 6 ∧ 0 < T.vs.length then lfM T.vs T.ks p else [(p, T)] := by
  cases T with
  | mk k n s L K V => rw [lfT]; rfl
theorem lfL_snoc (t : VT) (p : List PStep) : ∀ (A : List VT) (i : Nat), lfL (A ++ [t]) i p = lfL A i p ++ lfT t (p ++ [lpl (i + A.length)])
  | [], i => by simp [lfL]
  | a :: A, i => by
    show lfT a _ ++ lfL (A ++ [t]) (i + 1) p = _
    rw [lfL_snoc t p A (i + 1)]
    show _ = (lfT a _ ++ lfL A (i + 1) p) ++ _
    rw [List.append_assoc, List.length_cons, show i + 1 + A.length = i + (A.length + 1) by omega]
theorem lfM_snoc (t : VT) (p : List PStep) : ∀ (A : List VT) (K : List ByteArray) (c : ByteArray), K[A.length]? = some c → lfM (A ++ [t]) K p = lfM A K p ++ lfT t (p ++ [lky c])
  | [], K, c, h => by
    cases K with
    | nil => simp at h
    | cons d K => simp at h; subst h; simp [lfM]
  | a :: A, K, c, h => by
    show lfT a _ ++ lfM (A ++ [t]) K.tail p = _
    rw [lfM_snoc t p A K.tail c (by cases K with | nil => simp at h | cons d K => simpa using h)]
    show _ = (lfT a _ ++ lfM A K.tail p) ++ _
    rw [List.append_assoc]
mutual
theorem lfT_len : ∀ (T : VT) (p : List PStep), (lfT T p).length ≤ szT T
  | .mk k _ _ L K V, p => by
    have h1 := lfL_len L 0 p
    have h2 := lfM_len V K p
    simp only [lfT, szT]
    split
    · omega
    · split
      · omega
      · simp only [List.length_cons, List.length_nil]; omega
theorem lfL_len : ∀ (L : List VT) (i : Nat) (p : List PStep), (lfL L i p).length ≤ szL L
  | [], _, _ => Nat.zero_le _
  | t :: r, i, p => by
    have h1 := lfT_len t (p ++ [lpl i])
    have h2 := lfL_len r (i + 1) p
    simp only [lfL, szL, List.length_append]; omega
theorem lfM_len : ∀ (V : List VT) (K : List ByteArray) (p : List PStep), (lfM V K p).length ≤ szL V
  | [], _, _ => Nat.zero_le _
  | t :: r, K, p => by
    have h1 := lfT_len t (p ++ [lky (K.headD ⟨#[]⟩)])
    have h2 := lfM_len r K.tail p
    simp only [lfM, szL, List.length_append]; omega
end
theorem ndc_len {T : VT} (h : nodeB T = true) : (T.kd = 5 ∨ T.ls = []) ∧ (T.kd = 6 ∨ T.vs = []) := by
  cases T with
  | mk k n s L K V =>
  show (k = 5 ∨ L = []) ∧ (k = 6 ∨ V = [])
  change nodeC k n (n == 0) s.toList.isEmpty ((L.length : Int) == 0) ((V.length : Int) == 0) (numB s.data.toList && !intB s.data.toList) (teI s == 0) (stampB s) (keysB K) = true at h
  unfold nodeC at h
  by_cases h5 : k = 5
  · refine ⟨Or.inl h5, Or.inr ?_⟩
    subst h5
    rw [if_neg (by decide), if_neg (by decide), if_neg (by decide), if_neg (by decide), if_neg (by decide), if_neg (by decide), if_pos rfl] at h
    simp only [Bool.and_eq_true, beq_iff_eq] at h
    exact List.eq_nil_of_length_eq_zero (by omega)
  · by_cases h6 : k = 6
    · refine ⟨Or.inr ?_, Or.inl h6⟩
      subst h6
      rw [if_neg (by decide), if_neg (by decide), if_neg (by decide), if_neg (by decide), if_neg (by decide), if_neg (by decide), if_neg (by decide), if_pos rfl] at h
      simp only [Bool.and_eq_true, beq_iff_eq] at h
      exact List.eq_nil_of_length_eq_zero (by omega)
    · have key : ((L.length : Int) == 0) = true ∧ ((V.length : Int) == 0) = true := by
        rw [if_neg h5, if_neg h6] at h
        repeat' (split at h)
        all_goals first
          | (simp only [Bool.and_eq_true] at h; exact ⟨h.1.2, h.2⟩)
          | (cases h)
      rw [beq_iff_eq, beq_iff_eq] at key
      exact ⟨Or.inr (List.eq_nil_of_length_eq_zero (by omega)), Or.inr (List.eq_nil_of_length_eq_zero (by omega))⟩
theorem leaf_bare {T : VT} (h : plainT T = true) (h1 : ¬ (T.kd = 5 ∧ 0 < T.ls.length)) (h2 : ¬ (T.kd = 6 ∧ 0 < T.vs.length)) : T.ls = [] ∧ T.vs = [] := by
  rw [plainT_eq] at h
  simp only [Bool.and_eq_true] at h
  obtain ⟨a, b⟩ := ndc_len h.1.1
  refine ⟨?_, ?_⟩
  · rcases a with a | a
    · exact List.eq_nil_of_length_eq_zero (by omega)
    · exact a
  · rcases b with b | b
    · exact List.eq_nil_of_length_eq_zero (by omega)
    · exact b
end Go.Proofs.YtjcgkihkjjaefaaGreatDoor
