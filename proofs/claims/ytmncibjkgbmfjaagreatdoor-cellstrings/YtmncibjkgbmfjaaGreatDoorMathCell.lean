/- Plain mathematics: a cell for each value, a value for each cell. -/
import Derived.Test.YtmncibjkgbmfjaaGreatDoorVPlain
import Derived.Test.YtmncibjkgbmfjaaGreatDoorVPlus
import Derived.Test.YtmncibjkgbmfjaaGreatDoorMathDecAll
namespace Go.Proofs.YtmncibjkgbmfjaaGreatDoor
open Go.RowKit

/-- the value of a number's text -/
def cnmT (l : List UInt8) : VT := if intB l = true then leafT 2 (intV l) ⟨#[]⟩ else leafT 3 0 (mkS l)
/-- the words -/
def cwdT (l : List UInt8) : Option VT :=
  if l = [110, 117, 108, 108] then some zeroT else if l = [116, 114, 117, 101] then some (leafT 1 1 ⟨#[]⟩) else if l = [102, 97, 108, 115, 101] then some (leafT 1 0 ⟨#[]⟩) else if l = [91, 93] then some (leafT 5 0 ⟨#[]⟩) else if l = [123, 125] then some (leafT 6 0 ⟨#[]⟩) else none
/-- what a text is read as, with the error -/
def celT (l : List UInt8) : VT × Int :=
  if l = [] then (zeroT, 9) else match cwdT l with
  | some T => (T, 0)
  | none => if numB l = true then (cnmT l, 0) else if l.head? = some 64 then (if stampB (mkS l.tail) = true then (leafT 7 0 (mkS l.tail), 0) else (zeroT, 4))
    else if l.head? = some 39 then (strR (mkS l.tail), teI (mkS l.tail)) else (strR (mkS l), teI (mkS l))
/-- a text that is read as its own string -/
def cplB (l : List UInt8) : Bool := !l.isEmpty && (cwdT l).isNone && !numB l && !decide (l.head? = some 64) && !decide (l.head? = some 39)
/-- what is written of a string -/
def cstL (l : List UInt8) : List UInt8 := if cplB l = true then l else 39 :: l
/-- what is written of a value without parts -/
def celS (k n : Int) (s : ByteArray) : List UInt8 :=
  if k = 1 then (if n = 1 then [116, 114, 117, 101] else [102, 97, 108, 115, 101]) else if k = 2 then txt n else if k = 3 then s.data.toList else if k = 4 then cstL s.data.toList
  else if k = 7 then 64 :: s.data.toList else if k = 5 then [91, 93] else if k = 6 then [123, 125] else [110, 117, 108, 108]
def celW (T : VT) : List UInt8 := celS T.kd T.nm T.st
/-- a value that has a cell -/
def celB (T : VT) : Bool := T.ls.isEmpty && T.vs.isEmpty && mayB 0 1 T

theorem cnum_at {b : UInt8} (l : List UInt8) (h : ¬ b.toNat = 45) (hd : isD b = false) : numB (b :: l) = false := by
  have e : pWok (b :: l) = false := by
    unfold pWok pW pU pNeg
    simp [h, hd]
  unfold numB pOk
  rw [e]; rfl
theorem cwd_is {l : List UInt8} {T : VT} (h : cwdT l = some T) : (l = [110, 117, 108, 108] ∧ T = zeroT) ∨ (l = [116, 114, 117, 101] ∧ T = leafT 1 1 ⟨#[]⟩) ∨ (l = [102, 97, 108, 115, 101] ∧ T = leafT 1 0 ⟨#[]⟩) ∨ (l = [91, 93] ∧ T = leafT 5 0 ⟨#[]⟩) ∨ (l = [123, 125] ∧ T = leafT 6 0 ⟨#[]⟩) := by
  unfold cwdT at h
  by_cases h1 : l = [110, 117, 108, 108]
  · rw [if_pos h1] at h; exact .inl ⟨h1, (Option.some.inj h).symm⟩
  rw [if_neg h1] at h
  by_cases h2 : l = [116, 114, 117, 101]
  · rw [if_pos h2] at h; exact .inr (.inl ⟨h2, (Option.some.inj h).symm⟩)
  rw [if_neg h2] at h
  by_cases h3 : l = [102, 97, 108, 115, 101]
  · rw [if_pos h3] at h; exact .inr (.inr (.inl ⟨h3, (Option.some.inj h).symm⟩))
  rw [if_neg h3] at h
  by_cases h4 : l = [91, 93]
  · rw [if_pos h4] at h; exact .inr (.inr (.inr (.inl ⟨h4, (Option.some.inj h).symm⟩)))
  rw [if_neg h4] at h
  by_cases h5 : l = [123, 125]
  · rw [if_pos h5] at h; exact .inr (.inr (.inr (.inr ⟨h5, (Option.some.inj h).symm⟩)))
  rw [if_neg h5] at h; cases h
theorem cwd_num {l : List UInt8} (h : numB l = true) : cwdT l = none := by
  cases hc : cwdT l with
  | none => rfl
  | some T =>
    rcases cwd_is hc with ⟨rfl, -⟩ | ⟨rfl, -⟩ | ⟨rfl, -⟩ | ⟨rfl, -⟩ | ⟨rfl, -⟩ <;>
      (rw [cnum_at _ (by decide) (by decide)] at h; cases h)
theorem cwd_mark (b : UInt8) (l : List UInt8) (h : b = 39 ∨ b = 64) : cwdT (b :: l) = none := by
  unfold cwdT
  rcases h with rfl | rfl <;> simp
theorem cel_none {l : List UInt8} (h0 : ¬ l = []) (hw : cwdT l = none) : celT l = if numB l = true then (cnmT l, 0) else if l.head? = some 64 then (if stampB (mkS l.tail) = true then (leafT 7 0 (mkS l.tail), 0) else (zeroT, 4))
    else if l.head? = some 39 then (strR (mkS l.tail), teI (mkS l.tail)) else (strR (mkS l), teI (mkS l)) := by
  unfold celT
  rw [if_neg h0, hw]
theorem cel_word {l : List UInt8} {T : VT} (hw : cwdT l = some T) : celT l = (T, 0) := by
  have h0 : ¬ l = [] := by
    rcases cwd_is hw with ⟨rfl, -⟩ | ⟨rfl, -⟩ | ⟨rfl, -⟩ | ⟨rfl, -⟩ | ⟨rfl, -⟩ <;> simp
  unfold celT
  rw [if_neg h0, hw]
theorem cel_num {l : List UInt8} (h : numB l = true) : celT l = (cnmT l, 0) := by
  rw [cel_none (num_ne l h) (cwd_num h), if_pos h]
theorem cel_at (l : List UInt8) : celT (64 :: l) = if stampB (mkS l) = true then (leafT 7 0 (mkS l), 0) else (zeroT, 4) := by
  rw [cel_none (by simp) (cwd_mark _ _ (.inr rfl)), cnum_at _ (by decide) (by decide), if_neg (by decide), if_pos (by rfl)]
  rfl
theorem cel_mark (l : List UInt8) : celT (39 :: l) = (strR (mkS l), teI (mkS l)) := by
  rw [cel_none (by simp) (cwd_mark _ _ (.inl rfl)), cnum_at _ (by decide) (by decide), if_neg (by decide), if_neg (by simp), if_pos (by rfl)]
  rfl
theorem cpl_parts {l : List UInt8} (h : cplB l = true) : ¬ l = [] ∧ cwdT l = none ∧ numB l = false ∧ ¬ l.head? = some 64 ∧ ¬ l.head? = some 39 := by
  unfold cplB at h
  simp only [Bool.and_eq_true, Bool.not_eq_true', decide_eq_false_iff_not, Option.isNone_iff_eq_none] at h
  obtain ⟨⟨⟨⟨h1, h2⟩, h3⟩, h4⟩, h5⟩ := h
  exact ⟨by intro e; rw [e] at h1; simp at h1, h2, h3, h4, h5⟩
theorem cpl_of {l : List UInt8} (h0 : ¬ l = []) (h1 : cwdT l = none) (h2 : numB l = false) (h3 : ¬ l.head? = some 64) (h4 : ¬ l.head? = some 39) : cplB l = true := by
  unfold cplB
  rw [h1, h2, decide_eq_false h3, decide_eq_false h4]
  cases l with
  | nil => exact absurd rfl h0
  | cons a r => rfl
theorem cel_plain {l : List UInt8} (h : cplB l = true) : celT l = (strR (mkS l), teI (mkS l)) := by
  obtain ⟨h0, h1, h2, h3, h4⟩ := cpl_parts h
  rw [cel_none h0 h1, h2, if_neg (by decide), if_neg h3, if_neg h4]
theorem str_r {s : ByteArray} (h : teI s = 0) : strR s = leafT 4 0 s := by unfold strR; rw [if_pos h]
/-- what is no plain text is read as something else -/
theorem cel_not {l : List UInt8} (h : cplB l = false) : ¬ ((celT l).2 = 0 ∧ (celT l).1 = leafT 4 0 (mkS l)) := by
  rintro ⟨h1, h2⟩
  by_cases h0 : l = []
  · subst h0; unfold celT at h1; simp at h1
  cases hw : cwdT l with
  | some T =>
    rw [cel_word hw] at h2
    have h2 : T = leafT 4 0 (mkS l) := h2
    rcases cwd_is hw with ⟨-, e⟩ | ⟨-, e⟩ | ⟨-, e⟩ | ⟨-, e⟩ | ⟨-, e⟩ <;>
      (rw [e] at h2; have := congrArg VT.kd h2; simp [zeroT, leafT, VT.kd] at this)
  | none =>
    cases hn : numB l with
    | true =>
      rw [cel_num hn] at h2
      have h2 : cnmT l = leafT 4 0 (mkS l) := h2
      have := congrArg VT.kd h2
      unfold cnmT at this
      cases hi : intB l <;> simp [hi, leafT, VT.kd] at this
    | false =>
      by_cases h3 : l.head? = some 64
      · obtain ⟨a, r, rfl⟩ : ∃ a r, l = a :: r := by
          cases l with
          | nil => exact absurd rfl h0
          | cons a r => exact ⟨a, r, rfl⟩
        have ha : a = 64 := by simpa using h3
        subst ha
        rw [cel_at] at h1 h2
        cases hs : stampB (mkS r) with
        | true =>
          rw [hs, if_pos rfl] at h2
          have := congrArg VT.kd h2
          simp [leafT, VT.kd] at this
        | false => rw [hs, if_neg (by decide)] at h1; simp at h1
      · by_cases h4 : l.head? = some 39
        · obtain ⟨a, r, rfl⟩ : ∃ a r, l = a :: r := by
            cases l with
            | nil => exact absurd rfl h0
            | cons a r => exact ⟨a, r, rfl⟩
          have ha : a = 39 := by simpa using h4
          subst ha
          rw [cel_mark] at h1 h2
          have h1 : teI (mkS r) = 0 := h1
          have h2 : strR (mkS r) = leafT 4 0 (mkS (39 :: r)) := h2
          rw [str_r h1] at h2
          have := congrArg (fun T => T.st.data.toList.length) h2
          simp [leafT, VT.st, mkS_list] at this
        · rw [cpl_of h0 hw hn h3 h4] at h; cases h
/-- a string's cell is read back -/
theorem cst_back {l : List UInt8} (h : teI (mkS l) = 0) : celT (cstL l) = (leafT 4 0 (mkS l), 0) := by
  unfold cstL
  cases hc : cplB l with
  | true => rw [if_pos rfl, cel_plain hc, str_r h, h]
  | false => rw [if_neg (by decide), cel_mark, str_r h, h]
theorem leaf_of {T : VT} (h : celB T = true) (hk : T.ks.length = T.vs.length) : T = leafT T.kd T.nm T.st ∧ nodeB T = true := by
  unfold celB at h
  simp only [Bool.and_eq_true, List.isEmpty_iff] at h
  obtain ⟨⟨h1, h2⟩, h3⟩ := h
  cases T with
  | mk k n s L K V =>
    simp only [VT.ls, VT.vs, VT.ks, VT.kd, VT.nm, VT.st] at *
    subst h1 h2
    have hk : K = [] := List.length_eq_zero_iff.1 hk
    subst hk
    exact ⟨rfl, (good_node h3).2.2⟩
/-- a value's cell is read back as it -/
theorem cel_back {T : VT} (h : celB T = true) (hk : T.ks.length = T.vs.length) (hn : -9223372036854775808 ≤ T.nm ∧ T.nm < 9223372036854775808) : celT (celW T) = (T, 0) := by
  obtain ⟨h1, h2⟩ := leaf_of h hk
  generalize hK : T.kd = k at h1
  generalize hN : T.nm = n at h1 hn
  generalize hS : T.st = s at h1
  subst h1
  unfold nodeB nodeC at h2
  simp only [leafT, VT.kd, VT.nm, VT.st, VT.ls, VT.ks, VT.vs] at h2
  have hsl : ∀ x : ByteArray, x.toList.isEmpty = true → x = ⟨#[]⟩ := fun x hx => by
    have e : x.size = 0 := by
      rw [Lib.toList_data] at hx
      rw [← size_list, List.isEmpty_iff.1 hx]; rfl
    apply ByteArray.ext
    exact Array.eq_empty_of_size_eq_zero e
  show celT (celS k n s) = _
  unfold celS
  simp only [leafT]
  by_cases k1 : k = 1
  · subst k1
    simp at h2
    obtain ⟨h3, h4⟩ := h2
    rw [if_pos rfl]
    rcases h3 with rfl | rfl
    · rw [if_neg (by decide)]
      rw [hsl s (by simpa using h4)]
      exact cel_word (by rfl)
    · rw [if_pos rfl]
      rw [hsl s (by simpa using h4)]
      exact cel_word (by rfl)
  rw [if_neg k1]
  by_cases k2 : k = 2
  · subst k2
    simp at h2
    rw [if_pos rfl]
    obtain ⟨i1, i2, -⟩ := ints_int n hn
    rw [hsl s (by simpa using h2), cel_num (text_bare n (by omega)).1, cnmT, if_pos i1, i2]
    rfl
  rw [if_neg k2]
  by_cases k3 : k = 3
  · subst k3
    simp at h2
    obtain ⟨h3, h4, h5⟩ := h2
    rw [if_pos rfl, cel_num h4, cnmT, h5, if_neg (by decide), h3, ← mkS_of s _ rfl]
    rfl
  rw [if_neg k3]
  by_cases k4 : k = 4
  · subst k4
    simp at h2
    obtain ⟨h3, h4⟩ := h2
    rw [if_pos rfl, h3]
    have e := mkS_of s _ rfl
    have := cst_back (l := s.data.toList) (by rw [← e]; exact h4)
    rw [← e] at this
    exact this
  rw [if_neg k4]
  by_cases k7 : k = 7
  · subst k7
    simp at h2
    obtain ⟨h3, h4⟩ := h2
    rw [if_pos rfl, cel_at, ← mkS_of s _ rfl, h4, if_pos rfl, h3]
    rfl
  rw [if_neg k7]
  by_cases k5 : k = 5
  · subst k5
    simp at h2
    rw [if_pos rfl, hsl s (by simpa using h2.2), h2.1]
    exact cel_word (by rfl)
  rw [if_neg k5]
  by_cases k6 : k = 6
  · subst k6
    simp at h2
    rw [if_pos rfl, hsl s (by simpa using h2.1.2), h2.1.1]
    exact cel_word (by rfl)
  rw [if_neg k6]
  by_cases k0 : k = 0
  · subst k0
    simp at h2
    rw [hsl s (by simpa using h2.2), h2.1]
    exact cel_word (by rfl)
  · simp [k0, k1, k2, k3, k4, k5, k6, k7] at h2
end Go.Proofs.YtmncibjkgbmfjaaGreatDoor
