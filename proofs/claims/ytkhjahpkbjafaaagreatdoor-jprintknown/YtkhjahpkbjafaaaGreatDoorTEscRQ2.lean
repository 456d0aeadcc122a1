/- Plain mathematics of JSON's words: a text with blanks about each word. -/
import Derived.Test.YtkhjahpkbjafaaaGreatDoorTMathLexL
import Derived.Test.YtkhjahpkbjafaaaGreatDoorTLexTail
import Derived.Test.YtkhjahpkbjafaaaGreatDoorTEscK
import Derived.Test.YtkhjahpkbjafaaaGreatDoorTJxOne
import Derived.BigRegion
/- The document's own hex4 and Quote of chapter 6: walked. -/
/- How the document's reading of a TOML string goes, said by the pieces. -/
/- The document's own Quote of chapter 6: walked. -/
namespace Go.Proofs.YtkhjahpkbjafaaaGreatDoor
open Go.RowKit

/-- the text with blanks about each word -/
def blS (T : List UInt8) : List Wd → List UInt8
  | [] => []
  | x :: r => match r with
    | [] => []
    | y :: _ => [32, 10] ++ ((T.drop x.at_).take (y.at_ - x.at_) ++ ([9, 13] ++ blS T r))
theorem blS_one (T : List UInt8) (x : Wd) : blS T [x] = [] := rfl
theorem blS_two (T : List UInt8) (x y : Wd) (r : List Wd) : blS T (x :: y :: r) = [32, 10] ++ ((T.drop x.at_).take (y.at_ - x.at_) ++ ([9, 13] ++ blS T (y :: r))) := rfl
theorem Wds.some {T : List UInt8} {i : Nat} {ws : List Wd} (h : Wds T i ws) : ∃ y r, ws = y :: r ∧ i ≤ y.at_ ∧ y.at_ ≤ T.length ∧ (∀ k (h : k < T.length), i ≤ k → k < y.at_ → blB T[k] = true) ∧ (∀ b, T[y.at_]? = some b → blB b = false) := by
  cases h with
  | stop _ h1 h2 => exact ⟨_, _, rfl, h1, Nat.le_refl _, fun k hk hp _ => h2 k hk hp, fun b hb => by rw [List.getElem?_eq_none (Nat.le_refl _)] at hb; cases hb⟩
  | word _ j h1 h2 h3 h4 h5 ws r => exact ⟨_, _, rfl, h1, Nat.le_of_lt h2, h3, fun b hb => by rw [at_q h2] at hb; injection hb with hb; rw [← hb]; exact h4⟩
theorem Wds.count {T : List UInt8} {i : Nat} {ws : List Wd} (h : Wds T i ws) : i + ws.length ≤ T.length + 1 := by
  induction h with
  | stop i h1 h2 => simp; omega
  | word i j h1 h2 h3 h4 h5 ws r ih =>
    have := (lw_good (at_q h2) h4 h5).2.1
    rw [List.length_cons]; omega
theorem Wds.size {T : List UInt8} {i : Nat} {ws : List Wd} (h : Wds T i ws) : ∀ x r, ws = x :: r → x.at_ + (blS T ws).length + 4 ≤ T.length + 4 * ws.length := by
  induction h with
  | stop i h1 h2 =>
    intro x r e
    injection e with e1 e2; subst e1 e2
    rw [blS_one]; simp
  | word i j h1 h2 h3 h4 h5 ws r ih =>
    intro x r2 e
    injection e with e1 e2; subst e1 e2
    obtain ⟨y, t, rfl, g1, g2, -, -⟩ := r.some
    have ih2 := ih y t rfl
    rw [blS_two]
    simp only [List.length_append, List.length_cons, List.length_nil, List.length_take, List.length_drop] at ih2 ⊢
    have := (lw_good (at_q h2) h4 h5).2.1
    omega
theorem Wds.blanks {T : List UInt8} {ws : List Wd} : ∀ (n i : Nat), i + n ≤ T.length → (∀ k (h : k < T.length), i ≤ k → k < i + n → blB T[k] = true) → Wds T (i + n) ws → Wds T i ws
  | 0, i, _, _, r => r
  | n + 1, i, hl, hb, r => by
    refine Wds.blank (by omega) (hb i (by omega) (Nat.le_refl _) (by omega)) (Wds.blanks n (i + 1) (by omega) (fun k h h1 h2 => hb k h (by omega) (by omega)) ?_)
    rw [show i + 1 + n = i + (n + 1) by omega]; exact r
/-- the same kinds and texts -/
def sameW (a b : List Wd) : Prop := a.map (fun x => (x.kd, x.tx)) = b.map (fun x => (x.kd, x.tx))
end Go.Proofs.YtkhjahpkbjafaaaGreatDoor
namespace Go.Proofs.YtkhjahpkbjafaaaGreatDoor
open Go.RowKit

theorem strOfNums_data' (xs : List Int) : (strOfNums xs).data.toList = xs.map fun n => UInt8.ofNat n.toNat := by unfold strOfNums; simp
end Go.Proofs.YtkhjahpkbjafaaaGreatDoor
namespace Go.Proofs.YtkhjahpkbjafaaaGreatDoor
open Go.RowKit

def EE (many : Bool) (q : Nat) (l : List UInt8) : List UInt8 × Nat := if many = true then mE q l else oE q l
def PP (many : Bool) (q : Nat) (l : List UInt8) : List UInt8 × Nat :=
  if bt l 0 = 92 ∧ q = 34 then (if many = true ∧ 0 < fdN l then ([], fdN l) else escP true l)
  else if many = true ∧ 0 < lnE l then (l.take (lnE l), lnE l) else opP l
def tStart (many : Bool) (T : List UInt8) (a : Nat) : Nat := if many = true then a + 3 + lnE (T.drop (a + 3)) else a + 1
theorem tk_ascii {l : List UInt8} (h : bt l 0 < 128) : tkN l = 1 := by
  cases l with
  | nil => rw [bt_nil] at h; omega
  | cons a t =>
    rw [bt_cons] at h
    have hb : begN a.toNat = 1 := by unfold begN; rw [if_pos h]
    have hr : begR a.toNat = a.toNat := by unfold begR; rw [if_pos h]
    have hk : tkOk a t = true := by
      unfold tkOk
      rw [hb, hr]
      simp only [Nat.sub_self, List.take_zero, fol, List.foldl_nil]
      unfold goodN wdN
      rw [if_pos h]
      simp; omega
    simp only [tkN, hk, if_true, hb]
section
variable {many : Bool} {q : Nat} {T : List UInt8} {f i : Nat} {acc : List UInt8}
/-- a letter as it is, or a line's end, or what is wrong -/
def lineB (many : Bool) (l : List UInt8) : Bool := many && decide (0 < lnE l)
def badB (many : Bool) (l : List UInt8) : Prop := tkN l = 0 ∨ ((bt l 0 < 32 ∨ bt l 0 = 127) ∧ bt l 0 ≠ 9 ∧ lineB many l = false)
end
end Go.Proofs.YtkhjahpkbjafaaaGreatDoor
namespace Go.Proofs.YtkhjahpkbjafaaaGreatDoor
open Go.RowKit

/-- a letter, cut out, is the same letter -/
theorem tk_cut (l : List UInt8) (h : 0 < l.length) : tkN (l.take (stp l)) = tkN l := by
  cases l with
  | nil => simp at h
  | cons a t =>
    by_cases hk : tkOk a t = true
    · have hn : tkN (a :: t) = begN a.toNat := by simp only [tkN, hk, if_true]
      have h1 := hk
      unfold tkOk at h1
      simp only [Bool.and_eq_true, decide_eq_true_eq] at h1
      obtain ⟨⟨⟨g1, g2⟩, g3⟩, g4, g5⟩ := h1
      have hs : stp (a :: t) = begN a.toNat := by unfold stp; rw [hn]; omega
      obtain ⟨m, hm⟩ : ∃ m, begN a.toNat = m + 1 := ⟨begN a.toNat - 1, by omega⟩
      rw [hn, hs]
      have e : (a :: t).take (begN a.toNat) = a :: t.take (begN a.toNat - 1) := by rw [hm]; rfl
      rw [e]
      have hk2 : tkOk a (t.take (begN a.toNat - 1)) = true := by
        unfold tkOk
        rw [List.take_take, Nat.min_self, g3, g4, decide_eq_true g5, List.length_take, decide_eq_true (show begN a.toNat ≠ 0 ∧ begN a.toNat ≤ min (begN a.toNat - 1) t.length + 1 by omega)]; rfl
      simp only [tkN, hk2, if_true]
    · have hk' : tkOk a t = false := by simpa using hk
      have hn : tkN (a :: t) = 0 := by simp only [tkN, hk']; rfl
      have hs : stp (a :: t) = 1 := by unfold stp; rw [hn]; rfl
      rw [hn, hs]
      show tkN [a] = 0
      by_cases ha : a.toNat < 128
      · have := tk_ascii (l := a :: t) (by rw [bt_cons]; exact ha)
        omega
      · have h2 : tkOk a [] = false := by
          unfold tkOk
          have : ¬ (begN a.toNat ≠ 0 ∧ begN a.toNat ≤ ([] : List UInt8).length + 1) := by
            unfold begN
            rw [if_neg ha]
            (repeat' split) <;> simp
          rw [decide_eq_false this]; rfl
        simp only [tkN, h2]; rfl
theorem qst_small {toml : Bool} {l : List UInt8} (h0 : tkN l ≠ 0) (h1 : bt l 0 < 128) (h : ¬ (bt l 0 = 127 ∧ toml = false)) : qst toml l = qbB (bt l 0) := by
  unfold qst; rw [if_neg h0, if_neg]; rw [tk_ascii h1]; rintro (h2 | h2)
  · omega
  · exact h h2
theorem qst_as {toml : Bool} {l : List UInt8} (h0 : tkN l ≠ 0) (h : 1 < tkN l ∨ bt l 0 = 127 ∧ toml = false) : qst toml l = l.take (tkN l) := by
  unfold qst; rw [if_neg h0, if_pos h]
end Go.Proofs.YtkhjahpkbjafaaaGreatDoor
