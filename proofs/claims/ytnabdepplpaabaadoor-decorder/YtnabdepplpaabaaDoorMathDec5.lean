/- Plain mathematics: a number with its sign turned. -/
import Derived.Test.YtnabdepplpaabaaDoorMathDec4
namespace Go.Proofs.YtnabdepplpaabaaDoor
open Go.RowKit

theorem num_ne (l : List UInt8) (h : numB l = true) : ¬ l = [] := by
  intro e; rw [e] at h; exact absurd h (by decide)
/-- all parts but the sign are told by what stands behind it -/
theorem turn_U (l : List UInt8) (h : pNeg l = false) : pU (45 :: l) = pU l ∧ pNeg (45 :: l) = true := by
  have h1 : pNeg (45 :: l) = true := rfl
  unfold pU; rw [h, h1]; exact ⟨rfl, rfl⟩
theorem turn_parts (l : List UInt8) (h : pNeg l = false) : pW (45 :: l) = pW l ∧ pF (45 :: l) = pF l ∧ pP (45 :: l) = pP l ∧ pOk (45 :: l) = pOk l := by
  have hU := (turn_U l h).1
  have hW : pW (45 :: l) = pW l := by unfold pW; rw [hU]
  have hR : pR (45 :: l) = pR l := by unfold pR; rw [hU]
  have hD : pDot (45 :: l) = pDot l := by unfold pDot; rw [hR]
  have hF : pF (45 :: l) = pF l := by unfold pF; rw [hD, hR]
  have hS : pS (45 :: l) = pS l := by unfold pS; rw [hD, hR]
  have hP : pP (45 :: l) = pP l := by unfold pP; rw [hS]
  refine ⟨hW, hF, hP, ?_⟩
  unfold pOk pWok pFok pEok pE; rw [hW, hF, hD, hS, hP]
theorem turn_num (l : List UInt8) (h : pNeg l = false) (hn : numB l = true) (hl : l.length ≤ 399) : numB (45 :: l) = true := by
  obtain ⟨_, _, h3, h4⟩ := turn_parts l h
  unfold numB at hn ⊢
  simp only [Bool.and_eq_true, decide_eq_true_eq] at hn ⊢
  rw [h3, h4]; exact ⟨hn.1, by simp; omega⟩
theorem turn_sc (l : List UInt8) (h : pNeg l = false) : scD (45 :: l) = scD l ∧ scT (45 :: l) = scT l ∧ scN (45 :: l) = !decide (scD l = []) ∧ scN l = false := by
  obtain ⟨h1, h2, h3, _⟩ := turn_parts l h
  have hD : scD (45 :: l) = scD l := by unfold scD; rw [h1, h2]
  refine ⟨hD, by unfold scT; rw [hD, h1, h2, h3], ?_, ?_⟩
  · unfold scN; rw [hD, (turn_U l h).2]; by_cases e : scD l = [] <;> simp [e]
  · unfold scN; rw [h]; split <;> rfl
theorem turn_whole (l : List UInt8) (h : pNeg l = false) (hn : numB l = true) (hl : l.length ≤ 399) : wholeB (45 :: l) = wholeB l := by
  obtain ⟨h1, h2, _, _⟩ := turn_sc l h
  unfold wholeB; rw [h1, h2, hn, turn_num l h hn hl]
theorem turn_cmp (a b : List UInt8) (ha : pNeg a = false) (hb : pNeg b = false) (na : numB a = true) (nb : numB b = true) (la : a.length ≤ 399) (lb : b.length ≤ 399) :
    cmpI (45 :: a) (45 :: b) = -cmpI a b ∧ cmpI (45 :: a) b ≤ 0 := by
  obtain ⟨a1, a2, a3, a4⟩ := turn_sc a ha
  obtain ⟨b1, b2, b3, b4⟩ := turn_sc b hb
  have na' := turn_num a ha na la
  have nb' := turn_num b hb nb lb
  rw [cmp_tri _ _ na' nb', cmp_tri _ _ na nb, cmp_tri _ _ na' nb, a1, a2, a3, a4, b1, b2, b3, b4]
  by_cases ea : scD a = [] <;> by_cases eb : scD b = []
  · have ta := (tri_of a ea).2
    have tb := (tri_of b eb).2
    rw [ea, eb, ta, tb]; decide
  · have s1 : ∀ p, sgI p (scD a) = 0 := fun p => by unfold sgI; rw [if_pos ea]
    have s2 : sgI true (scD b) = -1 := by unfold sgI; rw [if_neg eb]; rfl
    have s3 : sgI false (scD b) = 1 := by unfold sgI; rw [if_neg eb]; rfl
    have hne : ¬ scD a = scD b := by rw [ea]; exact fun h => eb h.symm
    simp only [ea, eb, decide_true, decide_false, Bool.not_true, Bool.not_false]
    rw [ea] at s1 hne
    unfold tcmp
    simp only [hne, false_and, if_false, s1, s2, s3]
    simp
  · have s1 : sgI true (scD a) = -1 := by unfold sgI; rw [if_neg ea]; rfl
    have s0 : sgI false (scD a) = 1 := by unfold sgI; rw [if_neg ea]; rfl
    have s2 : ∀ p, sgI p (scD b) = 0 := fun p => by unfold sgI; rw [if_pos eb]
    have hne : ¬ scD a = scD b := by rw [eb]; exact ea
    simp only [ea, eb, decide_true, decide_false, Bool.not_true, Bool.not_false]
    rw [eb] at s2 hne
    unfold tcmp
    simp only [hne, false_and, if_false, s1, s0, s2]
    simp
  · have s1 : sgI true (scD a) = -1 := by unfold sgI; rw [if_neg ea]; rfl
    have s0 : sgI false (scD a) = 1 := by unfold sgI; rw [if_neg ea]; rfl
    have s2 : sgI true (scD b) = -1 := by unfold sgI; rw [if_neg eb]; rfl
    have s3 : sgI false (scD b) = 1 := by unfold sgI; rw [if_neg eb]; rfl
    simp only [ea, eb, decide_false, Bool.not_false]
    unfold tcmp
    simp only [s1, s0, s2, s3, if_true]
    refine ⟨?_, by simp⟩
    by_cases hall : scD a = scD b ∧ scT a = scT b
    · simp [hall]
    · have h1 : ¬ (scD a = scD b ∧ True ∧ scT a = scT b) := fun h => hall ⟨h.1, h.2.2⟩
      rw [if_neg h1, if_neg h1]
      cases lessB (scD a) (scT a) (scD b) (scT b) <;> decide
end Go.Proofs.YtnabdepplpaabaaDoor
