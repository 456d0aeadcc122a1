/- Plain mathematics: a number with a power behind it; whole numbers' texts in the numbers' order. -/
import Derived.Test.YtnabdepplpaabaaDoorMathDec6
namespace Go.Proofs.YtnabdepplpaabaaDoor
open Go.RowKit

theorem natD_short : ∀ (k n : Nat), n < 10 ^ (k + 1) → (natD n).length ≤ k + 1
  | 0, n, h => by rw [natD_lo n (by omega)]; simp
  | k + 1, n, h => by
    by_cases hn : n < 10
    · rw [natD_lo n hn]; simp
    · rw [natD_hi n hn, List.length_append]
      have := natD_short k (n / 10) (by rw [Nat.pow_succ] at h; omega)
      simp; omega
theorem mag_short (n : Int) (h : -9223372036854775808 ≤ n ∧ n < 9223372036854775808) : (natD (mag n)).length ≤ 19 := natD_short 18 _ (by unfold mag; omega)
theorem txt_short (n : Int) (h : -9223372036854775808 ≤ n ∧ n < 9223372036854775808) : (txt n).length ≤ 20 := by
  have := mag_short n h; rw [txt_form, List.length_append]; split <;> simp <;> omega
theorem pow_short (k : Int) (h : -100000 ≤ k ∧ k ≤ 100000) : (txt k).length ≤ 7 := by
  have : (natD (mag k)).length ≤ 6 := natD_short 5 _ (by unfold mag; omega)
  rw [txt_form, List.length_append]; split <;> simp <;> omega
theorem natD_ok (m : Nat) : (natD m).length = 1 ∨ ¬ ((natD m).getD 0 0).toNat = 48 := by
  by_cases h : m = 0
  · subst h; left; rw [natD_lo 0 (by omega)]; rfl
  · right; exact natD_first m (by omega)
theorem num_of {l : List UInt8} (h1 : pOk l = true) (h2 : pwOk (pP l) = true) (h3 : l.length ≤ 400) : numB l = true := by
  unfold numB; rw [h1, h2]; simpa using h3
/-- what a text that is put together is worth -/
theorem sc_of {l : List UInt8} {neg : Bool} {W F P : List UInt8} (h1 : pNeg l = neg) (h2 : pW l = W) (h3 : pF l = F) (h4 : pP l = P) (hW : ¬ W = []) (h0 : ¬ (W.getD 0 0).toNat = 48) :
    scN l = neg ∧ scD l = rst (W ++ F) ∧ scT l = (W.length : Int) - 1 + pwV P := by
  have e0 : ¬ W ++ F = [] := by simp [hW]
  have e1 : ¬ ((W ++ F).getD 0 0).toNat = 48 := by rw [getD_app W F hW]; exact h0
  have hl := lst_ok _ e0 e1
  have hD : scD l = rst (W ++ F) := by unfold scD; rw [h2, h3, hl.1]
  have hne : ¬ scD l = [] := by rw [hD]; exact rst_ne _ e0 e1
  refine ⟨by unfold scN; rw [if_neg hne, h1], hD, ?_⟩
  unfold scT; rw [if_neg hne, h2, h3, h4, hl.2]; omega
/-- s e k -/
theorem text_e (n k : Int) (c : UInt8) (hc : c.toNat = 101 ∨ c.toNat = 69) (hn : -9223372036854775808 ≤ n ∧ n < 9223372036854775808) (hk : -100000 ≤ k ∧ k ≤ 100000) (l : List UInt8) (hl : l = txt n ++ c :: txt k) :
    numB l = true ∧ pNeg l = decide (n < 0) ∧ pW l = natD (mag n) ∧ pF l = [] ∧ pP l = txt k := by
  obtain ⟨h1, h2, h3, h4, h5⟩ := parse_of (decide (n < 0)) (natD (mag n)) [] [] (c :: txt k) (natD_all _) (natD_ne _) (natD_ok _) (Or.inl ⟨rfl, rfl⟩) (tail_txt c hc k) l (by rw [hl, txt_form n]; simp)
  have h4' : pP l = txt k := h4
  have s1 := txt_short n hn
  have s2 := pow_short k hk
  exact ⟨num_of h5 (by rw [h4']; exact (pwV_txt k hk).2) (by rw [hl]; simp; omega), h1, h2, h3, h4'⟩
/-- s 0..0 e k -/
theorem text_0e (n k : Int) (b : Nat) (hb : b ≤ 100) (h0 : ¬ n = 0) (hn : -9223372036854775808 ≤ n ∧ n < 9223372036854775808) (hk : -100000 ≤ k ∧ k ≤ 100000) (l : List UInt8) (hl : l = txt n ++ (List.replicate b 48 ++ 101 :: txt k)) :
    numB l = true ∧ pNeg l = decide (n < 0) ∧ pW l = natD (mag n) ++ List.replicate b 48 ∧ pF l = [] ∧ pP l = txt k := by
  have hf := natD_first (mag n) (by unfold mag; omega)
  obtain ⟨h1, h2, h3, h4, h5⟩ := parse_of (decide (n < 0)) (natD (mag n) ++ List.replicate b 48) [] [] (101 :: txt k) (by rw [List.all_append, natD_all, zeros_all]; rfl) (by simp [natD_ne]) (Or.inr (by rw [getD_app _ _ (natD_ne _)]; exact hf)) (Or.inl ⟨rfl, rfl⟩) (tail_txt 101 (by decide) k) l (by rw [hl, txt_form n]; simp)
  have h4' : pP l = txt k := h4
  have s1 := txt_short n hn
  have s2 := pow_short k hk
  exact ⟨num_of h5 (by rw [h4']; exact (pwV_txt k hk).2) (by rw [hl]; simp; omega), h1, h2, h3, h4'⟩
/-- s .F, with a power or none behind -/
theorem text_dot (n : Int) (F E : List UInt8) (hn : -9223372036854775808 ≤ n ∧ n < 9223372036854775808) (hF : F.all isD = true) (hF0 : ¬ F = []) (hE : Tail E) (hp : pwOk (E.drop 1) = true) (hs : F.length + E.length ≤ 300) (l : List UInt8) (hl : l = txt n ++ (46 :: F ++ E)) :
    numB l = true ∧ pNeg l = decide (n < 0) ∧ pW l = natD (mag n) ∧ pF l = F ∧ pP l = E.drop 1 := by
  obtain ⟨h1, h2, h3, h4, h5⟩ := parse_of (decide (n < 0)) (natD (mag n)) (46 :: F) F E (natD_all _) (natD_ne _) (natD_ok _) (Or.inr ⟨rfl, hF0, hF⟩) hE l (by rw [hl, txt_form n]; simp)
  have s1 := txt_short n hn
  exact ⟨num_of h5 (by rw [h4]; exact hp) (by rw [hl]; simp; omega), h1, h2, h3, h4⟩
theorem text_bare (n : Int) (hn : -9223372036854775808 ≤ n ∧ n < 9223372036854775808) :
    numB (txt n) = true ∧ pNeg (txt n) = decide (n < 0) ∧ pW (txt n) = natD (mag n) ∧ pF (txt n) = [] ∧ pP (txt n) = [] := by
  obtain ⟨h1, h2, h3, h4, h5⟩ := parse_of (decide (n < 0)) (natD (mag n)) [] [] [] (natD_all _) (natD_ne _) (natD_ok _) (Or.inl ⟨rfl, rfl⟩) (Or.inl rfl) (txt n) (by rw [txt_form n]; simp)
  have s1 := txt_short n hn
  have h4' : pP (txt n) = [] := h4
  exact ⟨num_of h5 (by rw [h4']; decide) (by omega), h1, h2, h3, h4'⟩
theorem pwV_nil : pwV [] = 0 := by decide
/-- DecScale, for a number that is not nought -/
theorem scale_math (n a : Int) (b : Nat) (hb : b ≤ 100) (h0 : ¬ n = 0) (hn : -9223372036854775808 ≤ n ∧ n < 9223372036854775808) (ha : -2000 ≤ a ∧ a ≤ 2000) :
    cmpI (txt n ++ 101 :: txt a) (txt n ++ (List.replicate b 48 ++ 101 :: txt (a - b))) = 0 ∧
    cmpI (txt n ++ 101 :: txt a) (txt n ++ (46 :: (48 :: List.replicate b 48) ++ 69 :: txt a)) = 0 ∧
    ¬ cmpI (txt n ++ 101 :: txt a) (txt n ++ 101 :: txt (a + 1)) = 0 := by
  have hf := natD_first (mag n) (by unfold mag; omega)
  obtain ⟨x0, x1, x2, x3, x4⟩ := text_e n a 101 (by decide) hn (by omega) _ rfl
  obtain ⟨y0, y1, y2, y3, y4⟩ := text_0e n (a - b) b hb h0 hn (by omega) _ rfl
  obtain ⟨z0, z1, z2, z3, z4⟩ := text_dot n (48 :: List.replicate b 48) (69 :: txt a) hn (by rw [List.all_cons, zeros_all]; decide) (by simp) (tail_txt 69 (by decide) a) (pwV_txt a (by omega)).2 (by have := pow_short a (by omega); simp; omega) _ rfl
  obtain ⟨u0, u1, u2, u3, u4⟩ := text_e n (a + 1) 101 (by decide) hn (by omega) _ rfl
  obtain ⟨p1, p2, p3⟩ := sc_of x1 x2 x3 x4 (natD_ne _) hf
  obtain ⟨q1, q2, q3⟩ := sc_of y1 y2 y3 y4 (by simp [natD_ne]) (by rw [getD_app _ _ (natD_ne _)]; exact hf)
  obtain ⟨r1, r2, r3⟩ := sc_of z1 z2 z3 z4 (natD_ne _) hf
  obtain ⟨v1, v2, v3⟩ := sc_of u1 u2 u3 u4 (natD_ne _) hf
  refine ⟨(cmp_zero _ _ x0 y0).2 ⟨by rw [p1, q1], ?_, ?_⟩, (cmp_zero _ _ x0 z0).2 ⟨by rw [p1, r1], ?_, ?_⟩, fun h => ?_⟩
  · rw [p2, q2, List.append_nil, List.append_nil, rst_zeros]
  · rw [p3, q3, (pwV_txt a (by omega)).1, (pwV_txt (a - b) (by omega)).1]; simp; omega
  · rw [p2, r2, List.append_nil, show natD (mag n) ++ 48 :: List.replicate b 48 = natD (mag n) ++ List.replicate (b + 1) 48 by rw [List.replicate_succ], rst_zeros]
  · rw [p3, r3]; rfl
  · have := ((cmp_zero _ _ x0 u0).1 h).2.2
    rw [p3, v3, (pwV_txt a (by omega)).1, (pwV_txt (a + 1) (by omega)).1] at this; omega
theorem scale_zero (a : Int) (ha : -2000 ≤ a ∧ a ≤ 2000) : cmpI (txt 0 ++ 101 :: txt a) [48] = 0 := by
  obtain ⟨x0, x1, x2, x3, x4⟩ := text_e 0 a 101 (by decide) (by omega) (by omega) _ rfl
  have hD : scD (txt 0 ++ 101 :: txt a) = [] := by unfold scD; rw [x2, x3]; decide +kernel
  refine (cmp_zero _ _ x0 (by decide +kernel)).2 ⟨?_, ?_, ?_⟩
  · rw [(tri_of _ hD).1]; decide +kernel
  · rw [hD]; decide +kernel
  · rw [(tri_of _ hD).2]; decide +kernel
end Go.Proofs.YtnabdepplpaabaaDoor
