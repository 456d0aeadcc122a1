/- Plain mathematics: texts put together of a sign, digits, a dot, a power: their parts; whole numbers' texts are in the numbers' order. -/
import Derived.Test.YtnabdepplpaabaaDoorMathDec5
namespace Go.Proofs.YtnabdepplpaabaaDoor
open Go.RowKit

theorem tw_app (W R : List UInt8) (hW : W.all isD = true) (hR : R = [] ∨ isD (R.getD 0 0) = false) : (W ++ R).takeWhile isD = W ∧ (W ++ R).dropWhile isD = R := by
  induction W with
  | nil =>
    rcases R with _ | ⟨r, R⟩
    · exact ⟨rfl, rfl⟩
    · have : isD r = false := by rcases hR with h | h; cases h; simpa using h
      simp [this]
  | cons a W ih =>
    simp only [List.all_cons, Bool.and_eq_true] at hW
    have := ih hW.2
    simp [hW.1, this.1, this.2]
theorem run_all (x : List UInt8) (h : x.all isD = true) : runN x = x.length := by
  have := (tw_app x [] h (Or.inl rfl)).1
  rw [List.append_nil] at this
  unfold runN; rw [this]
/-- what may stand behind the digits: nothing, or e and a power -/
def Tail (E : List UInt8) : Prop := E = [] ∨ ∃ c P, E = c :: P ∧ (c.toNat = 101 ∨ c.toNat = 69) ∧ ¬ pD P = [] ∧ runN (pD P) = (pD P).length
theorem tail_byte {E : List UInt8} (h : Tail E) : E = [] ∨ (isD (E.getD 0 0) = false ∧ ¬ (E.getD 0 0).toNat = 46) := by
  rcases h with h | ⟨c, P, rfl, h, _⟩
  · exact Or.inl h
  · right; simp only [List.getD_cons_zero]
    refine ⟨?_, by omega⟩
    unfold isD; simp; omega
/-- the parts of a text that is put together -/
theorem parse_of (neg : Bool) (W D F E : List UInt8) (hW : W.all isD = true) (h1 : ¬ W = []) (h2 : W.length = 1 ∨ ¬ (W.getD 0 0).toNat = 48)
    (hD : (D = [] ∧ F = []) ∨ (D = 46 :: F ∧ ¬ F = [] ∧ F.all isD = true)) (hE : Tail E) (l : List UInt8) (hl : l = (if neg then [45] else []) ++ (W ++ (D ++ E))) :
    pNeg l = neg ∧ pW l = W ∧ pF l = F ∧ pP l = E.drop 1 ∧ pOk l = true := by
  have hb := tail_byte hE
  have hR : D ++ E = [] ∨ isD ((D ++ E).getD 0 0) = false := by
    rcases hD with ⟨rfl, _⟩ | ⟨rfl, _⟩
    · rcases hb with h | h
      · left; exact h
      · right; exact h.1
    · right; simp; decide
  obtain ⟨w, W', rfl⟩ : ∃ w W', W = w :: W' := by
    rcases W with _ | ⟨w, W'⟩
    · exact absurd rfl h1
    · exact ⟨w, W', rfl⟩
  have hw : isD w = true := by simp only [List.all_cons, Bool.and_eq_true] at hW; exact hW.1
  have hneg : pNeg l = neg := by
    rw [hl]; unfold pNeg
    cases neg
    · have := isD_bd hw
      simp; omega
    · simp
  have hU : pU l = (w :: W') ++ (D ++ E) := by
    unfold pU; rw [hneg, hl]; cases neg <;> rfl
  have hpW : pW l = w :: W' := by unfold pW; rw [hU]; exact (tw_app _ _ hW hR).1
  have hpR : pR l = D ++ E := by unfold pR; rw [hU]; exact (tw_app _ _ hW hR).2
  have hwok : pWok l = true := by
    unfold pWok; rw [hpW]
    rcases h2 with h | h
    · simp at h; simp [h]
    · simp at h; simp [h]
  rcases hD with ⟨rfl, rfl⟩ | ⟨rfl, hF0, hF⟩
  · have hdot : pDot l = false := by
      unfold pDot; rw [hpR]
      rcases hb with h | h
      · rw [h]; rfl
      · simpa using h.2
    have hpF : pF l = [] := by unfold pF; rw [hdot]; rfl
    have hpS : pS l = E := by unfold pS; rw [hdot, hpR]; rfl
    have hpP : pP l = E.drop 1 := by unfold pP; rw [hpS]
    refine ⟨hneg, hpW, hpF, hpP, ?_⟩
    have hf : pFok l = true := by unfold pFok; rw [hdot]; rfl
    have he : pEok l = true := by
      unfold pEok pE; rw [hpS, hpP]
      rcases hE with rfl | ⟨c, P, rfl, hc, hp1, hp2⟩
      · rfl
      · rcases hc with hc | hc <;> simp [hc, hp1, hp2]
    unfold pOk; rw [hwok, hf, he]; rfl
  · have hdot : pDot l = true := by unfold pDot; rw [hpR]; rfl
    have hR2 : E = [] ∨ isD (E.getD 0 0) = false := by
      rcases hb with h | h
      · exact Or.inl h
      · exact Or.inr h.1
    have hpF : pF l = F := by unfold pF; rw [hdot, hpR, if_pos rfl]; exact (tw_app F E hF hR2).1
    have hpS : pS l = E := by unfold pS; rw [hdot, hpR, if_pos rfl]; exact (tw_app F E hF hR2).2
    have hpP : pP l = E.drop 1 := by unfold pP; rw [hpS]
    refine ⟨hneg, hpW, hpF, hpP, ?_⟩
    have hf : pFok l = true := by unfold pFok; rw [hdot, hpF]; simp [hF0]
    have he : pEok l = true := by
      unfold pEok pE; rw [hpS, hpP]
      rcases hE with rfl | ⟨c, P, rfl, hc, hp1, hp2⟩
      · rfl
      · rcases hc with hc | hc <;> simp [hc, hp1, hp2]
    unfold pOk; rw [hwok, hf, he]; rfl
/-- the size of a number, as digits -/
def mag (n : Int) : Nat := n.natAbs
theorem txt_form (n : Int) : txt n = (if decide (n < 0) then [45] else []) ++ natD (mag n) := by
  unfold txt mag
  by_cases h : n < 0
  · rw [if_pos h]; simp only [h, decide_true, if_true]; rw [show (-n).toNat = n.natAbs by omega]; rfl
  · rw [if_neg h]; simp only [h, decide_false]; rw [show n.toNat = n.natAbs by omega]; rfl
theorem pD_dig (x : List UInt8) (h : x.all isD = true) (h0 : ¬ x = []) : pD x = x ∧ pSg x = false := by
  rcases x with _ | ⟨a, x⟩
  · exact absurd rfl h0
  · have ha : isD a = true := by simp only [List.all_cons, Bool.and_eq_true] at h; exact h.1
    have hb := isD_bd ha
    have hs : pSg (a :: x) = false := by unfold pSg; simp; omega
    exact ⟨by unfold pD; rw [hs]; rfl, hs⟩
theorem pD_txt (k : Int) : pD (txt k) = natD (mag k) := by
  rw [txt_form]
  by_cases h : k < 0
  · simp only [h, decide_true, if_true]; rfl
  · simp only [h, decide_false]; exact (pD_dig _ (natD_all _) (natD_ne _)).1
theorem tail_txt (c : UInt8) (hc : c.toNat = 101 ∨ c.toNat = 69) (k : Int) : Tail (c :: txt k) :=
  Or.inr ⟨c, txt k, rfl, hc, by rw [pD_txt]; exact natD_ne _, by rw [pD_txt]; exact run_all _ (natD_all _)⟩
theorem pval_minus (x : List UInt8) : pval (45 :: x) = pval x := rfl
theorem pval_txt (k : Int) : pval (txt k) = mag k := by
  rw [txt_form]
  by_cases h : k < 0
  · simp only [h, decide_true, if_true]; exact (pval_minus _).trans (natD_val _)
  · simp only [h, decide_false]; exact natD_val _
theorem pwV_txt (k : Int) (h : -100000 ≤ k ∧ k ≤ 100000) : pwV (txt k) = k ∧ pwOk (txt k) = true := by
  have ho : pwOk (txt k) = true := by unfold pwOk; rw [pval_txt]; unfold mag; simp; omega
  refine ⟨?_, ho⟩
  unfold pwV; rw [ho, if_pos rfl, pval_txt]
  by_cases hk : k < 0
  · have : (txt k).getD 0 0 = 45 := by rw [txt_form]; simp only [hk, decide_true, if_true]; rfl
    rw [if_pos this]; unfold mag; omega
  · have : ¬ (txt k).getD 0 0 = 45 := by
      rw [txt_form]; simp only [hk, decide_false]
      obtain ⟨a, t, e, d⟩ := natD_head (mag k)
      show ¬ (natD (mag k)).getD 0 0 = 45
      rw [e]; exact dig_not _ d 45 (by decide)
    rw [if_neg this]; unfold mag; omega
theorem zeros_all (b : Nat) : (List.replicate b (48 : UInt8)).all isD = true := by
  induction b with
  | zero => rfl
  | succ b ih => rw [List.replicate_succ, List.all_cons, ih]; decide
theorem rst_zeros (x : List UInt8) : ∀ b, rst (x ++ List.replicate b 48) = rst x
  | 0 => by simp
  | b + 1 => by rw [List.replicate_succ', ← List.append_assoc, rst_snoc _ _ (by decide)]; exact rst_zeros x b
/-- digits that begin with no nought -/
theorem lst_ok (x : List UInt8) (h0 : ¬ x = []) (h : ¬ (x.getD 0 0).toNat = 48) : lst x = x ∧ lz x = 0 := by
  rcases x with _ | ⟨a, x⟩
  · exact absurd rfl h0
  · have := lz_stop a x (by simpa using h); exact ⟨this.2, this.1⟩
theorem getD_app (x y : List UInt8) (h0 : ¬ x = []) : (x ++ y).getD 0 0 = x.getD 0 0 := by
  rcases x with _ | ⟨a, x⟩
  · exact absurd rfl h0
  · rfl
theorem rst_ne (x : List UInt8) (h0 : ¬ x = []) (h : ¬ (x.getD 0 0).toNat = 48) : ¬ rst x = [] := by
  rcases x with _ | ⟨a, x⟩
  · exact absurd rfl h0
  · rw [rst_cons a x (by simpa using h)]; simp
end Go.Proofs.YtnabdepplpaabaaDoor
