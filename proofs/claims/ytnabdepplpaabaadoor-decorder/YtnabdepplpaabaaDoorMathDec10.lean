/- Plain mathematics of package dec as it landed: the library's reading of a whole number, its writing of one. -/
import Derived.Test.YtnabdepplpaabaaDoorMathDec9
import Derived.Test.YtnabdepplpaabaaDoorMathDec8
import Derived.Lib.ParseIntB
import Derived.Lib.ItoaNum
namespace Go.Proofs.YtnabdepplpaabaaDoor
open Go.RowKit

theorem dec_nat (u : Nat) : Lib.decDigits u = natD u := by
  induction u using Nat.strongRecOn with
  | _ u ih =>
    rw [Lib.decDigits, natD]
    by_cases h : u < 10
    · rw [dif_pos h, if_pos h]
    · rw [dif_neg h, if_neg h, ih (u / 10) (by omega)]
theorem itoa_txt (n : Int) : Lib.itoa n = txt n := by
  unfold Lib.itoa txt
  by_cases h : n < 0
  · rw [if_pos h, if_pos h, dec_nat, show n.natAbs = (-n).toNat by omega]
  · rw [if_neg h, if_neg h, dec_nat]
theorem pum (D R : List UInt8) (hD : D.all isD = true) : ∀ acc : Nat, Lib.parseUintM 18446744073709551615 acc (D ++ R) = if acc * 10 ^ D.length + pval D ≤ 18446744073709551615 ∨ D = [] then Lib.parseUintM 18446744073709551615 (acc * 10 ^ D.length + pval D) R else .range := by
  induction D with
  | nil => intro acc; rw [if_pos (Or.inr rfl)]; simp [pval]
  | cons a D ih =>
    intro acc
    have hD' : D.all isD = true := by rw [List.all_cons, Bool.and_eq_true] at hD; exact hD.2
    have ha : isD a = true := by rw [List.all_cons, Bool.and_eq_true] at hD; exact hD.1
    have hb := isD_bd ha
    have hc := pval_cons a D hD
    have hk : 1 ≤ 10 ^ D.length := Nat.one_le_pow _ _ (by decide)
    have e : acc * 10 ^ (a :: D).length + pval (a :: D) = (acc * 10 + (a.toNat - 48)) * 10 ^ D.length + pval D := by
      rw [hc, List.length_cons, Nat.pow_succ, Nat.add_mul, Nat.mul_assoc acc 10, Nat.mul_comm 10]; omega
    rw [e, List.cons_append, Lib.parseUintM, if_pos hb]
    have hge : acc * 10 + (a.toNat - 48) ≤ (acc * 10 + (a.toNat - 48)) * 10 ^ D.length := Nat.le_mul_of_pos_right _ hk
    by_cases h1 : 1844674407370955162 ≤ acc
    · rw [if_pos h1, if_neg (by intro h; rcases h with h | h; omega; cases h)]
    · rw [if_neg h1]
      by_cases h2 : 18446744073709551615 < acc * 10 + (a.toNat - 48)
      · rw [if_pos h2, if_neg (by intro h; rcases h with h | h; omega; cases h)]
      · rw [if_neg h2, ih hD']
        by_cases h3 : (acc * 10 + (a.toNat - 48)) * 10 ^ D.length + pval D ≤ 18446744073709551615
        · rw [if_pos (Or.inl h3), if_pos (Or.inl h3)]
        · by_cases h4 : D = []
          · subst h4
            exfalso; apply h3
            simp [pval]; omega
          · rw [if_neg (by intro h; exact h.elim h3 h4), if_neg (by intro h; rcases h with h | h; exact h3 h; cases h)]
theorem pub (D R : List UInt8) (hD : D.all isD = true) (h0 : ¬ D = []) : Lib.parseUintB 64 (D ++ R) = if pval D ≤ 18446744073709551615 then Lib.parseUintM 18446744073709551615 (pval D) R else .range := by
  unfold Lib.parseUintB
  rw [if_neg (by intro h; exact h0 (List.append_eq_nil_iff.1 h).1), show 2 ^ 64 - 1 = 18446744073709551615 by decide, pum D R hD 0]
  simp [h0]
theorem pum_no (R : List UInt8) (h0 : ¬ R = []) (hR : isD (R.getD 0 0) = false) (acc u : Nat) : ¬ Lib.parseUintM 18446744073709551615 acc R = .ok u := by
  cases R with
  | nil => exact absurd rfl h0
  | cons c R =>
    have : ¬ (48 ≤ c.toNat ∧ c.toNat ≤ 57) := by
      intro h; have e : isD c = true := by unfold isD; rw [decide_eq_true h.1, decide_eq_true h.2]; rfl
      rw [List.getD_cons_zero, e] at hR; cases hR
    rw [Lib.parseUintM, if_neg this]; intro e; cases e
/-- how the library reads a text of ours: a sign, digits, the rest -/
theorem pib (l : List UInt8) (hW : ¬ pW l = []) :
    (∀ u, Lib.parseUintB 64 (pW l ++ pR l) = .ok u → Lib.parseIntB 64 l = if ¬ pNeg l = true ∧ 9223372036854775808 ≤ u then .range else if pNeg l = true ∧ 9223372036854775808 < u then .range else .ok (if pNeg l = true then -(u : Int) else u)) ∧
    ((∀ u, ¬ Lib.parseUintB 64 (pW l ++ pR l) = .ok u) → ∀ v, ¬ Lib.parseIntB 64 l = .ok v) := by
  rw [pWR]
  cases l with
  | nil => exact absurd rfl hW
  | cons c r =>
    unfold Lib.parseIntB
    have hp : pNeg (c :: r) = decide (c.toNat = 45) := rfl
    have h63 : 2 ^ (64 - 1) = 9223372036854775808 := by decide
    simp only [h63]
    by_cases h : c.toNat = 45
    · have e : pU (c :: r) = r := by unfold pU; rw [hp, decide_eq_true h]; rfl
      rw [if_pos (Or.inr h), e, hp, decide_eq_true h]
      refine ⟨fun u hu => ?_, fun hu v => ?_⟩
      · rw [hu]; simp [h]
      · rcases hq : Lib.parseUintB 64 r with a | _ | _
        · exact absurd hq (hu a)
        · simp
        · simp
    · have e : pU (c :: r) = c :: r := by unfold pU; rw [hp, decide_eq_false h]; rfl
      have h43 : ¬ c.toNat = 43 := by
        intro h2; apply hW
        unfold pW; rw [e]
        have : isD c = false := by unfold isD; rw [h2]; rfl
        rw [List.takeWhile_cons, this]; rfl
      rw [if_neg (by intro k; exact k.elim h43 h), e, hp, decide_eq_false h]
      refine ⟨fun u hu => ?_, fun hu v => ?_⟩
      · rw [hu]; simp [h]
      · rcases hq : Lib.parseUintB 64 (c :: r) with a | _ | _
        · exact absurd hq (hu a)
        · simp
        · simp
theorem int_parts (l : List UInt8) (hn : numB l = true) : ¬ pW l = [] ∧ ((pF l = [] ∧ pP l = []) ↔ pR l = []) := by
  have hs := num_split l
  rw [hn] at hs
  have h1 : pWok l = true := by cases h : pWok l with
    | true => rfl
    | false => rw [h] at hs; simp at hs
  have h2 : pFok l = true := by cases h : pFok l with
    | true => rfl
    | false => rw [h] at hs; simp at hs
  have h3 : pEok l = true := by
    have h : rpB (pS l) = true := by cases h : rpB (pS l) with
      | true => rfl
      | false => rw [h] at hs; simp at hs
    rw [rp_of, Bool.and_eq_true] at h; exact h.1
  refine ⟨?_, ?_, ?_⟩
  · intro h; unfold pWok at h1; rw [h] at h1; simp at h1
  · rintro ⟨hF, hP⟩
    have hd : pDot l = false := by
      cases h : pDot l with
      | false => rfl
      | true => unfold pFok at h2; rw [h, hF] at h2; simp at h2
    have hS : pS l = pR l := by unfold pS; rw [hd]; rfl
    rw [← hS]
    unfold pEok at h3
    rw [hP] at h3
    apply Classical.byContradiction; intro h
    rw [decide_eq_false h] at h3
    simp [pD, pSg] at h3
  · intro h
    have hd : pDot l = false := by unfold pDot; rw [h]; rfl
    refine ⟨by unfold pF; rw [hd]; rfl, ?_⟩
    unfold pP pS; rw [hd]; simp [h]
theorem int_par (l : List UInt8) (hn : numB l = true) (h0 : ¬ l = [45, 48]) :
    (intB l = true → Lib.parseIntB 64 l = .ok (intV l)) ∧ (intB l = false → ∀ v, ¬ Lib.parseIntB 64 l = .ok v) := by
  obtain ⟨hW, hR⟩ := int_parts l hn
  obtain ⟨P1, P2⟩ := pib l hW
  rw [pub (pW l) (pR l) (tw_all _) hW] at P1 P2
  have hib : intB l = (decide (pR l = []) && (if pNeg l then decide (pval (pW l) ≤ 9223372036854775808) else decide (pval (pW l) < 9223372036854775808))) := by
    unfold intB; rw [hn, decide_eq_false h0]
    by_cases h : pR l = []
    · obtain ⟨a, b⟩ := hR.2 h
      rw [decide_eq_true a, decide_eq_true b, decide_eq_true h]; rfl
    · rw [decide_eq_false h, Bool.false_and]
      by_cases a : pF l = []
      · have b : ¬ pP l = [] := fun b => h (hR.1 ⟨a, b⟩)
        rw [decide_eq_false b]; simp
      · rw [decide_eq_false a]; simp
  by_cases h : pR l = []
  · rw [hib, h, decide_eq_true rfl, Bool.true_and]
    unfold intV
    rw [hib, h, decide_eq_true rfl, Bool.true_and]
    by_cases hu : pval (pW l) ≤ 18446744073709551615
    · have P3 := P1 (pval (pW l)) (by rw [if_pos hu, h, Lib.parseUintM])
      rw [P3]
      cases hp : pNeg l
      · simp only [Bool.false_eq_true, if_false, not_false_eq_true, true_and, false_and]
        constructor
        · intro g
          have g' := of_decide_eq_true g
          rw [if_neg (by omega), g]; rfl
        · intro g v
          have g' := of_decide_eq_false g
          rw [if_pos (by omega)]; intro e; cases e
      · simp only [not_true_eq_false, if_true, true_and, false_and]
        constructor
        · intro g
          have g' := of_decide_eq_true g
          rw [if_neg (by simp), if_neg (by omega), g]; rfl
        · intro g v
          have g' := of_decide_eq_false g
          rw [if_neg (by simp), if_pos (by omega)]; intro e; cases e
    · constructor
      · intro g
        exfalso
        cases hp : pNeg l
        · rw [hp] at g; have := of_decide_eq_true g; omega
        · rw [hp] at g; have := of_decide_eq_true g; omega
      · intro _ v
        exact P2 (fun u => by rw [if_neg hu]; intro e; cases e) v
  · rw [hib, decide_eq_false h, Bool.false_and]
    refine ⟨fun g => (by cases g), fun _ => P2 fun u => ?_⟩
    have hd : isD ((pR l).getD 0 0) = false := by
      have : pR l = (pU l).drop (runN (pU l)) := (runN_drop _).symm
      have hlt : runN (pU l) < (pU l).length := by
        apply Classical.byContradiction; intro k; apply h; rw [this]; exact List.drop_eq_nil_of_le (by omega)
      have g := runN_at (pU l) hlt
      rw [this]
      simpa [List.getD, List.getElem?_drop] using g
    by_cases hu : pval (pW l) ≤ 18446744073709551615
    · rw [if_pos hu]; exact pum_no (pR l) h hd _ u
    · rw [if_neg hu]; intro e; cases e
end Go.Proofs.YtnabdepplpaabaaDoor
