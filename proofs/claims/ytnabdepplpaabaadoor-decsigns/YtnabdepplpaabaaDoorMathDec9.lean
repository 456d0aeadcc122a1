/- Plain mathematics of package dec as it landed: a text's head cut off, its power, its one number. -/
import Derived.Test.YtnabdepplpaabaaDoorMathDec4
import Derived.Lib.Strings
import Derived.Lib.TrimByte
namespace Go.Proofs.YtnabdepplpaabaaDoor
open Go.RowKit

theorem hp_one (l : List UInt8) (c : UInt8) (hc : ¬ c.toNat = 0) : Lib.hasPrefix l [c] = decide ((l.getD 0 0).toNat = c.toNat) := by
  unfold Lib.hasPrefix
  cases l with
  | nil =>
    have : ¬ (0 : Nat) = c.toNat := fun h => hc h.symm
    simp [List.isPrefixOf, this]
  | cons b l =>
    by_cases h : c = b
    · subst h; simp [List.isPrefixOf]
    · have : ¬ b.toNat = c.toNat := fun e => h (UInt8.toNat_inj.1 e.symm)
      simp [List.isPrefixOf, h, this]
theorem tp_one (l : List UInt8) (c : UInt8) (hc : ¬ c.toNat = 0) : Lib.trimPrefix l [c] = if decide ((l.getD 0 0).toNat = c.toNat) then l.drop 1 else l := by
  unfold Lib.trimPrefix; rw [hp_one l c hc]; rfl
theorem cut_neg (l : List UInt8) : Lib.hasPrefix l [45] = pNeg l ∧ Lib.trimPrefix l [45] = pU l := ⟨hp_one l 45 (by decide), tp_one l 45 (by decide)⟩
theorem cut_dot (l : List UInt8) : Lib.hasPrefix (pR l) [46] = pDot l ∧ Lib.trimPrefix (pR l) [46] = if pDot l then (pR l).drop 1 else pR l := ⟨hp_one _ 46 (by decide), tp_one _ 46 (by decide)⟩
/-- behind e: the digits, without their sign -/
theorem cut_sign (p : List UInt8) : (Lib.hasPrefix p [45] = true → Lib.trimPrefix p [45] = pD p) ∧ (Lib.hasPrefix p [45] = false → Lib.trimPrefix (Lib.trimPrefix p [45]) [43] = pD p) := by
  rw [hp_one p 45 (by decide), tp_one p 45 (by decide)]
  have e45 : (45 : UInt8).toNat = 45 := rfl
  have e43 : (43 : UInt8).toNat = 43 := rfl
  rw [e45]
  unfold pD pSg
  constructor
  · intro h
    rw [if_pos h]
    have : (p.getD 0 0).toNat = 45 := of_decide_eq_true h
    rw [this]; rfl
  · intro h
    rw [if_neg (by rw [h]; decide), tp_one p 43 (by decide), e43]
    rw [h, Bool.or_false]
/-- what readPower tells of what stands behind a number's digits -/
def rpE (t : List UInt8) : Bool := decide ((t.getD 0 0).toNat = 101) || decide ((t.getD 0 0).toNat = 69)
def rpB (t : List UInt8) : Bool := decide (t = []) || (rpE t && !decide (pD (t.drop 1) = []) && decide (runN (pD (t.drop 1)) = (pD (t.drop 1)).length) && pwOk (t.drop 1))
def rpV (t : List UInt8) : Int := if rpB t then pwV (t.drop 1) else 0
theorem rpV_bd (t : List UInt8) : -100000 ≤ rpV t ∧ rpV t ≤ 100000 := by
  unfold rpV; split
  · exact pwV_bd _
  · omega
theorem rp_of (l : List UInt8) : rpB (pS l) = (pEok l && pwOk (pP l)) := by
  unfold rpB pEok
  by_cases h : pS l = []
  · have : pP l = [] := by unfold pP; rw [h]; rfl
    rw [decide_eq_true h, Bool.true_or, Bool.true_or, this]; rfl
  · rw [decide_eq_false h, Bool.false_or, Bool.false_or]; rfl
theorem num_split (l : List UInt8) : numB l = (decide (l.length ≤ 400) && pWok l && pFok l && rpB (pS l)) := by
  rw [rp_of]; unfold numB pOk
  cases decide (l.length ≤ 400) <;> cases pWok l <;> cases pFok l <;> cases pEok l <;> cases pwOk (pP l) <;> rfl
theorem pval_sign (p : List UInt8) : pval (pD p) = pval p := by
  unfold pD
  by_cases h : pSg p = true
  · rw [if_pos h]
    cases p with
    | nil => rfl
    | cons b p =>
      have hb : isD b = false := by
        unfold pSg at h; simp only [List.getD_cons_zero, Bool.or_eq_true, decide_eq_true_eq] at h
        unfold isD; rcases h with h | h <;> rw [h] <;> rfl
      show pval p = pval (b :: p)
      unfold pval; rw [List.foldl_cons, hb]; rfl
  · rw [if_neg h]
theorem rp_no (t : List UInt8) (h0 : ¬ t = []) (h : rpE t = false ∨ pD (t.drop 1) = [] ∨ ¬ runN (pD (t.drop 1)) = (pD (t.drop 1)).length ∨ ¬ pval (pD (t.drop 1)) ≤ 100000) : rpB t = false ∧ rpV t = 0 := by
  have e : rpB t = false := by
    unfold rpB; rw [decide_eq_false h0, Bool.false_or]
    rcases h with h | h | h | h
    · rw [h]; rfl
    · rw [h]; simp
    · rw [decide_eq_false h]; simp
    · rw [pval_sign] at h; have : pwOk (t.drop 1) = false := by unfold pwOk; exact decide_eq_false h
      rw [this]; simp
  exact ⟨e, by unfold rpV; rw [e]; rfl⟩
theorem rp_yes (t : List UInt8) (h1 : rpE t = true) (h2 : ¬ pD (t.drop 1) = []) (h3 : runN (pD (t.drop 1)) = (pD (t.drop 1)).length) (h4 : pval (pD (t.drop 1)) ≤ 100000) :
    rpB t = true ∧ rpV t = if Lib.hasPrefix (t.drop 1) [45] then -(pval (pD (t.drop 1)) : Int) else pval (pD (t.drop 1)) := by
  have ok : pwOk (t.drop 1) = true := by unfold pwOk; rw [pval_sign] at h4; exact decide_eq_true h4
  have e : rpB t = true := by
    unfold rpB; rw [h1, decide_eq_false h2, decide_eq_true h3, ok]; simp
  refine ⟨e, ?_⟩
  unfold rpV; rw [if_pos e]; unfold pwV; rw [if_pos ok, hp_one _ 45 (by decide), pval_sign]
  have e45 : (45 : UInt8).toNat = 45 := rfl
  rw [e45]
  by_cases hb : (t.drop 1).getD 0 0 = 45
  · rw [if_pos hb, hb]; rfl
  · have : ¬ ((t.drop 1).getD 0 0).toNat = 45 := fun e => hb (UInt8.toNat_inj.1 (by rw [e]; rfl))
    rw [if_neg hb, decide_eq_false this]; rfl
theorem rp_nil : rpB [] = true ∧ rpV [] = 0 := by decide
/-- TrimLeft, TrimRight at a nought -/
theorem is0_eq : is0 = (· == (48 : UInt8)) := by
  funext b
  unfold is0
  by_cases h : b = 48
  · subst h; rfl
  · have : ¬ b.toNat = 48 := fun e => h (UInt8.toNat_inj.1 (by rw [e]; rfl))
    rw [decide_eq_false this]; exact (beq_eq_false_iff_ne.2 h).symm
theorem trim_l (l : List UInt8) : Lib.trimLeftB l 48 = lst l := by unfold Lib.trimLeftB lst; rw [is0_eq]
theorem trim_r (l : List UInt8) : Lib.trimRightB l 48 = rst l := by unfold Lib.trimRightB rst; rw [is0_eq]
theorem lz_len (l : List UInt8) : (lst l).length + lz l = l.length := by
  have := congrArg List.length (List.takeWhile_append_dropWhile (p := is0) (l := l))
  rw [List.length_append] at this; unfold lst lz; omega
theorem rst_lst (x : List UInt8) : rst (lst x) = [] ↔ lst x = [] := by
  rcases lst_first x with h | ⟨a, t, h, h0⟩
  · rw [h]; exact ⟨fun _ => rfl, fun _ => rfl⟩
  · rw [h, rst_cons a t h0]; exact ⟨fun e => (by cases e), fun e => (by cases e)⟩
/-- the one number that stands for a text -/
def nmV (l : List UInt8) : Value := .agg #[.int .i64 (sgI (scN l) (scD l)), .string (mkS (scD l)), .int .i64 (scT l)]
def noV : Value := .agg #[.int .i64 0, .string ⟨#[]⟩, .int .i64 0]
def rdS (l : List UInt8) : Int := if numB l then sgI (scN l) (scD l) else 0
def rdD (l : List UInt8) : List UInt8 := if numB l then scD l else []
def rdT (l : List UInt8) : Int := if numB l then scT l else 0
theorem sc_zero (l : List UInt8) (h : lst (pW l ++ pF l) = []) : scD l = [] ∧ scT l = 0 ∧ sgI (scN l) (scD l) = 0 := by
  have e : scD l = [] := (rst_lst _).2 h
  exact ⟨e, by unfold scT; rw [if_pos e], by unfold sgI; rw [if_pos e]⟩
theorem sc_some (l : List UInt8) (h : ¬ lst (pW l ++ pF l) = []) : scD l = rst (lst (pW l ++ pF l)) ∧ scT l = ((pW l).length : Int) - 1 + pwV (pP l) - lz (pW l ++ pF l) ∧ sgI (scN l) (scD l) = if pNeg l then -1 else 1 := by
  have e : ¬ scD l = [] := fun k => h ((rst_lst _).1 k)
  exact ⟨rfl, by unfold scT; rw [if_neg e], by unfold sgI scN; rw [if_neg e, if_neg e]⟩
theorem scT_num (l : List UInt8) (h : numB l = true) : -200000 ≤ scT l ∧ scT l ≤ 200000 := by
  have h0 : l.length ≤ 400 := by unfold numB at h; simp only [Bool.and_eq_true, decide_eq_true_eq] at h; exact h.2
  have h1 := pwV_bd (pP l); have h2 := lz_le (pW l ++ pF l); have h3 := parts_len l
  rw [List.length_append] at h2
  unfold scT; split <;> omega
theorem rd_bd (l : List UInt8) : -1 ≤ rdS l ∧ rdS l ≤ 1 ∧ -200000 ≤ rdT l ∧ rdT l ≤ 200000 ∧ (rdD l).length ≤ 400 := by
  unfold rdS rdT rdD
  by_cases h : numB l = true
  · rw [if_pos h, if_pos h, if_pos h]
    have h0 : l.length ≤ 400 := by unfold numB at h; simp only [Bool.and_eq_true, decide_eq_true_eq] at h; exact h.2
    have h1 := scT_num l h; have h2 := scD_len l
    have h3 : -1 ≤ sgI (scN l) (scD l) ∧ sgI (scN l) (scD l) ≤ 1 := by unfold sgI; split; omega; split <;> omega
    omega
  · rw [if_neg h, if_neg h, if_neg h]; simp
end Go.Proofs.YtnabdepplpaabaaDoor
