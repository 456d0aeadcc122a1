/- Plain mathematics of a number's row: with noughts for the digits behind e it has a number's form just if the row has. -/
import Derived.Test.YtoamndiblckdlaaGreatDoorMathDecAll
import Derived.Lib.IndexAny
namespace Go.Proofs.YtoamndiblckdlaaGreatDoor
open Go.RowKit

/-- no e -/
def notE (b : UInt8) : Bool := !(decide (b.toNat = 101) || decide (b.toNat = 69))
/-- nought for a digit -/
def zd (b : UInt8) : UInt8 := if isD b = true then 48 else b
/-- a row with noughts for the digits behind e -/
def wpow (l : List UInt8) : List UInt8 := l.takeWhile notE ++ (l.dropWhile notE).map zd
theorem isD_notE {b : UInt8} (h : isD b = true) : notE b = true := by
  have := isD_bd h
  unfold notE; simp; omega
theorem zd_not {b : UInt8} (h : isD b = false) : zd b = b := by unfold zd; rw [h]; rfl
theorem isD_zd (b : UInt8) : isD (zd b) = isD b := by
  unfold zd
  by_cases h : isD b = true
  · rw [if_pos h, h]; rfl
  · rw [if_neg h]
theorem wpow_nil : wpow [] = [] := rfl
theorem wpow_cons {b : UInt8} {l : List UInt8} (h : notE b = true) : wpow (b :: l) = b :: wpow l := by
  unfold wpow; rw [List.takeWhile_cons, List.dropWhile_cons, if_pos h, if_pos h]; rfl
theorem wpow_e {b : UInt8} {l : List UInt8} (h : notE b = false) : wpow (b :: l) = b :: l.map zd := by
  unfold wpow; rw [List.takeWhile_cons, List.dropWhile_cons, if_neg (by simp [h]), if_neg (by simp [h])]
  have : isD b = false := by
    cases hd : isD b with
    | false => rfl
    | true => rw [isD_notE hd] at h; cases h
  rw [List.map_cons, zd_not this]; rfl
theorem wpow_head (l : List UInt8) : (wpow l).getD 0 0 = l.getD 0 0 := by
  cases l with
  | nil => rfl
  | cons b l =>
    cases h : notE b with
    | true => rw [wpow_cons h]; rfl
    | false => rw [wpow_e h]; rfl
theorem wpow_empty (l : List UInt8) : wpow l = [] ↔ l = [] := by
  cases l with
  | nil => simp [wpow_nil]
  | cons b l =>
    cases h : notE b with
    | true => rw [wpow_cons h]; simp
    | false => rw [wpow_e h]; simp
theorem wpow_drop {l : List UInt8} (h : notE (l.getD 0 0) = true) : (wpow l).drop 1 = wpow (l.drop 1) := by
  cases l with
  | nil => rfl
  | cons b l => rw [wpow_cons (by simpa using h)]; rfl
theorem wpow_take (l : List UInt8) : (wpow l).takeWhile isD = l.takeWhile isD := by
  induction l with
  | nil => rfl
  | cons b l ih =>
    cases h : notE b with
    | true => rw [wpow_cons h, List.takeWhile_cons, List.takeWhile_cons, ih]
    | false =>
      have : ¬ isD b = true := fun hd => by rw [isD_notE hd] at h; cases h
      rw [wpow_e h, List.takeWhile_cons, List.takeWhile_cons, if_neg this, if_neg this]
theorem wpow_dropD (l : List UInt8) : (wpow l).dropWhile isD = wpow (l.dropWhile isD) := by
  induction l with
  | nil => rfl
  | cons b l ih =>
    cases hd : isD b with
    | true => rw [wpow_cons (isD_notE hd), List.dropWhile_cons, List.dropWhile_cons, if_pos hd, if_pos hd, ih]
    | false =>
      have h2 : ¬ isD b = true := by simp [hd]
      rw [List.dropWhile_cons (x := b) (xs := l), if_neg h2]
      cases h : notE b with
      | true => rw [wpow_cons h, List.dropWhile_cons, if_neg h2]
      | false => rw [wpow_e h, List.dropWhile_cons, if_neg h2]
theorem wp_neg (l : List UInt8) : pNeg (wpow l) = pNeg l := by unfold pNeg; rw [wpow_head]
theorem wp_U (l : List UInt8) : pU (wpow l) = wpow (pU l) := by
  unfold pU; rw [wp_neg]
  by_cases h : pNeg l = true
  · rw [if_pos h, if_pos h]
    refine wpow_drop ?_
    unfold pNeg at h; simp at h
    unfold notE; simp; omega
  · rw [if_neg h, if_neg h]
theorem wp_W (l : List UInt8) : pW (wpow l) = pW l := by unfold pW; rw [wp_U, wpow_take]
theorem wp_R (l : List UInt8) : pR (wpow l) = wpow (pR l) := by unfold pR; rw [wp_U, wpow_dropD]
theorem wp_Dot (l : List UInt8) : pDot (wpow l) = pDot l := by unfold pDot; rw [wp_R, wpow_head]
theorem wp_dotD {l : List UInt8} (h : pDot l = true) : (wpow (pR l)).drop 1 = wpow ((pR l).drop 1) := by
  refine wpow_drop ?_
  unfold pDot at h; simp at h
  unfold notE; simp; omega
theorem wp_F (l : List UInt8) : pF (wpow l) = pF l := by
  unfold pF; rw [wp_Dot, wp_R]
  by_cases h : pDot l = true
  · rw [if_pos h, if_pos h, wp_dotD h, wpow_take]
  · rw [if_neg h, if_neg h]
theorem wp_S (l : List UInt8) : pS (wpow l) = wpow (pS l) := by
  unfold pS; rw [wp_Dot, wp_R]
  by_cases h : pDot l = true
  · rw [if_pos h, if_pos h, wp_dotD h, wpow_dropD]
  · rw [if_neg h, if_neg h]
theorem wp_E (l : List UInt8) : pE (wpow l) = pE l := by unfold pE; rw [wp_S, wpow_head]
theorem wp_P {l : List UInt8} (h : pE l = true) : pP (wpow l) = (pP l).map zd := by
  unfold pP; rw [wp_S]
  unfold pE at h
  cases hs : pS l with
  | nil => rfl
  | cons b t =>
    rw [hs] at h
    have : notE b = false := by
      unfold notE
      simp only [List.getD_cons_zero] at h
      rw [h]; rfl
    rw [wpow_e this]; rfl
theorem zd_head (p : List UInt8) : pSg (p.map zd) = pSg p := by
  cases p with
  | nil => rfl
  | cons b p =>
    unfold pSg; simp only [List.map_cons, List.getD_cons_zero]
    cases h : isD b with
    | false => rw [zd_not h]
    | true =>
      have := isD_bd h
      have e : zd b = 48 := by unfold zd; rw [h]; rfl
      rw [e, Bool.eq_iff_iff]; simp [show (48 : UInt8).toNat = 48 from rfl]; omega
theorem zd_D (p : List UInt8) : pD (p.map zd) = (pD p).map zd := by
  unfold pD; rw [zd_head]
  split
  · rw [List.map_drop]
  · rfl
theorem zd_run (p : List UInt8) : runN (p.map zd) = runN p := by
  unfold runN
  induction p with
  | nil => rfl
  | cons b p ih =>
    rw [List.map_cons, List.takeWhile_cons, List.takeWhile_cons, isD_zd]
    split
    · rw [List.length_cons, List.length_cons, ih]
    · rfl
theorem zd_val (p : List UInt8) : pval (p.map zd) = 0 := by
  unfold pval
  suffices h : ∀ (v : Nat), v = 0 → (p.map zd).foldl (fun v b => if isD b then 10 * v + (b.toNat - 48) else v) v = 0 from h 0 rfl
  induction p with
  | nil => intro v h; simpa using h
  | cons b p ih =>
    intro v h
    rw [List.map_cons, List.foldl_cons]
    apply ih
    rw [isD_zd, h]
    cases hd : isD b with
    | false => simp
    | true =>
      have e : zd b = 48 := by unfold zd; rw [hd]; rfl
      rw [e]; rfl
theorem wp_Eok (l : List UInt8) : pEok (wpow l) = pEok l := by
  unfold pEok
  rw [wp_E]
  have e1 : decide (pS (wpow l) = []) = decide (pS l = []) := by rw [wp_S]; exact decide_eq_decide.2 (wpow_empty _)
  rw [e1]
  cases h : pE l with
  | false => simp only [Bool.false_and]
  | true =>
    rw [wp_P h, zd_D, zd_run, List.length_map]
    have e2 : decide ((pD (pP l)).map zd = []) = decide (pD (pP l) = []) := decide_eq_decide.2 List.map_eq_nil_iff
    rw [e2]
theorem wp_ok (l : List UInt8) : pOk (wpow l) = pOk l := by
  unfold pOk
  have e1 : pWok (wpow l) = pWok l := by unfold pWok; rw [wp_W]
  have e2 : pFok (wpow l) = pFok l := by unfold pFok; rw [wp_Dot, wp_F]
  rw [e1, e2, wp_Eok]
theorem wpow_len (l : List UInt8) : (wpow l).length = l.length := by
  unfold wpow
  rw [List.length_append, List.length_map, ← List.length_append, List.takeWhile_append_dropWhile]
theorem wp_num (l : List UInt8) (hl : l.length ≤ 400) : numB (wpow l) = pOk l := by
  have : numB (wpow l) = (pOk (wpow l) && pwOk (pP (wpow l)) && decide ((wpow l).length ≤ 400)) := rfl
  rw [this, wp_ok, wpow_len, decide_eq_true hl, Bool.and_true]
  cases h : pOk l with
  | false => rfl
  | true =>
    rw [Bool.true_and]
    cases hE : pE l with
    | true => rw [wp_P hE]; unfold pwOk; rw [zd_val]; rfl
    | false =>
      have h3 : pEok l = true := by unfold pOk at h; simp at h; exact h.2
      unfold pEok at h3; rw [hE] at h3; simp at h3
      unfold pP; rw [wp_S, h3, wpow_nil]; rfl
theorem of256' {f g : UInt8 → Bool} (h : ∀ n : Fin 256, f (UInt8.ofNat n.val) = g (UInt8.ofNat n.val)) (b : UInt8) : f b = g b := by
  have := h ⟨b.toNat, b.toNat_lt⟩
  simpa using this
set_option maxRecDepth 10000 in
/-- where the first e stands -/
theorem ix_e (l : List UInt8) : (Lib.indexAny l [101, 69] = -1 ∧ l.takeWhile notE = l) ∨ (Lib.indexAny l [101, 69] = ((l.takeWhile notE).length : Nat) ∧ (l.takeWhile notE).length < l.length) := by
  induction l with
  | nil => exact .inl ⟨rfl, rfl⟩
  | cons b l ih =>
    have hc : ([101, 69] : List UInt8).contains b = !notE b := by
      exact of256' (f := fun b => ([101, 69] : List UInt8).contains b) (g := fun b => !notE b) (by decide +kernel) b
    unfold Lib.indexAny
    rw [hc, List.takeWhile_cons]
    cases h : notE b with
    | false => right; simp
    | true =>
      simp only [Bool.not_true, Bool.false_eq_true, if_false, if_true]
      rcases ih with ⟨h1, h2⟩ | ⟨h1, h2⟩
      · left; rw [h1, h2]; exact ⟨rfl, rfl⟩
      · right
        rw [h1]
        have : ((((l.takeWhile notE).length : Nat) : Int) == -1) = false := by
          rw [beq_eq_false_iff_ne]; omega
        rw [this]
        simp only [Bool.false_eq_true, if_false, List.length_cons]
        omega
end Go.Proofs.YtoamndiblckdlaaGreatDoor
