/- What chapter 10 passes over, and digits with strokes between them: plain mathematics. -/
import Derived.Test.YtiafcbmmadikcaaGreatDoorMathEsc
namespace Go.Proofs.YtiafcbmmadikcaaGreatDoor

/-- blanks, lines' ends and remarks at a text's head: how many bytes; within a remark -/
def skM : Bool → List UInt8 → Nat
  | _, [] => 0
  | false, b :: l => if bkB b = true ∨ b.toNat = 10 ∨ (b.toNat = 13 ∧ bt l 0 = 10) then 1 + skM false l else if b.toNat = 35 then 1 + skM true l else 0
  | true, b :: l => if b.toNat = 10 then 1 + skM false l else 1 + skM true l
def skT (lines : Bool) (l : List UInt8) : Nat := if lines = true then skM false l else run bkB l
theorem skM_t (b : UInt8) (l : List UInt8) : skM true (b :: l) = if b.toNat = 10 then 1 + skM false l else 1 + skM true l := by rw [skM]
theorem skM_f (b : UInt8) (l : List UInt8) : skM false (b :: l) = if bkB b = true ∨ b.toNat = 10 ∨ (b.toNat = 13 ∧ bt l 0 = 10) then 1 + skM false l else if b.toNat = 35 then 1 + skM true l else 0 := by rw [skM]
theorem skM_le : ∀ (r : Bool) (l : List UInt8), skM r l ≤ l.length
  | _, [] => by simp [skM]
  | false, b :: l => by
    have h1 := skM_le false l
    have h2 := skM_le true l
    rw [skM]; simp only [List.length_cons]; (repeat' split) <;> omega
  | true, b :: l => by
    have h1 := skM_le false l
    have h2 := skM_le true l
    rw [skM]; simp only [List.length_cons]; split <;> omega
theorem skM_blank {b : UInt8} {l : List UInt8} (h : bkB b = true) : skM false (b :: l) = 1 + skM false l := by rw [skM, if_pos (Or.inl h)]
theorem skM_run : ∀ l : List UInt8, skM false l = run bkB l + skM false (l.drop (run bkB l))
  | [] => rfl
  | b :: l => by
    by_cases h : bkB b = true
    · have e : run bkB (b :: l) = run bkB l + 1 := by unfold run; rw [List.takeWhile_cons_of_pos h]; rfl
      rw [skM_blank h, e, List.drop_succ_cons, skM_run l]; omega
    · have e : run bkB (b :: l) = 0 := by unfold run; rw [List.takeWhile_cons_of_neg h]; rfl
      rw [e]; simp
theorem run_nob {p : UInt8 → Bool} {l : List UInt8} (h : run p l = 0) (b : UInt8) (m : List UInt8) (hl : l = b :: m) : p b = false := by
  subst hl
  cases hp : p b with
  | false => rfl
  | true => unfold run at h; rw [List.takeWhile_cons_of_pos hp] at h; cases h
theorem run_drop0 (p : UInt8 → Bool) : ∀ l : List UInt8, run p (l.drop (run p l)) = 0
  | [] => rfl
  | b :: l => by
    by_cases h : p b = true
    · have e : run p (b :: l) = run p l + 1 := by unfold run; rw [List.takeWhile_cons_of_pos h]; rfl
      rw [e, List.drop_succ_cons]; exact run_drop0 p l
    · have e : run p (b :: l) = 0 := by unfold run; rw [List.takeWhile_cons_of_neg h]; rfl
      rw [e]; exact e
/-- within a remark: up to the line's end -/
def noL (b : UInt8) : Bool := !decide (b.toNat = 10)
theorem skM_rem : ∀ l : List UInt8, skM true l = run noL l + skM false (l.drop (run noL l))
  | [] => rfl
  | b :: l => by
    by_cases h : b.toNat = 10
    · have e : run noL (b :: l) = 0 := by unfold run; rw [List.takeWhile_cons_of_neg (by simp [noL, h])]; rfl
      rw [e, List.drop_zero, Nat.zero_add, skM_t, if_pos h, skM_f, if_pos (Or.inr (Or.inl h))]
    · have e : run noL (b :: l) = run noL l + 1 := by unfold run; rw [List.takeWhile_cons_of_pos (by simp [noL, h])]; rfl
      rw [skM_t, if_neg h, e, List.drop_succ_cons, skM_rem l]; omega
/-- how many bytes the line's end or the remark has that a text begins with -/
def lnB (l : List UInt8) : Nat := if bt l 0 = 10 then 1 else if bt l 0 = 13 ∧ bt l 1 = 10 then 2 else if bt l 0 = 35 then run noL l else 0
theorem lnB_le (l : List UInt8) : lnB l ≤ l.length := by
  unfold lnB
  split
  · next h => have := bt_lt (l := l) (k := 0) (by omega); omega
  · split
    · next h => have := bt_lt (l := l) (k := 1) (by omega); omega
    · split
      · unfold run; exact (List.takeWhile_sublist _).length_le
      · omega
theorem skM_line {l : List UInt8} (h : run bkB l = 0) : skM false l = lnB l + (if lnB l = 0 then 0 else skM false (l.drop (lnB l))) := by
  cases l with
  | nil => rfl
  | cons b l =>
    have hb := run_nob h b l rfl
    have hb2 : ¬ bkB b = true := by rw [hb]; decide
    unfold lnB
    rw [bt_cons, bt_succ, skM]
    by_cases h1 : b.toNat = 10
    · rw [if_pos (Or.inr (Or.inl h1)), if_pos h1]; simp
    · by_cases h2 : b.toNat = 13 ∧ bt l 0 = 10
      · rw [if_pos (Or.inr (Or.inr h2)), if_neg h1, if_pos h2]
        cases l with
        | nil => rw [bt_nil] at h2; omega
        | cons c l =>
          have hc : c.toNat = 10 := h2.2
          rw [skM, if_pos (Or.inr (Or.inl hc))]
          simp; omega
      · rw [if_neg (by rintro (k | k | k) <;> contradiction), if_neg h1, if_neg h2]
        by_cases h3 : b.toNat = 35
        · have e : run noL (b :: l) = run noL l + 1 := by unfold run; rw [List.takeWhile_cons_of_pos (by simp [noL, h1])]; rfl
          rw [if_pos h3, if_pos h3, e, if_neg (by omega), List.drop_succ_cons, skM_rem l]; omega
        · rw [if_neg h3, if_neg h3]; simp
/-- the document's own steps -/
theorem skM_stop {b : UInt8} {l : List UInt8} (h1 : bkB b = false) (h2 : lnE (b :: l) = 0) (h3 : b.toNat ≠ 35) : skM false (b :: l) = 0 := by
  unfold lnE at h2
  rw [bt_cons, bt_succ] at h2
  rw [skM]
  by_cases k1 : b.toNat = 10
  · rw [if_pos k1] at h2; cases h2
  · rw [if_neg k1] at h2
    by_cases k2 : b.toNat = 13 ∧ bt l 0 = 10
    · rw [if_pos k2] at h2; cases h2
    · rw [if_neg (by rw [h1]; rintro (k | k | k) <;> contradiction), if_neg h3]
theorem skM_end {l : List UInt8} (h : 0 < lnE l) : skM false l = lnE l + skM false (l.drop (lnE l)) := by
  cases l with
  | nil => cases h
  | cons b l =>
    unfold lnE at h ⊢
    rw [bt_cons, bt_succ] at h ⊢
    rw [skM]
    by_cases k1 : b.toNat = 10
    · rw [if_pos k1, if_pos (Or.inr (Or.inl k1))]; rfl
    · rw [if_neg k1] at h ⊢
      by_cases k2 : b.toNat = 13 ∧ bt l 0 = 10
      · rw [if_pos k2, if_pos (Or.inr (Or.inr k2))]
        cases l with
        | nil => rw [bt_nil] at k2; omega
        | cons c l =>
          have hc : c.toNat = 10 := k2.2
          rw [skM, if_pos (Or.inr (Or.inl hc))]
          simp; omega
      · rw [if_neg k2] at h; cases h
theorem skM_hash {b : UInt8} {l : List UInt8} (h : b.toNat = 35) : skM false (b :: l) = skM true (b :: l) := by
  have hb : bkB b = false := by simp [bkB, h]
  rw [skM_f, skM_t, hb, if_neg (by rintro (k | k | k) <;> first | contradiction | omega), if_pos h, if_neg (by omega)]
theorem skM_rstep {b : UInt8} {l : List UInt8} (h : lnE (b :: l) = 0) : skM true (b :: l) = 1 + skM true l := by
  unfold lnE at h
  rw [bt_cons] at h
  rw [skM]
  by_cases k1 : b.toNat = 10
  · rw [if_pos k1] at h; cases h
  · rw [if_neg k1]
theorem skM_rend {l : List UInt8} (h : 0 < lnE l) : skM true l = skM false l := by
  rw [skM_end h]
  cases l with
  | nil => cases h
  | cons b l =>
    unfold lnE at h ⊢
    rw [bt_cons, bt_succ] at h ⊢
    rw [skM]
    by_cases k1 : b.toNat = 10
    · rw [if_pos k1, if_pos k1]; rfl
    · rw [if_neg k1] at h ⊢
      by_cases k2 : b.toNat = 13 ∧ bt l 0 = 10
      · rw [if_pos k2, if_neg k1]
        cases l with
        | nil => rw [bt_nil] at k2; omega
        | cons c l =>
          have hc : c.toNat = 10 := k2.2
          rw [skM, if_pos hc]
          simp; omega
      · rw [if_neg k2] at h; cases h

/-- digits at a text's head, between any two of which a stroke may stand: how many bytes -/
def hdB (p : UInt8 → Bool) : List UInt8 → Bool
  | [] => false
  | c :: _ => p c
def cdN (p : UInt8 → Bool) : Bool → List UInt8 → Nat
  | _, [] => 0
  | q, b :: l => if (p b || (q && decide (b.toNat = 95) && hdB p l)) = true then 1 + cdN p true l else 0
theorem cdN_le (p : UInt8 → Bool) : ∀ (q : Bool) (l : List UInt8), cdN p q l ≤ l.length
  | _, [] => Nat.le_refl _
  | q, b :: l => by have h := cdN_le p true l; rw [cdN]; simp only [List.length_cons]; split <;> omega
/-- a text without strokes -/
def noS (b : UInt8) : Bool := !decide (b.toNat = 95)
def clnS (l : List UInt8) : List UInt8 := l.filter noS
/-- digits of a base -/
def dgB (base : Nat) (b : UInt8) : Bool := hxI b && decide (hxV b < base)
end Go.Proofs.YtiafcbmmadikcaaGreatDoor
