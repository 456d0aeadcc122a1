/- Dotted keys of chapter 10: plain mathematics. -/
import Derived.Test.YtiafcbmmadikcaaGreatDoorTlB
namespace Go.Proofs.YtiafcbmmadikcaaGreatDoor

/-- a part of a key -/
def kpT (T : List UInt8) (a : Nat) : List UInt8 × Nat × Int :=
  if m3 34 (T.drop a) = true ∨ m3 39 (T.drop a) = true then ([], 0, (a : Int))
  else if run brI (T.drop a) = 0 then unqT T (a : Int)
  else ((T.drop a).take (run brI (T.drop a)), a + run brI (T.drop a), -1)
/-- where the next part would begin: behind the blanks, the dot, the blanks -/
def kdP (T : List UInt8) (n : Nat) : Nat := n + run bkB (T.drop n)
def kyT (T : List UInt8) : Nat → Nat → List (List UInt8) → List (List UInt8) × Nat × Int
  | 0, a, _ => ([], 0, (a : Int))
  | f + 1, a, acc =>
    if 0 ≤ (kpT T a).2.2 then ([], 0, (kpT T a).2.2)
    else if bt T (kdP T (kpT T a).2.1) = 46 then kyT T f (kdP T (kdP T (kpT T a).2.1 + 1)) (acc ++ [(kpT T a).1])
    else (acc ++ [(kpT T a).1], (kpT T a).2.1, -1)
def kyA (T : List UInt8) (a : Int) : List (List UInt8) × Nat × Int := if a ≠ plc T a then ([], 0, plc T a) else kyT T (T.length + 1) a.toNat []
theorem rd_inT {E P : List UInt8 → List UInt8 × Nat} {T : List UInt8} (hE : ∀ l, 0 < l.length → (E l).2 ≤ l.length) (hP : ∀ l, (P l).2 ≤ l.length) : ∀ f i acc, (rd E P T f i acc).2.2 < 0 → i < (rd E P T f i acc).2.1 ∧ (rd E P T f i acc).2.1 ≤ T.length
  | 0, i, acc, h => by rw [rd] at h; simp only at h; omega
  | f + 1, i, acc, h => by
    rw [rd] at h ⊢
    by_cases h1 : T.length ≤ i
    · rw [if_pos h1] at h; simp only at h; omega
    · rw [if_neg h1] at h ⊢
      by_cases h2 : 0 < (E (T.drop i)).2
      · rw [if_pos h2]
        have := hE (T.drop i) (by rw [List.length_drop]; omega)
        rw [List.length_drop] at this
        simp only; omega
      · rw [if_neg h2] at h ⊢
        by_cases h3 : (P (T.drop i)).2 = 0
        · rw [if_pos h3] at h; simp only at h; omega
        · rw [if_neg h3] at h ⊢
          have := rd_inT hE hP f _ _ h
          omega
theorem unqT_in (T : List UInt8) (a : Nat) (h : (unqT T a).2.2 < 0) : a < (unqT T a).2.1 ∧ (unqT T a).2.1 ≤ T.length := by
  unfold unqT at h ⊢
  by_cases h1 : 0 ≤ (a : Int) ∧ m3 34 (T.drop (a : Int).toNat) = true
  · rw [if_pos h1] at h ⊢
    unfold rdA at h ⊢
    have := rd_inT (fun l _ => (fits_mE 34 l).1) (fun l => (fits_me l).1) _ _ _ h
    simp only [Int.toNat_natCast] at this ⊢
    omega
  · rw [if_neg h1] at h ⊢
    by_cases h2 : 0 ≤ (a : Int) ∧ m3 39 (T.drop (a : Int).toNat) = true
    · rw [if_pos h2] at h ⊢
      unfold rdA at h ⊢
      have := rd_inT (fun l _ => (fits_mE 39 l).1) (fun l => (fits_mp l).1) _ _ _ h
      simp only [Int.toNat_natCast] at this ⊢
      omega
    · rw [if_neg h2] at h ⊢
      by_cases h3 : 0 ≤ (a : Int) ∧ bt T (a : Int).toNat = 34
      · rw [if_pos h3] at h ⊢
        unfold rdA at h ⊢
        have := rd_inT (fun l _ => (fits_oE 34 (by decide) l).1) (fun l => (fits_oe l).1) _ _ _ h
        simp only [Int.toNat_natCast] at this ⊢
        omega
      · rw [if_neg h3] at h ⊢
        by_cases h4 : 0 ≤ (a : Int) ∧ bt T (a : Int).toNat = 39
        · rw [if_pos h4] at h ⊢
          unfold rdA at h ⊢
          have := rd_inT (fun l _ => (fits_oE 39 (by decide) l).1) (fun l => (fits_op l).1) _ _ _ h
          simp only [Int.toNat_natCast] at this ⊢
          omega
        · rw [if_neg h4] at h
          simp only [plc] at h
          split at h
          · omega
          · split at h <;> omega
theorem kpT_in (T : List UInt8) (a : Nat) (h : (kpT T a).2.2 < 0) : a < (kpT T a).2.1 ∧ (kpT T a).2.1 ≤ T.length := by
  unfold kpT at h ⊢
  by_cases h1 : m3 34 (T.drop a) = true ∨ m3 39 (T.drop a) = true
  · rw [if_pos h1] at h; simp only at h; omega
  · rw [if_neg h1] at h ⊢
    by_cases h2 : run brI (T.drop a) = 0
    · rw [if_pos h2] at h ⊢; exact unqT_in T a h
    · rw [if_neg h2]
      have := run_leE brI (T.drop a)
      rw [List.length_drop] at this
      simp only; omega
theorem kdP_le (T : List UInt8) (n : Nat) (h : n ≤ T.length) : n ≤ kdP T n ∧ kdP T n ≤ T.length := by
  have := run_leE bkB (T.drop n)
  rw [List.length_drop] at this
  unfold kdP; omega
theorem sk_kd (T : List UInt8) (n : Nat) (h : n ≤ T.length) : skA false T (n : Int) = kdP T n := by
  have e : plc T (n : Int) = n := by unfold plc; rw [if_neg (by omega), if_neg (by omega)]
  unfold skA; rw [e]; rfl
end Go.Proofs.YtiafcbmmadikcaaGreatDoor
