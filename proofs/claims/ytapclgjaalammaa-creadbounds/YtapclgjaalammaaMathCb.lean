import Derived.Test.YtapclgjaalammaaMathCq
/- So many fields a row, so many rows. -/
namespace Go.Proofs.Ytapclgjaalammaa
open Go.RowKit

/-- a row of n empty fields and one more -/
def cbR (n : Nat) : List UInt8 := repB [44] n ++ [120, 10]
theorem crwS_cb : ∀ (n g : Nat) (fs : List (List UInt8)) (X : List UInt8), fs.length + n < 64 → crwS fldP (g + n + 1) fs (cbR n ++ X) = .ok (fs ++ (List.replicate n [] ++ [[120]])) X
  | 0, g, fs, X, h => by
    have hf : fldP (120 :: 10 :: X) = .ok [120] (10 :: X) := fldP_plain [120] (10 :: X) (by decide) (Or.inr ⟨10, X, rfl, rfl, by decide⟩) (by simp)
    show crwS fldP (g + 0 + 1) fs (120 :: 10 :: X) = _
    unfold crwS
    rw [if_neg (by omega), hf]
    simp only
    rw [crwL_s, if_neg (by simp), if_pos (by simp [endB, endN])]
    simp [endN]
  | n + 1, g, fs, X, h => by
    have hf : fldP (44 :: (cbR n ++ X)) = .ok [] (44 :: (cbR n ++ X)) := fldP_plain [] (44 :: (cbR n ++ X)) (by simp) (Or.inr ⟨44, _, rfl, rfl, by decide⟩) (by simp)
    have e : cbR (n + 1) ++ X = 44 :: (cbR n ++ X) := rfl
    rw [e]
    unfold crwS
    rw [if_neg (by omega), hf]
    simp only
    rw [show g + (n + 1) + 1 = (g + n + 1) + 1 by omega, crwL_s, if_pos (by simp)]
    simp only [List.tail_cons]
    rw [crwS_cb n g _ X (by rw [List.length_append]; simp; omega), List.replicate_succ]
    simp
theorem crwS_cbx : ∀ (n g : Nat) (fs : List (List UInt8)) (X : List UInt8), fs.length ≤ 64 → 64 ≤ fs.length + n → ∃ r, crwS fldP (g + n + 1) fs (cbR n ++ X) = .bad 2 r
  | 0, g, fs, X, h, h2 => by
    unfold crwS
    rw [if_pos (by omega)]
    exact ⟨_, rfl⟩
  | n + 1, g, fs, X, h, h2 => by
    by_cases h64 : fs.length = 64
    · unfold crwS
      rw [if_pos h64]
      exact ⟨_, rfl⟩
    · have hf : fldP (44 :: (cbR n ++ X)) = .ok [] (44 :: (cbR n ++ X)) := fldP_plain [] (44 :: (cbR n ++ X)) (by simp) (Or.inr ⟨44, _, rfl, rfl, by decide⟩) (by simp)
      have e : cbR (n + 1) ++ X = 44 :: (cbR n ++ X) := rfl
      rw [e]
      unfold crwS
      rw [if_neg h64, hf]
      simp only
      rw [show g + (n + 1) + 1 = (g + n + 1) + 1 by omega, crwL_s, if_pos (by simp)]
      simp only [List.tail_cons]
      exact crwS_cbx n g _ X (by rw [List.length_append]; simp; omega) (by rw [List.length_append]; simp; omega)
theorem cbR_len (n : Nat) : (cbR n).length = n + 2 := by unfold cbR; rw [List.length_append, repB_len]; simp
theorem crwF_cb (n : Nat) (X : List UInt8) (h : n < 64) : crwF fldP (cbR n ++ X) = .ok (List.replicate n [] ++ [[120]]) X := by
  rw [crwF_s fldP fldP_suf ((cbR n ++ X).length + n + 1) _ (by omega), crwS_cb n _ [] X (by simp; omega)]
  simp
theorem crwF_cbx (n : Nat) (X : List UInt8) (h : 64 ≤ n) : ∃ r, crwF fldP (cbR n ++ X) = .bad 2 r := by
  rw [crwF_s fldP fldP_suf ((cbR n ++ X).length + n + 1) _ (by omega)]
  exact crwS_cbx n _ [] X (by simp) (by simp; omega)
theorem crdL_cb (n : Nat) (hn : n < 64) : ∀ (m g j : Nat), j + m ≤ 513 → crdL fldP (g + m + 1) (List.replicate j (List.replicate n [] ++ [[120]])) (repB (cbR n) m) = .ok (List.replicate (j + m) (List.replicate n [] ++ [[120]]))
  | 0, g, j, h => by
    show crdL fldP (g + 0 + 1) _ [] = _
    rw [crdL_step, if_pos rfl]; rfl
  | m + 1, g, j, h => by
    rw [repB, show g + (m + 1) + 1 = (g + m + 1) + 1 by omega, crdL_step, if_neg (by intro e; have := congrArg List.length e; rw [List.length_append, cbR_len] at this; simp at this), if_neg (by rw [List.length_replicate]; omega), crwF_cb n _ hn]
    simp only
    rw [if_neg (by
      rintro ⟨h1, h2⟩
      rw [List.length_replicate] at h1
      obtain ⟨i, rfl⟩ : ∃ i, j = i + 1 := ⟨j - 1, by omega⟩
      rw [List.replicate_succ] at h2
      simp at h2)]
    have := crdL_cb n hn m g (j + 1) (by omega)
    rw [show j + (m + 1) = j + 1 + m by omega, ← this, List.replicate_succ' (n := j)]
theorem crdL_cbx (n : Nat) (hn : n < 64) : ∀ (m g j : Nat), j ≤ 513 → 513 < j + m → ∃ r, crdL fldP (g + m + 1) (List.replicate j (List.replicate n [] ++ [[120]])) (repB (cbR n) m) = .bad 2 r
  | 0, g, j, h, h2 => by omega
  | m + 1, g, j, h, h2 => by
    rw [repB, show g + (m + 1) + 1 = (g + m + 1) + 1 by omega, crdL_step, if_neg (by intro e; have := congrArg List.length e; rw [List.length_append, cbR_len] at this; simp at this)]
    by_cases hj : j = 513
    · rw [if_pos (by rw [List.length_replicate]; exact hj)]
      exact ⟨_, rfl⟩
    · rw [if_neg (by rw [List.length_replicate]; omega), crwF_cb n _ hn]
      simp only
      rw [if_neg (by
        rintro ⟨h1, h2⟩
        rw [List.length_replicate] at h1
        obtain ⟨i, rfl⟩ : ∃ i, j = i + 1 := ⟨j - 1, by omega⟩
        rw [List.replicate_succ] at h2
        simp at h2)]
      have := crdL_cbx n hn m g (j + 1) (by omega) (by omega)
      rw [List.replicate_succ' (n := j)] at this
      exact this
theorem vl_cb (n m : Nat) : VL (repB (cbR n) m) := by
  have h : ∀ c ∈ cbR n, c.toNat < 128 := by
    intro c hc
    unfold cbR at hc
    rcases List.mem_append.1 hc with hc | hc
    · have : ∀ k, ∀ c ∈ repB [44] k, c.toNat < 128 := by
        intro k
        induction k with
        | zero => intro c hc; simp [repB] at hc
        | succ k ih =>
          intro c hc
          rw [repB] at hc
          rcases List.mem_append.1 hc with hc | hc
          · simp at hc; subst hc; decide
          · exact ih c hc
      exact this n c hc
    · simp at hc
      rcases hc with rfl | rfl <;> decide
  have := (vl_rep (cbR n) h m []).2 vl_nil
  rw [List.append_nil] at this; exact this
theorem cb_len (n m : Nat) : (repB (cbR n) m).length = m * (n + 2) := by rw [repB_len, cbR_len]
theorem cb_bound (n m : Nat) (hn : n ≤ 79) (hm : m ≤ 600) : (repB (cbR n) m).length ≤ 48600 := by
  rw [cb_len]
  calc m * (n + 2) ≤ 600 * 81 := Nat.mul_le_mul hm (by omega)
    _ = 48600 := rfl
theorem cb_ok (n m : Nat) (hn : n < 64) (hm : m ≤ 513) : csvR fldP (repB (cbR n) m) = .ok (List.replicate m (List.replicate n [] ++ [[120]])) := by
  have hl := cb_bound n m (by omega) (by omega)
  have hv : pos (repB (cbR n) m) (vlk (repB (cbR n) m)) = (repB (cbR n) m).length := vl_cb n m
  unfold csvR
  rw [if_neg (by omega), if_pos hv]
  have hge : m ≤ (repB (cbR n) m).length := by rw [cb_len]; exact Nat.le_mul_of_pos_right m (by omega)
  obtain ⟨g, hg⟩ : ∃ g, (repB (cbR n) m).length = g + m := ⟨(repB (cbR n) m).length - m, by omega⟩
  rw [hg]
  have := crdL_cb n hn m g 0 (by omega)
  rw [Nat.zero_add] at this
  exact this
theorem cb_bad (n m : Nat) (hn : n ≤ 79) (hm : m ≤ 600) (h1 : 1 ≤ m) (h : 64 ≤ n ∨ 513 < m) : ∃ r, csvR fldP (repB (cbR n) m) = .bad 2 r := by
  have hl := cb_bound n m hn hm
  have hv : pos (repB (cbR n) m) (vlk (repB (cbR n) m)) = (repB (cbR n) m).length := vl_cb n m
  unfold csvR
  rw [if_neg (by omega), if_pos hv]
  by_cases h64 : 64 ≤ n
  · obtain ⟨k, rfl⟩ : ∃ k, m = k + 1 := ⟨m - 1, by omega⟩
    obtain ⟨r, hr⟩ := crwF_cbx n (repB (cbR n) k) h64
    rw [crdL_step, if_neg (by intro e; have := congrArg List.length e; rw [cb_len] at this; simp [Nat.succ_mul] at this), if_neg (by simp)]
    have e : repB (cbR n) (k + 1) = cbR n ++ repB (cbR n) k := rfl
    rw [e, hr]
    exact ⟨r, rfl⟩
  · have hge : m ≤ (repB (cbR n) m).length := by rw [cb_len]; exact Nat.le_mul_of_pos_right m (by omega)
    obtain ⟨g, hg⟩ : ∃ g, (repB (cbR n) m).length = g + m := ⟨(repB (cbR n) m).length - m, by omega⟩
    rw [hg]
    exact crdL_cbx n (by omega) m g 0 (by omega) (by omega)
end Go.Proofs.Ytapclgjaalammaa
