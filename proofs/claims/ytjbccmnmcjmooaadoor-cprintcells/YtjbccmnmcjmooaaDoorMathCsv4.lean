import Derived.Test.YtjbccmnmcjmooaaDoorMathCsv3
/- Rows of CSV: a fault has a number. -/
namespace Go.Proofs.YtjbccmnmcjmooaaDoor
open Go.RowKit

theorem crwL_err (F : List UInt8 → CFR) (hF : ∀ l s r, F l = .ok s r → ∃ p, l = p ++ r) (hE : ∀ l e r, F l = .bad e r → e ≠ 0) : ∀ (g : Nat) (fs : List (List UInt8)) (r : List UInt8) (e : Nat) (x : List UInt8), r.length < g → crwL F g fs r = .bad e x → e ≠ 0
  | 0, _, _, _, _, h, _ => absurd h (Nat.not_lt_zero _)
  | g + 1, fs, r, e, x, hg, h => by
    rw [crwL_s] at h
    split at h
    · next h44 =>
      have h0 : 0 < r.length := by cases r with | nil => simp at h44 | cons a l => simp
      unfold crwS at h
      split at h
      · simp only [CRR.bad.injEq] at h; omega
      · cases hf : F r.tail with
        | bad e' x' =>
          rw [hf] at h
          simp only [CRR.bad.injEq] at h
          have := hE _ _ _ hf
          omega
        | ok s q =>
          rw [hf] at h
          simp only at h
          obtain ⟨p, hp⟩ := hF _ _ _ hf
          have h1 : q.length ≤ r.length - 1 := by
            have := congrArg List.length hp
            rw [List.length_append, List.length_tail] at this; omega
          exact crwL_err F hF hE g _ q e x (by omega) h
    · split at h
      · simp at h
      · simp only [CRR.bad.injEq] at h; omega
theorem crwF_err (F : List UInt8 → CFR) (hF : ∀ l s r, F l = .ok s r → ∃ p, l = p ++ r) (hE : ∀ l e r, F l = .bad e r → e ≠ 0) (L : List UInt8) (e : Nat) (x : List UInt8) (h : crwF F L = .bad e x) : e ≠ 0 := by
  unfold crwF at h
  cases hf : F L with
  | bad e' x' =>
    rw [hf] at h
    simp only [CRR.bad.injEq] at h
    have := hE _ _ _ hf
    omega
  | ok s q =>
    rw [hf] at h
    exact crwL_err F hF hE _ _ q e x (by omega) h
theorem crdL_err (F : List UInt8 → CFR) (hF : ∀ l s r, F l = .ok s r → ∃ p, l = p ++ r) (hE : ∀ l e r, F l = .bad e r → e ≠ 0) : ∀ (g : Nat) (rs : List (List (List UInt8))) (l : List UInt8) (e : Nat) (x : List UInt8), l.length < g → crdL F g rs l = .bad e x → e ≠ 0
  | 0, _, _, _, _, h, _ => absurd h (Nat.not_lt_zero _)
  | g + 1, rs, l, e, x, hg, h => by
    rw [crdL_step] at h
    split at h
    · simp at h
    · next hne =>
      split at h
      · simp only [CTR.bad.injEq] at h; omega
      · cases hf : crwF F l with
        | bad e' x' =>
          rw [hf] at h
          simp only [CTR.bad.injEq] at h
          have := crwF_err F hF hE _ _ _ hf
          omega
        | ok fs r =>
          rw [hf] at h
          simp only at h
          split at h
          · simp only [CTR.bad.injEq] at h; omega
          · obtain ⟨-, hp⟩ := crwF_tail F hF l fs r hf
            exact crdL_err F hF hE g _ r e x (by have := hp hne; omega) h
theorem csv_err (T : List UInt8) (e : Nat) (x : List UInt8) (h : csvR fldP T = .bad e x) : e ≠ 0 := by
  unfold csvR at h
  split at h
  · simp only [CTR.bad.injEq] at h; omega
  · split at h
    · exact crdL_err fldP fldP_suf (fun l e r h => by rcases ((fldP_tail l).2 e r h).1 with h | h <;> omega) _ _ T e x (by omega) h
    · simp only [CTR.bad.injEq] at h; omega
/-- how many rows, how long each may be -/
theorem crwL_len (F : List UInt8 → CFR) : ∀ (g : Nat) (fs : List (List UInt8)) (r : List UInt8) (fs' : List (List UInt8)) (x : List UInt8), fs.length ≤ 64 → crwL F g fs r = .ok fs' x → fs'.length ≤ 64
  | 0, _, _, _, _, _, h => by simp [crwL] at h
  | g + 1, fs, r, fs', x, hl, h => by
    rw [crwL_s] at h
    split at h
    · unfold crwS at h
      split at h
      · simp at h
      · cases hf : F r.tail with
        | bad e' x' => rw [hf] at h; simp at h
        | ok s q =>
          rw [hf] at h
          simp only at h
          exact crwL_len F g _ q fs' x (by rw [List.length_append]; simp; omega) h
    · split at h
      · simp only [CRR.ok.injEq] at h; obtain ⟨rfl, -⟩ := h; exact hl
      · simp at h
theorem crdL_len (F : List UInt8 → CFR) : ∀ (g : Nat) (rs : List (List (List UInt8))) (l : List UInt8) (rs' : List (List (List UInt8))), rs.length ≤ 513 → (∀ fs ∈ rs, fs.length ≤ 64) → crdL F g rs l = .ok rs' → rs'.length ≤ 513 ∧ ∀ fs ∈ rs', fs.length ≤ 64
  | 0, _, _, _, _, _, h => by simp [crdL] at h
  | g + 1, rs, l, rs', h1, h2, h => by
    rw [crdL_step] at h
    split at h
    · simp only [CTR.ok.injEq] at h; subst h; exact ⟨h1, h2⟩
    · split at h
      · simp at h
      · cases hf : crwF F l with
        | bad e' x' => rw [hf] at h; simp at h
        | ok fs r =>
          rw [hf] at h
          simp only at h
          split at h
          · simp at h
          · refine crdL_len F g _ r rs' (by rw [List.length_append]; simp; omega) (fun f hfm => ?_) h
            rcases List.mem_append.1 hfm with hm | hm
            · exact h2 f hm
            · simp at hm; subst hm
              unfold crwF at hf
              cases hg : F l with
              | bad e x => rw [hg] at hf; simp at hf
              | ok s q => rw [hg] at hf; exact crwL_len F _ _ q f r (by simp) hf
theorem csv_len (F : List UInt8 → CFR) (T : List UInt8) (rs : List (List (List UInt8))) (h : csvR F T = .ok rs) : rs.length ≤ 513 ∧ ∀ fs ∈ rs, fs.length ≤ 64 := by
  unfold csvR at h
  split at h
  · simp at h
  · split at h
    · exact crdL_len F _ _ T rs (by simp) (by simp) h
    · simp at h
end Go.Proofs.YtjbccmnmcjmooaaDoor
