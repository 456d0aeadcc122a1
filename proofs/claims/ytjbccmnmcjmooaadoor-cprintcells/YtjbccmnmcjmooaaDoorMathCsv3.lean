import Derived.Test.YtjbccmnmcjmooaaDoorMathCsv2
/- Rows of CSV: the document's reckoning and the program's are the same. -/
namespace Go.Proofs.YtjbccmnmcjmooaaDoor
open Go.RowKit

/-- a row behind some fields, a field to be read next -/
def crwS (F : List UInt8 → CFR) (g : Nat) (fs : List (List UInt8)) (l : List UInt8) : CRR := if fs.length = 64 then .bad 2 l else match F l with | .ok s q => crwL F g (fs ++ [s]) q | .bad e x => .bad e x
theorem crwL_s (F : List UInt8 → CFR) (g : Nat) (fs : List (List UInt8)) (r : List UInt8) : crwL F (g + 1) fs r = if r.head? = some 44 then crwS F g fs r.tail else if endB r = true then .ok fs (r.drop (endN r)) else .bad 4 r := rfl
theorem crwL_fuel (F : List UInt8 → CFR) (hF : ∀ l s r, F l = .ok s r → ∃ p, l = p ++ r) : ∀ (g g' : Nat) (fs : List (List UInt8)) (r : List UInt8), r.length < g → r.length < g' → crwL F g fs r = crwL F g' fs r
  | 0, _, _, _, h, _ => absurd h (Nat.not_lt_zero _)
  | _ + 1, 0, _, _, _, h => absurd h (Nat.not_lt_zero _)
  | g + 1, g' + 1, fs, r, h, h' => by
    rw [crwL_s, crwL_s]
    by_cases h44 : r.head? = some 44
    · rw [if_pos h44, if_pos h44]
      unfold crwS
      split
      · rfl
      · cases hf : F r.tail with
        | bad e x => rfl
        | ok s q =>
          simp only
          obtain ⟨p, hp⟩ := hF _ _ _ hf
          have hl : 0 < r.length := by cases r with | nil => simp at h44 | cons a l => simp
          have h1 : q.length ≤ r.length - 1 := by
            have := congrArg List.length hp
            rw [List.length_append, List.length_tail] at this; omega
          exact crwL_fuel F hF g g' _ q (by omega) (by omega)
    · rw [if_neg h44, if_neg h44]
theorem crwF_s (F : List UInt8 → CFR) (hF : ∀ l s r, F l = .ok s r → ∃ p, l = p ++ r) (g : Nat) (L : List UInt8) (hg : L.length < g) : crwF F L = crwS F g [] L := by
  unfold crwF crwS
  rw [if_neg (by simp)]
  cases hf : F L with
  | bad e x => rfl
  | ok s q =>
    simp only
    obtain ⟨p, hp⟩ := hF _ _ _ hf
    have h1 : q.length ≤ L.length := by
      have := congrArg List.length hp
      rw [List.length_append] at this; omega
    exact crwL_fuel F hF _ g _ q (by omega) (by omega)
theorem fld1_suf (l s r : List UInt8) (h : fld1 l = .ok s r) : ∃ p, l = p ++ r := (fld1_tail l).1 s r h
theorem fldD_is (l : List UInt8) (hl : l.length ≤ 4096) : fldD l = fld1 l := by
  unfold fldD
  cases h : fld1 l with
  | bad e r => rfl
  | ok s r => have := fld1_len _ _ _ h; simp only [fldLim]; rw [if_neg (by omega)]
theorem crwS_same : ∀ (g : Nat) (fs : List (List UInt8)) (l : List UInt8), l.length ≤ 4096 → l.length < g → crwS fld1 g fs l = crwS fldP g fs l
  | 0, _, _, _, h => absurd h (Nat.not_lt_zero _)
  | g + 1, fs, l, hl, hg => by
    unfold crwS
    split
    · rfl
    · rcases fld_same l hl with ⟨s, r, h1, h2, h3⟩ | ⟨e, r, h1, h2⟩ | ⟨s, r, h1, h2, h3, h4⟩
      · rw [fldD_is l hl] at h1
        rw [h1, h2]
        simp only
        rw [crwL_s, crwL_s]
        obtain ⟨p, hp⟩ := fld1_suf _ _ _ h1
        have hrl : r.length ≤ l.length := by
          have := congrArg List.length hp
          rw [List.length_append] at this; omega
        by_cases h44 : r.head? = some 44
        · rw [if_pos h44, if_pos h44]
          have h0 : 0 < r.length := by cases r with | nil => simp at h44 | cons a l => simp
          exact crwS_same g _ r.tail (by rw [List.length_tail]; omega) (by rw [List.length_tail]; omega)
        · rw [if_neg h44, if_neg h44]
      · rw [fldD_is l hl] at h1
        rw [h1, h2]
      · rw [fldD_is l hl] at h1
        rw [h1, h2]
        simp only
        rw [crwL_s, if_neg h3, if_neg (by rw [h4]; decide)]
theorem crwF_same (L : List UInt8) (hL : L.length ≤ 4096) : crwF fld1 L = crwF fldP L := by
  rw [crwF_s fld1 fld1_suf (L.length + 1) L (by omega), crwF_s fldP fldP_suf (L.length + 1) L (by omega)]
  exact crwS_same _ _ _ hL (by omega)
theorem crdL_same : ∀ (g : Nat) (rs : List (List (List UInt8))) (l : List UInt8), l.length ≤ 4096 → crdL fld1 g rs l = crdL fldP g rs l
  | 0, _, _, _ => rfl
  | g + 1, rs, l, hl => by
    rw [crdL_step, crdL_step, crwF_same l hl]
    split
    · rfl
    · split
      · rfl
      · cases hf : crwF fldP l with
        | bad e x => rfl
        | ok fs r =>
          simp only
          split
          · rfl
          · obtain ⟨⟨p, hp⟩, -⟩ := crwF_tail fldP fldP_suf l fs r hf
            refine crdL_same g _ r ?_
            have := congrArg List.length hp
            rw [List.length_append] at this; omega
theorem csv_same (T : List UInt8) (hT : T.length ≤ 4096) : csvR fld1 T = csvR fldP T := by
  unfold csvR
  split
  · rfl
  · split
    · exact crdL_same _ _ _ hT
    · rfl
end Go.Proofs.YtjbccmnmcjmooaaDoor
