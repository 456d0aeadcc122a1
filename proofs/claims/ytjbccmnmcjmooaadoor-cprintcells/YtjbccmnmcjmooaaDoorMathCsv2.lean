import Derived.Test.YtjbccmnmcjmooaaDoorMathCsv
import Derived.Test.YtjbccmnmcjmooaaDoorMathJ
/- Rows of CSV: what is behind a row; the whole text. -/
namespace Go.Proofs.YtjbccmnmcjmooaaDoor
open Go.RowKit

theorem cvlk_in (l : List UInt8) : pos l (vlk l) ≤ l.length := by
  obtain ⟨-, h2, -, -⟩ := least_has (vgo l) l.length 0 (by
    unfold vgo; rw [decide_eq_false (by have := pos_ge l (0 + l.length); omega)]; rfl)
  have e : vlk l = least (vgo l) l.length 0 := rfl
  rw [← e] at h2
  cases hk : vlk l with
  | zero => exact Nat.zero_le _
  | succ k =>
    have h3 := h2 k (Nat.zero_le _) (by omega)
    unfold vgo at h3
    rw [Bool.and_eq_true] at h3
    exact pos_next l k (of_decide_eq_true h3.1)
/-- a text's rows, read by some reader of fields -/
def csvR (F : List UInt8 → CFR) (T : List UInt8) : CTR :=
  if 65536 < T.length then .bad 2 [] else if pos T (vlk T) = T.length then crdL F (T.length + 1) [] T else .bad 3 (T.drop (pos T (vlk T)))
theorem crwL_tail (F : List UInt8 → CFR) (hF : ∀ l s r, F l = .ok s r → ∃ p, l = p ++ r) : ∀ (g : Nat) (fs : List (List UInt8)) (r : List UInt8) (fs' : List (List UInt8)) (q : List UInt8), crwL F g fs r = .ok fs' q → (∃ p, r = p ++ q) ∧ (r ≠ [] → q.length < r.length)
  | 0, fs, r, fs', q, h => by simp [crwL] at h
  | g + 1, fs, r, fs', q, h => by
    rw [crwL] at h
    split at h
    · next h44 =>
      obtain ⟨c, l, rfl⟩ : ∃ c l, r = c :: l := by cases r with | nil => simp at h44 | cons c l => exact ⟨c, l, rfl⟩
      split at h
      · simp at h
      · cases hf : F (c :: l).tail with
        | bad e x => rw [hf] at h; simp at h
        | ok s q1 =>
          rw [hf] at h
          simp only at h
          obtain ⟨⟨p, hp⟩, -⟩ := crwL_tail F hF g (fs ++ [s]) q1 fs' q h
          obtain ⟨p1, hp1⟩ := hF _ _ _ hf
          simp only [List.tail_cons] at hp1
          refine ⟨⟨c :: (p1 ++ p), by rw [hp1, hp]; simp⟩, fun _ => ?_⟩
          rw [hp1, hp]
          simp; omega
    · split at h
      · next he =>
        simp only [CRR.ok.injEq] at h
        obtain ⟨-, rfl⟩ := h
        refine ⟨⟨r.take (endN r), (List.take_append_drop _ _).symm⟩, fun hne => ?_⟩
        unfold endB at he
        have := of_decide_eq_true he
        rcases this with h0 | h0
        · exact absurd h0 hne
        · rw [List.length_drop]
          have := endN_le r
          omega
      · simp at h
theorem crwF_tail (F : List UInt8 → CFR) (hF : ∀ l s r, F l = .ok s r → ∃ p, l = p ++ r) (L : List UInt8) (fs : List (List UInt8)) (q : List UInt8) (h : crwF F L = .ok fs q) : (∃ p, L = p ++ q) ∧ (L ≠ [] → q.length < L.length) := by
  unfold crwF at h
  cases hf : F L with
  | bad e x => rw [hf] at h; simp at h
  | ok s r =>
    rw [hf] at h
    simp only at h
    obtain ⟨⟨p, hp⟩, h2⟩ := crwL_tail F hF _ _ _ _ _ h
    obtain ⟨p1, hp1⟩ := hF _ _ _ hf
    refine ⟨⟨p1 ++ p, by rw [hp1, hp]; simp⟩, fun hne => ?_⟩
    by_cases hr : r = []
    · subst hr
      obtain ⟨rfl, rfl⟩ : p = [] ∧ q = [] := by simpa using hp.symm
      exact List.length_pos_iff.2 hne
    · have := h2 hr
      rw [hp1, List.length_append]; omega
theorem crdL_step (F : List UInt8 → CFR) (g : Nat) (rs : List (List (List UInt8))) (l : List UInt8) : crdL F (g + 1) rs l = if l = [] then .ok rs else if rs.length = 513 then .bad 2 l else match crwF F l with
    | .bad e x => .bad e x
    | .ok fs r => if 0 < rs.length ∧ fs.length ≠ (rs.headD []).length then .bad 7 l else crdL F g (rs ++ [fs]) r := rfl
theorem fldP_suf (l s r : List UInt8) (h : fldP l = .ok s r) : ∃ p, l = p ++ r := ((fldP_tail l).1 s r h).2
end Go.Proofs.YtjbccmnmcjmooaaDoor
