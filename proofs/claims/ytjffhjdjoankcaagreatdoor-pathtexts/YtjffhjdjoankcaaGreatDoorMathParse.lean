/- Plain mathematics: a text that is read as a path is that path's text. -/
import Derived.Test.YtjffhjdjoankcaaGreatDoorMathSteps
namespace Go.Proofs.YtjffhjdjoankcaaGreatDoor
open Go.RowKit

theorem first_mem {c : UInt8} : ∀ {r : List UInt8}, c ∈ r → ∃ a b, r = a ++ c :: b ∧ c ∉ a
  | [], h => by simp at h
  | x :: r, h => by
    by_cases e : x = c
    · subst e; exact ⟨[], r, rfl, by simp⟩
    · have : c ∈ r := by
        rcases List.mem_cons.1 h with h1 | h1
        · exact absurd h1.symm e
        · exact h1
      obtain ⟨a, b, h1, h2⟩ := first_mem this
      exact ⟨x :: a, b, by rw [h1]; rfl, fun hm => by
        rcases List.mem_cons.1 hm with h3 | h3
        · exact e h3.symm
        · exact h2 h3⟩
theorem flat_congr {α β : Type} {f g : α → List β} : ∀ {l : List α}, (∀ x ∈ l, f x = g x) → l.flatMap f = l.flatMap g
  | [], _ => rfl
  | a :: l, h => by rw [List.flatMap_cons, List.flatMap_cons, h a (by simp), flat_congr (l := l) (fun x hx => h x (by simp [hx]))]
theorem split_flat : ∀ (n : Nat) (r : List UInt8), r.length ≤ n → (Lib.split r [47]).flatMap (fun x => 47 :: x) = 47 :: r
  | 0, r, h => by
    have : r = [] := List.eq_nil_of_length_eq_zero (by omega)
    subst this
    rw [split_no (by simp)]; rfl
  | n + 1, r, h => by
    by_cases hm : (47 : UInt8) ∈ r
    · obtain ⟨a, b, e, ha⟩ := first_mem hm
      subst e
      rw [split_at ha, List.flatMap_cons, split_flat n b (by simp at h; omega)]
      simp
    · rw [split_no hm]; simp
theorem dv_pos {l : List UInt8} (h : digB l = true) (h0 : ¬ l = [48]) : 1 ≤ dv 0 l := by
  unfold digB at h
  simp only [Bool.and_eq_true, Bool.not_eq_true'] at h
  obtain ⟨⟨h1, h2⟩, h3⟩ := h
  cases l with
  | nil => simp at h1
  | cons c r =>
    have hc : 48 ≤ c.toNat ∧ c.toNat ≤ 57 := by
      have := List.all_eq_true.1 h3 c (by simp)
      simpa using this
    have hne : ¬ c = 48 := by
      intro e
      subst e
      cases r with
      | nil => exact h0 rfl
      | cons d r => simp at h2
    have hc2 : ¬ c.toNat = 48 := fun e => hne (UInt8.toNat_inj.1 e)
    have := dv_ge r (0 * 10 + (c.toNat - 48))
    rw [dv_cons]; omega
theorem dd_back : ∀ (n : Nat) (l : List UInt8), l.length ≤ n → digB l = true → Lib.decDigits (dv 0 l) = l
  | 0, l, hl, h => by
    have : l = [] := List.eq_nil_of_length_eq_zero (by omega)
    subst this
    cases h
  | n + 1, l, hl, h => by
    rcases List.eq_nil_or_concat l with rfl | ⟨r, c, e⟩
    · cases h
    rw [List.concat_eq_append] at e
    subst e
    have hall := h
    unfold digB at hall
    simp only [Bool.and_eq_true, Bool.not_eq_true'] at hall
    obtain ⟨⟨h1, h2⟩, h3⟩ := hall
    have hc : 48 ≤ c.toNat ∧ c.toNat ≤ 57 := by
      have := List.all_eq_true.1 h3 c (by simp)
      simpa using this
    have hcb : UInt8.ofNat (48 + (c.toNat - 48)) = c := by
      apply UInt8.toNat_inj.1
      simp; omega
    cases r with
    | nil =>
      have e : dv 0 ([] ++ [c]) = c.toNat - 48 := by rw [dv_snoc]; simp [dv]
      rw [e, Lib.decDigits, dif_pos (by omega), hcb]; rfl
    | cons d r =>
      have hd : ¬ d = 48 := by
        intro e
        subst e
        simp at h2
      have hdr : digB (d :: r) = true := by
        unfold digB
        simp only [Bool.and_eq_true, Bool.not_eq_true']
        refine ⟨⟨rfl, ?_⟩, ?_⟩
        · simp [hd]
        · rw [List.all_eq_true] at h3 ⊢
          intro b hb
          exact h3 b (by simp at hb ⊢; rcases hb with h | h; · exact Or.inl h
                         · exact Or.inr (Or.inl h))
      have hp := dv_pos hdr (fun e => by injection e with e _; exact hd e)
      have ih := dd_back n (d :: r) (by simp at hl ⊢; omega) hdr
      rw [dv_snoc, Lib.decDigits, dif_neg (by omega)]
      rw [show (dv 0 (d :: r) * 10 + (c.toNat - 48)) / 10 = dv 0 (d :: r) by omega, show (dv 0 (d :: r) * 10 + (c.toNat - 48)) % 10 = c.toNat - 48 by omega, ih, hcb]
theorem ps_text {l : List UInt8} (h : psOk l = true) : stepT (psStep l) = l ∧ Frm (psStep l) := by
  unfold psOk at h
  unfold psStep
  by_cases hd : digB l = true
  · rw [if_pos hd, decide_eq_true_eq] at h
    rw [if_pos hd, if_pos (by omega)]
    refine ⟨?_, Or.inl ⟨rfl, rfl, by simp, by simp; omega⟩⟩
    unfold stepT
    rw [if_pos rfl]
    show Lib.itoa ((dv 0 l : Nat) : Int) = l
    rw [Lib.itoa_nonneg]
    exact dd_back l.length l (Nat.le_refl _) hd
  · rw [if_neg hd, decide_eq_true_eq] at h
    rw [if_neg hd]
    refine ⟨?_, Or.inr ⟨rfl, rfl⟩⟩
    unfold stepT
    rw [if_neg (by simp)]
    show keyT (mkS (unK l)).data.toList = l
    rw [mkS_list]; exact h
/-- what is read as a path is that path's text -/
theorem parse_sound {S : List UInt8} {p : List PStep} (h : parseP S = some p) : textP p = S ∧ ∀ s ∈ p, Frm s := by
  unfold parseP at h
  by_cases h0 : S = []
  · rw [if_pos h0] at h
    injection h with h
    subst h
    exact ⟨h0.symm, by simp⟩
  rw [if_neg h0] at h
  by_cases h1 : S.getD 0 0 = 47
  · rw [if_neg (by simpa using h1)] at h
    by_cases h2 : (piecesP S).all psOk = true
    · rw [if_pos h2] at h
      injection h with h
      subst h
      rw [List.all_eq_true] at h2
      have hS : S = 47 :: S.drop 1 := by
        cases S with
        | nil => exact absurd rfl h0
        | cons a r => simp at h1; rw [h1]; rfl
      constructor
      · unfold textP
        rw [List.flatMap_map]
        have : (piecesP S).flatMap (fun x => 47 :: stepT (psStep x)) = (piecesP S).flatMap (fun x => 47 :: x) := by
          apply flat_congr
          intro x hx
          rw [(ps_text (h2 x hx)).1]
        rw [this]
        unfold piecesP
        rw [split_flat _ _ (Nat.le_refl _), ← hS]
      · intro s hs
        obtain ⟨x, hx, rfl⟩ := List.mem_map.1 hs
        exact (ps_text (h2 x hx)).2
    · rw [if_neg h2] at h; cases h
  · rw [if_pos (by simpa using h1)] at h; cases h
theorem ok_step {s : PStep} (h : stepOk s = true) : (stepT s).length ≤ 8194 := by
  rcases frm_of h with ⟨h1, h2, h3, h4⟩ | ⟨h1, h2⟩
  · unfold stepT
    rw [if_pos h1]
    have := Lib.itoa_length_le s.at_ (by omega) (by omega)
    omega
  · unfold stepT
    rw [if_neg (by rw [h1]; decide)]
    unfold stepOk at h
    rw [if_neg (by rw [h1]; decide), Bool.and_eq_true] at h
    have hk := h.2
    unfold strOkB at hk
    rw [Bool.and_eq_true, decide_eq_true_eq] at hk
    have := esc_len s.key.data.toList
    rw [size_list] at this
    unfold keyT
    split
    · simp; omega
    · omega
theorem ok_text {p : List PStep} (h : pathOk p = true) : (textP p).length ≤ 500000 := by
  unfold pathOk at h
  rw [Bool.and_eq_true, decide_eq_true_eq] at h
  obtain ⟨h1, h2⟩ := h
  have : ∀ q : List PStep, q.all stepOk = true → (textP q).length ≤ q.length * 8195 := by
    intro q
    induction q with
    | nil => intro _; simp [textP]
    | cons a r ih =>
      intro hq
      rw [List.all_cons, Bool.and_eq_true] at hq
      have e : textP (a :: r) = 47 :: stepT a ++ textP r := rfl
      have g1 := ok_step hq.1
      have g2 := ih hq.2
      rw [e]
      simp only [List.length_cons, List.length_append]
      omega
  have := this p h2
  omega
end Go.Proofs.YtjffhjdjoankcaaGreatDoor
