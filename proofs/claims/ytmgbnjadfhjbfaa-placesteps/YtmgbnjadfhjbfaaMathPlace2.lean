/- Plain mathematics: a valid text's letters and its lines: a line begins where a letter begins, and a column counts letters. -/
import Derived.Test.YtmgbnjadfhjbfaaMathPlace
namespace Go.Proofs.Ytmgbnjadfhjbfaa
open Go.RowKit

/-- every letter of the text is one -/
def Vld (l : List UInt8) : Prop := ∀ j < cnt l, tkN (l.drop (pos l j)) ≠ 0
theorem pos_add (l : List UInt8) (a : Nat) : ∀ j, pos l (a + j) = pos l a + pos (l.drop (pos l a)) j
  | 0 => by simp [pos]
  | j + 1 => by
    have ih := pos_add l a j
    rw [← Nat.add_assoc]
    simp only [pos]
    rw [ih, List.drop_drop]; omega
theorem tkN_take (x : List UInt8) (n : Nat) (h0 : tkN x ≠ 0) (hn : tkN x ≤ n) : tkN (x.take n) = tkN x := by
  rcases x with _ | ⟨a, t⟩
  · simp
  · have hk : tkOk a t = true := by
      cases h : tkOk a t with
      | true => rfl
      | false => exfalso; apply h0; simp [tkN, h]
    have hN : tkN (a :: t) = begN a.toNat := by simp [tkN, hk]
    rw [hN] at hn h0 ⊢
    rcases n with _ | n
    · omega
    · have e : (t.take n).take (begN a.toNat - 1) = t.take (begN a.toNat - 1) := by rw [List.take_take]; congr 1; omega
      have : tkOk a (t.take n) = true := by
        have hk' := hk
        unfold tkOk at hk' ⊢
        simp only [Bool.and_eq_true, decide_eq_true_eq, e] at hk' ⊢
        exact ⟨⟨⟨hk'.1.1.1, by simp; omega⟩, hk'.1.2⟩, hk'.2⟩
      rw [List.take_succ_cons]; simp [tkN, this]
theorem pos_inj (l : List UInt8) (i j : Nat) (h : pos l i ≤ pos l j) : i ≤ j := by
  apply Classical.byContradiction; intro hc
  have h1 := pos_mono l (j + 1) i (by omega)
  have h2 := pos_lt l j
  omega
theorem pos_le (l : List UInt8) (i : Nat) (h : i ≤ cnt l) : pos l i ≤ l.length := by
  have := pos_mono l i (cnt l) h; rw [(cnt_has l).1] at this; exact this
theorem pos_stp (l : List UInt8) (v : Vld l) (i : Nat) (h : i < cnt l) : pos l (i + 1) = pos l i + tkN (l.drop (pos l i)) := by
  have := v i h; simp only [pos, stp]; omega
/-- between two letters' beginnings there are as many letters as the numbers say -/
theorem seg_pos (l : List UInt8) (v : Vld l) (a i : Nat) (hi : i ≤ cnt l) : ∀ j, a + j ≤ i → pos ((l.take (pos l i)).drop (pos l a)) j + pos l a = pos l (a + j)
  | 0, _ => by simp [pos]
  | j + 1, h => by
    have ih := seg_pos l v a i hi j (by omega)
    have h1 := v (a + j) (by omega)
    have h2 := pos_stp l v (a + j) (by omega)
    have h3 := pos_mono l (a + j + 1) i (by omega)
    have e : ((l.take (pos l i)).drop (pos l a)).drop (pos ((l.take (pos l i)).drop (pos l a)) j) = (l.drop (pos l (a + j))).take (pos l i - pos l (a + j)) := by
      rw [List.drop_drop, Nat.add_comm, ih, List.drop_take]
    have e2 := tkN_take (l.drop (pos l (a + j))) (pos l i - pos l (a + j)) h1 (by omega)
    rw [← Nat.add_assoc, h2]
    simp only [pos]
    rw [e]; unfold stp; rw [e2]; omega
theorem seg_cnt (l : List UInt8) (v : Vld l) (a i : Nat) (ha : a ≤ i) (hi : i ≤ cnt l) : cnt ((l.take (pos l i)).drop (pos l a)) = i - a := by
  refine (at_cnt _ _ ?_).symm
  have h1 := seg_pos l v a i hi (i - a) (by omega)
  have h2 := pos_le l i hi
  have h3 := pos_mono l a i ha
  rw [show a + (i - a) = i by omega] at h1
  rw [List.length_drop, List.length_take]; omega
theorem pos_cover (l : List UInt8) : ∀ i, ∃ j, pos l j ≤ i ∧ i < pos l (j + 1)
  | 0 => ⟨0, Nat.le_refl _, by have := pos_lt l 0; simp only [pos] at this ⊢; omega⟩
  | i + 1 => by
    obtain ⟨j, h1, h2⟩ := pos_cover l i
    by_cases h : i + 1 < pos l (j + 1)
    · exact ⟨j, by omega, h⟩
    · exact ⟨j + 1, by omega, by have := pos_lt l (j + 1); omega⟩
/-- no byte inside a letter is a line end, but for the letter that is one -/
theorem in_letter (x : List UInt8) (k : Nat) (h0 : tkN x ≠ 0) (h1 : 1 ≤ k) (hk : k < tkN x) : ¬ x.getD k 0 = 10 := by
  rcases x with _ | ⟨a, t⟩
  · simp [tkN] at h0
  · have ho : tkOk a t = true := by
      cases h : tkOk a t with
      | true => rfl
      | false => exfalso; apply h0; simp [tkN, h]
    have hN : tkN (a :: t) = begN a.toNat := by simp [tkN, ho]
    rw [hN] at hk
    unfold tkOk at ho
    simp only [Bool.and_eq_true, decide_eq_true_eq] at ho
    obtain ⟨⟨⟨g1, g2⟩, g3⟩, -⟩ := ho
    obtain ⟨k, rfl⟩ : ∃ m, k = m + 1 := ⟨k - 1, by omega⟩
    have hl : k < (t.take (begN a.toNat - 1)).length := by rw [List.length_take]; omega
    have g4 := List.all_eq_true.1 g3 _ (List.getElem_mem hl)
    rw [List.getElem_take] at g4
    have g5 := (cont_bd g4).1
    have hl' : k < t.length := by rw [List.length_take] at hl; omega
    rw [List.getD_cons_succ, List.getD, List.getElem?_eq_getElem hl', Option.getD_some]
    intro hc; rw [hc] at g5; exact absurd g5 (by decide)
theorem tk_nl (x : List UInt8) (h : x.getD 0 0 = 10) : tkN x = 1 := by
  rcases x with _ | ⟨a, t⟩
  · simp at h
  · have : a = 10 := by simpa using h
    subst this
    have hb : begN (10 : UInt8).toNat = 1 := by decide
    have ho : tkOk 10 t = true := by unfold tkOk; rw [hb]; simp; decide
    simp only [tkN, ho, if_true, hb]
theorem nl_start (l : List UInt8) (v : Vld l) (i : Nat) (hi : i < l.length) (h : l.getD i 0 = 10) : ∃ j, pos l j = i ∧ pos l (j + 1) = i + 1 := by
  obtain ⟨j, h1, h2⟩ := pos_cover l i
  have hj : j < cnt l := below_cnt l j (by omega)
  have hs := pos_stp l v j hj
  have e : (l.drop (pos l j)).getD (i - pos l j) 0 = l.getD i 0 := by
    simp [List.getD, show pos l j + (i - pos l j) = i by omega]
  by_cases hc : pos l j = i
  · refine ⟨j, hc, ?_⟩
    rw [hs, tk_nl _ (by rw [hc] at e ⊢; rw [Nat.sub_self] at e; rw [e]; exact h), hc]
  · exact absurd (e.trans h) (in_letter _ _ (v j hj) (by omega) (by omega))
theorem bol_spec (l : List UInt8) : ∀ k, k ≤ l.length → LineAt l (nls (l.take k)) (bol l k)
  | 0, _ => LineAt_zero l
  | k + 1, h => by
    have ih := bol_spec l k (by omega)
    have e := nls_take_succ l k (by omega)
    by_cases hb : l.getD k 0 = 10
    · rw [bol_yes _ _ hb]; exact ⟨rfl, h, Or.inr (by simpa using hb)⟩
    · rw [bol_no _ _ hb, e, if_neg hb]; exact ih
theorem bol_start (l : List UInt8) (v : Vld l) (i : Nat) (hi : i ≤ cnt l) : ∃ a, a ≤ i ∧ bol l (pos l i) = pos l a := by
  have hp := pos_le l i hi
  obtain ⟨-, h2, h3⟩ := bol_spec l (pos l i) hp
  have h4 := bol_le l (pos l i)
  rcases h3 with h3 | h3
  · exact ⟨0, Nat.zero_le _, h3⟩
  · by_cases h0 : bol l (pos l i) = 0
    · exact ⟨0, Nat.zero_le _, h0⟩
    · obtain ⟨j, -, h5⟩ := nl_start l v _ (by omega) h3
      rw [show bol l (pos l i) - 1 + 1 = bol l (pos l i) by omega] at h5
      exact ⟨j + 1, pos_inj l _ _ (by omega), h5.symm⟩
theorem col_at (l : List UInt8) (v : Vld l) (a i : Nat) (ha : a ≤ i) (hi : i ≤ cnt l) (hb : bol l (pos l i) = pos l a) : colOf (l.take (pos l i)) = i - a + 1 := by
  have hp := pos_le l i hi
  have e : (l.take (pos l i)).length = pos l i := by rw [List.length_take]; omega
  unfold colOf
  rw [e, bol_take _ _ _ (Nat.le_refl _), hb, seg_cnt l v a i ha hi]
/-- the step of a letter that is no line end -/
theorem nl_none (l : List UInt8) (p : Nat) : ∀ n, p + n ≤ l.length → (∀ k, k < n → ¬ l.getD (p + k) 0 = 10) → nls (l.take (p + n)) = nls (l.take p) ∧ bol l (p + n) = bol l p
  | 0, _, _ => ⟨rfl, rfl⟩
  | n + 1, h, hk => by
    have ih := nl_none l p n (by omega) (fun k g => hk k (by omega))
    have h1 := hk n (by omega)
    rw [← Nat.add_assoc, nls_take_succ l (p + n) (by omega), if_neg h1, bol_no _ _ h1]
    exact ih
theorem step_no (l : List UInt8) (v : Vld l) (i : Nat) (hi : i < cnt l) (h : ¬ l.getD (pos l i) 0 = 10) :
    linOf (l.take (pos l (i + 1))) = linOf (l.take (pos l i)) ∧ colOf (l.take (pos l (i + 1))) = colOf (l.take (pos l i)) + 1 := by
  have hs := pos_stp l v i hi
  have hp := pos_le l (i + 1) (by omega)
  have hn := nl_none l (pos l i) (tkN (l.drop (pos l i))) (by omega) fun k hk => by
    have e : (l.drop (pos l i)).getD k 0 = l.getD (pos l i + k) 0 := by simp [List.getD]
    by_cases h0 : k = 0
    · subst h0; exact h
    · rw [← e]; exact in_letter _ _ (v i hi) (by omega) hk
  rw [← hs] at hn
  obtain ⟨a, ha, hb⟩ := bol_start l v i (by omega)
  refine ⟨by unfold linOf; rw [hn.1], ?_⟩
  rw [col_at l v a i ha (by omega) hb, col_at l v a (i + 1) (by omega) (by omega) (by rw [hn.2, hb])]; omega
theorem step_yes (l : List UInt8) (v : Vld l) (i : Nat) (hi : i < cnt l) (h : l.getD (pos l i) 0 = 10) :
    linOf (l.take (pos l (i + 1))) = linOf (l.take (pos l i)) + 1 ∧ colOf (l.take (pos l (i + 1))) = 1 := by
  have hs := pos_stp l v i hi
  have e : (l.drop (pos l i)).getD 0 0 = l.getD (pos l i) 0 := by simp [List.getD]
  rw [tk_nl _ (e.trans h)] at hs
  have hp := (cnt_has l).2 i hi
  refine ⟨?_, ?_⟩
  · unfold linOf; rw [hs, nls_take_succ l _ hp, if_pos h]
  · rw [col_at l v (i + 1) (i + 1) (Nat.le_refl _) hi (by rw [hs, bol_yes _ _ h])]; omega
end Go.Proofs.Ytmgbnjadfhjbfaa
