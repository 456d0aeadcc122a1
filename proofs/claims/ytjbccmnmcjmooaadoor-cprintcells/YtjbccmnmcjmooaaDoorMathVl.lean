import Derived.Test.YtjbccmnmcjmooaaDoorMathJ
import Derived.Test.YtjbccmnmcjmooaaDoorMathLexM
/- Letters in bytes, from the front: a text of letters is its first letter and a text of letters. -/
namespace Go.Proofs.YtjbccmnmcjmooaaDoor
open Go.RowKit

/-- letters alone -/
def VL (l : List UInt8) : Prop := pos l (vlk l) = l.length
instance (l : List UInt8) : Decidable (VL l) := by unfold VL; exact inferInstance
theorem vl_nil : VL [] := rfl
/-- the first letter hangs on its own bytes alone -/
theorem tk_front {l m : List UInt8} (h : tkN l ≠ 0) (ht : l.take (tkN l) = m.take (tkN l)) : tkN m = tkN l := by
  cases l with
  | nil => exact absurd rfl h
  | cons a t =>
    have hn := tkN_c a t
    by_cases hok : tkOk a t = true
    · rw [if_pos hok] at hn
      rw [hn] at ht h ⊢
      obtain ⟨n, hb⟩ : ∃ n, begN a.toNat = n + 1 := ⟨begN a.toNat - 1, by omega⟩
      rw [hb] at ht
      cases m with
      | nil => simp at ht
      | cons b u =>
        simp only [List.take_succ_cons, List.cons.injEq] at ht
        obtain ⟨rfl, ht⟩ := ht
        rw [tkN_c]
        unfold tkOk at hok ⊢
        have e : begN a.toNat - 1 = n := by omega
        rw [e] at hok ⊢
        rw [← ht]
        simp only [Bool.and_eq_true, decide_eq_true_eq] at hok ⊢
        obtain ⟨⟨⟨h1, h2⟩, h3⟩, h4⟩ := hok
        have hl : n ≤ u.length := by
          have := congrArg List.length ht
          rw [List.length_take, List.length_take] at this; omega
        rw [if_pos ⟨⟨⟨h1, by omega⟩, h3⟩, h4⟩]
    · rw [if_neg hok] at hn; exact absurd hn h
theorem tk_take {l : List UInt8} (h : tkN l ≠ 0) : tkN (l.take (tkN l)) = tkN l := tk_front h (by rw [List.take_take]; simp)
theorem one_letter {a : List UInt8} (h : tkN a ≠ 0) (hl : tkN a = a.length) : cnt a = 1 ∧ ∀ j < cnt a, tkN (a.drop (pos a j)) ≠ 0 := by
  have hp : pos a 1 = a.length := by
    show pos a 0 + stp (a.drop (pos a 0)) = a.length
    show 0 + stp (a.drop 0) = a.length
    rw [List.drop_zero]; unfold stp; omega
  have hc := at_cnt a 1 hp
  refine ⟨hc.symm, fun j hj => ?_⟩
  obtain rfl : j = 0 := by omega
  show tkN (a.drop 0) ≠ 0
  rw [List.drop_zero]; exact h
theorem vl_behind {a m : List UInt8} (ha : ∀ j < cnt a, tkN (a.drop (pos a j)) ≠ 0) : VL (a ++ m) ↔ VL m := by
  constructor
  · intro h
    refine vld_mk m (fun i hi => ?_)
    have := vld_of _ h (cnt a + i) (by rw [cnt_join a m ha]; omega)
    rw [pos_join2 a m ha] at this
    have e2 : (a ++ m).drop (a.length + pos m i) = m.drop (pos m i) := by rw [List.drop_append]; simp
    rw [e2] at this; exact this
  · intro h
    exact vld_join a m ha (vld_of m h)
theorem vl_step {l : List UInt8} (hne : l ≠ []) : VL l ↔ tkN l ≠ 0 ∧ VL (l.drop (tkN l)) := by
  have key : tkN l ≠ 0 → (VL l ↔ VL (l.drop (tkN l))) := fun h => by
    have h1 := tk_take h
    have hl : (l.take (tkN l)).length = tkN l := by rw [List.length_take]; have := tkN_le l; omega
    have h2 := one_letter (a := l.take (tkN l)) (by rw [h1]; exact h) (by rw [h1, hl])
    have h3 := vl_behind (m := l.drop (tkN l)) h2.2
    rw [List.take_append_drop] at h3
    exact h3
  constructor
  · intro h
    have h0 : tkN l ≠ 0 := by
      have := vld_of l h 0 (below_cnt l 0 (by show 0 < l.length; exact List.length_pos_iff.2 hne))
      have e : l.drop (pos l 0) = l := List.drop_zero
      rw [e] at this; exact this
    exact ⟨h0, (key h0).1 h⟩
  · rintro ⟨h0, h⟩
    exact (key h0).2 h
theorem vlb_ascii {c : UInt8} {l : List UInt8} (h : c.toNat < 128) : VL (c :: l) ↔ VL l := by
  have h1 := (tk_n1 (t := l) h).1
  rw [vl_step (by simp), h1]
  simp
/-- a letter of more bytes: none of them is below 128 -/
theorem tkw_wide {a : UInt8} {t : List UInt8} (h : 128 ≤ a.toNat) (h0 : tkN (a :: t) ≠ 0) : 2 ≤ tkN (a :: t) ∧ ∀ b ∈ (a :: t).take (tkN (a :: t)), 128 ≤ b.toNat := by
  have hn := tkN_c a t
  by_cases hok : tkOk a t = true
  · rw [if_pos hok] at hn
    unfold tkOk at hok
    simp only [Bool.and_eq_true, decide_eq_true_eq] at hok
    obtain ⟨⟨h1, h2⟩, -⟩ := hok
    have hb2 : 2 ≤ begN a.toNat := by
      have h1' := h1.1
      revert h1'
      unfold begN
      repeat' split
      all_goals omega
    rw [hn]
    refine ⟨hb2, fun b hb => ?_⟩
    obtain ⟨n, hbn⟩ : ∃ n, begN a.toNat = n + 1 := ⟨begN a.toNat - 1, by omega⟩
    rw [hbn, List.take_succ_cons] at hb
    rcases List.mem_cons.1 hb with rfl | hb
    · exact h
    · have e : begN a.toNat - 1 = n := by omega
      rw [e] at h2
      have := List.all_eq_true.1 h2 b hb
      unfold cont at this
      have := of_decide_eq_true this
      omega
  · rw [if_neg hok] at hn; exact absurd hn h0
/-- a text, and behind it one that is empty or begins below 128 -/
theorem vl_app : ∀ (n : Nat) (s r : List UInt8), s.length ≤ n → (∀ c ∈ r.head?, c.toNat < 128) → (VL (s ++ r) ↔ VL s ∧ VL r)
  | n, [], r, _, _ => by simp [vl_nil]
  | 0, c :: t, r, h, _ => by simp at h
  | n + 1, c :: t, r, hl, hr => by
    simp only [List.length_cons] at hl
    by_cases hc : c.toNat < 128
    · rw [List.cons_append, vlb_ascii hc, vlb_ascii hc]
      exact vl_app n t r (by omega) hr
    · have key : ∀ k, tkN (c :: t) = k → k ≠ 0 → tkN (c :: t ++ r) = k → (VL (c :: t ++ r) ↔ VL (c :: t) ∧ VL r) := fun k h1 h0 h2 => by
        have hk := tkN_le (c :: t)
        have h2w := (tkw_wide (a := c) (t := t) (by omega) (by rw [h1]; exact h0)).1
        rw [h1] at hk h2w
        rw [vl_step (by simp), vl_step (l := c :: t) (by simp), h1, h2, List.drop_append_of_le_length hk]
        have := vl_app n ((c :: t).drop k) r (by rw [List.length_drop]; simp only [List.length_cons] at hk ⊢; omega) hr
        rw [this]
        simp [h0]
      by_cases h0 : tkN (c :: t) = 0
      · have h1 : ¬ VL (c :: t) := fun h => (vl_step (by simp)).1 h |>.1 h0
        have h2 : ¬ VL (c :: t ++ r) := fun h => by
          have hn := ((vl_step (by simp)).1 h).1
          rw [List.cons_append] at hn
          obtain ⟨-, hw⟩ := tkw_wide (a := c) (by omega) hn
          have hle := tkN_le (c :: (t ++ r))
          by_cases hk : tkN (c :: (t ++ r)) ≤ (c :: t).length
          · refine hn ((tk_front hn ?_).symm.trans h0)
            rw [← List.cons_append, List.take_append_of_le_length (by rw [List.cons_append]; exact hk)]
          · -- the first byte of r is among them
            cases r with
            | nil => simp at hle hk; omega
            | cons d r =>
              have hd := hr d (by simp)
              have hm : d ∈ (c :: (t ++ d :: r)).take (tkN (c :: (t ++ d :: r))) := by
                rw [List.mem_iff_getElem?]
                refine ⟨(c :: t).length, ?_⟩
                rw [List.getElem?_take_of_lt (by omega), ← List.cons_append, List.getElem?_append_right (Nat.le_refl _)]
                simp
              have := hw d hm
              omega
        constructor
        · intro h; exact absurd h h2
        · intro h; exact absurd h.1 h1
      · exact key _ rfl h0 (by rw [tkN_more _ _ h0])
theorem vl_join {s r : List UInt8} (hr : ∀ c ∈ r.head?, c.toNat < 128) : VL (s ++ r) ↔ VL s ∧ VL r := vl_app s.length s r (Nat.le_refl _) hr
/-- each quote twice -/
def dq : List UInt8 → List UInt8
  | [] => []
  | c :: l => if c = 34 then 34 :: 34 :: dq l else c :: dq l
theorem dq_take : ∀ (n : Nat) (s : List UInt8), n ≤ (dq s).length → (∀ b ∈ (dq s).take n, b ≠ 34) → s.take n = (dq s).take n ∧ n ≤ s.length ∧ (dq s).drop n = dq (s.drop n)
  | 0, s, _, _ => by simp
  | n + 1, [], h, _ => by simp [dq] at h
  | n + 1, c :: l, h, hb => by
    by_cases hc : c = 34
    · exfalso
      refine hb 34 ?_ rfl
      simp [dq, hc]
    · simp only [dq, if_neg hc, List.take_succ_cons, List.length_cons] at h hb ⊢
      obtain ⟨h1, h2, h3⟩ := dq_take n l (by omega) (fun b hm => hb b (List.mem_cons_of_mem _ hm))
      exact ⟨by rw [h1], by omega, by simpa using h3⟩
theorem dq_keep : ∀ (n : Nat) (s : List UInt8), n ≤ s.length → (∀ b ∈ s.take n, b ≠ 34) → (dq s).take n = s.take n ∧ (dq s).drop n = dq (s.drop n) ∧ n ≤ (dq s).length
  | 0, s, _, _ => by simp
  | n + 1, [], h, _ => by simp at h
  | n + 1, c :: l, h, hb => by
    have hc : c ≠ 34 := hb c (by simp)
    simp only [List.length_cons, List.take_succ_cons] at h hb
    obtain ⟨h1, h2, h3⟩ := dq_keep n l (by omega) (fun b hm => hb b (List.mem_cons_of_mem _ hm))
    simp only [dq, if_neg hc, List.take_succ_cons, List.drop_succ_cons, List.length_cons]
    exact ⟨by rw [h1], h2, by omega⟩
theorem vl_dq : ∀ (n : Nat) (s : List UInt8), s.length ≤ n → (VL (dq s) ↔ VL s)
  | n, [], _ => by simp [dq]
  | 0, c :: t, h => by simp at h
  | n + 1, c :: t, hl => by
    simp only [List.length_cons] at hl
    by_cases hc : c.toNat < 128
    · have ih := vl_dq n t (by omega)
      by_cases h34 : c = 34
      · simp only [dq, if_pos h34]
        rw [vlb_ascii (c := 34) (by decide), vlb_ascii (c := 34) (by decide), vlb_ascii hc, ih]
      · simp only [dq, if_neg h34]
        rw [vlb_ascii hc, vlb_ascii hc, ih]
    · have hne34 : ∀ b : UInt8, 128 ≤ b.toNat → b ≠ 34 := fun b h e => by rw [e] at h; exact absurd h (by decide)
      have h34 : c ≠ 34 := hne34 c (by omega)
      have hd : dq (c :: t) = c :: dq t := by simp only [dq, if_neg h34]
      by_cases h0 : tkN (c :: t) = 0
      · have h1 : ¬ VL (c :: t) := fun h => (vl_step (by simp)).1 h |>.1 h0
        have h2 : ¬ VL (dq (c :: t)) := fun h => by
          have hn := ((vl_step (by rw [hd]; simp)).1 h).1
          have hle := tkN_le (dq (c :: t))
          have hw : ∀ b ∈ (dq (c :: t)).take (tkN (dq (c :: t))), 128 ≤ b.toNat := by
            rw [hd] at hn ⊢
            exact (tkw_wide (a := c) (by omega) hn).2
          obtain ⟨h3, -, -⟩ := dq_take _ (c :: t) hle (fun b hb => hne34 b (hw b hb))
          exact hn ((tk_front hn h3.symm).symm.trans h0)
        constructor
        · intro h; exact absurd h h2
        · intro h; exact absurd h h1
      · obtain ⟨hw2, hw⟩ := tkw_wide (a := c) (by omega) h0
        have hle := tkN_le (c :: t)
        obtain ⟨h3, h4, h5⟩ := dq_keep _ (c :: t) hle (fun b hb => hne34 b (hw b hb))
        have h6 : tkN (dq (c :: t)) = tkN (c :: t) := tk_front h0 h3.symm
        rw [vl_step (l := dq (c :: t)) (by rw [hd]; simp), vl_step (l := c :: t) (by simp), h6, h4]
        have := vl_dq n ((c :: t).drop (tkN (c :: t))) (by rw [List.length_drop]; simp only [List.length_cons] at hle ⊢; omega)
        rw [this]
end Go.Proofs.YtjbccmnmcjmooaaDoor
