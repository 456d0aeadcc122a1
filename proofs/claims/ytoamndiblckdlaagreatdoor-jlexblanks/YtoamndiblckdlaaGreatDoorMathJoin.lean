import Derived.Test.YtoamndiblckdlaaGreatDoorMathUtf
namespace Go.Proofs.YtoamndiblckdlaaGreatDoor
open Go.RowKit

theorem tkOk_more (a : UInt8) (t m : List UInt8) (h : tkOk a t = true) : tkOk a (t ++ m) = true ∧ (t ++ m).take (begN a.toNat - 1) = t.take (begN a.toNat - 1) := by
  unfold tkOk at h ⊢
  simp only [Bool.and_eq_true, decide_eq_true_eq] at h ⊢
  obtain ⟨⟨⟨h1, h2⟩, h3⟩, h4⟩ := h
  have e : (t ++ m).take (begN a.toNat - 1) = t.take (begN a.toNat - 1) := by
    rw [List.take_append_of_le_length (by omega)]
  rw [e]
  exact ⟨⟨⟨⟨h1, by simp; omega⟩, h3⟩, h4⟩, rfl⟩
/-- a letter at the head of a text is the letter at the head of any longer one -/
theorem tkN_more (l m : List UInt8) (h : tkN l ≠ 0) : tkN (l ++ m) = tkN l := by
  cases l with
  | nil => exact absurd rfl h
  | cons a t =>
    by_cases hk : tkOk a t = true
    · have h2 := (tkOk_more a t m hk).1
      simp only [List.cons_append, tkN, hk, h2, if_true]
    · exact absurd (by simp only [tkN]; rw [if_neg hk]) h
theorem stp_more (l m : List UInt8) (h : tkN l ≠ 0) : stp (l ++ m) = stp l := by unfold stp; rw [tkN_more l m h]
theorem vlk_has (l : List UInt8) : vgo l (vlk l) = false ∧ ∀ j < vlk l, vgo l j = true := by
  have h := least_has (vgo l) l.length 0 (by
    have := pos_ge l (0 + l.length)
    unfold vgo
    rw [decide_eq_false (by omega)]; rfl)
  exact ⟨h.1, fun j hj => h.2.1 j (Nat.zero_le _) hj⟩
theorem vld_of (l : List UInt8) (h : pos l (vlk l) = l.length) : ∀ j < cnt l, tkN (l.drop (pos l j)) ≠ 0 := by
  intro j hj
  rw [← at_cnt l _ h] at hj
  have := (vlk_has l).2 j hj
  unfold vgo at this
  simp only [Bool.and_eq_true, decide_eq_true_eq] at this
  exact this.2
theorem cnt_le (l : List UInt8) : cnt l ≤ l.length := by
  have h := pos_ge l (cnt l)
  rw [(cnt_has l).1] at h; exact h
theorem vld_mk (l : List UInt8) (h : ∀ j < cnt l, tkN (l.drop (pos l j)) ≠ 0) : pos l (vlk l) = l.length := by
  have hc := cnt_has l
  have e : cnt l = vlk l := vlk_eq l (cnt l) (by unfold vgo; rw [hc.1, decide_eq_false (Nat.lt_irrefl _)]; rfl)
    (fun j hj => by unfold vgo; rw [decide_eq_true (hc.2 j hj), decide_eq_true (h j hj)]; rfl) (cnt_le l)
  rw [← e]; exact hc.1
theorem pos_join1 (l m : List UInt8) (h : ∀ j < cnt l, tkN (l.drop (pos l j)) ≠ 0) : ∀ j ≤ cnt l, pos (l ++ m) j = pos l j := by
  intro j
  induction j with
  | zero => intro _; rfl
  | succ j ih =>
    intro hj
    have e := ih (by omega)
    have hp := (cnt_has l).2 j (by omega)
    simp only [pos]
    rw [e, List.drop_append_of_le_length (by omega), stp_more _ _ (h j (by omega))]
theorem pos_join2 (l m : List UInt8) (h : ∀ j < cnt l, tkN (l.drop (pos l j)) ≠ 0) : ∀ j, pos (l ++ m) (cnt l + j) = l.length + pos m j := by
  intro j
  induction j with
  | zero => simp only [Nat.add_zero, pos]; rw [pos_join1 l m h _ (Nat.le_refl _)]; exact (cnt_has l).1
  | succ j ih =>
    have e : cnt l + (j + 1) = (cnt l + j) + 1 := by omega
    rw [e]
    simp only [pos]
    rw [ih]
    have e2 : (l ++ m).drop (l.length + pos m j) = m.drop (pos m j) := by rw [List.drop_append]; simp
    rw [e2]; omega
theorem cnt_join (l m : List UInt8) (h : ∀ j < cnt l, tkN (l.drop (pos l j)) ≠ 0) : cnt (l ++ m) = cnt l + cnt m :=
  (at_cnt (l ++ m) _ (by rw [pos_join2 l m h, (cnt_has m).1]; simp)).symm
theorem vld_join (l m : List UInt8) (h : ∀ j < cnt l, tkN (l.drop (pos l j)) ≠ 0) (g : ∀ j < cnt m, tkN (m.drop (pos m j)) ≠ 0) : pos (l ++ m) (vlk (l ++ m)) = (l ++ m).length := by
  refine vld_mk _ (fun j hj => ?_)
  rw [cnt_join l m h] at hj
  by_cases h1 : j < cnt l
  · have hp := (cnt_has l).2 j h1
    rw [pos_join1 l m h j (by omega), List.drop_append_of_le_length (by omega), tkN_more _ _ (h j h1)]
    exact h j h1
  · obtain ⟨i, rfl⟩ : ∃ i, j = cnt l + i := ⟨j - cnt l, by omega⟩
    rw [pos_join2 l m h]
    have e2 : (l ++ m).drop (l.length + pos m i) = m.drop (pos m i) := by rw [List.drop_append]; simp
    rw [e2]; exact g i (by omega)
theorem at_join (l m : List UInt8) (h : ∀ j < cnt l, tkN (l.drop (pos l j)) ≠ 0) (n : Nat) : atB (l ++ m) ((cnt l : Int) + (n : Int)) = atB m (n : Int)
    ∧ (atB m (n : Int) = true → atP (l ++ m) ((cnt l : Int) + (n : Int)) = atP m (n : Int) + (l.length : Int)) := by
  have hc := cnt_join l m h
  have e1 : atB (l ++ m) ((cnt l : Int) + (n : Int)) = atB m (n : Int) := by
    unfold atB; rw [hc, Bool.eq_iff_iff]; simp; omega
  refine ⟨e1, fun hb => ?_⟩
  have hb2 := of_decide_eq_true (e1.trans hb)
  have hb1 := of_decide_eq_true hb
  unfold atP
  rw [if_pos hb2, if_pos hb1]
  have e3 : ((cnt l : Int) + (n : Int)).toNat = cnt l + n := by omega
  have e4 : (n : Int).toNat = n := by omega
  rw [e3, e4, pos_join2 l m h]; omega
theorem at_cases (l : List UInt8) (n : Int) : (n < 0 ∧ atP l n = 0 ∧ atB l n = false) ∨ (∃ m : Nat, n = (m : Int) ∧ m ≤ cnt l ∧ atP l (m : Int) = (pos l m : Int) ∧ atB l (m : Int) = true) ∨ ((cnt l : Int) < n ∧ atP l n = 0 ∧ atB l n = false) := by
  by_cases h1 : n < 0
  · exact Or.inl ⟨h1, at_neg l n h1⟩
  · by_cases h2 : (cnt l : Int) < n
    · exact Or.inr (Or.inr ⟨h2, at_end l n (cnt l) (cnt_has l).1 h2⟩)
    · obtain ⟨m, rfl⟩ := Int.eq_ofNat_of_zero_le (show 0 ≤ n by omega)
      have hm : m ≤ cnt l := by omega
      have hp := pos_mono l m (cnt l) hm
      rw [(cnt_has l).1] at hp
      exact Or.inr (Or.inl ⟨m, rfl, hm, at_there l m hp⟩)
theorem wrap64_le (x : Int) : wrap64 x ≤ 2 ^ 63 - 1 := by unfold wrap64; omega
theorem at_far (l : List UInt8) (c : Nat) (n : Int) (h : (cnt l : Int) < (c : Int) + n) (hc : c ≤ 200) (hn : n ≤ 2 ^ 63 - 1) : atP l (wrap64 ((c : Int) + n)) = 0 ∧ atB l (wrap64 ((c : Int) + n)) = false := by
  by_cases hlt : (c : Int) + n ≤ 2 ^ 63 - 1
  · have e : wrap64 ((c : Int) + n) = (c : Int) + n := by unfold wrap64; omega
    rw [e]
    exact at_end l _ (cnt l) (cnt_has l).1 h
  · exact at_neg l _ (by unfold wrap64; omega)
theorem add_list (a b : ByteArray) : (a ++ b).data.toList = a.data.toList ++ b.data.toList := by simp
theorem add_size (a b : ByteArray) : (a ++ b).size = a.size + b.size := by simp
end Go.Proofs.YtoamndiblckdlaaGreatDoor
