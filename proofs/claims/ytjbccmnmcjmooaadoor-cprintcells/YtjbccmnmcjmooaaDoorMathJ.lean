import Derived.Test.YtjbccmnmcjmooaaDoorMathUtf
namespace Go.Proofs.YtjbccmnmcjmooaaDoor
open Go.RowKit

theorem tkOk_more (a : UInt8) (t m : List UInt8) (h : tkOk a t = true) : tkOk a (t ++ m) = true ∧ (t ++ m).take (begN a.toNat - 1) = t.take (begN a.toNat - 1) := by
  unfold tkOk at h ⊢
  simp only [Bool.and_eq_true, decide_eq_true_eq] at h ⊢
  obtain ⟨⟨⟨h1, h2⟩, h3⟩, h4⟩ := h
  have e : (t ++ m).take (begN a.toNat - 1) = t.take (begN a.toNat - 1) := by
    rw [List.take_append_of_le_length (by omega)]
  rw [e]
  exact ⟨⟨⟨⟨h1, by simp; omega⟩, h3⟩, h4⟩, rfl⟩
/-- a letter at the head of a text is the letter at the head of any longer one -/
theorem tkN_more (l m : List UInt8) (h : tkN l ≠ 0) : tkN (l ++ m) = tkN l := by
  cases l with
  | nil => exact absurd rfl h
  | cons a t =>
    by_cases hk : tkOk a t = true
    · have h2 := (tkOk_more a t m hk).1
      simp only [List.cons_append, tkN, hk, h2, if_true]
    · exact absurd (by simp only [tkN]; rw [if_neg hk]) h
theorem stp_more (l m : List UInt8) (h : tkN l ≠ 0) : stp (l ++ m) = stp l := by unfold stp; rw [tkN_more l m h]
theorem vlk_has (l : List UInt8) : vgo l (vlk l) = false ∧ ∀ j < vlk l, vgo l j = true := by
  have h := least_has (vgo l) l.length 0 (by
    have := pos_ge l (0 + l.length)
    unfold vgo
    rw [decide_eq_false (by omega)]; rfl)
  exact ⟨h.1, fun j hj => h.2.1 j (Nat.zero_le _) hj⟩
theorem vld_of (l : List UInt8) (h : pos l (vlk l) = l.length) : ∀ j < cnt l, tkN (l.drop (pos l j)) ≠ 0 := by
  intro j hj
  rw [← at_cnt l _ h] at hj
  have := (vlk_has l).2 j hj
  unfold vgo at this
  simp only [Bool.and_eq_true, decide_eq_true_eq] at this
  exact this.2
theorem cnt_le (l : List UInt8) : cnt l ≤ l.length := by
  have h := pos_ge l (cnt l)
  rw [(cnt_has l).1] at h; exact h
theorem vld_mk (l : List UInt8) (h : ∀ j < cnt l, tkN (l.drop (pos l j)) ≠ 0) : pos l (vlk l) = l.length := by
  have hc := cnt_has l
  have e : cnt l = vlk l := vlk_eq l (cnt l) (by unfold vgo; rw [hc.1, decide_eq_false (Nat.lt_irrefl _)]; rfl)
    (fun j hj => by unfold vgo; rw [decide_eq_true (hc.2 j hj), decide_eq_true (h j hj)]; rfl) (cnt_le l)
  rw [← e]; exact hc.1
theorem pos_join1 (l m : List UInt8) (h : ∀ j < cnt l, tkN (l.drop (pos l j)) ≠ 0) : ∀ j ≤ cnt l, pos (l ++ m) j = pos l j := by
  intro j
  induction j with
  | zero => intro _; rfl
  | succ j ih =>
    intro hj
    have e := ih (by omega)
    have hp := (cnt_has l).2 j (by omega)
    simp only [pos]
    rw [e, List.drop_append_of_le_length (by omega), stp_more _ _ (h j (by omega))]
theorem pos_join2 (l m : List UInt8) (h : ∀ j < cnt l, tkN (l.drop (pos l j)) ≠ 0) : ∀ j, pos (l ++ m) (cnt l + j) = l.length + pos m j := by
  intro j
  induction j with
  | zero => simp only [Nat.add_zero, pos]; rw [pos_join1 l m h _ (Nat.le_refl _)]; exact (cnt_has l).1
  | succ j ih =>
    have e : cnt l + (j + 1) = (cnt l + j) + 1 := by omega
    rw [e]
    simp only [pos]
    rw [ih]
    have e2 : (l ++ m).drop (l.length + pos m j) = m.drop (pos m j) := by rw [List.drop_append]; simp
    rw [e2]; omega
theorem cnt_join (l m : List UInt8) (h : ∀ j < cnt l, tkN (l.drop (pos l j)) ≠ 0) : cnt (l ++ m) = cnt l + cnt m :=
  (at_cnt (l ++ m) _ (by rw [pos_join2 l m h, (cnt_has m).1]; simp)).symm
theorem vld_join (l m : List UInt8) (h : ∀ j < cnt l, tkN (l.drop (pos l j)) ≠ 0) (g : ∀ j < cnt m, tkN (m.drop (pos m j)) ≠ 0) : pos (l ++ m) (vlk (l ++ m)) = (l ++ m).length := by
  refine vld_mk _ (fun j hj => ?_)
  rw [cnt_join l m h] at hj
  by_cases h1 : j < cnt l
  · have hp := (cnt_has l).2 j h1
    rw [pos_join1 l m h j (by omega), List.drop_append_of_le_length (by omega), tkN_more _ _ (h j h1)]
    exact h j h1
  · obtain ⟨i, rfl⟩ : ∃ i, j = cnt l + i := ⟨j - cnt l, by omega⟩
    rw [pos_join2 l m h]
    have e2 : (l ++ m).drop (l.length + pos m i) = m.drop (pos m i) := by rw [List.drop_append]; simp
    rw [e2]; exact g i (by omega)
theorem at_join (l m : List UInt8) (h : ∀ j < cnt l, tkN (l.drop (pos l j)) ≠ 0) (n : Nat) : atB (l ++ m) ((cnt l : Int) + (n : Int)) = atB m (n : Int)
    ∧ (atB m (n : Int) = true → atP (l ++ m) ((cnt l : Int) + (n : Int)) = atP m (n : Int) + (l.length : Int)) := by
  have hc := cnt_join l m h
  have e1 : atB (l ++ m) ((cnt l : Int) + (n : Int)) = atB m (n : Int) := by
    unfold atB; rw [hc, Bool.eq_iff_iff]; simp; omega
  refine ⟨e1, fun hb => ?_⟩
  have hb2 := of_decide_eq_true (e1.trans hb)
  have hb1 := of_decide_eq_true hb
  unfold atP
  rw [if_pos hb2, if_pos hb1]
  have e3 : ((cnt l : Int) + (n : Int)).toNat = cnt l + n := by omega
  have e4 : (n : Int).toNat = n := by omega
  rw [e3, e4, pos_join2 l m h]; omega
theorem at_cases (l : List UInt8) (n : Int) : (n < 0 ∧ atP l n = 0 ∧ atB l n = false) ∨ (∃ m : Nat, n = (m : Int) ∧ m ≤ cnt l ∧ atP l (m : Int) = (pos l m : Int) ∧ atB l (m : Int) = true) ∨ ((cnt l : Int) < n ∧ atP l n = 0 ∧ atB l n = false) := by
  by_cases h1 : n < 0
  · exact Or.inl ⟨h1, at_neg l n h1⟩
  · by_cases h2 : (cnt l : Int) < n
    · exact Or.inr (Or.inr ⟨h2, at_end l n (cnt l) (cnt_has l).1 h2⟩)
    · obtain ⟨m, rfl⟩ := Int.eq_ofNat_of_zero_le (show 0 ≤ n by omega)
      have hm : m ≤ cnt l := by omega
      have hp := pos_mono l m (cnt l) hm
      rw [(cnt_has l).1] at hp
      exact Or.inr (Or.inl ⟨m, rfl, hm, at_there l m hp⟩)
theorem wrap64_le (x : Int) : wrap64 x ≤ 2 ^ 63 - 1 := by unfold wrap64; omega
theorem at_far (l : List UInt8) (c : Nat) (n : Int) (h : (cnt l : Int) < (c : Int) + n) (hc : c ≤ 200) (hn : n ≤ 2 ^ 63 - 1) : atP l (wrap64 ((c : Int) + n)) = 0 ∧ atB l (wrap64 ((c : Int) + n)) = false := by
  by_cases hlt : (c : Int) + n ≤ 2 ^ 63 - 1
  · have e : wrap64 ((c : Int) + n) = (c : Int) + n := by unfold wrap64; omega
    rw [e]
    exact at_end l _ (cnt l) (cnt_has l).1 h
  · exact at_neg l _ (by unfold wrap64; omega)
theorem add_list (a b : ByteArray) : (a ++ b).data.toList = a.data.toList ++ b.data.toList := by simp
theorem add_size (a b : ByteArray) : (a ++ b).size = a.size + b.size := by simp
end Go.Proofs.YtjbccmnmcjmooaaDoor
namespace Go.Proofs.YtjbccmnmcjmooaaDoor
open Go.RowKit

def ub (n : Int) : UInt8 := UInt8.ofNat n.toNat
def okb (n : Int) : Prop := 0 ≤ n ∧ n < 256
theorem ub_nat (n : Int) (h : okb n) : (ub n).toNat = n.toNat := by
  unfold ub okb at *
  rw [UInt8.toNat_ofNat']
  omega
theorem ub_lt (x y : Int) (hx : okb x) (hy : okb y) : decide (ub x < ub y) = decide (x < y) := by
  have e : (ub x < ub y) ↔ x < y := by
    rw [UInt8.lt_iff_toNat_lt, ub_nat x hx, ub_nat y hy]; unfold okb at hx hy; omega
  exact decide_eq_decide.2 e
theorem ub_inj (x y : Int) (hx : okb x) (hy : okb y) (h : ub x = ub y) : x = y := by
  have h2 := congrArg UInt8.toNat h
  rw [ub_nat x hx, ub_nat y hy] at h2
  unfold okb at hx hy; omega
theorem ub_beq (x y : Int) (hx : okb x) (hy : okb y) : (ub x == ub y) = decide (x = y) := by
  by_cases h : x = y
  · subst h; simp
  · rw [decide_eq_false h, beq_eq_false_iff_ne]
    exact fun e => h (ub_inj x y hx hy e)
theorem less_cons (x y : Int) (xs ys : List UInt8) (hx : okb x) (hy : okb y) : Op.bytesLess (ub x :: xs) (ub y :: ys) = (decide (x < y) || (decide (x = y) && Op.bytesLess xs ys)) := by
  simp only [Op.bytesLess]; rw [ub_lt x y hx hy, ub_beq x y hx hy]
theorem less_ne (x y : Int) (xs ys : List UInt8) (hx : okb x) (hy : okb y) (h : x ≠ y) : Op.bytesLess (ub x :: xs) (ub y :: ys) = decide (x < y) := by
  rw [less_cons x y xs ys hx hy, decide_eq_false h]; simp
theorem less_nil : Op.bytesLess [] [] = false := rfl

/-- the four forms of a letter's bytes -/
theorem enc_forms (r : Int) (h : goodB r = true) :
    (0 ≤ r ∧ r < 128 ∧ encI r = [r]) ∨ (128 ≤ r ∧ r < 2048 ∧ encI r = [192 + r / 64, 128 + r % 64])
    ∨ (2048 ≤ r ∧ r < 65536 ∧ encI r = [224 + r / 4096, 128 + r / 64 % 64, 128 + r % 64])
    ∨ (65536 ≤ r ∧ r ≤ 1114111 ∧ encI r = [240 + r / 262144, 128 + r / 4096 % 64, 128 + r / 64 % 64, 128 + r % 64]) := by
  have hr := of_decide_eq_true h
  unfold encI
  by_cases h1 : r < 128
  · exact Or.inl ⟨by omega, h1, by rw [if_pos h1]⟩
  · by_cases h2 : r < 2048
    · exact Or.inr (Or.inl ⟨by omega, h2, by rw [if_neg h1, if_pos h2]⟩)
    · by_cases h3 : r < 65536
      · exact Or.inr (Or.inr (Or.inl ⟨by omega, h3, by rw [if_neg h1, if_neg h2, if_pos h3]⟩))
      · exact Or.inr (Or.inr (Or.inr ⟨by omega, by omega, by rw [if_neg h1, if_neg h2, if_neg h3]⟩))
theorem enc_bytes (r : Int) (h : goodB r = true) : ∀ x ∈ encI r, okb x := by
  intro x hx
  rcases enc_forms r h with ⟨h1, h2, e⟩ | ⟨h1, h2, e⟩ | ⟨h1, h2, e⟩ | ⟨h1, h2, e⟩
  all_goals
    rw [e] at hx
    simp only [List.mem_cons, List.not_mem_nil, or_false] at hx
    unfold okb
    omega
theorem order_less (a b : Int) (ha : goodB a = true) (hb : goodB b = true) : Op.bytesLess ((encI a).map ub) ((encI b).map ub) = decide (a < b) := by
  have oa := enc_bytes a ha
  have ob := enc_bytes b hb
  rcases enc_forms a ha with ⟨a1, a2, ea⟩ | ⟨a1, a2, ea⟩ | ⟨a1, a2, ea⟩ | ⟨a1, a2, ea⟩ <;> rcases enc_forms b hb with ⟨b1, b2, eb⟩ | ⟨b1, b2, eb⟩ | ⟨b1, b2, eb⟩ | ⟨b1, b2, eb⟩ <;> rw [ea] at oa ⊢ <;> rw [eb] at ob ⊢ <;> simp only [List.map_cons, List.map_nil]
  all_goals simp only [List.mem_cons, List.not_mem_nil, or_false, forall_eq_or_imp, forall_eq] at oa ob
  all_goals first
    | (rw [less_ne _ _ _ _ (by first | exact oa.1 | exact oa) (by first | exact ob.1 | exact ob) (by omega)]; exact decide_eq_decide.2 (by omega))
    | (rw [less_cons _ _ _ _ oa ob, less_nil, Bool.eq_iff_iff]; simp)
    | (rw [less_cons _ _ _ _ oa.1 ob.1, less_cons _ _ _ _ oa.2 ob.2, less_nil, Bool.eq_iff_iff]; simp; omega)
    | (rw [less_cons _ _ _ _ oa.1 ob.1, less_cons _ _ _ _ oa.2.1 ob.2.1, less_cons _ _ _ _ oa.2.2 ob.2.2, less_nil, Bool.eq_iff_iff]; simp; omega)
    | (rw [less_cons _ _ _ _ oa.1 ob.1, less_cons _ _ _ _ oa.2.1 ob.2.1, less_cons _ _ _ _ oa.2.2.1 ob.2.2.1, less_cons _ _ _ _ oa.2.2.2 ob.2.2.2, less_nil, Bool.eq_iff_iff]; simp; omega)
theorem order_take (a b : Int) (ha : goodB a = true) (hb : goodB b = true) (hab : a ≠ b) (n : Nat) (hn : n = (encI a).length ∧ n ≤ (encI b).length ∨ n = (encI b).length ∧ n ≤ (encI a).length) :
    ((encI a).map ub).take n ≠ ((encI b).map ub).take n := by
  have oa := enc_bytes a ha
  have ob := enc_bytes b hb
  have hn1 : 1 ≤ n := by
    rcases enc_forms a ha with ⟨-, -, ea⟩ | ⟨-, -, ea⟩ | ⟨-, -, ea⟩ | ⟨-, -, ea⟩ <;> rcases enc_forms b hb with ⟨-, -, eb⟩ | ⟨-, -, eb⟩ | ⟨-, -, eb⟩ | ⟨-, -, eb⟩ <;> rw [ea, eb] at hn <;> simp only [List.length_cons, List.length_nil] at hn <;> omega
  obtain ⟨m, rfl⟩ : ∃ m, n = m + 1 := ⟨n - 1, by omega⟩
  intro h
  rcases enc_forms a ha with ⟨a1, a2, ea⟩ | ⟨a1, a2, ea⟩ | ⟨a1, a2, ea⟩ | ⟨a1, a2, ea⟩ <;> rcases enc_forms b hb with ⟨b1, b2, eb⟩ | ⟨b1, b2, eb⟩ | ⟨b1, b2, eb⟩ | ⟨b1, b2, eb⟩ <;> rw [ea] at oa hn h <;> rw [eb] at ob hn h
  all_goals simp only [List.mem_cons, List.not_mem_nil, or_false, forall_eq_or_imp, forall_eq, List.length_cons, List.length_nil, List.map_cons, List.map_nil, List.take_succ_cons, List.cons.injEq] at oa ob hn h
  all_goals first
    | (have := ub_inj _ _ (by first | exact oa.1 | exact oa) (by first | exact ob.1 | exact ob) h.1; omega)
    | (obtain rfl : m = 1 := by omega
       simp only [List.take_succ_cons, List.take_zero, List.cons.injEq, and_true] at h
       have h1 := ub_inj _ _ oa.1 ob.1 h.1; have h2 := ub_inj _ _ oa.2 ob.2 h.2; omega)
    | (obtain rfl : m = 2 := by omega
       simp only [List.take_succ_cons, List.take_zero, List.cons.injEq, and_true] at h
       have h1 := ub_inj _ _ oa.1 ob.1 h.1; have h2 := ub_inj _ _ oa.2.1 ob.2.1 h.2.1; have h3 := ub_inj _ _ oa.2.2 ob.2.2 h.2.2; omega)
    | (obtain rfl : m = 3 := by omega
       simp only [List.take_succ_cons, List.take_zero, List.cons.injEq, and_true] at h
       have h1 := ub_inj _ _ oa.1 ob.1 h.1; have h2 := ub_inj _ _ oa.2.1 ob.2.1 h.2.1; have h3 := ub_inj _ _ oa.2.2.1 ob.2.2.1 h.2.2.1; have h4 := ub_inj _ _ oa.2.2.2 ob.2.2.2 h.2.2.2; omega)
theorem enc_good (r : Int) (h : goodB r = true) : enc r = encI r := by unfold enc; rw [h]; rfl
theorem str_enc (r : Int) (h : goodB r = true) : (strOfNums (enc r)).toList = (encI r).map ub := by
  rw [ByteArray.toList_eq, strOfNums_data, enc_good r h]; rfl
theorem str_cut (xs : List Int) (n : Nat) : ((strOfNums xs).extract 0 n).toList = (strOfNums xs).toList.take n := by
  rw [ByteArray.toList_eq, ByteArray.toList_eq]; simp
/-- the two tests of the law on the order of letters -/
theorem order_tests (a b : Int) (ha : goodB a = true) (hb : goodB b = true) (hab : a ≠ b) :
    (decide (a < b) == Op.bytesLess (strOfNums (enc a)).toList (strOfNums (enc b)).toList) = true
    ∧ (∀ n, (n = (enc a).length ∧ n ≤ (enc b).length ∨ n = (enc b).length ∧ n ≤ (enc a).length) → (((strOfNums (enc a)).extract 0 n).toList == ((strOfNums (enc b)).extract 0 n).toList) = false) := by
  refine ⟨by rw [str_enc a ha, str_enc b hb, order_less a b ha hb]; simp, fun n hn => ?_⟩
  rw [str_cut, str_cut, str_enc a ha, str_enc b hb, beq_eq_false_iff_ne]
  rw [enc_good a ha, enc_good b hb] at hn
  exact order_take a b ha hb hab n hn
end Go.Proofs.YtjbccmnmcjmooaaDoor
namespace Go.Proofs.YtjbccmnmcjmooaaDoor
open Go.RowKit

theorem tk_yes_of (a : UInt8) (t : List UInt8) (F n : Nat) (hn : begN a.toNat = n) (h0 : n ≠ 0) (hl : n ≤ t.length + 1) (hc : (t.take (n - 1)).all cont = true)
    (hF : fol (begR a.toNat) (t.take (n - 1)) = F) (hg : goodN F = true) (hw : wdN F = n) : tkR (a :: t) = F ∧ tkN (a :: t) = n := by
  have hk : tkOk a t = true := by
    unfold tkOk; rw [hn, hF, hc, hg, hw, decide_eq_true (show n ≠ 0 ∧ n ≤ t.length + 1 from ⟨h0, hl⟩)]; simp
  simp only [tkR, tkN, hk, if_true, hn, hF]
  exact ⟨trivial, trivial⟩
theorem tk_shrt (a : UInt8) (t : List UInt8) (h : t.length + 1 < begN a.toNat) : tkN (a :: t) = 0 := by
  have hk : tkOk a t = false := by unfold tkOk; rw [decide_eq_false (by omega)]; rfl
  simp only [tkN, hk]; rfl
theorem ub_val (n : Int) (h : okb n) : (ub n).toNat = n.toNat := ub_nat n h
theorem cont_ub (n : Int) (h1 : 128 ≤ n) (h2 : n < 192) : cont (ub n) = true := by
  unfold cont; rw [ub_nat n (by unfold okb; omega)]; exact decide_eq_true (by omega)
theorem beg_at {b n : Nat} (h : (n = 1 ∧ b < 128) ∨ (n = 2 ∧ 192 ≤ b ∧ b < 224) ∨ (n = 3 ∧ 224 ≤ b ∧ b < 240) ∨ (n = 4 ∧ 240 ≤ b ∧ b < 248)) : begN b = n := by
  unfold begN; (repeat' split) <;> omega
theorem begR_at {b n : Nat} (h : (n = b ∧ b < 128) ∨ (n = b - 192 ∧ 192 ≤ b ∧ b < 224) ∨ (n = b - 224 ∧ 224 ≤ b ∧ b < 240) ∨ (n = b - 240 ∧ 240 ≤ b ∧ b < 248)) : begR b = n := by
  unfold begR; (repeat' split) <;> omega
theorem tk_enc (r : Int) (h : goodB r = true) (m : List UInt8) : tkR ((encI r).map ub ++ m) = r.toNat ∧ tkN ((encI r).map ub ++ m) = (encI r).length ∧ tkN (((encI r).map ub).take ((encI r).length - 1)) = 0 := by
  have hr := of_decide_eq_true h
  have hgN : goodN r.toNat = true := by rw [← goodB_goodN, Int.toNat_of_nonneg hr.1]; exact h
  have ob := enc_bytes r h
  rcases enc_forms r h with ⟨h1, h2, e⟩ | ⟨h1, h2, e⟩ | ⟨h1, h2, e⟩ | ⟨h1, h2, e⟩
  all_goals
    rw [e] at ob ⊢
    simp only [List.mem_cons, List.not_mem_nil, or_false, forall_eq_or_imp, forall_eq] at ob
    simp only [List.map_cons, List.map_nil, List.cons_append, List.nil_append, List.length_cons, List.length_nil]
  · have hv := ub_nat r ob
    have hb : begN (ub r).toNat = 1 := beg_at (Or.inl ⟨rfl, by omega⟩)
    have hR : begR (ub r).toNat = r.toNat := begR_at (Or.inl ⟨by omega, by omega⟩)
    obtain ⟨q1, q2⟩ := tk_yes_of (ub r) m r.toNat 1 hb (by omega) (by omega) (by simp) (by rw [hR]; simp [fol]) hgN (by unfold wdN; rw [if_pos (by omega)])
    exact ⟨q1, q2, rfl⟩
  · have hv := ub_nat _ ob.1
    have hv2 := ub_nat _ ob.2
    have hb : begN (ub (192 + r / 64)).toNat = 2 := beg_at (Or.inr (Or.inl ⟨rfl, by omega, by omega⟩))
    have hR : begR (ub (192 + r / 64)).toNat = (r / 64).toNat := begR_at (Or.inr (Or.inl ⟨by omega, by omega, by omega⟩))
    obtain ⟨q1, q2⟩ := tk_yes_of (ub (192 + r / 64)) (ub (128 + r % 64) :: m) r.toNat 2 hb (by omega) (by simp) (by simp [cont_ub (128 + r % 64) (by omega) (by omega)]) (by rw [hR]; simp [fol, hv2]; omega) hgN (by unfold wdN; rw [if_neg (by omega), if_pos (by omega)])
    exact ⟨q1, q2, tk_shrt _ _ (by rw [hb]; simp)⟩
  · have hv := ub_nat _ ob.1
    have hv2 := ub_nat _ ob.2.1
    have hv3 := ub_nat _ ob.2.2
    have hb : begN (ub (224 + r / 4096)).toNat = 3 := beg_at (Or.inr (Or.inr (Or.inl ⟨rfl, by omega, by omega⟩)))
    have hR : begR (ub (224 + r / 4096)).toNat = (r / 4096).toNat := begR_at (Or.inr (Or.inr (Or.inl ⟨by omega, by omega, by omega⟩)))
    obtain ⟨q1, q2⟩ := tk_yes_of (ub (224 + r / 4096)) (ub (128 + r / 64 % 64) :: ub (128 + r % 64) :: m) r.toNat 3 hb (by omega) (by simp) (by simp [cont_ub (128 + r % 64) (by omega) (by omega), cont_ub (128 + r / 64 % 64) (by omega) (by omega)]) (by rw [hR]; simp [fol, hv2, hv3]; omega) hgN (by unfold wdN; rw [if_neg (by omega), if_neg (by omega), if_pos (by omega)])
    exact ⟨q1, q2, tk_shrt _ _ (by rw [hb]; simp)⟩
  · have hv := ub_nat _ ob.1
    have hv2 := ub_nat _ ob.2.1
    have hv3 := ub_nat _ ob.2.2.1
    have hv4 := ub_nat _ ob.2.2.2
    have hb : begN (ub (240 + r / 262144)).toNat = 4 := beg_at (Or.inr (Or.inr (Or.inr ⟨rfl, by omega, by omega⟩)))
    have hR : begR (ub (240 + r / 262144)).toNat = (r / 262144).toNat := begR_at (Or.inr (Or.inr (Or.inr ⟨by omega, by omega, by omega⟩)))
    obtain ⟨q1, q2⟩ := tk_yes_of (ub (240 + r / 262144)) (ub (128 + r / 4096 % 64) :: ub (128 + r / 64 % 64) :: ub (128 + r % 64) :: m) r.toNat 4 hb (by omega) (by simp) (by simp [cont_ub (128 + r % 64) (by omega) (by omega), cont_ub (128 + r / 64 % 64) (by omega) (by omega), cont_ub (128 + r / 4096 % 64) (by omega) (by omega)]) (by rw [hR]; simp [fol, hv2, hv3, hv4]; omega) hgN (by unfold wdN; rw [if_neg (by omega), if_neg (by omega), if_neg (by omega)])
    exact ⟨q1, q2, tk_shrt _ _ (by rw [hb]; simp)⟩
theorem str_add (xs ys : List Int) : ((strOfNums (xs ++ ys)).toList == (strOfNums xs ++ strOfNums ys).toList) = true := by
  rw [ByteArray.toList_eq, ByteArray.toList_eq]
  simp [strOfNums_data]
theorem str_empty (r : Int) : (strOfNums (enc r)).toList.isEmpty = !goodB r := by
  cases h : goodB r with
  | false => rw [ByteArray.toList_eq, strOfNums_data]; unfold enc; rw [h]; rfl
  | true =>
    rw [str_enc r h]
    rcases enc_forms r h with ⟨-, -, e⟩ | ⟨-, -, e⟩ | ⟨-, -, e⟩ | ⟨-, -, e⟩ <;> rw [e] <;> rfl
/-- what is read of a letter's bytes with more behind them, and of those bytes cut short -/
theorem tk_str (r : Int) (h : goodB r = true) (m : ByteArray) : tkR (strOfNums (enc r) ++ m).data.toList = r.toNat ∧ tkN (strOfNums (enc r) ++ m).data.toList = (enc r).length
    ∧ tkN ((strOfNums (enc r)).extract 0 ((enc r).length - 1)).data.toList = 0 := by
  have hs : (strOfNums (enc r)).data.toList = (encI r).map ub := by rw [← ByteArray.toList_eq]; exact str_enc r h
  have e1 : (strOfNums (enc r) ++ m).data.toList = (encI r).map ub ++ m.data.toList := by rw [← hs]; simp
  have e2 : ((strOfNums (enc r)).extract 0 ((enc r).length - 1)).data.toList = ((encI r).map ub).take ((encI r).length - 1) := by
    rw [← hs, enc_good r h]; simp
  rw [e1, e2, enc_good r h]
  exact tk_enc r h m.data.toList
end Go.Proofs.YtjbccmnmcjmooaaDoor
