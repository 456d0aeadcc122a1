import Derived.Test.YtikdggcdgdokiaaDoorMathUtf
namespace Go.Proofs.YtikdggcdgdokiaaDoor
open Go.RowKit

def ub (n : Int) : UInt8 := UInt8.ofNat n.toNat
def okb (n : Int) : Prop := 0 ≤ n ∧ n < 256
theorem ub_nat (n : Int) (h : okb n) : (ub n).toNat = n.toNat := by
  unfold ub okb at *
  rw [UInt8.toNat_ofNat']
  omega
theorem ub_lt (x y : Int) (hx : okb x) (hy : okb y) : decide (ub x < ub y) = decide (x < y) := by
  have e : (ub x < ub y) ↔ x < y := by
    rw [UInt8.lt_iff_toNat_lt, ub_nat x hx, ub_nat y hy]; unfold okb at hx hy; omega
  exact decide_eq_decide.2 e
theorem ub_inj (x y : Int) (hx : okb x) (hy : okb y) (h : ub x = ub y) : x = y := by
  have h2 := congrArg UInt8.toNat h
  rw [ub_nat x hx, ub_nat y hy] at h2
  unfold okb at hx hy; omega
theorem ub_beq (x y : Int) (hx : okb x) (hy : okb y) : (ub x == ub y) = decide (x = y) := by
  by_cases h : x = y
  · subst h; simp
  · rw [decide_eq_false h, beq_eq_false_iff_ne]
    exact fun e => h (ub_inj x y hx hy e)
theorem less_cons (x y : Int) (xs ys : List UInt8) (hx : okb x) (hy : okb y) : Op.bytesLess (ub x :: xs) (ub y :: ys) = (decide (x < y) || (decide (x = y) && Op.bytesLess xs ys)) := by
  simp only [Op.bytesLess]; rw [ub_lt x y hx hy, ub_beq x y hx hy]
theorem less_ne (x y : Int) (xs ys : List UInt8) (hx : okb x) (hy : okb y) (h : x ≠ y) : Op.bytesLess (ub x :: xs) (ub y :: ys) = decide (x < y) := by
  rw [less_cons x y xs ys hx hy, decide_eq_false h]; simp
theorem less_nil : Op.bytesLess [] [] = false := rfl

/-- the four forms of a letter's bytes -/
theorem enc_forms (r : Int) (h : goodB r = true) :
    (0 ≤ r ∧ r < 128 ∧ encI r = [r]) ∨ (128 ≤ r ∧ r < 2048 ∧ encI r = [192 + r / 64, 128 + r % 64])
    ∨ (2048 ≤ r ∧ r < 65536 ∧ encI r = [224 + r / 4096, 128 + r / 64 % 64, 128 + r % 64])
    ∨ (65536 ≤ r ∧ r ≤ 1114111 ∧ encI r = [240 + r / 262144, 128 + r / 4096 % 64, 128 + r / 64 % 64, 128 + r % 64]) := by
  have hr := of_decide_eq_true h
  unfold encI
  by_cases h1 : r < 128
  · exact Or.inl ⟨by omega, h1, by rw [if_pos h1]⟩
  · by_cases h2 : r < 2048
    · exact Or.inr (Or.inl ⟨by omega, h2, by rw [if_neg h1, if_pos h2]⟩)
    · by_cases h3 : r < 65536
      · exact Or.inr (Or.inr (Or.inl ⟨by omega, h3, by rw [if_neg h1, if_neg h2, if_pos h3]⟩))
      · exact Or.inr (Or.inr (Or.inr ⟨by omega, by omega, by rw [if_neg h1, if_neg h2, if_neg h3]⟩))
theorem enc_bytes (r : Int) (h : goodB r = true) : ∀ x ∈ encI r, okb x := by
  intro x hx
  rcases enc_forms r h with ⟨h1, h2, e⟩ | ⟨h1, h2, e⟩ | ⟨h1, h2, e⟩ | ⟨h1, h2, e⟩
  all_goals
    rw [e] at hx
    simp only [List.mem_cons, List.not_mem_nil, or_false] at hx
    unfold okb
    omega
theorem order_less (a b : Int) (ha : goodB a = true) (hb : goodB b = true) : Op.bytesLess ((encI a).map ub) ((encI b).map ub) = decide (a < b) := by
  have oa := enc_bytes a ha
  have ob := enc_bytes b hb
  rcases enc_forms a ha with ⟨a1, a2, ea⟩ | ⟨a1, a2, ea⟩ | ⟨a1, a2, ea⟩ | ⟨a1, a2, ea⟩ <;> rcases enc_forms b hb with ⟨b1, b2, eb⟩ | ⟨b1, b2, eb⟩ | ⟨b1, b2, eb⟩ | ⟨b1, b2, eb⟩ <;> rw [ea] at oa ⊢ <;> rw [eb] at ob ⊢ <;> simp only [List.map_cons, List.map_nil]
  all_goals simp only [List.mem_cons, List.not_mem_nil, or_false, forall_eq_or_imp, forall_eq] at oa ob
  all_goals first
    | (rw [less_ne _ _ _ _ (by first | exact oa.1 | exact oa) (by first | exact ob.1 | exact ob) (by omega)]; exact decide_eq_decide.2 (by omega))
    | (rw [less_cons _ _ _ _ oa ob, less_nil, Bool.eq_iff_iff]; simp)
    | (rw [less_cons _ _ _ _ oa.1 ob.1, less_cons _ _ _ _ oa.2 ob.2, less_nil, Bool.eq_iff_iff]; simp; omega)
    | (rw [less_cons _ _ _ _ oa.1 ob.1, less_cons _ _ _ _ oa.2.1 ob.2.1, less_cons _ _ _ _ oa.2.2 ob.2.2, less_nil, Bool.eq_iff_iff]; simp; omega)
    | (rw [less_cons _ _ _ _ oa.1 ob.1, less_cons _ _ _ _ oa.2.1 ob.2.1, less_cons _ _ _ _ oa.2.2.1 ob.2.2.1, less_cons _ _ _ _ oa.2.2.2 ob.2.2.2, less_nil, Bool.eq_iff_iff]; simp; omega)
theorem order_take (a b : Int) (ha : goodB a = true) (hb : goodB b = true) (hab : a ≠ b) (n : Nat) (hn : n = (encI a).length ∧ n ≤ (encI b).length ∨ n = (encI b).length ∧ n ≤ (encI a).length) :
    ((encI a).map ub).take n ≠ ((encI b).map ub).take n := by
  have oa := enc_bytes a ha
  have ob := enc_bytes b hb
  have hn1 : 1 ≤ n := by
    rcases enc_forms a ha with ⟨-, -, ea⟩ | ⟨-, -, ea⟩ | ⟨-, -, ea⟩ | ⟨-, -, ea⟩ <;> rcases enc_forms b hb with ⟨-, -, eb⟩ | ⟨-, -, eb⟩ | ⟨-, -, eb⟩ | ⟨-, -, eb⟩ <;> rw [ea, eb] at hn <;> simp only [List.length_cons, List.length_nil] at hn <;> omega
  obtain ⟨m, rfl⟩ : ∃ m, n = m + 1 := ⟨n - 1, by omega⟩
  intro h
  rcases enc_forms a ha with ⟨a1, a2, ea⟩ | ⟨a1, a2, ea⟩ | ⟨a1, a2, ea⟩ | ⟨a1, a2, ea⟩ <;> rcases enc_forms b hb with ⟨b1, b2, eb⟩ | ⟨b1, b2, eb⟩ | ⟨b1, b2, eb⟩ | ⟨b1, b2, eb⟩ <;> rw [ea] at oa hn h <;> rw [eb] at ob hn h
  all_goals simp only [List.mem_cons, List.not_mem_nil, or_false, forall_eq_or_imp, forall_eq, List.length_cons, List.length_nil, List.map_cons, List.map_nil, List.take_succ_cons, List.cons.injEq] at oa ob hn h
  all_goals first
    | (have := ub_inj _ _ (by first | exact oa.1 | exact oa) (by first | exact ob.1 | exact ob) h.1; omega)
    | (obtain rfl : m = 1 := by omega
       simp only [List.take_succ_cons, List.take_zero, List.cons.injEq, and_true] at h
       have h1 := ub_inj _ _ oa.1 ob.1 h.1; have h2 := ub_inj _ _ oa.2 ob.2 h.2; omega)
    | (obtain rfl : m = 2 := by omega
       simp only [List.take_succ_cons, List.take_zero, List.cons.injEq, and_true] at h
       have h1 := ub_inj _ _ oa.1 ob.1 h.1; have h2 := ub_inj _ _ oa.2.1 ob.2.1 h.2.1; have h3 := ub_inj _ _ oa.2.2 ob.2.2 h.2.2; omega)
    | (obtain rfl : m = 3 := by omega
       simp only [List.take_succ_cons, List.take_zero, List.cons.injEq, and_true] at h
       have h1 := ub_inj _ _ oa.1 ob.1 h.1; have h2 := ub_inj _ _ oa.2.1 ob.2.1 h.2.1; have h3 := ub_inj _ _ oa.2.2.1 ob.2.2.1 h.2.2.1; have h4 := ub_inj _ _ oa.2.2.2 ob.2.2.2 h.2.2.2; omega)
theorem enc_good (r : Int) (h : goodB r = true) : enc r = encI r := by unfold enc; rw [h]; rfl
theorem str_enc (r : Int) (h : goodB r = true) : (strOfNums (enc r)).toList = (encI r).map ub := by
  rw [ByteArray.toList_eq, strOfNums_data, enc_good r h]; rfl
theorem str_cut (xs : List Int) (n : Nat) : ((strOfNums xs).extract 0 n).toList = (strOfNums xs).toList.take n := by
  rw [ByteArray.toList_eq, ByteArray.toList_eq]; simp
/-- the two tests of the law on the order of letters -/
theorem order_tests (a b : Int) (ha : goodB a = true) (hb : goodB b = true) (hab : a ≠ b) :
    (decide (a < b) == Op.bytesLess (strOfNums (enc a)).toList (strOfNums (enc b)).toList) = true
    ∧ (∀ n, (n = (enc a).length ∧ n ≤ (enc b).length ∨ n = (enc b).length ∧ n ≤ (enc a).length) → (((strOfNums (enc a)).extract 0 n).toList == ((strOfNums (enc b)).extract 0 n).toList) = false) := by
  refine ⟨by rw [str_enc a ha, str_enc b hb, order_less a b ha hb]; simp, fun n hn => ?_⟩
  rw [str_cut, str_cut, str_enc a ha, str_enc b hb, beq_eq_false_iff_ne]
  rw [enc_good a ha, enc_good b hb] at hn
  exact order_take a b ha hb hab n hn
end Go.Proofs.YtikdggcdgdokiaaDoor
