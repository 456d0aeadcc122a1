/- Plain mathematics: whole numbers' texts are in the numbers' order. -/
import Derived.Test.YtnabdepplpaabaaDoorMathDec7
namespace Go.Proofs.YtnabdepplpaabaaDoor
open Go.RowKit

theorem pval_from (l : List UInt8) (h : l.all isD = true) : ∀ v : Nat, l.foldl (fun v b => if isD b then 10 * v + (b.toNat - 48) else v) v = v * 10 ^ l.length + pval l := by
  induction l with
  | nil => intro v; simp [pval]
  | cons a l ih =>
    intro v
    simp only [List.all_cons, Bool.and_eq_true] at h
    have e1 := ih h.2 (10 * v + (a.toNat - 48))
    have e2 : pval (a :: l) = (10 * 0 + (a.toNat - 48)) * 10 ^ l.length + pval l := by
      conv => lhs; unfold pval; rw [List.foldl_cons, if_pos h.1]
      exact ih h.2 _
    rw [List.foldl_cons, if_pos h.1, e1, e2, List.length_cons, Nat.pow_succ]
    have g1 : (10 * v + (a.toNat - 48)) * 10 ^ l.length = 10 * (v * 10 ^ l.length) + (a.toNat - 48) * 10 ^ l.length := by rw [Nat.add_mul, Nat.mul_assoc]
    have g2 : v * (10 ^ l.length * 10) = 10 * (v * 10 ^ l.length) := by rw [← Nat.mul_assoc, Nat.mul_comm]
    have g3 : (10 * 0 + (a.toNat - 48)) * 10 ^ l.length = (a.toNat - 48) * 10 ^ l.length := by rw [Nat.mul_zero, Nat.zero_add]
    rw [g1, g2, g3]; omega
theorem pval_cons (a : UInt8) (l : List UInt8) (h : (a :: l).all isD = true) : pval (a :: l) = (a.toNat - 48) * 10 ^ l.length + pval l := by
  simp only [List.all_cons, Bool.and_eq_true] at h
  have := pval_from l h.2 (10 * 0 + (a.toNat - 48))
  unfold pval at this ⊢
  rw [List.foldl_cons, if_pos h.1, this, show 10 * 0 + (a.toNat - 48) = a.toNat - 48 by omega]
theorem pval_lt (l : List UInt8) (h : l.all isD = true) : pval l < 10 ^ l.length := by
  induction l with
  | nil => simp [pval]
  | cons a l ih =>
    rw [pval_cons a l h, List.length_cons, Nat.pow_succ]
    simp only [List.all_cons, Bool.and_eq_true] at h
    have h1 := ih h.2
    have h2 := isD_bd h.1
    have h3 : (a.toNat - 48) * 10 ^ l.length ≤ 9 * 10 ^ l.length := Nat.mul_le_mul_right _ (by omega)
    omega
theorem dig_inj (a b : UInt8) (h : a.toNat - 48 = b.toNat - 48) (ha : isD a = true) (hb : isD b = true) : a = b := by
  have h1 := isD_bd ha; have h2 := isD_bd hb; exact UInt8.toNat_inj.1 (by omega)
/-- digits of one length are in the order of what they are worth -/
theorem dig_lt : ∀ (x y : List UInt8), x.length = y.length → x.all isD = true → y.all isD = true → ltB x y = decide (pval x < pval y)
  | [], [], _, _, _ => by simp [ltB_nil, pval]
  | [], _ :: _, h, _, _ => by simp at h
  | _ :: _, [], h, _, _ => by simp at h
  | a :: x, b :: y, h, hx, hy => by
    rw [pval_cons a x hx, pval_cons b y hy, ltB_cons]
    simp only [List.length_cons, Nat.add_right_cancel_iff] at h
    simp only [List.all_cons, Bool.and_eq_true] at hx hy
    have ih := dig_lt x y h hx.2 hy.2
    have h1 := isD_bd hx.1; have h2 := isD_bd hy.1
    have p1 := pval_lt x hx.2; have p2 := pval_lt y hy.2
    rw [h] at p1 ⊢
    rw [ih]
    rcases u8_tri a b with g | g | g
    · have g' : a.toNat < b.toNat := g
      have : (a.toNat - 48 + 1) * 10 ^ y.length ≤ (b.toNat - 48) * 10 ^ y.length := Nat.mul_le_mul_right _ (by omega)
      rw [Nat.add_mul] at this
      have hlt : (a.toNat - 48) * 10 ^ y.length + pval x < (b.toNat - 48) * 10 ^ y.length + pval y := by omega
      simp [g, hlt]
    · subst g; simp
    · have g' : b.toNat < a.toNat := g
      have : (b.toNat - 48 + 1) * 10 ^ y.length ≤ (a.toNat - 48) * 10 ^ y.length := Nat.mul_le_mul_right _ (by omega)
      rw [Nat.add_mul] at this
      have hlt : ¬ (a.toNat - 48) * 10 ^ y.length + pval x < (b.toNat - 48) * 10 ^ y.length + pval y := by omega
      have n1 := u8_asym b a g
      simp only [hlt, decide_false]
      have : ¬ a = b := fun e => n1.2 e.symm
      simp [n1.1, this]
theorem rst_zero (x : List UInt8) (a : UInt8) (h : a.toNat = 48) : rst (a :: x) = if rst x = [] then [] else a :: rst x := by
  have h0 : is0 a = true := by simp [is0, h]
  have e : ∀ z : List UInt8, (z ++ [a]).dropWhile is0 = if z.dropWhile is0 = [] then [] else z.dropWhile is0 ++ [a] := by
    intro z
    induction z with
    | nil => simp [h0]
    | cons b z ih =>
      by_cases hb : is0 b = true
      · rw [List.cons_append, List.dropWhile_cons, if_pos hb, List.dropWhile_cons, if_pos hb]; exact ih
      · rw [List.cons_append, List.dropWhile_cons, if_neg hb, List.dropWhile_cons, if_neg hb]; simp
  unfold rst; rw [List.reverse_cons, e]
  by_cases g : List.dropWhile is0 x.reverse = [] <;> simp [g]
/-- noughts at the end do not count in the order of digits of one length -/
theorem rst_lt : ∀ (x y : List UInt8), x.length = y.length → x.all isD = true → y.all isD = true → ltB (rst x) (rst y) = ltB x y
  | [], [], _, _, _ => rfl
  | [], _ :: _, h, _, _ => by simp at h
  | _ :: _, [], h, _, _ => by simp at h
  | a :: x, b :: y, h, hx, hy => by
    simp only [List.length_cons, Nat.add_right_cancel_iff] at h
    simp only [List.all_cons, Bool.and_eq_true] at hx hy
    have ih := rst_lt x y h hx.2 hy.2
    have h1 := isD_bd hx.1; have h2 := isD_bd hy.1
    by_cases ha : a.toNat = 48 <;> by_cases hb : b.toNat = 48
    · have hab : a = b := UInt8.toNat_inj.1 (by omega)
      subst hab
      rw [rst_zero x a ha, rst_zero y a ha, ltB_cons, ← ih]
      by_cases ex : rst x = [] <;> by_cases ey : rst y = [] <;> simp only [ex, ey, if_true, if_false]
      · simp [ltB_nil]
      · have : ltB [] (rst y) = true := by
          cases hr : rst y with
          | nil => exact absurd hr ey
          | cons => rfl
        rw [this]; simp; rfl
      · simp [ltB_nil]
      · rw [ltB_cons]
    · rw [rst_zero x a ha, rst_cons b y hb, ltB_cons]
      have hlt : a < b := by show a.toNat < b.toNat; omega
      by_cases ex : rst x = [] <;> simp only [ex, if_true, if_false]
      · simp [hlt]; rfl
      · rw [ltB_cons]; simp [hlt]
    · rw [rst_cons a x ha, rst_zero y b hb, ltB_cons]
      have hlt : b < a := by show b.toNat < a.toNat; omega
      have n1 := u8_asym b a hlt
      have n2 : ¬ a = b := fun e => n1.2 e.symm
      by_cases ey : rst y = [] <;> simp only [ey, if_true, if_false]
      · simp [ltB_nil, n1.1, n2]
      · have n3 : (a == b) = false := by simpa using n2
        rw [ltB_cons]; simp [n1.1, n3]
    · rw [rst_cons a x ha, rst_cons b y hb, ltB_cons, ltB_cons, ih]
theorem natD_bounds (m : Nat) (h : 0 < m) : 10 ^ ((natD m).length - 1) ≤ m ∧ m < 10 ^ (natD m).length := by
  have hv := natD_val m
  have ha := natD_all m
  have hf := natD_first m h
  have hl := pval_lt _ ha
  rw [hv] at hl
  refine ⟨?_, hl⟩
  obtain ⟨a, t, e, hd⟩ := natD_head m
  rw [e] at hv ha hf ⊢
  rw [pval_cons a t ha] at hv
  have := isD_bd hd
  have hf' : ¬ a.toNat = 48 := by simpa using hf
  have h1 : 1 * 10 ^ t.length ≤ (a.toNat - 48) * 10 ^ t.length := Nat.mul_le_mul_right _ (by omega)
  rw [List.length_cons, Nat.add_sub_cancel]; omega
/-- natural numbers' digits: shorter, or as long and ahead, just if less -/
theorem natD_less (m k : Nat) (hm : 0 < m) (hk : 0 < k) : lessB (rst (natD m)) (((natD m).length : Int) - 1) (rst (natD k)) (((natD k).length : Int) - 1) = decide (m < k) := by
  obtain ⟨a1, a2⟩ := natD_bounds m hm
  obtain ⟨b1, b2⟩ := natD_bounds k hk
  have l1 : 0 < (natD m).length := List.length_pos_iff.2 (natD_ne m)
  have l2 : 0 < (natD k).length := List.length_pos_iff.2 (natD_ne k)
  unfold lessB
  rcases Nat.lt_trichotomy (natD m).length (natD k).length with h | h | h
  · have : 10 ^ (natD m).length ≤ 10 ^ ((natD k).length - 1) := Nat.pow_le_pow_right (by omega) (by omega)
    have hlt : m < k := by omega
    have h' : ((natD m).length : Int) - 1 < ((natD k).length : Int) - 1 := by omega
    simp [h', hlt]
  · rw [rst_lt _ _ h (natD_all m) (natD_all k), dig_lt _ _ h (natD_all m) (natD_all k), natD_val, natD_val, h]
    simp
  · have : 10 ^ (natD k).length ≤ 10 ^ ((natD m).length - 1) := Nat.pow_le_pow_right (by omega) (by omega)
    have hlt : ¬ m < k := by omega
    have h1 : ¬ ((natD m).length : Int) - 1 < ((natD k).length : Int) - 1 := by omega
    have h2 : ¬ ((natD m).length : Int) - 1 = ((natD k).length : Int) - 1 := by omega
    simp [h1, h2, hlt]
def ordI (a b : Int) : Int := if a < b then -1 else if a > b then 1 else 0
theorem ints_sc (n : Int) (hn : -9223372036854775808 ≤ n ∧ n < 9223372036854775808) (h0 : ¬ n = 0) :
    scN (txt n) = decide (n < 0) ∧ scD (txt n) = rst (natD (mag n)) ∧ scT (txt n) = ((natD (mag n)).length : Int) - 1 := by
  obtain ⟨_, x1, x2, x3, x4⟩ := text_bare n hn
  obtain ⟨p1, p2, p3⟩ := sc_of x1 x2 x3 x4 (natD_ne _) (natD_first _ (by unfold mag; omega))
  exact ⟨p1, by rw [p2, List.append_nil], by rw [p3, pwV_nil]; omega⟩
theorem ints_zero : scN (txt 0) = false ∧ scD (txt 0) = [] ∧ scT (txt 0) = 0 := by decide +kernel
theorem natD_rst (n : Int) (h0 : ¬ n = 0) : ¬ rst (natD (mag n)) = [] := rst_ne _ (natD_ne _) (natD_first _ (by unfold mag; omega))
theorem sg_of (n : Int) (hn : -9223372036854775808 ≤ n ∧ n < 9223372036854775808) : sgI (scN (txt n)) (scD (txt n)) = if n < 0 then -1 else if n = 0 then 0 else 1 := by
  by_cases h0 : n = 0
  · subst h0; rw [ints_zero.1, ints_zero.2.1]; decide
  · obtain ⟨p1, p2, _⟩ := ints_sc n hn h0
    unfold sgI; rw [p1, p2, if_neg (natD_rst n h0)]
    by_cases h : n < 0 <;> simp [h, h0]
theorem ints_cmp (a b : Int) (ha : -9223372036854775808 ≤ a ∧ a < 9223372036854775808) (hb : -9223372036854775808 ≤ b ∧ b < 9223372036854775808) : cmpI (txt a) (txt b) = ordI a b := by
  have na := (text_bare a ha).1
  have nb := (text_bare b hb).1
  have ga := sg_of a ha
  have gb := sg_of b hb
  by_cases hab : a = b
  · subst hab; rw [(cmp_zero _ _ na nb).2 ⟨rfl, rfl, rfl⟩]; unfold ordI; simp
  · rw [cmp_tri _ _ na nb]
    unfold ordI
    rcases tcmp_cases (tri_of (txt a)) (tri_of (txt b)) with ⟨c1, c2, c3, _⟩ | ⟨_, h, hc⟩ | ⟨_, h, hc⟩
    · exfalso
      have hs : sgI (scN (txt a)) (scD (txt a)) = sgI (scN (txt b)) (scD (txt b)) := by rw [c1, c2]
      rw [ga, gb] at hs
      by_cases a0 : a = 0
      · subst a0; have : b = 0 := by (repeat' split at hs) <;> omega
        exact hab this.symm
      · by_cases b0 : b = 0
        · subst b0; (repeat' split at hs) <;> omega
        · obtain ⟨_, p2, p3⟩ := ints_sc a ha a0
          obtain ⟨_, q2, q3⟩ := ints_sc b hb b0
          have l1 := natD_less (mag a) (mag b) (by unfold mag; omega) (by unfold mag; omega)
          have l2 := natD_less (mag b) (mag a) (by unfold mag; omega) (by unfold mag; omega)
          rw [← p2, ← q2, ← p3, ← q3, c2, c3] at l1 l2
          rw [l1] at l2
          simp only [decide_eq_decide] at l2
          have hm : mag a = mag b := by omega
          unfold mag at hm
          (repeat' split at hs) <;> omega
    · rw [h]
      rcases hc with hc | ⟨c1, c2, hc⟩ | ⟨c1, c2, hc⟩
      · rw [ga, gb] at hc
        have : a < b := by (repeat' split at hc) <;> omega
        rw [if_pos this]
      · rw [ga] at c1
        rw [gb] at c2
        have a0 : 0 < a := by (repeat' split at c1) <;> omega
        have b0 : 0 < b := by (repeat' split at c2) <;> omega
        obtain ⟨_, p2, p3⟩ := ints_sc a ha (by omega)
        obtain ⟨_, q2, q3⟩ := ints_sc b hb (by omega)
        rw [p2, p3, q2, q3, natD_less _ _ (by unfold mag; omega) (by unfold mag; omega)] at hc
        have hm : mag a < mag b := of_decide_eq_true hc
        unfold mag at hm
        rw [if_pos (show a < b by omega)]
      · rw [ga] at c1
        rw [gb] at c2
        have a0 : a < 0 := by (repeat' split at c1) <;> omega
        have b0 : b < 0 := by (repeat' split at c2) <;> omega
        obtain ⟨_, p2, p3⟩ := ints_sc a ha (by omega)
        obtain ⟨_, q2, q3⟩ := ints_sc b hb (by omega)
        rw [p2, p3, q2, q3, natD_less _ _ (by unfold mag; omega) (by unfold mag; omega)] at hc
        have hm : mag b < mag a := of_decide_eq_true hc
        unfold mag at hm
        rw [if_pos (show a < b by omega)]
    · rw [h]
      have key : b < a := by
        rcases hc with hc | ⟨c1, c2, hc⟩ | ⟨c1, c2, hc⟩
        · rw [ga, gb] at hc
          (repeat' split at hc) <;> omega
        · rw [ga] at c1
          rw [gb] at c2
          have a0 : 0 < a := by (repeat' split at c1) <;> omega
          have b0 : 0 < b := by (repeat' split at c2) <;> omega
          obtain ⟨_, p2, p3⟩ := ints_sc a ha (by omega)
          obtain ⟨_, q2, q3⟩ := ints_sc b hb (by omega)
          rw [p2, p3, q2, q3, natD_less _ _ (by unfold mag; omega) (by unfold mag; omega)] at hc
          have hm : mag b < mag a := of_decide_eq_true hc
          unfold mag at hm; omega
        · rw [ga] at c1
          rw [gb] at c2
          have a0 : a < 0 := by (repeat' split at c1) <;> omega
          have b0 : b < 0 := by (repeat' split at c2) <;> omega
          obtain ⟨_, p2, p3⟩ := ints_sc a ha (by omega)
          obtain ⟨_, q2, q3⟩ := ints_sc b hb (by omega)
          rw [p2, p3, q2, q3, natD_less _ _ (by unfold mag; omega) (by unfold mag; omega)] at hc
          have hm : mag a < mag b := of_decide_eq_true hc
          unfold mag at hm; omega
      rw [if_neg (by omega), if_pos key]
theorem ints_int (n : Int) (hn : -9223372036854775808 ≤ n ∧ n < 9223372036854775808) : intB (txt n) = true ∧ intV (txt n) = n ∧ wholeB (txt n) = true := by
  obtain ⟨x0, x1, x2, x3, x4⟩ := text_bare n hn
  have hne : ¬ txt n = [45, 48] := by
    intro hc
    by_cases h : n < 0
    · rw [txt_form] at hc
      simp only [h, decide_true, if_true, List.cons_append, List.nil_append, List.cons.injEq, true_and] at hc
      have := natD_first (mag n) (by unfold mag; omega)
      rw [hc] at this; exact this rfl
    · have hd := congrArg pNeg hc
      rw [x1] at hd
      have : decide (n < 0) = true := hd.trans (by decide)
      exact h (of_decide_eq_true this)
  have hB : intB (txt n) = true := by
    unfold intB; rw [x0, x1, x2, x3, x4, natD_val]
    by_cases h : n < 0
    · simp [h, hne]; unfold mag; omega
    · simp [h, hne]; unfold mag; omega
  refine ⟨hB, ?_, ?_⟩
  · unfold intV; rw [hB, if_pos rfl, x1, x2, natD_val]
    by_cases h : n < 0
    · simp only [h, decide_true, if_true]; unfold mag; omega
    · simp only [h, decide_false]; unfold mag; simp; omega
  · unfold wholeB; rw [x0]
    by_cases h0 : n = 0
    · subst h0; rw [ints_zero.2.1]; rfl
    · obtain ⟨_, p2, p3⟩ := ints_sc n hn h0
      have := rst_len (natD (mag n))
      rw [p2, p3]; simp; right; omega
/-- the same number, with a dot and noughts, with a power of nought, with one power in two ways -/
theorem ints_same (n : Int) (hn : -9223372036854775808 ≤ n ∧ n < 9223372036854775808) :
    cmpI (txt n) (txt n ++ [46, 48, 48]) = 0 ∧ cmpI (txt n ++ [101, 48]) (txt n) = 0 ∧ cmpI (txt n ++ [46, 53, 101, 49]) (txt n ++ [46, 53, 69, 43, 49]) = 0 := by
  obtain ⟨x0, x1, x2, x3, x4⟩ := text_bare n hn
  obtain ⟨y0, y1, y2, y3, y4⟩ := text_dot n [48, 48] [] hn (by decide) (by simp) (Or.inl rfl) (by decide) (by simp) (txt n ++ [46, 48, 48]) (by simp)
  have hp : txt 0 = [48] := by decide +kernel
  obtain ⟨z0, z1, z2, z3, z4⟩ := text_e n 0 101 (by decide) hn (by omega) (txt n ++ [101, 48]) (by rw [hp])
  have t1 : Tail [101, 49] := Or.inr ⟨101, [49], rfl, by decide, by decide, by decide⟩
  have t2 : Tail [69, 43, 49] := Or.inr ⟨69, [43, 49], rfl, by decide, by decide, by decide⟩
  obtain ⟨u0, u1, u2, u3, u4⟩ := text_dot n [53] [101, 49] hn (by decide) (by simp) t1 (by decide) (by simp) (txt n ++ [46, 53, 101, 49]) (by simp)
  obtain ⟨v0, v1, v2, v3, v4⟩ := text_dot n [53] [69, 43, 49] hn (by decide) (by simp) t2 (by decide) (by simp) (txt n ++ [46, 53, 69, 43, 49]) (by simp)
  refine ⟨?_, ?_, ?_⟩
  · by_cases h0 : n = 0
    · subst h0; rw [hp]; decide +kernel
    · obtain ⟨p1, p2, p3⟩ := sc_of x1 x2 x3 x4 (natD_ne _) (natD_first _ (by unfold mag; omega))
      obtain ⟨q1, q2, q3⟩ := sc_of y1 y2 y3 y4 (natD_ne _) (natD_first _ (by unfold mag; omega))
      exact (cmp_zero _ _ x0 y0).2 ⟨by rw [p1, q1], by rw [p2, q2, List.append_nil]; exact (rst_zeros _ 2).symm, by rw [p3, q3]; rfl⟩
  · by_cases h0 : n = 0
    · subst h0; rw [hp]; decide +kernel
    · obtain ⟨p1, p2, p3⟩ := sc_of x1 x2 x3 x4 (natD_ne _) (natD_first _ (by unfold mag; omega))
      obtain ⟨q1, q2, q3⟩ := sc_of z1 z2 z3 z4 (natD_ne _) (natD_first _ (by unfold mag; omega))
      exact (cmp_zero _ _ z0 x0).2 ⟨by rw [p1, q1], by rw [p2, q2], by rw [p3, q3, hp, show pwV [48] = pwV [] by decide]⟩
  · refine (cmp_zero _ _ u0 v0).2 ⟨?_, ?_, ?_⟩
    · unfold scN scD; rw [u1, u2, u3, v1, v2, v3]
    · unfold scD; rw [u2, u3, v2, v3]
    · unfold scT scD; rw [u2, u3, u4, v2, v3, v4]; rfl
end Go.Proofs.YtnabdepplpaabaaDoor
