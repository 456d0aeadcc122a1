/- Plain mathematics: a whole number's digits, and a number's one form: two that are written alike are one. -/
import Derived.Test.YtnabdepplpaabaaDoorMathDec3
namespace Go.Proofs.YtnabdepplpaabaaDoor
open Go.RowKit

theorem natD_lo (n : Nat) (h : n < 10) : natD n = [UInt8.ofNat (48 + n)] := by rw [natD, if_pos h]
theorem natD_hi (n : Nat) (h : ¬ n < 10) : natD n = natD (n / 10) ++ [UInt8.ofNat (48 + n % 10)] := by rw [natD, if_neg h]
theorem dig_byte (n : Nat) (h : n < 10) : isD (UInt8.ofNat (48 + n)) = true ∧ (UInt8.ofNat (48 + n)).toNat = 48 + n := by
  have e : (UInt8.ofNat (48 + n)).toNat = 48 + n := by
    rw [UInt8.toNat_ofNat']; exact Nat.mod_eq_of_lt (by omega)
  exact ⟨by unfold isD; rw [e]; simp; omega, e⟩
theorem natD_all (n : Nat) : (natD n).all isD = true := by
  induction n using Nat.strongRecOn with
  | _ n ih =>
    by_cases h : n < 10
    · rw [natD_lo n h, List.all_cons, (dig_byte n h).1]; rfl
    · rw [natD_hi n h, List.all_append, ih (n / 10) (by omega), List.all_cons, (dig_byte (n % 10) (by omega)).1]; rfl
theorem natD_val (n : Nat) : pval (natD n) = n := by
  induction n using Nat.strongRecOn with
  | _ n ih =>
    by_cases h : n < 10
    · have := dig_byte n h; rw [natD_lo n h]; show (if isD _ then _ else _) = _; rw [if_pos this.1, this.2]; omega
    · have := dig_byte (n % 10) (by omega)
      rw [natD_hi n h, pval_snoc, ih (n / 10) (by omega), if_pos this.1, this.2]; omega
theorem natD_ne (n : Nat) : ¬ natD n = [] := by
  by_cases h : n < 10
  · rw [natD_lo n h]; simp
  · rw [natD_hi n h]; simp
theorem natD_first (n : Nat) (h0 : 0 < n) : ¬ ((natD n).getD 0 0).toNat = 48 := by
  induction n using Nat.strongRecOn with
  | _ n ih =>
    by_cases h : n < 10
    · rw [natD_lo n h]; have := (dig_byte n h).2; simp only [List.getD_cons_zero]; omega
    · have h1 := ih (n / 10) (by omega) (by omega)
      rw [natD_hi n h]
      cases hd : natD (n / 10) with
      | nil => exact absurd hd (natD_ne _)
      | cons a t => rw [hd] at h1; simpa using h1
theorem natD_inj (m n : Nat) (h : natD m = natD n) : m = n := by rw [← natD_val m, ← natD_val n, h]
theorem isD_of_all {l : List UInt8} (h : l.all isD = true) {b : UInt8} (hb : b ∈ l) : isD b = true := List.all_eq_true.1 h b hb
theorem dig_not (b : UInt8) (h : isD b = true) (c : UInt8) (hc : c.toNat < 48 ∨ 57 < c.toNat) : ¬ b = c := by
  intro e; have := isD_bd h; rw [e] at this; omega
theorem natD_head (n : Nat) : ∃ a t, natD n = a :: t ∧ isD a = true := by
  cases hd : natD n with
  | nil => exact absurd hd (natD_ne n)
  | cons a t => exact ⟨a, t, rfl, isD_of_all (natD_all n) (by rw [hd]; simp)⟩
theorem txt_inj (m n : Int) (h : txt m = txt n) : m = n := by
  unfold txt at h
  obtain ⟨a, t, e1, d1⟩ := natD_head m.toNat
  obtain ⟨b, u, e2, d2⟩ := natD_head n.toNat
  by_cases hm : m < 0 <;> by_cases hn : n < 0
  · rw [if_pos hm, if_pos hn] at h
    have := natD_inj _ _ (List.cons.inj h).2; omega
  · rw [if_pos hm, if_neg hn, e2] at h
    exact absurd (List.cons.inj h).1.symm (dig_not _ d2 45 (by decide))
  · rw [if_neg hm, if_pos hn, e1] at h
    exact absurd (List.cons.inj h).1 (dig_not _ d1 45 (by decide))
  · rw [if_neg hm, if_neg hn] at h
    have := natD_inj _ _ h; omega
theorem tw_all (x : List UInt8) : (x.takeWhile isD).all isD = true := List.all_takeWhile
theorem pF_all (l : List UInt8) : (pF l).all isD = true := by unfold pF; split; exact tw_all _; rfl
theorem sub_all {x y : List UInt8} (h : x.Sublist y) (g : y.all isD = true) : x.all isD = true :=
  List.all_eq_true.2 fun _ hb => isD_of_all g (h.subset hb)
theorem rst_sub (l : List UInt8) : (rst l).Sublist l := by
  unfold rst
  have := (List.dropWhile_sublist is0 (l := l.reverse)).reverse
  rwa [List.reverse_reverse] at this
theorem scD_all (l : List UInt8) : (scD l).all isD = true := by
  have h1 : (pW l ++ pF l).all isD = true := by rw [List.all_append, show (pW l).all isD = true from tw_all _, pF_all]; rfl
  exact sub_all ((rst_sub _).trans (List.dropWhile_sublist is0)) h1
theorem lst_first (l : List UInt8) : lst l = [] ∨ ∃ a t, lst l = a :: t ∧ ¬ a.toNat = 48 := by
  induction l with
  | nil => exact Or.inl rfl
  | cons b l ih =>
    by_cases h : b.toNat = 48
    · rw [(lz_cons b l h).2]; exact ih
    · rw [(lz_stop b l h).2]; exact Or.inr ⟨b, l, rfl, h⟩
theorem rst_cons (a : UInt8) (t : List UInt8) (h : ¬ a.toNat = 48) : rst (a :: t) = a :: rst t := by
  have h0 : is0 a = false := by simp [is0, h]
  have e : ∀ x : List UInt8, (x ++ [a]).dropWhile is0 = x.dropWhile is0 ++ [a] := by
    intro x
    induction x with
    | nil => simp [h0]
    | cons b x ih =>
      by_cases hb : is0 b = true
      · rw [List.cons_append, List.dropWhile_cons, if_pos hb, List.dropWhile_cons, if_pos hb]; exact ih
      · rw [List.cons_append, List.dropWhile_cons, if_neg hb, List.dropWhile_cons, if_neg hb]; rfl
  unfold rst; rw [List.reverse_cons, e]; simp
theorem scD_first (l : List UInt8) (h : ¬ scD l = []) : ∃ a t, scD l = a :: t ∧ ¬ a.toNat = 48 ∧ isD a = true := by
  rcases lst_first (pW l ++ pF l) with e | ⟨a, t, e, ha⟩
  · exfalso; apply h; unfold scD; rw [e]; rfl
  · have e2 : scD l = a :: rst t := by unfold scD; rw [e, rst_cons a t ha]
    exact ⟨a, rst t, e2, ha, isD_of_all (scD_all l) (by rw [e2]; simp)⟩
/-- the digits with a dot behind the first -/
def dotD (d : List UInt8) : List UInt8 := d.take 1 ++ (if 1 < d.length then 46 :: d.drop 1 else [])
theorem dotD_inj (d e : List UInt8) (hd : ¬ d = []) (he : ¬ e = []) (h : dotD d = dotD e) : d = e := by
  rcases d with _ | ⟨a, x⟩
  · exact absurd rfl hd
  · rcases e with _ | ⟨b, y⟩
    · exact absurd rfl he
    · unfold dotD at h
      simp only [List.take_succ_cons, List.take_zero, List.cons_append, List.nil_append, List.length_cons, List.drop_succ_cons, List.drop_zero] at h
      have h1 := (List.cons.inj h).1
      have h2 := (List.cons.inj h).2
      rw [h1]
      rcases x with _ | ⟨c, x⟩ <;> rcases y with _ | ⟨f, y⟩
      · rfl
      · simp at h2
      · simp at h2
      · simp at h2; rw [h2.1, h2.2]
theorem dotD_no (d : List UInt8) (h : d.all isD = true) : ∀ b ∈ dotD d, ¬ b = 101 := by
  intro b hb
  unfold dotD at hb
  rcases List.mem_append.1 hb with g | g
  · exact dig_not b (isD_of_all h (List.mem_of_mem_take g)) 101 (by decide)
  · split at g
    · rcases List.mem_cons.1 g with g | g
      · rw [g]; decide
      · exact dig_not b (isD_of_all h (List.mem_of_mem_drop g)) 101 (by decide)
    · simp at g
/-- two texts with no e, each with nothing or an e behind: each is told by the whole -/
theorem split_e (x y s t : List UInt8) (hx : ∀ b ∈ x, ¬ b = 101) (hy : ∀ b ∈ y, ¬ b = 101) (hs : s = [] ∨ ∃ u, s = 101 :: u) (ht : t = [] ∨ ∃ u, t = 101 :: u) (h : x ++ s = y ++ t) : x = y ∧ s = t := by
  induction x generalizing y with
  | nil =>
    rcases y with _ | ⟨b, y⟩
    · exact ⟨rfl, by simpa using h⟩
    · exfalso
      rcases hs with rfl | ⟨u, rfl⟩
      · simp at h
      · simp at h; exact hy b (by simp) h.1.symm
  | cons a x ih =>
    rcases y with _ | ⟨b, y⟩
    · exfalso
      rcases ht with rfl | ⟨u, rfl⟩
      · simp at h
      · simp at h; exact hx a (by simp) h.1
    · simp only [List.cons_append, List.cons.injEq] at h
      have := ih y (fun c hc => hx c (List.mem_cons_of_mem _ hc)) (fun c hc => hy c (List.mem_cons_of_mem _ hc)) h.2
      exact ⟨by rw [h.1, this.1], this.2⟩
theorem canC_form (l : List UInt8) : canC l = (if scN l then [45] else []) ++ (dotD (scD l) ++ (if scT l = 0 then [] else 101 :: txt (scT l))) := by
  unfold canC canB canA dotD
  cases scN l <;> by_cases h : scT l = 0 <;> simp [h]
theorem canV_inj (a b : List UInt8) (ha : numB a = true) (hb : numB b = true) (h : canV a = canV b) : scN a = scN b ∧ scD a = scD b ∧ scT a = scT b := by
  unfold canV at h
  rw [ha, hb, if_pos rfl, if_pos rfl] at h
  by_cases h1 : scD a = [] <;> by_cases h2 : scD b = []
  · exact ⟨by rw [(tri_of a h1).1, (tri_of b h2).1], by rw [h1, h2], by rw [(tri_of a h1).2, (tri_of b h2).2]⟩
  · exfalso
    rw [if_pos h1, if_neg h2, canC_form] at h
    obtain ⟨c, t, e, hc, hd⟩ := scD_first b h2
    rw [e] at h
    cases hq : scN b <;> rw [hq] at h <;> simp [dotD] at h
    exact hc (by rw [← h.1]; rfl)
  · exfalso
    rw [if_neg h1, if_pos h2, canC_form] at h
    obtain ⟨c, t, e, hc, hd⟩ := scD_first a h1
    rw [e] at h
    cases hq : scN a <;> rw [hq] at h <;> simp [dotD] at h
    exact hc (by rw [h.1]; rfl)
  · rw [if_neg h1, if_neg h2, canC_form, canC_form] at h
    obtain ⟨c, t, e, hc, hd⟩ := scD_first a h1
    obtain ⟨c', t', e', hc', hd'⟩ := scD_first b h2
    have hn : scN a = scN b := by
      cases ha' : scN a <;> cases hb' : scN b
      · rfl
      · exfalso; rw [ha', hb', e] at h; simp [dotD] at h; exact dig_not _ hd 45 (by decide) h.1
      · exfalso; rw [ha', hb', e'] at h; simp [dotD] at h; exact dig_not _ hd' 45 (by decide) h.1.symm
      · rfl
    rw [hn] at h
    have h' := List.append_cancel_left h
    have hse : ∀ n : Int, (if n = 0 then ([] : List UInt8) else 101 :: txt n) = [] ∨ ∃ u, (if n = 0 then ([] : List UInt8) else 101 :: txt n) = 101 :: u := by
      intro n; by_cases hn : n = 0
      · left; rw [if_pos hn]
      · right; exact ⟨txt n, by rw [if_neg hn]⟩
    have hs := split_e _ _ _ _ (dotD_no _ (scD_all a)) (dotD_no _ (scD_all b)) (hse _) (hse _) h'
    refine ⟨hn, dotD_inj _ _ h1 h2 hs.1, ?_⟩
    have g := hs.2
    by_cases za : scT a = 0 <;> by_cases zb : scT b = 0
    · rw [za, zb]
    · rw [if_pos za, if_neg zb] at g; cases g
    · rw [if_neg za, if_pos zb] at g; cases g
    · rw [if_neg za, if_neg zb] at g; exact txt_inj _ _ (List.cons.inj g).2
theorem canV_eq (a b : List UInt8) (ha : numB a = true) (hb : numB b = true) : (canV a = canV b) ↔ cmpI a b = 0 := by
  refine ⟨fun h => (cmp_zero a b ha hb).2 (canV_inj a b ha hb h), fun h => ?_⟩
  obtain ⟨h1, h2, h3⟩ := (cmp_zero a b ha hb).1 h
  unfold canV canC canB canA; rw [ha, hb, h1, h2, h3]
end Go.Proofs.YtnabdepplpaabaaDoor
