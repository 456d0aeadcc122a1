import Derived.Test.YtikdggcdgdokiaaDoorMathOrder
namespace Go.Proofs.YtikdggcdgdokiaaDoor
open Go.RowKit

theorem tk_yes_of (a : UInt8) (t : List UInt8) (F n : Nat) (hn : begN a.toNat = n) (h0 : n ≠ 0) (hl : n ≤ t.length + 1) (hc : (t.take (n - 1)).all cont = true)
    (hF : fol (begR a.toNat) (t.take (n - 1)) = F) (hg : goodN F = true) (hw : wdN F = n) : tkR (a :: t) = F ∧ tkN (a :: t) = n := by
  have hk : tkOk a t = true := by
    unfold tkOk; rw [hn, hF, hc, hg, hw, decide_eq_true (show n ≠ 0 ∧ n ≤ t.length + 1 from ⟨h0, hl⟩)]; simp
  simp only [tkR, tkN, hk, if_true, hn, hF]
  exact ⟨trivial, trivial⟩
theorem tk_short (a : UInt8) (t : List UInt8) (h : t.length + 1 < begN a.toNat) : tkN (a :: t) = 0 := by
  have hk : tkOk a t = false := by unfold tkOk; rw [decide_eq_false (by omega)]; rfl
  simp only [tkN, hk]; rfl
theorem ub_val (n : Int) (h : okb n) : (ub n).toNat = n.toNat := ub_nat n h
theorem cont_ub (n : Int) (h1 : 128 ≤ n) (h2 : n < 192) : cont (ub n) = true := by
  unfold cont; rw [ub_nat n (by unfold okb; omega)]; exact decide_eq_true (by omega)
theorem beg_at {b n : Nat} (h : (n = 1 ∧ b < 128) ∨ (n = 2 ∧ 192 ≤ b ∧ b < 224) ∨ (n = 3 ∧ 224 ≤ b ∧ b < 240) ∨ (n = 4 ∧ 240 ≤ b ∧ b < 248)) : begN b = n := by
  unfold begN; (repeat' split) <;> omega
theorem begR_at {b n : Nat} (h : (n = b ∧ b < 128) ∨ (n = b - 192 ∧ 192 ≤ b ∧ b < 224) ∨ (n = b - 224 ∧ 224 ≤ b ∧ b < 240) ∨ (n = b - 240 ∧ 240 ≤ b ∧ b < 248)) : begR b = n := by
  unfold begR; (repeat' split) <;> omega
theorem tk_enc (r : Int) (h : goodB r = true) (m : List UInt8) : tkR ((encI r).map ub ++ m) = r.toNat ∧ tkN ((encI r).map ub ++ m) = (encI r).length ∧ tkN (((encI r).map ub).take ((encI r).length - 1)) = 0 := by
  have hr := of_decide_eq_true h
  have hgN : goodN r.toNat = true := by rw [← goodB_goodN, Int.toNat_of_nonneg hr.1]; exact h
  have ob := enc_bytes r h
  rcases enc_forms r h with ⟨h1, h2, e⟩ | ⟨h1, h2, e⟩ | ⟨h1, h2, e⟩ | ⟨h1, h2, e⟩
  all_goals
    rw [e] at ob ⊢
    simp only [List.mem_cons, List.not_mem_nil, or_false, forall_eq_or_imp, forall_eq] at ob
    simp only [List.map_cons, List.map_nil, List.cons_append, List.nil_append, List.length_cons, List.length_nil]
  · have hv := ub_nat r ob
    have hb : begN (ub r).toNat = 1 := beg_at (Or.inl ⟨rfl, by omega⟩)
    have hR : begR (ub r).toNat = r.toNat := begR_at (Or.inl ⟨by omega, by omega⟩)
    obtain ⟨q1, q2⟩ := tk_yes_of (ub r) m r.toNat 1 hb (by omega) (by omega) (by simp) (by rw [hR]; simp [fol]) hgN (by unfold wdN; rw [if_pos (by omega)])
    exact ⟨q1, q2, rfl⟩
  · have hv := ub_nat _ ob.1
    have hv2 := ub_nat _ ob.2
    have hb : begN (ub (192 + r / 64)).toNat = 2 := beg_at (Or.inr (Or.inl ⟨rfl, by omega, by omega⟩))
    have hR : begR (ub (192 + r / 64)).toNat = (r / 64).toNat := begR_at (Or.inr (Or.inl ⟨by omega, by omega, by omega⟩))
    obtain ⟨q1, q2⟩ := tk_yes_of (ub (192 + r / 64)) (ub (128 + r % 64) :: m) r.toNat 2 hb (by omega) (by simp) (by simp [cont_ub (128 + r % 64) (by omega) (by omega)]) (by rw [hR]; simp [fol, hv2]; omega) hgN (by unfold wdN; rw [if_neg (by omega), if_pos (by omega)])
    exact ⟨q1, q2, tk_short _ _ (by rw [hb]; simp)⟩
  · have hv := ub_nat _ ob.1
    have hv2 := ub_nat _ ob.2.1
    have hv3 := ub_nat _ ob.2.2
    have hb : begN (ub (224 + r / 4096)).toNat = 3 := beg_at (Or.inr (Or.inr (Or.inl ⟨rfl, by omega, by omega⟩)))
    have hR : begR (ub (224 + r / 4096)).toNat = (r / 4096).toNat := begR_at (Or.inr (Or.inr (Or.inl ⟨by omega, by omega, by omega⟩)))
    obtain ⟨q1, q2⟩ := tk_yes_of (ub (224 + r / 4096)) (ub (128 + r / 64 % 64) :: ub (128 + r % 64) :: m) r.toNat 3 hb (by omega) (by simp) (by simp [cont_ub (128 + r % 64) (by omega) (by omega), cont_ub (128 + r / 64 % 64) (by omega) (by omega)]) (by rw [hR]; simp [fol, hv2, hv3]; omega) hgN (by unfold wdN; rw [if_neg (by omega), if_neg (by omega), if_pos (by omega)])
    exact ⟨q1, q2, tk_short _ _ (by rw [hb]; simp)⟩
  · have hv := ub_nat _ ob.1
    have hv2 := ub_nat _ ob.2.1
    have hv3 := ub_nat _ ob.2.2.1
    have hv4 := ub_nat _ ob.2.2.2
    have hb : begN (ub (240 + r / 262144)).toNat = 4 := beg_at (Or.inr (Or.inr (Or.inr ⟨rfl, by omega, by omega⟩)))
    have hR : begR (ub (240 + r / 262144)).toNat = (r / 262144).toNat := begR_at (Or.inr (Or.inr (Or.inr ⟨by omega, by omega, by omega⟩)))
    obtain ⟨q1, q2⟩ := tk_yes_of (ub (240 + r / 262144)) (ub (128 + r / 4096 % 64) :: ub (128 + r / 64 % 64) :: ub (128 + r % 64) :: m) r.toNat 4 hb (by omega) (by simp) (by simp [cont_ub (128 + r % 64) (by omega) (by omega), cont_ub (128 + r / 64 % 64) (by omega) (by omega), cont_ub (128 + r / 4096 % 64) (by omega) (by omega)]) (by rw [hR]; simp [fol, hv2, hv3, hv4]; omega) hgN (by unfold wdN; rw [if_neg (by omega), if_neg (by omega), if_neg (by omega)])
    exact ⟨q1, q2, tk_short _ _ (by rw [hb]; simp)⟩
theorem str_add (xs ys : List Int) : ((strOfNums (xs ++ ys)).toList == (strOfNums xs ++ strOfNums ys).toList) = true := by
  rw [ByteArray.toList_eq, ByteArray.toList_eq]
  simp [strOfNums_data]
theorem str_empty (r : Int) : (strOfNums (enc r)).toList.isEmpty = !goodB r := by
  cases h : goodB r with
  | false => rw [ByteArray.toList_eq, strOfNums_data]; unfold enc; rw [h]; rfl
  | true =>
    rw [str_enc r h]
    rcases enc_forms r h with ⟨-, -, e⟩ | ⟨-, -, e⟩ | ⟨-, -, e⟩ | ⟨-, -, e⟩ <;> rw [e] <;> rfl
/-- what is read of a letter's bytes with more behind them, and of those bytes cut short -/
theorem tk_str (r : Int) (h : goodB r = true) (m : ByteArray) : tkR (strOfNums (enc r) ++ m).data.toList = r.toNat ∧ tkN (strOfNums (enc r) ++ m).data.toList = (enc r).length
    ∧ tkN ((strOfNums (enc r)).extract 0 ((enc r).length - 1)).data.toList = 0 := by
  have hs : (strOfNums (enc r)).data.toList = (encI r).map ub := by rw [← ByteArray.toList_eq]; exact str_enc r h
  have e1 : (strOfNums (enc r) ++ m).data.toList = (encI r).map ub ++ m.data.toList := by rw [← hs]; simp
  have e2 : ((strOfNums (enc r)).extract 0 ((enc r).length - 1)).data.toList = ((encI r).map ub).take ((encI r).length - 1) := by
    rw [← hs, enc_good r h]; simp
  rw [e1, e2, enc_good r h]
  exact tk_enc r h m.data.toList
end Go.Proofs.YtikdggcdgdokiaaDoor
