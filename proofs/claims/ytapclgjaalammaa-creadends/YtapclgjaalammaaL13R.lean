import Derived.Test.YtapclgjaalammaaCrJ
/- The document's own reader of CSV: a row's end, a field. -/
namespace Go.Proofs.Ytapclgjaalammaa
open Go.RowKit

theorem drop_cons (t : ByteArray) (k : Nat) (h : k < t.size) : t.data.toList.drop k = t[k] :: t.data.toList.drop (k + 1) := by
  have hl : k < t.data.toList.length := by rw [size_list]; exact h
  rw [List.drop_eq_getElem_cons hl]; rfl
theorem drop_none (t : ByteArray) (k : Nat) (h : t.size ≤ k) : t.data.toList.drop k = [] := by
  rw [List.drop_eq_nil_iff, size_list]; exact h
set_option maxRecDepth 100000 in
set_option maxHeartbeats 1000000 in
theorem rend_any (t : ByteArray) (k : Nat) (w : World) (hk : k ≤ t.size) (hs : t.size ≤ 1000000) :
    Calls Try.prog 19 #[.string t, .int .i64 (k : Int)] w fun e w' => e = .returned (.int .i64 (endN (t.data.toList.drop k) : Int)) ∧ w' = w := by
  by_cases h1 : k < t.size
  · have hd := drop_cons t k h1
    by_cases h10 : t[k].toNat = 10
    · have HE : Hid (endN (t.data.toList.drop k) = 1) := hid (by rw [hd]; unfold endN; rw [if_pos (by simp; exact UInt8.toNat_inj.1 h10)])
      have hb : ((t[k].toNat : Int) == 10) = true := by rw [h10]; rfl
      clear hd h10
      go_enter Try.func19, Try.ntmps19
      go_wp2_with fail
      go_ret
      exact ⟨ret_int (by rw [HE.out]; rfl), rfl⟩
    · have hb : ((t[k].toNat : Int) == 10) = false := by rw [beq_eq_false_iff_ne]; omega
      have hn : ¬ (t.data.toList.drop k).head? = some 10 := by rw [hd]; simp; intro e; exact h10 (by rw [e]; rfl)
      by_cases h2 : k + 1 < t.size
      · have hd2 := drop_cons t (k + 1) h2
        by_cases h13 : t[k].toNat = 13
        · have hb3 : ((t[k].toNat : Int) == 13) = true := by rw [h13]; rfl
          by_cases h11 : t[k + 1].toNat = 10
          · have HE : Hid (endN (t.data.toList.drop k) = 2) := hid (by
              unfold endN; rw [if_neg hn, if_pos]
              rw [hd, hd2]; simp; exact ⟨UInt8.toNat_inj.1 h13, UInt8.toNat_inj.1 h11⟩)
            have hb4 : ((t[k + 1].toNat : Int) == 10) = true := by rw [h11]; rfl
            clear hd hd2 h10 hn h13 h11
            go_enter Try.func19, Try.ntmps19
            go_wp2_with fail
            go_ret
            exact ⟨ret_int (by rw [HE.out]; rfl), rfl⟩
          · have HE : Hid (endN (t.data.toList.drop k) = 0) := hid (by
              unfold endN; rw [if_neg hn, if_neg]
              rw [hd, hd2]; simp; intro _ e; exact h11 (by rw [e]; rfl))
            have hb4 : ((t[k + 1].toNat : Int) == 10) = false := by rw [beq_eq_false_iff_ne]; omega
            clear hd hd2 h10 hn h13 h11
            go_enter Try.func19, Try.ntmps19
            go_wp2_with fail
            go_ret
            exact ⟨ret_int (by rw [HE.out]; rfl), rfl⟩
        · have hb3 : ((t[k].toNat : Int) == 13) = false := by rw [beq_eq_false_iff_ne]; omega
          have HE : Hid (endN (t.data.toList.drop k) = 0) := hid (by
              unfold endN; rw [if_neg hn, if_neg]
              rw [hd]; simp; intro e; exact absurd (by rw [e]; rfl) h13)
          clear hd hd2 h10 hn h13
          go_enter Try.func19, Try.ntmps19
          go_wp2_with fail
          go_ret
          exact ⟨ret_int (by rw [HE.out]; rfl), rfl⟩
      · have HE : Hid (endN (t.data.toList.drop k) = 0) := hid (by
              unfold endN; rw [if_neg hn, if_neg]
              rw [hd, drop_none t (k + 1) (by omega)]; simp)
        have h2' : ¬ (k : Int) + 1 < (t.size : Int) := by omega
        clear hd h10 hn h2
        go_enter Try.func19, Try.ntmps19
        go_wp2_with fail
        go_ret
        exact ⟨ret_int (by rw [HE.out]; rfl), rfl⟩
  · have HE : Hid (endN (t.data.toList.drop k) = 0) := hid (by rw [drop_none t k (by omega)]; rfl)
    have h1' : ¬ (k : Int) < (t.size : Int) := by omega
    have h2' : ¬ (k : Int) + 1 < (t.size : Int) := by omega
    clear h1
    go_enter Try.func19, Try.ntmps19
    go_wp2_with fail
    go_ret
    exact ⟨ret_int (by rw [HE.out]; rfl), rfl⟩
/-- a field's reading, as the document's own values -/
def fvR (t : ByteArray) : CFR → Value
  | .ok s r => .tuple #[.string (mkS s), .int .i64 ((t.size - r.length : Nat) : Int), .int .i64 (-1)]
  | .bad _ r => .tuple #[.string ⟨#[]⟩, .int .i64 0, .int .i64 ((t.size - r.length : Nat) : Int)]
theorem mkS_app1 (a : List UInt8) (t : ByteArray) (k : Nat) (h : k < t.size) : mkS a ++ t.extract k (k + 1) = mkS (a ++ [t[k]]) := by
  refine mkS_of _ _ ?_
  rw [ByteArray.data_append, Array.toList_append, mkS_list]
  congr 1
  rw [part_list]
  have := drop_cons t k h
  rw [List.drop_take, this]
  simp
end Go.Proofs.Ytapclgjaalammaa
