import Derived.Test.YtjbccmnmcjmooaaDoorCpE
import Derived.Test.YtjbccmnmcjmooaaDoorL13R
/- The document's own writer of CSV: a field. -/
namespace Go.Proofs.YtjbccmnmcjmooaaDoor
open Go.RowKit

theorem dq_snoc (c : UInt8) : ∀ l : List UInt8, dq (l ++ [c]) = dq l ++ (if c = 34 then [34, 34] else [c])
  | [] => by simp only [List.nil_append, dq]
  | a :: l => by
    have ih := dq_snoc c l
    simp only [List.cons_append, dq, ih]
    split <;> simp
theorem take_snoc (s : ByteArray) (k : Nat) (h : k < s.size) : s.data.toList.take (k + 1) = s.data.toList.take k ++ [s[k]] := by
  have hl : k < s.data.toList.length := by rw [size_list]; exact h
  rw [List.take_add_one, List.getElem?_eq_getElem hl]; rfl
theorem stop_of (c : UInt8) (h : c.toNat = 34 ∨ c.toNat = 44 ∨ c.toNat = 10 ∨ c.toNat = 13) : stopB c = true := by
  unfold stopB
  rw [decide_eq_true_iff]
  rcases h with h | h | h | h
  · exact Or.inr (Or.inr (Or.inr (UInt8.toNat_inj.1 h)))
  · exact Or.inl (UInt8.toNat_inj.1 h)
  · exact Or.inr (Or.inl (UInt8.toNat_inj.1 h))
  · exact Or.inr (Or.inr (Or.inl (UInt8.toNat_inj.1 h)))
theorem stop_not (c : UInt8) (h1 : ¬ c.toNat = 34) (h2 : ¬ c.toNat = 44) (h3 : ¬ c.toNat = 10) (h4 : ¬ c.toNat = 13) : stopB c = false := by
  unfold stopB
  rw [decide_eq_false_iff_not]
  rintro (rfl | rfl | rfl | rfl)
  · exact h2 rfl
  · exact h3 rfl
  · exact h4 rfl
  · exact h1 rfl
set_option maxRecDepth 100000 in
set_option maxHeartbeats 2000000 in
theorem dfield_any (s : ByteArray) (al : Bool) (w : World) (hs : s.size ≤ 1000000) :
    Calls Tryd.prog 12 #[.string s, .bool al] w fun e w' => e = .returned (.string (mkS (fldB s.data.toList al))) ∧ w' = w := by
  obtain ⟨r, hr⟩ : ∃ r, mkS (fldB s.data.toList al) = r := ⟨_, rfl⟩
  rw [hr]
  have hemp : s.data.toList.isEmpty = decide (s.size = 0) := by
    rw [Bool.eq_iff_iff, List.isEmpty_iff, decide_eq_true_iff, ← size_list]
    exact List.length_eq_zero_iff.symm
  obtain ⟨q0, hq0⟩ : ∃ q0, (decide (s.size = 0) && al) = q0 := ⟨_, rfl⟩
  have HQ := hid (show (s.data.toList.any stopB || q0) = true → (⟨#[34]⟩ : ByteArray) ++ mkS (dq s.data.toList) ++ ⟨#[34]⟩ = r from fun h => by
    rw [← hr]
    unfold fldB
    rw [hemp, hq0, if_pos h]
    exact mkS_of _ _ (by simp only [papp, mkS_list]; rfl))
  have HP := hid (show (s.data.toList.any stopB || q0) = false → s = r from fun h => by
    rw [← hr]
    unfold fldB
    rw [hemp, hq0, if_neg (by rw [h]; decide)]
    exact mkS_of _ _ rfl)
  clear hemp hr
  have HQ0 := hid hq0
  go_enter Tryd.func12, Tryd.ntmps12
  by_cases hz : s.size = 0
  · have hs0 : s = ⟨#[]⟩ := by
      have : s.data.toList = [] := List.eq_nil_of_length_eq_zero (by rw [size_list]; exact hz)
      rw [mkS_of s _ rfl, this]; rfl
    subst hs0
    cases al with
    | true =>
      have hq : q0 = true := by rw [← hq0]; rfl
      have HQ2 := hid (HQ.out (by rw [hq]; rfl))
      clear HP HQ hq0 hq HQ0
      go_wp2_with fail
      go_loopw [5, 6, 7] (fun q t i wr => q = .bool true ∧ t = .string ⟨#[]⟩ ∧ i = .int .i64 0 ∧ wr = w) (fun _ _ _ _ => 0)
      case atStart => exact ⟨rfl, rfl, rfl, rfl⟩
      case round =>
        obtain ⟨rfl, rfl, rfl, rfl⟩ := hrel
        go_wp2_with fail
        go_ret
        exact ⟨by rw [← HQ2.out]; rfl, rfl⟩
    | false =>
      have hq : q0 = false := by rw [← hq0]; rfl
      have HP2 := hid (HP.out (by rw [hq]; rfl))
      clear HP HQ hq0 hq HQ0
      go_wp2_with fail
      go_loopw [5, 6, 7] (fun q t i wr => q = .bool false ∧ t = .string ⟨#[]⟩ ∧ i = .int .i64 0 ∧ wr = w) (fun _ _ _ _ => 0)
      case atStart => exact ⟨rfl, rfl, rfl, rfl⟩
      case round =>
        obtain ⟨rfl, rfl, rfl, rfl⟩ := hrel
        go_wp2_with fail
        go_ret
        exact ⟨by rw [← HP2.out]; rfl, rfl⟩
  · have hne : ¬ s.data.toList = [] := fun hc => by have := congrArg List.length hc; rw [size_list] at this; exact hz (by simpa using this)
    have hn0 : ¬ s.toList = [] := by rw [Lib.toList_data]; exact hne
    have hem : s.toList.isEmpty = false := by rw [Lib.toList_data, List.isEmpty_eq_false_iff]; exact hne
    have hq : q0 = false := by rw [← hq0, decide_eq_false hz]; rfl
    subst hq
    simp only [Bool.or_false] at HQ HP
    clear hq0 hne HQ0
    go_wp2_with fail
    go_loopw [5, 6, 7] (fun qv tv i wr => ∃ (j : Nat) (q : Bool) (T : ByteArray), j ≤ s.size ∧ i = .int .i64 j ∧ qv = .bool q ∧ tv = .string T ∧ T.size ≤ 2 * j ∧ wr = w ∧ Hid (q = (s.data.toList.take j).any stopB) ∧ Hid (T = mkS (dq (s.data.toList.take j)))) (fun _ _ i _ => s.size - (intOf i).toNat)
    case atStart => exact ⟨0, false, ⟨#[]⟩, Nat.zero_le _, rfl, rfl, rfl, Nat.zero_le _, rfl, rfl, rfl⟩
    case round =>
      obtain ⟨j, q, T, hj, rfl, rfl, rfl, hT, rfl, HA, HT⟩ := hrel
      by_cases hlt : j < s.size
      · have HTK := hid (take_snoc s j hlt)
        obtain ⟨m, hm⟩ : ∃ m, s.extract j (j + 1) = m := ⟨_, rfl⟩
        have HM := hid (mkS_app1 (dq (s.data.toList.take j)) s j hlt)
        have HM2 := hid (mkS_app1 (dq (s.data.toList.take j) ++ [34]) s j hlt)
        rw [hm] at HM HM2
        have hmz : m.size = 1 := by rw [← hm, ByteArray.size_extract]; omega
        have hbl : s[j].toNat < 256 := UInt8.toNat_lt _
        by_cases c34 : s[j].toNat = 34
        · have e1 : ((s[j].toNat : Int) == 34) = true := by rw [c34]; rfl
          have e1' : (s[j].toNat : Int) = 34 := by rw [c34]; rfl
          have HA2 : Hid (true = (s.data.toList.take (j + 1)).any stopB) := hid (by rw [HTK.out, List.any_append, List.any_cons, stop_of _ (Or.inl c34)]; simp)
          have HT2 : Hid (T ++ (⟨#[34]⟩ : ByteArray) ++ m = mkS (dq (s.data.toList.take (j + 1)))) := hid (by
            rw [HTK.out, dq_snoc, if_pos (UInt8.toNat_inj.1 c34), HT.out]
            have h1 : mkS (dq (s.data.toList.take j)) ++ (⟨#[34]⟩ : ByteArray) = mkS (dq (s.data.toList.take j) ++ [34]) := mkS_of _ _ (by simp only [papp, mkS_list])
            rw [h1, HM2.out, show s[j] = (34 : UInt8) from UInt8.toNat_inj.1 c34]
            simp)
          clear c34 HTK HM HM2 HA HT
          go_wp2_with fail
          go_roundw
          case rel => exact ⟨j + 1, true, T ++ (⟨#[34]⟩ : ByteArray) ++ m, hlt, val_int (by omega), rfl, rfl, by rw [ByteArray.size_append, ByteArray.size_append, hmz]; have : (⟨#[34]⟩ : ByteArray).size = 1 := rfl; omega, trivial, HA2.out, HT2.out⟩
          case measure => simp [intOf]; omega
        have hno : ¬ s[j] = (34 : UInt8) := fun e => c34 (by rw [e]; rfl)
        have HT2 : Hid (T ++ m = mkS (dq (s.data.toList.take (j + 1)))) := hid (by
            rw [HTK.out, dq_snoc, if_neg hno, HT.out, HM.out])
        have e1 : ((s[j].toNat : Int) == 34) = false := beq_eq_false_iff_ne.2 (by omega)
        have e1' : ¬ (s[j].toNat : Int) = 34 := by omega
        by_cases hst : s[j].toNat = 44 ∨ s[j].toNat = 10 ∨ s[j].toNat = 13
        · have HA2 : Hid (true = (s.data.toList.take (j + 1)).any stopB) := hid (by rw [HTK.out, List.any_append, List.any_cons, stop_of _ (Or.inr hst)]; simp)
          clear c34 HTK HM HM2 HA HT hno
          rcases hst with h | h | h
          · have e2 : ((s[j].toNat : Int) == 44) = true := by rw [h]; rfl
            have e2' : (s[j].toNat : Int) = 44 := by rw [h]; rfl
            clear h
            go_wp2_with fail
            go_roundw
            case rel => exact ⟨j + 1, true, T ++ m, hlt, val_int (by omega), rfl, rfl, by rw [ByteArray.size_append, hmz]; omega, trivial, HA2.out, HT2.out⟩
            case measure => simp [intOf]; omega
          · have e3 : ((s[j].toNat : Int) == 44) = false := by rw [h]; rfl
            have e3' : ¬ (s[j].toNat : Int) = 44 := by omega
            have e2 : ((s[j].toNat : Int) == 10) = true := by rw [h]; rfl
            have e2' : (s[j].toNat : Int) = 10 := by rw [h]; rfl
            clear h
            go_wp2_with fail
            go_roundw
            case rel => exact ⟨j + 1, true, T ++ m, hlt, val_int (by omega), rfl, rfl, by rw [ByteArray.size_append, hmz]; omega, trivial, HA2.out, HT2.out⟩
            case measure => simp [intOf]; omega
          · have e3 : ((s[j].toNat : Int) == 44) = false := by rw [h]; rfl
            have e3' : ¬ (s[j].toNat : Int) = 44 := by omega
            have e4 : ((s[j].toNat : Int) == 10) = false := by rw [h]; rfl
            have e4' : ¬ (s[j].toNat : Int) = 10 := by omega
            have e2 : ((s[j].toNat : Int) == 13) = true := by rw [h]; rfl
            have e2' : (s[j].toNat : Int) = 13 := by rw [h]; rfl
            clear h
            go_wp2_with fail
            go_roundw
            case rel => exact ⟨j + 1, true, T ++ m, hlt, val_int (by omega), rfl, rfl, by rw [ByteArray.size_append, hmz]; omega, trivial, HA2.out, HT2.out⟩
            case measure => simp [intOf]; omega
        · have HA2 : Hid (q = (s.data.toList.take (j + 1)).any stopB) := hid (by rw [HTK.out, List.any_append, List.any_cons, stop_not _ c34 (by omega) (by omega) (by omega), HA.out]; simp)
          have e2 : ((s[j].toNat : Int) == 44) = false := beq_eq_false_iff_ne.2 (by omega)
          have e3 : ((s[j].toNat : Int) == 10) = false := beq_eq_false_iff_ne.2 (by omega)
          have e4 : ((s[j].toNat : Int) == 13) = false := beq_eq_false_iff_ne.2 (by omega)
          have e2' : ¬ (s[j].toNat : Int) = 44 := by omega
          have e3' : ¬ (s[j].toNat : Int) = 10 := by omega
          have e4' : ¬ (s[j].toNat : Int) = 13 := by omega
          clear c34 HTK HM HM2 HA HT hno hst
          go_wp2_with fail
          go_roundw
          case rel => exact ⟨j + 1, q, T ++ m, hlt, val_int (by omega), rfl, rfl, by rw [ByteArray.size_append, hmz]; omega, trivial, HA2.out, HT2.out⟩
          case measure => simp [intOf]; omega
      · obtain rfl : j = s.size := by omega
        have hall : s.data.toList.take s.size = s.data.toList := List.take_of_length_le (by rw [size_list]; exact Nat.le_refl _)
        rw [hall] at HA HT
        cases q with
        | true =>
          have HQ2 := hid (HQ.out HA.out.symm)
          rw [← HT.out] at HQ2
          clear HQ HP HA HT hall
          go_wp2_with fail
          go_ret
          exact ⟨by rw [← HQ2.out]; rfl, rfl⟩
        | false =>
          have HP2 := hid (HP.out HA.out.symm)
          clear HQ HP HA HT hall
          go_wp2_with fail
          go_ret
          exact ⟨by rw [← HP2.out]; rfl, rfl⟩
end Go.Proofs.YtjbccmnmcjmooaaDoor
