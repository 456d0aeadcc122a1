/- The document's side: is a text a place's? a key's text. -/
import Derived.Test.YtadbeodeiijhdaaGreatDoorFPathFind
namespace Go.Proofs.YtadbeodeiijhdaaGreatDoor
open Go.RowKit

def digC (b : UInt8) : Bool := decide (48 ≤ b.toNat) && decide (b.toNat ≤ 57)
theorem dig_bad {s : ByteArray} {j : Nat} (h : j < s.size) (hb : digC s[j] = false) : digB s.data.toList = false := by
  unfold digB
  have : s.data.toList.all (fun b => decide (48 ≤ b.toNat) && decide (b.toNat ≤ 57)) = false := by
    rw [List.all_eq_false]
    refine ⟨s[j], ?_, ?_⟩
    · have : s.data.toList[j]'(by rw [size_list]; exact h) = s[j] := rfl
      rw [← this]; exact List.getElem_mem _
    · show ¬ digC s[j] = true
      rw [hb]; decide
  rw [this, Bool.and_false]
theorem dig_all {s : ByteArray} (h : ∀ k, (hk : k < s.size) → digC s[k] = true) : s.data.toList.all (fun b => decide (48 ≤ b.toNat) && decide (b.toNat ≤ 57)) = true := by
  rw [List.all_eq_true]
  intro b hb
  obtain ⟨k, hk, rfl⟩ := List.getElem_of_mem hb
  exact h k (by rw [← size_list]; exact hk)
set_option maxRecDepth 100000 in
set_option maxHeartbeats 1000000 in
theorem dig5_any (s : ByteArray) (w : World) (hs : s.size ≤ maxLen) :
    Calls Tryz.prog 107 #[.string s] w fun e w' => e = .returned (.bool (digB s.data.toList)) ∧ w' = w := by
  unfold maxLen at hs
  have HZ := hid (size_list s)
  go_enter Tryz.func107, Tryz.ntmps107
  go_wp2
  go_loop [3] (fun i => ∃ j : Nat, j ≤ s.size ∧ i = .int .i64 j ∧ Hid (∀ k, (hk : k < s.size) → k < j → digC s[k] = true)) (fun i => s.size - (intOf i).toNat)
  case atStart => exact ⟨0, Nat.zero_le _, rfl, fun k hk h => absurd h (Nat.not_lt_zero _)⟩
  case round =>
    obtain ⟨j, hj, rfl, HJ⟩ := hrel
    by_cases hlt : j < s.size
    · by_cases h1 : s[j].toNat < 48
      · have HF := hid (dig_bad hlt (by unfold digC; rw [decide_eq_false (by omega)]; rfl))
        go_wp2
        go_ret
        exact ⟨ret_bool HF.out.symm, rfl⟩
      · by_cases h2 : 57 < s[j].toNat
        · have HF := hid (dig_bad hlt (by unfold digC; rw [decide_eq_false (show ¬ s[j].toNat ≤ 57 by omega)]; simp))
          go_wp2
          go_ret
          exact ⟨ret_bool HF.out.symm, rfl⟩
        · have HN : Hid (∀ k, (hk : k < s.size) → k < j + 1 → digC s[k] = true) := hid (fun k hk hkj => by
            by_cases e : k = j
            · subst e; unfold digC; rw [decide_eq_true (show 48 ≤ s[k].toNat by omega), decide_eq_true (show s[k].toNat ≤ 57 by omega)]; rfl
            · exact HJ.out k hk (by omega))
          clear HJ
          go_wp2
          go_round
          case rel => exact ⟨j + 1, hlt, by go_num, HN⟩
          case measure => simp [intOf]; omega
    · have HA := hid (dig_all (fun k hk => HJ.out k hk (by omega)))
      by_cases h0 : s.size = 0
      · have hs0 : s = ⟨#[]⟩ := by
          have : s.data.toList = [] := List.eq_nil_of_length_eq_zero (by rw [HZ.out]; exact h0)
          rw [mkS_of s _ rfl, this]; rfl
        subst hs0
        clear HJ HA HZ
        go_wp2
        go_ret
        exact ⟨rfl, rfl⟩
      · have hp : 0 < s.size := by omega
        have hem : s.toList.isEmpty = false := by
          rw [Lib.toList_data, List.isEmpty_eq_false_iff]
          intro hc
          have := congrArg List.length hc
          rw [HZ.out] at this
          exact h0 (by simpa using this)
        have hn0 : ¬ s.toList = [] := by intro hc; rw [hc] at hem; cases hem
        have HD := hid (show digB s.data.toList = !(decide (s[0] = 48) && decide (1 < s.size)) by
          unfold digB
          rw [first_at s hp, HZ.out, ← Lib.toList_data, hem, Lib.toList_data, HA.out]
          simp)
        clear HJ HA
        by_cases h1 : s.size = 1
        · by_cases hc : s[0] = 48
          · have hs1 : s = ⟨#[48]⟩ := by
              apply ba_eq
              rw [show s.data.toList = [s[0]] by
                have hl : s.data.toList.length = 1 := by rw [HZ.out]; exact h1
                match hd : s.data.toList, hl with
                | [b], _ =>
                  have : s.data.toList[0]'(by rw [HZ.out]; omega) = s[0] := rfl
                  simp [hd] at this
                  rw [this], hc]
            subst hs1
            clear HD HZ
            go_wp2
            go_ret
            exact ⟨rfl, rfl⟩
          · have hne : (s.toList == [48]) = false := by
              rw [beq_eq_false_iff_ne, Lib.toList_data]
              intro hh
              apply hc
              rw [← first_at s hp, hh]; rfl
            have hb : ¬ s[0].toNat = 48 := fun h => hc (UInt8.toNat_inj.1 h)
            have hb2 : ((s[0].toNat : Int) != 48) = true := by simp; omega
            have HD2 := hid (show digB s.data.toList = true by rw [HD.out, decide_eq_false hc]; rfl)
            clear HD
            go_wp2
            go_ret
            exact ⟨ret_bool HD2.out.symm, rfl⟩
        · have hne : (s.toList == [48]) = false := by
            rw [beq_eq_false_iff_ne, Lib.toList_data]
            intro hh
            have := congrArg List.length hh
            rw [HZ.out] at this
            exact h1 (by simpa using this)
          by_cases hc : s[0] = 48
          · have hb : s[0].toNat = 48 := by rw [hc]; rfl
            have HD2 := hid (show digB s.data.toList = false by rw [HD.out, decide_eq_true hc, decide_eq_true (show 1 < s.size by omega)]; rfl)
            clear HD
            go_wp2
            go_ret
            exact ⟨ret_bool HD2.out.symm, rfl⟩
          · have hb : ¬ s[0].toNat = 48 := fun h => hc (UInt8.toNat_inj.1 h)
            have hb2 : ((s[0].toNat : Int) != 48) = true := by simp; omega
            have HD2 := hid (show digB s.data.toList = true by rw [HD.out, decide_eq_false hc]; rfl)
            clear HD
            go_wp2
            go_ret
            exact ⟨ret_bool HD2.out.symm, rfl⟩
/-- a key's first bytes, marked -/
theorem esc_snoc (k : List UInt8) (b : UInt8) : esc (k ++ [b]) = esc k ++ escB b := by unfold esc; rw [List.flatMap_append]; simp
theorem take_snocL (s : ByteArray) (j : Nat) (h : j < s.size) : s.data.toList.take (j + 1) = s.data.toList.take j ++ [s[j]] := by
  rw [List.take_succ_eq_append_getElem (by rw [size_list]; exact h)]; rfl
theorem ret_st {a b : ByteArray} (h : a = b) : Ending.returned (.string a) = .returned (.string b) := by rw [h]
theorem app_mkS (a b : List UInt8) : mkS a ++ mkS b = mkS (a ++ b) := by
  refine mkS_of _ _ ?_
  rw [ByteArray.data_append, Array.toList_append]
  show (mkS a).data.toList ++ (mkS b).data.toList = _
  rw [mkS_list, mkS_list]
theorem pre_two (s m : ByteArray) (h : 1 < s.size) (hm : s.extract 0 2 = m) : (m.toList == [126, 107]) = Lib.hasPrefix s.data.toList [126, 107] := by
  have hl : 1 < s.data.toList.length := by rw [size_list]; exact h
  rw [Lib.toList_data, ← hm]
  have e : (s.extract 0 2).data.toList = s.data.toList.take 2 := Lib.extract_from_zero s 2
  rw [e]
  match hd : s.data.toList, hl with
  | a :: b :: r, _ =>
    simp only [Lib.hasPrefix, List.take_succ_cons, List.take_zero]
    rw [Bool.eq_iff_iff, beq_iff_eq]
    constructor
    · intro h
      obtain ⟨rfl, rfl⟩ : a = 126 ∧ b = 107 := by simpa using h
      rfl
    · intro h
      simp only [List.isPrefixOf, Bool.and_eq_true, beq_iff_eq, and_true] at h
      rw [← h.1, ← h.2]
theorem pre_short (s : ByteArray) (h : ¬ 1 < s.size) : Lib.hasPrefix s.data.toList [126, 107] = false := by
  have hl : ¬ 1 < s.data.toList.length := by rw [size_list]; exact h
  match hd : s.data.toList with
  | [] => rfl
  | [a] => simp [Lib.hasPrefix, List.isPrefixOf]
  | a :: b :: r => rw [hd] at hl; simp at hl
set_option maxRecDepth 100000 in
set_option maxHeartbeats 1000000 in
theorem kt5_any (s : ByteArray) (w : World) (hs : s.size ≤ 1000000000) :
    Calls Tryz.prog 74 #[.string s] w fun e w' => e = .returned (.string (mkS (keyT s.data.toList))) ∧ w' = w := by
  have HZ := hid (size_list s)
  have CD := hid (fun X => dig5_any s X (by unfold maxLen; omega))
  go_enter Tryz.func74, Tryz.ntmps74
  go_wp2
  go_loop [3, 4] (fun v i => ∃ (j : Nat) (A : ByteArray), j ≤ s.size ∧ i = .int .i64 j ∧ v = .string A ∧ A.size ≤ 2 * j ∧ Hid (A = mkS (esc (s.data.toList.take j)))) (fun _ i => s.size - (intOf i).toNat)
  case atStart => exact ⟨0, ⟨#[]⟩, Nat.zero_le _, rfl, rfl, Nat.zero_le _, hid rfl⟩
  case round =>
    obtain ⟨j, A, hj, rfl, rfl, hA, HA⟩ := hrel
    by_cases hlt : j < s.size
    · have HADD : Hid (∀ m : ByteArray, m = mkS (escB s[j]) → A ++ m = mkS (esc (s.data.toList.take (j + 1)))) := hid (fun m hm => by rw [take_snocL s j hlt, esc_snoc, HA.out, hm, app_mkS])
      by_cases h1 : s[j] = 126
      · have hb : s[j].toNat = 126 := by rw [h1]; rfl
        have HN := hid (HADD.out ⟨#[126, 48]⟩ (by rw [h1]; rfl))
        clear HADD HA h1
        go_wp2
        go_round
        case rel => exact ⟨j + 1, A ++ ⟨#[126, 48]⟩, hlt, by go_num, rfl, by rw [ByteArray.size_append]; show A.size + 2 ≤ _; omega, HN⟩
        case measure => simp [intOf]; omega
      · have hb1 : ¬ s[j].toNat = 126 := fun h => h1 (UInt8.toNat_inj.1 h)
        by_cases h2 : s[j] = 47
        · have hb : s[j].toNat = 47 := by rw [h2]; rfl
          have HN := hid (HADD.out ⟨#[126, 49]⟩ (by rw [h2]; rfl))
          clear HADD HA h1 h2
          go_wp2
          go_round
          case rel => exact ⟨j + 1, A ++ ⟨#[126, 49]⟩, hlt, by go_num, rfl, by rw [ByteArray.size_append]; show A.size + 2 ≤ _; omega, HN⟩
          case measure => simp [intOf]; omega
        · have hb2 : ¬ s[j].toNat = 47 := fun h => h2 (UInt8.toNat_inj.1 h)
          have HX := hid (HADD.out (s.extract j (j + 1)) (by
            unfold escB
            rw [if_neg h1, if_neg h2]
            refine mkS_of _ _ ?_
            rw [Lib.extract_data, show j + 1 - j = 1 by omega, List.drop_eq_getElem_cons (by rw [size_list]; exact hlt)]
            rfl))
          have hms : (s.extract j (j + 1)).size = 1 := by simp; omega
          clear HADD HA h1 h2
          generalize hm : s.extract j (j + 1) = m at HX hms
          go_wp2
          go_round
          case rel => exact ⟨j + 1, A ++ m, hlt, by go_num, rfl, by rw [ByteArray.size_append]; omega, HX⟩
          case measure => simp [intOf]; omega
    · have hjs : j = s.size := by omega
      subst hjs
      have HE := hid (show A = mkS (esc s.data.toList) by rw [HA.out, List.take_of_length_le (by rw [HZ.out]; exact Nat.le_refl _)])
      clear HA
      have HK1 : Hid (keyM s.data.toList = true → (⟨#[126, 107]⟩ : ByteArray) ++ A = mkS (keyT s.data.toList)) := hid (fun h => by
        unfold keyT
        rw [if_pos h, HE.out, ← app_mkS]; rfl)
      have HK2 : Hid (keyM s.data.toList = false → A = mkS (keyT s.data.toList)) := hid (fun h => by
        unfold keyT
        rw [if_neg (by rw [h]; decide), HE.out])
      go_wp2_with fail
      go_at_call 107
      refine (CD.out _).mono ?_
      rintro e w' ⟨rfl, hw'⟩
      obtain rfl := hw'.symm
      cases hd : digB s.data.toList with
      | true =>
        have HR := hid (HK1.out (by unfold keyM; rw [hd]; rfl))
        clear HK1 HK2 HE
        go_wp2
        go_ret
        exact ⟨ret_st HR.out, rfl⟩
      | false =>
        by_cases h1 : 1 < s.size
        · obtain ⟨m, hm⟩ : ∃ m, s.extract 0 2 = m := ⟨_, rfl⟩
          have hpre := pre_two s m h1 hm
          cases hp : Lib.hasPrefix s.data.toList [126, 107] with
          | true =>
            rw [hp] at hpre
            have HR := hid (HK1.out (by unfold keyM; rw [hd, hp]; rfl))
            clear HK1 HK2 HE
            go_wp2
            go_ret
            exact ⟨ret_st HR.out, rfl⟩
          | false =>
            rw [hp] at hpre
            have HR := hid (HK2.out (by unfold keyM; rw [hd, hp]; rfl))
            clear HK1 HK2 HE
            go_wp2
            go_ret
            exact ⟨ret_st HR.out, rfl⟩
        · have HR := hid (HK2.out (by unfold keyM; rw [hd, pre_short s h1]; rfl))
          clear HK1 HK2 HE
          go_wp2
          go_ret
          exact ⟨ret_st HR.out, rfl⟩
end Go.Proofs.YtadbeodeiijhdaaGreatDoor
