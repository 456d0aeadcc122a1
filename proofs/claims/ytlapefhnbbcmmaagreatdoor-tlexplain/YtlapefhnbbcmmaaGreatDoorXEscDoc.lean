
import Derived.Test.YtlapefhnbbcmmaaGreatDoorXEscSide
/- The document's own Hex, Bare, code, place, plain of chapter 6: walked. -/
/- The document's own escape of chapter 6: walked. -/
/- The document's own folded of chapter 6: walked. -/
/- The document's own Unquote of chapter 6: walked. -/
namespace Go.Proofs.YtlapefhnbbcmmaaGreatDoor
open Go.RowKit

theorem hx_parts {b : UInt8} (h : hxI b = true) : (48 ≤ (b.toNat : Int) ∧ (b.toNat : Int) ≤ 57 ∧ (hxV b : Int) = (b.toNat : Int) - 48) ∨ (97 ≤ (b.toNat : Int) ∧ (b.toNat : Int) ≤ 102 ∧ (hxV b : Int) = (b.toNat : Int) - 87) ∨ (65 ≤ (b.toNat : Int) ∧ (b.toNat : Int) ≤ 70 ∧ (hxV b : Int) = (b.toNat : Int) - 55) := by
  unfold hxI at h; simp only [Bool.or_eq_true, decide_eq_true_eq] at h
  unfold hxV
  rcases h with (h | h) | h
  · left; refine ⟨by omega, by omega, ?_⟩; rw [if_pos (by omega)]; omega
  · right; left; refine ⟨by omega, by omega, ?_⟩; rw [if_neg (by omega), if_neg (by omega)]; omega
  · right; right; refine ⟨by omega, by omega, ?_⟩; rw [if_neg (by omega), if_pos (by omega)]; omega
theorem hx_gaps {b : UInt8} (h : hxI b = false) : (b.toNat : Int) < 48 ∨ (57 < (b.toNat : Int) ∧ (b.toNat : Int) < 65) ∨ (70 < (b.toNat : Int) ∧ (b.toNat : Int) < 97) ∨ 102 < (b.toNat : Int) := by
  have h1 : ¬ hxI b = true := by rw [h]; decide
  unfold hxI at h1; simp only [Bool.or_eq_true, decide_eq_true_eq] at h1
  omega
set_option maxRecDepth 100000 in
set_option maxHeartbeats 2000000 in
theorem rhex_any (s : ByteArray) (w : World) (hs : s.size ≤ maxLen) :
    Calls Tryz.prog 73 #[.string s] w fun e w' => e = .returned (.tuple #[.int .i64 (hexR s.data.toList : Nat), .bool (hexB s.data.toList)]) ∧ w' = w := by
  unfold maxLen at hs
  have HZ := hid (size_list s)
  go_enter Tryz.func73, Tryz.ntmps73
  go_wp2_with fail
  go_loop [4, 5] (fun v i => ∃ j : Nat, j ≤ s.size ∧ j ≤ 8 ∧ i = .int .i64 j ∧ v = .int .i64 (hexF (s.data.toList.take j) : Nat) ∧ Hid ((s.data.toList.take j).all hxI = true)) (fun _ i => s.size - (intOf i).toNat)
  case atStart => exact ⟨0, Nat.zero_le _, by omega, rfl, rfl, rfl⟩
  case round =>
    obtain ⟨j, hj, hj8, rfl, rfl, HJ⟩ := hrel
    have hF : hexF (s.data.toList.take j) < 4294967296 := hexF_lt8 _ HJ.out (by rw [List.length_take]; omega)
    by_cases hlt : j < s.size
    · have hb : (s[j].toNat : Int) < 256 := by have := s[j].toNat_lt; omega
      cases hx : hxI s[j] with
      | true =>
        have HS := hid (show (hexF (s.data.toList.take (j + 1)) : Int) = 16 * (hexF (s.data.toList.take j) : Int) + (hxV s[j] : Int) by rw [take_snoc s j hlt, hexF_snoc]; omega)
        have HA := hid (show (s.data.toList.take (j + 1)).all hxI = true by rw [take_snoc s j hlt, List.all_append, HJ.out]; simp [hx])
        have hp := hx_parts hx
        by_cases h8 : j < 8
        · clear hx
          rcases hp with ⟨g1, g2, g3⟩ | ⟨g1, g2, g3⟩ | ⟨g1, g2, g3⟩
          all_goals
            have HV := hid g3
            clear g3
            go_wp2_with fail
            go_round
            case rel => exact ⟨j + 1, hlt, h8, val_int (by omega), val_int (by rw [HS.out, HV.out]; try omega), HA.out⟩
            case measure => simp [intOf]; omega
        · have HB := hid (show hexB s.data.toList = false by unfold hexB; rw [HZ.out, decide_eq_false (by omega)]; rfl)
          clear hx
          rcases hp with ⟨g1, g2, g3⟩ | ⟨g1, g2, g3⟩ | ⟨g1, g2, g3⟩
          all_goals
            clear g3
            go_wp2_with fail
            go_ret2
            exact ⟨ret_ib (by rw [hexR_no HB.out]; rfl) HB.out.symm, rfl⟩
      | false =>
        have HB := hid (hexB_mid hlt hx)
        have hp := hx_gaps hx
        clear hx
        rcases hp with g1 | ⟨g1, g2⟩ | ⟨g1, g2⟩ | g1
        all_goals
          go_wp2_with fail
          go_ret2
          exact ⟨ret_ib (by rw [hexR_no HB.out]; rfl) HB.out.symm, rfl⟩
    · have HT := hid (show s.data.toList.take j = s.data.toList from List.take_of_length_le (by rw [HZ.out]; omega))
      have HB := hid (show hexB s.data.toList = !s.toList.isEmpty by
        unfold hexB; rw [HZ.out]
        have := HJ.out; rw [HT.out] at this
        rw [this, Bool.and_true, ByteArray.toList_eq]
        have hz := HZ.out
        cases hl : s.data.toList with
        | nil => rw [hl] at hz; rw [← hz]; rfl
        | cons a t => rw [hl] at hz; rw [decide_eq_true (by simp at hz; omega)]; rfl)
      have HR := hid (show hexR s.data.toList = hexF s.data.toList by
        unfold hexR
        rw [HB.out]
        cases hl : s.toList.isEmpty with
        | true =>
          rw [List.isEmpty_iff, ByteArray.toList_eq] at hl
          rw [hl]; rfl
        | false => rfl)
      go_wp2_with fail
      go_ret2
      exact ⟨ret_ib (by rw [HR.out, HT.out]) (by rw [HB.out]), rfl⟩
set_option maxRecDepth 100000 in
set_option maxHeartbeats 2000000 in
theorem rbare_any (s : ByteArray) (w : World) (hs : s.size ≤ maxLen) :
    Calls Tryz.prog 70 #[.string s] w fun e w' => e = .returned (.bool (brB s.data.toList)) ∧ w' = w := by
  unfold maxLen at hs
  have HZ := hid (size_list s)
  go_enter Tryz.func70, Tryz.ntmps70
  go_wp2_with fail
  go_loop [3] (fun i => ∃ j : Nat, j ≤ s.size ∧ i = .int .i64 j ∧ Hid ((s.data.toList.take j).all brI = true)) (fun i => s.size - (intOf i).toNat)
  case atStart => exact ⟨0, Nat.zero_le _, rfl, rfl⟩
  case round =>
    obtain ⟨j, hj, rfl, HJ⟩ := hrel
    by_cases hlt : j < s.size
    · have hb : (s[j].toNat : Int) < 256 := by have := s[j].toNat_lt; omega
      cases hx : brI s[j] with
      | true =>
        have HA := hid (show (s.data.toList.take (j + 1)).all brI = true by rw [take_snoc s j hlt, List.all_append, HJ.out]; simp [hx])
        have hp : (97 ≤ (s[j].toNat : Int) ∧ (s[j].toNat : Int) ≤ 122) ∨ (65 ≤ (s[j].toNat : Int) ∧ (s[j].toNat : Int) ≤ 90) ∨ (48 ≤ (s[j].toNat : Int) ∧ (s[j].toNat : Int) ≤ 57) ∨ (s[j].toNat : Int) = 95 ∨ (s[j].toNat : Int) = 45 := by
          unfold brI at hx; simp only [Bool.or_eq_true, decide_eq_true_eq] at hx; omega
        clear hx
        rcases hp with ⟨g1, g2⟩ | ⟨g1, g2⟩ | ⟨g1, g2⟩ | g1 | g1
        · go_wp2_with fail
          go_round
          case rel => exact ⟨j + 1, hlt, val_int (by omega), HA.out⟩
          case measure => simp [intOf]; omega
        · go_wp2_with fail
          go_round
          case rel => exact ⟨j + 1, hlt, val_int (by omega), HA.out⟩
          case measure => simp [intOf]; omega
        · go_wp2_with fail
          go_round
          case rel => exact ⟨j + 1, hlt, val_int (by omega), HA.out⟩
          case measure => simp [intOf]; omega
        · go_wp2_with fail
          go_round
          case rel => exact ⟨j + 1, hlt, val_int (by omega), HA.out⟩
          case measure => simp [intOf]; omega
        · go_wp2_with fail
          go_round
          case rel => exact ⟨j + 1, hlt, val_int (by omega), HA.out⟩
          case measure => simp [intOf]; omega
      | false =>
        have HB := hid (show brB s.data.toList = false by
          unfold brB; rw [Bool.and_eq_false_iff]; right; rw [List.all_eq_false]
          exact ⟨s[j], by rw [← getD_at s j hlt, List.getD, List.getElem?_eq_getElem (by rw [HZ.out]; exact hlt)]; exact List.getElem_mem _, by simp [hx]⟩)
        have hp : (s[j].toNat : Int) < 45 ∨ (45 < (s[j].toNat : Int) ∧ (s[j].toNat : Int) < 48) ∨ (57 < (s[j].toNat : Int) ∧ (s[j].toNat : Int) < 65) ∨ (90 < (s[j].toNat : Int) ∧ (s[j].toNat : Int) < 95) ∨ (95 < (s[j].toNat : Int) ∧ (s[j].toNat : Int) < 97) ∨ 122 < (s[j].toNat : Int) := by
          have h1 : ¬ brI s[j] = true := by rw [hx]; decide
          unfold brI at h1; simp only [Bool.or_eq_true, decide_eq_true_eq] at h1; omega
        clear hx
        have q1 : ((s[j].toNat : Int) == 95) = false := by rw [beq_eq_false_iff_ne]; omega
        have q2 : ((s[j].toNat : Int) == 45) = false := by rw [beq_eq_false_iff_ne]; omega
        have hp2 : (0 ≤ (s[j].toNat : Int) ∧ (s[j].toNat : Int) < 48) ∨ (57 < (s[j].toNat : Int) ∧ (s[j].toNat : Int) < 65) ∨ (90 < (s[j].toNat : Int) ∧ (s[j].toNat : Int) < 97) ∨ (122 < (s[j].toNat : Int) ∧ (s[j].toNat : Int) < 256) := by omega
        clear hp hb
        rcases hp2 with ⟨g1, g2⟩ | ⟨g1, g2⟩ | ⟨g1, g2⟩ | ⟨g1, g2⟩
        · have f1 : decide (97 ≤ (s[j].toNat : Int)) = false := decide_eq_false (by omega)
          have f2 : decide (65 ≤ (s[j].toNat : Int)) = false := decide_eq_false (by omega)
          have f3 : decide (48 ≤ (s[j].toNat : Int)) = false := decide_eq_false (by omega)
          clear g1 g2
          go_wp2_with fail
          go_ret
          exact ⟨ret_bool HB.out.symm, rfl⟩
        · have f1 : decide (97 ≤ (s[j].toNat : Int)) = false := decide_eq_false (by omega)
          have f2 : decide (65 ≤ (s[j].toNat : Int)) = false := decide_eq_false (by omega)
          have f3 : decide (48 ≤ (s[j].toNat : Int)) = true := decide_eq_true (by omega)
          have f4 : decide ((s[j].toNat : Int) ≤ 57) = false := decide_eq_false (by omega)
          clear g1 g2
          go_wp2_with fail
          go_ret
          exact ⟨ret_bool HB.out.symm, rfl⟩
        · have f1 : decide (97 ≤ (s[j].toNat : Int)) = false := decide_eq_false (by omega)
          have f2 : decide (65 ≤ (s[j].toNat : Int)) = true := decide_eq_true (by omega)
          have f5 : decide ((s[j].toNat : Int) ≤ 90) = false := decide_eq_false (by omega)
          have f3 : decide (48 ≤ (s[j].toNat : Int)) = true := decide_eq_true (by omega)
          have f4 : decide ((s[j].toNat : Int) ≤ 57) = false := decide_eq_false (by omega)
          clear g1 g2
          go_wp2_with fail
          go_ret
          exact ⟨ret_bool HB.out.symm, rfl⟩
        · have f1 : decide (97 ≤ (s[j].toNat : Int)) = true := decide_eq_true (by omega)
          have f6 : decide ((s[j].toNat : Int) ≤ 122) = false := decide_eq_false (by omega)
          have f2 : decide (65 ≤ (s[j].toNat : Int)) = true := decide_eq_true (by omega)
          have f5 : decide ((s[j].toNat : Int) ≤ 90) = false := decide_eq_false (by omega)
          have f3 : decide (48 ≤ (s[j].toNat : Int)) = true := decide_eq_true (by omega)
          have f4 : decide ((s[j].toNat : Int) ≤ 57) = false := decide_eq_false (by omega)
          clear g1 g2
          go_wp2_with fail
          go_ret
          exact ⟨ret_bool HB.out.symm, rfl⟩
    · have HT := hid (show s.data.toList.all brI = true by have := HJ.out; rw [List.take_of_length_le (by rw [HZ.out]; omega)] at this; exact this)
      have HB := hid (show brB s.data.toList = !s.toList.isEmpty by unfold brB; rw [HT.out, ByteArray.toList_eq]; simp)
      go_wp2_with fail
      go_ret
      exact ⟨ret_bool (by rw [HB.out]), rfl⟩
set_option maxRecDepth 100000 in
set_option maxHeartbeats 1000000 in
theorem code_any (t : ByteArray) (k n : Nat) (w : World) (ht : t.size ≤ 1000000) (hk : k ≤ 1000010) (hn : 1 ≤ n) (hn8 : n ≤ 8) :
    Calls Tryz.prog 104 #[.string t, .int .i64 (k : Int), .int .i64 (n : Int)] w fun e w' => e = .returned (.int .i64 (cdI t.data.toList k n)) ∧ w' = w := by
  have HZ := hid (size_list t)
  by_cases h : t.size < k + n
  · have HC := hid (cdI_short t.data.toList k n (by rw [HZ.out]; exact h))
    have g : (t.size : Int) - (n : Int) < (k : Int) := by omega
    go_enter Tryz.func104, Tryz.ntmps104
    go_wp2_with fail
    go_ret
    exact ⟨ret_int HC.out.symm, rfl⟩
  · have g : ¬ (t.size : Int) - (n : Int) < (k : Int) := by omega
    obtain ⟨m, hm⟩ : ∃ m, t.extract k (k + n) = m := ⟨_, rfl⟩
    have hml : m.data.toList = (t.data.toList.drop k).take n := by rw [← hm, drop_ext, Nat.add_sub_cancel_left]
    have HH := hid (fun X => rhex_any m X (by rw [← hm, ByteArray.size_extract]; unfold maxLen; omega))
    rw [hml] at HH
    cases hb : hexB ((t.data.toList.drop k).take n) with
    | true =>
      have HC := hid (show cdI t.data.toList k n = (hexR ((t.data.toList.drop k).take n) : Int) by unfold cdI hexR; rw [if_pos ⟨by rw [HZ.out]; omega, hb⟩, if_pos hb])
      rw [hb] at HH
      clear hb hml
      go_enter Tryz.func104, Tryz.ntmps104
      go_wp2_with (go_at_call 73; go_must (refine (HH.out _).mono ?_; rintro e w1 ⟨rfl, rfl⟩))
      go_ret
      exact ⟨ret_int HC.out.symm, rfl⟩
    | false =>
      have HC := hid (show cdI t.data.toList k n = -1 by unfold cdI; rw [if_neg (fun hc => by rw [hb] at hc; cases hc.2)])
      rw [hb] at HH
      clear hb hml
      go_enter Tryz.func104, Tryz.ntmps104
      go_wp2_with (go_at_call 73; go_must (refine (HH.out _).mono ?_; rintro e w1 ⟨rfl, rfl⟩))
      go_ret
      exact ⟨ret_int HC.out.symm, rfl⟩
/-- whether a letter behind a stroke says something, and what -/
def plnB (toml : Bool) (b : Nat) : Bool := decide (nmV toml b < 256)
def plnS (b : Nat) : List UInt8 := if b = 34 ∨ b = 92 then [UInt8.ofNat b] else if b = 98 then [8] else if b = 102 then [12] else if b = 110 then [10] else if b = 114 then [13] else if b = 116 then [9] else if b = 47 then [47] else if b = 101 then [27] else []
theorem pln_is (toml : Bool) (b : Nat) (h : nmV toml b < 256) : plnS b = [UInt8.ofNat (nmV toml b)] := by
  unfold nmV at h ⊢
  unfold plnS
  (repeat' split at h) <;> simp_all
set_option maxRecDepth 100000 in
set_option maxHeartbeats 2000000 in
theorem rplain5_any (b : UInt8) (toml : Bool) (w : World) :
    Calls Tryz.prog 103 #[.int .u8 (b.toNat : Int), .bool toml] w fun e w' => e = .returned (.tuple #[.string (mkS (plnS b.toNat)), .bool (plnB toml b.toNat)]) ∧ Below w.heap.size w w' := by
  have hb := b.toNat_lt
  obtain ⟨n, hn⟩ : ∃ n, b.toNat = n := ⟨_, rfl⟩
  rw [hn] at hb ⊢
  clear hn
  by_cases h1 : n = 34 ∨ n = 92
  · have HS := hid (show plnS n = [UInt8.ofNat n] by unfold plnS; rw [if_pos h1])
    have HB := hid (show plnB toml n = true by unfold plnB nmV; rcases h1 with h | h <;> subst h <;> simp)
    have h1' : ((n : Int) == 34) = true ∨ (((n : Int) == 34) = false ∧ ((n : Int) == 92) = true) := by simp only [beq_iff_eq, beq_eq_false_iff_ne]; omega
    have hcv := conv_new w [(n : Int)] 1 rfl
    simp only [List.map] at hcv
    have HX := hid (show strOfNums [(n : Int)] = mkS [UInt8.ofNat n] by unfold strOfNums mkS; simp)
    clear h1
    rcases h1' with g | ⟨g, g2⟩
    all_goals
      go_enter Tryz.func103, Tryz.ntmps103
      go_wp2_with fail
      go_ret2
      exact ⟨ret_sb (by rw [HS.out]; exact HX.out) (by rw [HB.out]), (Below.refl _ _).alloc (Nat.le_refl _) _⟩
  · have a1 : ((n : Int) == 34) = false := by rw [beq_eq_false_iff_ne]; omega
    have a2 : ((n : Int) == 92) = false := by rw [beq_eq_false_iff_ne]; omega
    by_cases h2 : n = 98 ∨ n = 102 ∨ n = 110 ∨ n = 114 ∨ n = 116 ∨ n = 47 ∨ n = 101
    · clear a1 a2 h1 hb
      cases toml
      all_goals
        rcases h2 with rfl | rfl | rfl | rfl | rfl | rfl | rfl
        all_goals
          go_enter Tryz.func103, Tryz.ntmps103
          go_wp2_with fail
          go_ret2
          exact ⟨rfl, Below.refl _ _⟩
    · have HS := hid (show plnS n = [] by unfold plnS; rw [if_neg h1, if_neg (by omega), if_neg (by omega), if_neg (by omega), if_neg (by omega), if_neg (by omega), if_neg (by omega), if_neg (by omega)])
      have HB := hid (show plnB toml n = false by unfold plnB nmV; rw [if_neg (by omega), if_neg (by omega), if_neg (by omega), if_neg (by omega), if_neg (by omega), if_neg (by omega), if_neg (by omega), if_neg (by omega), if_neg (by omega)]; rfl)
      have a3 : ((n : Int) == 98) = false := by rw [beq_eq_false_iff_ne]; omega
      have a4 : ((n : Int) == 102) = false := by rw [beq_eq_false_iff_ne]; omega
      have a5 : ((n : Int) == 110) = false := by rw [beq_eq_false_iff_ne]; omega
      have a6 : ((n : Int) == 114) = false := by rw [beq_eq_false_iff_ne]; omega
      have a7 : ((n : Int) == 116) = false := by rw [beq_eq_false_iff_ne]; omega
      have a8 : ((n : Int) == 47) = false := by rw [beq_eq_false_iff_ne]; omega
      have a9 : ((n : Int) == 101) = false := by rw [beq_eq_false_iff_ne]; omega
      clear h1 h2
      go_enter Tryz.func103, Tryz.ntmps103
      go_wp2_with fail
      go_ret2
      exact ⟨ret_sb (by rw [HS.out]; rfl) (by rw [HB.out]), Below.refl _ _⟩
end Go.Proofs.YtlapefhnbbcmmaaGreatDoor
namespace Go.Proofs.YtlapefhnbbcmmaaGreatDoor
open Go.RowKit

theorem rput_l (r : Int) (w : World) : Calls Tryz.prog 106 #[.int .i64 r] w fun e w' => e = .returned (.string (mkS (ltr r))) ∧ Below w.heap.size w w' := by
  have := rput_any r w
  rw [ltr_str] at this; exact this
/-- what is left of escape when its digits have been read -/
theorem escU_end {toml : Bool} {l : List UInt8} {n : Nat} (hg : ¬ (0 ≤ cdI l 2 n ∧ goodB (cdI l 2 n) = true)) (h : ¬ (toml = false ∧ 55296 ≤ cdI l 2 n ∧ cdI l 2 n < 56320 ∧ bt l 6 = 92 ∧ bt l 7 = 117 ∧ 56320 ≤ cdI l 8 4 ∧ cdI l 8 4 < 57344)) : escU toml l n = ([], 0) := by
  unfold escU; rw [if_neg hg, if_neg h]
theorem escU_pair {l : List UInt8} {n : Nat} (hg : goodB (cdI l 2 n) = false) (h : 55296 ≤ cdI l 2 n ∧ cdI l 2 n < 56320 ∧ bt l 6 = 92 ∧ bt l 7 = 117 ∧ 56320 ≤ cdI l 8 4 ∧ cdI l 8 4 < 57344) : escU false l n = (ltr (65536 + (cdI l 2 n - 55296) * 1024 + cdI l 8 4 - 56320), 12) := by
  unfold escU; rw [if_neg (by rw [hg]; simp), if_pos ⟨rfl, h⟩]
theorem escP_short {toml : Bool} {l : List UInt8} (h : bt l 1 = 256) : escP toml l = ([], 0) := by
  unfold escP; rw [h, nmV_256', if_neg (by omega), if_neg (by omega), if_neg (by omega)]
where nmV_256' : nmV toml 256 = 256 := by unfold nmV; simp
theorem escP_other {toml : Bool} {l : List UInt8} (h : plnB toml (bt l 1) = false) (h1 : ¬ (bt l 1 = 85 ∧ toml = true)) (h2 : bt l 1 ≠ 117) : escP toml l = ([], 0) := by
  have := of_decide_eq_false h
  unfold escP; rw [if_neg this, if_neg h1, if_neg h2]
theorem escP_named {toml : Bool} {l : List UInt8} (h : plnB toml (bt l 1) = true) : escP toml l = (plnS (bt l 1), 2) := by
  have := of_decide_eq_true h
  unfold escP; rw [if_pos this, pln_is toml _ this]
set_option maxRecDepth 100000 in
set_option maxHeartbeats 1000000 in
theorem resc_short (t : ByteArray) (a : Nat) (toml : Bool) (w : World) (ht : t.size ≤ 1000000) (ha : a < t.size) (h1 : t.size ≤ a + 1) :
    Calls Tryz.prog 68 #[.string t, .int .i64 (a : Int), .bool toml] w fun e w' => e = .returned (.tuple #[.string (mkS (escP toml (t.data.toList.drop a)).1), .int .i64 ((escP toml (t.data.toList.drop a)).2 : Nat)]) ∧ Below w.heap.size w w' := by
  have HZ := hid (size_list t)
  obtain ⟨l, hl⟩ : ∃ l, t.data.toList.drop a = l := ⟨_, rfl⟩
  have HBT : Hid (∀ k (h : a + k < t.size), bt l k = t[a + k].toNat) := fun k h => by rw [← hl, bt_drop]; exact bt_at t _ h
  have HBN : Hid (∀ k, t.size ≤ a + k → bt l k = 256) := fun k h => by rw [← hl, bt_drop]; exact bt_none (by rw [HZ.out]; exact h)
  rw [hl]
  clear hl
  have HR := hid (escP_short (toml := toml) (l := l) (HBN.out 1 h1))
  clear HBT
  go_enter Tryz.func68, Tryz.ntmps68
  go_wp2_with fail
  go_ret2
  exact ⟨ret_sn (by rw [HR.out]; rfl) (by rw [HR.out]; rfl), Below.refl _ _⟩
set_option maxRecDepth 100000 in
set_option maxHeartbeats 1000000 in
theorem resc_named (t : ByteArray) (a : Nat) (toml : Bool) (w : World) (ht : t.size ≤ 1000000) (h1 : a + 1 < t.size) (hp : plnB toml t[a + 1].toNat = true) :
    Calls Tryz.prog 68 #[.string t, .int .i64 (a : Int), .bool toml] w fun e w' => e = .returned (.tuple #[.string (mkS (escP toml (t.data.toList.drop a)).1), .int .i64 ((escP toml (t.data.toList.drop a)).2 : Nat)]) ∧ Below w.heap.size w w' := by
  have HZ := hid (size_list t)
  obtain ⟨l, hl⟩ : ∃ l, t.data.toList.drop a = l := ⟨_, rfl⟩
  have HBT : Hid (∀ k (h : a + k < t.size), bt l k = t[a + k].toNat) := fun k h => by rw [← hl, bt_drop]; exact bt_at t _ h
  have HBN : Hid (∀ k, t.size ≤ a + k → bt l k = 256) := fun k h => by rw [← hl, bt_drop]; exact bt_none (by rw [HZ.out]; exact h)
  rw [hl]
  clear hl
  have B1 := hid (HBT.out 1 h1)
  have HPL := hid (fun X => rplain5_any t[a + 1] toml X)
  have HR := hid (escP_named (toml := toml) (l := l) (by rw [B1.out]; exact hp))
  rw [B1.out] at HR
  rw [hp] at HPL
  clear hp HBT HBN
  go_enter Tryz.func68, Tryz.ntmps68
  go_wp2_with (go_at_call 103; go_must (refine (HPL.out _).mono ?_; rintro e w1 ⟨rfl, hb1⟩))
  go_ret2
  exact ⟨ret_sn (by rw [HR.out]) (by rw [HR.out]; rfl), hb1⟩
set_option maxRecDepth 100000 in
set_option maxHeartbeats 1000000 in
theorem resc_other (t : ByteArray) (a : Nat) (toml : Bool) (w : World) (ht : t.size ≤ 1000000) (h1 : a + 1 < t.size) (hp : plnB toml t[a + 1].toNat = false) (hU : ¬ (t[a + 1].toNat = 85 ∧ toml = true)) (hu : t[a + 1].toNat ≠ 117) :
    Calls Tryz.prog 68 #[.string t, .int .i64 (a : Int), .bool toml] w fun e w' => e = .returned (.tuple #[.string (mkS (escP toml (t.data.toList.drop a)).1), .int .i64 ((escP toml (t.data.toList.drop a)).2 : Nat)]) ∧ Below w.heap.size w w' := by
  have HZ := hid (size_list t)
  obtain ⟨l, hl⟩ : ∃ l, t.data.toList.drop a = l := ⟨_, rfl⟩
  have HBT : Hid (∀ k (h : a + k < t.size), bt l k = t[a + k].toNat) := fun k h => by rw [← hl, bt_drop]; exact bt_at t _ h
  have HBN : Hid (∀ k, t.size ≤ a + k → bt l k = 256) := fun k h => by rw [← hl, bt_drop]; exact bt_none (by rw [HZ.out]; exact h)
  rw [hl]
  clear hl
  have B1 := hid (HBT.out 1 h1)
  have HPL := hid (fun X => rplain5_any t[a + 1] toml X)
  have HR := hid (escP_other (toml := toml) (l := l) (by rw [B1.out]; exact hp) (by rw [B1.out]; exact hU) (by rw [B1.out]; exact hu))
  rw [hp] at HPL
  have g117 : ((t[a + 1].toNat : Int) != 117) = true := by rw [bne_iff_ne]; omega
  have gU : ((t[a + 1].toNat : Int) == 85) = false ∨ (((t[a + 1].toNat : Int) == 85) = true ∧ toml = false) := by
    by_cases h8 : t[a + 1].toNat = 85
    · right
      refine ⟨by rw [beq_iff_eq]; omega, ?_⟩
      cases toml with
      | false => rfl
      | true => exact absurd ⟨h8, rfl⟩ hU
    · left; rw [beq_eq_false_iff_ne]; omega
  clear hp HBT HBN hU hu B1
  rcases gU with gU | ⟨gU, rfl⟩
  all_goals
    go_enter Tryz.func68, Tryz.ntmps68
    go_wp2_with (go_at_call 103; go_must (refine (HPL.out _).mono ?_; rintro e w1 ⟨rfl, hb1⟩))
    go_ret2
    exact ⟨ret_sn (by rw [HR.out]; rfl) (by rw [HR.out]; rfl), hb1⟩
set_option maxRecDepth 100000 in
set_option maxHeartbeats 1000000 in
theorem resc_U (t : ByteArray) (a : Nat) (w : World) (ht : t.size ≤ 1000000) (h1 : a + 1 < t.size) (hp : plnB true t[a + 1].toNat = false) (hU1 : t[a + 1].toNat = 85) :
    Calls Tryz.prog 68 #[.string t, .int .i64 (a : Int), .bool true] w fun e w' => e = .returned (.tuple #[.string (mkS (escP true (t.data.toList.drop a)).1), .int .i64 ((escP true (t.data.toList.drop a)).2 : Nat)]) ∧ Below w.heap.size w w' := by
  have HZ := hid (size_list t)
  obtain ⟨l, hl⟩ : ∃ l, t.data.toList.drop a = l := ⟨_, rfl⟩
  have HBT : Hid (∀ k (h : a + k < t.size), bt l k = t[a + k].toNat) := fun k h => by rw [← hl, bt_drop]; exact bt_at t _ h
  have HBN : Hid (∀ k, t.size ≤ a + k → bt l k = 256) := fun k h => by rw [← hl, bt_drop]; exact bt_none (by rw [HZ.out]; exact h)
  have HCD : Hid (∀ (k n : Nat) (X : World), k ≤ 8 → 1 ≤ n → n ≤ 8 → Calls Tryz.prog 104 #[.string t, .int .i64 ((a : Int) + (k : Int)), .int .i64 (n : Int)] X fun e w' => e = .returned (.int .i64 (cdI l k n)) ∧ w' = X) := fun k n X hk hn hn8 => by
    have := code_any t (a + k) n X ht (by omega) hn hn8
    rw [← cdI_drop _ _ _ _ hn, hl] at this; exact this
  rw [hl]
  clear hl
  have B1 := hid (HBT.out 1 h1)
  have HPL := hid (fun X => rplain5_any t[a + 1] true X)
  rw [hp] at HPL
  have HE := hid (esc_U l (by rw [B1.out]; exact hU1))
  have HC : Hid (∀ X, Calls Tryz.prog 104 #[.string t, .int .i64 ((a : Int) + 2), .int .i64 8] X fun e w' => e = .returned (.int .i64 (cdI l 2 8)) ∧ w' = X) := fun X => HCD.out 2 8 X (by omega) (by omega) (by omega)
  have hv1 := cdI_ge l 2 8
  have hv2 := cdI_lt l 2 8
  have g85 : ((t[a + 1].toNat : Int) == 85) = true := by rw [beq_iff_eq]; omega
  have HGD := hid (fun X => rgood_any (cdI l 2 8) X)
  clear hp HBT HBN HCD B1 hU1
  cases hg : goodB (cdI l 2 8) with
  | true =>
    have hv0 : 0 ≤ cdI l 2 8 := by have := of_decide_eq_true hg; omega
    have HR := hid (HE.out.trans (escT_good hv0 hg))
    rw [hg] at HGD
    clear HE hg
    generalize cdI l 2 8 = v at *
    go_enter Tryz.func68, Tryz.ntmps68
    go_wp2_with (first
      | (go_at_call 103; go_must (refine (HPL.out _).mono ?_; rintro e w1 ⟨rfl, hb1⟩))
      | (go_at_call 104; go_must (refine (HC.out _).mono ?_; rintro e w2 ⟨rfl, hw2⟩; obtain rfl := hw2.symm))
      | (go_at_call 105; go_must (refine (HGD.out _).mono ?_; rintro e w3 ⟨rfl, hw3⟩; obtain rfl := hw3.symm))
      | (go_at_call 106; go_must (refine (rput_l _ _).mono ?_; rintro e w4 ⟨rfl, hb4⟩)))
    go_ret2
    exact ⟨ret_sn (by rw [HR.out]) (by rw [HR.out]; rfl), eonto hb1 hb4⟩
  | false =>
    have HR := hid (HE.out.trans (escT_bad hg))
    rw [hg] at HGD
    clear HE hg
    generalize cdI l 2 8 = v at *
    by_cases hv0 : 0 ≤ v
    all_goals
      go_enter Tryz.func68, Tryz.ntmps68
      go_wp2_with (first
        | (go_at_call 103; go_must (refine (HPL.out _).mono ?_; rintro e w1 ⟨rfl, hb1⟩))
        | (go_at_call 104; go_must (refine (HC.out _).mono ?_; rintro e w2 ⟨rfl, hw2⟩; obtain rfl := hw2.symm))
        | (go_at_call 105; go_must (refine (HGD.out _).mono ?_; rintro e w3 ⟨rfl, hw3⟩; obtain rfl := hw3.symm))
        | (go_at_call 106; go_must (refine (rput_l _ _).mono ?_; rintro e w4 ⟨rfl, hb4⟩)))
      go_ret2
      exact ⟨ret_sn (by rw [HR.out]; rfl) (by rw [HR.out]; rfl), hb1⟩
set_option maxRecDepth 100000 in
set_option maxHeartbeats 2000000 in
theorem resc_ug (t : ByteArray) (a : Nat) (toml : Bool) (w : World) (ht : t.size ≤ 1000000) (h1 : a + 1 < t.size) (hp : plnB toml t[a + 1].toNat = false) (hu : t[a + 1].toNat = 117) (hg : goodB (cdI (t.data.toList.drop a) 2 4) = true) :
    Calls Tryz.prog 68 #[.string t, .int .i64 (a : Int), .bool toml] w fun e w' => e = .returned (.tuple #[.string (mkS (escP toml (t.data.toList.drop a)).1), .int .i64 ((escP toml (t.data.toList.drop a)).2 : Nat)]) ∧ Below w.heap.size w w' := by
  have HZ := hid (size_list t)
  obtain ⟨l, hl⟩ : ∃ l, t.data.toList.drop a = l := ⟨_, rfl⟩
  have HBT : Hid (∀ k (h : a + k < t.size), bt l k = t[a + k].toNat) := fun k h => by rw [← hl, bt_drop]; exact bt_at t _ h
  have HBN : Hid (∀ k, t.size ≤ a + k → bt l k = 256) := fun k h => by rw [← hl, bt_drop]; exact bt_none (by rw [HZ.out]; exact h)
  have HCD : Hid (∀ (k n : Nat) (X : World), k ≤ 8 → 1 ≤ n → n ≤ 8 → Calls Tryz.prog 104 #[.string t, .int .i64 ((a : Int) + (k : Int)), .int .i64 (n : Int)] X fun e w' => e = .returned (.int .i64 (cdI l k n)) ∧ w' = X) := fun k n X hk hn hn8 => by
    have := code_any t (a + k) n X ht (by omega) hn hn8
    rw [← cdI_drop _ _ _ _ hn, hl] at this; exact this
  rw [hl] at hg ⊢
  clear hl
  have B1 := hid (HBT.out 1 h1)
  have HPL := hid (fun X => rplain5_any t[a + 1] toml X)
  rw [hp] at HPL
  have HE := hid (esc_u toml l (by rw [B1.out]; exact hu))
  have HC : Hid (∀ X, Calls Tryz.prog 104 #[.string t, .int .i64 ((a : Int) + 2), .int .i64 4] X fun e w' => e = .returned (.int .i64 (cdI l 2 4)) ∧ w' = X) := fun X => HCD.out 2 4 X (by omega) (by omega) (by omega)
  have HC2 : Hid (∀ X, Calls Tryz.prog 104 #[.string t, .int .i64 ((a : Int) + 8), .int .i64 4] X fun e w' => e = .returned (.int .i64 (cdI l 8 4)) ∧ w' = X) := fun X => HCD.out 8 4 X (by omega) (by omega) (by omega)
  have hv1 := cdI_ge l 2 4
  have hv2 := cdI_lt4 l 2
  have ho1 := cdI_ge l 8 4
  have ho2 := cdI_lt4 l 8
  have g85 : ((t[a + 1].toNat : Int) == 85) = false := by rw [beq_eq_false_iff_ne]; omega
  have g117 : ((t[a + 1].toNat : Int) != 117) = false := by rw [bne_eq_false_iff_eq]; omega
  have HGD := hid (fun X => rgood_any (cdI l 2 4) X)
  have hv0 : 0 ≤ cdI l 2 4 := by have := of_decide_eq_true hg; omega
  have HR := hid (HE.out.trans (show escU toml l 4 = (ltr (cdI l 2 4), 2 + 4) by unfold escU; rw [if_pos ⟨hv0, hg⟩]))
  rw [hg] at HGD
  clear hp HBT HBN HCD B1 hu HE hg HC2 ho1 ho2
  generalize cdI l 2 4 = v at *
  go_enter Tryz.func68, Tryz.ntmps68
  go_wp2_with (first
    | (go_at_call 103; go_must (refine (HPL.out _).mono ?_; rintro e w1 ⟨rfl, hb1⟩))
    | (go_at_call 104; go_must (refine (HC.out _).mono ?_; rintro e w2 ⟨rfl, hw2⟩; obtain rfl := hw2.symm))
    | (go_at_call 105; go_must (refine (HGD.out _).mono ?_; rintro e w3 ⟨rfl, hw3⟩; obtain rfl := hw3.symm))
    | (go_at_call 106; go_must (refine (rput_l _ _).mono ?_; rintro e w4 ⟨rfl, hb4⟩)))
  go_ret2
  exact ⟨ret_sn (by rw [HR.out]) (by rw [HR.out]; rfl), eonto hb1 hb4⟩
set_option maxRecDepth 100000 in
set_option maxHeartbeats 2000000 in
theorem resc_ub (t : ByteArray) (a : Nat) (toml : Bool) (w : World) (ht : t.size ≤ 1000000) (h1 : a + 1 < t.size) (hp : plnB toml t[a + 1].toNat = false) (hu : t[a + 1].toNat = 117) (hg : goodB (cdI (t.data.toList.drop a) 2 4) = false) (hn : toml = true ∨ cdI (t.data.toList.drop a) 2 4 < 0 ∨ 56320 ≤ cdI (t.data.toList.drop a) 2 4) :
    Calls Tryz.prog 68 #[.string t, .int .i64 (a : Int), .bool toml] w fun e w' => e = .returned (.tuple #[.string (mkS (escP toml (t.data.toList.drop a)).1), .int .i64 ((escP toml (t.data.toList.drop a)).2 : Nat)]) ∧ Below w.heap.size w w' := by
  have HZ := hid (size_list t)
  obtain ⟨l, hl⟩ : ∃ l, t.data.toList.drop a = l := ⟨_, rfl⟩
  have HBT : Hid (∀ k (h : a + k < t.size), bt l k = t[a + k].toNat) := fun k h => by rw [← hl, bt_drop]; exact bt_at t _ h
  have HBN : Hid (∀ k, t.size ≤ a + k → bt l k = 256) := fun k h => by rw [← hl, bt_drop]; exact bt_none (by rw [HZ.out]; exact h)
  have HCD : Hid (∀ (k n : Nat) (X : World), k ≤ 8 → 1 ≤ n → n ≤ 8 → Calls Tryz.prog 104 #[.string t, .int .i64 ((a : Int) + (k : Int)), .int .i64 (n : Int)] X fun e w' => e = .returned (.int .i64 (cdI l k n)) ∧ w' = X) := fun k n X hk hn hn8 => by
    have := code_any t (a + k) n X ht (by omega) hn hn8
    rw [← cdI_drop _ _ _ _ hn, hl] at this; exact this
  rw [hl] at hg hn ⊢
  clear hl
  have B1 := hid (HBT.out 1 h1)
  have HPL := hid (fun X => rplain5_any t[a + 1] toml X)
  rw [hp] at HPL
  have HE := hid (esc_u toml l (by rw [B1.out]; exact hu))
  have HC : Hid (∀ X, Calls Tryz.prog 104 #[.string t, .int .i64 ((a : Int) + 2), .int .i64 4] X fun e w' => e = .returned (.int .i64 (cdI l 2 4)) ∧ w' = X) := fun X => HCD.out 2 4 X (by omega) (by omega) (by omega)
  have HC2 : Hid (∀ X, Calls Tryz.prog 104 #[.string t, .int .i64 ((a : Int) + 8), .int .i64 4] X fun e w' => e = .returned (.int .i64 (cdI l 8 4)) ∧ w' = X) := fun X => HCD.out 8 4 X (by omega) (by omega) (by omega)
  have hv1 := cdI_ge l 2 4
  have hv2 := cdI_lt4 l 2
  have ho1 := cdI_ge l 8 4
  have ho2 := cdI_lt4 l 8
  have g85 : ((t[a + 1].toNat : Int) == 85) = false := by rw [beq_eq_false_iff_ne]; omega
  have g117 : ((t[a + 1].toNat : Int) != 117) = false := by rw [bne_eq_false_iff_eq]; omega
  have HGD := hid (fun X => rgood_any (cdI l 2 4) X)
  have HR := hid (HE.out.trans (escU_end (by rw [hg]; simp) (by rintro ⟨q1, q2, q3, -⟩; rcases hn with h | h | h; rw [h] at q1; cases q1; omega; omega)))
  rw [hg] at HGD
  clear hp HBT HBN HCD B1 hu HE hg HC2 ho1 ho2
  generalize cdI l 2 4 = v at *
  by_cases hv0 : 0 ≤ v
  · by_cases hv5 : 56320 ≤ v
    · cases toml
      all_goals
        go_enter Tryz.func68, Tryz.ntmps68
        go_wp2_with (first
          | (go_at_call 103; go_must (refine (HPL.out _).mono ?_; rintro e w1 ⟨rfl, hb1⟩))
          | (go_at_call 104; go_must (refine (HC.out _).mono ?_; rintro e w2 ⟨rfl, hw2⟩; obtain rfl := hw2.symm))
          | (go_at_call 105; go_must (refine (HGD.out _).mono ?_; rintro e w3 ⟨rfl, hw3⟩; obtain rfl := hw3.symm))
          | (go_at_call 106; go_must (refine (rput_l _ _).mono ?_; rintro e w4 ⟨rfl, hb4⟩)))
        go_ret2
        exact ⟨ret_sn (by rw [HR.out]; rfl) (by rw [HR.out]; rfl), hb1⟩
    · obtain rfl : toml = true := by rcases hn with h | h | h; exact h; omega; omega
      go_enter Tryz.func68, Tryz.ntmps68
      go_wp2_with (first
        | (go_at_call 103; go_must (refine (HPL.out _).mono ?_; rintro e w1 ⟨rfl, hb1⟩))
        | (go_at_call 104; go_must (refine (HC.out _).mono ?_; rintro e w2 ⟨rfl, hw2⟩; obtain rfl := hw2.symm))
        | (go_at_call 105; go_must (refine (HGD.out _).mono ?_; rintro e w3 ⟨rfl, hw3⟩; obtain rfl := hw3.symm))
        | (go_at_call 106; go_must (refine (rput_l _ _).mono ?_; rintro e w4 ⟨rfl, hb4⟩)))
      go_ret2
      exact ⟨ret_sn (by rw [HR.out]; rfl) (by rw [HR.out]; rfl), hb1⟩
  · cases toml
    all_goals
      go_enter Tryz.func68, Tryz.ntmps68
      go_wp2_with (first
        | (go_at_call 103; go_must (refine (HPL.out _).mono ?_; rintro e w1 ⟨rfl, hb1⟩))
        | (go_at_call 104; go_must (refine (HC.out _).mono ?_; rintro e w2 ⟨rfl, hw2⟩; obtain rfl := hw2.symm))
        | (go_at_call 105; go_must (refine (HGD.out _).mono ?_; rintro e w3 ⟨rfl, hw3⟩; obtain rfl := hw3.symm))
        | (go_at_call 106; go_must (refine (rput_l _ _).mono ?_; rintro e w4 ⟨rfl, hb4⟩)))
      go_ret2
      exact ⟨ret_sn (by rw [HR.out]; rfl) (by rw [HR.out]; rfl), hb1⟩
set_option maxRecDepth 100000 in
set_option maxHeartbeats 2000000 in
theorem resc_up (t : ByteArray) (a : Nat) (w : World) (ht : t.size ≤ 1000000) (h1 : a + 1 < t.size) (hp : plnB false t[a + 1].toNat = false) (hu : t[a + 1].toNat = 117) (hg : goodB (cdI (t.data.toList.drop a) 2 4) = false) (hn1 : 55296 ≤ cdI (t.data.toList.drop a) 2 4) (hn2 : cdI (t.data.toList.drop a) 2 4 < 56320) :
    Calls Tryz.prog 68 #[.string t, .int .i64 (a : Int), .bool false] w fun e w' => e = .returned (.tuple #[.string (mkS (escP false (t.data.toList.drop a)).1), .int .i64 ((escP false (t.data.toList.drop a)).2 : Nat)]) ∧ Below w.heap.size w w' := by
  have HZ := hid (size_list t)
  obtain ⟨l, hl⟩ : ∃ l, t.data.toList.drop a = l := ⟨_, rfl⟩
  have HBT : Hid (∀ k (h : a + k < t.size), bt l k = t[a + k].toNat) := fun k h => by rw [← hl, bt_drop]; exact bt_at t _ h
  have HBN : Hid (∀ k, t.size ≤ a + k → bt l k = 256) := fun k h => by rw [← hl, bt_drop]; exact bt_none (by rw [HZ.out]; exact h)
  have HCD : Hid (∀ (k n : Nat) (X : World), k ≤ 8 → 1 ≤ n → n ≤ 8 → Calls Tryz.prog 104 #[.string t, .int .i64 ((a : Int) + (k : Int)), .int .i64 (n : Int)] X fun e w' => e = .returned (.int .i64 (cdI l k n)) ∧ w' = X) := fun k n X hk hn hn8 => by
    have := code_any t (a + k) n X ht (by omega) hn hn8
    rw [← cdI_drop _ _ _ _ hn, hl] at this; exact this
  rw [hl] at hg hn1 hn2 ⊢
  clear hl
  have B1 := hid (HBT.out 1 h1)
  have HPL := hid (fun X => rplain5_any t[a + 1] false X)
  rw [hp] at HPL
  have HE := hid (esc_u false l (by rw [B1.out]; exact hu))
  have HC : Hid (∀ X, Calls Tryz.prog 104 #[.string t, .int .i64 ((a : Int) + 2), .int .i64 4] X fun e w' => e = .returned (.int .i64 (cdI l 2 4)) ∧ w' = X) := fun X => HCD.out 2 4 X (by omega) (by omega) (by omega)
  have HC2 : Hid (∀ X, Calls Tryz.prog 104 #[.string t, .int .i64 ((a : Int) + 8), .int .i64 4] X fun e w' => e = .returned (.int .i64 (cdI l 8 4)) ∧ w' = X) := fun X => HCD.out 8 4 X (by omega) (by omega) (by omega)
  have hv1 := cdI_ge l 2 4
  have hv2 := cdI_lt4 l 2
  have ho1 := cdI_ge l 8 4
  have ho2 := cdI_lt4 l 8
  have g85 : ((t[a + 1].toNat : Int) == 85) = false := by rw [beq_eq_false_iff_ne]; omega
  have g117 : ((t[a + 1].toNat : Int) != 117) = false := by rw [bne_eq_false_iff_eq]; omega
  have HGD := hid (fun X => rgood_any (cdI l 2 4) X)
  have HEND := hid (fun h => HE.out.trans (escU_end (toml := false) (l := l) (n := 4) (by rw [hg]; simp) h))
  have HPAIR := hid (fun h => HE.out.trans (escU_pair (l := l) (n := 4) hg h))
  rw [hg] at HGD
  have B6 := hid (fun h => HBT.out 6 h)
  have B7 := hid (fun h => HBT.out 7 h)
  have N7 := hid (HBN.out 7)
  clear hp HBT HBN HCD B1 hu HE hg
  by_cases h8 : a + 7 < t.size
  · have d8 : decide ((a : Int) + 8 ≤ (t.size : Int)) = true := decide_eq_true (by omega)
    have B6' := hid (B6.out (by omega))
    have B7' := hid (B7.out h8)
    by_cases h6 : t[a + 6].toNat = 92
    · have d6 : ((t[a + 6].toNat : Int) == 92) = true := by rw [beq_iff_eq]; omega
      by_cases h7 : t[a + 7].toNat = 117
      · have d7 : ((t[a + 7].toNat : Int) == 117) = true := by rw [beq_iff_eq]; omega
        by_cases ho : 56320 ≤ cdI l 8 4 ∧ cdI l 8 4 < 57344
        · have HR := hid (HPAIR.out ⟨hn1, hn2, by rw [B6'.out]; exact h6, by rw [B7'.out]; exact h7, ho⟩)
          obtain ⟨ho3, ho4⟩ := ho
          clear HEND HPAIR B6 B7 N7 B6' B7' h6 h7
          generalize cdI l 2 4 = v at *
          generalize cdI l 8 4 = o at *
          go_enter Tryz.func68, Tryz.ntmps68
          go_wp2_with (first
            | (go_at_call 103; go_must (refine (HPL.out _).mono ?_; rintro e w1 ⟨rfl, hb1⟩))
            | (go_at_call 104; go_must (first | ((with_reducible refine (HC2.out _).mono ?_); rintro e w2 ⟨rfl, hw2⟩; obtain rfl := hw2.symm) | ((with_reducible refine (HC.out _).mono ?_); rintro e w2 ⟨rfl, hw2⟩; obtain rfl := hw2.symm)))
            | (go_at_call 105; go_must (refine (HGD.out _).mono ?_; rintro e w3 ⟨rfl, hw3⟩; obtain rfl := hw3.symm))
            | (go_at_call 106; go_must (refine (rput_l _ _).mono ?_; rintro e w4 ⟨rfl, hb4⟩)))
          go_ret2
          exact ⟨ret_sn (by rw [HR.out]) (by rw [HR.out]; rfl), eonto hb1 hb4⟩
        · have HR := hid (HEND.out (by rintro ⟨-, -, -, -, -, q⟩; exact ho q))
          have ho' : cdI l 8 4 < 56320 ∨ 57344 ≤ cdI l 8 4 := by omega
          clear HEND HPAIR B6 B7 N7 B6' B7' h6 h7 ho
          generalize cdI l 2 4 = v at *
          generalize cdI l 8 4 = o at *
          rcases ho' with ho | ho
          all_goals
            go_enter Tryz.func68, Tryz.ntmps68
            go_wp2_with (first
              | (go_at_call 103; go_must (refine (HPL.out _).mono ?_; rintro e w1 ⟨rfl, hb1⟩))
              | (go_at_call 104; go_must (first | ((with_reducible refine (HC2.out _).mono ?_); rintro e w2 ⟨rfl, hw2⟩; obtain rfl := hw2.symm) | ((with_reducible refine (HC.out _).mono ?_); rintro e w2 ⟨rfl, hw2⟩; obtain rfl := hw2.symm)))
              | (go_at_call 105; go_must (refine (HGD.out _).mono ?_; rintro e w3 ⟨rfl, hw3⟩; obtain rfl := hw3.symm))
              | (go_at_call 106; go_must (refine (rput_l _ _).mono ?_; rintro e w4 ⟨rfl, hb4⟩)))
            go_ret2
            exact ⟨ret_sn (by rw [HR.out]; rfl) (by rw [HR.out]; rfl), hb1⟩
      · have HR := hid (HEND.out (by rintro ⟨-, -, -, -, q, -⟩; rw [B7'.out] at q; exact h7 q))
        have d7 : ((t[a + 7].toNat : Int) == 117) = false := by rw [beq_eq_false_iff_ne]; omega
        clear HEND HPAIR B6 B7 N7 B6' B7' h6 h7 HC2
        generalize cdI l 2 4 = v at *
        go_enter Tryz.func68, Tryz.ntmps68
        go_wp2_with (first
          | (go_at_call 103; go_must (refine (HPL.out _).mono ?_; rintro e w1 ⟨rfl, hb1⟩))
          | (go_at_call 104; go_must (refine (HC.out _).mono ?_; rintro e w2 ⟨rfl, hw2⟩; obtain rfl := hw2.symm))
          | (go_at_call 105; go_must (refine (HGD.out _).mono ?_; rintro e w3 ⟨rfl, hw3⟩; obtain rfl := hw3.symm))
          | (go_at_call 106; go_must (refine (rput_l _ _).mono ?_; rintro e w4 ⟨rfl, hb4⟩)))
        go_ret2
        exact ⟨ret_sn (by rw [HR.out]; rfl) (by rw [HR.out]; rfl), hb1⟩
    · have HR := hid (HEND.out (by rintro ⟨-, -, -, q, -⟩; rw [B6'.out] at q; exact h6 q))
      have d6 : ((t[a + 6].toNat : Int) == 92) = false := by rw [beq_eq_false_iff_ne]; omega
      clear HEND HPAIR B6 B7 N7 B6' B7' h6 HC2
      generalize cdI l 2 4 = v at *
      go_enter Tryz.func68, Tryz.ntmps68
      go_wp2_with (first
        | (go_at_call 103; go_must (refine (HPL.out _).mono ?_; rintro e w1 ⟨rfl, hb1⟩))
        | (go_at_call 104; go_must (refine (HC.out _).mono ?_; rintro e w2 ⟨rfl, hw2⟩; obtain rfl := hw2.symm))
        | (go_at_call 105; go_must (refine (HGD.out _).mono ?_; rintro e w3 ⟨rfl, hw3⟩; obtain rfl := hw3.symm))
        | (go_at_call 106; go_must (refine (rput_l _ _).mono ?_; rintro e w4 ⟨rfl, hb4⟩)))
      go_ret2
      exact ⟨ret_sn (by rw [HR.out]; rfl) (by rw [HR.out]; rfl), hb1⟩
  · have d8 : decide ((a : Int) + 8 ≤ (t.size : Int)) = false := decide_eq_false (by omega)
    have HR := hid (HEND.out (by rintro ⟨-, -, -, -, q, -⟩; rw [N7.out (by omega)] at q; omega))
    clear HEND HPAIR B6 B7 N7 HC2
    generalize cdI l 2 4 = v at *
    go_enter Tryz.func68, Tryz.ntmps68
    go_wp2_with (first
      | (go_at_call 103; go_must (refine (HPL.out _).mono ?_; rintro e w1 ⟨rfl, hb1⟩))
      | (go_at_call 104; go_must (refine (HC.out _).mono ?_; rintro e w2 ⟨rfl, hw2⟩; obtain rfl := hw2.symm))
      | (go_at_call 105; go_must (refine (HGD.out _).mono ?_; rintro e w3 ⟨rfl, hw3⟩; obtain rfl := hw3.symm))
      | (go_at_call 106; go_must (refine (rput_l _ _).mono ?_; rintro e w4 ⟨rfl, hb4⟩)))
    go_ret2
    exact ⟨ret_sn (by rw [HR.out]; rfl) (by rw [HR.out]; rfl), hb1⟩
/-- escape, whatever stands there -/
theorem rescape_any (t : ByteArray) (a : Nat) (toml : Bool) (w : World) (ht : t.size ≤ 1000000) (ha : a < t.size) :
    Calls Tryz.prog 68 #[.string t, .int .i64 (a : Int), .bool toml] w fun e w' => e = .returned (.tuple #[.string (mkS (escP toml (t.data.toList.drop a)).1), .int .i64 ((escP toml (t.data.toList.drop a)).2 : Nat)]) ∧ Below w.heap.size w w' := by
  by_cases h1 : a + 1 < t.size
  · cases hp : plnB toml t[a + 1].toNat with
    | true => exact resc_named t a toml w ht h1 hp
    | false =>
      by_cases hU : t[a + 1].toNat = 85 ∧ toml = true
      · obtain ⟨hU1, rfl⟩ := hU
        exact resc_U t a w ht h1 hp hU1
      · by_cases hu : t[a + 1].toNat = 117
        · cases hg : goodB (cdI (t.data.toList.drop a) 2 4) with
          | true => exact resc_ug t a toml w ht h1 hp hu hg
          | false =>
            by_cases hn : toml = true ∨ cdI (t.data.toList.drop a) 2 4 < 0 ∨ 56320 ≤ cdI (t.data.toList.drop a) 2 4
            · exact resc_ub t a toml w ht h1 hp hu hg hn
            · obtain rfl : toml = false := by
                cases toml with
                | false => rfl
                | true => exact absurd (Or.inl rfl) hn
              have hgg := of_decide_eq_false hg
              have hv2 := cdI_lt4 (t.data.toList.drop a) 2
              exact resc_up t a w ht h1 hp hu hg (by omega) (by omega)
        · exact resc_other t a toml w ht h1 hp hU hu
  · exact resc_short t a toml w ht ha (by omega)
end Go.Proofs.YtlapefhnbbcmmaaGreatDoor
namespace Go.Proofs.YtlapefhnbbcmmaaGreatDoor
open Go.RowKit

/-- all of a text's first bytes are so, as far as the j-th -/
def allF (p : UInt8 → Bool) (D : List UInt8) (j : Nat) : Prop := ∀ k, k < j → ∃ b, D[k]? = some b ∧ p b = true
theorem allF_zero (p : UInt8 → Bool) (D : List UInt8) : allF p D 0 := fun k hk => absurd hk (Nat.not_lt_zero k)
theorem allF_succ {p : UInt8 → Bool} {D : List UInt8} {j : Nat} {b : UInt8} (h : allF p D j) (hb : D[j]? = some b) (hp : p b = true) : allF p D (j + 1) := fun k hk => by
  by_cases e : k = j
  · subst e; exact ⟨b, hb, hp⟩
  · exact h k (by omega)
theorem allF_end {p : UInt8 → Bool} {D : List UInt8} {j : Nat} (h : allF p D j) (hl : D.length ≤ j) : run p D = j := run_eq p D j h (fun b hb => by rw [List.getElem?_eq_none hl] at hb; cases hb)
theorem allF_stop {p : UInt8 → Bool} {D : List UInt8} {j : Nat} {b : UInt8} (h : allF p D j) (hb : D[j]? = some b) (hp : p b = false) : run p D = j := run_eq p D j h (fun c hc => by rw [hb] at hc; cases hc; exact hp)
theorem edrop_at (t : ByteArray) (a k : Nat) (h : a + k < t.size) : (t.data.toList.drop a)[k]? = some t[a + k] := by
  rw [List.getElem?_drop, List.getElem?_eq_getElem (by rw [size_list]; exact h)]; rfl
theorem bk_yes {b : UInt8} (h : b.toNat = 32 ∨ b.toNat = 9) : bkB b = true := decide_eq_true h
theorem bk_no {b : UInt8} (h : ¬ (b.toNat = 32 ∨ b.toNat = 9)) : bkB b = false := decide_eq_false h
def fdM (many : Bool) (l : List UInt8) : Nat := if many = true then fdN l else 0
set_option maxRecDepth 100000 in
set_option maxHeartbeats 4000000 in
theorem rfolded_any (t : ByteArray) (a : Nat) (many : Bool) (w : World) (ht : t.size ≤ 1000000) (ha : a < t.size) :
    Calls Tryz.prog 67 #[.string t, .int .i64 (a : Int), .bool many] w fun e w' => e = .returned (.int .i64 (fdM many (t.data.toList.drop a) : Nat)) ∧ w' = w := by
  have HZ := hid (size_list t)
  have HD : Hid ((t.data.toList.drop a).drop 1 = t.data.toList.drop (a + 1)) := (List.drop_drop ..)
  have HDL := hid (show (t.data.toList.drop (a + 1)).length = t.size - (a + 1) by rw [List.length_drop, HZ.out])
  go_enter Tryz.func67, Tryz.ntmps67
  go_wp2_with fail
  go_loop [7] (fun i => ∃ j : Nat, a + 1 + j ≤ t.size ∧ i = .int .i64 ((a + 1 + j : Nat) : Int) ∧ Hid (allF bkB (t.data.toList.drop (a + 1)) j)) (fun i => t.size - (intOf i).toNat)
  case atStart => exact ⟨0, by omega, val_int (by omega), allF_zero _ _⟩
  case round =>
    obtain ⟨j, hj, rfl, HJ⟩ := hrel
    obtain ⟨p, hp⟩ : ∃ p, a + 1 + j = p := ⟨_, rfl⟩
    have HP := hid hp
    rw [hp] at hj ⊢
    have hap : a + 1 ≤ p := by omega
    by_cases hlt : p < t.size
    · have HAT := hid (edrop_at t (a + 1) j (by rw [hp]; exact hlt))
      simp only [hp] at HAT
      by_cases hb : t[p].toNat = 32 ∨ t[p].toNat = 9
      · have HA := hid (allF_succ HJ.out HAT.out (bk_yes hb))
        have hb' : ((t[p].toNat : Int) == 32) = true ∨ (((t[p].toNat : Int) == 32) = false ∧ ((t[p].toNat : Int) == 9) = true) := by simp only [beq_iff_eq, beq_eq_false_iff_ne]; omega
        clear hb HAT hp
        rcases hb' with g | ⟨g, g2⟩
        all_goals
          go_wp2_with fail
          go_round
          case rel => exact ⟨j + 1, by have := HP.out; omega, val_int (by have := HP.out; omega), HA.out⟩
          case measure => simp [intOf]; omega
      · have HRUN := hid (allF_stop HJ.out HAT.out (bk_no hb))
        have HREST : Hid ((t.data.toList.drop (a + 1)).drop j = t.data.toList.drop p) := by
          show _ = _
          rw [List.drop_drop, hp]
        have HF : Hid (fdM many (t.data.toList.drop a) = if many = true then (if lnE (t.data.toList.drop p) = 0 then 0 else 1 + j + run blB (t.data.toList.drop p)) else 0) := by
          show _ = _
          unfold fdM fdN
          rw [HD.out, HRUN.out, HREST.out]
        have e1 : ((t[p].toNat : Int) == 32) = false := by rw [beq_eq_false_iff_ne]; omega
        have e2 : ((t[p].toNat : Int) == 9) = false := by rw [beq_eq_false_iff_ne]; omega
        have BP := hid (show bt (t.data.toList.drop p) 0 = t[p].toNat by rw [bt_drop]; exact bt_at t p hlt)
        have BP1 : Hid (∀ h : p + 1 < t.size, bt (t.data.toList.drop p) 1 = t[p + 1].toNat) := fun h => by rw [bt_drop]; exact bt_at t (p + 1) h
        have BN1 : Hid (t.size ≤ p + 1 → bt (t.data.toList.drop p) 1 = 256) := fun h => by rw [bt_drop]; exact bt_none (by rw [HZ.out]; exact h)
        clear hb HAT HJ HREST HRUN hp
        cases many with
        | false =>
          rw [if_neg (by decide)] at HF
          go_wp2_with fail
          go_ret
          exact ⟨ret_int (by rw [HF.out]; rfl), rfl⟩
        | true =>
          rw [if_pos rfl] at HF
          by_cases hln : lnE (t.data.toList.drop p) = 0
          · have HR := hid (show fdM true (t.data.toList.drop a) = 0 by rw [HF.out, if_pos hln])
            have n10 : ((t[p].toNat : Int) != 10) = true := by
              rw [bne_iff_ne]; intro h
              unfold lnE at hln
              rw [BP.out, if_pos (by omega)] at hln; omega
            by_cases h13 : t[p].toNat = 13
            · have e13 : ((t[p].toNat : Int) == 13) = true := by rw [beq_iff_eq]; omega
              by_cases hn : p + 1 < t.size
              · have d1 : decide ((p : Int) + 1 < (t.size : Int)) = true := decide_eq_true (by omega)
                have e10 : ((t[p + 1].toNat : Int) == 10) = false := by
                  rw [beq_eq_false_iff_ne]; intro h
                  unfold lnE at hln
                  rw [BP.out, BP1.out hn, if_neg (by omega), if_pos ⟨h13, by omega⟩] at hln; omega
                clear HF hln h13
                go_wp2_with fail
                go_ret
                exact ⟨ret_int (by rw [HR.out]; rfl), rfl⟩
              · have d1 : decide ((p : Int) + 1 < (t.size : Int)) = false := decide_eq_false (by omega)
                clear HF hln h13
                go_wp2_with fail
                go_ret
                exact ⟨ret_int (by rw [HR.out]; rfl), rfl⟩
            · have e13 : ((t[p].toNat : Int) == 13) = false := by rw [beq_eq_false_iff_ne]; omega
              clear HF hln h13
              go_wp2_with fail
              go_ret
              exact ⟨ret_int (by rw [HR.out]; rfl), rfl⟩
          · rw [if_neg hln] at HF
            have HL : ((t[p].toNat : Int) != 10) = false ∨ (((t[p].toNat : Int) != 10) = true ∧ ((t[p].toNat : Int) == 13) = true ∧ decide ((p : Int) + 1 < (t.size : Int)) = true ∧ ∃ h : p + 1 < t.size, ((t[p + 1].toNat : Int) == 10) = true) := by
              unfold lnE at hln
              rw [BP.out] at hln
              by_cases h10 : t[p].toNat = 10
              · left; rw [bne_eq_false_iff_eq]; omega
              · rw [if_neg h10] at hln
                by_cases h13 : t[p].toNat = 13 ∧ bt (t.data.toList.drop p) 1 = 10
                · right
                  have hn : p + 1 < t.size := by
                    by_cases hn : p + 1 < t.size
                    · exact hn
                    · have := BN1.out (by omega); omega
                  have := BP1.out hn
                  exact ⟨by rw [bne_iff_ne]; omega, by rw [beq_iff_eq]; omega, decide_eq_true (by omega), hn, by rw [beq_iff_eq]; omega⟩
                · rw [if_neg h13] at hln; exact absurd rfl hln
            have HQL := hid (show (t.data.toList.drop p).length = t.size - p by rw [List.length_drop, HZ.out])
            have HJP := hid (show p = a + 1 + j from HP.out.symm)
            clear hln HP BP BP1 BN1
            rcases HL with g | ⟨g, g2, g3, g4, g5⟩
            all_goals
              go_wp2_with fail
              go_loop [7] (fun i => ∃ k : Nat, p + k ≤ t.size ∧ i = .int .i64 ((p + k : Nat) : Int) ∧ Hid (allF blB (t.data.toList.drop p) k)) (fun i => t.size - (intOf i).toNat)
              case atStart => exact ⟨0, by omega, val_int (by omega), allF_zero _ _⟩
              case round =>
                obtain ⟨k, hk, rfl, HK⟩ := hrel
                obtain ⟨q, hq⟩ : ∃ q, p + k = q := ⟨_, rfl⟩
                have HQ := hid hq
                rw [hq] at hk ⊢
                have hpq : p ≤ q := by omega
                by_cases hltq : q < t.size
                · have HAT := hid (edrop_at t p k (by rw [hq]; exact hltq))
                  simp only [hq] at HAT
                  by_cases hb : t[q].toNat = 32 ∨ t[q].toNat = 9 ∨ t[q].toNat = 10 ∨ t[q].toNat = 13
                  · have HA := hid (allF_succ HK.out HAT.out (show blB t[q] = true from decide_eq_true hb))
                    have hb' : ((t[q].toNat : Int) == 32) = true ∨ (((t[q].toNat : Int) == 32) = false ∧ ((t[q].toNat : Int) == 9) = true) ∨ (((t[q].toNat : Int) == 32) = false ∧ ((t[q].toNat : Int) == 9) = false ∧ ((t[q].toNat : Int) == 10) = true) ∨ (((t[q].toNat : Int) == 32) = false ∧ ((t[q].toNat : Int) == 9) = false ∧ ((t[q].toNat : Int) == 10) = false ∧ ((t[q].toNat : Int) == 13) = true) := by simp only [beq_iff_eq, beq_eq_false_iff_ne]; omega
                    clear hb HAT hq
                    rcases hb' with f1 | ⟨f1, f2⟩ | ⟨f1, f2, f3⟩ | ⟨f1, f2, f3, f4⟩
                    all_goals
                      go_wp2_with fail
                      go_round
                      case rel => exact ⟨k + 1, by have := HQ.out; omega, val_int (by have := HQ.out; omega), HA.out⟩
                      case measure => simp [intOf]; omega
                  · have HRUN := hid (allF_stop HK.out HAT.out (show blB t[q] = false from decide_eq_false hb))
                    have f1 : ((t[q].toNat : Int) == 32) = false := by rw [beq_eq_false_iff_ne]; omega
                    have f2 : ((t[q].toNat : Int) == 9) = false := by rw [beq_eq_false_iff_ne]; omega
                    have f3 : ((t[q].toNat : Int) == 10) = false := by rw [beq_eq_false_iff_ne]; omega
                    have f4 : ((t[q].toNat : Int) == 13) = false := by rw [beq_eq_false_iff_ne]; omega
                    clear hb HAT hq
                    go_wp2_with fail
                    go_ret
                    exact ⟨ret_int (by rw [HF.out, HRUN.out]; have := HQ.out; have := HJP.out; omega), rfl⟩
                · have HRUN := hid (allF_end HK.out (by rw [HQL.out]; omega))
                  clear hq
                  go_wp2_with fail
                  go_ret
                  exact ⟨ret_int (by rw [HF.out, HRUN.out]; have := HQ.out; have := HJP.out; omega), rfl⟩
    · have HRUN := hid (allF_end HJ.out (by rw [HDL.out]; omega))
      have HR : Hid (fdM many (t.data.toList.drop a) = 0) := by
        show _ = _
        unfold fdM fdN
        rw [HD.out, HRUN.out]
        have : lnE ((t.data.toList.drop (a + 1)).drop j) = 0 := by
          unfold lnE
          rw [bt_none (by rw [List.length_drop, HDL.out]; omega), if_neg (by omega), if_neg (by omega)]
        rw [this]; simp
      clear hp HJ HRUN
      cases many
      all_goals
        go_wp2_with fail
        go_ret
        exact ⟨ret_int (by rw [HR.out]; rfl), rfl⟩
end Go.Proofs.YtlapefhnbbcmmaaGreatDoor
namespace Go.Proofs.YtlapefhnbbcmmaaGreatDoor
open Go.RowKit

theorem mkS_app (a b : List UInt8) : mkS a ++ mkS b = mkS (a ++ b) := by
  refine mkS_of _ _ ?_
  rw [ByteArray.data_append, Array.toList_append]
  show (mkS a).data.toList ++ (mkS b).data.toList = _
  rw [mkS_list, mkS_list]
theorem ext_mkS (t : ByteArray) (i n : Nat) : t.extract i (i + n) = mkS ((t.data.toList.drop i).take n) := mkS_of _ _ (by rw [drop_ext, Nat.add_sub_cancel_left])
theorem oE_no {q : Nat} {l : List UInt8} (h : bt l 0 ≠ q) : (oE q l).2 = 0 := by unfold oE; rw [if_neg h]
theorem oE_yes {q : Nat} {l : List UInt8} (h : bt l 0 = q) : oE q l = ([], 1) := by unfold oE; rw [if_pos h]
end Go.Proofs.YtlapefhnbbcmmaaGreatDoor
