/- The document's own Hex, Bare, code, place, plain of chapter 6: walked. -/
import Derived.Test.YtoamndiblckdlaaGreatDoorEscD
namespace Go.Proofs.YtoamndiblckdlaaGreatDoor
open Go.RowKit

theorem hx_parts {b : UInt8} (h : hxI b = true) : (48 ≤ (b.toNat : Int) ∧ (b.toNat : Int) ≤ 57 ∧ (hxV b : Int) = (b.toNat : Int) - 48) ∨ (97 ≤ (b.toNat : Int) ∧ (b.toNat : Int) ≤ 102 ∧ (hxV b : Int) = (b.toNat : Int) - 87) ∨ (65 ≤ (b.toNat : Int) ∧ (b.toNat : Int) ≤ 70 ∧ (hxV b : Int) = (b.toNat : Int) - 55) := by
  unfold hxI at h; simp only [Bool.or_eq_true, decide_eq_true_eq] at h
  unfold hxV
  rcases h with (h | h) | h
  · left; refine ⟨by omega, by omega, ?_⟩; rw [if_pos (by omega)]; omega
  · right; left; refine ⟨by omega, by omega, ?_⟩; rw [if_neg (by omega), if_neg (by omega)]; omega
  · right; right; refine ⟨by omega, by omega, ?_⟩; rw [if_neg (by omega), if_pos (by omega)]; omega
theorem hx_gaps {b : UInt8} (h : hxI b = false) : (b.toNat : Int) < 48 ∨ (57 < (b.toNat : Int) ∧ (b.toNat : Int) < 65) ∨ (70 < (b.toNat : Int) ∧ (b.toNat : Int) < 97) ∨ 102 < (b.toNat : Int) := by
  have h1 : ¬ hxI b = true := by rw [h]; decide
  unfold hxI at h1; simp only [Bool.or_eq_true, decide_eq_true_eq] at h1
  omega
set_option maxRecDepth 100000 in
set_option maxHeartbeats 2000000 in
theorem rhex_any (s : ByteArray) (w : World) (hs : s.size ≤ maxLen) :
    Calls Tryz.prog 64 #[.string s] w fun e w' => e = .returned (.tuple #[.int .i64 (hexR s.data.toList : Nat), .bool (hexB s.data.toList)]) ∧ w' = w := by
  unfold maxLen at hs
  have HZ := hid (size_list s)
  go_enter Tryz.func64, Tryz.ntmps64
  go_wp2_with fail
  go_loop [4, 5] (fun v i => ∃ j : Nat, j ≤ s.size ∧ j ≤ 8 ∧ i = .int .i64 j ∧ v = .int .i64 (hexF (s.data.toList.take j) : Nat) ∧ Hid ((s.data.toList.take j).all hxI = true)) (fun _ i => s.size - (intOf i).toNat)
  case atStart => exact ⟨0, Nat.zero_le _, by omega, rfl, rfl, rfl⟩
  case round =>
    obtain ⟨j, hj, hj8, rfl, rfl, HJ⟩ := hrel
    have hF : hexF (s.data.toList.take j) < 4294967296 := hexF_lt8 _ HJ.out (by rw [List.length_take]; omega)
    by_cases hlt : j < s.size
    · have hb : (s[j].toNat : Int) < 256 := by have := s[j].toNat_lt; omega
      cases hx : hxI s[j] with
      | true =>
        have HS := hid (show (hexF (s.data.toList.take (j + 1)) : Int) = 16 * (hexF (s.data.toList.take j) : Int) + (hxV s[j] : Int) by rw [take_snoc s j hlt, hexF_snoc]; omega)
        have HA := hid (show (s.data.toList.take (j + 1)).all hxI = true by rw [take_snoc s j hlt, List.all_append, HJ.out]; simp [hx])
        have hp := hx_parts hx
        by_cases h8 : j < 8
        · clear hx
          rcases hp with ⟨g1, g2, g3⟩ | ⟨g1, g2, g3⟩ | ⟨g1, g2, g3⟩
          all_goals
            have HV := hid g3
            clear g3
            go_wp2_with fail
            go_round
            case rel => exact ⟨j + 1, hlt, h8, val_int (by omega), val_int (by rw [HS.out, HV.out]; try omega), HA.out⟩
            case measure => simp [intOf]; omega
        · have HB := hid (show hexB s.data.toList = false by unfold hexB; rw [HZ.out, decide_eq_false (by omega)]; rfl)
          clear hx
          rcases hp with ⟨g1, g2, g3⟩ | ⟨g1, g2, g3⟩ | ⟨g1, g2, g3⟩
          all_goals
            clear g3
            go_wp2_with fail
            go_ret2
            exact ⟨ret_ib (by rw [hexR_no HB.out]; rfl) HB.out.symm, rfl⟩
      | false =>
        have HB := hid (hexB_mid hlt hx)
        have hp := hx_gaps hx
        clear hx
        rcases hp with g1 | ⟨g1, g2⟩ | ⟨g1, g2⟩ | g1
        all_goals
          go_wp2_with fail
          go_ret2
          exact ⟨ret_ib (by rw [hexR_no HB.out]; rfl) HB.out.symm, rfl⟩
    · have HT := hid (show s.data.toList.take j = s.data.toList from List.take_of_length_le (by rw [HZ.out]; omega))
      have HB := hid (show hexB s.data.toList = !s.toList.isEmpty by
        unfold hexB; rw [HZ.out]
        have := HJ.out; rw [HT.out] at this
        rw [this, Bool.and_true, ByteArray.toList_eq]
        have hz := HZ.out
        cases hl : s.data.toList with
        | nil => rw [hl] at hz; rw [← hz]; rfl
        | cons a t => rw [hl] at hz; rw [decide_eq_true (by simp at hz; omega)]; rfl)
      have HR := hid (show hexR s.data.toList = hexF s.data.toList by
        unfold hexR
        rw [HB.out]
        cases hl : s.toList.isEmpty with
        | true =>
          rw [List.isEmpty_iff, ByteArray.toList_eq] at hl
          rw [hl]; rfl
        | false => rfl)
      go_wp2_with fail
      go_ret2
      exact ⟨ret_ib (by rw [HR.out, HT.out]) (by rw [HB.out]), rfl⟩
set_option maxRecDepth 100000 in
set_option maxHeartbeats 1000000 in
theorem code_any (t : ByteArray) (k n : Nat) (w : World) (ht : t.size ≤ 1000000) (hk : k ≤ 1000010) (hn : 1 ≤ n) (hn8 : n ≤ 8) :
    Calls Tryz.prog 50 #[.string t, .int .i64 (k : Int), .int .i64 (n : Int)] w fun e w' => e = .returned (.int .i64 (cdI t.data.toList k n)) ∧ w' = w := by
  have HZ := hid (size_list t)
  by_cases h : t.size < k + n
  · have HC := hid (cdI_short t.data.toList k n (by rw [HZ.out]; exact h))
    have g : (t.size : Int) - (n : Int) < (k : Int) := by omega
    go_enter Tryz.func50, Tryz.ntmps50
    go_wp2_with fail
    go_ret
    exact ⟨ret_int HC.out.symm, rfl⟩
  · have g : ¬ (t.size : Int) - (n : Int) < (k : Int) := by omega
    obtain ⟨m, hm⟩ : ∃ m, t.extract k (k + n) = m := ⟨_, rfl⟩
    have hml : m.data.toList = (t.data.toList.drop k).take n := by rw [← hm, drop_ext, Nat.add_sub_cancel_left]
    have HH := hid (fun X => rhex_any m X (by rw [← hm, ByteArray.size_extract]; unfold maxLen; omega))
    rw [hml] at HH
    cases hb : hexB ((t.data.toList.drop k).take n) with
    | true =>
      have HC := hid (show cdI t.data.toList k n = (hexR ((t.data.toList.drop k).take n) : Int) by unfold cdI hexR; rw [if_pos ⟨by rw [HZ.out]; omega, hb⟩, if_pos hb])
      rw [hb] at HH
      clear hb hml
      go_enter Tryz.func50, Tryz.ntmps50
      go_wp2_with (go_at_call 64; go_must (refine (HH.out _).mono ?_; rintro e w1 ⟨rfl, rfl⟩))
      go_ret
      exact ⟨ret_int HC.out.symm, rfl⟩
    | false =>
      have HC := hid (show cdI t.data.toList k n = -1 by unfold cdI; rw [if_neg (fun hc => by rw [hb] at hc; cases hc.2)])
      rw [hb] at HH
      clear hb hml
      go_enter Tryz.func50, Tryz.ntmps50
      go_wp2_with (go_at_call 64; go_must (refine (HH.out _).mono ?_; rintro e w1 ⟨rfl, rfl⟩))
      go_ret
      exact ⟨ret_int HC.out.symm, rfl⟩
set_option maxRecDepth 100000 in
set_option maxHeartbeats 1000000 in
theorem place_any (t : ByteArray) (a : Int) (w : World) :
    Calls Tryz.prog 35 #[.string t, .int .i64 a] w fun e w' => e = .returned (.int .i64 (plc t.data.toList a)) ∧ w' = w := by
  have HZ := hid (size_list t)
  have HP := hid (show plc t.data.toList a = if a < 0 then 0 else if (t.size : Int) < a then (t.size : Int) else a by unfold plc; rw [HZ.out])
  go_enter Tryz.func35, Tryz.ntmps35
  go_wp2_with fail
  all_goals
    go_ret
    exact ⟨ret_int (by rw [HP.out]; (repeat' split) <;> omega), rfl⟩
/-- whether a letter behind a stroke says something, and what -/
def plnB (toml : Bool) (b : Nat) : Bool := decide (nmV toml b < 256)
def plnS (b : Nat) : List UInt8 := if b = 34 ∨ b = 92 then [UInt8.ofNat b] else if b = 98 then [8] else if b = 102 then [12] else if b = 110 then [10] else if b = 114 then [13] else if b = 116 then [9] else if b = 47 then [47] else if b = 101 then [27] else []
theorem pln_is (toml : Bool) (b : Nat) (h : nmV toml b < 256) : plnS b = [UInt8.ofNat (nmV toml b)] := by
  unfold nmV at h ⊢
  unfold plnS
  (repeat' split at h) <;> simp_all
set_option maxRecDepth 100000 in
set_option maxHeartbeats 2000000 in
theorem rplain_any (b : UInt8) (toml : Bool) (w : World) :
    Calls Tryz.prog 49 #[.int .u8 (b.toNat : Int), .bool toml] w fun e w' => e = .returned (.tuple #[.string (mkS (plnS b.toNat)), .bool (plnB toml b.toNat)]) ∧ Below w.heap.size w w' := by
  have hb := b.toNat_lt
  obtain ⟨n, hn⟩ : ∃ n, b.toNat = n := ⟨_, rfl⟩
  rw [hn] at hb ⊢
  clear hn
  by_cases h1 : n = 34 ∨ n = 92
  · have HS := hid (show plnS n = [UInt8.ofNat n] by unfold plnS; rw [if_pos h1])
    have HB := hid (show plnB toml n = true by unfold plnB nmV; rcases h1 with h | h <;> subst h <;> simp)
    have h1' : ((n : Int) == 34) = true ∨ (((n : Int) == 34) = false ∧ ((n : Int) == 92) = true) := by simp only [beq_iff_eq, beq_eq_false_iff_ne]; omega
    have hcv := conv_new w [(n : Int)] 1 rfl
    simp only [List.map] at hcv
    have HX := hid (show strOfNums [(n : Int)] = mkS [UInt8.ofNat n] by unfold strOfNums mkS; simp)
    clear h1
    rcases h1' with g | ⟨g, g2⟩
    all_goals
      go_enter Tryz.func49, Tryz.ntmps49
      go_wp2_with fail
      go_ret2
      exact ⟨ret_sb (by rw [HS.out]; exact HX.out) (by rw [HB.out]), (Below.refl _ _).alloc (Nat.le_refl _) _⟩
  · have a1 : ((n : Int) == 34) = false := by rw [beq_eq_false_iff_ne]; omega
    have a2 : ((n : Int) == 92) = false := by rw [beq_eq_false_iff_ne]; omega
    by_cases h2 : n = 98 ∨ n = 102 ∨ n = 110 ∨ n = 114 ∨ n = 116 ∨ n = 47 ∨ n = 101
    · clear a1 a2 h1 hb
      cases toml
      all_goals
        rcases h2 with rfl | rfl | rfl | rfl | rfl | rfl | rfl
        all_goals
          go_enter Tryz.func49, Tryz.ntmps49
          go_wp2_with fail
          go_ret2
          exact ⟨rfl, Below.refl _ _⟩
    · have HS := hid (show plnS n = [] by unfold plnS; rw [if_neg h1, if_neg (by omega), if_neg (by omega), if_neg (by omega), if_neg (by omega), if_neg (by omega), if_neg (by omega), if_neg (by omega)])
      have HB := hid (show plnB toml n = false by unfold plnB nmV; rw [if_neg (by omega), if_neg (by omega), if_neg (by omega), if_neg (by omega), if_neg (by omega), if_neg (by omega), if_neg (by omega), if_neg (by omega), if_neg (by omega)]; rfl)
      have a3 : ((n : Int) == 98) = false := by rw [beq_eq_false_iff_ne]; omega
      have a4 : ((n : Int) == 102) = false := by rw [beq_eq_false_iff_ne]; omega
      have a5 : ((n : Int) == 110) = false := by rw [beq_eq_false_iff_ne]; omega
      have a6 : ((n : Int) == 114) = false := by rw [beq_eq_false_iff_ne]; omega
      have a7 : ((n : Int) == 116) = false := by rw [beq_eq_false_iff_ne]; omega
      have a8 : ((n : Int) == 47) = false := by rw [beq_eq_false_iff_ne]; omega
      have a9 : ((n : Int) == 101) = false := by rw [beq_eq_false_iff_ne]; omega
      clear h1 h2
      go_enter Tryz.func49, Tryz.ntmps49
      go_wp2_with fail
      go_ret2
      exact ⟨ret_sb (by rw [HS.out]; rfl) (by rw [HB.out]), Below.refl _ _⟩
end Go.Proofs.YtoamndiblckdlaaGreatDoor
