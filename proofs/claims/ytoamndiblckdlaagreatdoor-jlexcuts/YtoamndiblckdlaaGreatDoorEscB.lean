/- esc.Hex, Bare, letter, plain, digits, named: walked. -/
import Derived.Test.YtoamndiblckdlaaGreatDoorEscA
import Derived.Test.YtoamndiblckdlaaGreatDoorShelf
import Derived.Lib.AppendStr
import Derived.Shelf.Strings.SlTrimAscii
namespace Go.Proofs.YtoamndiblckdlaaGreatDoor
open Go.RowKit

theorem empty_of {s : ByteArray} (h : s.size = 0) : s = ⟨#[]⟩ := by
  have h1 : s.data.toList = [] := List.eq_nil_of_length_eq_zero (by rw [size_list]; exact h)
  rw [mkS_of s _ rfl, h1]; rfl
theorem isE_no {s : ByteArray} (h : 0 < s.size) : s.toList.isEmpty = false ∧ ¬ s.toList = [] ∧ (s.toList == (⟨#[]⟩ : ByteArray).toList) = false := by
  have h1 : ¬ s.toList = [] := fun hc => by
    rw [ByteArray.toList_eq] at hc
    have := congrArg List.length hc
    rw [size_list, List.length_nil] at this
    omega
  refine ⟨?_, h1, ?_⟩
  · rw [List.isEmpty_eq_false_iff]; exact h1
  · rw [beq_eq_false_iff_ne, ByteArray.toList_eq, ByteArray.toList_eq]
    rw [ByteArray.toList_eq] at h1; exact h1
theorem take_snoc (s : ByteArray) (k : Nat) (h : k < s.size) : s.data.toList.take (k + 1) = s.data.toList.take k ++ [s[k]] := by
  rw [List.take_succ_eq_append_getElem (by simpa using h)]; rfl
theorem i64_or4 (x y : Int) (hx0 : 0 ≤ x) (hx : x % 16 = 0) (hx1 : x < 68719476736) (h0 : 0 ≤ y) (h1 : y < 16) : bits .or .i64 x y = x + y :=
  bits_join .i64 63 (by decide) wraps_i64 4 x y hx0 hx (by omega) h0 h1 (by omega)
theorem hexB_mid {s : ByteArray} {j : Nat} (hj : j < s.size) (hno : hxI s[j] = false) : hexB s.data.toList = false := by
  unfold hexB
  rw [Bool.and_eq_false_iff]; right
  rw [List.all_eq_false]
  exact ⟨s[j], by rw [← getD_at s j hj, List.getD, List.getElem?_eq_getElem (by rw [size_list]; exact hj)]; exact List.getElem_mem _, by simp [hno]⟩
theorem hexR_no {l : List UInt8} (h : hexB l = false) : hexR l = 0 := by unfold hexR; rw [h]; rfl
set_option maxRecDepth 100000 in
set_option maxHeartbeats 2000000 in
theorem hex_any (s : ByteArray) (w : World) (hs : s.size ≤ maxLen) :
    Calls Tryz.prog 105 #[.string s] w fun e w' => e = .returned (.tuple #[.int .i64 (hexR s.data.toList : Nat), .bool (hexB s.data.toList)]) ∧ Below w.heap.size w w' := by
  unfold maxLen at hs
  have HZ := hid (size_list s)
  by_cases h0 : s.size = 0
  · obtain rfl := empty_of h0
    go_enter Tryz.func105, Tryz.ntmps105
    go_wp2
    go_ret2
    exact ⟨rfl, Below.refl _ _⟩
  · obtain ⟨e1, e2, e3⟩ := isE_no (s := s) (by omega)
    by_cases h8 : 8 < s.size
    · have HB := hid (show hexB s.data.toList = false by unfold hexB; rw [HZ.out, decide_eq_false (by omega)]; rfl)
      go_enter Tryz.func105, Tryz.ntmps105
      go_wp2
      all_goals go_ret2
      all_goals exact ⟨ret_ib (by rw [hexR_no HB.out]; rfl) HB.out.symm, Below.refl _ _⟩
    · have hcv := run_bytes_of_string (P := Tryz.prog) w 9 29 5 s Tryz.underlying9 Tryz.underlying29 Tryz.underlying5
      go_enter Tryz.func105, Tryz.ntmps105
      go_upto_region 4 with fail
      go_cut [17, 18, 19] (fun a b c wx => ∃ cap, a = .slice (some ⟨w.heap.size, 0, none⟩) s.size cap ∧ b = .int .i64 s.size ∧ c = .int .i64 0 ∧ s.size ≤ cap ∧ Hid (∀ k (h : k < s.size), wx.cell? ⟨w.heap.size, k, none⟩ = some (.int .u8 (s[k].toNat : Int))) ∧ Hid (Below w.heap.size w wx))
      case first =>
        go_wp2_with fail
        go_meet
        exact ⟨_, rfl, rfl, rfl, grownCap_ge _ _ _ _, (show ∀ k (h : k < s.size), _ = _ from fun k hk => ebrow_at s k (w.drewN 1) _ _ _ hk), (Below.refl _ _).drew.alloc (by simp) _⟩
      case rest =>
      obtain ⟨cap, rfl, rfl, rfl, hcap, HC, HW⟩ := hcut
      clear hcv
      go_wp2_with fail
      go_loop [4, 19] (fun v i => ∃ j : Nat, j ≤ s.size ∧ i = .int .i64 j ∧ v = .int .i64 (hexF (s.data.toList.take j) : Nat) ∧ Hid ((s.data.toList.take j).all hxI = true)) (fun _ i => s.size - (intOf i).toNat)
      case atStart => exact ⟨0, Nat.zero_le _, rfl, rfl, rfl⟩
      case round =>
        obtain ⟨j, hj, rfl, rfl, HJ⟩ := hrel
        have hF : hexF (s.data.toList.take j) < 4294967296 := hexF_lt8 _ HJ.out (by rw [List.length_take]; omega)
        by_cases hlt : j < s.size
        · have hcell := HC.out j hlt
          cases hx : hxI s[j] with
          | true =>
            have hv := hxV_lt hx
            have hw : hxW s[j] = hxV s[j] := by unfold hxW; rw [if_pos hx]
            have HD : Hid (∀ X, Calls Tryz.prog 117 #[.int .u8 (s[j].toNat : Int)] X fun e w' => e = .returned (.tuple #[.int .i64 (hxV s[j] : Nat), .bool true]) ∧ w' = X) := fun X => by
              have := hexd_any s[j] X; rw [hw, hx] at this; exact this
            have HO := hid (i64_or4 ((hexF (s.data.toList.take j) : Int) * 16) (hxV s[j] : Int) (by omega) (by omega) (by omega) (by omega) (by omega))
            have HS := hid (show (hexF (s.data.toList.take (j + 1)) : Int) = (hexF (s.data.toList.take j) : Int) * 16 + (hxV s[j] : Int) by rw [take_snoc s j hlt, hexF_snoc]; omega)
            have HA := hid (show (s.data.toList.take (j + 1)).all hxI = true by rw [take_snoc s j hlt, List.all_append, HJ.out]; simp [hx])
            clear hx hw
            go_wp2_with (go_at_call 117; go_must (refine (HD.out _).mono ?_; rintro e w' ⟨rfl, rfl⟩))
            go_round
            case rel => exact ⟨j + 1, hlt, val_int (by omega), val_int (by rw [HS.out, HO.out]), HA.out⟩
            case measure => simp [intOf]; omega
          | false =>
            have HB := hid (hexB_mid hlt hx)
            have hw : hxW s[j] = 0 := by unfold hxW; rw [hx]; rfl
            have HD : Hid (∀ X, Calls Tryz.prog 117 #[.int .u8 (s[j].toNat : Int)] X fun e w' => e = .returned (.tuple #[.int .i64 (0 : Nat), .bool false]) ∧ w' = X) := fun X => by
              have := hexd_any s[j] X; rw [hw, hx] at this; exact this
            clear hx hw
            go_wp2_with (go_at_call 117; go_must (refine (HD.out _).mono ?_; rintro e w' ⟨rfl, rfl⟩))
            go_ret2
            exact ⟨ret_ib (by rw [hexR_no HB.out]; rfl) HB.out.symm, HW.out⟩
        · have HT := hid (show s.data.toList.take j = s.data.toList from List.take_of_length_le (by rw [HZ.out]; omega))
          have HB := hid (show hexB s.data.toList = true by
            unfold hexB; rw [HZ.out, decide_eq_true (by omega), Bool.true_and]
            have := HJ.out; rw [HT.out] at this; exact this)
          go_wp2_with fail
          go_ret2
          exact ⟨ret_ib (by unfold hexR; rw [if_pos HB.out, HT.out]) HB.out.symm, HW.out⟩
end Go.Proofs.YtoamndiblckdlaaGreatDoor
