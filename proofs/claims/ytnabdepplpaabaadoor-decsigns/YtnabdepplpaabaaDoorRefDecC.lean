/- The document's own reckoning of numbers' texts, walked: Form, Number, scaled, Whole. -/
import Derived.Test.YtnabdepplpaabaaDoorRefDecB
import Derived.Test.YtnabdepplpaabaaDoorMathDec2
namespace Go.Proofs.YtnabdepplpaabaaDoor
open Go.RowKit

theorem parts_yes (s : ByteArray) (w : World) (hs : s.size ≤ maxLen) (h : pOk s.data.toList = true) :
    Calls Tryd.prog 28 #[.string s] w fun e w' => e = .returned (.tuple #[.bool (pNeg s.data.toList), .string (mkS (pW s.data.toList)), .string (mkS (pF s.data.toList)), .string (mkS (pP s.data.toList)), .bool true]) ∧ w' = w := by
  refine (parts_any s w hs).mono ?_
  rintro e w' ⟨rfl, rfl⟩
  exact ⟨by unfold partsV; rw [h]; rfl, rfl⟩
theorem parts_none (s : ByteArray) (w : World) (hs : s.size ≤ maxLen) (h : pOk s.data.toList = false) :
    Calls Tryd.prog 28 #[.string s] w fun e w' => e = .returned (.tuple #[.bool false, .string ⟨#[]⟩, .string ⟨#[]⟩, .string ⟨#[]⟩, .bool false]) ∧ w' = w := by
  refine (parts_any s w hs).mono ?_
  rintro e w' ⟨rfl, rfl⟩
  exact ⟨by unfold partsV; rw [h]; rfl, rfl⟩
theorem power_mk (l : List UInt8) (w : World) (hs : l.length ≤ maxLen) :
    Calls Tryd.prog 42 #[.string (mkS l)] w fun e w' => e = .returned (.tuple #[.int .i64 (pwV l), .bool (pwOk l)]) ∧ w' = w := by
  have := power_any (mkS l) w (by rw [mkS_size]; exact hs)
  rwa [mkS_list] at this
theorem ret_bb {a b c d : Bool} (h : a = b) (g : c = d) : Ending.returned (.tuple #[.bool a, .bool c]) = .returned (.tuple #[.bool b, .bool d]) := by rw [h, g]
set_option maxRecDepth 100000 in
set_option maxHeartbeats 400000 in
theorem form_any (s : ByteArray) (w : World) (hs : s.size ≤ maxLen) :
    Calls Tryd.prog 29 #[.string s] w fun e w' => e = .returned (.tuple #[.bool (pOk s.data.toList), .bool (pOk s.data.toList && !pwOk (pP s.data.toList))]) ∧ w' = w := by
  have HP := hid (show (pP s.data.toList).length ≤ maxLen by have := parts_len s.data.toList; rw [size_list] at this; omega)
  cases hp : pOk s.data.toList with
  | false =>
    go_enter Tryd.func29, Tryd.ntmps29
    go_wp2_with (first
      | (go_at_call 28; go_must (refine (parts_none _ _ hs hp).mono ?_; rintro e w' ⟨rfl, hw⟩; obtain rfl := hw.symm))
      | (go_at_call 42; go_must (refine (power_any _ _ (by decide)).mono ?_; rintro e w' ⟨rfl, hw⟩; obtain rfl := hw.symm)))
    go_ret2
    exact ⟨rfl, rfl⟩
  | true =>
    cases hq : pwOk (pP s.data.toList)
    all_goals
      go_enter Tryd.func29, Tryd.ntmps29
      go_wp2_with (first
        | (go_at_call 28; go_must (refine (parts_yes _ _ hs hp).mono ?_; rintro e w' ⟨rfl, hw⟩; obtain rfl := hw.symm))
        | (go_at_call 42; go_must (refine (power_mk _ _ HP.out).mono ?_; rintro e w' ⟨rfl, hw⟩; obtain rfl := hw.symm)))
      go_ret2
      exact ⟨rfl, rfl⟩
set_option maxRecDepth 100000 in
set_option maxHeartbeats 400000 in
theorem number_any (s : ByteArray) (w : World) (hs : s.size ≤ maxLen) :
    Calls Tryd.prog 16 #[.string s] w fun e w' => e = .returned (.bool (numB s.data.toList)) ∧ w' = w := by
  have HZ := hid (size_list s)
  cases hp : pOk s.data.toList with
  | false =>
    have H := hid (show numB s.data.toList = false by unfold numB; rw [hp]; rfl)
    go_enter Tryd.func16, Tryd.ntmps16
    go_wp2_with (go_at_call 29; go_must (refine (form_any _ _ hs).mono ?_; rintro e w' ⟨rfl, hw⟩; obtain rfl := hw.symm; rw [hp]))
    go_ret
    exact ⟨ret_bool H.out.symm, rfl⟩
  | true =>
    cases hq : pwOk (pP s.data.toList) with
    | false =>
      have H := hid (show numB s.data.toList = false by unfold numB; rw [hp, hq]; rfl)
      go_enter Tryd.func16, Tryd.ntmps16
      go_wp2_with (go_at_call 29; go_must (refine (form_any _ _ hs).mono ?_; rintro e w' ⟨rfl, hw⟩; obtain rfl := hw.symm; rw [hp, hq]))
      go_ret
      exact ⟨ret_bool H.out.symm, rfl⟩
    | true =>
      by_cases h4 : s.size ≤ 400
      · have H := hid (show numB s.data.toList = true by unfold numB; rw [hp, hq, HZ.out]; simpa using h4)
        go_enter Tryd.func16, Tryd.ntmps16
        go_wp2_with (go_at_call 29; go_must (refine (form_any _ _ hs).mono ?_; rintro e w' ⟨rfl, hw⟩; obtain rfl := hw.symm; rw [hp, hq]))
        go_ret
        exact ⟨ret_bool (by rw [H.out]; simp; omega), rfl⟩
      · have H := hid (show numB s.data.toList = false by unfold numB; rw [hp, hq, HZ.out]; simpa using h4)
        go_enter Tryd.func16, Tryd.ntmps16
        go_wp2_with (go_at_call 29; go_must (refine (form_any _ _ hs).mono ?_; rintro e w' ⟨rfl, hw⟩; obtain rfl := hw.symm; rw [hp, hq]))
        go_ret
        exact ⟨ret_bool (by rw [H.out]; simp; omega), rfl⟩
theorem mkS_add (a b : List UInt8) : mkS a ++ mkS b = mkS (a ++ b) := by
  apply mkS_of; simp [mkS]
theorem first_rest (x : ByteArray) (h : 0 < x.size) : x.data.toList = x[0] :: (x.extract 1 x.size).data.toList := by
  rw [drop_list]; exact list_of x h
theorem last_rest (x : ByteArray) (k : Nat) (h : k + 1 = x.size) : x.data.toList = (x.extract 0 k).data.toList ++ [x[k]] := by
  rw [cut_list]
  have hk : k < x.data.toList.length := by rw [size_list]; omega
  have e := List.take_succ_eq_append_getElem hk
  rw [List.take_of_length_le (by rw [size_list]; omega)] at e
  exact e
theorem ret_bst {n m : Bool} {x y : ByteArray} {a b : Int} (h : n = m) (g : x = y) (k : a = b) : Ending.returned (.tuple #[.bool n, .string x, .int .i64 a]) = .returned (.tuple #[.bool m, .string y, .int .i64 b]) := by rw [h, g, k]
def szOf (v : Value) : Nat := match v with | .string x => x.size | _ => 0
theorem rst_nil : rst [] = [] := rfl
theorem lst_nil : lst [] = [] ∧ lz [] = 0 := ⟨rfl, rfl⟩
set_option maxRecDepth 100000 in
set_option maxHeartbeats 1000000 in
theorem scaled_any (s : ByteArray) (w : World) (hs : s.size ≤ 1000000) (hp : pOk s.data.toList = true) :
    Calls Tryd.prog 27 #[.string s] w fun e w' => e = .returned (.tuple #[.bool (scN s.data.toList), .string (mkS (scD s.data.toList)), .int .i64 (scT s.data.toList)]) ∧ w' = w := by
  obtain ⟨l, hl⟩ : ∃ l, s.data.toList = l := ⟨_, rfl⟩
  have HO := hid hp
  rw [hl] at hp ⊢
  have hpl := parts_len l
  have hll : l.length ≤ 1000000 := by rw [← hl, size_list]; exact hs
  have HL := hid hl
  clear hl
  have HP := hid (show (pP l).length ≤ 1000000 by omega)
  have hW : (mkS (pW l)).size = (pW l).length := mkS_size _
  have hF : (mkS (pF l)).size = (pF l).length := mkS_size _
  have hFl : (pF l).length ≤ 1000000 := by omega
  have hWl : (pW l).length ≤ 1000000 := by omega
  have hv := pwV_bd (pP l)
  have hadd := mkS_add (pW l) (pF l)
  have hz := lz_le (pW l ++ pF l)
  rw [List.length_append] at hz
  go_enter Tryd.func27, Tryd.ntmps27
  go_wp2_with (first
    | (go_at_call 28; go_must (refine (parts_yes _ _ (max_le hs) HO.out).mono ?_; rintro e w' ⟨rfl, hw⟩; obtain rfl := hw.symm; rw [HL.out]))
    | (go_at_call 42; go_must (refine (power_mk _ _ (max_le HP.out)).mono ?_; rintro e w' ⟨rfl, hw⟩; obtain rfl := hw.symm)))
  go_loop [12, 13] (fun d t => ∃ (x : ByteArray) (k : Nat), d = .string x ∧ t = .int .i64 (((pW l).length : Int) - 1 + pwV (pP l) - k) ∧ k ≤ 1000000 ∧ x.size ≤ 1000000 ∧ Hid (lst x.data.toList = lst (pW l ++ pF l) ∧ lz x.data.toList + k = lz (pW l ++ pF l))) (fun d _ => szOf d)
  case atStart => exact ⟨mkS (pW l ++ pF l), 0, rfl, val_int (by simp), by omega, by rw [mkS_size, List.length_append]; omega, ⟨by rw [mkS_list], by rw [mkS_list]; rfl⟩⟩
  case round =>
    obtain ⟨x, k, rfl, rfl, hk, hx, HX⟩ := hrel
    by_cases hz0 : 0 < x.size ∧ (x.data.toList.getD 0 0).toNat = 48
    · obtain ⟨h0, h48⟩ := hz0
      have h1 := emp_no x (by intro hc; rw [hc] at h48; exact absurd h48 (by decide))
      have F := hid (first_rest x h0)
      rw [getD_at x 0 h0] at h48
      have h2 : ((x[0].toNat : Int) == 48) = true := byte_is _ _ h48
      have HC := hid (lz_cons x[0] (x.extract 1 x.size).data.toList h48)
      have hk' : k + 1 ≤ 1000000 := by
        have h3 := HX.out.2; rw [F.out, HC.out.1] at h3; omega
      clear h48
      go_wp2_with fail
      go_round
      case rel => exact ⟨x.extract 1 x.size, k + 1, rfl, val_int (by omega), hk', by rw [ByteArray.size_extract]; omega, ⟨by rw [← HX.out.1, F.out, HC.out.2], by have h3 := HX.out.2; rw [F.out, HC.out.1] at h3; omega⟩⟩
      case measure => simp [szOf]; omega
    · have hX : lst x.data.toList = x.data.toList ∧ lz x.data.toList = 0 ∧ (x.data.toList = [] ∨ (0 < x.size ∧ ¬ (x.data.toList.getD 0 0).toNat = 48)) := by
        by_cases h0 : 0 < x.size
        · have h48 : ¬ (x.data.toList.getD 0 0).toNat = 48 := fun h => hz0 ⟨h0, h⟩
          have := first_rest x h0
          rw [getD_at x 0 h0] at h48
          have h5 := lz_stop x[0] (x.extract 1 x.size).data.toList h48
          rw [← this] at h5
          exact ⟨h5.2, h5.1, Or.inr ⟨h0, by rw [getD_at x 0 h0]; exact h48⟩⟩
        · have : x.data.toList = [] := List.eq_nil_of_length_eq_zero (by rw [size_list]; omega)
          rw [this]; exact ⟨rfl, rfl, Or.inl rfl⟩
      obtain ⟨hX1, hX2, hX3⟩ := hX
      have HD := hid (show rst x.data.toList = scD l by unfold scD; rw [← HX.out.1, hX1])
      have HK := hid (show k = lz (pW l ++ pF l) by have := HX.out.2; omega)
      clear hX1 hX2 hz0
      have hcase : (x.toList.isEmpty = true) ∨ ∃ h0 : 0 < x.size, x.toList.isEmpty = false ∧ ((x[0].toNat : Int) == 48) = false := by
        rcases hX3 with h | ⟨h0, h⟩
        · exact Or.inl (emp_yes x h)
        · exact Or.inr ⟨h0, emp_no x (by intro hc; have := size_list x; rw [hc] at this; simp at this; omega), byte_not _ _ (by rw [← getD_at x 0 h0]; exact h)⟩
      clear hX3
      rcases hcase with h1 | ⟨h0, h1, h2⟩
      all_goals
        go_wp2_with fail
        clear h1
        go_loop [12] (fun d => ∃ y : ByteArray, d = .string y ∧ y.size ≤ 1000000 ∧ Hid (rst y.data.toList = scD l)) (fun d => szOf d)
        case atStart => exact ⟨x, rfl, hx, HD⟩
        case round =>
          obtain ⟨y, rfl, hy, HY⟩ := hrel
          by_cases he : y.data.toList = []
          · have h3 := emp_yes y he
            have H := hid (show scD l = [] by rw [← HY.out, he]; rfl)
            clear he
            go_wp2_with fail
            go_ret3
            exact ⟨ret_bst (by unfold scN; rw [H.out]; rfl) (by rw [H.out]; rfl) (by unfold scT; rw [H.out]; rfl), rfl⟩
          · have h3 := emp_no y he
            have h4 := emp_size y he
            have HE := hid he
            clear he
            obtain ⟨j, hj⟩ : ∃ j, y.size = j + 1 := ⟨y.size - 1, by omega⟩
            have hjy : j < y.size := by omega
            have L := hid (last_rest y j hj.symm)
            have ej : ((j + 1 : Nat) : Int) - 1 = (j : Int) := by omega
            by_cases h48 : y[j].toNat = 48
            · have h5 : ((y[j].toNat : Int) == 48) = true := byte_is _ _ h48
              have HS := hid (rst_snoc y[j] (y.extract 0 j).data.toList h48)
              clear h48
              go_wp2_with fail
              go_round
              case rel => exact ⟨y.extract 0 j, rfl, by rw [ByteArray.size_extract]; omega, show _ = _ by rw [← HS.out, ← L.out]; exact HY.out⟩
              case measure => simp [szOf]; omega
            · have h5 : ((y[j].toNat : Int) == 48) = false := byte_not _ _ h48
              have HS := hid (rst_stop y[j] (y.extract 0 j).data.toList h48)
              have H := hid (show scD l = y.data.toList by rw [← HY.out, L.out, HS.out])
              have HN := hid (show ¬ scD l = [] by rw [H.out]; exact HE.out)
              clear h48
              go_wp2_with fail
              go_ret3
              exact ⟨ret_bst (by unfold scN; rw [if_neg HN.out]) (mkS_of _ _ H.out.symm) (by unfold scT; rw [if_neg HN.out, ← HK.out]), rfl⟩
end Go.Proofs.YtnabdepplpaabaaDoor
