/- The document's own reading of whole numbers, walked: Int. -/
import Derived.Test.YtnabdepplpaabaaDoorRefDecD
namespace Go.Proofs.YtnabdepplpaabaaDoor
open Go.RowKit

theorem tw_dig (x : List UInt8) (k : Nat) (h : k < (x.takeWhile isD).length) : isD ((x.takeWhile isD).getD k 0) = true := by
  rw [List.getD, List.getElem?_eq_getElem h, Option.getD_some]
  exact List.all_eq_true.1 (List.all_takeWhile (p := isD) (l := x)) _ (List.getElem_mem h)
theorem neg_tdiv (d : Int) (h : d ≤ 9 ) : (-9223372036854775808 + d).tdiv 10 = -((9223372036854775808 - d) / 10) := by
  rw [show -9223372036854775808 + d = -(9223372036854775808 - d) by omega, Int.neg_tdiv, Int.tdiv_eq_ediv_of_nonneg (by omega)]
set_option maxRecDepth 100000 in
set_option maxHeartbeats 1000000 in
theorem int_any (s : ByteArray) (w : World) (hs : s.size ≤ maxLen) :
    Calls Tryd.prog 15 #[.string s] w fun e w' => e = .returned (.tuple #[.int .i64 (intV s.data.toList), .bool (intB s.data.toList)]) ∧ w' = w := by
  have hN := hid (fun w => number_any s w hs)
  have hP := hid (fun w h => parts_yes s w hs h)
  have hT := Lib.toList_data s
  obtain ⟨l, hl⟩ : ∃ l, s.data.toList = l := ⟨_, rfl⟩
  rw [hl] at hN hP hT ⊢
  clear hl
  by_cases hn : numB l = true ∧ ¬ l = [45, 48]
  · obtain ⟨hn, hm⟩ := hn
    have h1 : (l == [45, 48]) = false := by simpa using hm
    have HP := hid (fun w => hP.out w (num_ok hn))
    have hl4 := num_len hn
    have hpl := parts_len l
    by_cases hf : pF l = []
    · have h2 := emp_mk_yes _ hf
      by_cases hp : pP l = []
      · have h3 := emp_mk_yes _ hp
        obtain ⟨x, hx⟩ : ∃ x, mkS (pW l) = x := ⟨_, rfl⟩
        have HXL := hid (show x.data.toList = pW l by rw [← hx]; exact mkS_list _)
        have hxs : x.size ≤ 1000 := by rw [← hx, mkS_size]; omega
        have HD := hid (fun k (hk : k < x.size) => show isD x[k] = true by
          have hk' : k < (pW l).length := by rw [← HXL.out, size_list]; exact hk
          have := tw_dig (pU l) k hk'
          rw [← getD_at x k hk, HXL.out]; exact this)
        have HB := hid (show intB l = (if pNeg l then decide (pval (pW l) ≤ 9223372036854775808) else decide (pval (pW l) < 9223372036854775808)) by unfold intB; rw [hn]; simp [hm, hf, hp])
        rw [hx] at HP
        clear hm hf hp hx
        go_enter Tryd.func15, Tryd.ntmps15
        go_wp2_with (first
          | (go_at_call 16; go_must (refine (hN.out _).mono ?_; rintro e w' ⟨rfl, hw⟩; obtain rfl := hw.symm; rw [hn]))
          | (go_at_call 28; go_must (refine (HP.out _).mono ?_; rintro e w' ⟨rfl, hw⟩; obtain rfl := hw.symm)))
        go_loop [9, 10] (fun v i => ∃ k : Nat, v = .int .i64 (-(pval ((pW l).take k) : Int)) ∧ i = .int .i64 k ∧ k ≤ x.size ∧ pval ((pW l).take k) ≤ 9223372036854775808) (fun _ i => x.size - (intOf i).toNat)
        case atStart => exact ⟨0, rfl, rfl, Nat.zero_le _, by simp [pval]⟩
        case round =>
          obtain ⟨k, rfl, rfl, hk, hv⟩ := hrel
          by_cases hlt : k < x.size
          · have hd := HD.out k hlt
            have hb := isD_bd hd
            have HV := hid (show pval ((pW l).take (k + 1)) = 10 * pval ((pW l).take k) + (x[k].toNat - 48) by
              rw [pval_take _ k (by rw [← HXL.out, size_list]; exact hlt), ← HXL.out, getD_at x k hlt, hd]; rfl)
            obtain ⟨V, hV⟩ : ∃ V, pval ((pW l).take k) = V := ⟨_, rfl⟩
            rw [hV] at hv HV ⊢
            have ht := neg_tdiv ((x[k].toNat : Int) - 48) (by omega)
            have HM := hid (show pval ((pW l).take (k + 1)) ≤ pval (pW l) from pval_le _ _)
            clear hV hd
            by_cases hg : 10 * V + (x[k].toNat - 48) ≤ 9223372036854775808
            · have ho : (-9223372036854775808 + ((x[k].toNat : Int) - 48)).tdiv 10 ≤ -(V : Int) := by rw [ht]; omega
              have hg' : 10 * (V : Int) + ((x[k].toNat : Int) - 48) ≤ 9223372036854775808 := by omega
              clear ht
              go_wp2_with fail
              go_round
              case rel => exact ⟨k + 1, val_int (by rw [HV.out]; omega), by go_num, hlt, by rw [HV.out]; exact hg⟩
              case measure => simp [intOf]; omega
            · have ho : -(V : Int) < (-9223372036854775808 + ((x[k].toNat : Int) - 48)).tdiv 10 := by rw [ht]; omega
              have HG := hid (show intB l = false by
                have h5 := HM.out; rw [HV.out] at h5
                rw [HB.out]; split <;> simp <;> omega)
              clear ht
              go_wp2_with fail
              go_ret2
              exact ⟨ret_ib (by unfold intV; rw [HG.out]; rfl) HG.out.symm, rfl⟩
          · have HE := hid (show (pW l).take k = pW l from List.take_of_length_le (by rw [← HXL.out, size_list]; omega))
            rw [HE.out] at hv ⊢
            obtain ⟨V, hV⟩ : ∃ V, pval (pW l) = V := ⟨_, rfl⟩
            rw [hV] at hv HB ⊢
            have HV := hid hV
            clear hV
            cases hng : pNeg l with
            | true =>
              have HG := hid (show intB l = true by rw [HB.out, hng, if_pos rfl]; simpa using hv)
              go_wp2_with fail
              go_ret2
              exact ⟨ret_ib (by unfold intV; rw [HG.out, hng, HV.out]; rfl) HG.out.symm, rfl⟩
            | false =>
              by_cases hq : V = 9223372036854775808
              · have HG := hid (show intB l = false by rw [HB.out, hng, hq]; rfl)
                have hq' : (-(V : Int) == -9223372036854775808) = true := by rw [hq]; rfl
                clear hq
                go_wp2_with fail
                go_ret2
                exact ⟨ret_ib (by unfold intV; rw [HG.out]; rfl) HG.out.symm, rfl⟩
              · have hlt' : V < 9223372036854775808 := by omega
                have HG := hid (show intB l = true by rw [HB.out, hng]; simpa using hlt')
                have hq' : (-(V : Int) == -9223372036854775808) = false := by rw [beq_eq_false_iff_ne]; omega
                clear hq
                go_wp2_with fail
                go_ret2
                exact ⟨ret_ib (by unfold intV; rw [HG.out, hng, HV.out]; simp) HG.out.symm, rfl⟩
      · have h3 := emp_mk_no _ hp
        have HG := hid (show intB l = false by unfold intB; simp [hp])
        clear hf hp hm
        go_enter Tryd.func15, Tryd.ntmps15
        go_wp2_with (first
          | (go_at_call 16; go_must (refine (hN.out _).mono ?_; rintro e w' ⟨rfl, hw⟩; obtain rfl := hw.symm; rw [hn]))
          | (go_at_call 28; go_must (refine (HP.out _).mono ?_; rintro e w' ⟨rfl, hw⟩; obtain rfl := hw.symm)))
        go_ret2
        exact ⟨ret_ib (by unfold intV; rw [HG.out]; rfl) HG.out.symm, rfl⟩
    · have h3 := emp_mk_no _ hf
      have HG := hid (show intB l = false by unfold intB; simp [hf])
      clear hf hm
      go_enter Tryd.func15, Tryd.ntmps15
      go_wp2_with (first
        | (go_at_call 16; go_must (refine (hN.out _).mono ?_; rintro e w' ⟨rfl, hw⟩; obtain rfl := hw.symm; rw [hn]))
        | (go_at_call 28; go_must (refine (HP.out _).mono ?_; rintro e w' ⟨rfl, hw⟩; obtain rfl := hw.symm)))
      go_ret2
      exact ⟨ret_ib (by unfold intV; rw [HG.out]; rfl) HG.out.symm, rfl⟩
  · cases hq : numB l with
    | false =>
      have HG := hid (show intB l = false by unfold intB; rw [hq]; rfl)
      clear hn
      go_enter Tryd.func15, Tryd.ntmps15
      go_wp2_with (go_at_call 16; go_must (refine (hN.out _).mono ?_; rintro e w' ⟨rfl, hw⟩; obtain rfl := hw.symm; rw [hq]))
      go_ret2
      exact ⟨ret_ib (by unfold intV; rw [HG.out]; rfl) HG.out.symm, rfl⟩
    | true =>
      have hm : l = [45, 48] := Classical.byContradiction fun h => hn ⟨hq, h⟩
      have h1 : (l == [45, 48]) = true := by rw [hm]; rfl
      have HG := hid (show intB l = false by unfold intB; rw [hm]; simp)
      clear hn hm
      go_enter Tryd.func15, Tryd.ntmps15
      go_wp2_with (go_at_call 16; go_must (refine (hN.out _).mono ?_; rintro e w' ⟨rfl, hw⟩; obtain rfl := hw.symm; rw [hq]))
      go_ret2
      exact ⟨ret_ib (by unfold intV; rw [HG.out]; rfl) HG.out.symm, rfl⟩
end Go.Proofs.YtnabdepplpaabaaDoor
