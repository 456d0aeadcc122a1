/- The document's own order of numbers, walked: Cmp. -/
import Derived.Test.YtnabdepplpaabaaDoorRefDecC
import Derived.Deep.RegionWith
namespace Go.Proofs.YtnabdepplpaabaaDoor
open Go.RowKit

theorem num_ok {l : List UInt8} (h : numB l = true) : pOk l = true := by
  unfold numB at h; simp only [Bool.and_eq_true] at h; exact h.1.1
theorem num_len {l : List UInt8} (h : numB l = true) : l.length ≤ 400 := by
  unfold numB at h; simp only [Bool.and_eq_true, decide_eq_true_eq] at h; exact h.2
theorem num_size {s : ByteArray} (h : numB s.data.toList = true) : s.size ≤ 1000000 := by have := num_len h; rw [size_list] at this; omega
theorem emp_mk_yes (l : List UInt8) (h : l = []) : (mkS l).toList.isEmpty = true := emp_yes _ (by rw [mkS_list]; exact h)
theorem emp_mk_no (l : List UInt8) (h : ¬ l = []) : (mkS l).toList.isEmpty = false := emp_no _ (by rw [mkS_list]; exact h)
theorem sign_mk (n : Bool) (d : List UInt8) (w : World) :
    Calls Tryd.prog 30 #[.bool n, .string (mkS d)] w fun e w' => e = .returned (.int .i64 (sgI n d)) ∧ w' = w := by
  have := sign_any n (mkS d) w
  rwa [mkS_list] at this
set_option maxRecDepth 100000 in
set_option maxHeartbeats 1000000 in
theorem cmp_any (a b : ByteArray) (w : World) (ha : a.size ≤ maxLen) (hb : b.size ≤ maxLen) :
    Calls Tryd.prog 19 #[.string a, .string b] w fun e w' => e = .returned (.int .i64 (cmpI a.data.toList b.data.toList)) ∧ w' = w := by
  have NA := hid (fun w => number_any a w ha)
  have NB := hid (fun w => number_any b w hb)
  obtain ⟨k, hk⟩ : ∃ k, a.data.toList = k := ⟨_, rfl⟩
  obtain ⟨l, hl⟩ : ∃ l, b.data.toList = l := ⟨_, rfl⟩
  rw [hk, hl]
  rw [hk] at NA
  rw [hl] at NB
  have SA := hid (fun w (h : numB a.data.toList = true) => scaled_any a w (num_size h) (num_ok h))
  have SB := hid (fun w (h : numB b.data.toList = true) => scaled_any b w (num_size h) (num_ok h))
  rw [hk] at SA
  rw [hl] at SB
  clear hk hl
  cases hx : numB k
  · cases hy : numB l
    all_goals
      have H := hid (show cmpI k l = _ by unfold cmpI; rw [hx, hy])
      go_enter Tryd.func19, Tryd.ntmps19
      go_wp2_with (first
        | (go_at_call_of 16 a; go_must (refine (NA.out _).mono ?_; rintro e w' ⟨rfl, hw⟩; obtain rfl := hw.symm; rw [hx]))
        | (go_at_call_of 16 b; go_must (refine (NB.out _).mono ?_; rintro e w' ⟨rfl, hw⟩; obtain rfl := hw.symm; rw [hy])))
      go_ret
      exact ⟨ret_int H.out.symm, rfl⟩
  · cases hy : numB l
    · have H := hid (show cmpI k l = _ by unfold cmpI; rw [hx, hy])
      go_enter Tryd.func19, Tryd.ntmps19
      go_wp2_with (first
        | (go_at_call_of 16 a; go_must (refine (NA.out _).mono ?_; rintro e w' ⟨rfl, hw⟩; obtain rfl := hw.symm; rw [hx]))
        | (go_at_call_of 16 b; go_must (refine (NB.out _).mono ?_; rintro e w' ⟨rfl, hw⟩; obtain rfl := hw.symm; rw [hy])))
      go_ret
      exact ⟨ret_int H.out.symm, rfl⟩
    · have H := hid (show cmpI k l = tcmp (scN k) (scD k) (scT k) (scN l) (scD l) (scT l) by unfold cmpI; rw [hx, hy]; rfl)
      have SA' := hid (fun w => SA.out w hx)
      have SB' := hid (fun w => SB.out w hy)
      rw [H.out]
      generalize scN k = p at SA' ⊢
      generalize scD k = d at SA' ⊢
      generalize scT k = n at SA' ⊢
      generalize scN l = q at SB' ⊢
      generalize scD l = e at SB' ⊢
      generalize scT l = m at SB' ⊢
      go_enter Tryd.func19, Tryd.ntmps19
      go_upto_region 10 with (first
        | (go_at_call_of 16 a; go_must (refine (NA.out _).mono ?_; rintro e w' ⟨rfl, hw⟩; obtain rfl := hw.symm; rw [hx]))
        | (go_at_call_of 16 b; go_must (refine (NB.out _).mono ?_; rintro e w' ⟨rfl, hw⟩; obtain rfl := hw.symm; rw [hy]))
        | (go_at_call_of 27 a; go_must (refine (SA'.out _).mono ?_; rintro e w' ⟨rfl, hw⟩; obtain rfl := hw.symm))
        | (go_at_call_of 27 b; go_must (refine (SB'.out _).mono ?_; rintro e w' ⟨rfl, hw⟩; obtain rfl := hw.symm)))
      go_cut [56] from 16 (fun v wx => v = .bool (decide (d = e ∧ p = q ∧ n = m)) ∧ wx = w)
      case first =>
        by_cases h1 : d = e
        · have h2 : ((mkS d).toList == (mkS e).toList) = true := by rw [h1]; simp
          by_cases h3 : p = q
          · have h4 : (p == q) = true := by rw [h3]; simp
            by_cases h5 : n = m
            · have h6 : (n == m) = true := by rw [h5]; simp
              have H := hid (show decide (d = e ∧ p = q ∧ n = m) = true by simp [h1, h3, h5])
              clear h1 h3 h5
              go_wp2_with fail
              go_meet
              exact ⟨by rw [H.out], rfl⟩
            · have h6 : (n == m) = false := by simp [h5]
              have H := hid (show decide (d = e ∧ p = q ∧ n = m) = false by simp [h5])
              clear h1 h3 h5
              go_wp2_with fail
              go_meet
              exact ⟨by rw [H.out], rfl⟩
          · have h4 : (p == q) = false := by simp [h3]
            have H := hid (show decide (d = e ∧ p = q ∧ n = m) = false by simp [h3])
            clear h1 h3
            go_wp2_with fail
            go_meet
            exact ⟨by rw [H.out], rfl⟩
        · have h2 : ((mkS d).toList == (mkS e).toList) = false := by
            rw [beq_eq_false_iff_ne, Lib.toList_data, Lib.toList_data, mkS_list, mkS_list]; exact h1
          have H := hid (show decide (d = e ∧ p = q ∧ n = m) = false by simp [h1])
          clear h1
          go_wp2_with fail
          go_meet
          exact ⟨by rw [H.out], rfl⟩
      case rest =>
      obtain ⟨rfl, rfl⟩ := hcut
      by_cases hall : d = e ∧ p = q ∧ n = m
      · have h1 : decide (d = e ∧ p = q ∧ n = m) = true := by simpa using hall
        have H := hid (show tcmp p d n q e m = 0 by unfold tcmp; rw [if_pos hall])
        clear hall
        rw [h1]
        go_wp2_with fail
        go_ret
        exact ⟨ret_int H.out.symm, rfl⟩
      · have h1 : decide (d = e ∧ p = q ∧ n = m) = false := by simpa using hall
        have HA := hid hall
        clear hall
        rw [h1]
        by_cases hst : sgI p d = sgI q e
        · have h2 : (sgI p d != sgI q e) = false := by rw [hst]; simp
          have HS := hid hst
          have hB : Op.bytesLess (mkS d).toList (mkS e).toList = ltB d e := by rw [Lib.toList_data, Lib.toList_data, mkS_list, mkS_list]; rfl
          clear hst
          go_upto_region 17 with (go_at_call 30; go_must (refine (sign_mk _ _ _).mono ?_; rintro e w' ⟨rfl, hw⟩; obtain rfl := hw.symm))
          go_cut [15] from 16 (fun v wx => v = .bool (lessB d n e m) ∧ wx = wc)
          case first =>
            by_cases h3 : n < m
            · have H := hid (show lessB d n e m = true by simp [lessB, h3])
              go_wp2_with fail
              go_meet
              exact ⟨by rw [H.out], rfl⟩
            · by_cases h5 : n = m
              · have h6 : (n == m) = true := by rw [h5]; simp
                have H := hid (show lessB d n e m = ltB d e by simp [lessB, h5])
                clear h5
                go_wp2_with fail
                go_meet
                exact ⟨by rw [H.out], rfl⟩
              · have h6 : (n == m) = false := by simp [h5]
                have H := hid (show lessB d n e m = false by simp [lessB, h5, h3])
                clear h5
                go_wp2_with fail
                go_meet
                exact ⟨by rw [H.out], rfl⟩
          case rest =>
          obtain ⟨rfl, rfl⟩ := hcut
          by_cases hq : lessB d n e m = decide (0 < sgI p d)
          · have h5 : (lessB d n e m == decide (0 < sgI p d)) = true := by rw [hq]; simp
            have H := hid (show tcmp p d n q e m = -1 by unfold tcmp; rw [if_neg HA.out, if_pos HS.out, if_pos hq])
            clear hq
            go_wp2_with fail
            go_ret
            exact ⟨ret_int H.out.symm, rfl⟩
          · have h5 : (lessB d n e m == decide (0 < sgI p d)) = false := by simpa using hq
            have H := hid (show tcmp p d n q e m = 1 by unfold tcmp; rw [if_neg HA.out, if_pos HS.out, if_neg hq])
            clear hq
            go_wp2_with fail
            go_ret
            exact ⟨ret_int H.out.symm, rfl⟩
        · have h2 : (sgI p d != sgI q e) = true := by simpa using hst
          have HS := hid hst
          clear hst
          by_cases h3 : sgI p d < sgI q e
          · have H := hid (show tcmp p d n q e m = -1 by unfold tcmp; rw [if_neg HA.out, if_neg HS.out, if_pos h3])
            go_wp2_with (go_at_call 30; go_must (refine (sign_mk _ _ _).mono ?_; rintro e w' ⟨rfl, hw⟩; obtain rfl := hw.symm))
            go_ret
            exact ⟨ret_int H.out.symm, rfl⟩
          · have H := hid (show tcmp p d n q e m = 1 by unfold tcmp; rw [if_neg HA.out, if_neg HS.out, if_neg h3])
            go_wp2_with (go_at_call 30; go_must (refine (sign_mk _ _ _).mono ?_; rintro e w' ⟨rfl, hw⟩; obtain rfl := hw.symm))
            go_ret
            exact ⟨ret_int H.out.symm, rfl⟩
end Go.Proofs.YtnabdepplpaabaaDoor
