/- The document's own reckoning of a number's text, walked: parts. -/
import Derived.Test.YtnpojefcibfgkaaGreatDoorRefDecA
import Derived.Deep.DeepCutAuto
import Derived.Deep.CutRange
namespace Go.Proofs.YtnpojefcibfgkaaGreatDoor
open Go.RowKit

theorem results_tmp5 {fn : Func} {t u v x y : Tmp} (h : fn.results = #[.tmp t, .tmp u, .tmp v, .tmp x, .tmp y]) (tmps : Array Value) (P : Program) (w : World) :
    (results fn tmps).run P w = .ok (.tuple #[tmps.getD t undef, tmps.getD u undef, tmps.getD v undef, tmps.getD x undef, tmps.getD y undef]) w := by
  simp [results, h]
theorem cut_list (s : ByteArray) (n : Nat) : (s.extract 0 n).data.toList = s.data.toList.take n := by simp
theorem first_is (u : ByteArray) (n : Nat) (h : (u.data.toList.getD 0 0).toNat = n) (h0 : n ≠ 0) : ¬ u.data.toList = [] := by
  intro hc; rw [hc] at h; apply h0; rw [← h]; rfl
set_option maxRecDepth 100000 in
set_option maxHeartbeats 1000000 in
theorem parts_any (s : ByteArray) (w : World) (hs : s.size ≤ maxLen) :
    Calls Tryz.prog 58 #[.string s] w fun e w' => e = .returned (partsV s.data.toList) ∧ w' = w := by
  unfold maxLen at hs
  obtain ⟨l, hl⟩ : ∃ l, s.data.toList = l := ⟨_, rfl⟩
  have HL := hid hl
  clear hl
  go_enter Tryz.func58, Tryz.ntmps58
  rw [HL.out]
  go_upto_region 1 with fail
  go_cut [7] from 13 (fun v wx => v = .bool (pNeg l) ∧ wx = w)
  case first =>
    by_cases he : s.data.toList = []
    · have h1 := emp_yes s he
      have H := hid (show pNeg l = false by rw [← HL.out, he]; rfl)
      clear he
      go_wp2_with fail
      go_meet
      exact ⟨by rw [H.out], rfl⟩
    · have h1 := emp_no s he
      have h0 := emp_size s he
      have E := hid (getD_at s 0 h0)
      clear he
      by_cases hm : s[0].toNat = 45
      · have h2 : ((s[0].toNat : Int) == 45) = true := byte_is _ _ hm
        have H := hid (show pNeg l = true by rw [← HL.out]; unfold pNeg; rw [E.out, hm]; rfl)
        clear hm
        go_wp2_with fail
        go_meet
        exact ⟨by rw [H.out], rfl⟩
      · have h2 : ((s[0].toNat : Int) == 45) = false := byte_not _ _ hm
        have H := hid (show pNeg l = false by rw [← HL.out]; unfold pNeg; rw [E.out]; simp [hm])
        clear hm
        go_wp2_with fail
        go_meet
        exact ⟨by rw [H.out], rfl⟩
  case rest =>
  obtain ⟨rfl, rfl⟩ := hcut
  go_upto_if 20 with fail
  go_cut [0, 7] from 13 (fun v y wx => ∃ u : ByteArray, v = .string u ∧ y = .bool (pNeg l) ∧ Hid (u.data.toList = pU l) ∧ u.size ≤ 2 ^ 63 - 1 ∧ wx = wc)
  case first =>
    cases hn : pNeg l
    · go_wp2_with fail
      go_meet
      exact ⟨s, rfl, by rw [hn], show s.data.toList = pU l by rw [HL.out]; unfold pU; rw [hn]; rfl, hs, rfl⟩
    · have h1 : 1 ≤ s.size := by
        have h2 := first_is s 45 (by rw [HL.out]; exact of_decide_eq_true hn) (by decide)
        exact emp_size s h2
      go_wp2_with fail
      go_meet
      exact ⟨s.extract 1 s.size, rfl, by rw [hn], show (s.extract 1 s.size).data.toList = pU l by rw [drop_list, HL.out]; unfold pU; rw [hn]; rfl, by rw [ByteArray.size_extract]; omega, rfl⟩
  case rest =>
  obtain ⟨u, rfl, rfl, HU, hus, rfl⟩ := hcut
  have hr := runN_le u.data.toList
  rw [size_list] at hr
  obtain ⟨n, hn⟩ : ∃ n, runN u.data.toList = n := ⟨_, rfl⟩
  have HN := hid hn
  rw [hn] at hr
  obtain ⟨x, hx⟩ : ∃ x, u.extract 0 n = x := ⟨_, rfl⟩
  obtain ⟨y, hy⟩ : ∃ y, u.extract n u.size = y := ⟨_, rfl⟩
  have HX := hid (show x.data.toList = pW l by rw [← hx, cut_list, ← hn, runN_take, HU.out]; rfl)
  have HY := hid (show y.data.toList = pR l by rw [← hy, drop_list, ← hn, runN_drop, HU.out]; rfl)
  have hys : y.size ≤ 2 ^ 63 - 1 := by rw [← hy, ByteArray.size_extract]; omega
  have hxs : x.size ≤ 2 ^ 63 - 1 := by rw [← hx, ByteArray.size_extract]; omega
  clear hn
  go_upto_region 7 with (go_at_call 72; go_must (refine (run_any _ _ hus).mono ?_; rintro e w' ⟨rfl, hw⟩; obtain rfl := hw.symm; rw [HN.out]))
  go_cut [42] from 13 (fun v wx => v = .bool (!pWok l) ∧ wx = wc)
  case first =>
    by_cases he : x.data.toList = []
    · have h1 := emp_yes x he
      have H := hid (show pWok l = false by unfold pWok; rw [← HX.out, he]; rfl)
      clear he
      go_wp2_with fail
      go_meet
      exact ⟨by rw [H.out]; rfl, rfl⟩
    · have h1 := emp_no x he
      have h0 := emp_size x he
      have E := hid (getD_at x 0 h0)
      have HE := hid he
      have HS := hid (size_list x)
      clear he
      by_cases h2 : 1 < x.size
      · by_cases hm : x[0].toNat = 48
        · have h2 : ((x[0].toNat : Int) == 48) = true := byte_is _ _ hm
          have H := hid (show pWok l = false by unfold pWok; rw [← HX.out, E.out, hm, HS.out]; simp; omega)
          clear hm
          go_wp2_with fail
          go_meet
          exact ⟨by rw [H.out]; rfl, rfl⟩
        · have h2 : ((x[0].toNat : Int) == 48) = false := byte_not _ _ hm
          have H := hid (show pWok l = true by unfold pWok; rw [← HX.out, E.out]; simp [hm]; simpa using HE.out)
          clear hm
          go_wp2_with fail
          go_meet
          exact ⟨by rw [H.out]; rfl, rfl⟩
      · have H := hid (show pWok l = true by unfold pWok; rw [← HX.out, HS.out]; simp [h2]; simpa using HE.out)
        go_wp2_with fail
        go_meet
        exact ⟨by rw [H.out]; rfl, rfl⟩
  case rest =>
  obtain ⟨rfl, rfl⟩ := hcut
  cases hW : pWok l with
  | false =>
    go_wp2_with fail
    refine bodyPost_ret (results_tmp5 rfl _ _ _) rfl ⟨?_, rfl⟩
    rw [partsV_no l (Or.inl hW)]; rfl
  | true =>
  go_upto_region 10 with fail
  go_cut [49] from 13 (fun v wx => v = .bool (pDot l) ∧ wx = wc)
  case first =>
    by_cases he : y.data.toList = []
    · have h1 := emp_yes y he
      have H := hid (show pDot l = false by unfold pDot; rw [← HY.out, he]; rfl)
      clear he
      go_wp2_with fail
      go_meet
      exact ⟨by rw [H.out], rfl⟩
    · have h1 := emp_no y he
      have h0 := emp_size y he
      have E := hid (getD_at y 0 h0)
      clear he
      by_cases hm : y[0].toNat = 46
      · have h2 : ((y[0].toNat : Int) == 46) = true := byte_is _ _ hm
        have H := hid (show pDot l = true by unfold pDot; rw [← HY.out, E.out, hm]; rfl)
        clear hm
        go_wp2_with fail
        go_meet
        exact ⟨by rw [H.out], rfl⟩
      · have h2 : ((y[0].toNat : Int) == 46) = false := byte_not _ _ hm
        have H := hid (show pDot l = false by unfold pDot; rw [← HY.out, E.out]; simp [hm])
        clear hm
        go_wp2_with fail
        go_meet
        exact ⟨by rw [H.out], rfl⟩
  case rest =>
  obtain ⟨rfl, rfl⟩ := hcut
  go_upto_if 49 with fail
  go_cut [0, 10] from 13 (fun v g wx => ∃ z f : ByteArray, v = .string z ∧ g = .string f ∧ Hid (z.data.toList = pS l) ∧ Hid (f.data.toList = pF l) ∧ Hid (pFok l = true) ∧ z.size ≤ 2 ^ 63 - 1 ∧ wx = wc)
  case first =>
    cases hD : pDot l with
    | false =>
      have H1 := hid (show pS l = pR l by unfold pS; rw [hD]; rfl)
      have H2 := hid (show pF l = [] by unfold pF; rw [hD]; rfl)
      have H3 := hid (show pFok l = true by unfold pFok; rw [hD]; rfl)
      go_wp2_with fail
      go_meet
      exact ⟨y, ⟨#[]⟩, rfl, rfl, HY.out.trans H1.out.symm, H2.out.symm, H3, hys, rfl⟩
    | true =>
      have h1 : 1 ≤ y.size := emp_size y (first_is y 46 (by rw [HY.out]; exact of_decide_eq_true hD) (by decide))
      obtain ⟨y1, hy1⟩ : ∃ x, y.extract 1 y.size = x := ⟨_, rfl⟩
      have hl1 : y1.data.toList = (pR l).drop 1 := by rw [← hy1, drop_list, HY.out]
      have hs1 : y1.size = y.size - 1 := by rw [← hy1, ByteArray.size_extract]; omega
      have hs1' : y1.size ≤ 2 ^ 63 - 1 := by omega
      have hr1 := runN_le y1.data.toList
      rw [size_list] at hr1
      obtain ⟨m, hm⟩ : ∃ m, runN y1.data.toList = m := ⟨_, rfl⟩
      have HM := hid hm
      rw [hm] at hr1
      have hm1 : 1 + m ≤ y.size := by omega
      obtain ⟨f, hf⟩ : ∃ x, y.extract 1 (1 + m) = x := ⟨_, rfl⟩
      obtain ⟨z, hz⟩ : ∃ x, y.extract (1 + m) y.size = x := ⟨_, rfl⟩
      have HF := hid (show f.data.toList = pF l by
        rw [← hf]; unfold pF; rw [hD, if_pos rfl, ← runN_take, ← hl1, hm, hl1, ← HY.out]; simp)
      have HZ := hid (show z.data.toList = pS l by
        rw [← hz, drop_list]; unfold pS; rw [hD, if_pos rfl, ← runN_drop, ← hl1, hm, hl1, ← HY.out, List.drop_drop])
      have hzs : z.size ≤ 2 ^ 63 - 1 := by rw [← hz, ByteArray.size_extract]; omega
      clear hm hl1 hs1
      by_cases he : f.data.toList = []
      · have h2 := emp_yes f he
        have H := hid (show pFok l = false by unfold pFok; rw [hD, ← HF.out, he]; rfl)
        clear he
        go_wp2_with (go_at_call 72; go_must (refine (run_any _ _ hs1').mono ?_; rintro e w' ⟨rfl, hw⟩; obtain rfl := hw.symm; rw [HM.out]))
        refine bodyPost_ret (results_tmp5 rfl _ _ _) rfl ⟨?_, rfl⟩
        rw [partsV_no l (Or.inr (Or.inl H.out))]; rfl
      · have h2 := emp_no f he
        have H := hid (show pFok l = true by unfold pFok; rw [hD, ← HF.out]; simp; simpa using he)
        clear he
        go_wp2_with (go_at_call 72; go_must (refine (run_any _ _ hs1').mono ?_; rintro e w' ⟨rfl, hw⟩; obtain rfl := hw.symm; rw [HM.out]))
        go_meet
        exact ⟨z, f, by first | rfl | rw [hz], by rw [hf], HZ, HF, H, hzs, rfl⟩
  case rest =>
  obtain ⟨z, f, rfl, rfl, HZ, HF, HFO, hzs, rfl⟩ := hcut
  by_cases he : z.data.toList = []
  · have h2 := emp_yes z he
    have H := hid (show pEok l = true by unfold pEok; rw [← HZ.out, he]; rfl)
    have H2 := hid (show pP l = [] by unfold pP; rw [← HZ.out, he]; rfl)
    clear he
    go_wp2_with fail
    refine bodyPost_ret (results_tmp5 rfl _ _ _) rfl ⟨?_, rfl⟩
    rw [partsV_yes l hW HFO.out H.out, H2.out, mkS_of x _ HX.out, mkS_of f _ HF.out]; rfl
  · have h2 := emp_no z he
    have h0 := emp_size z he
    have E := hid (getD_at z 0 h0)
    have HE := hid (show ¬ pS l = [] by rw [← HZ.out]; exact he)
    clear he
    go_upto_region 18 with fail
    go_cut [75] from 13 (fun v wx => v = .bool (!pE l) ∧ wx = wc)
    case first =>
      by_cases h5 : z[0].toNat = 101
      · have h6 : ((z[0].toNat : Int) != 101) = false := byte_nis _ _ h5
        have H := hid (show pE l = true by unfold pE; rw [← HZ.out, E.out, h5]; rfl)
        clear h5
        go_wp2_with fail
        go_meet
        exact ⟨by rw [H.out]; rfl, rfl⟩
      · have h6 : ((z[0].toNat : Int) != 101) = true := byte_nnot _ _ h5
        by_cases h7 : z[0].toNat = 69
        · have h8 : ((z[0].toNat : Int) != 69) = false := byte_nis _ _ h7
          have H := hid (show pE l = true by unfold pE; rw [← HZ.out, E.out, h7]; rfl)
          clear h5 h7
          go_wp2_with fail
          go_meet
          exact ⟨by rw [H.out]; rfl, rfl⟩
        · have h8 : ((z[0].toNat : Int) != 69) = true := byte_nnot _ _ h7
          have H := hid (show pE l = false by unfold pE; rw [← HZ.out, E.out]; simp [h5, h7])
          clear h5 h7
          go_wp2_with fail
          go_meet
          exact ⟨by rw [H.out]; rfl, rfl⟩
    case rest =>
    obtain ⟨rfl, rfl⟩ := hcut
    cases hE : pE l with
    | false =>
      have H := hid (show pEok l = false by unfold pEok; rw [hE]; simp [HE.out])
      go_wp2_with fail
      refine bodyPost_ret (results_tmp5 rfl _ _ _) rfl ⟨?_, rfl⟩
      rw [partsV_no l (Or.inr (Or.inr H.out))]; rfl
    | true =>
    obtain ⟨p, hp⟩ : ∃ x, z.extract 1 z.size = x := ⟨_, rfl⟩
    have HP := hid (show p.data.toList = pP l by rw [← hp, drop_list, HZ.out]; rfl)
    have hps : p.size ≤ 2 ^ 63 - 1 := by rw [← hp, ByteArray.size_extract]; omega
    go_upto_region 22 with fail
    go_cut [90] from 13 (fun v wx => v = .bool (pSg (pP l)) ∧ wx = wc)
    case first =>
      by_cases he : p.data.toList = []
      · have h3 := emp_yes p he
        have H := hid (show pSg (pP l) = false by rw [← HP.out, he]; rfl)
        clear he
        go_wp2_with fail
        go_meet
        exact ⟨by rw [H.out], rfl⟩
      · have h3 := emp_no p he
        have h4 := emp_size p he
        have E4 := hid (getD_at p 0 h4)
        clear he
        by_cases h5 : p[0].toNat = 43
        · have h6 : ((p[0].toNat : Int) == 43) = true := byte_is _ _ h5
          have H := hid (show pSg (pP l) = true by unfold pSg; rw [← HP.out, E4.out, h5]; rfl)
          clear h5
          go_wp2_with fail
          go_meet
          exact ⟨by rw [H.out], rfl⟩
        · have h6 : ((p[0].toNat : Int) == 43) = false := byte_not _ _ h5
          by_cases h7 : p[0].toNat = 45
          · have h8 : ((p[0].toNat : Int) == 45) = true := byte_is _ _ h7
            have H := hid (show pSg (pP l) = true by unfold pSg; rw [← HP.out, E4.out, h7]; rfl)
            clear h5 h7
            go_wp2_with fail
            go_meet
            exact ⟨by rw [H.out], rfl⟩
          · have h8 : ((p[0].toNat : Int) == 45) = false := byte_not _ _ h7
            have H := hid (show pSg (pP l) = false by unfold pSg; rw [← HP.out, E4.out]; simp [h5, h7])
            clear h5 h7
            go_wp2_with fail
            go_meet
            exact ⟨by rw [H.out], rfl⟩
    case rest =>
    obtain ⟨rfl, rfl⟩ := hcut
    go_upto_if 90 with fail
    go_cut [12] from 13 (fun v wx => ∃ d : ByteArray, v = .string d ∧ Hid (d.data.toList = pD (pP l)) ∧ d.size ≤ 2 ^ 63 - 1 ∧ wx = wc)
    case first =>
      cases hG : pSg (pP l) with
      | false =>
        have H := hid (show pD (pP l) = pP l by unfold pD; rw [hG]; rfl)
        go_wp2_with fail
        go_meet
        exact ⟨p, rfl, HP.out.trans H.out.symm, hps, rfl⟩
      | true =>
        have H := hid (show pD (pP l) = (pP l).drop 1 by unfold pD; rw [hG]; rfl)
        have h1 : 1 ≤ p.size := emp_size p (by
          rw [HP.out]; intro hc; rw [hc] at hG; exact absurd hG (by decide))
        go_wp2_with fail
        go_meet
        exact ⟨p.extract 1 p.size, rfl, show _ = _ by rw [drop_list, HP.out, H.out], by rw [ByteArray.size_extract]; omega, rfl⟩
    case rest =>
    obtain ⟨d, rfl, HD, hds, rfl⟩ := hcut
    have hrd := runN_le d.data.toList
    rw [size_list] at hrd
    have HSD := hid (size_list d)
    by_cases he : d.data.toList = []
    · have h3 := emp_yes d he
      have H := hid (show pEok l = false by unfold pEok; rw [← HD.out, he]; simp [HE.out])
      clear he
      go_wp2_with fail
      refine bodyPost_ret (results_tmp5 rfl _ _ _) rfl ⟨?_, rfl⟩
      rw [partsV_no l (Or.inr (Or.inr H.out))]; rfl
    · have h3 := emp_no d he
      have HE2 := hid he
      clear he
      by_cases hq : runN d.data.toList = d.size
      · have H := hid (show pEok l = true by unfold pEok; rw [hE, ← HD.out, HSD.out, hq]; simp; exact Or.inr (by simpa using HE2.out))
        have HQ := hid hq
        clear hq
        go_wp2_with (go_at_call 72; go_must (refine (run_any _ _ hds).mono ?_; rintro e w' ⟨rfl, hw⟩; obtain rfl := hw.symm; rw [HQ.out]))
        refine bodyPost_ret (results_tmp5 rfl _ _ _) rfl ⟨?_, rfl⟩
        rw [partsV_yes l hW HFO.out H.out, mkS_of x _ HX.out, mkS_of f _ HF.out, mkS_of p _ HP.out]; rfl
      · have hq' : ((runN d.data.toList : Int) != (d.size : Int)) = true := by rw [bne_iff_ne]; omega
        have H := hid (show pEok l = false by unfold pEok; rw [← HD.out, HSD.out]; simp [HE.out, hq])
        clear hq
        go_wp2_with (go_at_call 72; go_must (refine (run_any _ _ hds).mono ?_; rintro e w' ⟨rfl, hw⟩; obtain rfl := hw.symm))
        refine bodyPost_ret (results_tmp5 rfl _ _ _) rfl ⟨?_, rfl⟩
        rw [partsV_no l (Or.inr (Or.inr H.out))]; rfl
end Go.Proofs.YtnpojefcibfgkaaGreatDoor
