/- Package dec, walked: a text's digits cut off, what stands behind e. -/
import Derived.Test.YtnpojefcibfgkaaGreatDoorRefDecB
import Derived.Test.YtnpojefcibfgkaaGreatDoorMathDecAll
import Derived.Test.YtnpojefcibfgkaaGreatDoorShelf
import Derived.Laws.IdiomStrings
import Derived.BigQuiet
namespace Go.Proofs.YtnpojefcibfgkaaGreatDoor
open Go.RowKit

theorem cutp_any (s : ByteArray) (c : UInt8) (w : World) :
    Calls Tryz.prog 75 #[.string s, .string ⟨#[c]⟩] w fun e w' => e = .returned (.tuple #[.string (mkS (Lib.trimPrefix s.data.toList [c])), .bool (Lib.hasPrefix s.data.toList [c])]) ∧ w' = w := Tryz.strings_CutPrefix s ⟨#[c]⟩ w
theorem trimp_any (s : ByteArray) (c : UInt8) (w : World) :
    Calls Tryz.prog 101 #[.string s, .string ⟨#[c]⟩] w fun e w' => e = .returned (.string (mkS (Lib.trimPrefix s.data.toList [c]))) ∧ w' = w := Tryz.strings_TrimPrefix s ⟨#[c]⟩ w
theorem ret_ss {a b c d : ByteArray} (h : a = b) (g : c = d) : Ending.returned (.tuple #[.string a, .string c]) = .returned (.tuple #[.string b, .string d]) := by rw [h, g]
theorem cut_pair (s : ByteArray) : s.extract 0 (runN s.data.toList) = mkS (s.data.toList.takeWhile isD) ∧ s.extract (runN s.data.toList) s.size = mkS (s.data.toList.dropWhile isD) :=
  ⟨mkS_of _ _ (by rw [cut_list, runN_take]), mkS_of _ _ (by rw [drop_list, runN_drop])⟩
set_option maxRecDepth 100000 in
set_option maxHeartbeats 400000 in
theorem cutd_any (s : ByteArray) (w : World) (hs : s.size ≤ maxLen) :
    Calls Tryz.prog 76 #[.string s] w fun e w' => e = .returned (.tuple #[.string (mkS (s.data.toList.takeWhile isD)), .string (mkS (s.data.toList.dropWhile isD))]) ∧ ∃ n, w' = w.drewN n := by
  unfold maxLen at hs
  have hr := runN_le s.data.toList
  rw [size_list] at hr
  go_enter Tryz.func76, Tryz.ntmps76
  go_wp2_with fail
  go_loop [4] (fun x => ∃ k : Nat, x = .int .i64 k ∧ k ≤ runN s.data.toList) (fun x => s.size - (intOf x).toNat)
  case atStart => exact ⟨0, rfl, Nat.zero_le _⟩
  case round =>
    obtain ⟨k, rfl, hk⟩ := hrel
    by_cases hlt : k < s.size
    · have E := hid (getD_at s k hlt)
      by_cases hd : k < runN s.data.toList
      · have hD := isD_bd (show isD s[k] = true by rw [← E.out]; exact runN_lt _ _ hd)
        go_wp2_with fail
        go_round
        case rel => exact ⟨k + 1, by go_num, hd⟩
        case measure => simp [intOf]; omega
      · have hk' : k = runN s.data.toList := by omega
        have hD : isD s[k] = false := by
          rw [← E.out, hk']; exact runN_at _ (by rw [size_list]; omega)
        have hD' : ¬ (48 ≤ s[k].toNat ∧ s[k].toNat ≤ 57) := by intro h; rw [show isD s[k] = true by unfold isD; rw [decide_eq_true h.1, decide_eq_true h.2]; rfl] at hD; cases hD
        have HK := hid hk'
        clear hk' hD
        by_cases h48 : 48 ≤ s[k].toNat
        · have h57 : ¬ s[k].toNat ≤ 57 := fun h => hD' ⟨h48, h⟩
          clear hD'
          go_wp2_with fail
          go_quiet (fail)
          go_wp2_with fail
          go_ret2
          have hc := cut_pair s
          rw [← HK.out] at hc
          exact ⟨ret_ss hc.1 hc.2, _, rfl⟩
        · clear hD'
          go_wp2_with fail
          go_quiet (fail)
          go_wp2_with fail
          go_ret2
          have hc := cut_pair s
          rw [← HK.out] at hc
          exact ⟨ret_ss hc.1 hc.2, _, rfl⟩
    · have HK := hid (show k = runN s.data.toList by omega)
      go_wp2_with fail
      go_quiet (fail)
      go_wp2_with fail
      go_ret2
      have hc := cut_pair s
      rw [← HK.out] at hc
      exact ⟨ret_ss hc.1 hc.2, _, rfl⟩
/-- what a text's bytes lie as, once they are converted -/
theorem brow_at (s : ByteArray) (k : Nat) (w : World) (c : Nat) (t : TypeId) (m : Nat × Nat) (hk : k < s.size) : (w.alloc (.cells (bytesRow s c) t m)).cell? ⟨w.heap.size, k, none⟩ = some (.int .u8 (s[k].toNat : Int)) := by
  rw [World.cell?_alloc_mark w _ t m k]
  exact bytesRow_at s c k hk
set_option maxRecDepth 100000 in
set_option maxHeartbeats 1000000 in
theorem readp_any (s : ByteArray) (w : World) (hs : s.size ≤ 1000) :
    Calls Tryz.prog 77 #[.string s] w fun e w' => e = .returned (.tuple #[.int .i64 (rpV s.data.toList), .bool (rpB s.data.toList)]) ∧ ((∃ n, w' = w.drewN n) ∨ ∃ o n, w' = (w.alloc o).drewN n) := by
  obtain ⟨l, hl⟩ : ∃ l, s.data.toList = l := ⟨_, rfl⟩
  have HL := hid hl
  clear hl
  rw [HL.out]
  by_cases he : s.data.toList = []
  · have h1 := emp_yes s he
    have H := hid (show l = [] by rw [← HL.out]; exact he)
    clear he
    go_enter Tryz.func77, Tryz.ntmps77
    go_wp2_with fail
    go_ret2
    exact ⟨ret_ib (by rw [H.out]; exact rp_nil.2.symm) (by rw [H.out]; exact rp_nil.1.symm), Or.inl ⟨0, rfl⟩⟩
  have h1 := emp_no s he
  have h0 := emp_size s he
  have HE := hid (show ¬ l = [] by rw [← HL.out]; exact he)
  have E := hid (show (l.getD 0 0) = s[0] by rw [← HL.out]; exact getD_at s 0 h0)
  clear he
  cases hE : rpE l with
  | false =>
    have hx : ¬ s[0].toNat = 101 ∧ ¬ s[0].toNat = 69 := by
      rw [← E.out]; unfold rpE at hE; simpa using hE
    have h2 : ((s[0].toNat : Int) != 101) = true := byte_nnot _ _ hx.1
    have h3 : ((s[0].toNat : Int) != 69) = true := byte_nnot _ _ hx.2
    have HN := hid (rp_no l HE.out (Or.inl hE))
    clear hx hE
    go_enter Tryz.func77, Tryz.ntmps77
    go_wp2_with fail
    go_ret2
    exact ⟨ret_ib HN.out.2.symm HN.out.1.symm, Or.inl ⟨0, rfl⟩⟩
  | true =>
  have H2 := hid (show ((s[0].toNat : Int) != 101) = false ∨ (((s[0].toNat : Int) != 101) = true ∧ ((s[0].toNat : Int) != 69) = false) by
    unfold rpE at hE; rw [E.out] at hE
    by_cases h : s[0].toNat = 101
    · exact Or.inl (byte_nis _ _ h)
    · refine Or.inr ⟨byte_nnot _ _ h, byte_nis _ _ ?_⟩
      simpa [h] using hE)
  have HR := hid hE
  clear hE
  obtain ⟨t, ht⟩ : ∃ t, l.drop 1 = t := ⟨_, rfl⟩
  have HT := hid ht
  obtain ⟨p, hp⟩ : ∃ p, s.extract 1 s.size = p := ⟨_, rfl⟩
  have HP := hid (show p.data.toList = t by rw [← hp, drop_list, HL.out, ht])
  clear ht
  have hps : p.size ≤ 1000 := by rw [← hp, ByteArray.size_extract]; omega
  go_enter Tryz.func77, Tryz.ntmps77
  go_upto_region 3 with fail
  go_cut [19] from 10 (fun v wx => v = .bool false ∧ wx = w)
  case first =>
    rcases H2.out with h2 | ⟨h2, h3⟩
    · go_wp2_with fail
      go_meet
      exact ⟨rfl, rfl⟩
    · go_wp2_with fail
      go_meet
      exact ⟨rfl, rfl⟩
  case rest =>
  obtain ⟨rfl, rfl⟩ := hcut
  go_upto_if 27 with (go_at_call 75; go_must (refine (cutp_any _ _ _).mono ?_; rintro e w' ⟨rfl, hw⟩; obtain rfl := hw.symm; rw [HP.out]))
  go_cut [4, 5] from 10 (fun v b wx => ∃ q : ByteArray, v = .string q ∧ b = .bool (Lib.hasPrefix t [45]) ∧ Hid (q.data.toList = pD t) ∧ wx = wc)
  case first =>
    cases hb : Lib.hasPrefix t [45] with
    | true =>
      have H := hid ((cut_sign t).1 hb)
      go_wp2_with fail
      go_meet
      exact ⟨_, rfl, by rw [hb], (show (mkS _).data.toList = _ by rw [mkS_list]; exact H.out), rfl⟩
    | false =>
      have H := hid ((cut_sign t).2 hb)
      go_wp2_with (go_at_call 101; go_must (refine (trimp_any _ _ _).mono ?_; rintro e w' ⟨rfl, hw⟩; obtain rfl := hw.symm; rw [mkS_list]))
      go_meet
      exact ⟨_, rfl, by rw [hb], (show (mkS _).data.toList = _ by rw [mkS_list]; exact H.out), rfl⟩
  case rest =>
  obtain ⟨q, rfl, rfl, HQ, rfl⟩ := hcut
  obtain ⟨D, hD⟩ : ∃ D, pD t = D := ⟨_, rfl⟩
  have HQ' := hid (show q.data.toList = D by rw [HQ.out, hD])
  have HD := hid hD
  have hqs : q.size ≤ 1000 := by
    rw [← size_list, HQ.out]; have h1 : (pD t).length ≤ t.length := by unfold pD; split <;> simp
    have h2 : t.length = p.size := by rw [← HP.out, size_list]
    omega
  clear hD HQ
  have cd : ∀ w, Calls Tryz.prog 76 #[.string q] w fun e w' => e = .returned (.tuple #[.string (mkS (D.takeWhile isD)), .string (mkS (D.dropWhile isD))]) ∧ ∃ n, w' = w.drewN n := fun w => by
    have := cutd_any q w (max_small hqs); rw [HQ'.out] at this; exact this
  obtain ⟨d, hd⟩ : ∃ d, mkS (D.takeWhile isD) = d := ⟨_, rfl⟩
  obtain ⟨r, hr⟩ : ∃ d, mkS (D.dropWhile isD) = d := ⟨_, rfl⟩
  rw [hd, hr] at cd
  have Hd := hid (show d.data.toList = D.takeWhile isD by rw [← hd, mkS_list])
  have Hr := hid (show r.data.toList = D.dropWhile isD by rw [← hr, mkS_list])
  clear hd hr
  by_cases hde : d.data.toList = []
  · have h2 := emp_yes d hde
    have HN := hid (show rpB l = false ∧ rpV l = 0 by
      refine rp_no l HE.out ?_
      rw [HT.out, HD.out]
      by_cases h0 : D = []
      · exact Or.inr (Or.inl h0)
      · refine Or.inr (Or.inr (Or.inl ?_))
        unfold runN; rw [← Hd.out, hde]
        intro h; exact h0 (List.length_eq_zero_iff.1 h.symm))
    clear hde
    go_wp2_with (go_at_call 76; go_must (refine (cd _).mono ?_; rintro e w' ⟨rfl, n, rfl⟩))
    go_ret2
    exact ⟨ret_ib HN.out.2.symm HN.out.1.symm, Or.inl ⟨_, rfl⟩⟩
  have h2 := emp_no d hde
  have HDE := hid hde
  clear hde
  by_cases hre : r.data.toList = []
  rotate_left
  · have h3 := emp_no r hre
    have HN := hid (show rpB l = false ∧ rpV l = 0 by
      refine rp_no l HE.out (Or.inr (Or.inr (Or.inl ?_)))
      rw [HT.out, HD.out]
      intro h; apply hre; rw [Hr.out, ← runN_drop, h, List.drop_length])
    clear hre
    go_wp2_with (go_at_call 76; go_must (refine (cd _).mono ?_; rintro e w' ⟨rfl, n, rfl⟩))
    go_ret2
    exact ⟨ret_ib HN.out.2.symm HN.out.1.symm, Or.inl ⟨_, rfl⟩⟩
  have h3 := emp_yes r hre
  have hDd : d.data.toList = D := by
    have := List.takeWhile_append_dropWhile (p := isD) (l := D)
    rw [← Hr.out, hre, List.append_nil] at this
    rw [Hd.out, this]
  have HA := hid (show D.all isD = true by rw [← hDd, Hd.out]; exact tw_all _)
  have HDd := hid hDd
  have HRN := hid (run_all D HA.out)
  have hds : d.size ≤ 1000 := by
    have h1 : d.size = D.length := by rw [← size_list, hDd]
    have h2 : q.size = D.length := by rw [← size_list, HQ'.out]
    omega
  clear hre hDd
  go_upto_region 12 with (go_at_call 76; go_must (refine (cd _).mono ?_; rintro e w' ⟨rfl, n, rfl⟩))
  have hcv := run_bytes_of_string (P := Tryz.prog) (wc.drewN n) 9 31 5 d Tryz.underlying9 Tryz.underlying31 Tryz.underlying5
  go_cut [42, 43, 44] from 10 (fun a b c wx => ∃ cap, a = .slice (some ⟨wc.heap.size, 0, none⟩) d.size cap ∧ b = .int .i64 d.size ∧ c = .int .i64 0 ∧ d.size ≤ cap ∧ Hid (∀ k (h : k < d.size), wx.cell? ⟨wc.heap.size, k, none⟩ = some (.int .u8 (d[k].toNat : Int))) ∧ Hid (∃ o m, wx = (wc.alloc o).drewN m))
  case first =>
    go_wp2_with fail
    go_meet
    exact ⟨_, rfl, rfl, rfl, grownCap_ge _ _ _ _, (show ∀ k (h : k < d.size), _ = _ from fun k hk => brow_at d k (wc.drewN (n + 1)) _ _ _ hk), (show ∃ o m, _ = _ from ⟨_, n + 1, rfl⟩)⟩
  case rest =>
  obtain ⟨cap, rfl, rfl, rfl, hcap, HC, HW⟩ := hcut

  have HSZ := hid (show D.length = d.size by rw [← HDd.out, size_list])
  go_wp2_with fail
  go_loop [7, 44] (fun v x => ∃ k : Nat, v = .int .i64 (pval (D.take k)) ∧ x = .int .i64 k ∧ k ≤ d.size ∧ pval (D.take k) ≤ 100000) (fun _ x => d.size - (intOf x).toNat)
  case atStart => exact ⟨0, rfl, rfl, Nat.zero_le _, by simp [pval]⟩
  case round =>
    obtain ⟨k, rfl, rfl, hk, hv⟩ := hrel
    by_cases hlt : k < d.size
    · have hcell := HC.out k hlt
      have E1 := hid (getD_at d k hlt)
      have P1 := hid (pval_take D k (by rw [HSZ.out]; exact hlt))
      have hdg : isD d[k] = true := by
        rw [← E1.out, HDd.out]
        refine isD_of_all HA.out ?_
        rw [List.getD, List.getElem?_eq_getElem (by rw [HSZ.out]; exact hlt)]
        exact List.getElem_mem _
      have hb := isD_bd hdg
      have HP1 := hid (show ((pval (D.take (k + 1)) : Nat) : Int) = (pval (D.take k) : Int) * 10 + ((d[k].toNat : Int) - 48) by rw [P1.out, ← HDd.out, E1.out, hdg]; simp; omega)
      clear hdg
      by_cases hg : (pval (D.take k) : Int) * 10 + ((d[k].toNat : Int) - 48) > 100000
      · have HN := hid (show rpB l = false ∧ rpV l = 0 by
          refine rp_no l HE.out (Or.inr (Or.inr (Or.inr ?_)))
          rw [HT.out, HD.out]
          have h1 := pval_le D (k + 1); have h2 := HP1.out
          omega)
        go_wp2_with fail
        go_ret2
        exact ⟨ret_ib HN.out.2.symm HN.out.1.symm, Or.inr HW.out⟩
      · go_wp2_with fail
        go_round
        case rel => exact ⟨k + 1, val_int HP1.out.symm, by go_num, hlt, by have := HP1.out; omega⟩
        case measure => simp [intOf]; omega
    · have HE2 := hid (show D.take k = D by rw [show k = d.size by omega, ← HSZ.out, List.take_length])
      rw [HE2.out] at hv ⊢
      have HY := hid (rp_yes l HR.out (by rw [HT.out, HD.out]; intro h; exact HDE.out (by rw [HDd.out, h])) (by rw [HT.out, HD.out]; exact HRN.out) (by rw [HT.out, HD.out]; exact hv))
      cases hb : Lib.hasPrefix t [45]
      · go_wp2_with fail
        go_ret2
        exact ⟨ret_ib (by rw [HY.out.2, HT.out, HD.out, hb]; rfl) HY.out.1.symm, Or.inr HW.out⟩
      · go_wp2_with fail
        go_ret2
        exact ⟨ret_ib (by rw [HY.out.2, HT.out, HD.out, hb]; rfl) HY.out.1.symm, Or.inr HW.out⟩
end Go.Proofs.YtnpojefcibfgkaaGreatDoor
