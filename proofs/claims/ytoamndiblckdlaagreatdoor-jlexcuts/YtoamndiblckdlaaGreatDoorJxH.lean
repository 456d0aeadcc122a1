/- jlex.take: walked. -/
import Derived.Test.YtoamndiblckdlaaGreatDoorJxG
namespace Go.Proofs.YtoamndiblckdlaaGreatDoor
open Go.RowKit

theorem tw_shape (t : ByteArray) (i : Nat) (x : LW) : ∃ (k : Int) (m : ByteArray) (p n e f1 f2 f3 : Int), Hid (twV t i x = .tuple #[.agg #[.int .i64 k, .string m, .int .i64 p], .int .i64 n, .agg #[.int .i64 e, .int .i64 f1, .int .i64 f2, .int .i64 f3]]) := by
  unfold twV faultV
  split
  · exact ⟨_, _, _, _, _, _, _, _, rfl⟩
  · exact ⟨_, _, _, _, _, _, _, _, rfl⟩
theorem low_num {b : UInt8} (h : lowC b = true) : numS b = false := by
  unfold lowC at h; unfold numS
  have := of_decide_eq_true h
  exact decide_eq_false (by omega)
theorem jnum_of {b : UInt8} (h1 : lowC b = false) (h2 : numC b = true) : numS b = true := by
  unfold numC at h2; unfold lowC at h1
  have := of_decide_eq_false h1
  rw [Bool.or_eq_true] at h2
  rcases h2 with h | h
  · exact h
  · have := of_decide_eq_true h; omega
theorem num_not {b : UInt8} (h2 : numC b = false) : numS b = false := by
  unfold numC at h2; rw [Bool.or_eq_false_iff] at h2; exact h2.1
theorem lwL_none {t : ByteArray} {i : Nat} (hi : i < t.size) (h : lowC t[i] = false) : lwL t.data.toList i = ⟨0, [], 0, 4, i⟩ := by
  have hr : run lowC (t.data.toList.drop i) = 0 := by
    refine run_is 0 (Nat.zero_le _) (fun k _ hk => absurd hk (by omega)) (fun hl => ?_)
    rw [List.getElem_drop]; exact h
  unfold lwL; rw [hr]; rfl
set_option maxRecDepth 100000 in
set_option maxHeartbeats 1000000 in
theorem tk_any (t : ByteArray) (i : Nat) (w : World) (ht : t.size ≤ 1000000) (hi : i < t.size) (hbl : blB t[i] = false) (hg : GlobU w) :
    Calls Tryz.prog 16 #[.string t, .int .i64 (i : Int)] w fun e w' => e = .returned (twV t i (lw t.data.toList i)) ∧ Below w.heap.size w w' := by
  have HG := hid (hg.on (Tryz.pw_bel w))
  have CR := hid (fun a x X => refuse_ex t a x X ht)
  have CS := hid (fun X => among_of ⟨#[123, 125, 91, 93, 58, 44]⟩ sgnB in_sg t[i] X)
  have CL := hid (fun X => among_of ⟨#[97, 98, 99, 100, 101, 102, 103, 104, 105, 106, 107, 108, 109, 110, 111, 112, 113, 114, 115, 116, 117, 118, 119, 120, 121, 122]⟩ lowC in_lc t[i] X)
  have CN := hid (fun X => among_of ⟨#[48, 49, 50, 51, 52, 53, 54, 55, 56, 57, 43, 45, 46, 101, 69]⟩ numC in_nc t[i] X)
  have T1 := hid (fun X => tstr_any t i X ht)
  have T2 := hid (fun X => tname_any t i X ht (Nat.le_of_lt hi))
  have T3 := hid (fun X h => tnum_any t i X ht (Nat.le_of_lt hi) h)
  have CP := hid (fun X => piece_any t i (i + 1) 1 X ht (by omega) hi)
  have HT := hid (list_at t i hi)
  have hb := t[i].toNat_lt
  cases hsg : sgnB t[i] with
  | true =>
    rw [hsg] at CS
    have HW := hid (show lw t.data.toList i = ⟨1, [t[i]], i + 1, 0, 0⟩ from lw_sg HT.out hbl hsg)
    have HX := hid (show t.extract i (i + 1) = mkS [t[i]] from mkS_of _ _ (by
      rw [jcut_list, List.drop_eq_getElem_cons (by rw [size_list]; exact hi)]; rfl))
    obtain ⟨m, hm⟩ : ∃ m, t.extract i (i + 1) = m := ⟨_, rfl⟩
    rw [hm] at CP HX
    clear hm
    have HF := hid (show twV t i (lw t.data.toList i) = .tuple #[.agg #[.int .i64 1, .string m, .int .i64 (i : Nat)], .int .i64 ((i + 1 : Nat) : Int), .agg #[.int .i64 0, .int .i64 0, .int .i64 0, .int .i64 0]] from tw_ok (by rw [HW.out]) (by rw [HW.out]; rfl) (by rw [HW.out]; exact HX.out) (by rw [HW.out]))
    rw [HF.out]
    clear HF
    have CP2 : Hid (∀ X, Calls Tryz.prog 29 #[.string t, .int .i64 (i : Int), .int .i64 ((i : Int) + 1), .int .i64 1] X _) := CP.out
    clear HW HX hsg
    go_enter Tryz.func16, Tryz.ntmps16
    go_wp2_with fail
    go_at_call 28
    refine (CS.out _).mono ?_
    rintro e w1 ⟨rfl, hw1⟩
    obtain rfl := hw1.symm
    clear hw1
    go_wp2_with fail
    go_at_call 29
    refine (CP2.out _).mono ?_
    rintro e w9 ⟨rfl, hb9⟩
    have HB9 : Hid (Below (Tryz.pwW w).heap.size (Tryz.pwW w) w9) := hb9
    clear hb9
    obtain ⟨⟨a0, a1, a2, a3⟩, ⟨b0, b1, b2, b3, b4⟩, hz9⟩ := Tryz.pw_keeps HB9.out
    go_wp2_with fail
    refine bodyPost_ret (v := .tuple #[.agg #[.int .i64 1, .string m, .int .i64 (i : Nat)], .int .i64 ((i + 1 : Nat) : Int), .agg #[.int .i64 0, .int .i64 0, .int .i64 0, .int .i64 0]]) (by simp [results, Tryz.results16, go_sem, a0, a1, a2, b0, b1, b2, b3]) rfl ⟨ret_of (rfl), ?_⟩
    exact set7 (onto (Tryz.pw_bel w) HB9.out) (Nat.le_refl _) (Nat.le_succ _)
  | false =>
  rw [hsg] at CS
  by_cases hqt : t[i].toNat = 34
  · have g : ((t[i].toNat : Int) == 34) = true := by rw [beq_iff_eq]; omega
    have HW := hid (show lw t.data.toList i = lwS t.data.toList i from lw_qt HT.out hbl hsg hqt)
    rw [HW.out]
    have HV := tw_shape t i (lwS t.data.toList i)
    obtain ⟨k, m, p, n, x, f1, f2, f3, HV⟩ := HV
    rw [HV.out] at T1 ⊢
    clear HV
    clear HW hsg hqt
    go_enter Tryz.func16, Tryz.ntmps16
    go_wp2_with fail
    go_at_call 28
    refine (CS.out _).mono ?_
    rintro e w1 ⟨rfl, hw1⟩
    obtain rfl := hw1.symm
    clear hw1
    go_wp2_with fail
    go_at_call 30
    refine (T1.out _).mono ?_
    rintro e w9 ⟨rfl, hb9⟩
    have HB9 : Hid (Below (Tryz.pwW w).heap.size (Tryz.pwW w) w9) := hb9
    clear hb9
    obtain ⟨⟨a0, a1, a2, a3⟩, ⟨b0, b1, b2, b3, b4⟩, hz9⟩ := Tryz.pw_keeps HB9.out
    go_wp2_with fail
    refine bodyPost_ret (v := .tuple #[.agg #[.int .i64 k, .string m, .int .i64 p], .int .i64 n, .agg #[.int .i64 x, .int .i64 f1, .int .i64 f2, .int .i64 f3]]) (by simp [results, Tryz.results16, go_sem, a0, a1, a2, b0, b1, b2, b3]) rfl ⟨ret_of (rfl), ?_⟩
    exact set7 (onto (Tryz.pw_bel w) HB9.out) (Nat.le_refl _) (Nat.le_succ _)
  · have g : ((t[i].toNat : Int) == 34) = false := by rw [beq_eq_false_iff_ne]; omega
    cases hlo : lowC t[i] with
    | true =>
      rw [hlo] at CL
      have HW := hid (show lw t.data.toList i = lwL t.data.toList i from lw_lt HT.out hbl hsg hqt (low_num hlo))
      rw [HW.out]
      have HV := tw_shape t i (lwL t.data.toList i)
      obtain ⟨k, m, p, n, x, f1, f2, f3, HV⟩ := HV
      rw [HV.out] at T2 ⊢
      clear HV
      clear HW hsg hqt hlo
      go_enter Tryz.func16, Tryz.ntmps16
      go_wp2_with fail
      go_at_call 28
      refine (CS.out _).mono ?_
      rintro e w1 ⟨rfl, hw1⟩
      obtain rfl := hw1.symm
      clear hw1
      go_wp2_with fail
      go_at_call 28
      refine (CL.out _).mono ?_
      rintro e w1 ⟨rfl, hw1⟩
      obtain rfl := hw1.symm
      clear hw1
      go_wp2_with fail
      go_at_call 31
      refine (T2.out _).mono ?_
      rintro e w9 ⟨rfl, hb9⟩
      have HB9 : Hid (Below (Tryz.pwW w).heap.size (Tryz.pwW w) w9) := hb9
      clear hb9
      obtain ⟨⟨a0, a1, a2, a3⟩, ⟨b0, b1, b2, b3, b4⟩, hz9⟩ := Tryz.pw_keeps HB9.out
      go_wp2_with fail
      refine bodyPost_ret (v := .tuple #[.agg #[.int .i64 k, .string m, .int .i64 p], .int .i64 n, .agg #[.int .i64 x, .int .i64 f1, .int .i64 f2, .int .i64 f3]]) (by simp [results, Tryz.results16, go_sem, a0, a1, a2, b0, b1, b2, b3]) rfl ⟨ret_of (rfl), ?_⟩
      exact set7 (onto (Tryz.pw_bel w) HB9.out) (Nat.le_refl _) (Nat.le_succ _)
    | false =>
      rw [hlo] at CL
      cases hnc : numC t[i] with
      | true =>
        rw [hnc] at CN
        have HW := hid (show lw t.data.toList i = lwN t.data.toList i from lw_nm HT.out hbl hsg hqt (jnum_of hlo hnc))
        rw [HW.out]
        have HV := tw_shape t i (lwN t.data.toList i)
        obtain ⟨k, m, p, n, x, f1, f2, f3, HV⟩ := HV
        rw [HV.out] at T3 ⊢
        clear HV
        clear HW hsg hqt hlo hnc
        go_enter Tryz.func16, Tryz.ntmps16
        go_wp2_with fail
        go_at_call 28
        refine (CS.out _).mono ?_
        rintro e w1 ⟨rfl, hw1⟩
        obtain rfl := hw1.symm
        clear hw1
        go_wp2_with fail
        go_at_call 28
        refine (CL.out _).mono ?_
        rintro e w1 ⟨rfl, hw1⟩
        obtain rfl := hw1.symm
        clear hw1
        go_wp2_with fail
        go_at_call 28
        refine (CN.out _).mono ?_
        rintro e w1 ⟨rfl, hw1⟩
        obtain rfl := hw1.symm
        clear hw1
        go_wp2_with fail
        go_at_call 32
        refine (T3.out _ HG.out).mono ?_
        rintro e w9 ⟨rfl, hb9⟩
        have HB9 : Hid (Below (Tryz.pwW w).heap.size (Tryz.pwW w) w9) := hb9
        clear hb9
        obtain ⟨⟨a0, a1, a2, a3⟩, ⟨b0, b1, b2, b3, b4⟩, hz9⟩ := Tryz.pw_keeps HB9.out
        go_wp2_with fail
        refine bodyPost_ret (v := .tuple #[.agg #[.int .i64 k, .string m, .int .i64 p], .int .i64 n, .agg #[.int .i64 x, .int .i64 f1, .int .i64 f2, .int .i64 f3]]) (by simp [results, Tryz.results16, go_sem, a0, a1, a2, b0, b1, b2, b3]) rfl ⟨ret_of (rfl), ?_⟩
        exact set7 (onto (Tryz.pw_bel w) HB9.out) (Nat.le_refl _) (Nat.le_succ _)
      | false =>
        rw [hnc] at CN
        have HW := hid (show lw t.data.toList i = ⟨0, [], 0, 4, i⟩ from (lw_lt HT.out hbl hsg hqt (num_not hnc)).trans (lwL_none hi hlo))
        have HF := hid (show twV t i (lw t.data.toList i) = .tuple #[.agg #[.int .i64 0, .string ⟨#[]⟩, .int .i64 0], .int .i64 0, faultV t (i : Int) 4] from tw_no (by rw [HW.out]; simp) (by rw [HW.out]) (by rw [HW.out]; rfl))
        clear HW hsg hqt hlo hnc
        go_enter Tryz.func16, Tryz.ntmps16
        go_wp2_with fail
        go_at_call 28
        refine (CS.out _).mono ?_
        rintro e w1 ⟨rfl, hw1⟩
        obtain rfl := hw1.symm
        clear hw1
        go_wp2_with fail
        go_at_call 28
        refine (CL.out _).mono ?_
        rintro e w1 ⟨rfl, hw1⟩
        obtain rfl := hw1.symm
        clear hw1
        go_wp2_with fail
        go_at_call 28
        refine (CN.out _).mono ?_
        rintro e w1 ⟨rfl, hw1⟩
        obtain rfl := hw1.symm
        clear hw1
        go_wp2_with fail
        go_at_call 33
        refine (CR.out _ _ _).mono ?_
        rintro e w9 ⟨f1, f2, f3, HV, rfl, hb9⟩
        have HB9 : Hid (Below (Tryz.pwW w).heap.size (Tryz.pwW w) w9) := hb9
        clear hb9
        obtain ⟨⟨a0, a1, a2, a3⟩, ⟨b0, b1, b2, b3, b4⟩, hz9⟩ := Tryz.pw_keeps HB9.out
        go_wp2_with fail
        refine bodyPost_ret (v := .tuple #[.agg #[.int .i64 0, .string ⟨#[]⟩, .int .i64 0], .int .i64 0, .agg #[.int .i64 4, .int .i64 f1, .int .i64 f2, .int .i64 f3]]) (by simp [results, Tryz.results16, go_sem, a0, a1, a2, b0, b1, b2, b3]) rfl ⟨ret_of (by rw [HF.out, HV.out]), ?_⟩
        exact set7 (onto (Tryz.pw_bel w) HB9.out) (Nat.le_refl _) (Nat.le_succ _)
end Go.Proofs.YtoamndiblckdlaaGreatDoor
