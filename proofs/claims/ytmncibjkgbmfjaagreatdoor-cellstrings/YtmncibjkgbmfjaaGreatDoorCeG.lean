/- CellStrings. -/
import Derived.Test.YtmncibjkgbmfjaaGreatDoorCeE
import Derived.SizedLaws
namespace Go.Proofs.YtmncibjkgbmfjaaGreatDoor
open Go.RowKit

theorem i64_and7 (n : Int) : bits .and .i64 n 7 = n % 8 := by
  have hm : (BitVec.ofInt 64 7).toNat = 2 ^ 3 - 1 := by decide
  have key : (BitVec.ofInt 64 n &&& BitVec.ofInt 64 7).toNat = (n % ((2 ^ 64 : Nat) : Int)).toNat % 2 ^ 3 := by
    rw [BitVec.toNat_and, BitVec.toNat_ofInt, hm, Nat.and_two_pow_sub_one_eq_mod]
  show IntKind.i64.wrap ((BitVec.ofInt 64 n &&& BitVec.ofInt 64 7).toNat : Nat) = n % 8
  rw [key, IntKind.wrap_i64]
  omega
theorem i64_andw (n : Int) : bits .and .i64 n 65535 = n % 65536 := by
  have hm : (BitVec.ofInt 64 65535).toNat = 2 ^ 16 - 1 := by decide
  have key : (BitVec.ofInt 64 n &&& BitVec.ofInt 64 65535).toNat = (n % ((2 ^ 64 : Nat) : Int)).toNat % 2 ^ 16 := by
    rw [BitVec.toNat_and, BitVec.toNat_ofInt, hm, Nat.and_two_pow_sub_one_eq_mod]
  show IntKind.i64.wrap ((BitVec.ofInt 64 n &&& BitVec.ofInt 64 65535).toNat : Nat) = n % 65536
  rw [key, IntKind.wrap_i64]
  omega
theorem node_str {s : ByteArray} (h : teI s = 0) : nodeB (leafT 4 0 s) = true := by
  unfold nodeB nodeC
  simp [leafT, VT.kd, VT.nm, VT.st, VT.ls, VT.vs, h]
theorem celB_str {s : ByteArray} (h : teI s = 0) : celB (leafT 4 0 s) = true := by
  unfold celB
  rw [good_all (by decide) (by simp [leafT, VT.ls, VT.vs, szL]) (node_str h) (fun i t ht => by simp [leafT, VT.ls] at ht) (fun i t ht => by simp [leafT, VT.vs] at ht)]
  rfl
theorem str_one (S : ByteArray) (w : World) (hg : GlobC5 w) (hz : S.size ≤ 4000) (hr : rvI S.data.toList < 0) : ∃ t : ByteArray, (t.toList.isEmpty = false) ∧ ((t.toList == S.toList) = true ∨ (t.toList == S.toList) = false ∧ (t.toList == ((⟨#[39]⟩ : ByteArray) ++ S).toList) = true) ∧
    (∀ X, Below w.heap.size w X → Calls Tryz.prog 8 #[.agg #[.int .i64 4, .int .i64 0, .string S, .slice none 0 0, .slice none 0 0]] X fun e w' => e = .returned (.tuple #[.string t, .bool true]) ∧ Below X.heap.size X w') ∧
    (∀ X, Below w.heap.size w X → Calls Tryz.prog 10 #[.string t] X fun e w' => ∃ x y, e = .returned (.tuple #[.agg #[.int .i64 4, .int .i64 0, .string S, x, y], .int .i64 0]) ∧ HV w' (leafT 4 0 S) x y ∧ Below X.heap.size X w') := by
  have ht : teI S = 0 := by rw [te_rv, if_pos hr, if_neg (by omega)]
  have hms : mkS S.data.toList = S := (mkS_of S _ rfl).symm
  have hcl : (cstL S.data.toList).length ≤ 4001 := by
    unfold cstL
    have := size_list S
    split
    · omega
    · rw [List.length_cons]; omega
  refine ⟨mkS (cstL S.data.toList), ?_, ?_, fun X hX => ?_, fun X hX => ?_⟩
  · rw [Lib.toList_data, mkS_list]
    cases hc : cplB S.data.toList with
    | true =>
      rw [cst_yes hc]
      have := (cpl_parts hc).1
      cases hS : S.data.toList with
      | nil => exact absurd hS this
      | cons a l => rfl
    | false => rw [cst_no hc]; rfl
  · cases hc : cplB S.data.toList with
    | true => left; rw [cst_yes hc, hms]; exact beq_self_eq_true _
    | false =>
      right
      rw [cst_no hc]
      constructor
      · rw [Lib.toList_data, mkS_list, Lib.toList_data, beq_eq_false_iff_ne]
        intro e
        have := congrArg List.length e
        simp at this
      · have e : (mkS (39 :: S.data.toList)) = (⟨#[39]⟩ : ByteArray) ++ S := by
          rw [show (39 : UInt8) :: S.data.toList = [39] ++ S.data.toList from rfl, ← ce_app, hms]; rfl
        rw [e]; exact beq_self_eq_true _
  · have := cetext_any (leafT 4 0 S) _ _ X (hg.on hX) (hv_leaf X 4 0 S (by decide) (by decide) (by unfold maxLen; omega))
    rw [celB_str ht, if_pos rfl] at this
    exact this
  · have := cevalue_any (mkS (cstL S.data.toList)) X (hg.1.on hX) (by rw [mkS_size]; omega)
    rw [mkS_list, cst_back (by rw [hms]; exact ht), hms] at this
    exact this

set_option maxRecDepth 100000 in
set_option maxHeartbeats 8000000 in
theorem cstr_none (S : ByteArray) (hs : S.size ≤ 140737488351232) (n how : Int) (c : Int) (hc : bits .and .i64 how 7 = c) (h1 : ¬ c = 1) (h2 : ¬ c = 2) (h3 : ¬ c = 3) (h4 : ¬ c = 4) (h5 : ¬ c = 5) (w : World) (hg : GlobC5 w) :
    Calls Tryz.prog 5 #[.string S, .int .i64 n, .int .i64 how] w fun e w' => e = .returned (.bool true) ∧ Below w.heap.size w w' := by
  have CA := hid (awake15 w hg)
  have CO0 := hid (fun (S : ByteArray) hz hr => str_one S w hg hz hr)
  have b1 : (c == 1) = false := by simpa using h1
  have b2 : (c == 2) = false := by simpa using h2
  have b3 : (c == 3) = false := by simpa using h3
  have b4 : (c == 4) = false := by simpa using h4
  have b5 : (c == 5) = false := by simpa using h5
  clear hg
  go_enter Tryz.func5, Tryz.ntmps5
  go_wp2_with fail
  go_at_call 6
  refine CA.out.mono ?_
  rintro e w0 ⟨rfl, hb0⟩
  have HB0 := hid hb0
  clear hb0 CA
  go_upto_region 14 with fail
  have CO := hid (CO0.out S)
  have HB := hid HB0.out
  clear CO0 HB0
  by_cases hz : 4000 < S.size
  · have f1 : (4000 : Int) < (S.size : Int) := by omega
    clear CO
    go_wp2_with fail
    go_ret
    exact ⟨rfl, HB.out⟩
  have f1 : ¬ (4000 : Int) < (S.size : Int) := by omega
  have CV := hid (fun X => rvalid_any S X (by unfold maxLen; omega))
  obtain ⟨rv, hrv⟩ : ∃ rv, rvI S.data.toList = rv := ⟨_, rfl⟩
  rw [hrv] at CV
  by_cases hr : rv < 0
  · have f2 : ¬ (0 : Int) ≤ rv := by omega
    obtain ⟨t, q1, q2, CT, CL⟩ := CO.out (by omega) (by rw [hrv]; exact hr)
    have HCT := hid CT
    have HCL := hid CL
    clear CT CL CO hrv
    go_wp2_with fail
    go_at_call 14
    refine (CV.out _).mono ?_
    rintro e w1 ⟨rfl, hb1⟩
    have HB1 := hid (vonto HB.out hb1)
    clear hb1 CV
    go_wp2_with fail
    go_at_call 8
    refine (HCT.out _ HB1.out).mono ?_
    rintro e w2 ⟨rfl, hb2⟩
    have HB2 := hid (vonto HB1.out hb2)
    clear hb2 HCT
    go_wp2_with fail
    go_at_call 10
    refine (HCL.out _ HB2.out).mono ?_
    rintro e w3 ⟨X, Y, rfl, hx, hb3⟩
    obtain ⟨o1, n1, c1, o2, n2, c2, rfl, rfl⟩ := hv_slices hx
    have HB3 := hid (vonto HB2.out hb3)
    clear hb3 hx HCL
    go_upto_region 18 with fail
    refine cewp_gen ?_
    intro W hW
    obtain ⟨g0, -, g2, -, -, hbW⟩ := cebox_of hW
    have HB4 := hid (vonto HB3.out hbW)
    clear hW hbW
    rcases q2 with q2 | ⟨q2, q3⟩
    · go_wp2_with fail
      go_ret
      exact ⟨rfl, HB4.out⟩
    · go_wp2_with fail
      go_ret
      exact ⟨rfl, HB4.out⟩
  · have f2 : (0 : Int) ≤ rv := by omega
    clear CO hrv
    go_wp2_with fail
    go_at_call 14
    refine (CV.out _).mono ?_
    rintro e w1 ⟨rfl, hb1⟩
    have HB1 := hid (vonto HB.out hb1)
    clear hb1 CV
    go_wp2_with fail
    go_ret
    exact ⟨rfl, HB1.out⟩

set_option maxRecDepth 100000 in
set_option maxHeartbeats 8000000 in
theorem cstr_text (s : ByteArray) (n how : Int) (hn : -9223372036854775808 ≤ n ∧ n < 9223372036854775808) (hc : bits .and .i64 how 7 = 1) (w : World) (hg : GlobC5 w) :
    Calls Tryz.prog 5 #[.string s, .int .i64 n, .int .i64 how] w fun e w' => e = .returned (.bool true) ∧ Below w.heap.size w w' := by
  have CA := hid (awake15 w hg)
  have CO0 := hid (fun (S : ByteArray) hz hr => str_one S w hg hz hr)
  have CT := hid (fun X => text_any n X hn.1 hn.2)
  have hl := txt_len n hn.1 hn.2
  obtain ⟨S, hS⟩ : ∃ S, mkS (txt n) = S := ⟨_, rfl⟩
  have hSz : S.size ≤ 20 := by rw [← hS, mkS_size]; exact hl
  rw [hS] at CT
  clear hl hS
  clear hg
  go_enter Tryz.func5, Tryz.ntmps5
  go_wp2_with fail
  go_at_call 6
  refine CA.out.mono ?_
  rintro e w0 ⟨rfl, hb0⟩
  have HB0 := hid hb0
  clear hb0 CA
  go_wp2_with fail
  go_at_call 13
  refine (CT.out _).mono ?_
  rintro e wt ⟨rfl, hbt⟩
  have HB := hid (vonto HB0.out hbt)
  clear hbt CT HB0
  have CO := hid (CO0.out S)
  clear CO0
  go_upto_region 14 with fail
  by_cases hz : 4000 < S.size
  · have f1 : (4000 : Int) < (S.size : Int) := by omega
    clear CO
    go_wp2_with fail
    go_ret
    exact ⟨rfl, HB.out⟩
  have f1 : ¬ (4000 : Int) < (S.size : Int) := by omega
  have CV := hid (fun X => rvalid_any S X (by unfold maxLen; omega))
  obtain ⟨rv, hrv⟩ : ∃ rv, rvI S.data.toList = rv := ⟨_, rfl⟩
  rw [hrv] at CV
  by_cases hr : rv < 0
  · have f2 : ¬ (0 : Int) ≤ rv := by omega
    obtain ⟨t, q1, q2, CT, CL⟩ := CO.out (by omega) (by rw [hrv]; exact hr)
    have HCT := hid CT
    have HCL := hid CL
    clear CT CL CO hrv
    go_wp2_with fail
    go_at_call 14
    refine (CV.out _).mono ?_
    rintro e w1 ⟨rfl, hb1⟩
    have HB1 := hid (vonto HB.out hb1)
    clear hb1 CV
    go_wp2_with fail
    go_at_call 8
    refine (HCT.out _ HB1.out).mono ?_
    rintro e w2 ⟨rfl, hb2⟩
    have HB2 := hid (vonto HB1.out hb2)
    clear hb2 HCT
    go_wp2_with fail
    go_at_call 10
    refine (HCL.out _ HB2.out).mono ?_
    rintro e w3 ⟨X, Y, rfl, hx, hb3⟩
    obtain ⟨o1, n1, c1, o2, n2, c2, rfl, rfl⟩ := hv_slices hx
    have HB3 := hid (vonto HB2.out hb3)
    clear hb3 hx HCL
    go_upto_region 18 with fail
    refine cewp_gen ?_
    intro W hW
    obtain ⟨g0, -, g2, -, -, hbW⟩ := cebox_of hW
    have HB4 := hid (vonto HB3.out hbW)
    clear hW hbW
    rcases q2 with q2 | ⟨q2, q3⟩
    · go_wp2_with fail
      go_ret
      exact ⟨rfl, HB4.out⟩
    · go_wp2_with fail
      go_ret
      exact ⟨rfl, HB4.out⟩
  · have f2 : (0 : Int) ≤ rv := by omega
    clear CO hrv
    go_wp2_with fail
    go_at_call 14
    refine (CV.out _).mono ?_
    rintro e w1 ⟨rfl, hb1⟩
    have HB1 := hid (vonto HB.out hb1)
    clear hb1 CV
    go_wp2_with fail
    go_ret
    exact ⟨rfl, HB1.out⟩

set_option maxRecDepth 100000 in
set_option maxHeartbeats 8000000 in
theorem cstr_quote (s : ByteArray) (hs : s.size ≤ 140737488351232) (n how : Int) (hc : bits .and .i64 how 7 = 2) (w : World) (hg : GlobC5 w) :
    Calls Tryz.prog 5 #[.string s, .int .i64 n, .int .i64 how] w fun e w' => e = .returned (.bool true) ∧ Below w.heap.size w w' := by
  have CA := hid (awake15 w hg)
  have CO0 := hid (fun (S : ByteArray) hz hr => str_one S w hg hz hr)

  clear hg
  go_enter Tryz.func5, Tryz.ntmps5
  go_wp2_with fail
  go_at_call 6
  refine CA.out.mono ?_
  rintro e w0 ⟨rfl, hb0⟩
  have HB0 := hid hb0
  clear hb0 CA
  go_upto_region 14 with fail
  generalize hS : (⟨#[39]⟩ : ByteArray) ++ s = S
  have hSz : S.size ≤ 140737488351300 := by rw [← hS, ByteArray.size_append]; show 1 + s.size ≤ _; omega
  clear hS
  have CO := hid (CO0.out S)
  have HB := hid HB0.out
  clear CO0 HB0
  by_cases hz : 4000 < S.size
  · have f1 : (4000 : Int) < (S.size : Int) := by omega
    clear CO
    go_wp2_with fail
    go_ret
    exact ⟨rfl, HB.out⟩
  have f1 : ¬ (4000 : Int) < (S.size : Int) := by omega
  have CV := hid (fun X => rvalid_any S X (by unfold maxLen; omega))
  obtain ⟨rv, hrv⟩ : ∃ rv, rvI S.data.toList = rv := ⟨_, rfl⟩
  rw [hrv] at CV
  by_cases hr : rv < 0
  · have f2 : ¬ (0 : Int) ≤ rv := by omega
    obtain ⟨t, q1, q2, CT, CL⟩ := CO.out (by omega) (by rw [hrv]; exact hr)
    have HCT := hid CT
    have HCL := hid CL
    clear CT CL CO hrv
    go_wp2_with fail
    go_at_call 14
    refine (CV.out _).mono ?_
    rintro e w1 ⟨rfl, hb1⟩
    have HB1 := hid (vonto HB.out hb1)
    clear hb1 CV
    go_wp2_with fail
    go_at_call 8
    refine (HCT.out _ HB1.out).mono ?_
    rintro e w2 ⟨rfl, hb2⟩
    have HB2 := hid (vonto HB1.out hb2)
    clear hb2 HCT
    go_wp2_with fail
    go_at_call 10
    refine (HCL.out _ HB2.out).mono ?_
    rintro e w3 ⟨X, Y, rfl, hx, hb3⟩
    obtain ⟨o1, n1, c1, o2, n2, c2, rfl, rfl⟩ := hv_slices hx
    have HB3 := hid (vonto HB2.out hb3)
    clear hb3 hx HCL
    go_upto_region 18 with fail
    refine cewp_gen ?_
    intro W hW
    obtain ⟨g0, -, g2, -, -, hbW⟩ := cebox_of hW
    have HB4 := hid (vonto HB3.out hbW)
    clear hW hbW
    rcases q2 with q2 | ⟨q2, q3⟩
    · go_wp2_with fail
      go_ret
      exact ⟨rfl, HB4.out⟩
    · go_wp2_with fail
      go_ret
      exact ⟨rfl, HB4.out⟩
  · have f2 : (0 : Int) ≤ rv := by omega
    clear CO hrv
    go_wp2_with fail
    go_at_call 14
    refine (CV.out _).mono ?_
    rintro e w1 ⟨rfl, hb1⟩
    have HB1 := hid (vonto HB.out hb1)
    clear hb1 CV
    go_wp2_with fail
    go_ret
    exact ⟨rfl, HB1.out⟩

set_option maxRecDepth 100000 in
set_option maxHeartbeats 8000000 in
theorem cstr_mark (s : ByteArray) (hs : s.size ≤ 140737488351232) (n how : Int) (hc : bits .and .i64 how 7 = 3) (w : World) (hg : GlobC5 w) :
    Calls Tryz.prog 5 #[.string s, .int .i64 n, .int .i64 how] w fun e w' => e = .returned (.bool true) ∧ Below w.heap.size w w' := by
  have CA := hid (awake15 w hg)
  have CO0 := hid (fun (S : ByteArray) hz hr => str_one S w hg hz hr)

  clear hg
  go_enter Tryz.func5, Tryz.ntmps5
  go_wp2_with fail
  go_at_call 6
  refine CA.out.mono ?_
  rintro e w0 ⟨rfl, hb0⟩
  have HB0 := hid hb0
  clear hb0 CA
  go_upto_region 14 with fail
  generalize hS : (⟨#[64]⟩ : ByteArray) ++ s = S
  have hSz : S.size ≤ 140737488351300 := by rw [← hS, ByteArray.size_append]; show 1 + s.size ≤ _; omega
  clear hS
  have CO := hid (CO0.out S)
  have HB := hid HB0.out
  clear CO0 HB0
  by_cases hz : 4000 < S.size
  · have f1 : (4000 : Int) < (S.size : Int) := by omega
    clear CO
    go_wp2_with fail
    go_ret
    exact ⟨rfl, HB.out⟩
  have f1 : ¬ (4000 : Int) < (S.size : Int) := by omega
  have CV := hid (fun X => rvalid_any S X (by unfold maxLen; omega))
  obtain ⟨rv, hrv⟩ : ∃ rv, rvI S.data.toList = rv := ⟨_, rfl⟩
  rw [hrv] at CV
  by_cases hr : rv < 0
  · have f2 : ¬ (0 : Int) ≤ rv := by omega
    obtain ⟨t, q1, q2, CT, CL⟩ := CO.out (by omega) (by rw [hrv]; exact hr)
    have HCT := hid CT
    have HCL := hid CL
    clear CT CL CO hrv
    go_wp2_with fail
    go_at_call 14
    refine (CV.out _).mono ?_
    rintro e w1 ⟨rfl, hb1⟩
    have HB1 := hid (vonto HB.out hb1)
    clear hb1 CV
    go_wp2_with fail
    go_at_call 8
    refine (HCT.out _ HB1.out).mono ?_
    rintro e w2 ⟨rfl, hb2⟩
    have HB2 := hid (vonto HB1.out hb2)
    clear hb2 HCT
    go_wp2_with fail
    go_at_call 10
    refine (HCL.out _ HB2.out).mono ?_
    rintro e w3 ⟨X, Y, rfl, hx, hb3⟩
    obtain ⟨o1, n1, c1, o2, n2, c2, rfl, rfl⟩ := hv_slices hx
    have HB3 := hid (vonto HB2.out hb3)
    clear hb3 hx HCL
    go_upto_region 18 with fail
    refine cewp_gen ?_
    intro W hW
    obtain ⟨g0, -, g2, -, -, hbW⟩ := cebox_of hW
    have HB4 := hid (vonto HB3.out hbW)
    clear hW hbW
    rcases q2 with q2 | ⟨q2, q3⟩
    · go_wp2_with fail
      go_ret
      exact ⟨rfl, HB4.out⟩
    · go_wp2_with fail
      go_ret
      exact ⟨rfl, HB4.out⟩
  · have f2 : (0 : Int) ≤ rv := by omega
    clear CO hrv
    go_wp2_with fail
    go_at_call 14
    refine (CV.out _).mono ?_
    rintro e w1 ⟨rfl, hb1⟩
    have HB1 := hid (vonto HB.out hb1)
    clear hb1 CV
    go_wp2_with fail
    go_ret
    exact ⟨rfl, HB1.out⟩

set_option maxRecDepth 100000 in
set_option maxHeartbeats 8000000 in
theorem cstr_power (s : ByteArray) (n how : Int) (hn : -9223372036854775808 ≤ n ∧ n < 9223372036854775808) (hc : bits .and .i64 how 7 = 4) (w : World) (hg : GlobC5 w) :
    Calls Tryz.prog 5 #[.string s, .int .i64 n, .int .i64 how] w fun e w' => e = .returned (.bool true) ∧ Below w.heap.size w w' := by
  have CA := hid (awake15 w hg)
  have CO0 := hid (fun (S : ByteArray) hz hr => str_one S w hg hz hr)
  have CT := hid (fun X => text_any n X hn.1 hn.2)
  have hl := txt_len n hn.1 hn.2
  obtain ⟨A, hA⟩ : ∃ S, mkS (txt n) = S := ⟨_, rfl⟩
  have hAz : A.size ≤ 20 := by rw [← hA, mkS_size]; exact hl
  rw [hA] at CT
  clear hl hA
  clear hg
  go_enter Tryz.func5, Tryz.ntmps5
  go_wp2_with fail
  go_at_call 6
  refine CA.out.mono ?_
  rintro e w0 ⟨rfl, hb0⟩
  have HB0 := hid hb0
  clear hb0 CA
  go_wp2_with fail
  go_at_call 13
  refine (CT.out _).mono ?_
  rintro e wt ⟨rfl, hbt⟩
  have HB := hid (vonto HB0.out hbt)
  clear hbt CT HB0
  go_upto_region 14 with fail
  generalize hS : A ++ (⟨#[46, 53, 101, 51]⟩ : ByteArray) = S
  have hSz : S.size ≤ 140737488351300 := by rw [← hS, ByteArray.size_append]; show A.size + 4 ≤ _; omega
  clear hS
  have CO := hid (CO0.out S)
  clear CO0
  by_cases hz : 4000 < S.size
  · have f1 : (4000 : Int) < (S.size : Int) := by omega
    clear CO
    go_wp2_with fail
    go_ret
    exact ⟨rfl, HB.out⟩
  have f1 : ¬ (4000 : Int) < (S.size : Int) := by omega
  have CV := hid (fun X => rvalid_any S X (by unfold maxLen; omega))
  obtain ⟨rv, hrv⟩ : ∃ rv, rvI S.data.toList = rv := ⟨_, rfl⟩
  rw [hrv] at CV
  by_cases hr : rv < 0
  · have f2 : ¬ (0 : Int) ≤ rv := by omega
    obtain ⟨t, q1, q2, CT, CL⟩ := CO.out (by omega) (by rw [hrv]; exact hr)
    have HCT := hid CT
    have HCL := hid CL
    clear CT CL CO hrv
    go_wp2_with fail
    go_at_call 14
    refine (CV.out _).mono ?_
    rintro e w1 ⟨rfl, hb1⟩
    have HB1 := hid (vonto HB.out hb1)
    clear hb1 CV
    go_wp2_with fail
    go_at_call 8
    refine (HCT.out _ HB1.out).mono ?_
    rintro e w2 ⟨rfl, hb2⟩
    have HB2 := hid (vonto HB1.out hb2)
    clear hb2 HCT
    go_wp2_with fail
    go_at_call 10
    refine (HCL.out _ HB2.out).mono ?_
    rintro e w3 ⟨X, Y, rfl, hx, hb3⟩
    obtain ⟨o1, n1, c1, o2, n2, c2, rfl, rfl⟩ := hv_slices hx
    have HB3 := hid (vonto HB2.out hb3)
    clear hb3 hx HCL
    go_upto_region 18 with fail
    refine cewp_gen ?_
    intro W hW
    obtain ⟨g0, -, g2, -, -, hbW⟩ := cebox_of hW
    have HB4 := hid (vonto HB3.out hbW)
    clear hW hbW
    rcases q2 with q2 | ⟨q2, q3⟩
    · go_wp2_with fail
      go_ret
      exact ⟨rfl, HB4.out⟩
    · go_wp2_with fail
      go_ret
      exact ⟨rfl, HB4.out⟩
  · have f2 : (0 : Int) ≤ rv := by omega
    clear CO hrv
    go_wp2_with fail
    go_at_call 14
    refine (CV.out _).mono ?_
    rintro e w1 ⟨rfl, hb1⟩
    have HB1 := hid (vonto HB.out hb1)
    clear hb1 CV
    go_wp2_with fail
    go_ret
    exact ⟨rfl, HB1.out⟩

set_option maxRecDepth 100000 in
set_option maxHeartbeats 8000000 in
theorem cstr_word (s : ByteArray) (n how : Int) (hc : bits .and .i64 how 7 = 5) (w : World) (hg : GlobC5 w) :
    Calls Tryz.prog 5 #[.string s, .int .i64 n, .int .i64 how] w fun e w' => e = .returned (.bool true) ∧ Below w.heap.size w w' := by
  have CA := hid (awake15 w hg)
  have CO0 := hid (fun (S : ByteArray) hz hr => str_one S w hg hz hr)
  obtain ⟨j, hj, hj6⟩ : ∃ j : Nat, (n % 65536).tmod 6 = (j : Int) ∧ j < 6 := ⟨((n % 65536) % 6).toNat, by rw [Int.tmod_eq_emod_of_nonneg (by omega)]; omega, by omega⟩
  have ha : bits .and .i64 n 65535 = n % 65536 := i64_andw n
  clear hg
  go_enter Tryz.func5, Tryz.ntmps5
  go_wp2_with fail
  go_at_call 6
  refine CA.out.mono ?_
  rintro e w0 ⟨rfl, hb0⟩
  have HB0 := hid hb0
  clear hb0 CA
  obtain ⟨S, hS, hSz⟩ : ∃ S : ByteArray, ([.string ⟨#[110, 117, 108, 108]⟩, .string ⟨#[116, 114, 117, 101]⟩, .string ⟨#[102, 97, 108, 115, 101]⟩, .string ⟨#[91, 93]⟩, .string ⟨#[123, 125]⟩, .string ⟨#[]⟩] : List Value)[j]? = some (.string S) ∧ S.size ≤ 5 := by
    match j, hj6 with
    | 0, _ => exact ⟨_, rfl, by decide⟩
    | 1, _ => exact ⟨_, rfl, by decide⟩
    | 2, _ => exact ⟨_, rfl, by decide⟩
    | 3, _ => exact ⟨_, rfl, by decide⟩
    | 4, _ => exact ⟨_, rfl, by decide⟩
    | 5, _ => exact ⟨_, rfl, by decide⟩
  have gc := new_cells w0 [.string ⟨#[110, 117, 108, 108]⟩, .string ⟨#[116, 114, 117, 101]⟩, .string ⟨#[102, 97, 108, 115, 101]⟩, .string ⟨#[91, 93]⟩, .string ⟨#[123, 125]⟩, .string ⟨#[]⟩] 9 j (.string S) hS
  rw [add_at] at gc
  have hjz : (j : Int) < 6 := by omega
  have CO := hid (CO0.out S)
  clear CO0 hS
  go_upto_region 14 with fail
  have HB := hid (valloc_bel HB0.out (.cells ([.string ⟨#[110, 117, 108, 108]⟩, .string ⟨#[116, 114, 117, 101]⟩, .string ⟨#[102, 97, 108, 115, 101]⟩, .string ⟨#[91, 93]⟩, .string ⟨#[123, 125]⟩, .string ⟨#[]⟩] : List Value).toArray 9))
  clear HB0
  by_cases hz : 4000 < S.size
  · have f1 : (4000 : Int) < (S.size : Int) := by omega
    clear CO
    go_wp2_with fail
    go_ret
    exact ⟨rfl, HB.out⟩
  have f1 : ¬ (4000 : Int) < (S.size : Int) := by omega
  have CV := hid (fun X => rvalid_any S X (by unfold maxLen; omega))
  obtain ⟨rv, hrv⟩ : ∃ rv, rvI S.data.toList = rv := ⟨_, rfl⟩
  rw [hrv] at CV
  by_cases hr : rv < 0
  · have f2 : ¬ (0 : Int) ≤ rv := by omega
    obtain ⟨t, q1, q2, CT, CL⟩ := CO.out (by omega) (by rw [hrv]; exact hr)
    have HCT := hid CT
    have HCL := hid CL
    clear CT CL CO hrv
    go_wp2_with fail
    go_at_call 14
    refine (CV.out _).mono ?_
    rintro e w1 ⟨rfl, hb1⟩
    have HB1 := hid (vonto HB.out hb1)
    clear hb1 CV
    go_wp2_with fail
    go_at_call 8
    refine (HCT.out _ HB1.out).mono ?_
    rintro e w2 ⟨rfl, hb2⟩
    have HB2 := hid (vonto HB1.out hb2)
    clear hb2 HCT
    go_wp2_with fail
    go_at_call 10
    refine (HCL.out _ HB2.out).mono ?_
    rintro e w3 ⟨X, Y, rfl, hx, hb3⟩
    obtain ⟨o1, n1, c1, o2, n2, c2, rfl, rfl⟩ := hv_slices hx
    have HB3 := hid (vonto HB2.out hb3)
    clear hb3 hx HCL
    go_upto_region 18 with fail
    refine cewp_gen ?_
    intro W hW
    obtain ⟨g0, -, g2, -, -, hbW⟩ := cebox_of hW
    have HB4 := hid (vonto HB3.out hbW)
    clear hW hbW
    rcases q2 with q2 | ⟨q2, q3⟩
    · go_wp2_with fail
      go_ret
      exact ⟨rfl, HB4.out⟩
    · go_wp2_with fail
      go_ret
      exact ⟨rfl, HB4.out⟩
  · have f2 : (0 : Int) ≤ rv := by omega
    clear CO hrv
    go_wp2_with fail
    go_at_call 14
    refine (CV.out _).mono ?_
    rintro e w1 ⟨rfl, hb1⟩
    have HB1 := hid (vonto HB.out hb1)
    clear hb1 CV
    go_wp2_with fail
    go_ret
    exact ⟨rfl, HB1.out⟩

theorem Tryz.cellStrings_walk (s : ByteArray) (hs : s.size ≤ 140737488351232) (n : Int) (wn : (Lit.int .i64 n).wf = true) (how : Int) (_ : (Lit.int .i64 how).wf = true) (w : World) (hg : GlobC5 w) :
    Calls Tryz.prog 5 #[.string s, .int .i64 n, .int .i64 how] w fun e w' => e = .returned (.bool true) ∧ Below w.heap.size w w' := by
  have hn : -9223372036854775808 ≤ n ∧ n < 9223372036854775808 := by
    simp [Lit.wf, IntKind.min, IntKind.max, IntKind.signed, IntKind.bits] at wn
    omega
  obtain ⟨c, hc⟩ : ∃ c, bits .and .i64 how 7 = c := ⟨_, rfl⟩
  by_cases h1 : c = 1
  · exact cstr_text s n how hn (hc.trans h1) w hg
  by_cases h2 : c = 2
  · exact cstr_quote s hs n how (hc.trans h2) w hg
  by_cases h3 : c = 3
  · exact cstr_mark s hs n how (hc.trans h3) w hg
  by_cases h4 : c = 4
  · exact cstr_power s n how hn (hc.trans h4) w hg
  by_cases h5 : c = 5
  · exact cstr_word s n how (hc.trans h5) w hg
  exact cstr_none s hs n how c hc h1 h2 h3 h4 h5 w hg
end Go.Proofs.YtmncibjkgbmfjaaGreatDoor
