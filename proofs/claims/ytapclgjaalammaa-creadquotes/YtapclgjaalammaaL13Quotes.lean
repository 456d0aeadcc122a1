import Derived.Test.YtapclgjaalammaaL13B
import Derived.Test.YtapclgjaalammaaL13R
import Derived.Test.YtapclgjaalammaaMathCq
/- The statement CreadQuotes: walked. -/
namespace Go.Proofs.Ytapclgjaalammaa
open Go.RowKit

theorem cletters_any (s : ByteArray) (w : World) (hs : s.size ≤ 1000000) :
    Calls Try.prog 14 #[.string s] w fun e w' => e = .returned (.bool (decide (VL s.data.toList))) ∧ Below w.heap.size w w' := by
  have C := hid (rvalid_any s w (by unfold maxLen; omega))
  by_cases h : VL s.data.toList
  · rw [rv_yes _ h] at C
    rw [decide_eq_true h]
    clear h
    go_enter Try.func14, Try.ntmps14
    go_wp2_with (go_at_call 17; go_must (refine C.out.mono ?_; rintro e w1 ⟨rfl, hb⟩))
    go_ret
    exact ⟨rfl, hb⟩
  · rw [rv_no _ h] at C
    rw [decide_eq_false h]
    generalize pos s.data.toList (vlk s.data.toList) = pp at C
    have hp : ¬ (pp : Int) < 0 := by omega
    clear h
    go_enter Try.func14, Try.ntmps14
    go_wp2_with (go_at_call 17; go_must (refine C.out.mono ?_; rintro e w1 ⟨rfl, hb⟩))
    go_ret
    exact ⟨rfl, hb⟩
theorem dq_snoc (l : List UInt8) (c : UInt8) : dq (l ++ [c]) = dq l ++ (if c = 34 then [34, 34] else [c]) := by
  induction l with
  | nil => by_cases h : c = 34 <;> simp [dq, h]
  | cons a l ih =>
    by_cases h : a = 34
    · simp [dq, h, ih]
    · simp [dq, h, ih]
theorem mkS_app (a b : List UInt8) : mkS a ++ mkS b = mkS (a ++ b) := mkS_of _ _ (by rw [ByteArray.data_append, Array.toList_append, mkS_list, mkS_list])
set_option maxRecDepth 100000 in
set_option maxHeartbeats 1000000 in
theorem cquotes_out0 (s : ByteArray) (b d : Int) (w : World)  (h0 : (300 : Int) < (s.size : Int)) :
    Calls Try.prog 7 #[.string s, .int .i64 b, .int .i64 d] w fun e w' => e = .returned (.bool true) ∧ Below w.heap.size w w' := by
  have CA := hid (awake13 w)
  go_enter Try.func7, Try.ntmps7
  go_wp2_with (go_at_call 8; go_must (refine CA.out.mono ?_; rintro e w0 ⟨rfl, hb0⟩))
  go_ret
  exact ⟨rfl, hb0⟩
set_option maxRecDepth 100000 in
set_option maxHeartbeats 1000000 in
theorem cquotes_out1 (s : ByteArray) (b d : Int) (w : World) (h0 : (s.size : Int) ≤ 300) (h1 : b < 0) :
    Calls Try.prog 7 #[.string s, .int .i64 b, .int .i64 d] w fun e w' => e = .returned (.bool true) ∧ Below w.heap.size w w' := by
  have CA := hid (awake13 w)
  go_enter Try.func7, Try.ntmps7
  go_wp2_with (go_at_call 8; go_must (refine CA.out.mono ?_; rintro e w0 ⟨rfl, hb0⟩))
  go_ret
  exact ⟨rfl, hb0⟩
set_option maxRecDepth 100000 in
set_option maxHeartbeats 1000000 in
theorem cquotes_out2 (s : ByteArray) (b d : Int) (w : World) (h0 : (s.size : Int) ≤ 300) (h1 : 0 ≤ b) (h2 : 5 < b) :
    Calls Try.prog 7 #[.string s, .int .i64 b, .int .i64 d] w fun e w' => e = .returned (.bool true) ∧ Below w.heap.size w w' := by
  have CA := hid (awake13 w)
  go_enter Try.func7, Try.ntmps7
  go_wp2_with (go_at_call 8; go_must (refine CA.out.mono ?_; rintro e w0 ⟨rfl, hb0⟩))
  go_ret
  exact ⟨rfl, hb0⟩
set_option maxRecDepth 100000 in
set_option maxHeartbeats 1000000 in
theorem cquotes_out3 (s : ByteArray) (b d : Int) (w : World) (h0 : (s.size : Int) ≤ 300) (h1 : 0 ≤ b) (h2 : b ≤ 5) (h3 : d < 0) :
    Calls Try.prog 7 #[.string s, .int .i64 b, .int .i64 d] w fun e w' => e = .returned (.bool true) ∧ Below w.heap.size w w' := by
  have CA := hid (awake13 w)
  go_enter Try.func7, Try.ntmps7
  go_wp2_with (go_at_call 8; go_must (refine CA.out.mono ?_; rintro e w0 ⟨rfl, hb0⟩))
  go_ret
  exact ⟨rfl, hb0⟩
set_option maxRecDepth 100000 in
set_option maxHeartbeats 1000000 in
theorem cquotes_out4 (s : ByteArray) (b d : Int) (w : World) (h0 : (s.size : Int) ≤ 300) (h1 : 0 ≤ b) (h2 : b ≤ 5) (h3 : 0 ≤ d) (h4 : 5 < d) :
    Calls Try.prog 7 #[.string s, .int .i64 b, .int .i64 d] w fun e w' => e = .returned (.bool true) ∧ Below w.heap.size w w' := by
  have CA := hid (awake13 w)
  go_enter Try.func7, Try.ntmps7
  go_wp2_with (go_at_call 8; go_must (refine CA.out.mono ?_; rintro e w0 ⟨rfl, hb0⟩))
  go_ret
  exact ⟨rfl, hb0⟩
set_option maxRecDepth 100000 in
set_option maxHeartbeats 8000000 in
theorem cquotes_in (s : ByteArray) (b d : Nat) (w : World) (hs : s.size ≤ 300) (hb : b ≤ 5) (hd : d ≤ 5) :
    Calls Try.prog 7 #[.string s, .int .i64 (b : Int), .int .i64 (d : Int)] w fun e w' => e = .returned (.bool true) ∧ Below w.heap.size w w' := by
  have CA := hid (awake13 w)
  obtain ⟨T, hT⟩ : ∃ T, s.data.toList = T := ⟨_, rfl⟩
  have HT := hid hT
  have hTl : T.length = s.size := by rw [← hT, size_list]
  have HQL := hid (fun k => dq_len (T.take k))
  have CR := hid (fun X => crows_any (mkS (cqT T b d)) X (by rw [mkS_size]; have := cq_len T b d (by omega) hb hd; omega))
  have CL := hid (fun X => cletters_any s X (by omega))
  rw [mkS_list] at CR
  rw [hT] at CL
  have g0 : ¬ (300 : Int) < (s.size : Int) := by omega
  have g1 : ¬ (b : Int) < 0 := by omega
  have g2 : ¬ (5 : Int) < (b : Int) := by omega
  have g3 : ¬ (d : Int) < 0 := by omega
  have g4 : ¬ (5 : Int) < (d : Int) := by omega
  clear hT
  go_enter Try.func7, Try.ntmps7
  go_wp2_with fail
  go_at_call 8
  refine CA.out.mono ?_
  rintro e w0 ⟨rfl, hb0⟩
  have HB0 := hid hb0
  clear hb0 CA
  go_wp2_with fail
  go_loop [7, 8] (fun q i => ∃ (k : Nat) (m : ByteArray), k ≤ s.size ∧ i = .int .i64 (k : Int) ∧ q = .string m ∧ m.size ≤ 2 * k ∧ Hid (m = mkS (dq (T.take k)))) (fun _ i => s.size - (intOf i).toNat)
  case atStart => exact ⟨0, ⟨#[]⟩, Nat.zero_le _, rfl, rfl, Nat.le_refl _, hid rfl⟩
  case round =>
    obtain ⟨k, m, hk, rfl, rfl, hms, HM⟩ := hrel
    by_cases hlt : k < s.size
    · have hltz : (k : Int) < (s.size : Int) := by omega
      have hsn : T.take (k + 1) = T.take k ++ [s[k]] := by
        have hl : k < s.data.toList.length := by rw [size_list]; exact hlt
        rw [← HT.out, List.take_succ_eq_append_getElem hl]; rfl
      have HSN := hid hsn
      have HX : Hid (s.extract k (k + 1) = mkS [s[k]]) := hid (mkS_of _ _ (by
        rw [part_list]
        have := drop_cons s k hlt
        rw [List.drop_take, this]; simp))
      have hxz : (s.extract k (k + 1)).size = 1 := by rw [HX.out, mkS_size]; rfl
      clear hsn
      by_cases hq : s[k].toNat = 34
      · have hqb : ((s[k].toNat : Int) == 34) = true := by rw [hq]; rfl
        have HQ := hid (show s[k] = 34 from UInt8.toNat_inj.1 hq)
        clear hq
        go_wp2_with fail
        go_round
        case rel => exact ⟨k + 1, m ++ s.extract k (k + 1) ++ ⟨#[34]⟩, hlt, by go_num, rfl, by rw [ByteArray.size_append, ByteArray.size_append, hxz]; show m.size + 1 + 1 ≤ _; omega, hid (by rw [HSN.out, dq_snoc, if_pos HQ.out, HM.out, HX.out, HQ.out, show (⟨#[34]⟩ : ByteArray) = mkS [34] from rfl, mkS_app, mkS_app, List.append_assoc]; rfl)⟩
        case measure => simp [intOf]; omega
      · have hqb : ((s[k].toNat : Int) == 34) = false := by rw [beq_eq_false_iff_ne]; omega
        have HQ := hid (show ¬ s[k] = 34 from fun e => hq (by rw [e]; rfl))
        clear hq
        go_wp2_with fail
        go_round
        case rel => exact ⟨k + 1, m ++ s.extract k (k + 1), hlt, by go_num, rfl, by rw [ByteArray.size_append, hxz]; omega, hid (by rw [HSN.out, dq_snoc, if_neg HQ.out, HM.out, HX.out, mkS_app])⟩
        case measure => simp [intOf]; omega
    · have hltz : ¬ (k : Int) < (s.size : Int) := by omega
      have HMM : Hid (⟨#[34]⟩ ++ m ++ ⟨#[34]⟩ = mkS (34 :: (dq T ++ [34]))) := hid (by
        rw [HM.out, List.take_of_length_le (by omega), show (⟨#[34]⟩ : ByteArray) = mkS [34] from rfl, mkS_app, mkS_app]; simp)
      have hmz : m.size ≤ 600 := by omega
      clear hlt HM hms
      go_upto_region 13 with fail
      obtain ⟨m1, hm1⟩ : ∃ m1, ⟨#[34]⟩ ++ m ++ ⟨#[34]⟩ = m1 := ⟨_, rfl⟩
      have hz1 : m1.size ≤ 602 := by rw [← hm1, ByteArray.size_append, ByteArray.size_append]; show 1 + m.size + 1 ≤ 602; omega
      rw [hm1] at HMM ⊢
      clear hm1
      go_wp2_with fail
      go_loop [9, 10] (fun q i => ∃ (j : Nat) (x : ByteArray), j ≤ b ∧ i = .int .i64 (j : Int) ∧ q = .string x ∧ x.size ≤ 602 + 2 * j ∧ Hid (x = mkS (repB [120, 44] j ++ (34 :: (dq T ++ [34]))))) (fun _ i => b - (intOf i).toNat)
      case atStart => exact ⟨0, m1, Nat.zero_le _, rfl, rfl, hz1, hid (by rw [HMM.out]; rfl)⟩
      case round =>
        obtain ⟨j, x, hj, rfl, rfl, hxs, HXX⟩ := hrel
        by_cases hjl : j < b
        · have hjz : (j : Int) < (b : Int) := by omega
          go_wp2_with fail
          go_round
          case rel => exact ⟨j + 1, ⟨#[120, 44]⟩ ++ x, hjl, by go_num, rfl, by rw [ByteArray.size_append]; show 2 + x.size ≤ _; omega, hid (by rw [HXX.out, show (⟨#[120, 44]⟩ : ByteArray) = mkS [120, 44] from rfl, mkS_app]; rfl)⟩
          case measure => simp [intOf]; omega
        · have hjz : ¬ (j : Int) < (b : Int) := by omega
          obtain rfl : j = b := by omega
          have hxs2 : x.size ≤ 612 := by omega
          clear hjl hxs
          go_wp2_with fail
          go_loop [9, 11] (fun q i => ∃ (n : Nat) (y : ByteArray), n ≤ d ∧ i = .int .i64 (n : Int) ∧ q = .string y ∧ y.size ≤ 612 + 2 * n ∧ Hid (y = mkS (repB [120, 44] j ++ (34 :: (dq T ++ [34])) ++ repB [44, 121] n))) (fun _ i => d - (intOf i).toNat)
          case atStart => exact ⟨0, x, Nat.zero_le _, rfl, rfl, hxs2, hid (by rw [HXX.out]; simp [repB])⟩
          case round =>
            obtain ⟨n, y, hn, rfl, rfl, hys, HY⟩ := hrel
            by_cases hnl : n < d
            · have hnz : (n : Int) < (d : Int) := by omega
              go_wp2_with fail
              go_round
              case rel => exact ⟨n + 1, y ++ ⟨#[44, 121]⟩, hnl, by go_num, rfl, by rw [ByteArray.size_append]; show y.size + 2 ≤ _; omega, hid (by rw [HY.out, repB_snoc, show (⟨#[44, 121]⟩ : ByteArray) = mkS [44, 121] from rfl, mkS_app]; simp)⟩
              case measure => simp [intOf]; omega
            · have hnz : ¬ (n : Int) < (d : Int) := by omega
              obtain rfl : n = d := by omega
              have HYT : Hid (mkS (cqT T j n) = y) := hid (by rw [HY.out]; unfold cqT; simp)
              rw [HYT.out] at CR
              clear hnl HY HXX HMM
              by_cases hv : VL T
              · rw [cq_ok T j n (by omega) hb hd hv] at CR
                rw [decide_eq_true hv] at CL
                obtain ⟨FS, hFS⟩ : ∃ FS, List.replicate j [120] ++ ([T] ++ List.replicate n [121]) = FS := ⟨_, rfl⟩
                have hFl : FS.length = j + n + 1 := by rw [← hFS]; simp; omega
                have hFj : FS[j]? = some T := by rw [← hFS, List.getElem?_append_right (by simp)]; simp
                rw [hFS] at CR
                have HSM := hid (show mkS T = s from (mkS_of s T HT.out).symm)
                clear hFS hv
                go_wp2_with fail
                go_at_call 9
                refine (CR.out _).mono ?_
                rintro e w1 ⟨o, n1, c, E, rfl, hE, hR, hb1⟩
                obtain ⟨g, o2, c2, rfl, rfl, hc1, k1, hc2, hk⟩ := one_row hR hE
                obtain ⟨g2, rfl, k2⟩ := hk j T hFj
                rw [HSM.out] at k2
                have HB1 := hid (vonto HB0.out hb1)
                clear hE hR hk CR hb1 HSM
                go_upto_region 22 with fail
                refine cwp_gen ?_
                intro W hW
                have b4 := box4 w1 (.int .i64 0) (.int .i64 0) (.int .i64 0) (.int .i64 0)
                have hbW : Below w1.heap.size w1 W := by rw [hW]; exact valloc_bel (Below.refl _ _) _
                rw [← hW] at b4
                obtain ⟨f0, -, -, -⟩ := b4
                replace k1 := keepCell hbW k1
                replace k2 := keepCell hbW k2
                have HBW := hid (vonto HB1.out hbW)
                clear hW hbW HB1
                go_wp2_with fail
                go_at_call 14
                refine (CL.out _).mono ?_
                rintro e w2 ⟨rfl, hb2⟩
                replace k1 := keepCell hb2 k1
                replace k2 := keepCell hb2 k2
                replace f0 := keepCell hb2 f0
                have HB2 := hid (vonto HBW.out hb2)
                clear hb2 HBW CL hFj
                have hlq : ((FS.length : Int) == (j : Int) + (n : Int) + 1) = true := by rw [beq_iff_eq]; omega
                have hjc : (j : Int) < (FS.length : Int) := by omega
                have hjn : j < FS.length := by omega
                have hsq : (s.toList == s.toList) = true := by simp
                obtain ⟨fl, hfl⟩ : ∃ fl, FS.length = fl := ⟨_, rfl⟩
                rw [hfl] at k1 hlq hjc hjn hc2
                clear hFl hfl
                go_wp2_with fail
                go_ret
                exact ⟨rfl, HB2.out⟩
              · obtain ⟨r, hr⟩ := cq_bad T j n (by omega) hb hd hv
                rw [hr] at CR
                rw [decide_eq_false hv] at CL
                clear hv hr
                unfold Tq faultV at CR
                dsimp only at CR
                generalize ((clN y.size ((y.size - r.length : Nat) : Int) : Nat) : Int) = c1 at CR
                generalize ((ofL y ((y.size - r.length : Nat) : Int) : Nat) : Int) = c2 at CR
                generalize ((ofC y ((y.size - r.length : Nat) : Int) : Nat) : Int) = c3 at CR
                go_wp2_with fail
                go_at_call 9
                refine (CR.out _).mono ?_
                rintro e w1 ⟨rfl, hb1⟩
                have HB1 := hid (vonto HB0.out hb1)
                clear CR hb1
                go_upto_region 22 with fail
                refine cwp_gen ?_
                intro W hW
                have b4 := box4 w1 (.int .i64 ((3 : Nat) : Int)) (.int .i64 c1) (.int .i64 c2) (.int .i64 c3)
                have hbW : Below w1.heap.size w1 W := by rw [hW]; exact valloc_bel (Below.refl _ _) _
                rw [show w1.alloc (.cells #[.int .i64 ((3 : Nat) : Int), .int .i64 c1, .int .i64 c2, .int .i64 c3] 26) = W from hW.symm] at b4
                obtain ⟨f0, -, -, -⟩ := b4
                have HBW := hid (vonto HB1.out hbW)
                clear hW hbW HB1
                go_wp2_with fail
                go_at_call 14
                refine (CL.out _).mono ?_
                rintro e w2 ⟨rfl, hb2⟩
                replace f0 := keepCell hb2 f0
                have HB2 := hid (vonto HBW.out hb2)
                clear hb2 HBW CL
                go_wp2_with fail
                go_ret
                exact ⟨rfl, HB2.out⟩
theorem Try.creadQuotes_walk (s : ByteArray) (b d : Int) (_w0 : s.size ≤ maxLen) (_w1 : (Lit.int .i64 b).wf = true) (_w2 : (Lit.int .i64 d).wf = true) (w : World) :
    Calls Try.prog 7 #[.string s, .int .i64 b, .int .i64 d] w fun e w' => e = .returned (.bool true) ∧ Below w.heap.size w w' := by
  by_cases h0 : (300 : Int) < (s.size : Int)
  · exact cquotes_out0 s b d w h0
  by_cases h1 : b < 0
  · exact cquotes_out1 s b d w (by omega) h1
  by_cases h2 : 5 < b
  · exact cquotes_out2 s b d w (by omega) (by omega) h2
  by_cases h3 : d < 0
  · exact cquotes_out3 s b d w (by omega) (by omega) (by omega) h3
  by_cases h4 : 5 < d
  · exact cquotes_out4 s b d w (by omega) (by omega) (by omega) (by omega) h4
  obtain ⟨B, rfl⟩ : ∃ Y : Nat, b = (Y : Int) := ⟨b.toNat, by omega⟩
  obtain ⟨D, rfl⟩ : ∃ Y : Nat, d = (Y : Int) := ⟨d.toNat, by omega⟩
  exact cquotes_in s B D w (by omega) (by omega) (by omega)
end Go.Proofs.Ytapclgjaalammaa
