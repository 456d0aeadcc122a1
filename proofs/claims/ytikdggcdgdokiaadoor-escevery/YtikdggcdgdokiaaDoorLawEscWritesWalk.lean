/- EscWrites, walked. -/
import Derived.Test.YtikdggcdgdokiaaDoorEscAwake
import Derived.Test.YtikdggcdgdokiaaDoorMathEscB
import Derived.OpenShut
namespace Go.Proofs.YtikdggcdgdokiaaDoor
open Go.RowKit

theorem qtA_len (toml : Bool) (s : List UInt8) : (qtA toml s).length ≤ 6 * s.length + 2 := by
  have h1 := qtK_len toml s (cnt s)
  have h2 := cnt_le s
  unfold qtA; rw [List.length_append]
  have : ([34] : List UInt8).length = 1 := rfl
  omega
theorem qtA_head (toml : Bool) (s M N : List UInt8) : bt (M ++ qtA toml s ++ N) M.length = 34 := by
  unfold qtA qtK bt
  simp
theorem unqJ_back (s M N : List UInt8) (hv : ∀ j < cnt s, tkN (s.drop (pos s j)) ≠ 0) : unqJ (M ++ qtA false s ++ N) (M.length : Int) = (s, M.length + (qtA false s).length, -1) := by
  unfold unqJ
  rw [Int.toNat_natCast, if_pos ⟨by omega, qtA_head false s M N⟩]
  exact rd_whole false s M N hv
theorem m3_back (s M N : List UInt8) (hv : ∀ j < cnt s, tkN (s.drop (pos s j)) ≠ 0) (h0 : s = [] → bt N 0 ≠ 34) : m3 34 ((M ++ qtA true s ++ N).drop M.length) = false := by
  have hd : (M ++ qtA true s ++ N).drop M.length = qtA true s ++ N := by rw [List.append_assoc, List.drop_left]
  rw [hd]
  by_cases hs : s = []
  · subst hs
    have e : qtA true [] ++ N = 34 :: 34 :: N := rfl
    unfold m3
    rw [e, show bt (34 :: 34 :: N) 2 = bt N 0 by rw [bt_succ, bt_succ], decide_eq_false (h0 rfl)]; simp
  · have hc : 0 < cnt s := by
      have := below_cnt s 0 (by simp only [pos]; exact List.length_pos_iff.2 hs)
      exact this
    have e : ∃ r, qtA true s = 34 :: (qst true (s.drop (pos s 0)) ++ r) := by
      obtain ⟨d, hd⟩ : ∃ d, cnt s = d + 1 := ⟨cnt s - 1, by omega⟩
      unfold qtA qtK
      rw [hd, List.range_succ_eq_map, List.flatMap_cons]
      exact ⟨_, by rw [List.cons_append, List.append_assoc]⟩
    obtain ⟨r, hr⟩ := e
    have hb := (back_step true (s.drop (pos s 0)) (r ++ N) (hv 0 hc)).2.1
    unfold m3
    rw [hr, List.cons_append, List.append_assoc, bt_succ, decide_eq_false hb]; simp
theorem unqT_back (s M N : List UInt8) (hv : ∀ j < cnt s, tkN (s.drop (pos s j)) ≠ 0) (h0 : s = [] → bt N 0 ≠ 34) : unqT (M ++ qtA true s ++ N) (M.length : Int) = (s, M.length + (qtA true s).length, -1) := by
  have hb := qtA_head true s M N
  rw [unqT_is _ _ 34 hb (Or.inl rfl), m3_back s M N hv h0, ee_one, pp_oe]
  exact rd_whole true s M N hv
theorem app3 (a b c : ByteArray) : (a ++ b ++ c).data.toList = a.data.toList ++ b.data.toList ++ c.data.toList := by
  rw [ByteArray.data_append, ByteArray.data_append, Array.toList_append, Array.toList_append]
theorem self_mkS (s : ByteArray) : mkS s.data.toList = s := (mkS_of s _ rfl).symm
theorem list_nil {s : ByteArray} : s.data.toList = [] ↔ s.size = 0 := by
  rw [← size_list]; exact List.length_eq_zero_iff.symm
set_option maxRecDepth 100000 in
set_option maxHeartbeats 4000000 in
theorem escWrites_walk (s m : ByteArray) (w0 : s.size ≤ maxLen) (w1 : m.size ≤ maxLen) (w : World) :
    Calls Tryd.prog 5 #[.string s, .string m] w fun e w' => e = .returned (.bool true) ∧ Below w.heap.size w w' := by
  have HW0 := hid w0
  unfold maxLen at w0 w1
  by_cases hbig : 400 < s.size ∨ 50 < m.size
  · have hbig' : decide (400 < (s.size : Int)) = true ∨ (decide (400 < (s.size : Int)) = false ∧ decide (50 < (m.size : Int)) = true) := by
      simp only [decide_eq_true_eq, decide_eq_false_iff_not]; omega
    clear hbig
    rcases hbig' with g | ⟨g, g2⟩
    all_goals
      go_enter Tryd.func5, Tryd.ntmps5
      go_wp2_with (go_at_call 8; go_must (refine (awake_any _).mono ?_; rintro e wa ⟨rfl, hba⟩))
      go_ret
      exact ⟨rfl, hba⟩
  · have hs4 : s.size ≤ 400 := by omega
    have hm5 : m.size ≤ 50 := by omega
    have gs : ¬ 400 < (s.size : Int) := by omega
    have gm : ¬ 50 < (m.size : Int) := by omega
    clear hbig
    obtain ⟨q, hq⟩ : ∃ q, mkS (qtA false s.data.toList) = q := ⟨_, rfl⟩
    obtain ⟨t, ht⟩ : ∃ t, mkS (qtA true s.data.toList) = t := ⟨_, rfl⟩
    have hqs : q.size ≤ 2402 := by rw [← hq, mkS_size]; have := qtA_len false s.data.toList; rw [size_list] at this; omega
    have hts : t.size ≤ 2402 := by rw [← ht, mkS_size]; have := qtA_len true s.data.toList; rw [size_list] at this; omega
    have CQ := hid (fun X => jquote_any s X (by omega))
    have CT := hid (fun X => tquote_any s X (by omega))
    have CRQ := hid (fun X => rquote_any false s X (by omega))
    have CRT := hid (fun X => rquote_any true s X (by omega))
    rw [hq] at CQ CRQ
    rw [ht] at CT CRT
    have CB := hid (fun X => bare_any s X HW0.out)
    have CRB := hid (fun X => rbare_any s X HW0.out)
    have CH := hid (fun X => hex_any s X HW0.out)
    have CRH := hid (fun X => rhex_any s X HW0.out)
    have CV := hid (fun X => rvalid_any s X HW0.out)
    generalize brB s.data.toList = bb at CB CRB
    generalize hexR s.data.toList = hr at CH CRH
    generalize hexB s.data.toList = hb at CH CRH
    by_cases hval : pos s.data.toList (vlk s.data.toList) = s.data.toList.length
    · have hv := vld_of s.data.toList hval
      rw [rv_yes _ hval] at CV
      have UJ := hid (unqJ_back s.data.toList m.data.toList m.data.toList hv)
      have UT := hid (fun h => unqT_back s.data.toList m.data.toList m.data.toList hv h)
      have hql : q.data.toList = qtA false s.data.toList := by rw [← hq, mkS_list]
      have htl : t.data.toList = qtA true s.data.toList := by rw [← ht, mkS_list]
      have CU : Hid (∀ X, Calls Tryd.prog 9 #[.string (m ++ q ++ m), .int .i64 (m.size : Int)] X fun e w' => e = .returned (.tuple #[.string s, .int .i64 ((m.size : Int) + (q.size : Int)), .int .i64 (-1)]) ∧ Below X.heap.size X w') := fun X => by
        have := unq_any (m ++ q ++ m) (m.size : Int) X (by rw [ByteArray.size_append, ByteArray.size_append]; omega)
        rw [app3, hql, show ((m.size : Nat) : Int) = ((m.data.toList.length : Nat) : Int) by rw [size_list], UJ.out, ← hql, size_list, size_list, self_mkS] at this
        exact this
      have CTU : Hid ((s.data.toList = [] → bt m.data.toList 0 ≠ 34) → ∀ X, Calls Tryd.prog 10 #[.string (m ++ t ++ m), .int .i64 (m.size : Int)] X fun e w' => e = .returned (.tuple #[.string s, .int .i64 ((m.size : Int) + (t.size : Int)), .int .i64 (-1)]) ∧ Below X.heap.size X w') := fun h0 X => by
        have := tunq_any (m ++ t ++ m) (m.size : Int) X (by rw [ByteArray.size_append, ByteArray.size_append]; omega)
        rw [app3, htl, show ((m.size : Nat) : Int) = ((m.data.toList.length : Nat) : Int) by rw [size_list], UT.out h0, ← htl, size_list, size_list, self_mkS] at this
        exact this
      have HLN := hid (@list_nil s)
      have HBM : Hid (∀ h : 0 < m.size, bt m.data.toList 0 = m[0].toNat) := fun h => bt_at m 0 h
      have HBN : Hid (m.size = 0 → bt m.data.toList 0 = 256) := fun h => bt_none (by rw [size_list]; omega)
      clear UJ UT hq ht hql htl hv hval
      by_cases hs0 : s.size = 0
      · obtain rfl := empty_of hs0
        by_cases hm0 : 0 < m.size
        · have gm0 : decide (0 < (m.size : Int)) = true := decide_eq_true (by omega)
          by_cases h34 : m[0].toNat = 34
          · have g34 : ((m[0].toNat : Int) == 34) = true := by rw [beq_iff_eq]; omega
            clear CTU h34 hs0
            cases hb
            all_goals
              go_enter Tryd.func5, Tryd.ntmps5
              go_wp2_with (first
                | (go_at_call 8; go_must (refine (awake_any _).mono ?_; rintro e wa ⟨rfl, hba⟩))
                | (go_at_call 14; go_must (refine (CQ.out _).mono ?_; rintro e wb ⟨rfl, hbb⟩))
                | (go_at_call 15; go_must (refine (CT.out _).mono ?_; rintro e wc ⟨rfl, hbc⟩))
                | (go_at_call 16; go_must (first | ((with_reducible refine (CRQ.out _).mono ?_); rintro e wd ⟨rfl, hbd⟩) | ((with_reducible refine (CRT.out _).mono ?_); rintro e we ⟨rfl, hbe⟩)))
                | (go_at_call 17; go_must (refine (CB.out _).mono ?_; rintro e wf ⟨rfl, hbf⟩))
                | (go_at_call 18; go_must (refine (CRB.out _).mono ?_; rintro e wg ⟨rfl, hwg⟩; obtain rfl := hwg.symm))
                | (go_at_call 11; go_must (refine (CH.out _).mono ?_; rintro e wh ⟨rfl, hbh⟩))
                | (go_at_call 19; go_must (refine (CRH.out _).mono ?_; rintro e wi ⟨rfl, hwi⟩; obtain rfl := hwi.symm))
                | (go_at_call 20; go_must (refine (CV.out _).mono ?_; rintro e wj ⟨rfl, hbj⟩))
                | (go_at_call 9; go_must (refine (CU.out _).mono ?_; rintro e wk ⟨rfl, hbk⟩)))
              go_ret
              exact ⟨rfl, eonto (eonto (eonto (eonto (eonto (eonto (eonto (eonto hba hbb) hbc) hbd) hbe) hbf) hbh) hbj) hbk⟩
          · have CX := hid (CTU.out (fun _ => by rw [HBM.out hm0]; exact h34))
            have g34 : ((m[0].toNat : Int) == 34) = false := by rw [beq_eq_false_iff_ne]; omega
            clear CTU h34 hs0
            cases hb
            all_goals
              go_enter Tryd.func5, Tryd.ntmps5
              go_wp2_with (first
                | (go_at_call 8; go_must (refine (awake_any _).mono ?_; rintro e wa ⟨rfl, hba⟩))
                | (go_at_call 14; go_must (refine (CQ.out _).mono ?_; rintro e wb ⟨rfl, hbb⟩))
                | (go_at_call 15; go_must (refine (CT.out _).mono ?_; rintro e wc ⟨rfl, hbc⟩))
                | (go_at_call 16; go_must (first | ((with_reducible refine (CRQ.out _).mono ?_); rintro e wd ⟨rfl, hbd⟩) | ((with_reducible refine (CRT.out _).mono ?_); rintro e we ⟨rfl, hbe⟩)))
                | (go_at_call 17; go_must (refine (CB.out _).mono ?_; rintro e wf ⟨rfl, hbf⟩))
                | (go_at_call 18; go_must (refine (CRB.out _).mono ?_; rintro e wg ⟨rfl, hwg⟩; obtain rfl := hwg.symm))
                | (go_at_call 11; go_must (refine (CH.out _).mono ?_; rintro e wh ⟨rfl, hbh⟩))
                | (go_at_call 19; go_must (refine (CRH.out _).mono ?_; rintro e wi ⟨rfl, hwi⟩; obtain rfl := hwi.symm))
                | (go_at_call 20; go_must (refine (CV.out _).mono ?_; rintro e wj ⟨rfl, hbj⟩))
                | (go_at_call 9; go_must (refine (CU.out _).mono ?_; rintro e wk ⟨rfl, hbk⟩))
                | (go_at_call 10; go_must (refine (CX.out _).mono ?_; rintro e wl ⟨rfl, hbl⟩)))
              go_ret
              exact ⟨rfl, eonto (eonto (eonto (eonto (eonto (eonto (eonto (eonto (eonto hba hbb) hbc) hbd) hbe) hbf) hbh) hbj) hbk) hbl⟩
        · have CX := hid (CTU.out (fun _ => by rw [HBN.out (by omega)]; omega))
          have gm0 : decide (0 < (m.size : Int)) = false := decide_eq_false (by omega)
          clear CTU hs0
          cases hb
          all_goals
            go_enter Tryd.func5, Tryd.ntmps5
            go_wp2_with (first
              | (go_at_call 8; go_must (refine (awake_any _).mono ?_; rintro e wa ⟨rfl, hba⟩))
              | (go_at_call 14; go_must (refine (CQ.out _).mono ?_; rintro e wb ⟨rfl, hbb⟩))
              | (go_at_call 15; go_must (refine (CT.out _).mono ?_; rintro e wc ⟨rfl, hbc⟩))
              | (go_at_call 16; go_must (first | ((with_reducible refine (CRQ.out _).mono ?_); rintro e wd ⟨rfl, hbd⟩) | ((with_reducible refine (CRT.out _).mono ?_); rintro e we ⟨rfl, hbe⟩)))
              | (go_at_call 17; go_must (refine (CB.out _).mono ?_; rintro e wf ⟨rfl, hbf⟩))
              | (go_at_call 18; go_must (refine (CRB.out _).mono ?_; rintro e wg ⟨rfl, hwg⟩; obtain rfl := hwg.symm))
              | (go_at_call 11; go_must (refine (CH.out _).mono ?_; rintro e wh ⟨rfl, hbh⟩))
              | (go_at_call 19; go_must (refine (CRH.out _).mono ?_; rintro e wi ⟨rfl, hwi⟩; obtain rfl := hwi.symm))
              | (go_at_call 20; go_must (refine (CV.out _).mono ?_; rintro e wj ⟨rfl, hbj⟩))
              | (go_at_call 9; go_must (refine (CU.out _).mono ?_; rintro e wk ⟨rfl, hbk⟩))
              | (go_at_call 10; go_must (refine (CX.out _).mono ?_; rintro e wl ⟨rfl, hbl⟩)))
            go_ret
            exact ⟨rfl, eonto (eonto (eonto (eonto (eonto (eonto (eonto (eonto (eonto hba hbb) hbc) hbd) hbe) hbf) hbh) hbj) hbk) hbl⟩
      · obtain ⟨e1, e2, e3⟩ := isE_no (s := s) (by omega)
        have CX := hid (CTU.out (fun h => absurd (HLN.out.1 h) hs0))
        clear CTU
        cases hb
        all_goals
          go_enter Tryd.func5, Tryd.ntmps5
          go_wp2_with (first
            | (go_at_call 8; go_must (refine (awake_any _).mono ?_; rintro e wa ⟨rfl, hba⟩))
            | (go_at_call 14; go_must (refine (CQ.out _).mono ?_; rintro e wb ⟨rfl, hbb⟩))
            | (go_at_call 15; go_must (refine (CT.out _).mono ?_; rintro e wc ⟨rfl, hbc⟩))
            | (go_at_call 16; go_must (first | ((with_reducible refine (CRQ.out _).mono ?_); rintro e wd ⟨rfl, hbd⟩) | ((with_reducible refine (CRT.out _).mono ?_); rintro e we ⟨rfl, hbe⟩)))
            | (go_at_call 17; go_must (refine (CB.out _).mono ?_; rintro e wf ⟨rfl, hbf⟩))
            | (go_at_call 18; go_must (refine (CRB.out _).mono ?_; rintro e wg ⟨rfl, hwg⟩; obtain rfl := hwg.symm))
            | (go_at_call 11; go_must (refine (CH.out _).mono ?_; rintro e wh ⟨rfl, hbh⟩))
            | (go_at_call 19; go_must (refine (CRH.out _).mono ?_; rintro e wi ⟨rfl, hwi⟩; obtain rfl := hwi.symm))
            | (go_at_call 20; go_must (refine (CV.out _).mono ?_; rintro e wj ⟨rfl, hbj⟩))
            | (go_at_call 9; go_must (refine (CU.out _).mono ?_; rintro e wk ⟨rfl, hbk⟩))
            | (go_at_call 10; go_must (refine (CX.out _).mono ?_; rintro e wl ⟨rfl, hbl⟩)))
          go_ret
          exact ⟨rfl, eonto (eonto (eonto (eonto (eonto (eonto (eonto (eonto (eonto hba hbb) hbc) hbd) hbe) hbf) hbh) hbj) hbk) hbl⟩
    · have hneg : ¬ rvI s.data.toList < 0 := by rw [rv_no _ hval]; omega
      generalize rvI s.data.toList = rv at *
      clear hq ht hval
      cases hb
      all_goals
        go_enter Tryd.func5, Tryd.ntmps5
        go_wp2_with (first
          | (go_at_call 8; go_must (refine (awake_any _).mono ?_; rintro e wa ⟨rfl, hba⟩))
          | (go_at_call 14; go_must (refine (CQ.out _).mono ?_; rintro e wb ⟨rfl, hbb⟩))
          | (go_at_call 15; go_must (refine (CT.out _).mono ?_; rintro e wc ⟨rfl, hbc⟩))
          | (go_at_call 16; go_must (first | ((with_reducible refine (CRQ.out _).mono ?_); rintro e wd ⟨rfl, hbd⟩) | ((with_reducible refine (CRT.out _).mono ?_); rintro e we ⟨rfl, hbe⟩)))
          | (go_at_call 17; go_must (refine (CB.out _).mono ?_; rintro e wf ⟨rfl, hbf⟩))
          | (go_at_call 18; go_must (refine (CRB.out _).mono ?_; rintro e wg ⟨rfl, hwg⟩; obtain rfl := hwg.symm))
          | (go_at_call 11; go_must (refine (CH.out _).mono ?_; rintro e wh ⟨rfl, hbh⟩))
          | (go_at_call 19; go_must (refine (CRH.out _).mono ?_; rintro e wi ⟨rfl, hwi⟩; obtain rfl := hwi.symm))
          | (go_at_call 20; go_must (refine (CV.out _).mono ?_; rintro e wj ⟨rfl, hbj⟩)))
        go_ret
        exact ⟨rfl, eonto (eonto (eonto (eonto (eonto (eonto (eonto (eonto hba hbb) hbc) hbd) hbe) hbf) hbh) hbj) (Below.refl _ _)⟩
end Go.Proofs.YtikdggcdgdokiaaDoor
