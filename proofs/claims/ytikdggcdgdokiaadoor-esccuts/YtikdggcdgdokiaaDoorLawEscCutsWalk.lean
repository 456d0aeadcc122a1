/- EscCuts, walked. -/
import Derived.Test.YtikdggcdgdokiaaDoorMathEscC
import Derived.Test.YtikdggcdgdokiaaDoorLawEscWritesWalk
namespace Go.Proofs.YtikdggcdgdokiaaDoor
open Go.RowKit

theorem bt_take {l : List UInt8} {n k : Nat} (h : k < n) : bt (l.take n) k = bt l k := by unfold bt; rw [List.getElem?_take_of_lt h]
theorem bt_take_none {l : List UInt8} {n k : Nat} (h : n ≤ k) : bt (l.take n) k = 256 := bt_none (by rw [List.length_take]; omega)
theorem plc_nil : plc [] 0 = 0 := by unfold plc; simp
theorem cutJ (s : List UInt8) (n : Nat) (hv : ∀ j < cnt s, tkN (s.drop (pos s j)) ≠ 0) (h2 : n < (qtA false s).length) :
    0 ≤ (unqJ ((qtA false s).take n) 0).2.2 ∧ (unqJ ((qtA false s).take n) 0).2.2 ≤ n := by
  by_cases h1 : 1 ≤ n
  · have hb : bt ((qtA false s).take n) 0 = 34 := by
      rw [bt_take h1]; have := qtA_head false s [] []; rw [List.nil_append, List.append_nil] at this; exact this
    have := cut_wrong false s n hv h1 h2
    unfold unqJ
    rw [if_pos ⟨by omega, hb⟩]
    exact this
  · obtain rfl : n = 0 := by omega
    unfold unqJ
    rw [List.take_zero, bt_nil, if_neg (by omega), plc_nil]
    exact ⟨by decide, by decide⟩
theorem cutT (s : List UInt8) (n : Nat) (hv : ∀ j < cnt s, tkN (s.drop (pos s j)) ≠ 0) (h2 : n < (qtA true s).length) :
    0 ≤ (unqT ((qtA true s).take n) 0).2.2 ∧ (unqT ((qtA true s).take n) 0).2.2 ≤ n := by
  by_cases h1 : 1 ≤ n
  · have hb : bt ((qtA true s).take n) 0 = 34 := by
      rw [bt_take h1]; have := qtA_head true s [] []; rw [List.nil_append, List.append_nil] at this; exact this
    have hm : m3 34 ((qtA true s).take n) = false := by
      by_cases h3 : 3 ≤ n
      · have := m3_back s [] [] hv (fun _ => by rw [bt_nil]; omega)
        rw [List.nil_append, List.append_nil, List.length_nil, List.drop_zero] at this
        unfold m3 at this ⊢
        rw [bt_take (by omega), bt_take (by omega), bt_take (by omega)]; exact this
      · unfold m3
        rw [bt_take_none (k := 2) (by omega), decide_eq_false (show ¬ 256 = 34 by omega), Bool.and_false]
    have := cut_wrong true s n hv h1 h2
    have e := unqT_is ((qtA true s).take n) 0 34 hb (Or.inl rfl)
    rw [List.drop_zero, hm, ee_one, pp_oe] at e
    have e' : unqT ((qtA true s).take n) 0 = rdA (oE 34) (pcB true) ((qtA true s).take n) 1 := e
    rw [e']
    exact this
  · obtain rfl : n = 0 := by omega
    rw [List.take_zero]
    decide +kernel
set_option maxRecDepth 100000 in
set_option maxHeartbeats 4000000 in
theorem escCuts_walk (s : ByteArray) (n : Int) (w0 : s.size ≤ maxLen) (w1 : (Lit.int .i64 n).wf = true) (w : World) :
    Calls Tryd.prog 7 #[.string s, .int .i64 n] w fun e w' => e = .returned (.bool true) ∧ Below w.heap.size w w' := by
  have HW0 := hid w0
  unfold maxLen at w0
  by_cases hbig : 200 < s.size
  · have g : decide (200 < (s.size : Int)) = true := decide_eq_true (by omega)
    go_enter Tryd.func7, Tryd.ntmps7
    go_wp2_with (go_at_call 8; go_must (refine (awake_any _).mono ?_; rintro e wa ⟨rfl, hba⟩))
    go_ret
    exact ⟨rfl, hba⟩
  · have g : decide (200 < (s.size : Int)) = false := decide_eq_false (by omega)
    have CV := hid (fun X => rvalid_any s X HW0.out)
    by_cases hval : pos s.data.toList (vlk s.data.toList) = s.data.toList.length
    · have hv := vld_of s.data.toList hval
      rw [rv_yes _ hval] at CV
      obtain ⟨q, hq⟩ : ∃ q, mkS (qtA false s.data.toList) = q := ⟨_, rfl⟩
      obtain ⟨t, ht⟩ : ∃ t, mkS (qtA true s.data.toList) = t := ⟨_, rfl⟩
      have hqs : q.size ≤ 2402 := by rw [← hq, mkS_size]; have := qtA_len false s.data.toList; rw [size_list] at this; omega
      have hts : t.size ≤ 2402 := by rw [← ht, mkS_size]; have := qtA_len true s.data.toList; rw [size_list] at this; omega
      have CQ := hid (fun X => jquote_any s X (by omega))
      have CT := hid (fun X => tquote_any s X (by omega))
      rw [hq] at CQ
      rw [ht] at CT
      by_cases hn : n < 0 ∨ (q.size : Int) ≤ n
      · have hn' : n < 0 ∨ (¬ n < 0 ∧ (q.size : Int) ≤ n) := by omega
        clear hn hq ht hval hv
        rcases hn' with g1 | ⟨g1, g2⟩
        all_goals
          go_enter Tryd.func7, Tryd.ntmps7
          go_wp2_with (first
            | (go_at_call 8; go_must (refine (awake_any _).mono ?_; rintro e wa ⟨rfl, hba⟩))
            | (go_at_call 20; go_must (refine (CV.out _).mono ?_; rintro e wj ⟨rfl, hbj⟩))
            | (go_at_call 14; go_must (refine (CQ.out _).mono ?_; rintro e wb ⟨rfl, hbb⟩))
            | (go_at_call 15; go_must (refine (CT.out _).mono ?_; rintro e wc ⟨rfl, hbc⟩)))
          go_ret
          exact ⟨rfl, eonto (eonto (eonto hba hbj) hbb) hbc⟩
      · obtain ⟨k, rfl⟩ : ∃ k : Nat, n = k := ⟨n.toNat, by omega⟩
        have hkq : k < q.size := by omega
        have hql : q.data.toList = qtA false s.data.toList := by rw [← hq, mkS_list]
        have htl : t.data.toList = qtA true s.data.toList := by rw [← ht, mkS_list]
        have hj := cutJ s.data.toList k hv (by rw [← hql, size_list]; exact hkq)
        obtain ⟨qc, hqc⟩ : ∃ qc, q.extract 0 k = qc := ⟨_, rfl⟩
        have hqcl : qc.data.toList = (qtA false s.data.toList).take k := by rw [← hqc, ← hql, take_ext, mkS_list]
        have hqcs : qc.size ≤ 1000000 := by rw [← hqc, ByteArray.size_extract]; omega
        have CU := hid (fun X => unq_any qc 0 X hqcs)
        rw [hqcl] at CU
        obtain ⟨bad, hbad⟩ : ∃ b, (unqJ ((qtA false s.data.toList).take k) 0).2.2 = b := ⟨_, rfl⟩
        rw [hbad] at CU hj
        obtain ⟨hj1, hj2⟩ := hj
        by_cases hkt : t.size ≤ k ∨ (k = 2 ∧ bt t.data.toList 1 = 34)
        · have hkt' : (t.size : Int) ≤ (k : Int) ∨ (¬ (t.size : Int) ≤ (k : Int) ∧ k = 2 ∧ bt t.data.toList 1 = 34) := by
            by_cases h : t.size ≤ k
            · left; omega
            · right; exact ⟨by omega, (hkt.resolve_left h)⟩
          clear hkt hq ht hval hv hn hql htl hqcl hbad
          rcases hkt' with g1 | ⟨g1, rfl, g3⟩
          · go_enter Tryd.func7, Tryd.ntmps7
            go_wp2_with (first
              | (go_at_call 8; go_must (refine (awake_any _).mono ?_; rintro e wa ⟨rfl, hba⟩))
              | (go_at_call 20; go_must (refine (CV.out _).mono ?_; rintro e wj ⟨rfl, hbj⟩))
              | (go_at_call 14; go_must (refine (CQ.out _).mono ?_; rintro e wb ⟨rfl, hbb⟩))
              | (go_at_call 15; go_must (refine (CT.out _).mono ?_; rintro e wc ⟨rfl, hbc⟩))
              | (go_at_call 9; go_must (refine (CU.out _).mono ?_; rintro e wk ⟨rfl, hbk⟩)))
            go_ret
            exact ⟨rfl, eonto (eonto (eonto (eonto hba hbj) hbb) hbc) hbk⟩
          · have h2t : 2 < t.size := by omega
            have g4 : ((t[1].toNat : Int) == 34) = true := by rw [beq_iff_eq]; have := bt_at t 1 (by omega); omega
            clear g3
            go_enter Tryd.func7, Tryd.ntmps7
            go_wp2_with (first
              | (go_at_call 8; go_must (refine (awake_any _).mono ?_; rintro e wa ⟨rfl, hba⟩))
              | (go_at_call 20; go_must (refine (CV.out _).mono ?_; rintro e wj ⟨rfl, hbj⟩))
              | (go_at_call 14; go_must (refine (CQ.out _).mono ?_; rintro e wb ⟨rfl, hbb⟩))
              | (go_at_call 15; go_must (refine (CT.out _).mono ?_; rintro e wc ⟨rfl, hbc⟩))
              | (go_at_call 9; go_must (refine (CU.out _).mono ?_; rintro e wk ⟨rfl, hbk⟩)))
            go_ret
            exact ⟨rfl, eonto (eonto (eonto (eonto hba hbj) hbb) hbc) hbk⟩
        · have hlt : k < t.size := by omega
          have ht2 := cutT s.data.toList k hv (by rw [← htl, size_list]; exact hlt)
          obtain ⟨tc, htc⟩ : ∃ tc, t.extract 0 k = tc := ⟨_, rfl⟩
          have htcl : tc.data.toList = (qtA true s.data.toList).take k := by rw [← htc, ← htl, take_ext, mkS_list]
          have htcs : tc.size ≤ 1000000 := by rw [← htc, ByteArray.size_extract]; omega
          have CTU := hid (fun X => tunq_any tc 0 X htcs)
          rw [htcl] at CTU
          obtain ⟨ill, hill⟩ : ∃ b, (unqT ((qtA true s.data.toList).take k) 0).2.2 = b := ⟨_, rfl⟩
          rw [hill] at CTU ht2
          obtain ⟨hi1, hi2⟩ := ht2
          have g1 : ¬ (t.size : Int) ≤ (k : Int) := by omega
          have g2 : ((k : Int) == 2) = false ∨ (((k : Int) == 2) = true ∧ ∃ h : 1 < t.size, ((t[1].toNat : Int) == 34) = false) := by
            by_cases h2 : k = 2
            · right
              refine ⟨by rw [beq_iff_eq]; omega, by omega, ?_⟩
              rw [beq_eq_false_iff_ne]; intro h
              exact hkt (Or.inr ⟨h2, by have := bt_at t 1 (by omega); omega⟩)
            · left; rw [beq_eq_false_iff_ne]; omega
          clear hkt hq ht hval hv hn hql htl hqcl hbad htcl hill
          rcases g2 with g2 | ⟨g2, h1t, g3⟩
          all_goals
            go_enter Tryd.func7, Tryd.ntmps7
            go_wp2_with (first
              | (go_at_call 8; go_must (refine (awake_any _).mono ?_; rintro e wa ⟨rfl, hba⟩))
              | (go_at_call 20; go_must (refine (CV.out _).mono ?_; rintro e wj ⟨rfl, hbj⟩))
              | (go_at_call 14; go_must (refine (CQ.out _).mono ?_; rintro e wb ⟨rfl, hbb⟩))
              | (go_at_call 15; go_must (refine (CT.out _).mono ?_; rintro e wc ⟨rfl, hbc⟩))
              | (go_at_call 9; go_must (refine (CU.out _).mono ?_; rintro e wk ⟨rfl, hbk⟩))
              | (go_at_call 10; go_must (refine (CTU.out _).mono ?_; rintro e wl ⟨rfl, hbl⟩)))
            go_ret
            exact ⟨rfl, eonto (eonto (eonto (eonto (eonto hba hbj) hbb) hbc) hbk) hbl⟩
    · have hneg : ¬ rvI s.data.toList < 0 := by rw [rv_no _ hval]; omega
      generalize rvI s.data.toList = rv at *
      clear hval
      go_enter Tryd.func7, Tryd.ntmps7
      go_wp2_with (first
        | (go_at_call 8; go_must (refine (awake_any _).mono ?_; rintro e wa ⟨rfl, hba⟩))
        | (go_at_call 20; go_must (refine (CV.out _).mono ?_; rintro e wj ⟨rfl, hbj⟩)))
      go_ret
      exact ⟨rfl, eonto hba hbj⟩
end Go.Proofs.YtikdggcdgdokiaaDoor
