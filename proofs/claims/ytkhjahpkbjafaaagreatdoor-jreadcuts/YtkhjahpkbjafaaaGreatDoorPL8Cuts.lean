/- The document's own reckoning of trees, walked: may a tree be? -/
import Derived.Test.YtkhjahpkbjafaaaGreatDoorPRefVal6
import Derived.Test.YtkhjahpkbjafaaaGreatDoorPRefVal2
import Derived.Test.YtkhjahpkbjafaaaGreatDoorPVPlain
import Derived.Test.YtkhjahpkbjafaaaGreatDoorPRefDecE
import Derived.Test.YtkhjahpkbjafaaaGreatDoorPRefVal5
import Derived.Test.YtkhjahpkbjafaaaGreatDoorPL8Base
/- Cut off anywhere, or with more behind it: JreadCuts walked. -/
namespace Go.Proofs.YtkhjahpkbjafaaaGreatDoor
open Go.RowKit

theorem may_fit (T : VT) : mayB 0 1 T = (fitB T 32 4096 && plainT T) := by
  unfold mayB fitB
  congr 1
  exact decide_eq_decide.2 (by omega)
set_option maxRecDepth 100000 in
set_option maxHeartbeats 1000000 in
theorem rvalue_any (T : VT) (x y : Value) (w : World) (hT : HV w T x y) :
    Calls Tryz.prog 22 #[vv T x y] w fun e w' => e = .returned (.bool (mayB 0 1 T)) ∧ Below w.heap.size w w' := by
  have hal : Below w.heap.size w (w.alloc (.cells #[.int .i64 T.kd, .int .i64 T.nm, .string T.st, x, y] 27)) := (Below.refl _ _).alloc (Nat.le_refl _) _
  have HM := hid (may_fit T)
  obtain ⟨o1, n1, c1, o2, n2, c2, rfl, rfl⟩ := hv_slices hT
  have HB := hid (bx_new hT 27)
  have HAL := hid hal
  have HH := hid (heavy_any T _ _ 4096 32 _ HB.out.2 (by omega) (by omega))
  simp only [vv] at HH
  simp only [vv]
  clear hal hT
  cases hf : fitB T 32 4096 with
  | false =>
    rw [hf] at HH HM
    simp only [Bool.not_false] at HH
    go_enter Tryz.func22, Tryz.ntmps22
    go_wp2_with (go_at_call 21; go_must (refine HH.out.mono ?_; rintro e w1 ⟨rfl, hb1⟩))
    go_ret
    exact ⟨ret_bool (by rw [HM.out]; rfl), vonto HAL.out hb1⟩
  | true =>
    rw [hf] at HH HM
    simp only [Bool.not_true] at HH
    go_enter Tryz.func22, Tryz.ntmps22
    go_wp2_with fail
    go_at_call 21
    refine HH.out.mono ?_
    rintro e w1 ⟨rfl, hb1⟩
    have HB1 := hid hb1
    obtain ⟨q0, q1, q2, q3, q4⟩ := (HB.out.onto hb1).cells
    have HP := hid (rplain_any (szT T) T _ _ w1 (Nat.le_refl _) (HB.out.onto hb1).2)
    simp only [vv] at HP
    generalize plainT T = pt at HP HM
    clear hb1
    go_wp2_with fail
    go_at_call 36
    refine HP.out.mono ?_
    rintro e w2 ⟨rfl, hb2⟩
    go_wp2_with fail
    go_ret
    exact ⟨ret_bool (by rw [HM.out]; rfl), vonto (vonto HAL.out HB1.out) hb2⟩
end Go.Proofs.YtkhjahpkbjafaaaGreatDoor
namespace Go.Proofs.YtkhjahpkbjafaaaGreatDoor
open Go.RowKit

def bks (l : List UInt8) : Bool := l.all blB
theorem bks_take {s : ByteArray} {j : Nat} (h : j < s.size) : bks (s.data.toList.take (j + 1)) = (bks (s.data.toList.take j) && blB s[j]) := by
  unfold bks
  rw [take_next (list_at s j h), List.all_append]
  simp
set_option maxRecDepth 100000 in
set_option maxHeartbeats 4000000 in
theorem Tryz.jreadCuts_walk (T : VT) (x y : Value) (n : Int) (_hn : (Lit.int .i64 n).wf = true) (more : ByteArray) (_hm : more.size ≤ maxLen) (w : World) (hgs : Globs w) (hT : HV w T x y) :
    Calls Tryz.prog 5 #[vv T x y, .int .i64 n, .string more] w fun e w' => e = .returned (.bool true) ∧ Below w.heap.size w w' := by
  obtain ⟨hg, hu⟩ := hgs
  have hal := valloc_bel (Below.refl w.heap.size w) (.cells #[.int .i64 T.kd, .int .i64 T.nm, .string T.st, x, y] 27)
  have CA := hid (awake8 (w.alloc (.cells #[.int .i64 T.kd, .int .i64 T.nm, .string T.st, x, y] 27)) (hg.on hal) (hu.on hal))
  have CV := hid (fun (t : ByteArray) X (ht : t.size ≤ 1000000) (hX : Below w.heap.size w X) => jvalid_any t X ht (hg.on hX) (hu.on hX))
  have HWF := hid hT.wfT
  have HT := hid hT
  have HAL := hid hal
  unfold maxLen at _hm
  clear hg hu hT hal
  obtain ⟨k, hk⟩ : ∃ k, T.kd = k := ⟨_, rfl⟩
  have HK := hid hk
  have CH := hid (fun X (hX : Below w.heap.size w X) => heavy_any T x y 150 32 X (HT.out.onto hX) (by omega) (by omega))
  have CM := hid (fun X (hX : Below w.heap.size w X) => rvalue_any T x y X (HT.out.onto hX))
  simp only [vv] at CH CM ⊢
  rw [hk] at CA HAL CH CM ⊢
  clear hk
  obtain ⟨nm, hnm⟩ : ∃ nm, T.nm = nm := ⟨_, rfl⟩
  obtain ⟨st, hst⟩ : ∃ st, T.st = st := ⟨_, rfl⟩
  have HN := hid hnm
  have HST := hid hst
  rw [hnm, hst] at CA HAL CH CM ⊢
  clear hnm hst
  go_enter Tryz.func5, Tryz.ntmps5
  go_wp2_with fail
  go_at_call 14
  refine CA.out.mono ?_
  rintro e w0 ⟨rfl, hb0⟩
  have hbx : Below (w.heap.size + 1) (w.alloc (.cells #[.int .i64 k, .int .i64 nm, .string st, x, y] 27)) w0 := by simpa using hb0
  have c0 := box_cell w w0 _ _ _ _ _ _ hbx 0 _ rfl
  have c1 := box_cell w w0 _ _ _ _ _ _ hbx 1 _ rfl
  have c2 := box_cell w w0 _ _ _ _ _ _ hbx 2 _ rfl
  have c3 := box_cell w w0 _ _ _ _ _ _ hbx 3 _ rfl
  have c4 := box_cell w w0 _ _ _ _ _ _ hbx 4 _ rfl
  have HB0 := hid (vonto HAL.out hb0)
  clear hb0 hbx CA HAL
  go_wp2_with fail
  go_at_call 21
  refine (CH.out _ HB0.out).mono ?_
  rintro e w1 ⟨rfl, hb1⟩
  replace c0 := keepCell hb1 c0
  replace c1 := keepCell hb1 c1
  replace c2 := keepCell hb1 c2
  replace c3 := keepCell hb1 c3
  replace c4 := keepCell hb1 c4
  have HB1 := hid (vonto HB0.out hb1)
  clear hb1 CH HB0
  cases hf : fitB T 32 150 with
  | false =>
    go_wp2_with fail
    go_ret
    exact ⟨rfl, HB1.out⟩
  | true =>
  go_wp2_with fail
  go_at_call 22
  refine (CM.out _ HB1.out).mono ?_
  rintro e w2 ⟨rfl, hb2⟩
  replace c0 := keepCell hb2 c0
  replace c1 := keepCell hb2 c1
  replace c2 := keepCell hb2 c2
  replace c3 := keepCell hb2 c3
  replace c4 := keepCell hb2 c4
  have HB2 := hid (vonto HB1.out hb2)
  clear hb2 CM HB1
  cases hm : mayB 0 1 T with
  | false =>
    go_wp2_with fail
    go_ret
    exact ⟨rfl, HB2.out⟩
  | true =>
  obtain ⟨hpl, hsz, hhg⟩ := may_parts hm
  have HPL := hid hpl
  have HFT := hid hf
  clear hpl hf hm
  by_cases h56 : ¬ (k = 5 ∨ k = 6)
  · have q5 : (k != 5) = true := by simp; omega
    have q6 : (k != 6) = true := by simp; omega
    clear h56
    go_wp2_with fail
    go_ret
    exact ⟨rfl, HB2.out⟩
  have h56' : k = 5 ∨ k = 6 := Classical.not_not.1 h56
  have HKK := hid (show T.kd = 5 ∨ T.kd = 6 by rw [HK.out]; exact h56')
  clear h56
  by_cases h50 : 50 < more.size
  · rcases h56' with rfl | rfl
    all_goals
      go_wp2_with fail
      go_ret
      exact ⟨rfl, HB2.out⟩
  have hfit : szT T ≤ 150 := by
    have := HFT.out
    unfold fitB at this
    have := of_decide_eq_true this
    omega
  have HVLN := hid (val_len T (some 0) HPL.out HWF.out (fun k hk => by injection hk with hk; omega))
  have HLN := hid (show (txs (tkV (some 0) T)).length ≤ 100000000 by have := HVLN.out; omega)
  have CP := hid (fun X (hX : Below w.heap.size w X) => print_any (szT T) T x y (some 0) X (Nat.le_refl _) (HT.out.onto hX) HPL.out HLN.out (fun k hk => by injection hk with hk; omega))
  simp only [vv, inI] at CP
  rw [HK.out, HN.out, HST.out] at CP
  obtain ⟨R, hR⟩ : ∃ R, txs (tkV (some 0) T) = R := ⟨_, rfl⟩
  rw [hR] at CP
  have HR := hid hR
  obtain ⟨s, hs⟩ : ∃ s, mkS R = s := ⟨_, rfl⟩
  rw [hs] at CP
  have HS := hid hs
  have hsz8 : s.size ≤ 100000000 := by rw [← hs, mkS_size, ← hR]; exact HLN.out
  clear hR hs HLN HVLN
  have HGO : Hid (∀ X, Below w.heap.size w X → Below w.heap.size w X) := fun _ h => h
  clear HGO
  rcases h56' with rfl | rfl
  all_goals
    go_wp2_with fail
    go_at_call 18
    refine (CP.out _ HB2.out).mono ?_
    rintro e w3 ⟨rfl, hb3⟩
    have HB3 := hid (vonto HB2.out hb3)
    clear hb3 c0 c1 c2 c3 c4
    by_cases n1 : n < 0
    · go_wp2_with fail
      go_ret
      exact ⟨rfl, HB3.out⟩
    by_cases n2 : (s.size : Int) ≤ n
    · go_wp2_with fail
      go_ret
      exact ⟨rfl, HB3.out⟩
    by_cases n3 : 30000 < s.size
    · go_wp2_with fail
      go_ret
      exact ⟨rfl, HB3.out⟩
    obtain ⟨N, rfl⟩ : ∃ N : Nat, n = N := ⟨n.toNat, by omega⟩
    have hls : s.data.toList = txs (tkV (some 0) T) := by rw [← HS.out, mkS_list, HR.out]
    have C1 := hid (fun X (hX : Below w.heap.size w X) => CV.out (s.extract 0 N) X (by rw [ByteArray.size_extract]; omega) hX)
    have C2 := hid (fun X (hX : Below w.heap.size w X) => CV.out s X (by omega) hX)
    have e1 : (s.extract 0 N).data.toList = (txs (tkV (some 0) T)).take N := by rw [← hls]; simp
    have hlen : (txs (tkV (some 0) T)).length = s.size := by rw [← hls, size_list]
    rw [e1, rd_err (val_cut (some 0) T HPL.out HWF.out HKK.out N (by omega))] at C1
    obtain ⟨q, hq⟩ := val_reads (some 0) T HPL.out HWF.out hhg hsz (by omega)
    rw [hls, hq] at C2
    have e2 : decide (rdErr (.ok (bkT T) (szT T) q) = 0) = true := rfl
    rw [e2] at C2
    clear e1 e2 hq hlen
    go_wp2_with fail
    go_at_call 23
    refine (C1.out _ HB3.out).mono ?_
    rintro e w4 ⟨rfl, hb4⟩
    have HB4 := hid (vonto HB3.out hb4)
    clear hb4 C1 HB3
    go_wp2_with fail
    go_at_call 23
    refine (C2.out _ HB4.out).mono ?_
    rintro e w5 ⟨rfl, hb5⟩
    have HB5 := hid (vonto HB4.out hb5)
    clear hb5 C2 HB4
    go_wp2_with fail
    go_loopw [8, 9] (fun bv iv wr => ∃ j : Nat, j ≤ more.size ∧ iv = .int .i64 j ∧ bv = .bool (bks (more.data.toList.take j)) ∧ Hid (Below w.heap.size w wr)) (fun _ iv _ => more.size - (intOf iv).toNat)
    case atStart => exact ⟨0, Nat.zero_le _, rfl, rfl, HB5.out⟩
    case round =>
      obtain ⟨j, hj, rfl, rfl, HB⟩ := hrel
      by_cases hlt : j < more.size
      · have HNX := hid (bks_take hlt)
        cases hbk : bks (more.data.toList.take j) with
        | false =>
          have HN2 := hid (show bks (more.data.toList.take (j + 1)) = false by rw [HNX.out, hbk]; rfl)
          go_wp2_with fail
          go_roundw
          case rel => exact ⟨j + 1, by omega, val_int (by omega), by rw [HN2.out], HB.out⟩
          case measure => simp [intOf]; omega
        | true =>
          go_wp2_with fail
          all_goals
            refine ⟨⟨j + 1, by omega, val_int (by omega), congrArg Value.bool ?_, HB.out⟩, by simp [intOf]; omega⟩
            rw [HNX.out, hbk, Bool.true_and]
            unfold blB
            rw [Bool.eq_iff_iff]
            simp
            omega
      · obtain rfl : j = more.size := by omega
        have hall : more.data.toList.take more.size = more.data.toList := by rw [← size_list, List.take_length]
        rw [hall]
        have C3 := hid (fun X (hX : Below w.heap.size w X) => CV.out (s ++ more) X (by rw [ByteArray.size_append]; omega) hX)
        have e3 : (s ++ more).data.toList = txs (tkV (some 0) T) ++ more.data.toList := by rw [← hls]; simp
        have hl3 : (txs (tkV (some 0) T) ++ more.data.toList).length ≤ 65536 := by rw [← hls, List.length_append, size_list, size_list]; omega
        rw [e3] at C3
        cases hbk : bks more.data.toList with
        | true =>
          obtain ⟨q3, hq3⟩ := val_blank (some 0) T HPL.out HWF.out hhg hsz more.data.toList (fun x hx => by unfold bks at hbk; exact List.all_eq_true.1 hbk x hx) hl3
          rw [hq3] at C3
          have e4 : decide (rdErr (.ok (bkT T) (szT T) q3) = 0) = true := rfl
          rw [e4] at C3
          clear e3 hl3 hq3 e4 hall hls
          go_wp2_with (go_at_call 23; go_must (refine (C3.out _ HB.out).mono ?_; rintro e w6 ⟨rfl, hb6⟩))
          go_ret
          exact ⟨by first | rfl | exact ret_bool (by simp), vonto HB.out hb6⟩
        | false =>
          have hnb : ¬ ∀ x ∈ more.data.toList, blB x = true := fun h => by
            have : bks more.data.toList = true := by unfold bks; exact List.all_eq_true.2 h
            rw [this] at hbk; cases hbk
          rw [rd_err (val_more (some 0) T HPL.out HWF.out HKK.out hhg hsz more.data.toList hnb)] at C3
          clear e3 hl3 hnb hall hls
          go_wp2_with (go_at_call 23; go_must (refine (C3.out _ HB.out).mono ?_; rintro e w6 ⟨rfl, hb6⟩))
          go_ret
          exact ⟨by first | rfl | exact ret_bool (by simp), vonto HB.out hb6⟩
end Go.Proofs.YtkhjahpkbjafaaaGreatDoor
