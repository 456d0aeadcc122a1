/- What is written has no byte below 32, and letters alone: JprintPlain walked. -/
import Derived.Test.YtkhjahpkbjafaaaGreatDoorQL9Base
import Derived.Test.YtkhjahpkbjafaaaGreatDoorQMathByte
import Derived.Test.YtkhjahpkbjafaaaGreatDoorQL8Base
import Derived.Test.YtkhjahpkbjafaaaGreatDoorQVOpen
namespace Go.Proofs.YtkhjahpkbjafaaaGreatDoor
open Go.RowKit

set_option maxRecDepth 100000 in
set_option maxHeartbeats 4000000 in
theorem Tryz.jprintPlain_walk (T : VT) (x y : Value) (w : World) (hga : GlobA w) (hT : HV w T x y) :
    Calls Tryz.prog 12 #[vv T x y] w fun e w' => e = .returned (.bool true) ∧ Below w.heap.size w w' := by
  have hg := hga.p
  have CV := hid (fun (t : ByteArray) X (ht : t.size ≤ 1000000) (hX : Below w.heap.size w X) => jvalid_any t X ht (hga.1.1.on hX) (hga.1.2.on hX))
  clear hga
  have hal := valloc_bel (Below.refl w.heap.size w) (.cells #[.int .i64 T.kd, .int .i64 T.nm, .string T.st, x, y] 27)
  have CA := hid (awake9 (w.alloc (.cells #[.int .i64 T.kd, .int .i64 T.nm, .string T.st, x, y] 27)) (hg.on hal))
  have HG := hid hg
  have HWF := hid hT.wfT
  have HT := hid hT
  have HAL := hid hal
  clear hg hT hal
  have CH := hid (fun X (hX : Below w.heap.size w X) => heavy_any T x y 200 32 X (HT.out.onto hX) (by omega) (by omega))
  have CM := hid (fun X (hX : Below w.heap.size w X) => rvalue_any T x y X (HT.out.onto hX))
  have CC := hid (fun X (hX : Below w.heap.size w X) => compact_any T x y X (HG.out.on hX) (HT.out.onto hX))
  have CI := hid (fun X (hX : Below w.heap.size w X) => indent_any T x y X (HG.out.on hX) (HT.out.onto hX))
  simp only [vv] at CH CM CC CI ⊢
  obtain ⟨k, hk⟩ : ∃ k, T.kd = k := ⟨_, rfl⟩
  obtain ⟨nm, hnm⟩ : ∃ nm, T.nm = nm := ⟨_, rfl⟩
  obtain ⟨st, hst⟩ : ∃ st, T.st = st := ⟨_, rfl⟩
  have HK := hid hk
  have HN := hid hnm
  have HST := hid hst
  rw [hk, hnm, hst] at CA HAL CH CM CC CI ⊢
  clear hk hnm hst
  go_enter Tryz.func12, Tryz.ntmps12
  go_wp2_with fail
  go_at_call 25
  refine CA.out.mono ?_
  rintro e w0 ⟨rfl, hb0⟩
  have hbx : Below (w.heap.size + 1) (w.alloc (.cells #[.int .i64 k, .int .i64 nm, .string st, x, y] 27)) w0 := by simpa using hb0
  have c0 := box_cell w w0 _ _ _ _ _ _ hbx 0 _ rfl
  have c1 := box_cell w w0 _ _ _ _ _ _ hbx 1 _ rfl
  have c2 := box_cell w w0 _ _ _ _ _ _ hbx 2 _ rfl
  have c3 := box_cell w w0 _ _ _ _ _ _ hbx 3 _ rfl
  have c4 := box_cell w w0 _ _ _ _ _ _ hbx 4 _ rfl
  have HB0 := hid (vonto HAL.out hb0)
  clear hb0 hbx CA HAL
  go_wp2_with fail
  go_at_call 21
  refine (CH.out _ HB0.out).mono ?_
  rintro e w1 ⟨rfl, hb1⟩
  replace c0 := keepCell hb1 c0
  replace c1 := keepCell hb1 c1
  replace c2 := keepCell hb1 c2
  replace c3 := keepCell hb1 c3
  replace c4 := keepCell hb1 c4
  have HB1 := hid (vonto HB0.out hb1)
  clear hb1 CH HB0
  cases hf : fitB T 32 200 with
  | false =>
    go_wp2_with fail
    go_ret
    exact ⟨rfl, HB1.out⟩
  | true =>
  have hfit : szT T ≤ 200 := by
    unfold fitB at hf
    have := of_decide_eq_true hf
    omega
  clear hf
  go_wp2_with fail
  go_at_call 22
  refine (CM.out _ HB1.out).mono ?_
  rintro e w2 ⟨rfl, hb2⟩
  replace c0 := keepCell hb2 c0
  replace c1 := keepCell hb2 c1
  replace c2 := keepCell hb2 c2
  replace c3 := keepCell hb2 c3
  replace c4 := keepCell hb2 c4
  have HB2 := hid (vonto HB1.out hb2)
  clear hb2 CM HB1
  cases hm : mayB 0 1 T with
  | false =>
    go_wp2_with fail
    go_ret
    exact ⟨rfl, HB2.out⟩
  | true =>
  obtain ⟨hpl, hsz, hhg⟩ := may_parts hm
  have HPL := hid hpl
  have e1 : ∀ inl, wrB inl T = txs (tkV (indO inl 0) T) := fun inl => by unfold wrB; rw [if_pos hm]
  rw [e1] at CC CI
  simp only [indO, Bool.false_eq_true, if_false, if_true] at CC CI
  have hln := val_len T none hpl HWF.out (fun k hk => by cases hk)
  obtain ⟨m, hmm⟩ : ∃ m, mkS (txs (tkV none T)) = m := ⟨_, rfl⟩
  rw [hmm] at CC
  have hms : m.size ≤ 60000 * 200 := by
    rw [← hmm, mkS_size]
    have : 60000 * szT T ≤ 60000 * 200 := Nat.mul_le_mul_left _ hfit
    omega
  have HM := hid (show txs (tkV none T) = m.data.toList by rw [← hmm, mkS_list])
  clear hmm e1 hm hpl hln
  go_wp2_with fail
  go_at_call 26
  refine (CC.out _ HB2.out).mono ?_
  rintro e w3 ⟨rfl, hb3⟩
  replace c0 := keepCell hb3 c0
  replace c1 := keepCell hb3 c1
  replace c2 := keepCell hb3 c2
  replace c3 := keepCell hb3 c3
  replace c4 := keepCell hb3 c4
  have HB3 := hid (vonto HB2.out hb3)
  clear hb3 CC HB2
  have HGE := hid (val_ge T HPL.out HWF.out)
  have CR := hid (fun X => rvalid_any m X (by unfold maxLen; omega))
  have HRV := hid (show rvI m.data.toList < 0 by rw [← HM.out]; exact vl_rv.1 (okR_vl _ (val_ok none T HPL.out HWF.out [] edr_nil)))
  have HNE := hid (show (m.toList == []) = false by
    rw [ByteArray.toList_eq, ← HM.out, beq_eq_false_iff_ne]; exact val_ne none T HPL.out HWF.out)
  go_wp2_with fail
  go_loopw [4] (fun iv wr => ∃ j : Nat, j ≤ m.size ∧ iv = .int .i64 j ∧ wr = w3) (fun iv _ => m.size - (intOf iv).toNat)
  case atStart => exact ⟨0, Nat.zero_le _, rfl, rfl⟩
  case round =>
    obtain ⟨j, hj, rfl, hwr⟩ := hrel
    subst hwr
    by_cases hlt : j < m.size
    · have hge : ¬ ((m[j].toNat : Int) < 32) := by
        have hme : m[j] ∈ txs (tkV none T) := by rw [HM.out]; exact List.mem_of_getElem? (list_at m j hlt)
        have := HGE.out _ hme
        omega
      go_wp2_with fail
      go_roundw
      case rel => exact ⟨j + 1, by omega, val_int (by omega), by first | trivial | rfl⟩
      case measure => simp [intOf]; omega
    · have hrv := HRV.out
      have hne := HNE.out
      by_cases hbig : 65536 < m.size
      · go_wp2_with (go_at_call 29; go_must (refine (CR.out _).mono ?_; rintro e w4 ⟨rfl, hb4⟩))
        go_ret
        exact ⟨by first | rfl | exact ret_bool (by simp), vonto HB3.out hb4⟩
      · obtain ⟨q, hq⟩ := val_reads none T HPL.out HWF.out hhg hsz (by rw [HM.out, size_list]; omega)
        have C5 := hid (fun X (hX : Below w.heap.size w X) => CV.out m X (by omega) hX)
        rw [← HM.out, hq, show decide (rdErr (.ok (bkT T) (szT T) q) = 0) = true from rfl] at C5
        clear hq
        go_wp2_with fail
        go_at_call 29
        refine (CR.out _).mono ?_
        rintro e w4 ⟨rfl, hb4⟩
        have HB4 := hid (vonto HB3.out hb4)
        clear hb4
        go_wp2_with fail
        go_at_call 23
        refine (C5.out _ HB4.out).mono ?_
        rintro e w5 ⟨rfl, hb5⟩
        go_wp2_with fail
        go_ret
        exact ⟨by first | rfl | exact ret_bool (by simp), vonto HB4.out hb5⟩
end Go.Proofs.YtkhjahpkbjafaaaGreatDoor
