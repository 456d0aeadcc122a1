/- PlaceSteps, walked: behind each letter the column is one more, behind a line's end the line is one more and the column 1. -/
import Derived.Test.YtmgbnjadfhjbfaaLawPlaceBackWalk
namespace Go.Proofs.Ytmgbnjadfhjbfaa
open Go.RowKit

set_option maxRecDepth 100000 in
set_option maxHeartbeats 1000000 in
theorem steps_walk (t : ByteArray) (w0 : t.size ≤ maxLen) (w : World) :
    Calls Try.prog 6 #[.string t] w fun e w' => e = .returned (.bool true) ∧ Below w.heap.size w w' := by
  have W0 := hid w0
  unfold maxLen at w0
  by_cases h3 : t.size > 200
  · go_enter Try.func6, Try.ntmps6
    go_wp2_with (go_at_call 7; go_must (refine (awake_any _).mono ?_; rintro e w' ⟨rfl, hb⟩))
    go_ret
    exact ⟨rfl, hb⟩
  · have h3' : t.size ≤ 200 := by omega
    clear h3
    by_cases hv : rvI t.data.toList ≥ 0
    · go_enter Try.func6, Try.ntmps6
      go_wp2_with (first
        | (go_at_call 7; go_must (refine (awake_any _).mono ?_; rintro e w' ⟨rfl, hb⟩))
        | (go_at_call 14; go_must (refine (rvalid_any _ _ W0.out).mono ?_; rintro e w' ⟨rfl, hb1⟩)))
      go_ret
      exact ⟨rfl, onto hb hb1⟩
    · have hv' : rvI t.data.toList < 0 := by omega
      clear hv
      have V := hid (rv_vld _ hv')
      have HZ := hid (size_list t)
      have hcs := cnt_le t.data.toList
      rw [size_list] at hcs
      have hs : t.size ≤ 1000000 := by omega
      go_enter Try.func6, Try.ntmps6
      go_wp2_with (first
        | (go_at_call 7; go_must (refine (awake_any _).mono ?_; rintro e w1 ⟨rfl, hb⟩))
        | (go_at_call 14; go_must (refine (rvalid_any _ _ W0.out).mono ?_; rintro e w2 ⟨rfl, hb1⟩))
        | (go_at_call 15; go_must (refine (starts_at _ _ hs).mono ?_; rintro e w3 ⟨g, cap, rfl, hcell, hb2⟩; have HCELL := hid hcell; clear hcell)))
      have HB := onto (onto hb hb1) hb2
      clear hb hb1 hb2
      go_loopw [4, 5, 6] (fun x y z wr => ∃ (i : Nat) (L C : Nat), i ≤ cnt t.data.toList + 1 ∧ L ≤ 1000 ∧ C ≤ 1000 ∧ x = .int .i64 L ∧ y = .int .i64 C ∧ z = .int .i64 i ∧ Hid (i ≤ cnt t.data.toList → L = linOf (t.data.toList.take (pos t.data.toList i)) ∧ C = colOf (t.data.toList.take (pos t.data.toList i))) ∧ Hid (i = cnt t.data.toList + 1 → L = linOf t.data.toList) ∧ ∃ q, wr = w3.drewN q) (fun _ _ z _ => 1000 - (intOf z).toNat)
      case atStart => exact ⟨0, 1, 1, Nat.zero_le _, by omega, by omega, rfl, rfl, rfl, fun _ => ⟨rfl, rfl⟩, fun h => by omega, 0, rfl⟩
      case round =>
        obtain ⟨i, L, C, hi, hL, hC, rfl, rfl, rfl, HI, HE, q, rfl⟩ := hrel
        by_cases hlt : i ≤ cnt t.data.toList
        · have hpl : pos t.data.toList i ≤ t.size := by rw [← HZ.out]; exact pos_le _ _ hlt
          have HL := hid (show ofL t (pos t.data.toList i : Nat) = L by unfold ofL; rw [cl_at _ _ hpl]; exact (HI.out hlt).1.symm)
          have HC := hid (show ofC t (pos t.data.toList i : Nat) = C by unfold ofC; rw [cl_at _ _ hpl]; exact (HI.out hlt).2.symm)
          have hcc := HCELL.out i hlt
          by_cases hl2 : i < cnt t.data.toList
          · have hpl2 : pos t.data.toList i < t.size := by rw [← HZ.out]; exact (cnt_has _).2 i hl2
            have E := hid (getD_at t _ hpl2)
            have hLb : linOf (t.data.toList.take (pos t.data.toList (i + 1))) ≤ 1000 := by
              have := nls_le (t.data.toList.take (pos t.data.toList (i + 1))); rw [List.length_take, HZ.out] at this; unfold linOf; omega
            have hCb : colOf (t.data.toList.take (pos t.data.toList (i + 1))) ≤ 1000 := by
              unfold colOf
              generalize bol _ _ = b
              have := cnt_le ((t.data.toList.take (pos t.data.toList (i + 1))).drop b); rw [List.length_drop, List.length_take, HZ.out] at this; omega
            have HLB := hid hLb
            have HCB := hid hCb
            clear hLb hCb
            by_cases h10 : t[pos t.data.toList i] = 10
            · have h1 : ((t[pos t.data.toList i].toNat : Int) == 10) = true := by rw [h10]; rfl
              have HS := hid (step_yes _ V.out i hl2 (E.out.trans h10))
              clear h10
              go_wp2_with (go_at_call 8; go_must (refine (of_any _ _ _ hs).mono ?_; rintro e w' ⟨rfl, n, rfl⟩; rw [HL.out, HC.out]))
              go_roundw
              case rel => exact ⟨i + 1, L + 1, 1, by omega, by have := HS.out.1; have := HLB.out; have := (HI.out hlt).1; omega, by omega, val_int (by omega), rfl, val_int (by omega), fun _ => ⟨by rw [HS.out.1, (HI.out hlt).1], HS.out.2.symm⟩, fun h => by omega, _, rfl⟩
              case measure => simp [intOf]; omega
            · have h1 : ((t[pos t.data.toList i].toNat : Int) == 10) = false := byte_no _ h10
              have HS := hid (step_no _ V.out i hl2 (by rw [E.out]; exact h10))
              clear h10
              go_wp2_with (go_at_call 8; go_must (refine (of_any _ _ _ hs).mono ?_; rintro e w' ⟨rfl, n, rfl⟩; rw [HL.out, HC.out]))
              go_roundw
              case rel => exact ⟨i + 1, L, C + 1, by omega, hL, by have := HS.out.2; have := HCB.out; have := (HI.out hlt).2; omega, rfl, val_int (by omega), val_int (by omega), fun _ => ⟨by rw [HS.out.1, (HI.out hlt).1], by rw [HS.out.2, (HI.out hlt).2]⟩, fun h => by omega, _, rfl⟩
              case measure => simp [intOf]; omega
          · have hi' : i = cnt t.data.toList := by omega
            have HX := hid (show L = linOf t.data.toList by
              have h1 := (HI.out hlt).1
              rw [hi', (cnt_has _).1, List.take_length] at h1; exact h1)
            have HI' := hid hi'
            have hi2 : ¬ i + 1 < cnt t.data.toList + 1 := by omega
            have hC2 : C + 1 ≤ 1000 := by
              have h1 := (HI.out hlt).2
              unfold colOf at h1
              revert h1
              generalize bol _ _ = b
              intro h1
              have := cnt_le ((t.data.toList.take (pos t.data.toList i)).drop b); rw [List.length_drop, List.length_take, HZ.out] at this; omega
            clear hi'
            go_wp2_with (go_at_call 8; go_must (refine (of_any _ _ _ hs).mono ?_; rintro e w' ⟨rfl, n, rfl⟩; rw [HL.out, HC.out]))
            go_roundw
            case rel => exact ⟨i + 1, L, C + 1, by omega, hL, hC2, rfl, val_int (by omega), val_int (by omega), fun h => by have := HI'.out; omega, fun _ => HX.out, _, rfl⟩
            case measure => simp [intOf]; omega
        · have hi' : i = cnt t.data.toList + 1 := by omega
          have HX := hid (HE.out hi')
          go_wp2_with (go_at_call 10; go_must (refine (lines_any _ _ hs).mono ?_; rintro e w' ⟨rfl, hw⟩; obtain rfl := hw.symm; rw [← HX.out]))
          go_ret
          exact ⟨rfl, below_drewN HB _⟩
end Go.Proofs.Ytmgbnjadfhjbfaa
