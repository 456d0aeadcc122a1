/- value's judges of texts, walked: textError, goodStamp, goodNum. -/
import Derived.Test.YtnpojefcibfgkaaGreatDoorVStr
import Derived.Test.YtnpojefcibfgkaaGreatDoorUtfValid
import Derived.Test.YtnpojefcibfgkaaGreatDoorDecI
import Derived.Test.YtnpojefcibfgkaaGreatDoorVFresh
namespace Go.Proofs.YtnpojefcibfgkaaGreatDoor
open Go.RowKit

/-- what is wrong with a text -/
def teI (s : ByteArray) : Int := if pos s.data.toList (vlk s.data.toList) = s.size then (if s.size > 4096 then 2 else 0) else 3
theorem te_ok (s : ByteArray) : strOkB s = decide (teI s = 0) := by
  unfold strOkB teI rvI
  rw [size_list]
  by_cases h1 : pos s.data.toList (vlk s.data.toList) = s.size
  · rw [if_pos h1, if_pos h1]
    by_cases h2 : s.size > 4096
    · rw [if_pos h2, decide_eq_false (by omega)]; rfl
    · rw [if_neg h2, decide_eq_true (by omega)]; rfl
  · rw [if_neg h1, if_neg h1, decide_eq_false (show ¬ ((pos s.data.toList (vlk s.data.toList) : Nat) : Int) < 0 by omega)]; simp
set_option maxRecDepth 100000 in
set_option maxHeartbeats 400000 in
theorem terr_any (s : ByteArray) (w : World) (hs : s.size ≤ maxLen) :
    Calls Tryz.prog 41 #[.string s] w fun e w' => e = .returned (.int .i64 (teI s)) ∧ w' = w := by
  have va := hid (fun w => valid_any s w hs)
  have H := hid (show teI s = if pos s.data.toList (vlk s.data.toList) = s.size then (if s.size > 4096 then 2 else 0) else 3 from rfl)
  unfold maxLen at hs
  generalize teI s = r at H ⊢
  generalize pos s.data.toList (vlk s.data.toList) = p at va H
  by_cases h1 : p = s.size
  · rw [if_pos h1, decide_eq_true h1] at *
    by_cases h2 : s.size > 4096
    · rw [if_pos h2] at H
      clear h1
      go_enter Tryz.func41, Tryz.ntmps41
      go_wp2_with (go_at_call 63; go_must (refine (va.out _).mono ?_; rintro e w1 ⟨rfl, rfl⟩))
      go_ret
      exact ⟨ret_int H.out.symm, rfl⟩
    · rw [if_neg h2] at H
      clear h1
      go_enter Tryz.func41, Tryz.ntmps41
      go_wp2_with (go_at_call 63; go_must (refine (va.out _).mono ?_; rintro e w1 ⟨rfl, rfl⟩))
      go_ret
      exact ⟨ret_int H.out.symm, rfl⟩
  · rw [if_neg h1] at H
    rw [decide_eq_false h1] at va
    clear h1
    go_enter Tryz.func41, Tryz.ntmps41
    go_wp2_with (go_at_call 63; go_must (refine (va.out _).mono ?_; rintro e w1 ⟨rfl, rfl⟩))
    go_ret
    exact ⟨ret_int H.out.symm, rfl⟩
set_option maxRecDepth 100000 in
set_option maxHeartbeats 400000 in
theorem gnum_any (s : ByteArray) (w : World) (hg : Glob w) (hs : s.size ≤ maxLen) :
    Calls Tryz.prog 96 #[.string s] w fun e w' => e = .returned (.bool (numB s.data.toList && !intB s.data.toList)) ∧ Below w.heap.size w w' := by
  have di := hid (dint_max s w hg hs)
  have dg := hid (fun w => dgood_max s w hs)
  generalize numB s.data.toList = a at dg ⊢
  generalize intV s.data.toList = v at di
  generalize intB s.data.toList = b at di ⊢
  clear hg
  cases a <;> cases b
  all_goals
    go_enter Tryz.func96, Tryz.ntmps96
    go_wp2_with (first
      | (go_at_call 40; go_must (refine di.out.mono ?_; rintro e w1 ⟨rfl, hb1⟩))
      | (go_at_call 39; go_must (refine (dg.out _).mono ?_; rintro e w2 ⟨rfl, hb2⟩)))
    go_ret
    exact ⟨rfl, vonto hb1 hb2⟩
set_option maxRecDepth 100000 in
set_option maxHeartbeats 400000 in
theorem gstamp_any (s : ByteArray) (w : World) (hs : s.size ≤ maxLen) :
    Calls Tryz.prog 42 #[.string s] w fun e w' => e = .returned (.bool (stampB s)) ∧ Below w.heap.size w w' := by
  unfold maxLen at hs
  have HZ := hid (size_list s)
  by_cases h1 : s.size < 1
  · have H := hid (show stampB s = false by unfold stampB; rw [decide_eq_false (by omega)]; rfl)
    go_enter Tryz.func42, Tryz.ntmps42
    go_wp2_with fail
    go_ret
    exact ⟨ret_bool H.out.symm, Below.refl _ _⟩
  · by_cases h2 : s.size > 64
    · have H := hid (show stampB s = false by unfold stampB; rw [decide_eq_false (show ¬ s.size ≤ 64 by omega)]; simp)
      go_enter Tryz.func42, Tryz.ntmps42
      go_wp2_with fail
      go_ret
      exact ⟨ret_bool H.out.symm, Below.refl _ _⟩
    · have H := hid (show stampB s = s.data.toList.all (fun b => decide (32 ≤ b.toNat) && decide (b.toNat ≤ 126)) by
        unfold stampB; rw [decide_eq_true (show 1 ≤ s.size by omega), decide_eq_true (show s.size ≤ 64 by omega)]; rfl)
      have hcv := run_bytes_of_string (P := Tryz.prog) w 9 31 5 s Tryz.underlying9 Tryz.underlying31 Tryz.underlying5
      go_enter Tryz.func42, Tryz.ntmps42
      go_upto_region 3 with fail
      go_cut [14, 15, 16] from 8 (fun a b c wx => ∃ cap, a = .slice (some ⟨w.heap.size, 0, none⟩) s.size cap ∧ b = .int .i64 s.size ∧ c = .int .i64 0 ∧ s.size ≤ cap ∧ Hid (∀ k (h : k < s.size), wx.cell? ⟨w.heap.size, k, none⟩ = some (.int .u8 (s[k].toNat : Int))) ∧ Hid (Below w.heap.size w wx))
      case first =>
        go_wp2_with fail
        go_meet
        exact ⟨_, rfl, rfl, rfl, grownCap_ge _ _ _ _, (show ∀ k (h : k < s.size), _ = _ from fun k hk => brow_at s k (w.drewN 1) _ _ _ hk), (Below.refl _ _).drew.alloc (by simp) _⟩
      case rest =>
      obtain ⟨cap, rfl, rfl, rfl, hcap, HC, HW⟩ := hcut
      clear hcv
      go_wp2_with fail
      go_loop [16] (fun i => ∃ j : Nat, j ≤ s.size ∧ i = .int .i64 j ∧ Hid (∀ k (h : k < s.size), k < j → 32 ≤ s[k].toNat ∧ s[k].toNat ≤ 126)) (fun i => s.size - (intOf i).toNat)
      case atStart => exact ⟨0, Nat.zero_le _, rfl, fun k h hk => absurd hk (by omega)⟩
      case round =>
        obtain ⟨j, hj, rfl, HJ⟩ := hrel
        by_cases hlt : j < s.size
        · have HG := hid (getD_at s j hlt)
          have hcell := HC.out j hlt
          by_cases h3 : s[j].toNat < 32
          · have HF := hid (show stampB s = false by
              rw [H.out, Bool.eq_false_iff]; intro hc
              have := List.all_eq_true.1 hc s[j] (by rw [← HG.out, List.getD, List.getElem?_eq_getElem (by rw [HZ.out]; exact hlt)]; exact List.getElem_mem _)
              simp at this; omega)
            go_wp2_with fail
            go_ret
            exact ⟨ret_bool HF.out.symm, HW.out⟩
          · by_cases h4 : s[j].toNat > 126
            · have HF := hid (show stampB s = false by
                rw [H.out, Bool.eq_false_iff]; intro hc
                have := List.all_eq_true.1 hc s[j] (by rw [← HG.out, List.getD, List.getElem?_eq_getElem (by rw [HZ.out]; exact hlt)]; exact List.getElem_mem _)
                simp at this; omega)
              go_wp2_with fail
              go_ret
              exact ⟨ret_bool HF.out.symm, HW.out⟩
            · go_wp2_with fail
              go_round
              case rel => exact ⟨j + 1, hlt, val_int (by omega), fun k h hk => by
                by_cases e : k = j
                · subst e; exact ⟨by omega, by omega⟩
                · exact HJ.out k h (by omega)⟩
              case measure => simp [intOf]; omega
        · have HF := hid (show stampB s = true by
            rw [H.out]; refine List.all_eq_true.2 fun b hb => ?_
            obtain ⟨k, hk, rfl⟩ := List.getElem_of_mem hb
            have hk' : k < s.size := by rw [← HZ.out]; exact hk
            have := HJ.out k hk' (by omega)
            simp; exact this)
          go_wp2_with fail
          go_ret
          exact ⟨ret_bool HF.out.symm, HW.out⟩
end Go.Proofs.YtnpojefcibfgkaaGreatDoor
