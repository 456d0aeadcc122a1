/- The document's own judgement of whole numbers, walked: Whole. -/
import Derived.Test.YtnabdepplpaabaaDoorRefDecD
namespace Go.Proofs.YtnabdepplpaabaaDoor
open Go.RowKit

set_option maxRecDepth 100000 in
set_option maxHeartbeats 400000 in
theorem whole_any (s : ByteArray) (w : World) (hs : s.size ≤ maxLen) :
    Calls Tryd.prog 18 #[.string s] w fun e w' => e = .returned (.bool (wholeB s.data.toList)) ∧ w' = w := by
  cases hn : numB s.data.toList with
  | false =>
    have H := hid (show wholeB s.data.toList = false by unfold wholeB; rw [hn]; rfl)
    go_enter Tryd.func18, Tryd.ntmps18
    go_wp2_with (go_at_call 16; go_must (refine (number_any _ _ hs).mono ?_; rintro e w' ⟨rfl, hw⟩; obtain rfl := hw.symm; rw [hn]))
    go_ret
    exact ⟨ret_bool H.out.symm, rfl⟩
  | true =>
    have HO := hid (num_ok hn)
    have hs4 : s.size ≤ 1000000 := num_size hn
    have hsz : (mkS (scD s.data.toList)).size = (scD s.data.toList).length := mkS_size _
    have hl := scD_len s.data.toList
    rw [size_list] at hl
    have hl' : (scD s.data.toList).length ≤ 1000000 := by omega
    by_cases he : scD s.data.toList = []
    · have h1 := emp_mk_yes _ he
      have H := hid (show wholeB s.data.toList = true by unfold wholeB; rw [hn, he]; rfl)
      clear he
      go_enter Tryd.func18, Tryd.ntmps18
      go_wp2_with (first
        | (go_at_call 16; go_must (refine (number_any _ _ hs).mono ?_; rintro e w' ⟨rfl, hw⟩; obtain rfl := hw.symm; rw [hn]))
        | (go_at_call 27; go_must (refine (scaled_any _ _ hs4 HO.out).mono ?_; rintro e w' ⟨rfl, hw⟩; obtain rfl := hw.symm)))
      go_ret
      exact ⟨ret_bool H.out.symm, rfl⟩
    · have h1 := emp_mk_no _ he
      have H := hid (show wholeB s.data.toList = decide (((scD s.data.toList).length : Int) - 1 ≤ scT s.data.toList) by unfold wholeB; rw [hn]; simp [he])
      clear he
      go_enter Tryd.func18, Tryd.ntmps18
      go_wp2_with (first
        | (go_at_call 16; go_must (refine (number_any _ _ hs).mono ?_; rintro e w' ⟨rfl, hw⟩; obtain rfl := hw.symm; rw [hn]))
        | (go_at_call 27; go_must (refine (scaled_any _ _ hs4 HO.out).mono ?_; rintro e w' ⟨rfl, hw⟩; obtain rfl := hw.symm)))
      go_ret
      exact ⟨ret_bool H.out.symm, rfl⟩
end Go.Proofs.YtnabdepplpaabaaDoor
