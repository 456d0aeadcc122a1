/- The document's own judgement of texts in trees, walked: Str, Stamp. -/
import Derived.Test.YteimbjamnfkapaaGreatDoorBRefVal4
import Derived.Test.YteimbjamnfkapaaGreatDoorBRefOne
import Derived.Test.YteimbjamnfkapaaGreatDoorBRefDec
namespace Go.Proofs.YteimbjamnfkapaaGreatDoor
open Go.RowKit
set_option maxRecDepth 100000 in
set_option maxHeartbeats 400000 in
theorem str_any (s : ByteArray) (w : World) (hs : s.size ≤ maxLen) :
  Calls Tryz.prog 47 #[.string s] w fun e w' => e = .returned (.bool (strOkB s)) ∧ Below w.heap.size w w' := by
 have HS := hid hs
 unfold maxLen at hs
 by_cases h4 : s.size ≤ 4096
 ·have H := hid (show strOkB s = decide (rvI s.data.toList < 0) by unfold strOkB; rw [decide_eq_true h4]; rfl)
  go_enter Tryz.func47,Tryz.ntmps47
  go_wp2_with (go_at_call 88; go_must (refine (rvalid_any _ _ HS.out).mono ?_; rintro e w1 ⟨rfl,hb1⟩))
  go_ret
  exact ⟨ret_bool H.out.symm,hb1⟩
 ·have H := hid (show strOkB s = false by unfold strOkB; rw [decide_eq_false h4]; rfl)
  go_enter Tryz.func47,Tryz.ntmps47
  go_wp2_with fail
  go_ret
  exact ⟨ret_bool H.out.symm,Below.refl _ _⟩
set_option maxRecDepth 100000 in
set_option maxHeartbeats 400000 in
theorem stamp_any (s : ByteArray) (w : World) (hs : s.size ≤ maxLen) :
  Calls Tryz.prog 87 #[.string s] w fun e w' => e = .returned (.bool (stampB s)) ∧ w' = w := by
 unfold maxLen at hs
 have HZ := hid (size_list s)
 by_cases h1 : s.size < 1
 ·have H := hid (show stampB s = false by unfold stampB; rw [decide_eq_false (by omega)]; rfl)
  go_enter Tryz.func87,Tryz.ntmps87
  go_wp2_with fail
  go_ret
  exact ⟨ret_bool H.out.symm,rfl⟩
 ·by_cases h2 : s.size > 64
  ·have H := hid (show stampB s = false by unfold stampB; rw [decide_eq_false (show ¬ s.size ≤ 64 by omega)]; simp)
   go_enter Tryz.func87,Tryz.ntmps87
   go_wp2_with fail
   go_ret
   exact ⟨ret_bool H.out.symm,rfl⟩
  ·have H := hid (show stampB s = s.data.toList.all (fun b => decide (32 ≤ b.toNat) && decide (b.toNat ≤ 126)) by
    unfold stampB; rw [decide_eq_true (show 1 ≤ s.size by omega),decide_eq_true (show s.size ≤ 64 by omega)]; rfl)
   go_enter Tryz.func87,Tryz.ntmps87
   go_wp2_with fail
   go_loop [3] (fun i => ∃ j : Nat,j ≤ s.size ∧ i = .int .i64 j ∧ Hid (∀ k (h : k < s.size),k < j → 32 ≤ s[k].toNat ∧ s[k].toNat ≤ 126)) (fun i => s.size - (intOf i).toNat)
   case atStart => exact ⟨0,Nat.zero_le _,rfl,fun k h hk => absurd hk (by omega)⟩
   case round =>
    obtain ⟨j,hj,rfl,HJ⟩ := hrel
    by_cases hlt : j < s.size
    ·have HG := hid (getD_at s j hlt)
     by_cases h3 : s[j].toNat < 32
     ·have HF := hid (show stampB s = false by
       rw [H.out,Bool.eq_false_iff]; intro hc
       have := List.all_eq_true.1 hc s[j] (by rw [← HG.out,List.getD,List.getElem?_eq_getElem (by rw [HZ.out]; exact hlt)]; exact List.getElem_mem _)
       simp at this; omega)
      go_wp2_with fail
      go_ret
      exact ⟨ret_bool HF.out.symm,rfl⟩
     ·by_cases h4 : s[j].toNat > 126
      ·have HF := hid (show stampB s = false by
        rw [H.out,Bool.eq_false_iff]; intro hc
        have := List.all_eq_true.1 hc s[j] (by rw [← HG.out,List.getD,List.getElem?_eq_getElem (by rw [HZ.out]; exact hlt)]; exact List.getElem_mem _)
        simp at this; omega)
       go_wp2_with fail
       go_ret
       exact ⟨ret_bool HF.out.symm,rfl⟩
      ·go_wp2_with fail
       go_round
       case rel => exact ⟨j + 1,hlt,val_int (by omega),fun k h hk => by
        by_cases e : k = j
        ·subst e; exact ⟨by omega,by omega⟩
        ·exact HJ.out k h (by omega)⟩
       case measure => simp [intOf]; omega
    ·have HF := hid (show stampB s = true by
      rw [H.out]; refine List.all_eq_true.2 fun b hb => ?_
      obtain ⟨k,hk,rfl⟩ := List.getElem_of_mem hb
      have hk' : k < s.size := by rw [← HZ.out]; exact hk
      have := HJ.out k hk' (by omega)
      simp; exact this)
     go_wp2_with fail
     go_ret
     exact ⟨ret_bool HF.out.symm,rfl⟩
end Go.Proofs.YteimbjamnfkapaaGreatDoor
