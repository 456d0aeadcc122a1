/- The walk of UtfOrder, out of the contracts of what it calls. -/
import Derived.Test.YtncapmppmepdkaaG
import Derived.Test.YtncapmppmepdkaaO
import Derived.OpenShut
import Derived.Deep.QuietTactic
import Derived.BigQuiet
namespace Go.Proofs.Ytncapmppmepdkaa
open Go.RowKit

theorem owns_later {w w' : World} {base : Nat} {e : TypeId} {size n : Nat} {v : Value} {xs : List Value} (h : w.ownsRow base e size v n xs) (hb : Below w.heap.size w w') : w'.ownsRow base e size v n xs :=
  h.kept (row := none) ⟨hb.os, hb.tape, hb.output, hb.size, fun k hk _ => hb.block k hk⟩ (by cases v.ownBlock <;> simp)
set_option maxRecDepth 100000 in
set_option maxHeartbeats 1000000 in
theorem order_ne1 (a b : Int) (w : World) (ha : goodB a = true) (hb : goodB b = true) (hab : a ≠ b) (hlt : (enc b).length < (enc a).length) :
    Calls Try.prog 7 #[.int .i64 a, .int .i64 b] w fun e w' => e = .returned (.bool true) ∧ Below w.heap.size w w' := by
  have ht := order_tests a b ha hb hab
  have ht1 := ht.1
  have ht2 := ht.2 (enc b).length (Or.inr ⟨rfl, by omega⟩)
  have hne : (a == b) = false := beq_eq_false_iff_ne.2 hab
  have hsa := strOfNums_size (enc a)
  have hsb := strOfNums_size (enc b)
  have hl1 : (((enc b).length : Nat) : Int) < (((enc a).length : Nat) : Int) := by omega
  clear ht hab
  go_enter Try.func7, Try.ntmps7
  go_wp2_with fail
  refine (awake_any _).mono ?_
  rintro e wa ⟨rfl, hba⟩
  go_wp2_with (first | (go_at_call 12; go_must (refine (good_any _ _).mono ?_; rintro e w' ⟨rfl, hw'⟩; obtain rfl := hw'.symm)))
  go_region_with (first | (go_at_call_of 13 (Value.int IntKind.i64 a); go_must (refine (put_nil _ _).mono ?_; rintro e w1 ⟨rfl, hown1, hb1⟩; have hcv1 : (convert 29 9 (.slice (some ⟨wa.heap.size, 0, none⟩) (enc a).length 4)).run Try.prog w1 = .ok (.string (strOfNums (enc a))) w1 := conv_row w1 _ _ _ _ _ hown1)) | (go_at_call_of 13 (Value.int IntKind.i64 b); go_must (refine (put_nil _ _).mono ?_; rintro e w2 ⟨rfl, hown2, hb2⟩; have hcv2 : (convert 29 9 (.slice (some ⟨w1.heap.size, 0, none⟩) (enc b).length 4)).run Try.prog w2 = .ok (.string (strOfNums (enc b))) w2 := conv_row w2 _ _ _ _ _ hown2; have hcv3 : (convert 29 9 (.slice (some ⟨wa.heap.size, 0, none⟩) (enc a).length 4)).run Try.prog w2 = .ok (.string (strOfNums (enc a))) w2 := conv_row w2 _ _ _ _ _ (owns_later hown1 hb2))))
  all_goals
    clear hcv1 hcv2 hcv3 hown1 hown2
    go_wp2
    go_quiet (fail)
    go_wp2
    go_ret
    exact ⟨rfl, below_drewN (hba.trans (((Below.refl _ _).drew.trans (hb1.trans (hb2.mono hb1.size))).mono hba.size)) _⟩

set_option maxRecDepth 100000 in
set_option maxHeartbeats 1000000 in
theorem order_ne2 (a b : Int) (w : World) (ha : goodB a = true) (hb : goodB b = true) (hab : a ≠ b) (hlt : (enc a).length ≤ (enc b).length) :
    Calls Try.prog 7 #[.int .i64 a, .int .i64 b] w fun e w' => e = .returned (.bool true) ∧ Below w.heap.size w w' := by
  have ht := order_tests a b ha hb hab
  have ht1 := ht.1
  have ht2 := ht.2 (enc a).length (Or.inl ⟨rfl, hlt⟩)
  have hne : (a == b) = false := beq_eq_false_iff_ne.2 hab
  have hsa := strOfNums_size (enc a)
  have hsb := strOfNums_size (enc b)
  have hl1 : (((enc a).length : Nat) : Int) ≤ (((enc b).length : Nat) : Int) := by omega
  clear ht hab
  go_enter Try.func7, Try.ntmps7
  go_wp2_with fail
  refine (awake_any _).mono ?_
  rintro e wa ⟨rfl, hba⟩
  go_wp2_with (first | (go_at_call 12; go_must (refine (good_any _ _).mono ?_; rintro e w' ⟨rfl, hw'⟩; obtain rfl := hw'.symm)))
  go_region_with (first | (go_at_call_of 13 (Value.int IntKind.i64 a); go_must (refine (put_nil _ _).mono ?_; rintro e w1 ⟨rfl, hown1, hb1⟩; have hcv1 : (convert 29 9 (.slice (some ⟨wa.heap.size, 0, none⟩) (enc a).length 4)).run Try.prog w1 = .ok (.string (strOfNums (enc a))) w1 := conv_row w1 _ _ _ _ _ hown1)) | (go_at_call_of 13 (Value.int IntKind.i64 b); go_must (refine (put_nil _ _).mono ?_; rintro e w2 ⟨rfl, hown2, hb2⟩; have hcv2 : (convert 29 9 (.slice (some ⟨w1.heap.size, 0, none⟩) (enc b).length 4)).run Try.prog w2 = .ok (.string (strOfNums (enc b))) w2 := conv_row w2 _ _ _ _ _ hown2; have hcv3 : (convert 29 9 (.slice (some ⟨wa.heap.size, 0, none⟩) (enc a).length 4)).run Try.prog w2 = .ok (.string (strOfNums (enc a))) w2 := conv_row w2 _ _ _ _ _ (owns_later hown1 hb2))))
  all_goals
    clear hcv1 hcv2 hcv3 hown1 hown2
    go_wp2
    go_quiet (fail)
    go_wp2
    go_ret
    exact ⟨rfl, below_drewN (hba.trans (((Below.refl _ _).drew.trans (hb1.trans (hb2.mono hb1.size))).mono hba.size)) _⟩

set_option maxRecDepth 100000 in
set_option maxHeartbeats 1000000 in
theorem order_eq (a b : Int) (w : World) (ha : goodB a = true) (hb : goodB b = true) (hab : a = b) :
    Calls Try.prog 7 #[.int .i64 a, .int .i64 b] w fun e w' => e = .returned (.bool true) ∧ Below w.heap.size w w' := by
  have ht : ((strOfNums (enc a)).toList == (strOfNums (enc b)).toList) = true := by rw [hab]; simp
  have hne : (a == b) = true := by rw [hab]; simp
  clear hab
  go_enter Try.func7, Try.ntmps7
  go_wp2_with fail
  refine (awake_any _).mono ?_
  rintro e wa ⟨rfl, hba⟩
  go_wp2_with (first | (go_at_call 12; go_must (refine (good_any _ _).mono ?_; rintro e w' ⟨rfl, hw'⟩; obtain rfl := hw'.symm)))
  go_region_with (first | (go_at_call_of 13 (Value.int IntKind.i64 a); go_must (refine (put_nil _ _).mono ?_; rintro e w1 ⟨rfl, hown1, hb1⟩; have hcv1 : (convert 29 9 (.slice (some ⟨wa.heap.size, 0, none⟩) (enc a).length 4)).run Try.prog w1 = .ok (.string (strOfNums (enc a))) w1 := conv_row w1 _ _ _ _ _ hown1)) | (go_at_call_of 13 (Value.int IntKind.i64 b); go_must (refine (put_nil _ _).mono ?_; rintro e w2 ⟨rfl, hown2, hb2⟩; have hcv2 : (convert 29 9 (.slice (some ⟨w1.heap.size, 0, none⟩) (enc b).length 4)).run Try.prog w2 = .ok (.string (strOfNums (enc b))) w2 := conv_row w2 _ _ _ _ _ hown2; have hcv3 : (convert 29 9 (.slice (some ⟨wa.heap.size, 0, none⟩) (enc a).length 4)).run Try.prog w2 = .ok (.string (strOfNums (enc a))) w2 := conv_row w2 _ _ _ _ _ (owns_later hown1 hb2))))
  all_goals
    clear hcv1 hcv2 hcv3 hown1 hown2
    go_wp2
    go_ret
    exact ⟨rfl, hba.trans (((Below.refl _ _).drew.trans (hb1.trans (hb2.mono hb1.size))).mono hba.size)⟩

set_option maxRecDepth 100000 in
set_option maxHeartbeats 400000 in
theorem order_no (a b : Int) (w : World) (h : goodB a = false ∨ (goodB a = true ∧ goodB b = false)) :
    Calls Try.prog 7 #[.int .i64 a, .int .i64 b] w fun e w' => e = .returned (.bool true) ∧ Below w.heap.size w w' := by
  rcases h with ha | ⟨ha, hb⟩
  all_goals
    go_enter Try.func7, Try.ntmps7
    go_wp2_with fail
    refine (awake_any _).mono ?_
    rintro e wa ⟨rfl, hba⟩
    go_wp2_with (first | (go_at_call 12; go_must (refine (good_any _ _).mono ?_; rintro e w' ⟨rfl, hw'⟩; obtain rfl := hw'.symm)))
    go_ret
    exact ⟨rfl, hba⟩

theorem order_walk (a b : Int) (_wa : (Lit.int .i64 a).wf = true) (_wb : (Lit.int .i64 b).wf = true) (w : World) :
    Calls Try.prog 7 #[.int .i64 a, .int .i64 b] w fun e w' => e = .returned (.bool true) ∧ Below w.heap.size w w' := by
  cases ha : goodB a with
  | false => exact order_no a b w (Or.inl ha)
  | true =>
    cases hb : goodB b with
    | false => exact order_no a b w (Or.inr ⟨ha, hb⟩)
    | true =>
      by_cases hab : a = b
      · exact order_eq a b w ha hb hab
      · by_cases hl : (enc b).length < (enc a).length
        · exact order_ne1 a b w ha hb hab hl
        · exact order_ne2 a b w ha hb hab (by omega)
end Go.Proofs.Ytncapmppmepdkaa
