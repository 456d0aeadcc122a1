import Derived.Test.YtmgbnjadfhjbfaaBytes
import Derived.Test.YtmgbnjadfhjbfaaRefGood
namespace Go.Proofs.Ytmgbnjadfhjbfaa
open Go.RowKit

set_option maxRecDepth 100000 in
set_option maxHeartbeats 400000 in
theorem rput_any (r : Int) (w : World) :
    Calls Try.prog 29 #[.int .i64 r] w fun e w' => e = .returned (.string (strOfNums (enc r))) ∧ Below w.heap.size w w' := by
  cases hg : goodB r with
  | false =>
    have e : enc r = [] := by unfold enc; rw [hg]; rfl
    rw [e]
    go_enter Try.func29, Try.ntmps29
    go_wp2_with (first | (go_at_call 36; go_must (refine (rgood_any _ _).mono ?_; rintro e w' ⟨rfl, hw'⟩; obtain rfl := hw'.symm)))
    go_ret
    exact ⟨rfl, Below.refl _ _⟩
  | true =>
    have e : enc r = encI r := by unfold enc; rw [hg]; rfl
    have hrr := of_decide_eq_true hg
    have h0 : 0 ≤ r := hrr.1
    have hm : r ≤ 1114111 := hrr.2.1
    clear hrr
    rw [e]
    unfold encI
    by_cases h1 : r < 128
    · rw [if_pos h1]
      have ho : r % 256 = r := by omega
      have hcv := conv_new w [r] 1 rfl
      simp only [List.map] at hcv
      clear e
      go_enter Try.func29, Try.ntmps29
      go_wp2_with (first | (go_at_call 36; go_must (refine (rgood_any _ _).mono ?_; rintro e w' ⟨rfl, hw'⟩; obtain rfl := hw'.symm)))
      go_ret
      exact ⟨rfl, (Below.refl _ _).alloc (Nat.le_refl _) _⟩
    · by_cases h2 : r < 2048
      · rw [if_neg h1, if_pos h2]
        have ho : (192 + r / 64) % 256 = 192 + r / 64 := by omega
        have ho2 : (128 + r % 64) % 256 = 128 + r % 64 := by omega
        have hcv := conv_new w [192 + r / 64, 128 + r % 64] 2 rfl
        simp only [List.map] at hcv
        clear e
        go_enter Try.func29, Try.ntmps29
        go_wp2_with (first | (go_at_call 36; go_must (refine (rgood_any _ _).mono ?_; rintro e w' ⟨rfl, hw'⟩; obtain rfl := hw'.symm)))
        go_ret
        exact ⟨rfl, (Below.refl _ _).alloc (Nat.le_refl _) _⟩
      · by_cases h3 : r < 65536
        · rw [if_neg h1, if_neg h2, if_pos h3]
          have ho : (224 + r / 4096) % 256 = 224 + r / 4096 := by omega
          have ho2 : (128 + r / 64 % 64) % 256 = 128 + r / 64 % 64 := by omega
          have ho3 : (128 + r % 64) % 256 = 128 + r % 64 := by omega
          have hcv := conv_new w [224 + r / 4096, 128 + r / 64 % 64, 128 + r % 64] 3 rfl
          simp only [List.map] at hcv
          clear e
          go_enter Try.func29, Try.ntmps29
          go_wp2_with (first | (go_at_call 36; go_must (refine (rgood_any _ _).mono ?_; rintro e w' ⟨rfl, hw'⟩; obtain rfl := hw'.symm)))
          go_ret
          exact ⟨rfl, (Below.refl _ _).alloc (Nat.le_refl _) _⟩
        · rw [if_neg h1, if_neg h2, if_neg h3]
          have ho : (240 + r / 262144) % 256 = 240 + r / 262144 := by omega
          have ho1 : (128 + r / 4096 % 64) % 256 = 128 + r / 4096 % 64 := by omega
          have ho2 : (128 + r / 64 % 64) % 256 = 128 + r / 64 % 64 := by omega
          have ho3 : (128 + r % 64) % 256 = 128 + r % 64 := by omega
          have hcv := conv_new w [240 + r / 262144, 128 + r / 4096 % 64, 128 + r / 64 % 64, 128 + r % 64] 4 rfl
          simp only [List.map] at hcv
          clear e
          go_enter Try.func29, Try.ntmps29
          go_wp2_with (first | (go_at_call 36; go_must (refine (rgood_any _ _).mono ?_; rintro e w' ⟨rfl, hw'⟩; obtain rfl := hw'.symm)))
          go_ret
          exact ⟨rfl, (Below.refl _ _).alloc (Nat.le_refl _) _⟩
end Go.Proofs.Ytmgbnjadfhjbfaa
