import Derived.Test.YtmgbnjadfhjbfaaRefTakeA
namespace Go.Proofs.Ytmgbnjadfhjbfaa
open Go.RowKit

set_option maxRecDepth 100000 in
set_option maxHeartbeats 800000 in
theorem rtake_three (s : ByteArray) (w : World) (hs : s.size ≤ maxLen) (h0 : 0 < s.size) (hN : begN s[0].toNat = 3) (hlo : (224 : Int) ≤ (s[0].toNat : Int)) (hhi : (s[0].toNat : Int) < 240) :
    Calls Try.prog 22 #[.string s] w fun e w' => e = .returned (.tuple #[.int .i64 (tkR s.data.toList), .int .i64 (tkN s.data.toList)]) ∧ Below w.heap.size w w' := by
  unfold maxLen at hs
  have he : s.toList.isEmpty = false := toList_some s h0
  have HN := hid hN
  have HR := hid (show ((begR s[0].toNat : Nat) : Int) = (s[0].toNat : Int) - 224 by unfold begR; (repeat' split) <;> omega)
  by_cases hlen : s.size < 3
  · have E := hid (tk_no s h0 (by rw [tkOk_of s h0, hN, decide_eq_false (by omega)]; rfl))
    clear hN
    go_enter Try.func22, Try.ntmps22
    go_wp2
    go_ret2
    exact ⟨ret_two (by rw [E.out.1]; rfl) (by rw [E.out.2]; rfl), Below.refl _ _⟩
  · clear hN
    go_enter Try.func22, Try.ntmps22
    go_wp2
    go_loop [6, 7] (fun r i => ∃ k : Nat, 1 ≤ k ∧ k ≤ 3 ∧ i = .int .i64 k ∧ r = .int .i64 (fol (begR s[0].toNat) (rest s k)) ∧ (rest s k).all cont = true) (fun _ i => 3 - (intOf i).toNat)
    case atStart => exact ⟨1, by omega, by omega, rfl, val_int (by simp [rest, fol, HR.out]), by simp [rest]⟩
    case round =>
      obtain ⟨k, hk1, hk2, rfl, rfl, hall⟩ := hrel
      have hfs := fol_small s[0].toNat (rest s k) hall (by have := rest_len s k; omega)
      by_cases hlt : k < 3
      · have hks : k < s.size := by omega
        by_cases hc : cont s[k] = true
        · have hcc := of_decide_eq_true hc
          have hc1 : 128 ≤ (s[k].toNat : Int) := by omega
          have hc2 : (s[k].toNat : Int) < 192 := by omega
          have HF := hid (fol_step' s s[0].toNat k hk1 hks hc)
          have HA := hid (all_step s k hk1 hks hc hall)
          clear hcc hc
          go_wp2
          go_round
          case rel => exact ⟨k + 1, by omega, by omega, by go_num, val_int HF.out, HA.out⟩
          case measure => simp [intOf]; omega
        · have hc' : cont s[k] = false := by simpa using hc
          have hcc : (s[k].toNat : Int) < 128 ∨ 191 < (s[k].toNat : Int) := by have := of_decide_eq_false hc'; omega
          have E := hid (tk_no s h0 (by rw [tkOk_of s h0, HN.out, all_no s k _ hk1 hlt hks hc']; simp))
          clear hc hc'
          rcases hcc with hcc | hcc
          all_goals
            go_wp2
            go_ret2
            exact ⟨ret_two (by rw [E.out.1]; rfl) (by rw [E.out.2]; rfl), Below.refl _ _⟩
      · obtain rfl : k = 3 := by omega
        have hs2 : (3 : Int) ≤ s.size := by omega
        have hpt := put_test s h0 3 HN.out (by omega) (by omega) hall
        cases hok : tkOk s[0] (s.data.toList.drop 1) with
        | false =>
          rw [hok] at hpt
          have E := hid (tk_no s h0 hok)
          clear hok hall hfs
          go_wp2_with fail
          go_region_with (go_at_call 29; go_must (refine (rput_any _ _).mono ?_; rintro e w' ⟨rfl, hb'⟩))
          go_wp2
          go_ret2
          exact ⟨ret_two (by rw [E.out.1]; rfl) (by rw [E.out.2]; rfl), (Below.refl _ _).drew.trans hb'⟩
        | true =>
          rw [hok] at hpt
          have E := hid (tk_yes s h0 hok)
          clear hok hall hfs
          go_wp2_with fail
          go_region_with (go_at_call 29; go_must (refine (rput_any _ _).mono ?_; rintro e w' ⟨rfl, hb'⟩))
          go_wp2
          go_ret2
          exact ⟨ret_two (by rw [E.out.1, HN.out]) (by rw [E.out.2, HN.out]; rfl), (Below.refl _ _).drew.trans hb'⟩
end Go.Proofs.Ytmgbnjadfhjbfaa
