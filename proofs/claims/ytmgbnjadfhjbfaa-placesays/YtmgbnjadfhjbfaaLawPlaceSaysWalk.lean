/- PlaceSays, walked: each byte's line and column, each line's beginning. -/
import Derived.Test.YtmgbnjadfhjbfaaPlaceAwake
import Derived.Test.YtmgbnjadfhjbfaaRefPlace
import Derived.OpenShut
namespace Go.Proofs.Ytmgbnjadfhjbfaa
open Go.RowKit

/-- the beginning of line n, as far as the first i bytes tell it -/
def bgA (l : List UInt8) (i : Nat) (n : Int) : Int := if 1 ≤ n ∧ n ≤ nls (l.take i) + 1 then (lineAt l (n - 1).toNat : Int) else 0
theorem bgA_zero (l : List UInt8) (n : Int) : bgA l 0 n = 0 ∧ bgB (l.take 0) n = (n == 1) := by
  unfold bgA bgB
  by_cases h : n = 1
  · subst h; rw [if_pos (by simp [nls])]; exact ⟨by rw [show (1 - 1 : Int).toNat = 0 by rfl, lineAt_eq l 0 0 (LineAt_zero l)]; rfl, by simp [nls]⟩
  · have : ¬ (1 ≤ n ∧ n ≤ (nls (l.take 0) : Int) + 1) := by simp [nls]; omega
    rw [if_neg this]; exact ⟨rfl, by simp only [this, decide_false]; simp [h]⟩
theorem bgA_hit (l : List UInt8) (i : Nat) (n : Int) (hi : i < l.length) (h : l.getD i 0 = 10) (hn : n = (nls (l.take i) : Int) + 1 + 1) : bgA l (i + 1) n = (i : Int) + 1 ∧ bgB (l.take (i + 1)) n = true := by
  have e := nls_take_succ l i hi
  rw [if_pos h] at e
  have L : LineAt l (nls (l.take i) + 1) (i + 1) := ⟨e, hi, Or.inr (by simpa using h)⟩
  unfold bgA bgB
  have : 1 ≤ n ∧ n ≤ (nls (l.take (i + 1)) : Int) + 1 := by omega
  rw [if_pos this]; refine ⟨?_, by simp only [this]; rfl⟩
  rw [show (n - 1).toNat = nls (l.take i) + 1 by omega, lineAt_eq _ _ _ L]; rfl
theorem bgA_same (l : List UInt8) (i : Nat) (n : Int) (hi : i < l.length) (h : ¬ l.getD i 0 = 10 ∨ ¬ n = (nls (l.take i) : Int) + 1 + 1) : bgA l (i + 1) n = bgA l i n ∧ bgB (l.take (i + 1)) n = bgB (l.take i) n := by
  have e := nls_take_succ l i hi
  have : (1 ≤ n ∧ n ≤ (nls (l.take (i + 1)) : Int) + 1) ↔ (1 ≤ n ∧ n ≤ (nls (l.take i) : Int) + 1) := by
    by_cases h10 : l.getD i 0 = 10
    · rw [if_pos h10] at e
      have := h.resolve_left (fun h => h h10)
      omega
    · rw [if_neg h10] at e; omega
  unfold bgA bgB
  simp only [this, and_self]
theorem bgA_end (l : List UInt8) (i : Nat) (n : Int) (hi : l.length ≤ i) : bgA l i n = bgP l n ∧ l.take i = l := by
  have e := List.take_of_length_le hi
  exact ⟨by unfold bgA bgP; rw [e], e⟩
set_option maxRecDepth 100000 in
set_option maxHeartbeats 1000000 in
theorem says_walk (t : ByteArray) (a n e : Int) (w0 : t.size ≤ maxLen) (_w1 : (Lit.int .i64 a).wf = true) (w2 : (Lit.int .i64 n).wf = true) (_w3 : (Lit.int .i64 e).wf = true) (w : World) :
    Calls Try.prog 4 #[.string t, .int .i64 a, .int .i64 n, .int .i64 e] w fun e w' => e = .returned (.bool true) ∧ Below w.heap.size w w' := by
  have HN := hid (show n ≤ 2 ^ 63 - 1 from (bounds_i64 w2).2)
  have HZ := hid (size_list t)
  unfold maxLen at w0
  by_cases h5 : t.size > 500
  · go_enter Try.func4, Try.ntmps4
    go_wp2_with (go_at_call 7; go_must (refine (awake_any _).mono ?_; rintro e w' ⟨rfl, hb⟩))
    go_ret
    exact ⟨rfl, hb⟩
  · have hs : t.size ≤ 1000000 := by omega
    go_enter Try.func4, Try.ntmps4
    go_wp2_with (first
      | (go_at_call 7; go_must (refine (awake_any _).mono ?_; rintro e w1 ⟨rfl, hb⟩))
      | (go_at_call 8; go_must (refine (of_any _ _ _ hs).mono ?_; rintro e w' ⟨rfl, m, rfl⟩))
      | (go_at_call 11; go_must (refine (rof_any _ _ _ hs).mono ?_; rintro e w2 ⟨rfl, hb2⟩))
      | (go_at_call 12; go_must (refine (fault_any _ _ _ _ hs).mono ?_; rintro e w3 ⟨rfl, hb3⟩; simp only [faultV]))
      | (go_at_call 13; go_must (refine (rfault_any _ _ _ _ hs).mono ?_; rintro e w4 ⟨rfl, hb4⟩; simp only [faultV])))
    have HB := onto (onto (onto (below_drewN hb m) hb2) hb3) hb4
    have HI := hid (bgA_zero t.data.toList n)
    clear hb hb2 hb3 hb4
    go_loop [13, 14, 15, 16] (fun x y b z => ∃ i : Nat, i ≤ t.size ∧ x = .int .i64 ((nls (t.data.toList.take i) : Int) + 1) ∧ y = .int .i64 (bgA t.data.toList i n) ∧ b = .bool (bgB (t.data.toList.take i) n) ∧ z = .int .i64 i) (fun _ _ _ z => t.size - (intOf z).toNat)
    case atStart => exact ⟨0, Nat.zero_le _, rfl, val_int HI.out.1.symm, by rw [HI.out.2], rfl⟩
    case round =>
      obtain ⟨i, hi, rfl, rfl, rfl, rfl⟩ := hrel
      have hn := nls_le (t.data.toList.take i)
      have hn' : nls (t.data.toList.take i) ≤ i := by rw [List.length_take] at hn; omega
      clear hn
      by_cases hlt : i < t.size
      · have E := hid (getD_at t i hlt)
        have hl : i < t.data.toList.length := by rw [HZ.out]; exact hlt
        have N := hid (nls_take_succ t.data.toList i hl)
        have HL := hid hl
        clear hl
        by_cases h10 : t[i] = 10
        · have h1 : ((t[i].toNat : Int) == 10) = true := by rw [h10]; rfl
          have H10 := hid h10
          clear h10
          by_cases hq : (nls (t.data.toList.take i) : Int) + 1 + 1 = n
          · have hq' : ((nls (t.data.toList.take i) : Int) + 1 + 1 == n) = true := by rw [hq]; simp
            have HQ := hid hq
            clear hq
            have HR := hid (bgA_hit t.data.toList i n HL.out (E.out.trans H10.out) HQ.out.symm)
            go_wp2_with fail
            go_round
            case rel => exact ⟨i + 1, hlt, val_int (by rw [N.out, if_pos (E.out.trans H10.out)]; omega), val_int (by rw [HR.out.1]), by rw [HR.out.2], val_int (by omega)⟩
            case measure => simp [intOf]; omega
          · have hq' : ((nls (t.data.toList.take i) : Int) + 1 + 1 == n) = false := by rw [beq_eq_false_iff_ne]; exact hq
            have HR := hid (bgA_same t.data.toList i n HL.out (Or.inr (fun h => hq h.symm)))
            clear hq
            go_wp2_with fail
            go_round
            case rel => exact ⟨i + 1, hlt, val_int (by rw [N.out, if_pos (E.out.trans H10.out)]; omega), val_int (by rw [HR.out.1]), by rw [HR.out.2], val_int (by omega)⟩
            case measure => simp [intOf]; omega
        · have h1 : ((t[i].toNat : Int) == 10) = false := byte_no _ h10
          have H10 := hid h10
          have HR := hid (bgA_same t.data.toList i n HL.out (Or.inl (by rw [E.out]; exact h10)))
          clear h10
          go_wp2_with fail
          go_round
          case rel => exact ⟨i + 1, hlt, val_int (by rw [N.out, if_neg (by rw [E.out]; exact H10.out)]; omega), val_int (by rw [HR.out.1]), by rw [HR.out.2], val_int (by omega)⟩
          case measure => simp [intOf]; omega
      · have HE := hid (bgA_end t.data.toList i n (by rw [HZ.out]; omega))
        rw [HE.out.1, HE.out.2] at *
        have HL : ((linOf t.data.toList : Nat) : Int) = (nls t.data.toList : Int) + 1 := by unfold linOf; omega
        go_wp2_with (first
          | (go_at_call 9; go_must (refine (pbegin_any _ _ _ hs HN.out).mono ?_; rintro e w' ⟨rfl, hw⟩; obtain rfl := hw.symm))
          | (go_at_call 10; go_must (refine (lines_any _ _ hs).mono ?_; rintro e w' ⟨rfl, hw⟩; obtain rfl := hw.symm; rw [HL])))
        go_ret
        exact ⟨rfl, HB⟩
end Go.Proofs.Ytmgbnjadfhjbfaa
