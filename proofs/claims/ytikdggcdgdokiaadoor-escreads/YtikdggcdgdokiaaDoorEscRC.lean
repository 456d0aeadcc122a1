/- The document's own folded of chapter 6: walked. -/
import Derived.Test.YtikdggcdgdokiaaDoorEscRB
import Derived.Test.YtikdggcdgdokiaaDoorEscG
namespace Go.Proofs.YtikdggcdgdokiaaDoor
open Go.RowKit

/-- all of a text's first bytes are so, as far as the j-th -/
def allF (p : UInt8 → Bool) (D : List UInt8) (j : Nat) : Prop := ∀ k, k < j → ∃ b, D[k]? = some b ∧ p b = true
theorem allF_zero (p : UInt8 → Bool) (D : List UInt8) : allF p D 0 := fun k hk => absurd hk (Nat.not_lt_zero k)
theorem allF_succ {p : UInt8 → Bool} {D : List UInt8} {j : Nat} {b : UInt8} (h : allF p D j) (hb : D[j]? = some b) (hp : p b = true) : allF p D (j + 1) := fun k hk => by
  by_cases e : k = j
  · subst e; exact ⟨b, hb, hp⟩
  · exact h k (by omega)
theorem allF_end {p : UInt8 → Bool} {D : List UInt8} {j : Nat} (h : allF p D j) (hl : D.length ≤ j) : run p D = j := run_eq p D j h (fun b hb => by rw [List.getElem?_eq_none hl] at hb; cases hb)
theorem allF_stop {p : UInt8 → Bool} {D : List UInt8} {j : Nat} {b : UInt8} (h : allF p D j) (hb : D[j]? = some b) (hp : p b = false) : run p D = j := run_eq p D j h (fun c hc => by rw [hb] at hc; cases hc; exact hp)
theorem drop_at (t : ByteArray) (a k : Nat) (h : a + k < t.size) : (t.data.toList.drop a)[k]? = some t[a + k] := by
  rw [List.getElem?_drop, List.getElem?_eq_getElem (by rw [size_list]; exact h)]; rfl
theorem bk_yes {b : UInt8} (h : b.toNat = 32 ∨ b.toNat = 9) : bkB b = true := decide_eq_true h
theorem bk_no {b : UInt8} (h : ¬ (b.toNat = 32 ∨ b.toNat = 9)) : bkB b = false := decide_eq_false h
def fdM (many : Bool) (l : List UInt8) : Nat := if many = true then fdN l else 0
set_option maxRecDepth 100000 in
set_option maxHeartbeats 4000000 in
theorem rfolded_any (t : ByteArray) (a : Nat) (many : Bool) (w : World) (ht : t.size ≤ 1000000) (ha : a < t.size) :
    Calls Tryd.prog 39 #[.string t, .int .i64 (a : Int), .bool many] w fun e w' => e = .returned (.int .i64 (fdM many (t.data.toList.drop a) : Nat)) ∧ w' = w := by
  have HZ := hid (size_list t)
  have HD : Hid ((t.data.toList.drop a).drop 1 = t.data.toList.drop (a + 1)) := (List.drop_drop ..)
  have HDL := hid (show (t.data.toList.drop (a + 1)).length = t.size - (a + 1) by rw [List.length_drop, HZ.out])
  go_enter Tryd.func39, Tryd.ntmps39
  go_wp2_with fail
  go_loop [7] (fun i => ∃ j : Nat, a + 1 + j ≤ t.size ∧ i = .int .i64 ((a + 1 + j : Nat) : Int) ∧ Hid (allF bkB (t.data.toList.drop (a + 1)) j)) (fun i => t.size - (intOf i).toNat)
  case atStart => exact ⟨0, by omega, val_int (by omega), allF_zero _ _⟩
  case round =>
    obtain ⟨j, hj, rfl, HJ⟩ := hrel
    obtain ⟨p, hp⟩ : ∃ p, a + 1 + j = p := ⟨_, rfl⟩
    have HP := hid hp
    rw [hp] at hj ⊢
    have hap : a + 1 ≤ p := by omega
    by_cases hlt : p < t.size
    · have HAT := hid (drop_at t (a + 1) j (by rw [hp]; exact hlt))
      simp only [hp] at HAT
      by_cases hb : t[p].toNat = 32 ∨ t[p].toNat = 9
      · have HA := hid (allF_succ HJ.out HAT.out (bk_yes hb))
        have hb' : ((t[p].toNat : Int) == 32) = true ∨ (((t[p].toNat : Int) == 32) = false ∧ ((t[p].toNat : Int) == 9) = true) := by simp only [beq_iff_eq, beq_eq_false_iff_ne]; omega
        clear hb HAT hp
        rcases hb' with g | ⟨g, g2⟩
        all_goals
          go_wp2_with fail
          go_round
          case rel => exact ⟨j + 1, by have := HP.out; omega, val_int (by have := HP.out; omega), HA.out⟩
          case measure => simp [intOf]; omega
      · have HRUN := hid (allF_stop HJ.out HAT.out (bk_no hb))
        have HREST : Hid ((t.data.toList.drop (a + 1)).drop j = t.data.toList.drop p) := by
          show _ = _
          rw [List.drop_drop, hp]
        have HF : Hid (fdM many (t.data.toList.drop a) = if many = true then (if lnE (t.data.toList.drop p) = 0 then 0 else 1 + j + run blB (t.data.toList.drop p)) else 0) := by
          show _ = _
          unfold fdM fdN
          rw [HD.out, HRUN.out, HREST.out]
        have e1 : ((t[p].toNat : Int) == 32) = false := by rw [beq_eq_false_iff_ne]; omega
        have e2 : ((t[p].toNat : Int) == 9) = false := by rw [beq_eq_false_iff_ne]; omega
        have BP := hid (show bt (t.data.toList.drop p) 0 = t[p].toNat by rw [bt_drop]; exact bt_at t p hlt)
        have BP1 : Hid (∀ h : p + 1 < t.size, bt (t.data.toList.drop p) 1 = t[p + 1].toNat) := fun h => by rw [bt_drop]; exact bt_at t (p + 1) h
        have BN1 : Hid (t.size ≤ p + 1 → bt (t.data.toList.drop p) 1 = 256) := fun h => by rw [bt_drop]; exact bt_none (by rw [HZ.out]; exact h)
        clear hb HAT HJ HREST HRUN hp
        cases many with
        | false =>
          rw [if_neg (by decide)] at HF
          go_wp2_with fail
          go_ret
          exact ⟨ret_int (by rw [HF.out]; rfl), rfl⟩
        | true =>
          rw [if_pos rfl] at HF
          by_cases hln : lnE (t.data.toList.drop p) = 0
          · have HR := hid (show fdM true (t.data.toList.drop a) = 0 by rw [HF.out, if_pos hln])
            have n10 : ((t[p].toNat : Int) != 10) = true := by
              rw [bne_iff_ne]; intro h
              unfold lnE at hln
              rw [BP.out, if_pos (by omega)] at hln; omega
            by_cases h13 : t[p].toNat = 13
            · have e13 : ((t[p].toNat : Int) == 13) = true := by rw [beq_iff_eq]; omega
              by_cases hn : p + 1 < t.size
              · have d1 : decide ((p : Int) + 1 < (t.size : Int)) = true := decide_eq_true (by omega)
                have e10 : ((t[p + 1].toNat : Int) == 10) = false := by
                  rw [beq_eq_false_iff_ne]; intro h
                  unfold lnE at hln
                  rw [BP.out, BP1.out hn, if_neg (by omega), if_pos ⟨h13, by omega⟩] at hln; omega
                clear HF hln h13
                go_wp2_with fail
                go_ret
                exact ⟨ret_int (by rw [HR.out]; rfl), rfl⟩
              · have d1 : decide ((p : Int) + 1 < (t.size : Int)) = false := decide_eq_false (by omega)
                clear HF hln h13
                go_wp2_with fail
                go_ret
                exact ⟨ret_int (by rw [HR.out]; rfl), rfl⟩
            · have e13 : ((t[p].toNat : Int) == 13) = false := by rw [beq_eq_false_iff_ne]; omega
              clear HF hln h13
              go_wp2_with fail
              go_ret
              exact ⟨ret_int (by rw [HR.out]; rfl), rfl⟩
          · rw [if_neg hln] at HF
            have HL : ((t[p].toNat : Int) != 10) = false ∨ (((t[p].toNat : Int) != 10) = true ∧ ((t[p].toNat : Int) == 13) = true ∧ decide ((p : Int) + 1 < (t.size : Int)) = true ∧ ∃ h : p + 1 < t.size, ((t[p + 1].toNat : Int) == 10) = true) := by
              unfold lnE at hln
              rw [BP.out] at hln
              by_cases h10 : t[p].toNat = 10
              · left; rw [bne_eq_false_iff_eq]; omega
              · rw [if_neg h10] at hln
                by_cases h13 : t[p].toNat = 13 ∧ bt (t.data.toList.drop p) 1 = 10
                · right
                  have hn : p + 1 < t.size := by
                    by_cases hn : p + 1 < t.size
                    · exact hn
                    · have := BN1.out (by omega); omega
                  have := BP1.out hn
                  exact ⟨by rw [bne_iff_ne]; omega, by rw [beq_iff_eq]; omega, decide_eq_true (by omega), hn, by rw [beq_iff_eq]; omega⟩
                · rw [if_neg h13] at hln; exact absurd rfl hln
            have HQL := hid (show (t.data.toList.drop p).length = t.size - p by rw [List.length_drop, HZ.out])
            have HJP := hid (show p = a + 1 + j from HP.out.symm)
            clear hln HP BP BP1 BN1
            rcases HL with g | ⟨g, g2, g3, g4, g5⟩
            all_goals
              go_wp2_with fail
              go_loop [7] (fun i => ∃ k : Nat, p + k ≤ t.size ∧ i = .int .i64 ((p + k : Nat) : Int) ∧ Hid (allF blB (t.data.toList.drop p) k)) (fun i => t.size - (intOf i).toNat)
              case atStart => exact ⟨0, by omega, val_int (by omega), allF_zero _ _⟩
              case round =>
                obtain ⟨k, hk, rfl, HK⟩ := hrel
                obtain ⟨q, hq⟩ : ∃ q, p + k = q := ⟨_, rfl⟩
                have HQ := hid hq
                rw [hq] at hk ⊢
                have hpq : p ≤ q := by omega
                by_cases hltq : q < t.size
                · have HAT := hid (drop_at t p k (by rw [hq]; exact hltq))
                  simp only [hq] at HAT
                  by_cases hb : t[q].toNat = 32 ∨ t[q].toNat = 9 ∨ t[q].toNat = 10 ∨ t[q].toNat = 13
                  · have HA := hid (allF_succ HK.out HAT.out (show blB t[q] = true from decide_eq_true hb))
                    have hb' : ((t[q].toNat : Int) == 32) = true ∨ (((t[q].toNat : Int) == 32) = false ∧ ((t[q].toNat : Int) == 9) = true) ∨ (((t[q].toNat : Int) == 32) = false ∧ ((t[q].toNat : Int) == 9) = false ∧ ((t[q].toNat : Int) == 10) = true) ∨ (((t[q].toNat : Int) == 32) = false ∧ ((t[q].toNat : Int) == 9) = false ∧ ((t[q].toNat : Int) == 10) = false ∧ ((t[q].toNat : Int) == 13) = true) := by simp only [beq_iff_eq, beq_eq_false_iff_ne]; omega
                    clear hb HAT hq
                    rcases hb' with f1 | ⟨f1, f2⟩ | ⟨f1, f2, f3⟩ | ⟨f1, f2, f3, f4⟩
                    all_goals
                      go_wp2_with fail
                      go_round
                      case rel => exact ⟨k + 1, by have := HQ.out; omega, val_int (by have := HQ.out; omega), HA.out⟩
                      case measure => simp [intOf]; omega
                  · have HRUN := hid (allF_stop HK.out HAT.out (show blB t[q] = false from decide_eq_false hb))
                    have f1 : ((t[q].toNat : Int) == 32) = false := by rw [beq_eq_false_iff_ne]; omega
                    have f2 : ((t[q].toNat : Int) == 9) = false := by rw [beq_eq_false_iff_ne]; omega
                    have f3 : ((t[q].toNat : Int) == 10) = false := by rw [beq_eq_false_iff_ne]; omega
                    have f4 : ((t[q].toNat : Int) == 13) = false := by rw [beq_eq_false_iff_ne]; omega
                    clear hb HAT hq
                    go_wp2_with fail
                    go_ret
                    exact ⟨ret_int (by rw [HF.out, HRUN.out]; have := HQ.out; have := HJP.out; omega), rfl⟩
                · have HRUN := hid (allF_end HK.out (by rw [HQL.out]; omega))
                  clear hq
                  go_wp2_with fail
                  go_ret
                  exact ⟨ret_int (by rw [HF.out, HRUN.out]; have := HQ.out; have := HJP.out; omega), rfl⟩
    · have HRUN := hid (allF_end HJ.out (by rw [HDL.out]; omega))
      have HR : Hid (fdM many (t.data.toList.drop a) = 0) := by
        show _ = _
        unfold fdM fdN
        rw [HD.out, HRUN.out]
        have : lnE ((t.data.toList.drop (a + 1)).drop j) = 0 := by
          unfold lnE
          rw [bt_none (by rw [List.length_drop, HDL.out]; omega), if_neg (by omega), if_neg (by omega)]
        rw [this]; simp
      clear hp HJ HRUN
      cases many
      all_goals
        go_wp2_with fail
        go_ret
        exact ⟨ret_int (by rw [HR.out]; rfl), rfl⟩
end Go.Proofs.YtikdggcdgdokiaaDoor
