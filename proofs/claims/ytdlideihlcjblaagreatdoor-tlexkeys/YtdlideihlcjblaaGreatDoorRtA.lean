/- The document's end and Skip of chapter 10: walked. -/
import Derived.Test.YtdlideihlcjblaaGreatDoorTlB
namespace Go.Proofs.YtdlideihlcjblaaGreatDoor
open Go.RowKit

set_option maxRecDepth 100000 in
set_option maxHeartbeats 1000000 in
theorem rend_any (t : ByteArray) (a : Nat) (w : World) (ht : t.size ≤ 1000000) (ha : a ≤ 1000010) :
    Calls Tryz.prog 49 #[.string t, .int .i64 (a : Int)] w fun e w' => e = .returned (.int .i64 (lnE (t.data.toList.drop a) : Nat)) ∧ w' = w := by
  have HE : Hid (lnE (t.data.toList.drop a) = if bt t.data.toList a = 10 then 1 else if bt t.data.toList a = 13 ∧ bt t.data.toList (a + 1) = 10 then 2 else 0) := by
    show _ = _
    unfold lnE; rw [bt_drop, bt_drop]; rfl
  by_cases h0 : a < t.size
  · have B0 := hid (bt_at t a h0)
    rw [B0.out] at HE
    have hb := t[a].toNat_lt
    by_cases h10 : t[a].toNat = 10
    · rw [if_pos h10] at HE
      have g : ((t[a].toNat : Int) == 10) = true := by rw [beq_iff_eq]; omega
      clear h10
      have hlt2 : a < t.size := h0
      go_enter Tryz.func49, Tryz.ntmps49
      go_wp2_with fail
      go_ret
      exact ⟨ret_int (by rw [HE.out]; rfl), rfl⟩
    · rw [if_neg h10] at HE
      have g : ((t[a].toNat : Int) == 10) = false := by rw [beq_eq_false_iff_ne]; omega
      clear h10
      by_cases h1 : a + 1 < t.size
      · have B1 := hid (bt_at t (a + 1) h1)
        rw [B1.out] at HE
        by_cases h13 : t[a].toNat = 13
        · have g2 : ((t[a].toNat : Int) == 13) = true := by rw [beq_iff_eq]; omega
          by_cases hn : t[a + 1].toNat = 10
          · rw [if_pos ⟨h13, hn⟩] at HE
            have g3 : ((t[a + 1].toNat : Int) == 10) = true := by rw [beq_iff_eq]; omega
            clear h13 hn
            have hlt2 : a < t.size := h0
            have hlt3 : a + 1 < t.size := h1
            go_enter Tryz.func49, Tryz.ntmps49
            go_wp2_with fail
            go_ret
            exact ⟨ret_int (by rw [HE.out]; rfl), rfl⟩
          · rw [if_neg (fun k => hn k.2)] at HE
            have g3 : ((t[a + 1].toNat : Int) == 10) = false := by rw [beq_eq_false_iff_ne]; omega
            clear h13 hn
            have hlt2 : a < t.size := h0
            have hlt3 : a + 1 < t.size := h1
            go_enter Tryz.func49, Tryz.ntmps49
            go_wp2_with fail
            go_ret
            exact ⟨ret_int (by rw [HE.out]; rfl), rfl⟩
        · rw [if_neg (fun k => h13 k.1)] at HE
          have g2 : ((t[a].toNat : Int) == 13) = false := by rw [beq_eq_false_iff_ne]; omega
          clear h13
          have hlt2 : a < t.size := h0
          have hlt3 : a + 1 < t.size := h1
          go_enter Tryz.func49, Tryz.ntmps49
          go_wp2_with fail
          go_ret
          exact ⟨ret_int (by rw [HE.out]; rfl), rfl⟩
      · have e : bt t.data.toList (a + 1) = 256 := bt_none (by rw [size_list]; omega)
        rw [e, if_neg (fun k => absurd k.2 (by decide))] at HE
        go_enter Tryz.func49, Tryz.ntmps49
        go_wp2_with fail
        go_ret
        exact ⟨ret_int (by rw [HE.out]; rfl), rfl⟩
  · have e : bt t.data.toList a = 256 := bt_none (by rw [size_list]; omega)
    have e1 : bt t.data.toList (a + 1) = 256 := bt_none (by rw [size_list]; omega)
    rw [e, e1, if_neg (by decide), if_neg (by decide)] at HE
    go_enter Tryz.func49, Tryz.ntmps49
    go_wp2_with fail
    go_ret
    exact ⟨ret_int (by rw [HE.out]; rfl), rfl⟩
theorem rdrop_at (t : ByteArray) (i : Nat) (h : i < t.size) : t.data.toList.drop i = t[i] :: t.data.toList.drop (i + 1) := by
  rw [List.drop_eq_getElem_cons (by rw [size_list]; exact h)]; rfl
theorem rbk_no {b : UInt8} (h1 : b.toNat ≠ 32) (h2 : b.toNat ≠ 9) : bkB b = false := by unfold bkB; rw [decide_eq_false]; omega
theorem rbk_32 {b : UInt8} (h : b.toNat = 32) : bkB b = true := by unfold bkB; rw [decide_eq_true]; omega
theorem rbk_9 {b : UInt8} (h : b.toNat = 9) : bkB b = true := by unfold bkB; rw [decide_eq_true]; omega
theorem sk_blank (lines : Bool) {b : UInt8} {l : List UInt8} (h : bkB b = true) : skT lines (b :: l) = 1 + skT lines l := by
  unfold skT; cases lines
  · simp only [Bool.false_eq_true, if_false]; rw [run_cpos h]; omega
  · simp only [if_true]; exact skM_blank h
theorem sk_none {b : UInt8} {l : List UInt8} (h : bkB b = false) : skT false (b :: l) = 0 := by
  unfold skT; simp only [Bool.false_eq_true, if_false]; exact run_cneg h
theorem sk_nil (lines : Bool) : skT lines [] = 0 := by cases lines <;> rfl
theorem lnE_le2 (l : List UInt8) : lnE l ≤ 2 := by unfold lnE; (repeat' split) <;> omega
theorem lnE_in (l : List UInt8) : lnE l ≤ l.length := by
  unfold lnE
  split
  · next h => have := bt_lt (l := l) (k := 0) (by omega); omega
  · split
    · next h => have := bt_lt (l := l) (k := 1) (by omega); omega
    · omega
set_option maxRecDepth 100000 in
set_option maxHeartbeats 4000000 in
theorem rskip_any (t : ByteArray) (A : Int) (lines : Bool) (w : World) (ht : t.size ≤ 1000000) :
    Calls Tryz.prog 18 #[.string t, .int .i64 A, .bool lines] w fun e w' => e = .returned (.int .i64 (skA lines t.data.toList A : Nat)) ∧ w' = w := by
  have HZ := hid (size_list t)
  have HE := hid (fun (k : Nat) (h : k ≤ 1000010) X => rend_any t k X ht h)
  have hin := tplc_in t.data.toList A
  obtain ⟨p, hp⟩ : ∃ p : Nat, plc t.data.toList A = (p : Int) := ⟨(plc t.data.toList A).toNat, by omega⟩
  have hps : p ≤ t.size := by rw [hp, HZ.out] at hin; omega
  have HAA : (A < 0 ∧ p = 0) ∨ ((t.size : Int) < A ∧ p = t.size) ∨ A = p := by
    unfold plc at hp; rw [HZ.out] at hp
    by_cases k1 : A < 0
    · rw [if_pos k1] at hp; left; omega
    · rw [if_neg k1] at hp
      by_cases k2 : (t.size : Int) < A
      · rw [if_pos k2] at hp; right; left; omega
      · rw [if_neg k2] at hp; right; right; omega
  have HSK : Hid (skA lines t.data.toList A = p + skT lines (t.data.toList.drop p)) := by
    show _ = _
    unfold skA; rw [hp]; rfl
  generalize skA lines t.data.toList A = R at *
  have HP0 : Hid (p ≤ t.size) := hps
  clear hin hp
  rcases HAA with ⟨h1, h2⟩ | ⟨h1, h2⟩ | h1
  · have h3 : ¬ (t.size : Int) < 0 := by omega
    have HP2 := hid (show ((0 : Nat) : Int) = 0 ∧ p = 0 from ⟨rfl, h2⟩)
    clear h2 hps
    go_enter Tryz.func18, Tryz.ntmps18
    go_wp2_with fail
    go_loop [1] (fun x => ∃ k : Nat, k ≤ t.size ∧ x = .int .i64 (k : Int) ∧ Hid (R = k + skT lines (t.data.toList.drop k))) (fun x => t.size - (intOf x).toNat)
    case atStart => exact ⟨0, Nat.zero_le _, rfl, (show R = _ by rw [HSK.out, HP2.out.2])⟩
    case round =>
      obtain ⟨k, hk, rfl, HK⟩ := hrel
      by_cases hlt : k < t.size
      · have hbk := t[k].toNat_lt
        have HE2 := hid (HE.out k (by omega))
        have HDA := hid (rdrop_at t k hlt)
        have hle := lnE_in (t.data.toList.drop k)
        rw [List.length_drop, HZ.out] at hle
        rw [HDA.out] at HK
        by_cases h32 : t[k].toNat = 32
        · have g : ((t[k].toNat : Int) == 32) = true := by rw [beq_iff_eq]; omega
          have HK2 := hid (show R = k + 1 + skT lines (t.data.toList.drop (k + 1)) by rw [HK.out, sk_blank lines (rbk_32 h32)]; omega)
          generalize lnE (t.data.toList.drop k) = n at *
          clear h32 HK HDA
          have hlt2 : k < t.size := hlt
          go_wp2_with (go_at_call 49; go_must (refine (HE2.out _).mono ?_; rintro e w1 ⟨rfl, hw⟩; obtain rfl := hw.symm))
          go_round
          case rel => exact ⟨k + 1, hlt, val_int (by omega), HK2.out⟩
          case measure => simp [intOf]; omega
        · have g : ((t[k].toNat : Int) == 32) = false := by rw [beq_eq_false_iff_ne]; omega
          by_cases h9 : t[k].toNat = 9
          · have g2 : ((t[k].toNat : Int) == 9) = true := by rw [beq_iff_eq]; omega
            have HK2 := hid (show R = k + 1 + skT lines (t.data.toList.drop (k + 1)) by rw [HK.out, sk_blank lines (rbk_9 h9)]; omega)
            generalize lnE (t.data.toList.drop k) = n at *
            clear h32 h9 HK HDA
            have hlt2 : k < t.size := hlt
            go_wp2_with (go_at_call 49; go_must (refine (HE2.out _).mono ?_; rintro e w1 ⟨rfl, hw⟩; obtain rfl := hw.symm))
            go_round
            case rel => exact ⟨k + 1, hlt, val_int (by omega), HK2.out⟩
            case measure => simp [intOf]; omega
          · have g2 : ((t[k].toNat : Int) == 9) = false := by rw [beq_eq_false_iff_ne]; omega
            have hbk0 : bkB t[k] = false := rbk_no h32 h9
            clear h32 h9
            cases lines with
            | false =>
              have HK2 := hid (show R = k by rw [HK.out, sk_none hbk0]; rfl)
              generalize lnE (t.data.toList.drop k) = n at *
              clear HK HDA hbk0
              have hlt2 : k < t.size := hlt
              go_wp2_with (go_at_call 49; go_must (refine (HE2.out _).mono ?_; rintro e w1 ⟨rfl, hw⟩; obtain rfl := hw.symm))
              go_ret
              exact ⟨ret_int (by rw [HK2.out]), rfl⟩
            | true =>
              have HK1 := hid (show R = k + skM false (t[k] :: t.data.toList.drop (k + 1)) from HK.out)
              by_cases hn : 0 < lnE (t.data.toList.drop k)
              · have HK2 := hid (show R = k + lnE (t.data.toList.drop k) + skT true (t.data.toList.drop (k + lnE (t.data.toList.drop k))) by
                  rw [HK1.out, ← HDA.out, skM_end hn, List.drop_drop]; show _ = _ + skM false _; omega)
                generalize lnE (t.data.toList.drop k) = n at *
                have gn : (0 : Int) < (n : Int) := by omega
                clear HK HK1 HDA hbk0
                have hlt2 : k < t.size := hlt
                go_wp2_with (go_at_call 49; go_must (refine (HE2.out _).mono ?_; rintro e w1 ⟨rfl, hw⟩; obtain rfl := hw.symm))
                go_round
                case rel => exact ⟨k + n, by omega, val_int (by omega), HK2.out⟩
                case measure => simp [intOf]; omega
              · have hn0 : lnE (t.data.toList.drop k) = 0 := by omega
                have gn : ¬ (0 : Int) < ((lnE (t.data.toList.drop k) : Nat) : Int) := by omega
                by_cases h35 : t[k].toNat = 35
                · have g3 : ((t[k].toNat : Int) == 35) = true := by rw [beq_iff_eq]; omega
                  have HK2 := hid (show R = k + skM true (t.data.toList.drop k) by rw [HK1.out, skM_hash h35, HDA.out])
                  have hn2 : lnE (t.data.toList.drop k) = 0 := hn0
                  rw [hn2] at HE2 gn
                  have HN0 := hid hn0
                  clear HK HK1 HDA hbk0 h35 hn hn0 hn2 hle
                  have hlt2 : k < t.size := hlt
                  go_wp2_with (go_at_call 49; go_must (refine (HE2.out _).mono ?_; rintro e w1 ⟨rfl, hw⟩; obtain rfl := hw.symm))
                  go_loop [1] (fun x => ∃ j : Nat, k ≤ j ∧ j ≤ t.size ∧ x = .int .i64 (j : Int) ∧ Hid (R = j + skM true (t.data.toList.drop j)) ∧ Hid (j = k → lnE (t.data.toList.drop k) = 0)) (fun x => t.size - (intOf x).toNat)
                  case atStart => exact ⟨k, Nat.le_refl _, by omega, rfl, HK2.out, fun _ => HN0.out⟩
                  case round =>
                    obtain ⟨j, hkj, hj, rfl, HJ, HJ0⟩ := hrel
                    by_cases hjl : j < t.size
                    · have HE3 := hid (HE.out j (by omega))
                      have HDJ := hid (rdrop_at t j hjl)
                      by_cases hl0 : lnE (t.data.toList.drop j) = 0
                      · have HJ2 := hid (show R = j + 1 + skM true (t.data.toList.drop (j + 1)) by
                          rw [HJ.out, HDJ.out, skM_rstep (by rw [← HDJ.out]; exact hl0)]; omega)
                        rw [hl0] at HE3
                        clear hl0 HDJ HJ
                        go_wp2_with (go_at_call 49; go_must (refine (HE3.out _).mono ?_; rintro e w1 ⟨rfl, hw⟩; obtain rfl := hw.symm))
                        go_round
                        case rel => exact ⟨j + 1, by omega, hjl, val_int (by omega), HJ2.out, fun h => by omega⟩
                        case measure => simp [intOf]; omega
                      · have HJ2 := hid (show R = j + skT true (t.data.toList.drop j) by rw [HJ.out, skM_rend (by omega)]; rfl)
                        have hjk : k < j := by
                          by_cases e : j = k
                          · subst e; exact absurd (HJ0.out rfl) hl0
                          · omega
                        have gl : (((lnE (t.data.toList.drop j) : Nat) : Int) == 0) = false := by rw [beq_eq_false_iff_ne]; omega
                        generalize lnE (t.data.toList.drop j) = nn at *
                        clear hl0 HDJ HJ
                        go_wp2_with (go_at_call 49; go_must (refine (HE3.out _).mono ?_; rintro e w1 ⟨rfl, hw⟩; obtain rfl := hw.symm))
                        go_round
                        case rel => exact ⟨j, hj, rfl, HJ2.out⟩
                        case measure => simp [intOf]; omega
                    · have HJ2 := hid (show R = j + skT true (t.data.toList.drop j) by rw [HJ.out, List.drop_eq_nil_of_le (by rw [HZ.out]; omega)]; rfl)
                      have hjk : k < j := by omega
                      clear HJ
                      go_wp2_with fail
                      go_round
                      case rel => exact ⟨j, hj, rfl, HJ2.out⟩
                      case measure => simp [intOf]; omega
                · have g3 : ((t[k].toNat : Int) == 35) = false := by rw [beq_eq_false_iff_ne]; omega
                  have HK2 := hid (show R = k by rw [HK1.out, skM_stop hbk0 (by rw [← HDA.out]; exact hn0) h35]; rfl)
                  rw [hn0] at HE2
                  clear HK HK1 HDA hbk0 h35 hn hn0 gn hle
                  have hlt2 : k < t.size := hlt
                  go_wp2_with (go_at_call 49; go_must (refine (HE2.out _).mono ?_; rintro e w1 ⟨rfl, hw⟩; obtain rfl := hw.symm))
                  go_ret
                  exact ⟨ret_int (by rw [HK2.out]), rfl⟩
      · have HK2 := hid (show R = k by rw [HK.out, List.drop_eq_nil_of_le (by rw [HZ.out]; omega), sk_nil]; rfl)
        go_wp2_with fail
        go_ret
        exact ⟨ret_int (by rw [HK2.out]), rfl⟩
  · have h3 : ¬ A < 0 := by omega
    have HP2 := hid h2
    clear h2 hps
    go_enter Tryz.func18, Tryz.ntmps18
    go_wp2_with fail
    go_loop [1] (fun x => ∃ k : Nat, k ≤ t.size ∧ x = .int .i64 (k : Int) ∧ Hid (R = k + skT lines (t.data.toList.drop k))) (fun x => t.size - (intOf x).toNat)
    case atStart => exact ⟨t.size, Nat.le_refl _, rfl, (show R = _ by rw [HSK.out, HP2.out])⟩
    case round =>
      obtain ⟨k, hk, rfl, HK⟩ := hrel
      by_cases hlt : k < t.size
      · have hbk := t[k].toNat_lt
        have HE2 := hid (HE.out k (by omega))
        have HDA := hid (rdrop_at t k hlt)
        have hle := lnE_in (t.data.toList.drop k)
        rw [List.length_drop, HZ.out] at hle
        rw [HDA.out] at HK
        by_cases h32 : t[k].toNat = 32
        · have g : ((t[k].toNat : Int) == 32) = true := by rw [beq_iff_eq]; omega
          have HK2 := hid (show R = k + 1 + skT lines (t.data.toList.drop (k + 1)) by rw [HK.out, sk_blank lines (rbk_32 h32)]; omega)
          generalize lnE (t.data.toList.drop k) = n at *
          clear h32 HK HDA
          have hlt2 : k < t.size := hlt
          go_wp2_with (go_at_call 49; go_must (refine (HE2.out _).mono ?_; rintro e w1 ⟨rfl, hw⟩; obtain rfl := hw.symm))
          go_round
          case rel => exact ⟨k + 1, hlt, val_int (by omega), HK2.out⟩
          case measure => simp [intOf]; omega
        · have g : ((t[k].toNat : Int) == 32) = false := by rw [beq_eq_false_iff_ne]; omega
          by_cases h9 : t[k].toNat = 9
          · have g2 : ((t[k].toNat : Int) == 9) = true := by rw [beq_iff_eq]; omega
            have HK2 := hid (show R = k + 1 + skT lines (t.data.toList.drop (k + 1)) by rw [HK.out, sk_blank lines (rbk_9 h9)]; omega)
            generalize lnE (t.data.toList.drop k) = n at *
            clear h32 h9 HK HDA
            have hlt2 : k < t.size := hlt
            go_wp2_with (go_at_call 49; go_must (refine (HE2.out _).mono ?_; rintro e w1 ⟨rfl, hw⟩; obtain rfl := hw.symm))
            go_round
            case rel => exact ⟨k + 1, hlt, val_int (by omega), HK2.out⟩
            case measure => simp [intOf]; omega
          · have g2 : ((t[k].toNat : Int) == 9) = false := by rw [beq_eq_false_iff_ne]; omega
            have hbk0 : bkB t[k] = false := rbk_no h32 h9
            clear h32 h9
            cases lines with
            | false =>
              have HK2 := hid (show R = k by rw [HK.out, sk_none hbk0]; rfl)
              generalize lnE (t.data.toList.drop k) = n at *
              clear HK HDA hbk0
              have hlt2 : k < t.size := hlt
              go_wp2_with (go_at_call 49; go_must (refine (HE2.out _).mono ?_; rintro e w1 ⟨rfl, hw⟩; obtain rfl := hw.symm))
              go_ret
              exact ⟨ret_int (by rw [HK2.out]), rfl⟩
            | true =>
              have HK1 := hid (show R = k + skM false (t[k] :: t.data.toList.drop (k + 1)) from HK.out)
              by_cases hn : 0 < lnE (t.data.toList.drop k)
              · have HK2 := hid (show R = k + lnE (t.data.toList.drop k) + skT true (t.data.toList.drop (k + lnE (t.data.toList.drop k))) by
                  rw [HK1.out, ← HDA.out, skM_end hn, List.drop_drop]; show _ = _ + skM false _; omega)
                generalize lnE (t.data.toList.drop k) = n at *
                have gn : (0 : Int) < (n : Int) := by omega
                clear HK HK1 HDA hbk0
                have hlt2 : k < t.size := hlt
                go_wp2_with (go_at_call 49; go_must (refine (HE2.out _).mono ?_; rintro e w1 ⟨rfl, hw⟩; obtain rfl := hw.symm))
                go_round
                case rel => exact ⟨k + n, by omega, val_int (by omega), HK2.out⟩
                case measure => simp [intOf]; omega
              · have hn0 : lnE (t.data.toList.drop k) = 0 := by omega
                have gn : ¬ (0 : Int) < ((lnE (t.data.toList.drop k) : Nat) : Int) := by omega
                by_cases h35 : t[k].toNat = 35
                · have g3 : ((t[k].toNat : Int) == 35) = true := by rw [beq_iff_eq]; omega
                  have HK2 := hid (show R = k + skM true (t.data.toList.drop k) by rw [HK1.out, skM_hash h35, HDA.out])
                  have hn2 : lnE (t.data.toList.drop k) = 0 := hn0
                  rw [hn2] at HE2 gn
                  have HN0 := hid hn0
                  clear HK HK1 HDA hbk0 h35 hn hn0 hn2 hle
                  have hlt2 : k < t.size := hlt
                  go_wp2_with (go_at_call 49; go_must (refine (HE2.out _).mono ?_; rintro e w1 ⟨rfl, hw⟩; obtain rfl := hw.symm))
                  go_loop [1] (fun x => ∃ j : Nat, k ≤ j ∧ j ≤ t.size ∧ x = .int .i64 (j : Int) ∧ Hid (R = j + skM true (t.data.toList.drop j)) ∧ Hid (j = k → lnE (t.data.toList.drop k) = 0)) (fun x => t.size - (intOf x).toNat)
                  case atStart => exact ⟨k, Nat.le_refl _, by omega, rfl, HK2.out, fun _ => HN0.out⟩
                  case round =>
                    obtain ⟨j, hkj, hj, rfl, HJ, HJ0⟩ := hrel
                    by_cases hjl : j < t.size
                    · have HE3 := hid (HE.out j (by omega))
                      have HDJ := hid (rdrop_at t j hjl)
                      by_cases hl0 : lnE (t.data.toList.drop j) = 0
                      · have HJ2 := hid (show R = j + 1 + skM true (t.data.toList.drop (j + 1)) by
                          rw [HJ.out, HDJ.out, skM_rstep (by rw [← HDJ.out]; exact hl0)]; omega)
                        rw [hl0] at HE3
                        clear hl0 HDJ HJ
                        go_wp2_with (go_at_call 49; go_must (refine (HE3.out _).mono ?_; rintro e w1 ⟨rfl, hw⟩; obtain rfl := hw.symm))
                        go_round
                        case rel => exact ⟨j + 1, by omega, hjl, val_int (by omega), HJ2.out, fun h => by omega⟩
                        case measure => simp [intOf]; omega
                      · have HJ2 := hid (show R = j + skT true (t.data.toList.drop j) by rw [HJ.out, skM_rend (by omega)]; rfl)
                        have hjk : k < j := by
                          by_cases e : j = k
                          · subst e; exact absurd (HJ0.out rfl) hl0
                          · omega
                        have gl : (((lnE (t.data.toList.drop j) : Nat) : Int) == 0) = false := by rw [beq_eq_false_iff_ne]; omega
                        generalize lnE (t.data.toList.drop j) = nn at *
                        clear hl0 HDJ HJ
                        go_wp2_with (go_at_call 49; go_must (refine (HE3.out _).mono ?_; rintro e w1 ⟨rfl, hw⟩; obtain rfl := hw.symm))
                        go_round
                        case rel => exact ⟨j, hj, rfl, HJ2.out⟩
                        case measure => simp [intOf]; omega
                    · have HJ2 := hid (show R = j + skT true (t.data.toList.drop j) by rw [HJ.out, List.drop_eq_nil_of_le (by rw [HZ.out]; omega)]; rfl)
                      have hjk : k < j := by omega
                      clear HJ
                      go_wp2_with fail
                      go_round
                      case rel => exact ⟨j, hj, rfl, HJ2.out⟩
                      case measure => simp [intOf]; omega
                · have g3 : ((t[k].toNat : Int) == 35) = false := by rw [beq_eq_false_iff_ne]; omega
                  have HK2 := hid (show R = k by rw [HK1.out, skM_stop hbk0 (by rw [← HDA.out]; exact hn0) h35]; rfl)
                  rw [hn0] at HE2
                  clear HK HK1 HDA hbk0 h35 hn hn0 gn hle
                  have hlt2 : k < t.size := hlt
                  go_wp2_with (go_at_call 49; go_must (refine (HE2.out _).mono ?_; rintro e w1 ⟨rfl, hw⟩; obtain rfl := hw.symm))
                  go_ret
                  exact ⟨ret_int (by rw [HK2.out]), rfl⟩
      · have HK2 := hid (show R = k by rw [HK.out, List.drop_eq_nil_of_le (by rw [HZ.out]; omega), sk_nil]; rfl)
        go_wp2_with fail
        go_ret
        exact ⟨ret_int (by rw [HK2.out]), rfl⟩
  · have h3 : ¬ A < 0 := by omega
    have h4 : ¬ (t.size : Int) < A := by omega
    subst h1
    clear hps
    go_enter Tryz.func18, Tryz.ntmps18
    go_wp2_with fail
    go_loop [1] (fun x => ∃ k : Nat, k ≤ t.size ∧ x = .int .i64 (k : Int) ∧ Hid (R = k + skT lines (t.data.toList.drop k))) (fun x => t.size - (intOf x).toNat)
    case atStart => exact ⟨p, HP0.out, rfl, HSK.out⟩
    case round =>
      obtain ⟨k, hk, rfl, HK⟩ := hrel
      by_cases hlt : k < t.size
      · have hbk := t[k].toNat_lt
        have HE2 := hid (HE.out k (by omega))
        have HDA := hid (rdrop_at t k hlt)
        have hle := lnE_in (t.data.toList.drop k)
        rw [List.length_drop, HZ.out] at hle
        rw [HDA.out] at HK
        by_cases h32 : t[k].toNat = 32
        · have g : ((t[k].toNat : Int) == 32) = true := by rw [beq_iff_eq]; omega
          have HK2 := hid (show R = k + 1 + skT lines (t.data.toList.drop (k + 1)) by rw [HK.out, sk_blank lines (rbk_32 h32)]; omega)
          generalize lnE (t.data.toList.drop k) = n at *
          clear h32 HK HDA
          have hlt2 : k < t.size := hlt
          go_wp2_with (go_at_call 49; go_must (refine (HE2.out _).mono ?_; rintro e w1 ⟨rfl, hw⟩; obtain rfl := hw.symm))
          go_round
          case rel => exact ⟨k + 1, hlt, val_int (by omega), HK2.out⟩
          case measure => simp [intOf]; omega
        · have g : ((t[k].toNat : Int) == 32) = false := by rw [beq_eq_false_iff_ne]; omega
          by_cases h9 : t[k].toNat = 9
          · have g2 : ((t[k].toNat : Int) == 9) = true := by rw [beq_iff_eq]; omega
            have HK2 := hid (show R = k + 1 + skT lines (t.data.toList.drop (k + 1)) by rw [HK.out, sk_blank lines (rbk_9 h9)]; omega)
            generalize lnE (t.data.toList.drop k) = n at *
            clear h32 h9 HK HDA
            have hlt2 : k < t.size := hlt
            go_wp2_with (go_at_call 49; go_must (refine (HE2.out _).mono ?_; rintro e w1 ⟨rfl, hw⟩; obtain rfl := hw.symm))
            go_round
            case rel => exact ⟨k + 1, hlt, val_int (by omega), HK2.out⟩
            case measure => simp [intOf]; omega
          · have g2 : ((t[k].toNat : Int) == 9) = false := by rw [beq_eq_false_iff_ne]; omega
            have hbk0 : bkB t[k] = false := rbk_no h32 h9
            clear h32 h9
            cases lines with
            | false =>
              have HK2 := hid (show R = k by rw [HK.out, sk_none hbk0]; rfl)
              generalize lnE (t.data.toList.drop k) = n at *
              clear HK HDA hbk0
              have hlt2 : k < t.size := hlt
              go_wp2_with (go_at_call 49; go_must (refine (HE2.out _).mono ?_; rintro e w1 ⟨rfl, hw⟩; obtain rfl := hw.symm))
              go_ret
              exact ⟨ret_int (by rw [HK2.out]), rfl⟩
            | true =>
              have HK1 := hid (show R = k + skM false (t[k] :: t.data.toList.drop (k + 1)) from HK.out)
              by_cases hn : 0 < lnE (t.data.toList.drop k)
              · have HK2 := hid (show R = k + lnE (t.data.toList.drop k) + skT true (t.data.toList.drop (k + lnE (t.data.toList.drop k))) by
                  rw [HK1.out, ← HDA.out, skM_end hn, List.drop_drop]; show _ = _ + skM false _; omega)
                generalize lnE (t.data.toList.drop k) = n at *
                have gn : (0 : Int) < (n : Int) := by omega
                clear HK HK1 HDA hbk0
                have hlt2 : k < t.size := hlt
                go_wp2_with (go_at_call 49; go_must (refine (HE2.out _).mono ?_; rintro e w1 ⟨rfl, hw⟩; obtain rfl := hw.symm))
                go_round
                case rel => exact ⟨k + n, by omega, val_int (by omega), HK2.out⟩
                case measure => simp [intOf]; omega
              · have hn0 : lnE (t.data.toList.drop k) = 0 := by omega
                have gn : ¬ (0 : Int) < ((lnE (t.data.toList.drop k) : Nat) : Int) := by omega
                by_cases h35 : t[k].toNat = 35
                · have g3 : ((t[k].toNat : Int) == 35) = true := by rw [beq_iff_eq]; omega
                  have HK2 := hid (show R = k + skM true (t.data.toList.drop k) by rw [HK1.out, skM_hash h35, HDA.out])
                  have hn2 : lnE (t.data.toList.drop k) = 0 := hn0
                  rw [hn2] at HE2 gn
                  have HN0 := hid hn0
                  clear HK HK1 HDA hbk0 h35 hn hn0 hn2 hle
                  have hlt2 : k < t.size := hlt
                  go_wp2_with (go_at_call 49; go_must (refine (HE2.out _).mono ?_; rintro e w1 ⟨rfl, hw⟩; obtain rfl := hw.symm))
                  go_loop [1] (fun x => ∃ j : Nat, k ≤ j ∧ j ≤ t.size ∧ x = .int .i64 (j : Int) ∧ Hid (R = j + skM true (t.data.toList.drop j)) ∧ Hid (j = k → lnE (t.data.toList.drop k) = 0)) (fun x => t.size - (intOf x).toNat)
                  case atStart => exact ⟨k, Nat.le_refl _, by omega, rfl, HK2.out, fun _ => HN0.out⟩
                  case round =>
                    obtain ⟨j, hkj, hj, rfl, HJ, HJ0⟩ := hrel
                    by_cases hjl : j < t.size
                    · have HE3 := hid (HE.out j (by omega))
                      have HDJ := hid (rdrop_at t j hjl)
                      by_cases hl0 : lnE (t.data.toList.drop j) = 0
                      · have HJ2 := hid (show R = j + 1 + skM true (t.data.toList.drop (j + 1)) by
                          rw [HJ.out, HDJ.out, skM_rstep (by rw [← HDJ.out]; exact hl0)]; omega)
                        rw [hl0] at HE3
                        clear hl0 HDJ HJ
                        go_wp2_with (go_at_call 49; go_must (refine (HE3.out _).mono ?_; rintro e w1 ⟨rfl, hw⟩; obtain rfl := hw.symm))
                        go_round
                        case rel => exact ⟨j + 1, by omega, hjl, val_int (by omega), HJ2.out, fun h => by omega⟩
                        case measure => simp [intOf]; omega
                      · have HJ2 := hid (show R = j + skT true (t.data.toList.drop j) by rw [HJ.out, skM_rend (by omega)]; rfl)
                        have hjk : k < j := by
                          by_cases e : j = k
                          · subst e; exact absurd (HJ0.out rfl) hl0
                          · omega
                        have gl : (((lnE (t.data.toList.drop j) : Nat) : Int) == 0) = false := by rw [beq_eq_false_iff_ne]; omega
                        generalize lnE (t.data.toList.drop j) = nn at *
                        clear hl0 HDJ HJ
                        go_wp2_with (go_at_call 49; go_must (refine (HE3.out _).mono ?_; rintro e w1 ⟨rfl, hw⟩; obtain rfl := hw.symm))
                        go_round
                        case rel => exact ⟨j, hj, rfl, HJ2.out⟩
                        case measure => simp [intOf]; omega
                    · have HJ2 := hid (show R = j + skT true (t.data.toList.drop j) by rw [HJ.out, List.drop_eq_nil_of_le (by rw [HZ.out]; omega)]; rfl)
                      have hjk : k < j := by omega
                      clear HJ
                      go_wp2_with fail
                      go_round
                      case rel => exact ⟨j, hj, rfl, HJ2.out⟩
                      case measure => simp [intOf]; omega
                · have g3 : ((t[k].toNat : Int) == 35) = false := by rw [beq_eq_false_iff_ne]; omega
                  have HK2 := hid (show R = k by rw [HK1.out, skM_stop hbk0 (by rw [← HDA.out]; exact hn0) h35]; rfl)
                  rw [hn0] at HE2
                  clear HK HK1 HDA hbk0 h35 hn hn0 gn hle
                  have hlt2 : k < t.size := hlt
                  go_wp2_with (go_at_call 49; go_must (refine (HE2.out _).mono ?_; rintro e w1 ⟨rfl, hw⟩; obtain rfl := hw.symm))
                  go_ret
                  exact ⟨ret_int (by rw [HK2.out]), rfl⟩
      · have HK2 := hid (show R = k by rw [HK.out, List.drop_eq_nil_of_le (by rw [HZ.out]; omega), sk_nil]; rfl)
        go_wp2_with fail
        go_ret
        exact ⟨ret_int (by rw [HK2.out]), rfl⟩
end Go.Proofs.YtdlideihlcjblaaGreatDoor
