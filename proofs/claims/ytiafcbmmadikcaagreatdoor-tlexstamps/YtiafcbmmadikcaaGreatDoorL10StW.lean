/- The statement TlexStamps: its walk. -/
import Derived.Test.YtiafcbmmadikcaaGreatDoorL10St0
import Derived.Test.YtiafcbmmadikcaaGreatDoorL10St1
import Derived.Test.YtiafcbmmadikcaaGreatDoorL10St2
import Derived.Test.YtiafcbmmadikcaaGreatDoorL10St3
namespace Go.Proofs.YtiafcbmmadikcaaGreatDoor
open Go.RowKit

set_option maxRecDepth 100000 in
set_option maxHeartbeats 16000000 in
theorem stamps_in4 (Y M D H N S O : Nat) (hY : Y ≤ 9999) (hM : M ≤ 13) (hD : D ≤ 32) (hH : H ≤ 25) (hN : N ≤ 61) (hS : S ≤ 62) (hO : O ≤ 25) (w : World) (hg : GlobN w) (hcs : avB Y M D = true ∧ bvB H N S = true ∧ ¬ O < 24) :
    Calls Tryz.prog 5 #[.int .i64 (Y : Int), .int .i64 (M : Int), .int .i64 (D : Int), .int .i64 (H : Int), .int .i64 (N : Int), .int .i64 (S : Int), .int .i64 (O : Int)] w fun e w' => e = .returned (.bool true) ∧ Below w.heap.size w w' := by
  have CA := hid (awake10 w hg)
  have HCS := hid hcs
  clear hcs
  have HG := hid hg
  have T1 := hid (fun X => law_two (Y / 100) X (by omega))
  have e100 : ((Y / 100 : Nat) : Int) = (Y : Int) / 100 := by omega
  rw [e100] at T1
  have T2 := hid (fun X => law_two Y X hY)
  have T3 := hid (fun X => law_two M X (by omega))
  have T4 := hid (fun X => law_two D X (by omega))
  have T5 := hid (fun X => law_two H X (by omega))
  have T6 := hid (fun X => law_two N X (by omega))
  have T7 := hid (fun X => law_two S X (by omega))
  have T8 := hid (fun X => law_two O X (by omega))
  have HDL := hid (day_list Y M D)
  have HCL := hid (clk_list H N S)
  have hy0 : ¬ (Y : Int) < 0 := by omega
  have hy1 : ¬ 9999 < (Y : Int) := by omega
  have hm0 : ¬ (M : Int) < 0 := by omega
  have hm1 : ¬ 13 < (M : Int) := by omega
  have hd0 : ¬ (D : Int) < 0 := by omega
  have hd1 : ¬ 32 < (D : Int) := by omega
  have hh0 : ¬ (H : Int) < 0 := by omega
  have hh1 : ¬ 25 < (H : Int) := by omega
  have hn0 : ¬ (N : Int) < 0 := by omega
  have hn1 : ¬ 61 < (N : Int) := by omega
  have hs0 : ¬ (S : Int) < 0 := by omega
  have hs1 : ¬ 62 < (S : Int) := by omega
  have ho0 : ¬ (O : Int) < 0 := by omega
  have ho1 : ¬ 25 < (O : Int) := by omega
  clear hg e100
  -- the two digits as letters
  have z1 : (mkS [tw1 (Y / 100), tw0 (Y / 100)]).size ≤ 2 := by rw [mkS_size]; exact Nat.le_refl 2
  have z2 : (mkS [tw1 Y, tw0 Y]).size ≤ 2 := by rw [mkS_size]; exact Nat.le_refl 2
  have z3 : (mkS [tw1 M, tw0 M]).size ≤ 2 := by rw [mkS_size]; exact Nat.le_refl 2
  have z4 : (mkS [tw1 D, tw0 D]).size ≤ 2 := by rw [mkS_size]; exact Nat.le_refl 2
  have z5 : (mkS [tw1 H, tw0 H]).size ≤ 2 := by rw [mkS_size]; exact Nat.le_refl 2
  have z6 : (mkS [tw1 N, tw0 N]).size ≤ 2 := by rw [mkS_size]; exact Nat.le_refl 2
  have z7 : (mkS [tw1 S, tw0 S]).size ≤ 2 := by rw [mkS_size]; exact Nat.le_refl 2
  have z8 : (mkS [tw1 O, tw0 O]).size ≤ 2 := by rw [mkS_size]; exact Nat.le_refl 2
  have HOL := hid (mkS_list [tw1 O, tw0 O])
  generalize mkS [tw1 (Y / 100), tw0 (Y / 100)] = A1 at *
  generalize mkS [tw1 Y, tw0 Y] = A2 at *
  generalize mkS [tw1 M, tw0 M] = A3 at *
  generalize mkS [tw1 D, tw0 D] = A4 at *
  generalize mkS [tw1 H, tw0 H] = A5 at *
  generalize mkS [tw1 N, tw0 N] = A6 at *
  generalize mkS [tw1 S, tw0 S] = A7 at *
  generalize mkS [tw1 O, tw0 O] = A8 at *
  go_enter Tryz.func5, Tryz.ntmps5
  go_wp2_with fail
  go_at_call 6
  refine CA.out.mono ?_
  rintro e w0 ⟨rfl, hb0⟩
  have HB0 := hid hb0
  clear hb0 CA
  go_upto_region 5 with fail
  clear hy0 hy1 hm0 hm1 hd0 hd1 hh0 hh1 hn0 hn1 hs0 hs1 ho0 ho1
  go_upto_region 7 with (go_at_call 14; go_must (first
    | ((with_reducible refine (T1.out _).mono ?_); rintro e w1 ⟨rfl, hb1⟩)
    | ((with_reducible refine (T2.out _).mono ?_); rintro e w2 ⟨rfl, hb2⟩)
    | ((with_reducible refine (T3.out _).mono ?_); rintro e w3 ⟨rfl, hb3⟩)
    | ((with_reducible refine (T4.out _).mono ?_); rintro e w4 ⟨rfl, hb4⟩)
    | ((with_reducible refine (T5.out _).mono ?_); rintro e w5 ⟨rfl, hb5⟩)
    | ((with_reducible refine (T6.out _).mono ?_); rintro e w6 ⟨rfl, hb6⟩)
    | ((with_reducible refine (T7.out _).mono ?_); rintro e w7 ⟨rfl, hb7⟩)))
  have HB7 := hid (eonto (eonto (eonto (eonto (eonto (eonto (eonto HB0.out hb1) hb2) hb3) hb4) hb5) hb6) hb7)
  clear hb1 hb2 hb3 hb4 hb5 hb6 hb7 HB0 T1 T2 T3 T4 T5 T6 T7
  obtain ⟨DY, hDY⟩ : ∃ X, A1 ++ A2 ++ ⟨#[45]⟩ ++ A3 ++ ⟨#[45]⟩ ++ A4 = X := ⟨_, rfl⟩
  obtain ⟨CK, hCK⟩ : ∃ X, A5 ++ ⟨#[58]⟩ ++ A6 ++ ⟨#[58]⟩ ++ A7 = X := ⟨_, rfl⟩
  rw [hDY] at HDL ⊢
  rw [hCK] at HCL ⊢
  clear hDY hCK z1 z2 z3 z4 z5 z6 z7
  have zD : DY.size ≤ 10 := by rw [← size_list, HDL.out]; exact Nat.le_refl 10
  have zC : CK.size ≤ 8 := by rw [← size_list, HCL.out]; exact Nat.le_refl 8
  have hcell : (w7.alloc (.cells #[.int .i64 0, .int .i64 31, .int .i64 28, .int .i64 31, .int .i64 30, .int .i64 31, .int .i64 30, .int .i64 31, .int .i64 31, .int .i64 30, .int .i64 31, .int .i64 30, .int .i64 31, .int .i64 0] 3)).cell? ⟨w7.heap.size, M, none⟩ = some (.int .i64 (lastD M : Nat)) := (addz _ M) ▸ new_cells w7 [.int .i64 0, .int .i64 31, .int .i64 28, .int .i64 31, .int .i64 30, .int .i64 31, .int .i64 30, .int .i64 31, .int .i64 31, .int .i64 30, .int .i64 31, .int .i64 30, .int .i64 31, .int .i64 0] 3 M _ (list_last M hM)
  have hM14 : M < 14 := by omega
  go_upto_region 8 with fail
  refine wp_gen ?_
  intro W8 hW8
  have HB8 : Hid (Below w.heap.size w W8) := by rw [hW8]; exact valloc_bel HB7.out _
  clear hW8 hcell HB7 hM14
  obtain ⟨a, ha⟩ : ∃ a : Nat, Y % 4 = a := ⟨_, rfl⟩
  obtain ⟨b, hb⟩ : ∃ b : Nat, Y % 100 = b := ⟨_, rfl⟩
  obtain ⟨c, hc⟩ : ∃ c : Nat, Y % 400 = c := ⟨_, rfl⟩
  have ea : Int.tmod (Y : Int) 4 = (a : Int) := by rw [Int.tmod_eq_emod_of_nonneg (by omega)]; omega
  have eb : Int.tmod (Y : Int) 100 = (b : Int) := by rw [Int.tmod_eq_emod_of_nonneg (by omega)]; omega
  have ec : Int.tmod (Y : Int) 400 = (c : Int) := by rw [Int.tmod_eq_emod_of_nonneg (by omega)]; omega
  have HL : Hid (lastL Y M = if M = 2 ∧ ((a = 0 ∧ b ≠ 0) ∨ c = 0) then 29 else lastD M) := by
    show _ = _
    unfold lastL; rw [ha, hb, hc]
  have hL32 : lastL Y M ≤ 31 := by
    rw [HL.out]; have := lastD_le M hM; split <;> omega
  clear ha hb hc
  have HAV : Hid (avB Y M D = (decide (1 ≤ D) && decide (D ≤ lastL Y M))) := rfl
  have HBV : Hid (bvB H N S = (decide (H < 24) && (decide (N < 60) && decide (S < 61)))) := rfl
  have HS1 := hid (sx1 hY hM hD)
  have HS2 := hid (sx2 (H := H) (N := N) (S := S) (by omega) (by omega) (by omega))
  have HS3 := hid (sx3 (H := H) (N := N) (S := S) hY hM hD (by omega) (by omega) (by omega))
  have HS4 := hid (sx4 (H := H) (N := N) (S := S) (by omega) (by omega) (by omega))
  have HS5 := hid (sx5 (H := H) (N := N) (S := S) (O := O) hY hM hD (by omega) (by omega) (by omega) (by omega))
  have HS7 := hid (fun ha hb => sx7 (H := H) (N := N) (S := S) hY hM hD (by omega) (by omega) (by omega) ha hb)
  generalize lastL Y M = L at *
  generalize avB Y M D = av at *
  generalize bvB H N S = bv at *
  have C1 : Hid (∀ X, Below w.heap.size w X → Calls Tryz.prog 9 #[.string DY] X fun e w' => e = .returned (.bool av) ∧ Below X.heap.size X w') := fun X h => by
    have := tstamp_any DY X (by omega) (HG.out.t.m.on h)
    rw [HDL.out, HS1.out] at this; exact this
  have C2 : Hid (∀ X, Below w.heap.size w X → Calls Tryz.prog 9 #[.string CK] X fun e w' => e = .returned (.bool bv) ∧ Below X.heap.size X w') := fun X h => by
    have := tstamp_any CK X (by omega) (HG.out.t.m.on h)
    rw [HCL.out, HS2.out] at this; exact this
  have C3 : Hid (∀ X, Below w.heap.size w X → Calls Tryz.prog 9 #[.string (DY ++ ⟨#[84]⟩ ++ CK ++ ⟨#[90]⟩)] X fun e w' => e = .returned (.bool (av && bv)) ∧ Below X.heap.size X w') := fun X h => by
    have := tstamp_any (DY ++ ⟨#[84]⟩ ++ CK ++ ⟨#[90]⟩) X (by rw [← size_list]; simp only [app_list, List.length_append, size_list]; show DY.size + 1 + CK.size + 1 ≤ 1000000; omega) (HG.out.t.m.on h)
    have e : (DY ++ ⟨#[84]⟩ ++ CK ++ ⟨#[90]⟩).data.toList = dayN Y M D ++ [84] ++ clkN H N S ++ [90] := by simp only [app_list, HDL.out, HCL.out]
    rw [e, HS3.out] at this; exact this
  have C4 : Hid (∀ X, Below w.heap.size w X → Calls Tryz.prog 9 #[.string (CK ++ ⟨#[46, 53]⟩)] X fun e w' => e = .returned (.bool bv) ∧ Below X.heap.size X w') := fun X h => by
    have := tstamp_any (CK ++ ⟨#[46, 53]⟩) X (by rw [← size_list]; simp only [app_list, List.length_append, size_list]; show CK.size + 2 ≤ 1000000; omega) (HG.out.t.m.on h)
    have e : (CK ++ ⟨#[46, 53]⟩).data.toList = clkN H N S ++ [46, 53] := by simp only [app_list, HCL.out]
    rw [e, HS4.out] at this; exact this
  have C5 : Hid (∀ X, Below w.heap.size w X → Calls Tryz.prog 9 #[.string (DY ++ ⟨#[32]⟩ ++ CK ++ ⟨#[43]⟩ ++ A8 ++ ⟨#[58, 51, 48]⟩)] X fun e w' => e = .returned (.bool (av && (bv && decide (O < 24)))) ∧ Below X.heap.size X w') := fun X h => by
    have := tstamp_any (DY ++ ⟨#[32]⟩ ++ CK ++ ⟨#[43]⟩ ++ A8 ++ ⟨#[58, 51, 48]⟩) X (by rw [← size_list]; simp only [app_list, List.length_append, size_list]; show DY.size + 1 + CK.size + 1 + A8.size + 3 ≤ 1000000; omega) (HG.out.t.m.on h)
    have e : (DY ++ ⟨#[32]⟩ ++ CK ++ ⟨#[43]⟩ ++ A8 ++ ⟨#[58, 51, 48]⟩).data.toList = dayN Y M D ++ [32] ++ clkN H N S ++ [43] ++ [tw1 O, tw0 O] ++ [58, 51, 48] := by simp only [app_list, HDL.out, HCL.out, HOL.out]
    rw [e, HS5.out] at this; exact this
  have C7 : Hid (∀ X, Below w.heap.size w X → ∃ tk tn ts rn re rb, Hid (av = true → bv = true → tk = 7 ∧ re = 0 ∧ rn = 19 ∧ ts = mkS (dayN Y M D ++ [32] ++ clkN H N S)) ∧ Calls Tryz.prog 8 #[.string (DY ++ ⟨#[32]⟩ ++ CK ++ ⟨#[32, 35, 32, 120]⟩), .int .i64 0] X fun e w' => e = .returned (.tuple #[.agg #[.int .i64 tk, .int .i64 tn, .string ts, nilS, nilS], .int .i64 rn, .int .i64 re, .int .i64 rb]) ∧ Below X.heap.size X w') := fun X h => by
    have := tplain_any (DY ++ ⟨#[32]⟩ ++ CK ++ ⟨#[32, 35, 32, 120]⟩) 0 X (by rw [← size_list]; simp only [app_list, List.length_append, size_list]; show DY.size + 1 + CK.size + 4 ≤ 1000000; omega) (HG.out.on h)
    have e : (DY ++ ⟨#[32]⟩ ++ CK ++ ⟨#[32, 35, 32, 120]⟩).data.toList = dayN Y M D ++ [32] ++ clkN H N S ++ [32, 35, 32, 120] := by simp only [app_list, HDL.out, HCL.out]
    rw [e] at this
    refine ⟨_, _, _, _, _, _, fun ha hb => ?_, this⟩
    rw [HS7.out ha hb]
    exact ⟨rfl, rfl, rfl, rfl⟩
  have HQ : Hid ((DY ++ ⟨#[32]⟩ ++ CK) = mkS (dayN Y M D ++ [32] ++ clkN H N S)) := mkS_of _ _ (by simp only [app_list, HDL.out, HCL.out])
  clear HS1 HS2 HS3 HS4 HS5 HS7 HG HDL HCL HOL
  obtain ⟨lp, hlp⟩ : ∃ q : Bool, q = decide (M = 2 ∧ ((a = 0 ∧ b ≠ 0) ∨ c = 0)) := ⟨_, rfl⟩
  have HLP := hid hlp
  have HL2 : Hid (L = if lp = true then 29 else lastD M) := by
    show _ = _
    rw [HL.out, hlp]
    by_cases k : M = 2 ∧ ((a = 0 ∧ b ≠ 0) ∨ c = 0)
    · rw [if_pos k, decide_eq_true k, if_pos rfl]
    · rw [if_neg k, decide_eq_false k, if_neg (by decide)]
  clear hlp HL
  go_cut [124] (fun v wx => v = .bool lp ∧ wx = W8)
  case first => as_aux_lemma =>
    by_cases hM2 : M = 2
    · have gM : ((M : Int) == 2) = true := by rw [beq_iff_eq]; omega
      by_cases ha0 : a = 0
      · have ga : ((a : Int) == 0) = true := by rw [beq_iff_eq]; omega
        by_cases hb0 : b = 0
        · have gb : ((b : Int) != 0) = false := by rw [bne_eq_false_iff_eq]; omega
          by_cases hc0 : c = 0
          · have gc : ((c : Int) == 0) = true := by rw [beq_iff_eq]; omega
            have HX := hid (show lp = true by rw [HLP.out]; exact decide_eq_true ⟨hM2, Or.inr hc0⟩)
            clear ha0 hb0 hc0 hM2
            go_wp2_with fail
            go_meet
            exact ⟨by rw [HX.out], rfl⟩
          · have gc : ((c : Int) == 0) = false := by rw [beq_eq_false_iff_ne]; omega
            have HX := hid (show lp = false by rw [HLP.out]; exact decide_eq_false (by rintro ⟨-, k | k⟩; exact k.2 hb0; exact hc0 k))
            clear ha0 hb0 hc0 hM2
            go_wp2_with fail
            go_meet
            exact ⟨by rw [HX.out], rfl⟩
        · have gb : ((b : Int) != 0) = true := by rw [bne_iff_ne]; omega
          have HX := hid (show lp = true by rw [HLP.out]; exact decide_eq_true ⟨hM2, Or.inl ⟨ha0, hb0⟩⟩)
          clear ha0 hb0 hM2
          go_wp2_with fail
          go_meet
          exact ⟨by rw [HX.out], rfl⟩
      · have ga : ((a : Int) == 0) = false := by rw [beq_eq_false_iff_ne]; omega
        by_cases hc0 : c = 0
        · have gc : ((c : Int) == 0) = true := by rw [beq_iff_eq]; omega
          have HX := hid (show lp = true by rw [HLP.out]; exact decide_eq_true ⟨hM2, Or.inr hc0⟩)
          clear ha0 hc0 hM2
          go_wp2_with fail
          go_meet
          exact ⟨by rw [HX.out], rfl⟩
        · have gc : ((c : Int) == 0) = false := by rw [beq_eq_false_iff_ne]; omega
          have HX := hid (show lp = false by rw [HLP.out]; exact decide_eq_false (by rintro ⟨-, k | k⟩; exact ha0 k.1; exact hc0 k))
          clear ha0 hc0 hM2
          go_wp2_with fail
          go_meet
          exact ⟨by rw [HX.out], rfl⟩
    · have gM : ((M : Int) == 2) = false := by rw [beq_eq_false_iff_ne]; omega
      have HX := hid (show lp = false by rw [HLP.out]; exact decide_eq_false (fun k => hM2 k.1))
      clear hM2
      go_wp2_with fail
      go_meet
      exact ⟨by rw [HX.out], rfl⟩
  case rest =>
  obtain ⟨rfl, hw9⟩ := hcut
  obtain rfl := hw9.symm
  clear ea eb ec HLP
  go_upto_if 124 with fail
  go_cut [17] (fun v wx => v = .int .i64 (L : Nat) ∧ wx = W8)
  case first => as_aux_lemma =>
    cases lp with
    | true =>
      go_wp2_with fail
      go_meet
      exact ⟨val_int (by rw [HL2.out]; rfl), rfl⟩
    | false =>
      go_wp2_with fail
      go_meet
      exact ⟨val_int (by rw [HL2.out]; rfl), rfl⟩
  case rest =>
  obtain ⟨rfl, hw9⟩ := hcut
  obtain rfl := hw9.symm
  clear HL2
  go_upto_region 10 with fail
  go_cut [18] (fun v wx => v = .bool av ∧ wx = W8)
  case first => as_aux_lemma =>
    by_cases k1 : 1 ≤ D
    · by_cases k2 : D ≤ L
      · have HX := hid (show av = true by rw [HAV.out, decide_eq_true k1, decide_eq_true k2]; rfl)
        go_wp2_with fail
        go_meet
        exact ⟨by rw [HX.out], rfl⟩
      · have HX := hid (show av = false by rw [HAV.out, decide_eq_false k2, Bool.and_false])
        go_wp2_with fail
        go_meet
        exact ⟨by rw [HX.out], rfl⟩
    · have HX := hid (show av = false by rw [HAV.out, decide_eq_false k1, Bool.false_and])
      go_wp2_with fail
      go_meet
      exact ⟨by rw [HX.out], rfl⟩
  case rest =>
  obtain ⟨rfl, hw9⟩ := hcut
  obtain rfl := hw9.symm
  go_upto_region 11 with fail
  go_cut [19] (fun v wx => v = .bool bv ∧ wx = W8)
  case first => as_aux_lemma =>
    by_cases k1 : H < 24
    · by_cases k2 : N < 60
      · by_cases k3 : S < 61
        · have HX := hid (show bv = true by rw [HBV.out, decide_eq_true k1, decide_eq_true k2, decide_eq_true k3]; rfl)
          go_wp2_with fail
          go_meet
          exact ⟨congrArg Value.bool (by (try rw [HX.out]) <;> first | done | rfl | exact decide_eq_true (by omega) | exact decide_eq_false (by omega)), rfl⟩
        · have HX := hid (show bv = false by rw [HBV.out, decide_eq_false k3]; simp)
          go_wp2_with fail
          go_meet
          exact ⟨congrArg Value.bool (by (try rw [HX.out]) <;> first | done | rfl | exact decide_eq_true (by omega) | exact decide_eq_false (by omega)), rfl⟩
      · have HX := hid (show bv = false by rw [HBV.out, decide_eq_false k2]; simp)
        go_wp2_with fail
        go_meet
        exact ⟨congrArg Value.bool (by (try rw [HX.out]) <;> first | done | rfl | exact decide_eq_true (by omega) | exact decide_eq_false (by omega)), rfl⟩
    · have HX := hid (show bv = false by rw [HBV.out, decide_eq_false k1]; simp)
      go_wp2_with fail
      go_meet
      exact ⟨congrArg Value.bool (by (try rw [HX.out]) <;> first | done | rfl | exact decide_eq_true (by omega) | exact decide_eq_false (by omega)), rfl⟩
  case rest =>
  obtain ⟨rfl, hw9⟩ := hcut
  obtain rfl := hw9.symm
  clear HAV HBV
  obtain ⟨rfl, rfl, o1⟩ := HCS.out
  rw [decide_eq_false o1] at C5
  have o2 : ¬ (O : Int) < 24 := by omega
  simp only [Bool.and_true, Bool.and_false] at C3 C5
  go_upto_region 14 with (first
    | (go_at_call 9; go_must (first
      | ((with_reducible refine (C1.out _ HB8.out).mono ?_); rintro e x1 ⟨rfl, k1⟩)
      | ((with_reducible refine (C2.out _ (eonto HB8.out k1)).mono ?_); rintro e x2 ⟨rfl, k2⟩)
      | ((with_reducible refine (C3.out _ (eonto (eonto HB8.out k1) k2)).mono ?_); rintro e x3 ⟨rfl, k3⟩)
      | ((with_reducible refine (C4.out _ (eonto (eonto (eonto HB8.out k1) k2) k3)).mono ?_); rintro e x4 ⟨rfl, k4⟩)
      | ((with_reducible refine (C5.out _ (eonto (eonto (eonto (eonto (eonto HB8.out k1) k2) k3) k4) k5)).mono ?_); rintro e x6 ⟨rfl, k6⟩)))
    | (go_at_call 14; go_must (refine (T8.out _).mono ?_; rintro e x5 ⟨rfl, k5⟩)))
  have HB14 := hid (eonto (eonto (eonto (eonto (eonto (eonto HB8.out k1) k2) k3) k4) k5) k6)
  clear k1 k2 k3 k4 k5 k6 HB8 C1 C2 C3 C4 C5 T8
  obtain ⟨tk, tn, ts, rn, re, rb, HPL, CPL⟩ := C7.out x6 HB14.out
  have CPL2 := hid CPL
  clear CPL C7
  go_wp2_with fail
  try go_at_call 8
  refine CPL2.out.mono ?_
  rintro e x7 ⟨rfl, k7⟩
  have HB15 := hid (eonto HB14.out k7)
  clear k7 HB14 CPL2
  go_upto_region 15 with fail
  refine wp_gen ?_
  intro W9 hW9
  have hk := new_cells x7 [.int .i64 tk, .int .i64 tn, .string ts, .slice none 0 0, .slice none 0 0] 27
  have b0 : W9.cell? ⟨x7.heap.size, 0, none⟩ = some (.int .i64 tk) := by rw [hW9]; exact (addz _ 0) ▸ hk 0 _ rfl
  have b2 : W9.cell? ⟨x7.heap.size, 2, none⟩ = some (.string ts) := by rw [hW9]; exact (addz _ 2) ▸ hk 2 _ rfl
  have HB16 : Hid (Below w.heap.size w W9) := by rw [hW9]; exact valloc_bel HB15.out _
  clear hW9 hk HB15
  obtain ⟨rfl, rfl, rfl, hts⟩ := HPL.out (by simp) (by simp)
  have gts : Hid (ts = DY ++ ⟨#[32]⟩ ++ CK) := hts.trans HQ.out.symm
  have hq8 : (ts.toList == (DY ++ ⟨#[32]⟩ ++ CK).toList) = true := by rw [gts.out]; simp
  clear hts HPL HQ
  go_wp2_with fail
  go_ret
  exact ⟨ret_bool (by first | rfl | (rw [gts.out]; simp)), HB16.out⟩
set_option maxRecDepth 100000 in
set_option maxHeartbeats 8000000 in
theorem stamps_out4 (y m d h n s o : Int) (w : World) (hg : GlobN w) (hc : (0 ≤ y ∧ y ≤ 9999 ∧ 0 ≤ m ∧ m ≤ 13 ∧ d < 0)) :
    Calls Tryz.prog 5 #[.int .i64 y, .int .i64 m, .int .i64 d, .int .i64 h, .int .i64 n, .int .i64 s, .int .i64 o] w fun e w' => e = .returned (.bool true) ∧ Below w.heap.size w w' := by
  have CA := hid (awake10 w hg)
  obtain ⟨h0, h1, h2, h3, h4⟩ := hc
  go_enter Tryz.func5, Tryz.ntmps5
  go_wp2_with (go_at_call 6; go_must (refine CA.out.mono ?_; rintro e w0 ⟨rfl, hb0⟩))
  go_ret
  exact ⟨rfl, hb0⟩
set_option maxRecDepth 100000 in
set_option maxHeartbeats 8000000 in
theorem stamps_out9 (y m d h n s o : Int) (w : World) (hg : GlobN w) (hc : (0 ≤ y ∧ y ≤ 9999 ∧ 0 ≤ m ∧ m ≤ 13 ∧ 0 ≤ d ∧ d ≤ 32 ∧ 0 ≤ h ∧ h ≤ 25 ∧ 0 ≤ n ∧ 61 < n)) :
    Calls Tryz.prog 5 #[.int .i64 y, .int .i64 m, .int .i64 d, .int .i64 h, .int .i64 n, .int .i64 s, .int .i64 o] w fun e w' => e = .returned (.bool true) ∧ Below w.heap.size w w' := by
  have CA := hid (awake10 w hg)
  obtain ⟨h0, h1, h2, h3, h4, h5, h6, h7, h8, h9⟩ := hc
  go_enter Tryz.func5, Tryz.ntmps5
  go_wp2_with (go_at_call 6; go_must (refine CA.out.mono ?_; rintro e w0 ⟨rfl, hb0⟩))
  go_ret
  exact ⟨rfl, hb0⟩

theorem stamps_in (Y M D H N S O : Nat) (hY : Y ≤ 9999) (hM : M ≤ 13) (hD : D ≤ 32) (hH : H ≤ 25) (hN : N ≤ 61) (hS : S ≤ 62) (hO : O ≤ 25) (w : World) (hg : GlobN w) :
    Calls Tryz.prog 5 #[.int .i64 (Y : Int), .int .i64 (M : Int), .int .i64 (D : Int), .int .i64 (H : Int), .int .i64 (N : Int), .int .i64 (S : Int), .int .i64 (O : Int)] w fun e w' => e = .returned (.bool true) ∧ Below w.heap.size w w' := by
  cases ha : avB Y M D with
  | false =>
    cases hb : bvB H N S with
    | false => exact stamps_in0 Y M D H N S O hY hM hD hH hN hS hO w hg ⟨ha, hb⟩
    | true => exact stamps_in1 Y M D H N S O hY hM hD hH hN hS hO w hg ⟨ha, hb⟩
  | true =>
    cases hb : bvB H N S with
    | false => exact stamps_in2 Y M D H N S O hY hM hD hH hN hS hO w hg ⟨ha, hb⟩
    | true =>
      by_cases ho : O < 24
      · exact stamps_in3 Y M D H N S O hY hM hD hH hN hS hO w hg ⟨ha, hb, ho⟩
      · exact stamps_in4 Y M D H N S O hY hM hD hH hN hS hO w hg ⟨ha, hb, ho⟩
theorem swf_bd {n : Int} (h : (Lit.int .i64 n).wf = true) : -9223372036854775808 ≤ n ∧ n < 9223372036854775808 := by
  simp [Lit.wf, IntKind.min, IntKind.max, IntKind.signed, IntKind.bits] at h; omega
set_option maxRecDepth 100000 in
set_option maxHeartbeats 8000000 in
theorem Tryz.tlexStamps_walk (y m d h n s o : Int) (_w0 : (Lit.int .i64 y).wf = true) (_w1 : (Lit.int .i64 m).wf = true) (_w2 : (Lit.int .i64 d).wf = true) (_w3 : (Lit.int .i64 h).wf = true) (_w4 : (Lit.int .i64 n).wf = true) (_w5 : (Lit.int .i64 s).wf = true) (_w6 : (Lit.int .i64 o).wf = true) (w : World) (hg : GlobN w) :
    Calls Tryz.prog 5 #[.int .i64 y, .int .i64 m, .int .i64 d, .int .i64 h, .int .i64 n, .int .i64 s, .int .i64 o] w fun e w' => e = .returned (.bool true) ∧ Below w.heap.size w w' := by
  by_cases g0 : y < 0
  · exact stamps_out0 y m d h n s o w hg g0
  have f0 : 0 ≤ y := by omega
  by_cases g1 : 9999 < y
  · exact stamps_out1 y m d h n s o w hg ⟨f0, g1⟩
  have f1 : y ≤ 9999 := by omega
  by_cases g2 : m < 0
  · exact stamps_out2 y m d h n s o w hg ⟨f0, f1, g2⟩
  have f2 : 0 ≤ m := by omega
  by_cases g3 : 13 < m
  · exact stamps_out3 y m d h n s o w hg ⟨f0, f1, f2, g3⟩
  have f3 : m ≤ 13 := by omega
  by_cases g4 : d < 0
  · exact stamps_out4 y m d h n s o w hg ⟨f0, f1, f2, f3, g4⟩
  have f4 : 0 ≤ d := by omega
  by_cases g5 : 32 < d
  · exact stamps_out5 y m d h n s o w hg ⟨f0, f1, f2, f3, f4, g5⟩
  have f5 : d ≤ 32 := by omega
  by_cases g6 : h < 0
  · exact stamps_out6 y m d h n s o w hg ⟨f0, f1, f2, f3, f4, f5, g6⟩
  have f6 : 0 ≤ h := by omega
  by_cases g7 : 25 < h
  · exact stamps_out7 y m d h n s o w hg ⟨f0, f1, f2, f3, f4, f5, f6, g7⟩
  have f7 : h ≤ 25 := by omega
  by_cases g8 : n < 0
  · exact stamps_out8 y m d h n s o w hg ⟨f0, f1, f2, f3, f4, f5, f6, f7, g8⟩
  have f8 : 0 ≤ n := by omega
  by_cases g9 : 61 < n
  · exact stamps_out9 y m d h n s o w hg ⟨f0, f1, f2, f3, f4, f5, f6, f7, f8, g9⟩
  have f9 : n ≤ 61 := by omega
  by_cases g10 : s < 0
  · exact stamps_out10 y m d h n s o w hg ⟨f0, f1, f2, f3, f4, f5, f6, f7, f8, f9, g10⟩
  have f10 : 0 ≤ s := by omega
  by_cases g11 : 62 < s
  · exact stamps_out11 y m d h n s o w hg ⟨f0, f1, f2, f3, f4, f5, f6, f7, f8, f9, f10, g11⟩
  have f11 : s ≤ 62 := by omega
  by_cases g12 : o < 0
  · exact stamps_out12 y m d h n s o w hg ⟨f0, f1, f2, f3, f4, f5, f6, f7, f8, f9, f10, f11, g12⟩
  have f12 : 0 ≤ o := by omega
  by_cases g13 : 25 < o
  · exact stamps_out13 y m d h n s o w hg ⟨f0, f1, f2, f3, f4, f5, f6, f7, f8, f9, f10, f11, f12, g13⟩
  have f13 : o ≤ 25 := by omega
  obtain ⟨Y, rfl⟩ : ∃ Y : Nat, y = (Y : Int) := ⟨y.toNat, by omega⟩
  obtain ⟨M, rfl⟩ : ∃ Y : Nat, m = (Y : Int) := ⟨m.toNat, by omega⟩
  obtain ⟨D, rfl⟩ : ∃ Y : Nat, d = (Y : Int) := ⟨d.toNat, by omega⟩
  obtain ⟨H, rfl⟩ : ∃ Y : Nat, h = (Y : Int) := ⟨h.toNat, by omega⟩
  obtain ⟨N, rfl⟩ : ∃ Y : Nat, n = (Y : Int) := ⟨n.toNat, by omega⟩
  obtain ⟨S, rfl⟩ : ∃ Y : Nat, s = (Y : Int) := ⟨s.toNat, by omega⟩
  obtain ⟨O, rfl⟩ : ∃ Y : Nat, o = (Y : Int) := ⟨o.toNat, by omega⟩
  exact stamps_in Y M D H N S O (by omega) (by omega) (by omega) (by omega) (by omega) (by omega) (by omega) w hg
end Go.Proofs.YtiafcbmmadikcaaGreatDoor
