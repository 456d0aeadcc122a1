/- The document's own Unquote of chapter 6: walked. -/
import Derived.Test.YtoamndiblckdlaaGreatDoorEscRC
import Derived.Test.YtoamndiblckdlaaGreatDoorEscI
namespace Go.Proofs.YtoamndiblckdlaaGreatDoor
open Go.RowKit

theorem mkS_app (a b : List UInt8) : mkS a ++ mkS b = mkS (a ++ b) := by
  refine mkS_of _ _ ?_
  rw [ByteArray.data_append, Array.toList_append]
  show (mkS a).data.toList ++ (mkS b).data.toList = _
  rw [mkS_list, mkS_list]
theorem ext_mkS (t : ByteArray) (i n : Nat) : t.extract i (i + n) = mkS ((t.data.toList.drop i).take n) := mkS_of _ _ (by rw [drop_ext, Nat.add_sub_cancel_left])
theorem oE_no {q : Nat} {l : List UInt8} (h : bt l 0 ≠ q) : (oE q l).2 = 0 := by unfold oE; rw [if_neg h]
theorem oE_yes {q : Nat} {l : List UInt8} (h : bt l 0 = q) : oE q l = ([], 1) := by unfold oE; rw [if_pos h]
set_option maxRecDepth 100000 in
set_option maxHeartbeats 4000000 in
theorem runq_in (t : ByteArray) (a : Nat) (w : World) (ht : t.size ≤ 1000000) (ha : a < t.size) (hq : t[a].toNat = 34) :
    Calls Tryz.prog 19 #[.string t, .int .i64 (a : Int)] w fun e w' => e = .returned (.tuple #[.string (mkS (unqJ t.data.toList a).1), .int .i64 ((unqJ t.data.toList a).2.1 : Nat), .int .i64 (unqJ t.data.toList a).2.2]) ∧ Below w.heap.size w w' := by
  have HZ := hid (size_list t)
  have HML := hid (show t.size ≤ maxLen from max_le ht)
  have HU := hid (show unqJ t.data.toList (a : Int) = rdA (oE 34) jsP t.data.toList (a + 1) by unfold unqJ; rw [Int.toNat_natCast, if_pos ⟨by omega, by rw [bt_at t a ha]; exact hq⟩])
  rw [HU.out]
  obtain ⟨R, hR⟩ : ∃ R, rdA (oE 34) jsP t.data.toList (a + 1) = R := ⟨_, rfl⟩
  have HR := hid hR
  rw [hR]
  have HBT : Hid (∀ p (h : p < t.size), bt (t.data.toList.drop p) 0 = t[p].toNat) := fun p h => by rw [bt_drop]; exact bt_at t p h
  have gq : ((t[a].toNat : Int) != 34) = false := by rw [bne_eq_false_iff_eq]; omega
  have d0 : decide ((a : Int) < 0) = false := decide_eq_false (by omega)
  have d1 : decide (t.size ≤ a) = false := decide_eq_false (by omega)
  have d2 : decide ((t.size : Int) ≤ (a : Int)) = false := decide_eq_false (by omega)
  clear hR hq HU
  go_enter Tryz.func19, Tryz.ntmps19
  go_wp2_with fail
  go_loopw [7, 8] (fun s x wr => ∃ (i f : Nat) (acc : List UInt8) (A : ByteArray), i ≤ t.size ∧ x = .int .i64 i ∧ s = .string A ∧ A.size ≤ i ∧ Hid (A = mkS acc) ∧ Hid (rd (oE 34) jsP t.data.toList f i acc = R) ∧ Hid (t.data.toList.length < i + f) ∧ Hid (Below w.heap.size w wr)) (fun _ x _ => t.size - (intOf x).toNat)
  case atStart => exact ⟨a + 1, t.data.toList.length + 1, [], ⟨#[]⟩, by omega, val_int (by omega), rfl, Nat.zero_le _, rfl, HR.out, (show _ < _ by omega), Below.refl _ _⟩
  case round =>
    obtain ⟨i, f, acc, A, hit, rfl, rfl, hA, HA, HRD, HF, HB⟩ := hrel
    by_cases hlt : i < t.size
    · have HTL := hid (show i < t.data.toList.length by rw [HZ.out]; exact hlt)
      have B0 := hid (HBT.out i hlt)
      have HS := hid (fun he => rd_stop (E := oE 34) (P := jsP) (t := t.data.toList) (f := f) (i := i) (acc := acc) HF.out HTL.out he)
      have HWR := hid (fun he hp => rd_wrong (E := oE 34) (P := jsP) (t := t.data.toList) (f := f) (i := i) (acc := acc) HF.out HTL.out he hp)
      have HST := hid (fun he hp => rd_step (E := oE 34) (P := jsP) (t := t.data.toList) (f := f) (i := i) (acc := acc) HF.out HTL.out he hp)
      rw [HRD.out] at HS HWR HST
      have hfit := fits_js (t.data.toList.drop i)
      rw [List.length_drop, HZ.out] at hfit
      by_cases h34 : t[i].toNat = 34
      · have HE := hid (oE_yes (q := 34) (l := t.data.toList.drop i) (by rw [B0.out]; exact h34))
        have HRR := hid (HS.out (by rw [HE.out]; decide))
        rw [HE.out, List.append_nil] at HRR
        have g : ((t[i].toNat : Int) != 34) = false := by rw [bne_eq_false_iff_eq]; omega
        clear HS HWR HST h34 hfit
        go_wp2_with fail
        refine bodyPost_ret (v := .tuple #[.string A, .int .i64 ((i : Int) + 1), .int .i64 (-1)]) (by simp [results, Tryz.results19, go_sem]) rfl ⟨ret_snn (by rw [HRR.out]; exact HA.out) (by rw [HRR.out]; simp) (by rw [HRR.out]), HB.out⟩
      · have HE0 := hid (oE_no (q := 34) (l := t.data.toList.drop i) (by rw [B0.out]; exact h34))
        have g : ((t[i].toNat : Int) != 34) = true := by rw [bne_iff_ne]; omega
        by_cases h92 : t[i].toNat = 92
        · have HJ := hid (show jsP (t.data.toList.drop i) = escP false (t.data.toList.drop i) by unfold jsP; rw [if_pos (by rw [B0.out]; exact h92)])
          have CE := hid (fun X => rescape_any t i false X ht hlt)
          rw [HJ.out] at HWR HST hfit
          have g2 : ((t[i].toNat : Int) == 92) = true := by rw [beq_iff_eq]; omega
          obtain ⟨x1, hx1⟩ : ∃ x, (escP false (t.data.toList.drop i)).1 = x := ⟨_, rfl⟩
          obtain ⟨x2, hx2⟩ : ∃ x, (escP false (t.data.toList.drop i)).2 = x := ⟨_, rfl⟩
          rw [hx1, hx2] at CE HST hfit
          rw [hx2] at HWR
          obtain ⟨fp1, fp2⟩ := hfit
          clear HS h34 h92 hx1 hx2 HJ
          by_cases hz : x2 = 0
          · subst hz
            have HRR := hid (HWR.out HE0.out rfl)
            clear HST HWR
            go_wp2_with fail
            go_at_call 36
            refine (CE.out _).mono ?_
            rintro e w1 ⟨rfl, hb1⟩
            go_wp2_with fail
            refine bodyPost_ret (v := .tuple #[.string ⟨#[]⟩, .int .i64 0, .int .i64 (i : Int)]) (by simp [results, Tryz.results19, go_sem]) rfl ⟨ret_snn (by rw [HRR.out]; rfl) (by rw [HRR.out]; rfl) (by rw [HRR.out]), eonto HB.out hb1⟩
          · obtain ⟨f', HN1, HN2⟩ := HST.out HE0.out (by omega)
            have HN3 := hid HN1
            have HN4 := hid HN2
            have hp0 : ((x2 : Int) == 0) = false := by rw [beq_eq_false_iff_ne]; omega
            obtain ⟨m, hm⟩ : ∃ m, mkS x1 = m := ⟨_, rfl⟩
            have hms : m.size ≤ x2 := by rw [← hm, mkS_size]; exact fp2
            have HM := hid (show A ++ m = mkS (acc ++ x1) by rw [← hm, HA.out, mkS_app])
            rw [hm] at CE
            clear HST HWR HN1 HN2 hm
            go_wp2_with fail
            go_at_call 36
            refine (CE.out _).mono ?_
            rintro e w1 ⟨rfl, hb1⟩
            go_wp2_with fail
            go_roundw
            case rel => exact ⟨i + x2, f', acc ++ x1, A ++ m, by omega, val_int (by omega), rfl, by rw [ByteArray.size_append]; omega, HM.out, HN3.out.symm, HN4.out, eonto HB.out hb1⟩
            case measure => simp [intOf]; omega
        · have g2 : ((t[i].toNat : Int) == 92) = false := by rw [beq_eq_false_iff_ne]; omega
          have CT := hid (fun X => rtake_at t i X HML.out)
          have hnl : i + tkN (t.data.toList.drop i) ≤ t.size := by have := tkN_le (t.data.toList.drop i); rw [List.length_drop, HZ.out] at this; omega
          by_cases hbad : tkN (t.data.toList.drop i) = 0 ∨ t[i].toNat < 32
          · have HJ := hid (show (jsP (t.data.toList.drop i)).2 = 0 by
              unfold jsP; rw [if_neg (by rw [B0.out]; exact h92), B0.out]
              split
              · rfl
              · next hn => exact hbad.resolve_right hn)
            have HRR := hid (HWR.out HE0.out HJ.out)
            have hbad' : (((tkN (t.data.toList.drop i) : Nat) : Int) == 0) = true ∨ ((((tkN (t.data.toList.drop i) : Nat) : Int) == 0) = false ∧ (t[i].toNat : Int) < 32) := by
              simp only [beq_iff_eq, beq_eq_false_iff_ne]; omega
            clear HS HST HWR h34 h92 hfit hbad HJ
            generalize tkN (t.data.toList.drop i) = n at *
            rcases hbad' with g3 | ⟨g3, g4⟩
            all_goals
              go_wp2_with fail
              go_at_call 34
              refine (CT.out _).mono ?_
              rintro e w1 ⟨rfl, hb1⟩
              go_wp2_with fail
              refine bodyPost_ret (v := .tuple #[.string ⟨#[]⟩, .int .i64 0, .int .i64 (i : Int)]) (by simp [results, Tryz.results19, go_sem]) rfl ⟨ret_snn (by rw [HRR.out]; rfl) (by rw [HRR.out]; rfl) (by rw [HRR.out]), eonto HB.out hb1⟩
          · have HJ := hid (show jsP (t.data.toList.drop i) = plP (t.data.toList.drop i) by
              unfold jsP; rw [if_neg (by rw [B0.out]; exact h92), B0.out, if_neg (by omega)])
            rw [HJ.out] at HST
            unfold plP at HST
            simp only at HST
            obtain ⟨f', HN1, HN2⟩ := HST.out HE0.out (by omega)
            have HN3 := hid HN1
            have HN4 := hid HN2
            have g3 : (((tkN (t.data.toList.drop i) : Nat) : Int) == 0) = false := by rw [beq_eq_false_iff_ne]; omega
            have g4 : ¬ (t[i].toNat : Int) < 32 := by omega
            have HM := hid (show A ++ t.extract i (i + tkN (t.data.toList.drop i)) = mkS (acc ++ (t.data.toList.drop i).take (tkN (t.data.toList.drop i))) by rw [ext_mkS, HA.out, mkS_app])
            have hms : (t.extract i (i + tkN (t.data.toList.drop i))).size = tkN (t.data.toList.drop i) := by rw [ByteArray.size_extract]; omega
            have HMS := hid hms
            have hms' : (t.extract i (i + tkN (t.data.toList.drop i))).size ≤ 1000000 := by omega
            have hn0 : 0 < tkN (t.data.toList.drop i) := by omega
            clear HS HWR HST HN1 HN2 h34 h92 hfit hbad HJ hms
            generalize tkN (t.data.toList.drop i) = n at *
            go_wp2_with fail
            go_at_call 34
            refine (CT.out _).mono ?_
            rintro e w1 ⟨rfl, hb1⟩
            go_wp2_with fail
            go_roundw
            case rel => exact ⟨i + n, f', acc ++ (t.data.toList.drop i).take n, A ++ t.extract i (i + n), by omega, val_int (by omega), rfl, by rw [ByteArray.size_append, HMS.out]; omega, HM.out, HN3.out.symm, HN4.out, eonto HB.out hb1⟩
            case measure => simp [intOf]; omega
    · have HRR := hid (show R = ([], 0, (t.size : Int)) by rw [← HRD.out, rd_end HF.out (by rw [HZ.out]; omega) (by rw [HZ.out]; omega), HZ.out])
      go_wp2_with fail
      refine bodyPost_ret (v := .tuple #[.string ⟨#[]⟩, .int .i64 0, .int .i64 (t.size : Int)]) (by simp [results, Tryz.results19, go_sem]) rfl ⟨ret_snn (by rw [HRR.out]; rfl) (by rw [HRR.out]; rfl) (by rw [HRR.out]), HB.out⟩
set_option maxRecDepth 100000 in
set_option maxHeartbeats 1000000 in
theorem runq_any (t : ByteArray) (a : Int) (w : World) (ht : t.size ≤ 1000000) :
    Calls Tryz.prog 19 #[.string t, .int .i64 a] w fun e w' => e = .returned (.tuple #[.string (mkS (unqJ t.data.toList a).1), .int .i64 ((unqJ t.data.toList a).2.1 : Nat), .int .i64 (unqJ t.data.toList a).2.2]) ∧ Below w.heap.size w w' := by
  have HZ := hid (size_list t)
  have HP := hid (fun X => place_any t a X)
  by_cases h0 : a < 0
  · have HR := hid (unqJ_out t.data.toList a (by omega))
    go_enter Tryz.func19, Tryz.ntmps19
    go_wp2_with (go_at_call 35; go_must (refine (HP.out _).mono ?_; rintro e w1 ⟨rfl, rfl⟩))
    go_ret3
    exact ⟨ret_snn (by rw [HR.out]; rfl) (by rw [HR.out]; rfl) (by rw [HR.out]), Below.refl _ _⟩
  · obtain ⟨n, rfl⟩ : ∃ n : Nat, a = n := ⟨a.toNat, by omega⟩
    by_cases hn : n < t.size
    · by_cases hq : t[n].toNat = 34
      · exact runq_in t n w ht hn hq
      · have HR := hid (show unqJ t.data.toList (n : Int) = ([], 0, plc t.data.toList (n : Int)) by unfold unqJ; rw [Int.toNat_natCast, if_neg (fun h => by have := h.2; rw [bt_at t n hn] at this; exact hq this)])
        have g : ((t[n].toNat : Int) != 34) = true := by rw [bne_iff_ne]; omega
        clear hq
        go_enter Tryz.func19, Tryz.ntmps19
        go_wp2_with (go_at_call 35; go_must (refine (HP.out _).mono ?_; rintro e w1 ⟨rfl, rfl⟩))
        go_ret3
        exact ⟨ret_snn (by rw [HR.out]; rfl) (by rw [HR.out]; rfl) (by rw [HR.out]), Below.refl _ _⟩
    · have HR := hid (show unqJ t.data.toList (n : Int) = ([], 0, plc t.data.toList (n : Int)) by unfold unqJ; rw [Int.toNat_natCast, if_neg (fun h => by have := h.2; rw [bt_none (by rw [HZ.out]; omega)] at this; omega)])
      go_enter Tryz.func19, Tryz.ntmps19
      go_wp2_with (go_at_call 35; go_must (refine (HP.out _).mono ?_; rintro e w1 ⟨rfl, rfl⟩))
      go_ret3
      exact ⟨ret_snn (by rw [HR.out]; rfl) (by rw [HR.out]; rfl) (by rw [HR.out]), Below.refl _ _⟩
end Go.Proofs.YtoamndiblckdlaaGreatDoor
