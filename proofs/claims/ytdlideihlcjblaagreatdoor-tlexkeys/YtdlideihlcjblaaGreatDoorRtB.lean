/- The document's Key of chapter 10: walked. -/
import Derived.Test.YtdlideihlcjblaaGreatDoorRtA
import Derived.Test.YtdlideihlcjblaaGreatDoorTlS
import Derived.Test.YtdlideihlcjblaaGreatDoorEscDoc
namespace Go.Proofs.YtdlideihlcjblaaGreatDoor
open Go.RowKit

theorem wrap_small {x : Int} (h1 : -1000000000 ≤ x) (h2 : x ≤ 1000000000) : IntKind.i64.wrap x = x := by
  rw [IntKind.wrap_i64]; omega
theorem idx_at (t : ByteArray) (i : Int) (n : Nat) (hi : i = (n : Int)) (h : n < t.size) (W : World) : (Instr.index 9 (.string t) (.int .i64 i)).run Tryz.prog W = .ok (.int .u8 (t[n].toNat : Int)) W := by
  subst hi
  rw [run_index_string W 9 t .i64 _ Tryz.underlying9, dif_pos ⟨by omega, by omega⟩]; rfl
theorem rbare1 (t : ByteArray) (i : Nat) (h : i < t.size) (w : World) :
    Calls Tryz.prog 46 #[.string (t.extract i (i + 1))] w fun e w' => e = .returned (.bool (brI t[i])) ∧ w' = w := by
  have hz : (t.extract i (i + 1)).size ≤ 1000000 := by simp; omega
  have := rbare_any (t.extract i (i + 1)) w (max_le hz)
  have e : (t.extract i (i + 1)).data.toList = [t[i]] := by
    rw [drop_ext, tdrop_at t i h, Nat.add_sub_cancel_left]; rfl
  rw [e] at this
  have e2 : brB [t[i]] = brI t[i] := by unfold brB; simp
  rw [e2] at this; exact this
theorem m3_no {q : Nat} {T : List UInt8} {a : Nat} (h : bt T a ≠ q) : m3 q (T.drop a) = false := by
  unfold m3; rw [bt_drop, Nat.add_zero, decide_eq_false h]; rfl
theorem kp_bare {T : List UInt8} {a : Nat} (h : run brI (T.drop a) ≠ 0) : kpT T a = ((T.drop a).take (run brI (T.drop a)), a + run brI (T.drop a), -1) := by
  have hb : bt T a ≠ 34 ∧ bt T a ≠ 39 := by
    cases hd : T.drop a with
    | nil => rw [hd] at h; exact absurd rfl h
    | cons b l =>
      have e : bt T a = b.toNat := by have := bt_drop T a 0; rw [hd, Nat.add_zero, bt_cons] at this; exact this.symm
      have hb : brI b = true := by
        cases k : brI b with
        | true => rfl
        | false => rw [hd, run_cneg k] at h; exact absurd rfl h
      rw [e]
      constructor <;> (intro k; unfold brI at hb; rw [k] at hb; simp at hb)
  unfold kpT
  rw [m3_no hb.1, m3_no hb.2, if_neg (by decide), if_neg h]
theorem kp_triple {T : List UInt8} {a q : Nat} (hq : q = 34 ∨ q = 39) (h : m3 q (T.drop a) = true) : kpT T a = ([], 0, (a : Int)) := by
  unfold kpT
  rcases hq with rfl | rfl
  · rw [if_pos (Or.inl h)]
  · rw [if_pos (Or.inr h)]
theorem kp_quote {T : List UInt8} {a q : Nat} (hq : q = 34 ∨ q = 39) (hb : bt T a = q) (h : m3 q (T.drop a) = false) (hr : run brI (T.drop a) = 0) : kpT T a = unqT T (a : Int) := by
  unfold kpT
  rcases hq with rfl | rfl
  · rw [h, m3_no (q := 39) (by omega), if_neg (by decide), if_pos hr]
  · rw [h, m3_no (q := 34) (by omega), if_neg (by decide), if_pos hr]
theorem kp_none {T : List UInt8} {a : Nat} (ha : a ≤ T.length) (h1 : bt T a ≠ 34) (h2 : bt T a ≠ 39) (hr : run brI (T.drop a) = 0) : kpT T a = ([], 0, (a : Int)) := by
  unfold kpT
  rw [m3_no h1, m3_no h2, if_neg (by decide), if_pos hr]
  unfold unqT
  simp only [Int.toNat_natCast]
  rw [m3_no h1, m3_no h2, if_neg (by simp), if_neg (by simp), if_neg (fun k => h1 k.2), if_neg (fun k => h2 k.2), plc_nat T a ha]
theorem m3_at (t : ByteArray) (a q : Nat) (h : a + 2 < t.size) (h0 : t[a].toNat = q) : m3 q (t.data.toList.drop a) = (decide (t[a + 1].toNat = t[a].toNat) && decide (t[a + 2].toNat = t[a].toNat)) := by
  unfold m3
  rw [bt_drop, bt_drop, bt_drop, Nat.add_zero, bt_at t a (by omega), bt_at t (a + 1) (by omega), bt_at t (a + 2) h, h0, decide_eq_true rfl, Bool.true_and]
theorem m3_short (t : ByteArray) (a q : Nat) (hq : q < 256) (h : ¬ a + 2 < t.size) : m3 q (t.data.toList.drop a) = false := by
  unfold m3
  have e : bt (t.data.toList.drop a) 2 = 256 := by rw [bt_drop, bt_none (by rw [size_list]; omega)]
  rw [e, decide_eq_false (show ¬ 256 = q by omega), Bool.and_false]
/-- what the document's TUnquote answers at a quote -/
def RtUnq : Prop := ∀ (t : ByteArray) (a : Nat) (w : World), t.size ≤ 1000000 → ∀ ha : a < t.size, (t[a].toNat = 34 ∨ t[a].toNat = 39) →
    Calls Tryz.prog 47 #[.string t, .int .i64 (a : Int)] w fun e w' => e = .returned (.tuple #[.string (mkS (unqT t.data.toList a).1), .int .i64 ((unqT t.data.toList a).2.1 : Nat), .int .i64 (unqT t.data.toList a).2.2]) ∧ Below w.heap.size w w'
set_option maxRecDepth 100000 in
set_option maxHeartbeats 16000000 in
theorem rkey_in (HU : RtUnq) (t : ByteArray) (a0 : Nat) (w : World) (ht : t.size ≤ 1000000) (ha0 : a0 ≤ t.size) :
    Calls Tryz.prog 15 #[.string t, .int .i64 (a0 : Int)] w (KeyPost w (kyT t.data.toList (t.data.toList.length + 1) a0 [])) := by
  have HZ := hid (size_list t)
  obtain ⟨i0, hi, hz0, hz1, hz2⟩ := info_parts Tryz.info_str
  have CB := hid (fun (i : Nat) (h : i < t.size) X => rbare1 t i h X)
  have CS := hid (fun (n : Nat) (h : n ≤ t.size) X => show Calls Tryz.prog 18 #[.string t, .int .i64 (n : Int), .bool false] X _ from (by
    have := rskip_any t (n : Int) false X ht
    rw [sk_kd _ _ (by rw [HZ.out]; exact h)] at this; exact this))
  have HRN := hid (fun (a n : Nat) hn h1 h2 => run_at (p := brI) (t := t) (a := a) (n := n) hn h1 h2)
  have h5 : ¬ (t.size : Int) < (a0 : Int) := by omega
  obtain ⟨R, hR⟩ : ∃ R, kyT t.data.toList (t.data.toList.length + 1) a0 [] = R := ⟨_, rfl⟩
  have HR := hid hR
  rw [hR]
  clear hR
  go_enter Tryz.func15, Tryz.ntmps15
  go_wp2_with fail
  go_loopw [1, 7] (fun x v wr => ∃ (a f : Nat) (acc : List (List UInt8)), a ≤ t.size ∧ x = .int .i64 (a : Int) ∧ acc.length ≤ a ∧ Hid (wr.ownsRow w.heap.size 9 1 v acc.length (strV acc)) ∧ Hid (kyT t.data.toList f a acc = R) ∧ Hid (t.data.toList.length < a + f) ∧ Hid (Below w.heap.size w wr)) (fun x _ _ => t.size - (intOf x).toNat)
  case atStart => exact ⟨a0, t.data.toList.length + 1, [], ha0, rfl, Nat.zero_le _, World.ownsRow_nil _ _ _ _, HR.out, (show _ < _ by omega), Below.refl _ _⟩
  case round =>
    obtain ⟨a, f, acc, ha, rfl, hacc, HO, HK, HF, HB⟩ := hrel
    have haT : a ≤ t.data.toList.length := by rw [HZ.out]; exact ha
    have HBAD := hid (fun h => kyT_bad (acc := acc) HF.out haT h)
    have HEND := hid (fun h h2 => kyT_end (acc := acc) HF.out haT h h2)
    have HMORE := hid (fun h h2 => kyT_more (acc := acc) HF.out haT h h2)
    have HIN := hid (fun h => kpT_in t.data.toList a h)
    have HT := hid haT
    rw [HK.out] at HBAD HEND HMORE
    clear haT
    go_wp2_with fail
    go_loop [8] (fun x => ∃ j : Nat, a + j ≤ t.size ∧ x = .int .i64 ((a + j : Nat) : Int) ∧ Hid (∀ i, i < j → ∀ h : a + i < t.size, brI t[a + i] = true)) (fun x => t.size - (intOf x).toNat)
    case atStart => exact ⟨0, by omega, rfl, fun i h => absurd h (Nat.not_lt_zero _)⟩
    case round =>
      obtain ⟨j, hj, rfl, HJ⟩ := hrel
      have HGO : Hid (∀ h : a + j < t.size, brI t[a + j] = true → ∀ i, i < j + 1 → ∀ h : a + i < t.size, brI t[a + i] = true) := fun h hb i hi h' => by
        by_cases e : i = j
        · subst e; exact hb
        · exact HJ.out i (by omega) h'
      have HN := hid (fun h2 => HRN.out a j hj HJ.out h2)
      by_cases hstop : a + j < t.size ∧ brI (t.data.toList.getD (a + j) 0) = true
      · obtain ⟨hlt, hb0⟩ := hstop
        have hb : brI t[a + j] = true := by rw [← getD_at t (a + j) hlt]; exact hb0
        have CB2 := hid (CB.out (a + j) hlt)
        rw [hb] at CB2
        have HJ2 := hid (HGO.out hlt hb)
        clear hb hb0 HGO HN
        go_wp2_with (go_at_call 46; go_must (refine (CB2.out _).mono ?_; rintro e wx ⟨rfl, hw⟩; obtain rfl := hw.symm))
        go_round
        case rel => exact ⟨j + 1, by omega, val_int (by omega), HJ2.out⟩
        case measure => simp [intOf]; omega
      · have hrun := HN.out (fun h => by
          cases k : brI t[a + j] with
          | false => rfl
          | true => exact absurd ⟨h, by rw [getD_at t (a + j) h]; exact k⟩ hstop)
        have HRUN := hid hrun
        -- the bare loop's last test: at the end, or at a byte that is not bare
        have HST : Hid (∀ h : a + j < t.size, ∀ X, Calls Tryz.prog 46 #[.string (t.extract (a + j) (a + j + 1))] X fun e w' => e = .returned (.bool false) ∧ w' = X) := fun h X => by
          have := CB.out (a + j) h X
          have k : brI t[a + j] = false := by
            cases k : brI t[a + j] with
            | false => rfl
            | true => exact absurd ⟨h, by rw [getD_at t (a + j) h]; exact k⟩ hstop
          rw [k] at this; exact this
        clear hstop hrun HGO HN
        by_cases hj0 : j = 0
        · subst hj0
          have ea : a + 0 = a := rfl
          rw [ea] at HST ⊢
          clear ea
          by_cases hq : a < t.size ∧ (bt t.data.toList a = 34 ∨ bt t.data.toList a = 39)
          · obtain ⟨hal, hq⟩ := hq
            have HSN2 := hid (HST.out hal)
            have hba := bt_at t a hal
            rw [hba] at hq
            have hb256 := t[a].toNat_lt
            have hq1 : ((t[a].toNat : Int) == 34) = true ∨ (((t[a].toNat : Int) == 34) = false ∧ ((t[a].toNat : Int) == 39) = true) := by
              rcases hq with e | e
              · left; rw [beq_iff_eq]; omega
              · right; constructor
                · rw [beq_eq_false_iff_ne]; omega
                · rw [beq_iff_eq]; omega
            have CU := hid (fun X => HU t a X ht hal hq)
            have HM3 : Hid (m3 t[a].toNat (t.data.toList.drop a) = (decide (a + 2 < t.size) && (if h : a + 2 < t.size then decide (t[a + 1].toNat = t[a].toNat) && decide (t[a + 2].toNat = t[a].toNat) else false))) := by
              show _ = _
              by_cases h2 : a + 2 < t.size
              · rw [m3_at t a _ h2 rfl, decide_eq_true h2, dif_pos h2, Bool.true_and]
              · rw [m3_short t a _ hb256 h2, decide_eq_false h2, Bool.false_and]
            have HTRI := hid (fun h => kp_triple (T := t.data.toList) (a := a) hq h)
            have HQUO := hid (fun h => kp_quote (T := t.data.toList) (a := a) hq hba h (by have := HRUN.out; exact this))
            have hw1 : IntKind.i64.wrap ((a : Int) + 1) = (a : Int) + 1 := wrap_small (by omega) (by omega)
            have hw2 : IntKind.i64.wrap ((a : Int) + 2) = (a : Int) + 2 := wrap_small (by omega) (by omega)
            clear HST hba HRUN HJ hj
            cases hm3 : m3 t[a].toNat (t.data.toList.drop a) with
            | true =>
              rw [hm3] at HM3
              have h2 : a + 2 < t.size := by
                by_cases h2 : a + 2 < t.size
                · exact h2
                · have := HM3.out; rw [decide_eq_false h2] at this; simp at this
              have HM4 := HM3.out
              rw [decide_eq_true h2, dif_pos h2, Bool.true_and] at HM4
              have hm4 : t[a + 1].toNat = t[a].toNat ∧ t[a + 2].toNat = t[a].toNat := by simpa using HM4.symm
              have g3 : ((t[a + 1].toNat : Int) == (t[a].toNat : Int)) = true := by rw [beq_iff_eq]; omega
              have g4 : ((t[a + 2].toNat : Int) == (t[a].toNat : Int)) = true := by rw [beq_iff_eq]; omega
              have HKP := hid (HTRI.out hm3)
              have HRR := hid (HBAD.out (by rw [HKP.out]; show (0 : Int) ≤ (a : Int); omega))
              rw [HKP.out] at HRR
              clear HM3 HM4 hm4 hm3 HTRI HQUO HKP HBAD HEND HMORE HIN
              have hlt6 : a < t.size := hal
              have hlt7 : a + 1 < t.size := by omega
              have hlt8 : a + 2 < t.size := h2
              have gi : (a : Int) + 2 < (t.size : Int) := by omega
              have ix1 := idx_at t ((a : Int) + 1) (a + 1) (by omega) hlt7
              have ix2 := idx_at t ((a : Int) + 2) (a + 2) (by omega) hlt8
              rcases hq1 with g1 | ⟨g1, g2⟩
              · go_wp2_with (go_at_call 46; go_must (refine (HSN2.out _).mono ?_; rintro e w6 ⟨rfl, hw⟩; obtain rfl := hw.symm))
                go_quiet (fail)
                go_wp2_with fail
                go_ret3
                rw [HRR.out]
                exact key_nil _ _ 0 _ (eonto HB.out (tdrew_below _ _))
              · go_wp2_with (go_at_call 46; go_must (refine (HSN2.out _).mono ?_; rintro e w6 ⟨rfl, hw⟩; obtain rfl := hw.symm))
                go_quiet (fail)
                go_wp2_with fail
                go_ret3
                rw [HRR.out]
                exact key_nil _ _ 0 _ (eonto HB.out (tdrew_below _ _))
            | false =>
              rw [hm3] at HM3
              have HKP := hid (HQUO.out hm3)
              have HM4 : Hid (∀ h : a + 2 < t.size, ((t[a + 1].toNat : Int) == (t[a].toNat : Int)) = false ∨ (((t[a + 1].toNat : Int) == (t[a].toNat : Int)) = true ∧ ((t[a + 2].toNat : Int) == (t[a].toNat : Int)) = false)) := fun h => by
                have := HM3.out
                rw [decide_eq_true h, dif_pos h, Bool.true_and] at this
                by_cases e : t[a + 1].toNat = t[a].toNat
                · right
                  rw [decide_eq_true e, Bool.true_and] at this
                  exact ⟨by rw [beq_iff_eq]; omega, by rw [beq_eq_false_iff_ne]; have := of_decide_eq_false this.symm; omega⟩
                · left; rw [beq_eq_false_iff_ne]; omega
              clear HM3 hm3 HTRI HQUO
              rw [HKP.out] at HBAD HEND HMORE HIN
              generalize hk : unqT t.data.toList (a : Int) = k at *
              obtain ⟨p, n, bad⟩ := k
              clear hk HKP
              simp only at HBAD HEND HMORE HIN CU
              have HSN := hid (strV_snoc acc p)
              generalize mkS p = m at *
              have hg3 : (¬ a + 2 < t.size) ∨ (∃ h : a + 2 < t.size, ((t[a + 1].toNat : Int) == (t[a].toNat : Int)) = false) ∨ (∃ h : a + 2 < t.size, ((t[a + 1].toNat : Int) == (t[a].toNat : Int)) = true ∧ ((t[a + 2].toNat : Int) == (t[a].toNat : Int)) = false) := by
                by_cases h2 : a + 2 < t.size
                · exact Or.inr ((HM4.out h2).imp (fun e => ⟨h2, e⟩) (fun e => ⟨h2, e⟩))
                · exact Or.inl h2
              clear HM4
              have hlt6 : a < t.size := hal
              by_cases hbad : 0 ≤ bad
              · have HRR := hid (HBAD.out hbad)
                clear HBAD HEND HMORE HIN HSN
                rcases hg3 with h2 | ⟨h2, g3⟩ | ⟨h2, g3, g4⟩
                · have g3 : ¬ (a : Int) + 2 < (t.size : Int) := by omega
                  have g5 : decide ((a : Int) + 2 < (t.size : Int)) = false := decide_eq_false g3
                  rcases hq1 with g1 | ⟨g1, g2⟩
                  · clear hq
                    go_wp2_with (go_at_call 46; go_must (refine (HSN2.out _).mono ?_; rintro e w6 ⟨rfl, hw⟩; obtain rfl := hw.symm))
                    go_quiet (fail)
                    go_wp2_with fail
                    go_at_call 47
                    refine (CU.out _).mono ?_
                    rintro e w1 ⟨rfl, hb1⟩
                    go_wp2_with fail
                    go_ret3
                    rw [HRR.out]
                    exact key_nil _ _ 0 _ (eonto (eonto HB.out (tdrew_below _ _)) hb1)
                  · clear hq
                    go_wp2_with (go_at_call 46; go_must (refine (HSN2.out _).mono ?_; rintro e w6 ⟨rfl, hw⟩; obtain rfl := hw.symm))
                    go_quiet (fail)
                    go_wp2_with fail
                    go_at_call 47
                    refine (CU.out _).mono ?_
                    rintro e w1 ⟨rfl, hb1⟩
                    go_wp2_with fail
                    go_ret3
                    rw [HRR.out]
                    exact key_nil _ _ 0 _ (eonto (eonto HB.out (tdrew_below _ _)) hb1)
                · have hlt7 : a + 1 < t.size := by omega
                  have hlt8 : a + 2 < t.size := h2
                  have gi : (a : Int) + 2 < (t.size : Int) := by omega
                  have ix1 := idx_at t ((a : Int) + 1) (a + 1) (by omega) hlt7
                  have ix2 := idx_at t ((a : Int) + 2) (a + 2) (by omega) hlt8
                  rcases hq1 with g1 | ⟨g1, g2⟩
                  · clear hq
                    go_wp2_with (go_at_call 46; go_must (refine (HSN2.out _).mono ?_; rintro e w6 ⟨rfl, hw⟩; obtain rfl := hw.symm))
                    go_quiet (fail)
                    go_wp2_with fail
                    go_at_call 47
                    refine (CU.out _).mono ?_
                    rintro e w1 ⟨rfl, hb1⟩
                    go_wp2_with fail
                    go_ret3
                    rw [HRR.out]
                    exact key_nil _ _ 0 _ (eonto (eonto HB.out (tdrew_below _ _)) hb1)
                  · clear hq
                    go_wp2_with (go_at_call 46; go_must (refine (HSN2.out _).mono ?_; rintro e w6 ⟨rfl, hw⟩; obtain rfl := hw.symm))
                    go_quiet (fail)
                    go_wp2_with fail
                    go_at_call 47
                    refine (CU.out _).mono ?_
                    rintro e w1 ⟨rfl, hb1⟩
                    go_wp2_with fail
                    go_ret3
                    rw [HRR.out]
                    exact key_nil _ _ 0 _ (eonto (eonto HB.out (tdrew_below _ _)) hb1)
                · have hlt7 : a + 1 < t.size := by omega
                  have hlt8 : a + 2 < t.size := h2
                  have gi : (a : Int) + 2 < (t.size : Int) := by omega
                  have ix1 := idx_at t ((a : Int) + 1) (a + 1) (by omega) hlt7
                  have ix2 := idx_at t ((a : Int) + 2) (a + 2) (by omega) hlt8
                  rcases hq1 with g1 | ⟨g1, g2⟩
                  · clear hq
                    go_wp2_with (go_at_call 46; go_must (refine (HSN2.out _).mono ?_; rintro e w6 ⟨rfl, hw⟩; obtain rfl := hw.symm))
                    go_quiet (fail)
                    go_wp2_with fail
                    go_at_call 47
                    refine (CU.out _).mono ?_
                    rintro e w1 ⟨rfl, hb1⟩
                    go_wp2_with fail
                    go_ret3
                    rw [HRR.out]
                    exact key_nil _ _ 0 _ (eonto (eonto HB.out (tdrew_below _ _)) hb1)
                  · clear hq
                    go_wp2_with (go_at_call 46; go_must (refine (HSN2.out _).mono ?_; rintro e w6 ⟨rfl, hw⟩; obtain rfl := hw.symm))
                    go_quiet (fail)
                    go_wp2_with fail
                    go_at_call 47
                    refine (CU.out _).mono ?_
                    rintro e w1 ⟨rfl, hb1⟩
                    go_wp2_with fail
                    go_ret3
                    rw [HRR.out]
                    exact key_nil _ _ 0 _ (eonto (eonto HB.out (tdrew_below _ _)) hb1)
              · have hb2 : bad < 0 := by omega
                obtain ⟨hn1, hn2⟩ := HIN.out hb2
                rw [HZ.out] at hn2
                have HEND2 := hid (HEND.out hb2)
                have HMORE2 := hid (HMORE.out hb2)
                clear HBAD HEND HMORE HIN hbad HRN
                rcases hg3 with h2 | ⟨h2, g3⟩ | ⟨h2, g3, g4⟩
                · have g3 : ¬ (a : Int) + 2 < (t.size : Int) := by omega
                  have g5 : decide ((a : Int) + 2 < (t.size : Int)) = false := decide_eq_false g3
                  rcases hq1 with g1 | ⟨g1, g2⟩
                  · clear hq
                    have HLN : Hid ((acc ++ [p]).length = acc.length + 1) := by show _ = _; simp
                    have hkd := kdP_le t.data.toList n (by rw [HZ.out]; exact hn2)
                    rw [HZ.out] at hkd
                    obtain ⟨hkd1, hkd2⟩ := hkd
                    have CS2 := hid (CS.out n hn2)
                    by_cases hdot : bt t.data.toList (kdP t.data.toList n) = 46
                    · obtain ⟨f', HK2, HF2, hlt9, hle9, hd1⟩ := HMORE2.out hdot
                      have HK3 := hid HK2
                      have HF3 := hid HF2
                      rw [HZ.out] at hle9 hd1
                      have hdl : kdP t.data.toList n < t.size := by omega
                      have hbd := bt_at t (kdP t.data.toList n) hdl
                      have gd : ((t[kdP t.data.toList n].toNat : Int) != 46) = false := by rw [bne_eq_false_iff_eq]; omega
                      have CS3 := hid (CS.out (kdP t.data.toList n + 1) hd1)
                      clear HK2 HF2 HEND2 HMORE2 hdot hbd
                      generalize kdP t.data.toList (kdP t.data.toList n + 1) = d2 at *
                      generalize kdP t.data.toList n = d at *
                      have hcast : ((d + 1 : Nat) : Int) = (d : Int) + 1 := by omega
                      rw [hcast] at CS3
                      have hlt7 : d < t.size := hdl
                      go_wp2_with (go_at_call 46; go_must (refine (HSN2.out _).mono ?_; rintro e w6 ⟨rfl, hw⟩; obtain rfl := hw.symm))
                      go_quiet (fail)
                      go_wp2_with fail
                      go_at_call 47
                      refine (CU.out _).mono ?_
                      rintro e w1 ⟨rfl, hb1⟩
                      have HB1 := hid (eonto HB.out (eonto (tdrew_below _ _) hb1))
                      have HO1 := hid (ownsRow_below (ownsRow_below HO.out (tdrew_below _ _)) hb1)
                      have hsz := HB1.out.size
                      clear hb1
                      go_wp2_with (first
                        | (at_builtin; go_must (refine wpList_append_own _ rfl (.tmp 101) (.tmp 103) 34 rfl w.heap.size 9 i0 (.string ⟨#[]⟩) 1 16 Tryz.underlying34 hi hz0 hz1 hz2 rfl (by decide) _ acc.length _ rfl (HO1.out.alloc _) ⟨w1.heap.size, 0, none⟩ 1 1 [.string m] rfl rfl (new_cells w1 _ 9) (by simp [Value.oneCell']) (by unfold maxLen; omega) (by omega) (by simp; omega) ?_; intro v1 w2 hown1 hgr1 _))
                        | (go_at_call 18; go_must (first | ((with_reducible refine (CS2.out _).mono ?_); rintro e w3 ⟨rfl, hw⟩; obtain rfl := hw.symm) | ((with_reducible refine (CS3.out _).mono ?_); rintro e w5 ⟨rfl, hw⟩; obtain rfl := hw.symm))))
                      have hbw : Below w.heap.size w w2 := (HB1.out.alloc HB1.out.size _).grown hgr1 (by simp; omega) (fun j hj => (HO1.out.lt j hj).1)
                      go_roundw
                      case rel => exact ⟨d2, f', acc ++ [p], hle9, rfl, (by rw [HLN.out]; omega), (show World.ownsRow _ _ _ _ _ _ _ by rw [HLN.out, HSN.out]; exact hown1), HK3.out.symm, HF3.out, hbw⟩
                      case measure => simp [intOf]; omega
                    · have HRR := hid (HEND2.out hdot)
                      have HDL : Hid (∀ h : kdP t.data.toList n < t.size, ((t[kdP t.data.toList n].toNat : Int) != 46) = true) := fun h => by rw [bne_iff_ne]; have := bt_at t _ h; omega
                      clear HEND2 HMORE2 hdot
                      generalize kdP t.data.toList n = d at *
                      rcases Nat.lt_or_ge d t.size with hdl | hdl
                      · have gd := HDL.out hdl
                        have hlt7 : d < t.size := hdl
                        go_wp2_with (go_at_call 46; go_must (refine (HSN2.out _).mono ?_; rintro e w6 ⟨rfl, hw⟩; obtain rfl := hw.symm))
                        go_quiet (fail)
                        go_wp2_with fail
                        go_at_call 47
                        refine (CU.out _).mono ?_
                        rintro e w1 ⟨rfl, hb1⟩
                        have HB1 := hid (eonto HB.out (eonto (tdrew_below _ _) hb1))
                        have HO1 := hid (ownsRow_below (ownsRow_below HO.out (tdrew_below _ _)) hb1)
                        have hsz := HB1.out.size
                        clear hb1
                        go_wp2_with (first
                          | (at_builtin; go_must (refine wpList_append_own _ rfl (.tmp 101) (.tmp 103) 34 rfl w.heap.size 9 i0 (.string ⟨#[]⟩) 1 16 Tryz.underlying34 hi hz0 hz1 hz2 rfl (by decide) _ acc.length _ rfl (HO1.out.alloc _) ⟨w1.heap.size, 0, none⟩ 1 1 [.string m] rfl rfl (new_cells w1 _ 9) (by simp [Value.oneCell']) (by unfold maxLen; omega) (by omega) (by simp; omega) ?_; intro v1 w2 hown1 hgr1 _))
                          | (go_at_call 18; go_must (refine (CS2.out _).mono ?_; rintro e w3 ⟨rfl, hw⟩; obtain rfl := hw.symm)))
                        have hbw : Below w.heap.size w w2 := (HB1.out.alloc HB1.out.size _).grown hgr1 (by simp; omega) (fun j hj => (HO1.out.lt j hj).1)
                        go_ret3
                        rw [HRR.out]
                        exact ⟨_, rfl, (show World.ownsRow _ _ _ _ _ _ _ by simp only; rw [HLN.out, HSN.out]; exact hown1), hbw⟩
                      · have gd : ¬ (d : Int) < (t.size : Int) := by omega
                        go_wp2_with (go_at_call 46; go_must (refine (HSN2.out _).mono ?_; rintro e w6 ⟨rfl, hw⟩; obtain rfl := hw.symm))
                        go_quiet (fail)
                        go_wp2_with fail
                        go_at_call 47
                        refine (CU.out _).mono ?_
                        rintro e w1 ⟨rfl, hb1⟩
                        have HB1 := hid (eonto HB.out (eonto (tdrew_below _ _) hb1))
                        have HO1 := hid (ownsRow_below (ownsRow_below HO.out (tdrew_below _ _)) hb1)
                        have hsz := HB1.out.size
                        clear hb1
                        go_wp2_with (first
                          | (at_builtin; go_must (refine wpList_append_own _ rfl (.tmp 101) (.tmp 103) 34 rfl w.heap.size 9 i0 (.string ⟨#[]⟩) 1 16 Tryz.underlying34 hi hz0 hz1 hz2 rfl (by decide) _ acc.length _ rfl (HO1.out.alloc _) ⟨w1.heap.size, 0, none⟩ 1 1 [.string m] rfl rfl (new_cells w1 _ 9) (by simp [Value.oneCell']) (by unfold maxLen; omega) (by omega) (by simp; omega) ?_; intro v1 w2 hown1 hgr1 _))
                          | (go_at_call 18; go_must (refine (CS2.out _).mono ?_; rintro e w3 ⟨rfl, hw⟩; obtain rfl := hw.symm)))
                        have hbw : Below w.heap.size w w2 := (HB1.out.alloc HB1.out.size _).grown hgr1 (by simp; omega) (fun j hj => (HO1.out.lt j hj).1)
                        go_ret3
                        rw [HRR.out]
                        exact ⟨_, rfl, (show World.ownsRow _ _ _ _ _ _ _ by simp only; rw [HLN.out, HSN.out]; exact hown1), hbw⟩
                  · clear hq
                    have HLN : Hid ((acc ++ [p]).length = acc.length + 1) := by show _ = _; simp
                    have hkd := kdP_le t.data.toList n (by rw [HZ.out]; exact hn2)
                    rw [HZ.out] at hkd
                    obtain ⟨hkd1, hkd2⟩ := hkd
                    have CS2 := hid (CS.out n hn2)
                    by_cases hdot : bt t.data.toList (kdP t.data.toList n) = 46
                    · obtain ⟨f', HK2, HF2, hlt9, hle9, hd1⟩ := HMORE2.out hdot
                      have HK3 := hid HK2
                      have HF3 := hid HF2
                      rw [HZ.out] at hle9 hd1
                      have hdl : kdP t.data.toList n < t.size := by omega
                      have hbd := bt_at t (kdP t.data.toList n) hdl
                      have gd : ((t[kdP t.data.toList n].toNat : Int) != 46) = false := by rw [bne_eq_false_iff_eq]; omega
                      have CS3 := hid (CS.out (kdP t.data.toList n + 1) hd1)
                      clear HK2 HF2 HEND2 HMORE2 hdot hbd
                      generalize kdP t.data.toList (kdP t.data.toList n + 1) = d2 at *
                      generalize kdP t.data.toList n = d at *
                      have hcast : ((d + 1 : Nat) : Int) = (d : Int) + 1 := by omega
                      rw [hcast] at CS3
                      have hlt7 : d < t.size := hdl
                      go_wp2_with (go_at_call 46; go_must (refine (HSN2.out _).mono ?_; rintro e w6 ⟨rfl, hw⟩; obtain rfl := hw.symm))
                      go_quiet (fail)
                      go_wp2_with fail
                      go_at_call 47
                      refine (CU.out _).mono ?_
                      rintro e w1 ⟨rfl, hb1⟩
                      have HB1 := hid (eonto HB.out (eonto (tdrew_below _ _) hb1))
                      have HO1 := hid (ownsRow_below (ownsRow_below HO.out (tdrew_below _ _)) hb1)
                      have hsz := HB1.out.size
                      clear hb1
                      go_wp2_with (first
                        | (at_builtin; go_must (refine wpList_append_own _ rfl (.tmp 101) (.tmp 103) 34 rfl w.heap.size 9 i0 (.string ⟨#[]⟩) 1 16 Tryz.underlying34 hi hz0 hz1 hz2 rfl (by decide) _ acc.length _ rfl (HO1.out.alloc _) ⟨w1.heap.size, 0, none⟩ 1 1 [.string m] rfl rfl (new_cells w1 _ 9) (by simp [Value.oneCell']) (by unfold maxLen; omega) (by omega) (by simp; omega) ?_; intro v1 w2 hown1 hgr1 _))
                        | (go_at_call 18; go_must (first | ((with_reducible refine (CS2.out _).mono ?_); rintro e w3 ⟨rfl, hw⟩; obtain rfl := hw.symm) | ((with_reducible refine (CS3.out _).mono ?_); rintro e w5 ⟨rfl, hw⟩; obtain rfl := hw.symm))))
                      have hbw : Below w.heap.size w w2 := (HB1.out.alloc HB1.out.size _).grown hgr1 (by simp; omega) (fun j hj => (HO1.out.lt j hj).1)
                      go_roundw
                      case rel => exact ⟨d2, f', acc ++ [p], hle9, rfl, (by rw [HLN.out]; omega), (show World.ownsRow _ _ _ _ _ _ _ by rw [HLN.out, HSN.out]; exact hown1), HK3.out.symm, HF3.out, hbw⟩
                      case measure => simp [intOf]; omega
                    · have HRR := hid (HEND2.out hdot)
                      have HDL : Hid (∀ h : kdP t.data.toList n < t.size, ((t[kdP t.data.toList n].toNat : Int) != 46) = true) := fun h => by rw [bne_iff_ne]; have := bt_at t _ h; omega
                      clear HEND2 HMORE2 hdot
                      generalize kdP t.data.toList n = d at *
                      rcases Nat.lt_or_ge d t.size with hdl | hdl
                      · have gd := HDL.out hdl
                        have hlt7 : d < t.size := hdl
                        go_wp2_with (go_at_call 46; go_must (refine (HSN2.out _).mono ?_; rintro e w6 ⟨rfl, hw⟩; obtain rfl := hw.symm))
                        go_quiet (fail)
                        go_wp2_with fail
                        go_at_call 47
                        refine (CU.out _).mono ?_
                        rintro e w1 ⟨rfl, hb1⟩
                        have HB1 := hid (eonto HB.out (eonto (tdrew_below _ _) hb1))
                        have HO1 := hid (ownsRow_below (ownsRow_below HO.out (tdrew_below _ _)) hb1)
                        have hsz := HB1.out.size
                        clear hb1
                        go_wp2_with (first
                          | (at_builtin; go_must (refine wpList_append_own _ rfl (.tmp 101) (.tmp 103) 34 rfl w.heap.size 9 i0 (.string ⟨#[]⟩) 1 16 Tryz.underlying34 hi hz0 hz1 hz2 rfl (by decide) _ acc.length _ rfl (HO1.out.alloc _) ⟨w1.heap.size, 0, none⟩ 1 1 [.string m] rfl rfl (new_cells w1 _ 9) (by simp [Value.oneCell']) (by unfold maxLen; omega) (by omega) (by simp; omega) ?_; intro v1 w2 hown1 hgr1 _))
                          | (go_at_call 18; go_must (refine (CS2.out _).mono ?_; rintro e w3 ⟨rfl, hw⟩; obtain rfl := hw.symm)))
                        have hbw : Below w.heap.size w w2 := (HB1.out.alloc HB1.out.size _).grown hgr1 (by simp; omega) (fun j hj => (HO1.out.lt j hj).1)
                        go_ret3
                        rw [HRR.out]
                        exact ⟨_, rfl, (show World.ownsRow _ _ _ _ _ _ _ by simp only; rw [HLN.out, HSN.out]; exact hown1), hbw⟩
                      · have gd : ¬ (d : Int) < (t.size : Int) := by omega
                        go_wp2_with (go_at_call 46; go_must (refine (HSN2.out _).mono ?_; rintro e w6 ⟨rfl, hw⟩; obtain rfl := hw.symm))
                        go_quiet (fail)
                        go_wp2_with fail
                        go_at_call 47
                        refine (CU.out _).mono ?_
                        rintro e w1 ⟨rfl, hb1⟩
                        have HB1 := hid (eonto HB.out (eonto (tdrew_below _ _) hb1))
                        have HO1 := hid (ownsRow_below (ownsRow_below HO.out (tdrew_below _ _)) hb1)
                        have hsz := HB1.out.size
                        clear hb1
                        go_wp2_with (first
                          | (at_builtin; go_must (refine wpList_append_own _ rfl (.tmp 101) (.tmp 103) 34 rfl w.heap.size 9 i0 (.string ⟨#[]⟩) 1 16 Tryz.underlying34 hi hz0 hz1 hz2 rfl (by decide) _ acc.length _ rfl (HO1.out.alloc _) ⟨w1.heap.size, 0, none⟩ 1 1 [.string m] rfl rfl (new_cells w1 _ 9) (by simp [Value.oneCell']) (by unfold maxLen; omega) (by omega) (by simp; omega) ?_; intro v1 w2 hown1 hgr1 _))
                          | (go_at_call 18; go_must (refine (CS2.out _).mono ?_; rintro e w3 ⟨rfl, hw⟩; obtain rfl := hw.symm)))
                        have hbw : Below w.heap.size w w2 := (HB1.out.alloc HB1.out.size _).grown hgr1 (by simp; omega) (fun j hj => (HO1.out.lt j hj).1)
                        go_ret3
                        rw [HRR.out]
                        exact ⟨_, rfl, (show World.ownsRow _ _ _ _ _ _ _ by simp only; rw [HLN.out, HSN.out]; exact hown1), hbw⟩
                · have hlt7 : a + 1 < t.size := by omega
                  have hlt8 : a + 2 < t.size := h2
                  have gi : (a : Int) + 2 < (t.size : Int) := by omega
                  have ix1 := idx_at t ((a : Int) + 1) (a + 1) (by omega) hlt7
                  have ix2 := idx_at t ((a : Int) + 2) (a + 2) (by omega) hlt8
                  rcases hq1 with g1 | ⟨g1, g2⟩
                  · clear hq
                    have HLN : Hid ((acc ++ [p]).length = acc.length + 1) := by show _ = _; simp
                    have hkd := kdP_le t.data.toList n (by rw [HZ.out]; exact hn2)
                    rw [HZ.out] at hkd
                    obtain ⟨hkd1, hkd2⟩ := hkd
                    have CS2 := hid (CS.out n hn2)
                    by_cases hdot : bt t.data.toList (kdP t.data.toList n) = 46
                    · obtain ⟨f', HK2, HF2, hlt9, hle9, hd1⟩ := HMORE2.out hdot
                      have HK3 := hid HK2
                      have HF3 := hid HF2
                      rw [HZ.out] at hle9 hd1
                      have hdl : kdP t.data.toList n < t.size := by omega
                      have hbd := bt_at t (kdP t.data.toList n) hdl
                      have gd : ((t[kdP t.data.toList n].toNat : Int) != 46) = false := by rw [bne_eq_false_iff_eq]; omega
                      have CS3 := hid (CS.out (kdP t.data.toList n + 1) hd1)
                      clear HK2 HF2 HEND2 HMORE2 hdot hbd
                      generalize kdP t.data.toList (kdP t.data.toList n + 1) = d2 at *
                      generalize kdP t.data.toList n = d at *
                      have hcast : ((d + 1 : Nat) : Int) = (d : Int) + 1 := by omega
                      rw [hcast] at CS3
                      have hlt7 : d < t.size := hdl
                      go_wp2_with (go_at_call 46; go_must (refine (HSN2.out _).mono ?_; rintro e w6 ⟨rfl, hw⟩; obtain rfl := hw.symm))
                      go_quiet (fail)
                      go_wp2_with fail
                      go_at_call 47
                      refine (CU.out _).mono ?_
                      rintro e w1 ⟨rfl, hb1⟩
                      have HB1 := hid (eonto HB.out (eonto (tdrew_below _ _) hb1))
                      have HO1 := hid (ownsRow_below (ownsRow_below HO.out (tdrew_below _ _)) hb1)
                      have hsz := HB1.out.size
                      clear hb1
                      go_wp2_with (first
                        | (at_builtin; go_must (refine wpList_append_own _ rfl (.tmp 101) (.tmp 103) 34 rfl w.heap.size 9 i0 (.string ⟨#[]⟩) 1 16 Tryz.underlying34 hi hz0 hz1 hz2 rfl (by decide) _ acc.length _ rfl (HO1.out.alloc _) ⟨w1.heap.size, 0, none⟩ 1 1 [.string m] rfl rfl (new_cells w1 _ 9) (by simp [Value.oneCell']) (by unfold maxLen; omega) (by omega) (by simp; omega) ?_; intro v1 w2 hown1 hgr1 _))
                        | (go_at_call 18; go_must (first | ((with_reducible refine (CS2.out _).mono ?_); rintro e w3 ⟨rfl, hw⟩; obtain rfl := hw.symm) | ((with_reducible refine (CS3.out _).mono ?_); rintro e w5 ⟨rfl, hw⟩; obtain rfl := hw.symm))))
                      have hbw : Below w.heap.size w w2 := (HB1.out.alloc HB1.out.size _).grown hgr1 (by simp; omega) (fun j hj => (HO1.out.lt j hj).1)
                      go_roundw
                      case rel => exact ⟨d2, f', acc ++ [p], hle9, rfl, (by rw [HLN.out]; omega), (show World.ownsRow _ _ _ _ _ _ _ by rw [HLN.out, HSN.out]; exact hown1), HK3.out.symm, HF3.out, hbw⟩
                      case measure => simp [intOf]; omega
                    · have HRR := hid (HEND2.out hdot)
                      have HDL : Hid (∀ h : kdP t.data.toList n < t.size, ((t[kdP t.data.toList n].toNat : Int) != 46) = true) := fun h => by rw [bne_iff_ne]; have := bt_at t _ h; omega
                      clear HEND2 HMORE2 hdot
                      generalize kdP t.data.toList n = d at *
                      rcases Nat.lt_or_ge d t.size with hdl | hdl
                      · have gd := HDL.out hdl
                        have hlt7 : d < t.size := hdl
                        go_wp2_with (go_at_call 46; go_must (refine (HSN2.out _).mono ?_; rintro e w6 ⟨rfl, hw⟩; obtain rfl := hw.symm))
                        go_quiet (fail)
                        go_wp2_with fail
                        go_at_call 47
                        refine (CU.out _).mono ?_
                        rintro e w1 ⟨rfl, hb1⟩
                        have HB1 := hid (eonto HB.out (eonto (tdrew_below _ _) hb1))
                        have HO1 := hid (ownsRow_below (ownsRow_below HO.out (tdrew_below _ _)) hb1)
                        have hsz := HB1.out.size
                        clear hb1
                        go_wp2_with (first
                          | (at_builtin; go_must (refine wpList_append_own _ rfl (.tmp 101) (.tmp 103) 34 rfl w.heap.size 9 i0 (.string ⟨#[]⟩) 1 16 Tryz.underlying34 hi hz0 hz1 hz2 rfl (by decide) _ acc.length _ rfl (HO1.out.alloc _) ⟨w1.heap.size, 0, none⟩ 1 1 [.string m] rfl rfl (new_cells w1 _ 9) (by simp [Value.oneCell']) (by unfold maxLen; omega) (by omega) (by simp; omega) ?_; intro v1 w2 hown1 hgr1 _))
                          | (go_at_call 18; go_must (refine (CS2.out _).mono ?_; rintro e w3 ⟨rfl, hw⟩; obtain rfl := hw.symm)))
                        have hbw : Below w.heap.size w w2 := (HB1.out.alloc HB1.out.size _).grown hgr1 (by simp; omega) (fun j hj => (HO1.out.lt j hj).1)
                        go_ret3
                        rw [HRR.out]
                        exact ⟨_, rfl, (show World.ownsRow _ _ _ _ _ _ _ by simp only; rw [HLN.out, HSN.out]; exact hown1), hbw⟩
                      · have gd : ¬ (d : Int) < (t.size : Int) := by omega
                        go_wp2_with (go_at_call 46; go_must (refine (HSN2.out _).mono ?_; rintro e w6 ⟨rfl, hw⟩; obtain rfl := hw.symm))
                        go_quiet (fail)
                        go_wp2_with fail
                        go_at_call 47
                        refine (CU.out _).mono ?_
                        rintro e w1 ⟨rfl, hb1⟩
                        have HB1 := hid (eonto HB.out (eonto (tdrew_below _ _) hb1))
                        have HO1 := hid (ownsRow_below (ownsRow_below HO.out (tdrew_below _ _)) hb1)
                        have hsz := HB1.out.size
                        clear hb1
                        go_wp2_with (first
                          | (at_builtin; go_must (refine wpList_append_own _ rfl (.tmp 101) (.tmp 103) 34 rfl w.heap.size 9 i0 (.string ⟨#[]⟩) 1 16 Tryz.underlying34 hi hz0 hz1 hz2 rfl (by decide) _ acc.length _ rfl (HO1.out.alloc _) ⟨w1.heap.size, 0, none⟩ 1 1 [.string m] rfl rfl (new_cells w1 _ 9) (by simp [Value.oneCell']) (by unfold maxLen; omega) (by omega) (by simp; omega) ?_; intro v1 w2 hown1 hgr1 _))
                          | (go_at_call 18; go_must (refine (CS2.out _).mono ?_; rintro e w3 ⟨rfl, hw⟩; obtain rfl := hw.symm)))
                        have hbw : Below w.heap.size w w2 := (HB1.out.alloc HB1.out.size _).grown hgr1 (by simp; omega) (fun j hj => (HO1.out.lt j hj).1)
                        go_ret3
                        rw [HRR.out]
                        exact ⟨_, rfl, (show World.ownsRow _ _ _ _ _ _ _ by simp only; rw [HLN.out, HSN.out]; exact hown1), hbw⟩
                  · clear hq
                    have HLN : Hid ((acc ++ [p]).length = acc.length + 1) := by show _ = _; simp
                    have hkd := kdP_le t.data.toList n (by rw [HZ.out]; exact hn2)
                    rw [HZ.out] at hkd
                    obtain ⟨hkd1, hkd2⟩ := hkd
                    have CS2 := hid (CS.out n hn2)
                    by_cases hdot : bt t.data.toList (kdP t.data.toList n) = 46
                    · obtain ⟨f', HK2, HF2, hlt9, hle9, hd1⟩ := HMORE2.out hdot
                      have HK3 := hid HK2
                      have HF3 := hid HF2
                      rw [HZ.out] at hle9 hd1
                      have hdl : kdP t.data.toList n < t.size := by omega
                      have hbd := bt_at t (kdP t.data.toList n) hdl
                      have gd : ((t[kdP t.data.toList n].toNat : Int) != 46) = false := by rw [bne_eq_false_iff_eq]; omega
                      have CS3 := hid (CS.out (kdP t.data.toList n + 1) hd1)
                      clear HK2 HF2 HEND2 HMORE2 hdot hbd
                      generalize kdP t.data.toList (kdP t.data.toList n + 1) = d2 at *
                      generalize kdP t.data.toList n = d at *
                      have hcast : ((d + 1 : Nat) : Int) = (d : Int) + 1 := by omega
                      rw [hcast] at CS3
                      have hlt7 : d < t.size := hdl
                      go_wp2_with (go_at_call 46; go_must (refine (HSN2.out _).mono ?_; rintro e w6 ⟨rfl, hw⟩; obtain rfl := hw.symm))
                      go_quiet (fail)
                      go_wp2_with fail
                      go_at_call 47
                      refine (CU.out _).mono ?_
                      rintro e w1 ⟨rfl, hb1⟩
                      have HB1 := hid (eonto HB.out (eonto (tdrew_below _ _) hb1))
                      have HO1 := hid (ownsRow_below (ownsRow_below HO.out (tdrew_below _ _)) hb1)
                      have hsz := HB1.out.size
                      clear hb1
                      go_wp2_with (first
                        | (at_builtin; go_must (refine wpList_append_own _ rfl (.tmp 101) (.tmp 103) 34 rfl w.heap.size 9 i0 (.string ⟨#[]⟩) 1 16 Tryz.underlying34 hi hz0 hz1 hz2 rfl (by decide) _ acc.length _ rfl (HO1.out.alloc _) ⟨w1.heap.size, 0, none⟩ 1 1 [.string m] rfl rfl (new_cells w1 _ 9) (by simp [Value.oneCell']) (by unfold maxLen; omega) (by omega) (by simp; omega) ?_; intro v1 w2 hown1 hgr1 _))
                        | (go_at_call 18; go_must (first | ((with_reducible refine (CS2.out _).mono ?_); rintro e w3 ⟨rfl, hw⟩; obtain rfl := hw.symm) | ((with_reducible refine (CS3.out _).mono ?_); rintro e w5 ⟨rfl, hw⟩; obtain rfl := hw.symm))))
                      have hbw : Below w.heap.size w w2 := (HB1.out.alloc HB1.out.size _).grown hgr1 (by simp; omega) (fun j hj => (HO1.out.lt j hj).1)
                      go_roundw
                      case rel => exact ⟨d2, f', acc ++ [p], hle9, rfl, (by rw [HLN.out]; omega), (show World.ownsRow _ _ _ _ _ _ _ by rw [HLN.out, HSN.out]; exact hown1), HK3.out.symm, HF3.out, hbw⟩
                      case measure => simp [intOf]; omega
                    · have HRR := hid (HEND2.out hdot)
                      have HDL : Hid (∀ h : kdP t.data.toList n < t.size, ((t[kdP t.data.toList n].toNat : Int) != 46) = true) := fun h => by rw [bne_iff_ne]; have := bt_at t _ h; omega
                      clear HEND2 HMORE2 hdot
                      generalize kdP t.data.toList n = d at *
                      rcases Nat.lt_or_ge d t.size with hdl | hdl
                      · have gd := HDL.out hdl
                        have hlt7 : d < t.size := hdl
                        go_wp2_with (go_at_call 46; go_must (refine (HSN2.out _).mono ?_; rintro e w6 ⟨rfl, hw⟩; obtain rfl := hw.symm))
                        go_quiet (fail)
                        go_wp2_with fail
                        go_at_call 47
                        refine (CU.out _).mono ?_
                        rintro e w1 ⟨rfl, hb1⟩
                        have HB1 := hid (eonto HB.out (eonto (tdrew_below _ _) hb1))
                        have HO1 := hid (ownsRow_below (ownsRow_below HO.out (tdrew_below _ _)) hb1)
                        have hsz := HB1.out.size
                        clear hb1
                        go_wp2_with (first
                          | (at_builtin; go_must (refine wpList_append_own _ rfl (.tmp 101) (.tmp 103) 34 rfl w.heap.size 9 i0 (.string ⟨#[]⟩) 1 16 Tryz.underlying34 hi hz0 hz1 hz2 rfl (by decide) _ acc.length _ rfl (HO1.out.alloc _) ⟨w1.heap.size, 0, none⟩ 1 1 [.string m] rfl rfl (new_cells w1 _ 9) (by simp [Value.oneCell']) (by unfold maxLen; omega) (by omega) (by simp; omega) ?_; intro v1 w2 hown1 hgr1 _))
                          | (go_at_call 18; go_must (refine (CS2.out _).mono ?_; rintro e w3 ⟨rfl, hw⟩; obtain rfl := hw.symm)))
                        have hbw : Below w.heap.size w w2 := (HB1.out.alloc HB1.out.size _).grown hgr1 (by simp; omega) (fun j hj => (HO1.out.lt j hj).1)
                        go_ret3
                        rw [HRR.out]
                        exact ⟨_, rfl, (show World.ownsRow _ _ _ _ _ _ _ by simp only; rw [HLN.out, HSN.out]; exact hown1), hbw⟩
                      · have gd : ¬ (d : Int) < (t.size : Int) := by omega
                        go_wp2_with (go_at_call 46; go_must (refine (HSN2.out _).mono ?_; rintro e w6 ⟨rfl, hw⟩; obtain rfl := hw.symm))
                        go_quiet (fail)
                        go_wp2_with fail
                        go_at_call 47
                        refine (CU.out _).mono ?_
                        rintro e w1 ⟨rfl, hb1⟩
                        have HB1 := hid (eonto HB.out (eonto (tdrew_below _ _) hb1))
                        have HO1 := hid (ownsRow_below (ownsRow_below HO.out (tdrew_below _ _)) hb1)
                        have hsz := HB1.out.size
                        clear hb1
                        go_wp2_with (first
                          | (at_builtin; go_must (refine wpList_append_own _ rfl (.tmp 101) (.tmp 103) 34 rfl w.heap.size 9 i0 (.string ⟨#[]⟩) 1 16 Tryz.underlying34 hi hz0 hz1 hz2 rfl (by decide) _ acc.length _ rfl (HO1.out.alloc _) ⟨w1.heap.size, 0, none⟩ 1 1 [.string m] rfl rfl (new_cells w1 _ 9) (by simp [Value.oneCell']) (by unfold maxLen; omega) (by omega) (by simp; omega) ?_; intro v1 w2 hown1 hgr1 _))
                          | (go_at_call 18; go_must (refine (CS2.out _).mono ?_; rintro e w3 ⟨rfl, hw⟩; obtain rfl := hw.symm)))
                        have hbw : Below w.heap.size w w2 := (HB1.out.alloc HB1.out.size _).grown hgr1 (by simp; omega) (fun j hj => (HO1.out.lt j hj).1)
                        go_ret3
                        rw [HRR.out]
                        exact ⟨_, rfl, (show World.ownsRow _ _ _ _ _ _ _ by simp only; rw [HLN.out, HSN.out]; exact hown1), hbw⟩
                · have hlt7 : a + 1 < t.size := by omega
                  have hlt8 : a + 2 < t.size := h2
                  have gi : (a : Int) + 2 < (t.size : Int) := by omega
                  have ix1 := idx_at t ((a : Int) + 1) (a + 1) (by omega) hlt7
                  have ix2 := idx_at t ((a : Int) + 2) (a + 2) (by omega) hlt8
                  rcases hq1 with g1 | ⟨g1, g2⟩
                  · clear hq
                    have HLN : Hid ((acc ++ [p]).length = acc.length + 1) := by show _ = _; simp
                    have hkd := kdP_le t.data.toList n (by rw [HZ.out]; exact hn2)
                    rw [HZ.out] at hkd
                    obtain ⟨hkd1, hkd2⟩ := hkd
                    have CS2 := hid (CS.out n hn2)
                    by_cases hdot : bt t.data.toList (kdP t.data.toList n) = 46
                    · obtain ⟨f', HK2, HF2, hlt9, hle9, hd1⟩ := HMORE2.out hdot
                      have HK3 := hid HK2
                      have HF3 := hid HF2
                      rw [HZ.out] at hle9 hd1
                      have hdl : kdP t.data.toList n < t.size := by omega
                      have hbd := bt_at t (kdP t.data.toList n) hdl
                      have gd : ((t[kdP t.data.toList n].toNat : Int) != 46) = false := by rw [bne_eq_false_iff_eq]; omega
                      have CS3 := hid (CS.out (kdP t.data.toList n + 1) hd1)
                      clear HK2 HF2 HEND2 HMORE2 hdot hbd
                      generalize kdP t.data.toList (kdP t.data.toList n + 1) = d2 at *
                      generalize kdP t.data.toList n = d at *
                      have hcast : ((d + 1 : Nat) : Int) = (d : Int) + 1 := by omega
                      rw [hcast] at CS3
                      have hlt7 : d < t.size := hdl
                      go_wp2_with (go_at_call 46; go_must (refine (HSN2.out _).mono ?_; rintro e w6 ⟨rfl, hw⟩; obtain rfl := hw.symm))
                      go_quiet (fail)
                      go_wp2_with fail
                      go_at_call 47
                      refine (CU.out _).mono ?_
                      rintro e w1 ⟨rfl, hb1⟩
                      have HB1 := hid (eonto HB.out (eonto (tdrew_below _ _) hb1))
                      have HO1 := hid (ownsRow_below (ownsRow_below HO.out (tdrew_below _ _)) hb1)
                      have hsz := HB1.out.size
                      clear hb1
                      go_wp2_with (first
                        | (at_builtin; go_must (refine wpList_append_own _ rfl (.tmp 101) (.tmp 103) 34 rfl w.heap.size 9 i0 (.string ⟨#[]⟩) 1 16 Tryz.underlying34 hi hz0 hz1 hz2 rfl (by decide) _ acc.length _ rfl (HO1.out.alloc _) ⟨w1.heap.size, 0, none⟩ 1 1 [.string m] rfl rfl (new_cells w1 _ 9) (by simp [Value.oneCell']) (by unfold maxLen; omega) (by omega) (by simp; omega) ?_; intro v1 w2 hown1 hgr1 _))
                        | (go_at_call 18; go_must (first | ((with_reducible refine (CS2.out _).mono ?_); rintro e w3 ⟨rfl, hw⟩; obtain rfl := hw.symm) | ((with_reducible refine (CS3.out _).mono ?_); rintro e w5 ⟨rfl, hw⟩; obtain rfl := hw.symm))))
                      have hbw : Below w.heap.size w w2 := (HB1.out.alloc HB1.out.size _).grown hgr1 (by simp; omega) (fun j hj => (HO1.out.lt j hj).1)
                      go_roundw
                      case rel => exact ⟨d2, f', acc ++ [p], hle9, rfl, (by rw [HLN.out]; omega), (show World.ownsRow _ _ _ _ _ _ _ by rw [HLN.out, HSN.out]; exact hown1), HK3.out.symm, HF3.out, hbw⟩
                      case measure => simp [intOf]; omega
                    · have HRR := hid (HEND2.out hdot)
                      have HDL : Hid (∀ h : kdP t.data.toList n < t.size, ((t[kdP t.data.toList n].toNat : Int) != 46) = true) := fun h => by rw [bne_iff_ne]; have := bt_at t _ h; omega
                      clear HEND2 HMORE2 hdot
                      generalize kdP t.data.toList n = d at *
                      rcases Nat.lt_or_ge d t.size with hdl | hdl
                      · have gd := HDL.out hdl
                        have hlt7 : d < t.size := hdl
                        go_wp2_with (go_at_call 46; go_must (refine (HSN2.out _).mono ?_; rintro e w6 ⟨rfl, hw⟩; obtain rfl := hw.symm))
                        go_quiet (fail)
                        go_wp2_with fail
                        go_at_call 47
                        refine (CU.out _).mono ?_
                        rintro e w1 ⟨rfl, hb1⟩
                        have HB1 := hid (eonto HB.out (eonto (tdrew_below _ _) hb1))
                        have HO1 := hid (ownsRow_below (ownsRow_below HO.out (tdrew_below _ _)) hb1)
                        have hsz := HB1.out.size
                        clear hb1
                        go_wp2_with (first
                          | (at_builtin; go_must (refine wpList_append_own _ rfl (.tmp 101) (.tmp 103) 34 rfl w.heap.size 9 i0 (.string ⟨#[]⟩) 1 16 Tryz.underlying34 hi hz0 hz1 hz2 rfl (by decide) _ acc.length _ rfl (HO1.out.alloc _) ⟨w1.heap.size, 0, none⟩ 1 1 [.string m] rfl rfl (new_cells w1 _ 9) (by simp [Value.oneCell']) (by unfold maxLen; omega) (by omega) (by simp; omega) ?_; intro v1 w2 hown1 hgr1 _))
                          | (go_at_call 18; go_must (refine (CS2.out _).mono ?_; rintro e w3 ⟨rfl, hw⟩; obtain rfl := hw.symm)))
                        have hbw : Below w.heap.size w w2 := (HB1.out.alloc HB1.out.size _).grown hgr1 (by simp; omega) (fun j hj => (HO1.out.lt j hj).1)
                        go_ret3
                        rw [HRR.out]
                        exact ⟨_, rfl, (show World.ownsRow _ _ _ _ _ _ _ by simp only; rw [HLN.out, HSN.out]; exact hown1), hbw⟩
                      · have gd : ¬ (d : Int) < (t.size : Int) := by omega
                        go_wp2_with (go_at_call 46; go_must (refine (HSN2.out _).mono ?_; rintro e w6 ⟨rfl, hw⟩; obtain rfl := hw.symm))
                        go_quiet (fail)
                        go_wp2_with fail
                        go_at_call 47
                        refine (CU.out _).mono ?_
                        rintro e w1 ⟨rfl, hb1⟩
                        have HB1 := hid (eonto HB.out (eonto (tdrew_below _ _) hb1))
                        have HO1 := hid (ownsRow_below (ownsRow_below HO.out (tdrew_below _ _)) hb1)
                        have hsz := HB1.out.size
                        clear hb1
                        go_wp2_with (first
                          | (at_builtin; go_must (refine wpList_append_own _ rfl (.tmp 101) (.tmp 103) 34 rfl w.heap.size 9 i0 (.string ⟨#[]⟩) 1 16 Tryz.underlying34 hi hz0 hz1 hz2 rfl (by decide) _ acc.length _ rfl (HO1.out.alloc _) ⟨w1.heap.size, 0, none⟩ 1 1 [.string m] rfl rfl (new_cells w1 _ 9) (by simp [Value.oneCell']) (by unfold maxLen; omega) (by omega) (by simp; omega) ?_; intro v1 w2 hown1 hgr1 _))
                          | (go_at_call 18; go_must (refine (CS2.out _).mono ?_; rintro e w3 ⟨rfl, hw⟩; obtain rfl := hw.symm)))
                        have hbw : Below w.heap.size w w2 := (HB1.out.alloc HB1.out.size _).grown hgr1 (by simp; omega) (fun j hj => (HO1.out.lt j hj).1)
                        go_ret3
                        rw [HRR.out]
                        exact ⟨_, rfl, (show World.ownsRow _ _ _ _ _ _ _ by simp only; rw [HLN.out, HSN.out]; exact hown1), hbw⟩
                  · clear hq
                    have HLN : Hid ((acc ++ [p]).length = acc.length + 1) := by show _ = _; simp
                    have hkd := kdP_le t.data.toList n (by rw [HZ.out]; exact hn2)
                    rw [HZ.out] at hkd
                    obtain ⟨hkd1, hkd2⟩ := hkd
                    have CS2 := hid (CS.out n hn2)
                    by_cases hdot : bt t.data.toList (kdP t.data.toList n) = 46
                    · obtain ⟨f', HK2, HF2, hlt9, hle9, hd1⟩ := HMORE2.out hdot
                      have HK3 := hid HK2
                      have HF3 := hid HF2
                      rw [HZ.out] at hle9 hd1
                      have hdl : kdP t.data.toList n < t.size := by omega
                      have hbd := bt_at t (kdP t.data.toList n) hdl
                      have gd : ((t[kdP t.data.toList n].toNat : Int) != 46) = false := by rw [bne_eq_false_iff_eq]; omega
                      have CS3 := hid (CS.out (kdP t.data.toList n + 1) hd1)
                      clear HK2 HF2 HEND2 HMORE2 hdot hbd
                      generalize kdP t.data.toList (kdP t.data.toList n + 1) = d2 at *
                      generalize kdP t.data.toList n = d at *
                      have hcast : ((d + 1 : Nat) : Int) = (d : Int) + 1 := by omega
                      rw [hcast] at CS3
                      have hlt7 : d < t.size := hdl
                      go_wp2_with (go_at_call 46; go_must (refine (HSN2.out _).mono ?_; rintro e w6 ⟨rfl, hw⟩; obtain rfl := hw.symm))
                      go_quiet (fail)
                      go_wp2_with fail
                      go_at_call 47
                      refine (CU.out _).mono ?_
                      rintro e w1 ⟨rfl, hb1⟩
                      have HB1 := hid (eonto HB.out (eonto (tdrew_below _ _) hb1))
                      have HO1 := hid (ownsRow_below (ownsRow_below HO.out (tdrew_below _ _)) hb1)
                      have hsz := HB1.out.size
                      clear hb1
                      go_wp2_with (first
                        | (at_builtin; go_must (refine wpList_append_own _ rfl (.tmp 101) (.tmp 103) 34 rfl w.heap.size 9 i0 (.string ⟨#[]⟩) 1 16 Tryz.underlying34 hi hz0 hz1 hz2 rfl (by decide) _ acc.length _ rfl (HO1.out.alloc _) ⟨w1.heap.size, 0, none⟩ 1 1 [.string m] rfl rfl (new_cells w1 _ 9) (by simp [Value.oneCell']) (by unfold maxLen; omega) (by omega) (by simp; omega) ?_; intro v1 w2 hown1 hgr1 _))
                        | (go_at_call 18; go_must (first | ((with_reducible refine (CS2.out _).mono ?_); rintro e w3 ⟨rfl, hw⟩; obtain rfl := hw.symm) | ((with_reducible refine (CS3.out _).mono ?_); rintro e w5 ⟨rfl, hw⟩; obtain rfl := hw.symm))))
                      have hbw : Below w.heap.size w w2 := (HB1.out.alloc HB1.out.size _).grown hgr1 (by simp; omega) (fun j hj => (HO1.out.lt j hj).1)
                      go_roundw
                      case rel => exact ⟨d2, f', acc ++ [p], hle9, rfl, (by rw [HLN.out]; omega), (show World.ownsRow _ _ _ _ _ _ _ by rw [HLN.out, HSN.out]; exact hown1), HK3.out.symm, HF3.out, hbw⟩
                      case measure => simp [intOf]; omega
                    · have HRR := hid (HEND2.out hdot)
                      have HDL : Hid (∀ h : kdP t.data.toList n < t.size, ((t[kdP t.data.toList n].toNat : Int) != 46) = true) := fun h => by rw [bne_iff_ne]; have := bt_at t _ h; omega
                      clear HEND2 HMORE2 hdot
                      generalize kdP t.data.toList n = d at *
                      rcases Nat.lt_or_ge d t.size with hdl | hdl
                      · have gd := HDL.out hdl
                        have hlt7 : d < t.size := hdl
                        go_wp2_with (go_at_call 46; go_must (refine (HSN2.out _).mono ?_; rintro e w6 ⟨rfl, hw⟩; obtain rfl := hw.symm))
                        go_quiet (fail)
                        go_wp2_with fail
                        go_at_call 47
                        refine (CU.out _).mono ?_
                        rintro e w1 ⟨rfl, hb1⟩
                        have HB1 := hid (eonto HB.out (eonto (tdrew_below _ _) hb1))
                        have HO1 := hid (ownsRow_below (ownsRow_below HO.out (tdrew_below _ _)) hb1)
                        have hsz := HB1.out.size
                        clear hb1
                        go_wp2_with (first
                          | (at_builtin; go_must (refine wpList_append_own _ rfl (.tmp 101) (.tmp 103) 34 rfl w.heap.size 9 i0 (.string ⟨#[]⟩) 1 16 Tryz.underlying34 hi hz0 hz1 hz2 rfl (by decide) _ acc.length _ rfl (HO1.out.alloc _) ⟨w1.heap.size, 0, none⟩ 1 1 [.string m] rfl rfl (new_cells w1 _ 9) (by simp [Value.oneCell']) (by unfold maxLen; omega) (by omega) (by simp; omega) ?_; intro v1 w2 hown1 hgr1 _))
                          | (go_at_call 18; go_must (refine (CS2.out _).mono ?_; rintro e w3 ⟨rfl, hw⟩; obtain rfl := hw.symm)))
                        have hbw : Below w.heap.size w w2 := (HB1.out.alloc HB1.out.size _).grown hgr1 (by simp; omega) (fun j hj => (HO1.out.lt j hj).1)
                        go_ret3
                        rw [HRR.out]
                        exact ⟨_, rfl, (show World.ownsRow _ _ _ _ _ _ _ by simp only; rw [HLN.out, HSN.out]; exact hown1), hbw⟩
                      · have gd : ¬ (d : Int) < (t.size : Int) := by omega
                        go_wp2_with (go_at_call 46; go_must (refine (HSN2.out _).mono ?_; rintro e w6 ⟨rfl, hw⟩; obtain rfl := hw.symm))
                        go_quiet (fail)
                        go_wp2_with fail
                        go_at_call 47
                        refine (CU.out _).mono ?_
                        rintro e w1 ⟨rfl, hb1⟩
                        have HB1 := hid (eonto HB.out (eonto (tdrew_below _ _) hb1))
                        have HO1 := hid (ownsRow_below (ownsRow_below HO.out (tdrew_below _ _)) hb1)
                        have hsz := HB1.out.size
                        clear hb1
                        go_wp2_with (first
                          | (at_builtin; go_must (refine wpList_append_own _ rfl (.tmp 101) (.tmp 103) 34 rfl w.heap.size 9 i0 (.string ⟨#[]⟩) 1 16 Tryz.underlying34 hi hz0 hz1 hz2 rfl (by decide) _ acc.length _ rfl (HO1.out.alloc _) ⟨w1.heap.size, 0, none⟩ 1 1 [.string m] rfl rfl (new_cells w1 _ 9) (by simp [Value.oneCell']) (by unfold maxLen; omega) (by omega) (by simp; omega) ?_; intro v1 w2 hown1 hgr1 _))
                          | (go_at_call 18; go_must (refine (CS2.out _).mono ?_; rintro e w3 ⟨rfl, hw⟩; obtain rfl := hw.symm)))
                        have hbw : Below w.heap.size w w2 := (HB1.out.alloc HB1.out.size _).grown hgr1 (by simp; omega) (fun j hj => (HO1.out.lt j hj).1)
                        go_ret3
                        rw [HRR.out]
                        exact ⟨_, rfl, (show World.ownsRow _ _ _ _ _ _ _ by simp only; rw [HLN.out, HSN.out]; exact hown1), hbw⟩
          · have HSN2 : Hid (∀ h : a < t.size, ∀ X, Calls Tryz.prog 46 #[.string (t.extract a (a + 1))] X fun e w' => e = .returned (.bool false) ∧ w' = X) := HST.out
            have HNB : Hid (∀ h : a < t.size, ((t[a].toNat : Int) == 34) = false ∧ ((t[a].toNat : Int) == 39) = false) := fun h => by
              have := bt_at t a h
              constructor
              · rw [beq_eq_false_iff_ne]; intro e; exact hq ⟨h, Or.inl (by omega)⟩
              · rw [beq_eq_false_iff_ne]; intro e; exact hq ⟨h, Or.inr (by omega)⟩
            have HKP := hid (kp_none (T := t.data.toList) (a := a) HT.out (fun e => hq ⟨by have := bt_lt (l := t.data.toList) (k := a) (by omega); rw [HZ.out] at this; exact this, Or.inl e⟩) (fun e => hq ⟨by have := bt_lt (l := t.data.toList) (k := a) (by omega); rw [HZ.out] at this; exact this, Or.inr e⟩) HRUN.out)
            have HRR := hid (HBAD.out (by rw [HKP.out]; show (0 : Int) ≤ (a : Int); omega))
            rw [HKP.out] at HRR
            clear hq HST HKP HBAD HEND HMORE HIN HRUN
            rcases Nat.lt_or_ge a t.size with hal | hal
            · have HSN3 := hid (HSN2.out hal)
              obtain ⟨g1, g2⟩ := HNB.out hal
              have hb256 := t[a].toNat_lt
              clear HSN2 HNB
              have hlt7 : a < t.size := hal
              go_wp2_with (go_at_call 46; go_must (refine (HSN3.out _).mono ?_; rintro e w6 ⟨rfl, hw⟩; obtain rfl := hw.symm))
              go_ret3
              rw [HRR.out]
              exact key_nil _ _ 0 _ HB.out
            · have hng : ¬ (a : Int) < (t.size : Int) := by omega
              go_wp2_with fail
              go_ret3
              rw [HRR.out]
              exact key_nil _ _ 0 _ HB.out
        · -- a bare part
          have HKP := hid (kp_bare (T := t.data.toList) (a := a) (by rw [HRUN.out]; exact hj0))
          rw [HRUN.out] at HKP
          obtain ⟨p, hp⟩ : ∃ p, (t.data.toList.drop a).take j = p := ⟨_, rfl⟩
          obtain ⟨n, hn⟩ : ∃ n, a + j = n := ⟨_, rfl⟩
          have hn2 : n ≤ t.size := by omega
          have hjn : a < n := by omega
          have hm : t.extract a n = mkS p := by rw [← hn, ext_mkS, hp]
          rw [hp, hn] at HKP
          have HEND2 := hid (HEND.out (by rw [HKP.out]; show (-1 : Int) < 0; decide))
          have HMORE2 := hid (HMORE.out (by rw [HKP.out]; show (-1 : Int) < 0; decide))
          rw [HKP.out] at HEND2 HMORE2
          simp only at HEND2 HMORE2
          have HSN := hid (show strV (acc ++ [p]) = strV acc ++ [.string (t.extract a n)] by rw [strV_snoc, hm])
          have HSTn : Hid (∀ h : n < t.size, ∀ X, Calls Tryz.prog 46 #[.string (t.extract n (n + 1))] X fun e w' => e = .returned (.bool false) ∧ w' = X) := by rw [← hn]; exact HST.out
          rw [hn]
          have HB1 := HB
          have HO1 := HO
          have hsz := HB1.out.size
          clear HB HO HKP HST HJ hp hm hn hj hj0 HRUN HBAD HEND HMORE HIN HRN
          rcases Nat.lt_or_ge n t.size with hnl | hnl
          · have HSN2 := hid (HSTn.out hnl)
            clear HSTn
            have HLN : Hid ((acc ++ [p]).length = acc.length + 1) := by show _ = _; simp
            have hkd := kdP_le t.data.toList n (by rw [HZ.out]; exact hn2)
            rw [HZ.out] at hkd
            obtain ⟨hkd1, hkd2⟩ := hkd
            have CS2 := hid (CS.out n hn2)
            by_cases hdot : bt t.data.toList (kdP t.data.toList n) = 46
            · obtain ⟨f', HK2, HF2, hlt9, hle9, hd1⟩ := HMORE2.out hdot
              have HK3 := hid HK2
              have HF3 := hid HF2
              rw [HZ.out] at hle9 hd1
              have hdl : kdP t.data.toList n < t.size := by omega
              have hbd := bt_at t (kdP t.data.toList n) hdl
              have gd : ((t[kdP t.data.toList n].toNat : Int) != 46) = false := by rw [bne_eq_false_iff_eq]; omega
              have CS3 := hid (CS.out (kdP t.data.toList n + 1) hd1)
              clear HK2 HF2 HEND2 HMORE2 hdot hbd
              generalize kdP t.data.toList (kdP t.data.toList n + 1) = d2 at *
              generalize kdP t.data.toList n = d at *
              have hcast : ((d + 1 : Nat) : Int) = (d : Int) + 1 := by omega
              rw [hcast] at CS3
              have hlt7 : d < t.size := hdl
              go_wp2_with (first
                | (go_at_call 46; go_must (refine (HSN2.out _).mono ?_; rintro e w6 ⟨rfl, hw⟩; obtain rfl := hw.symm))
                | (at_builtin; go_must (refine wpList_append_own _ rfl (.tmp 40) (.tmp 45) 34 rfl w.heap.size 9 i0 (.string ⟨#[]⟩) 1 16 Tryz.underlying34 hi hz0 hz1 hz2 rfl (by decide) _ acc.length _ rfl (HO1.out.alloc _) ⟨wr.heap.size, 0, none⟩ 1 1 [.string (t.extract a n)] rfl rfl (new_cells wr _ 9) (by simp [Value.oneCell']) (by unfold maxLen; omega) (by omega) (by simp; omega) ?_; intro v1 w2 hown1 hgr1 _))
                | (go_at_call 18; go_must (first | ((with_reducible refine (CS2.out _).mono ?_); rintro e w3 ⟨rfl, hw⟩; obtain rfl := hw.symm) | ((with_reducible refine (CS3.out _).mono ?_); rintro e w5 ⟨rfl, hw⟩; obtain rfl := hw.symm))))
              have hbw : Below w.heap.size w w2 := (HB1.out.alloc HB1.out.size _).grown hgr1 (by simp; omega) (fun j hj => (HO1.out.lt j hj).1)
              go_roundw
              case rel => exact ⟨d2, f', acc ++ [p], hle9, rfl, (by rw [HLN.out]; omega), (show World.ownsRow _ _ _ _ _ _ _ by rw [HLN.out, HSN.out]; exact hown1), HK3.out.symm, HF3.out, hbw⟩
              case measure => simp [intOf]; omega
            · have HRR := hid (HEND2.out hdot)
              have HDL : Hid (∀ h : kdP t.data.toList n < t.size, ((t[kdP t.data.toList n].toNat : Int) != 46) = true) := fun h => by rw [bne_iff_ne]; have := bt_at t _ h; omega
              clear HEND2 HMORE2 hdot
              generalize kdP t.data.toList n = d at *
              rcases Nat.lt_or_ge d t.size with hdl | hdl
              · have gd := HDL.out hdl
                have hlt7 : d < t.size := hdl
                go_wp2_with (first
                  | (go_at_call 46; go_must (refine (HSN2.out _).mono ?_; rintro e w6 ⟨rfl, hw⟩; obtain rfl := hw.symm))
                  | (at_builtin; go_must (refine wpList_append_own _ rfl (.tmp 40) (.tmp 45) 34 rfl w.heap.size 9 i0 (.string ⟨#[]⟩) 1 16 Tryz.underlying34 hi hz0 hz1 hz2 rfl (by decide) _ acc.length _ rfl (HO1.out.alloc _) ⟨wr.heap.size, 0, none⟩ 1 1 [.string (t.extract a n)] rfl rfl (new_cells wr _ 9) (by simp [Value.oneCell']) (by unfold maxLen; omega) (by omega) (by simp; omega) ?_; intro v1 w2 hown1 hgr1 _))
                  | (go_at_call 18; go_must (refine (CS2.out _).mono ?_; rintro e w3 ⟨rfl, hw⟩; obtain rfl := hw.symm)))
                have hbw : Below w.heap.size w w2 := (HB1.out.alloc HB1.out.size _).grown hgr1 (by simp; omega) (fun j hj => (HO1.out.lt j hj).1)
                go_ret3
                rw [HRR.out]
                exact ⟨_, rfl, (show World.ownsRow _ _ _ _ _ _ _ by simp only; rw [HLN.out, HSN.out]; exact hown1), hbw⟩
              · have gd : ¬ (d : Int) < (t.size : Int) := by omega
                go_wp2_with (first
                  | (go_at_call 46; go_must (refine (HSN2.out _).mono ?_; rintro e w6 ⟨rfl, hw⟩; obtain rfl := hw.symm))
                  | (at_builtin; go_must (refine wpList_append_own _ rfl (.tmp 40) (.tmp 45) 34 rfl w.heap.size 9 i0 (.string ⟨#[]⟩) 1 16 Tryz.underlying34 hi hz0 hz1 hz2 rfl (by decide) _ acc.length _ rfl (HO1.out.alloc _) ⟨wr.heap.size, 0, none⟩ 1 1 [.string (t.extract a n)] rfl rfl (new_cells wr _ 9) (by simp [Value.oneCell']) (by unfold maxLen; omega) (by omega) (by simp; omega) ?_; intro v1 w2 hown1 hgr1 _))
                  | (go_at_call 18; go_must (refine (CS2.out _).mono ?_; rintro e w3 ⟨rfl, hw⟩; obtain rfl := hw.symm)))
                have hbw : Below w.heap.size w w2 := (HB1.out.alloc HB1.out.size _).grown hgr1 (by simp; omega) (fun j hj => (HO1.out.lt j hj).1)
                go_ret3
                rw [HRR.out]
                exact ⟨_, rfl, (show World.ownsRow _ _ _ _ _ _ _ by simp only; rw [HLN.out, HSN.out]; exact hown1), hbw⟩
          · have hng : ¬ (n : Int) < (t.size : Int) := by omega
            clear HSTn
            have HLN : Hid ((acc ++ [p]).length = acc.length + 1) := by show _ = _; simp
            have hkd := kdP_le t.data.toList n (by rw [HZ.out]; exact hn2)
            rw [HZ.out] at hkd
            obtain ⟨hkd1, hkd2⟩ := hkd
            have CS2 := hid (CS.out n hn2)
            have hnd : ¬ bt t.data.toList (kdP t.data.toList n) = 46 := fun e => by
              have := bt_lt (l := t.data.toList) (k := kdP t.data.toList n) (by rw [e]; decide)
              rw [HZ.out] at this; omega
            have HRR := hid (HEND2.out hnd)
            clear HEND2 HMORE2 hnd
            generalize kdP t.data.toList n = d at *
            have gd : ¬ (d : Int) < (t.size : Int) := by omega
            go_wp2_with (first
              | (at_builtin; go_must (refine wpList_append_own _ rfl (.tmp 40) (.tmp 45) 34 rfl w.heap.size 9 i0 (.string ⟨#[]⟩) 1 16 Tryz.underlying34 hi hz0 hz1 hz2 rfl (by decide) _ acc.length _ rfl (HO1.out.alloc _) ⟨wr.heap.size, 0, none⟩ 1 1 [.string (t.extract a n)] rfl rfl (new_cells wr _ 9) (by simp [Value.oneCell']) (by unfold maxLen; omega) (by omega) (by simp; omega) ?_; intro v1 w2 hown1 hgr1 _))
              | (go_at_call 18; go_must (refine (CS2.out _).mono ?_; rintro e w3 ⟨rfl, hw⟩; obtain rfl := hw.symm)))
            have hbw : Below w.heap.size w w2 := (HB1.out.alloc HB1.out.size _).grown hgr1 (by simp; omega) (fun j hj => (HO1.out.lt j hj).1)
            go_ret3
            rw [HRR.out]
            exact ⟨_, rfl, (show World.ownsRow _ _ _ _ _ _ _ by simp only; rw [HLN.out, HSN.out]; exact hown1), hbw⟩
end Go.Proofs.YtdlideihlcjblaaGreatDoor
