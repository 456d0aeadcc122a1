/- The document's Key of chapter 10: walked. -/
import Derived.Test.YtlapefhnbbcmmaaGreatDoorXTlF
import Derived.Test.YtlapefhnbbcmmaaGreatDoorXTlS
import Derived.Test.YtlapefhnbbcmmaaGreatDoorXEscDoc
import Derived.Test.YtlapefhnbbcmmaaGreatDoorXMathTk
/- The document's reading of numbers: row, clean, split, based. Walked. -/
/- The document's reading of numbers: clean, split, based. Walked. -/
namespace Go.Proofs.YtlapefhnbbcmmaaGreatDoor
open Go.RowKit

theorem idx_at (t : ByteArray) (i : Int) (n : Nat) (hi : i = (n : Int)) (h : n < t.size) (W : World) : (Instr.index 9 (.string t) (.int .i64 i)).run Tryz.prog W = .ok (.int .u8 (t[n].toNat : Int)) W := by
  subst hi
  rw [run_index_string W 9 t .i64 _ Tryz.underlying9, dif_pos ⟨by omega, by omega⟩]; rfl
theorem rbare1 (t : ByteArray) (i : Nat) (h : i < t.size) (w : World) :
    Calls Tryz.prog 70 #[.string (t.extract i (i + 1))] w fun e w' => e = .returned (.bool (brI t[i])) ∧ w' = w := by
  have hz : (t.extract i (i + 1)).size ≤ 1000000 := by simp; omega
  have := rbare_any (t.extract i (i + 1)) w (max_le hz)
  have e : (t.extract i (i + 1)).data.toList = [t[i]] := by
    rw [drop_ext, tdrop_at t i h, Nat.add_sub_cancel_left]; rfl
  rw [e] at this
  have e2 : brB [t[i]] = brI t[i] := by unfold brB; simp
  rw [e2] at this; exact this
/-- what the document's TUnquote answers at a quote -/
def RtUnq : Prop := ∀ (t : ByteArray) (a : Nat) (w : World), t.size ≤ 1000000 → ∀ ha : a < t.size, (t[a].toNat = 34 ∨ t[a].toNat = 39) →
    Calls Tryz.prog 32 #[.string t, .int .i64 (a : Int)] w fun e w' => e = .returned (.tuple #[.string (mkS (unqT t.data.toList a).1), .int .i64 ((unqT t.data.toList a).2.1 : Nat), .int .i64 (unqT t.data.toList a).2.2]) ∧ Below w.heap.size w w'
end Go.Proofs.YtlapefhnbbcmmaaGreatDoor
namespace Go.Proofs.YtlapefhnbbcmmaaGreatDoor
open Go.RowKit

theorem run_step {p : UInt8 → Bool} (t : ByteArray) (i : Nat) (h : i < t.size) : run p (t.data.toList.drop i) = if p t[i] = true then 1 + run p (t.data.toList.drop (i + 1)) else 0 := by
  rw [rdrop_at t i h]
  cases hp : p t[i] with
  | true => rw [run_cpos hp, if_pos rfl]; omega
  | false => rw [run_cneg hp, if_neg (by decide)]
set_option maxRecDepth 100000 in
set_option maxHeartbeats 4000000 in
theorem rrow_any (t : ByteArray) (a : Nat) (w : World) (ht : t.size ≤ 1000000) (ha : a ≤ t.size) :
    Calls Tryz.prog 33 #[.string t, .int .i64 (a : Int)] w fun e w' => e = .returned (.int .i64 ((run rowC (t.data.toList.drop a) : Nat) : Int)) ∧ w' = w := by
  have HRS := hid (fun i (h : i < t.size) => run_step (p := rowC) t i h)
  have HB1 := hid (fun i (h : i < t.size) X => rbare1 t i h X)
  have HRN : Hid (∀ i, t.size ≤ i → run rowC (t.data.toList.drop i) = 0) := hid (fun i h => by rw [List.drop_eq_nil_of_le (by rw [size_list]; exact h)]; rfl)
  obtain ⟨R, hR⟩ : ∃ R, run rowC (t.data.toList.drop a) = R := ⟨_, rfl⟩
  rw [hR]
  go_enter Tryz.func33, Tryz.ntmps33
  go_wp2_with fail
  go_loop [5] (fun i => ∃ n : Nat, a + n ≤ t.size ∧ i = .int .i64 (n : Int) ∧ Hid (R = n + run rowC (t.data.toList.drop (a + n)))) (fun i => t.size - (intOf i).toNat)
  case atStart => exact ⟨0, ha, rfl, hid (by rw [← hR]; simp)⟩
  case round =>
    obtain ⟨n, hn, rfl, HN⟩ := hrel
    obtain ⟨k, hk⟩ : ∃ k, a + n = k := ⟨_, rfl⟩
    have hkz : (a : Int) + (n : Int) = (k : Int) := by omega
    rw [hk] at HN hn
    by_cases hlt : k < t.size
    · have hltz : (k : Int) < (t.size : Int) := by omega
      have hst := HRS.out k hlt
      have C := hid (fun X => HB1.out k hlt X)
      have hrc : rowC t[k] = (brI t[k] || decide (t[k].toNat = 43) || decide (t[k].toNat = 46) || decide (t[k].toNat = 58)) := rfl
      obtain ⟨A, hA⟩ : ∃ A : Int, (t[k].toNat : Int) = A := ⟨_, rfl⟩
      have hcase : (rowC t[k] = true ∧ brI t[k] = true) ∨ (rowC t[k] = true ∧ brI t[k] = false ∧ A = 43) ∨ (rowC t[k] = true ∧ brI t[k] = false ∧ A ≠ 43 ∧ A = 46) ∨ (rowC t[k] = true ∧ brI t[k] = false ∧ A ≠ 43 ∧ A ≠ 46 ∧ A = 58) ∨ (rowC t[k] = false ∧ brI t[k] = false ∧ A ≠ 43 ∧ A ≠ 46 ∧ A ≠ 58) := by
        rw [hrc]
        cases brI t[k] <;> simp <;> omega
      clear hrc
      generalize rowC t[k] = RC at *
      generalize brI t[k] = BI at *
      rcases hcase with ⟨rfl, rfl⟩ | ⟨rfl, rfl, k1⟩ | ⟨rfl, rfl, k1, k2⟩ | ⟨rfl, rfl, k1, k2, k3⟩ | ⟨rfl, rfl, k1, k2, k3⟩
      · rw [if_pos rfl] at hst
        have HX := hid (show R = n + 1 + run rowC (t.data.toList.drop (k + 1)) by rw [HN.out, hst]; omega)
        clear hst HN
        go_wp2_with (go_at_call 70; go_must (refine (C.out _).mono ?_; rintro e w1 ⟨rfl, hw1⟩; obtain rfl := hw1.symm))
        go_round
        case rel => exact ⟨n + 1, by omega, by go_num, hid (by rw [show a + (n + 1) = k + 1 by omega]; exact HX.out)⟩
        case measure => simp [intOf]; omega
      · have q43 : (A == 43) = true := by rw [beq_iff_eq]; exact k1
        clear k1
        rw [if_pos rfl] at hst
        have HX := hid (show R = n + 1 + run rowC (t.data.toList.drop (k + 1)) by rw [HN.out, hst]; omega)
        clear hst HN
        go_wp2_with (go_at_call 70; go_must (refine (C.out _).mono ?_; rintro e w1 ⟨rfl, hw1⟩; obtain rfl := hw1.symm))
        go_round
        case rel => exact ⟨n + 1, by omega, by go_num, hid (by rw [show a + (n + 1) = k + 1 by omega]; exact HX.out)⟩
        case measure => simp [intOf]; omega
      · have q43 : (A == 43) = false := by rw [beq_eq_false_iff_ne]; exact k1
        have q46 : (A == 46) = true := by rw [beq_iff_eq]; exact k2
        clear k1 k2
        rw [if_pos rfl] at hst
        have HX := hid (show R = n + 1 + run rowC (t.data.toList.drop (k + 1)) by rw [HN.out, hst]; omega)
        clear hst HN
        go_wp2_with (go_at_call 70; go_must (refine (C.out _).mono ?_; rintro e w1 ⟨rfl, hw1⟩; obtain rfl := hw1.symm))
        go_round
        case rel => exact ⟨n + 1, by omega, by go_num, hid (by rw [show a + (n + 1) = k + 1 by omega]; exact HX.out)⟩
        case measure => simp [intOf]; omega
      · have q43 : (A == 43) = false := by rw [beq_eq_false_iff_ne]; exact k1
        have q46 : (A == 46) = false := by rw [beq_eq_false_iff_ne]; exact k2
        have q58 : (A == 58) = true := by rw [beq_iff_eq]; exact k3
        clear k1 k2 k3
        rw [if_pos rfl] at hst
        have HX := hid (show R = n + 1 + run rowC (t.data.toList.drop (k + 1)) by rw [HN.out, hst]; omega)
        clear hst HN
        go_wp2_with (go_at_call 70; go_must (refine (C.out _).mono ?_; rintro e w1 ⟨rfl, hw1⟩; obtain rfl := hw1.symm))
        go_round
        case rel => exact ⟨n + 1, by omega, by go_num, hid (by rw [show a + (n + 1) = k + 1 by omega]; exact HX.out)⟩
        case measure => simp [intOf]; omega
      · have q43 : (A == 43) = false := by rw [beq_eq_false_iff_ne]; exact k1
        have q46 : (A == 46) = false := by rw [beq_eq_false_iff_ne]; exact k2
        have q58 : (A == 58) = false := by rw [beq_eq_false_iff_ne]; exact k3
        clear k1 k2 k3
        rw [if_neg (by decide)] at hst
        have HX := hid (show R = n by rw [HN.out, hst]; rfl)
        clear hst HN
        go_wp2_with (go_at_call 70; go_must (refine (C.out _).mono ?_; rintro e w1 ⟨rfl, hw1⟩; obtain rfl := hw1.symm))
        go_ret
        exact ⟨by rw [HX.out]; rfl, rfl⟩
    · have hltz : ¬ (k : Int) < (t.size : Int) := by omega
      have HX := hid (show R = n by rw [HN.out, HRN.out k (by omega)]; rfl)
      clear hlt HN
      go_wp2_with fail
      go_ret
      exact ⟨by rw [HX.out]; rfl, rfl⟩
end Go.Proofs.YtlapefhnbbcmmaaGreatDoor
namespace Go.Proofs.YtlapefhnbbcmmaaGreatDoor
open Go.RowKit

/-- digits and single strokes between them, byte by byte: 0 at the beginning, 1 behind a digit, 2 behind a stroke -/
def okC (base : Nat) : Nat → List UInt8 → Bool
  | st, [] => decide (st = 1)
  | st, b :: l => if b.toNat = 95 then decide (st = 1) && okC base 2 l else dgB base b && okC base 1 l
theorem dgB_95 {base : Nat} {b : UInt8} (h : b.toNat = 95) : dgB base b = false := by
  unfold dgB hxI
  simp [h]
theorem cdN_full (p : UInt8 → Bool) (q : Bool) (b : UInt8) (l : List UInt8) : decide (cdN p q (b :: l) = (b :: l).length) = ((p b || (q && decide (b.toNat = 95) && hdB p l)) && decide (cdN p true l = l.length)) := by
  rw [cdN]
  by_cases h : (p b || (q && decide (b.toNat = 95) && hdB p l)) = true
  · rw [if_pos h, h, Bool.true_and]
    exact decide_eq_decide.2 (by simp only [List.length_cons]; omega)
  · rw [if_neg h]
    have h' : (p b || (q && decide (b.toNat = 95) && hdB p l)) = false := by simpa using h
    rw [h', Bool.false_and]
    exact decide_eq_false (by simp)
theorem okC_1 (base : Nat) : ∀ l : List UInt8, okC base 1 l = decide (cdN (dgB base) true l = l.length) ∧ okC base 2 l = (hdB (dgB base) l && decide (cdN (dgB base) true l = l.length))
  | [] => ⟨rfl, rfl⟩
  | b :: l => by
    obtain ⟨i1, i2⟩ := okC_1 base l
    rw [cdN_full]
    by_cases h : b.toNat = 95
    · have hp := dgB_95 (base := base) h
      refine ⟨?_, ?_⟩
      · rw [okC, if_pos h, i2, hp, decide_eq_true h]; simp
      · rw [okC, if_pos h]
        show _ = (dgB base b && _)
        rw [hp]; simp
    · refine ⟨?_, ?_⟩
      · rw [okC, if_neg h, i1, decide_eq_false h]; simp
      · rw [okC, if_neg h, i1, decide_eq_false h]
        show _ = (dgB base b && _)
        simp
theorem okC_0 (base : Nat) (l : List UInt8) : okC base 0 l = dgs base l := by
  unfold dgs
  cases l with
  | nil => rfl
  | cons b l =>
    rw [cdN_full, decide_eq_true (by simp), Bool.true_and, okC]
    obtain ⟨i1, i2⟩ := okC_1 base l
    by_cases h : b.toNat = 95
    · rw [if_pos h, dgB_95 h]; simp
    · rw [if_neg h, i1]; simp
/-- what clean answers -/
def clnD (base : Nat) (l : List UInt8) : List UInt8 := if dgs base l = true then clnS l else []
/-- where reading stands -/
def stC (T : List UInt8) (i : Nat) : Nat := if i = 0 then 0 else if bt T (i - 1) = 95 then 2 else 1
theorem rhex1 (t : ByteArray) (i : Nat) (h : i < t.size) (w : World) :
    Calls Tryz.prog 73 #[.string (t.extract i (i + 1))] w fun e w' => e = .returned (.tuple #[.int .i64 ((if hxI t[i] = true then hxV t[i] else 0 : Nat) : Int), .bool (hxI t[i])]) ∧ w' = w := by
  have hz : (t.extract i (i + 1)).size ≤ 1000000 := by simp; omega
  have hl : (t.extract i (i + 1)).data.toList = [t[i]] := by
    rw [part_list, List.drop_take, rdrop_at t i h]; simp
  have := rhex_any (t.extract i (i + 1)) w (max_le hz)
  rw [hl] at this
  have e1 : hexB [t[i]] = hxI t[i] := by unfold hexB; simp
  have e2 : hexR [t[i]] = if hxI t[i] = true then hxV t[i] else 0 := by unfold hexR; rw [e1]; simp [hexF]
  rw [e1, e2] at this
  exact this
theorem cln_snoc (l : List UInt8) (b : UInt8) : clnS (l ++ [b]) = clnS l ++ (if b.toNat = 95 then [] else [b]) := by
  unfold clnS
  rw [List.filter_append]
  by_cases h : b.toNat = 95
  · rw [if_pos h]; simp [noS, h]
  · rw [if_neg h]; simp [noS, h]
set_option maxRecDepth 100000 in
set_option maxHeartbeats 4000000 in
theorem rclean_any (s : ByteArray) (base : Nat) (w : World) (hs : s.size ≤ 1000000) :
    Calls Tryz.prog 37 #[.string s, .int .i64 (base : Int)] w fun e w' => e = .returned (.tuple #[.string (mkS (clnD base s.data.toList)), .bool (dgs base s.data.toList)]) ∧ w' = w := by
  obtain ⟨T, hT⟩ : ∃ T, s.data.toList = T := ⟨_, rfl⟩
  have HT := hid hT
  have hTl : T.length = s.size := by rw [← hT, size_list]
  have HH := hid (fun i (h : i < s.size) X => rhex1 s i h X)
  have HRD := hid (fun i (h : i < s.size) => rdrop_at s i h)
  have HBT := hid (fun i (h : i < s.size) => bt_at s i h)
  have HTK : Hid (∀ i (h : i < s.size), T.take (i + 1) = T.take i ++ [s[i]]) := hid (fun i h => by
    have hl : i < s.data.toList.length := by rw [size_list]; exact h
    rw [← HT.out, List.take_succ_eq_append_getElem hl]; rfl)
  have HXT : Hid (∀ i (h : i < s.size), s.extract i (i + 1) = mkS [s[i]]) := hid (fun i h => mkS_of _ _ (by rw [part_list, List.drop_take, rdrop_at s i h]; simp))
  rw [hT] at HRD HBT ⊢
  have HNO : Hid (dgs base T = false → mkS (clnD base T) = ⟨#[]⟩) := hid (fun h => by unfold clnD; rw [if_neg (by rw [h]; decide)]; rfl)
  have HYES : Hid (dgs base T = true → clnD base T = clnS T) := hid (fun h => by unfold clnD; rw [if_pos h])
  obtain ⟨OK, hOK⟩ : ∃ OK, dgs base T = OK := ⟨_, rfl⟩
  obtain ⟨D, hD⟩ : ∃ D, clnD base T = D := ⟨_, rfl⟩
  have HO0 : Hid (okC base 0 T = OK) := hid (by rw [okC_0, hOK])
  rw [hOK] at HNO HYES ⊢
  rw [hD] at HNO HYES ⊢
  clear hOK hD hT
  go_enter Tryz.func37, Tryz.ntmps37
  go_wp2_with fail
  go_loop [6, 7, 8, 9] (fun d i _ _ => ∃ (k : Nat) (m : ByteArray), k ≤ s.size ∧ i = .int .i64 (k : Int) ∧ d = .string m ∧ m.size ≤ k ∧ Hid (m = mkS (clnS (T.take k))) ∧ Hid (okC base (stC T k) (T.drop k) = OK) ∧ Hid (k = s.size → k ≠ 0 → bt T (k - 1) ≠ 95)) (fun _ i _ _ => s.size - (intOf i).toNat)
  case atStart => exact ⟨0, ⟨#[]⟩, Nat.zero_le _, rfl, rfl, Nat.le_refl _, hid rfl, hid HO0.out, hid (fun _ h => absurd rfl h)⟩
  case round =>
    obtain ⟨k, m, hk, rfl, rfl, hms, HM, HO, HLS⟩ := hrel
    clear HO0
    by_cases hlt : k < s.size
    · have hltz : (k : Int) < (s.size : Int) := by omega
      rw [HRD.out k hlt, okC] at HO
      have hst1 : stC T (k + 1) = if s[k].toNat = 95 then 2 else 1 := by
        unfold stC
        rw [if_neg (by omega), show k + 1 - 1 = k by omega, HBT.out k hlt]
      by_cases h95 : s[k].toNat = 95
      · have q95 : ((s[k].toNat : Int) == 95) = true := by rw [h95]; rfl
        rw [if_pos h95] at HO hst1
        have HTS : Hid (clnS (T.take (k + 1)) = clnS (T.take k)) := hid (by rw [HTK.out k hlt, cln_snoc, if_pos h95, List.append_nil])
        have hcase : (k = 0 ∧ OK = false) ∨ (¬ k = 0 ∧ k + 1 = s.size ∧ OK = false) ∨ (¬ k = 0 ∧ ¬ k + 1 = s.size ∧ bt T (k - 1) = 95 ∧ OK = false) ∨ (¬ k = 0 ∧ ¬ k + 1 = s.size ∧ ¬ bt T (k - 1) = 95 ∧ okC base 2 (T.drop (k + 1)) = OK) := by
          have hO := HO.out
          by_cases k0 : k = 0
          · left
            refine ⟨k0, ?_⟩
            rw [← hO]; unfold stC; rw [if_pos k0]; rfl
          · right
            by_cases kl : k + 1 = s.size
            · left
              refine ⟨k0, kl, ?_⟩
              rw [← hO, List.drop_eq_nil_of_le (show T.length ≤ k + 1 by omega)]
              show (_ && decide ((2 : Nat) = 1)) = false
              simp
            · right
              by_cases kp : bt T (k - 1) = 95
              · left
                refine ⟨k0, kl, kp, ?_⟩
                rw [← hO]; unfold stC; rw [if_neg k0, if_pos kp]; rfl
              · right
                refine ⟨k0, kl, kp, ?_⟩
                rw [← hO]; unfold stC; rw [if_neg k0, if_neg kp]; simp
        clear h95 HO
        rcases hcase with ⟨c1, rfl⟩ | ⟨c1, c2, rfl⟩ | ⟨c1, c2, c3, rfl⟩ | ⟨c1, c2, c3, c4⟩
        · have g1 : ((k : Int) == 0) = true := by rw [c1]; rfl
          have HX := hid (HNO.out rfl)
          clear c1 HTS hst1
          go_wp2_with fail
          go_ret2
          exact ⟨by rw [HX.out]; rfl, rfl⟩
        · have g1 : ((k : Int) == 0) = false := by rw [beq_eq_false_iff_ne]; omega
          have g2 : ((k : Int) + 1 == (s.size : Int)) = true := by rw [beq_iff_eq]; omega
          have HX := hid (HNO.out rfl)
          clear c1 c2 HTS hst1
          go_wp2_with fail
          go_ret2
          exact ⟨by rw [HX.out]; rfl, rfl⟩
        · obtain ⟨j, hj1⟩ : ∃ j, j + 1 = k := ⟨k - 1, by omega⟩
          have hj : j < s.size := by omega
          have g1 : ((k : Int) == 0) = false := by rw [beq_eq_false_iff_ne]; omega
          have g2 : ((k : Int) + 1 == (s.size : Int)) = false := by rw [beq_eq_false_iff_ne]; omega
          have g3 : ((s[j].toNat : Int) == 95) = true := by
            rw [show k - 1 = j by omega, HBT.out j hj] at c3
            rw [c3]; rfl
          have hix : ∀ W, (Instr.index 9 (.string s) (.int .i64 ((k : Int) - 1))).run Tryz.prog W = .ok (.int .u8 (s[j].toNat : Int)) W := fun W => idx_at s _ j (by omega) hj W
          have HX := hid (HNO.out rfl)
          clear c1 c2 c3 HTS hst1 hj1
          go_wp2_with fail
          go_ret2
          exact ⟨by rw [HX.out]; rfl, rfl⟩
        · obtain ⟨j, hj1⟩ : ∃ j, j + 1 = k := ⟨k - 1, by omega⟩
          have hj : j < s.size := by omega
          have g1 : ((k : Int) == 0) = false := by rw [beq_eq_false_iff_ne]; omega
          have g2 : ((k : Int) + 1 == (s.size : Int)) = false := by rw [beq_eq_false_iff_ne]; omega
          have g3 : ((s[j].toNat : Int) == 95) = false := by
            rw [show k - 1 = j by omega, HBT.out j hj] at c3
            rw [beq_eq_false_iff_ne]; omega
          have hix : ∀ W, (Instr.index 9 (.string s) (.int .i64 ((k : Int) - 1))).run Tryz.prog W = .ok (.int .u8 (s[j].toNat : Int)) W := fun W => idx_at s _ j (by omega) hj W
          have HS1 := hid hst1
          have HC4 := hid c4
          have HLN : Hid (k + 1 = s.size → k + 1 ≠ 0 → bt T (k + 1 - 1) ≠ 95) := hid (fun h _ => absurd h c2)
          clear c1 c2 c3 c4 hst1 hj1
          go_wp2_with fail
          go_round
          case rel => exact ⟨k + 1, m, hlt, by go_num, rfl, by omega, hid (by rw [HTS.out]; exact HM.out), hid (by rw [HS1.out]; exact HC4.out), HLN⟩
          case measure => simp [intOf]; omega
      · have q95 : ((s[k].toNat : Int) == 95) = false := by rw [beq_eq_false_iff_ne]; omega
        rw [if_neg h95] at HO hst1
        have HTS : Hid (clnS (T.take (k + 1)) = clnS (T.take k) ++ [s[k]]) := hid (by rw [HTK.out k hlt, cln_snoc, if_neg h95])
        have HS1 := hid hst1
        have HLN : Hid (k + 1 = s.size → k + 1 ≠ 0 → bt T (k + 1 - 1) ≠ 95) := hid (fun _ _ => by rw [show k + 1 - 1 = k by omega, HBT.out k hlt]; exact h95)
        have C := hid (fun X => HH.out k hlt X)
        have HX1 := hid (HXT.out k hlt)
        have hdg : dgB base s[k] = (hxI s[k] && decide (hxV s[k] < base)) := rfl
        have hvl : hxI s[k] = true → hxV s[k] < 16 := fun h => hxV_lt h
        rw [hdg] at HO
        clear hst1 h95 hdg
        cases hh : hxI s[k] with
        | false =>
          rw [hh, Bool.false_and, Bool.false_and] at HO
          rw [hh, if_neg (by decide)] at C
          have hOKf := HO.out
          have HX := hid (HNO.out hOKf.symm)
          have HOK := hid hOKf.symm
          clear hh HO hOKf hvl
          go_wp2_with (go_at_call 73; go_must (refine (C.out _).mono ?_; rintro e w1 ⟨rfl, hw1⟩; obtain rfl := hw1.symm))
          go_ret2
          exact ⟨by rw [HX.out, HOK.out]; rfl, rfl⟩
        | true =>
          rw [hh, Bool.true_and] at HO
          rw [hh, if_pos rfl] at C
          have hv16 := hvl hh
          obtain ⟨V, hV⟩ : ∃ V, hxV s[k] = V := ⟨_, rfl⟩
          rw [hV] at HO C hv16
          clear hh hvl hV
          by_cases hvb : V < base
          · have hvz : ¬ (base : Int) ≤ (V : Int) := by omega
            rw [decide_eq_true hvb, Bool.true_and] at HO
            have hxz : (s.extract k (k + 1)).size = 1 := by rw [HX1.out, mkS_size]; rfl
            clear hvb
            go_wp2_with (go_at_call 73; go_must (refine (C.out _).mono ?_; rintro e w1 ⟨rfl, hw1⟩; obtain rfl := hw1.symm))
            go_round
            case rel => exact ⟨k + 1, m ++ s.extract k (k + 1), hlt, by go_num, rfl, by rw [ByteArray.size_append, hxz]; omega, hid (by rw [HTS.out, HM.out, HX1.out]; exact mkS_of _ _ (by rw [ByteArray.data_append, Array.toList_append, mkS_list, mkS_list])), hid (by rw [HS1.out]; exact HO.out), HLN⟩
            case measure => simp [intOf]; omega
          · have hvz : (base : Int) ≤ (V : Int) := by omega
            rw [decide_eq_false hvb, Bool.false_and] at HO
            have hOKf := HO.out
            have HX := hid (HNO.out hOKf.symm)
            have HOK := hid hOKf.symm
            clear hvb HO hOKf
            go_wp2_with (go_at_call 73; go_must (refine (C.out _).mono ?_; rintro e w1 ⟨rfl, hw1⟩; obtain rfl := hw1.symm))
            go_ret2
            exact ⟨by rw [HX.out, HOK.out]; rfl, rfl⟩
    · have hltz : ¬ (k : Int) < (s.size : Int) := by omega
      obtain rfl : k = s.size := by omega
      rw [List.take_of_length_le (by omega)] at HM
      rw [List.drop_eq_nil_of_le (by omega)] at HO
      have hO : OK = decide (stC T s.size = 1) := HO.out.symm
      have HE : Hid (m.toList = clnS T) := hid (by rw [Lib.toList_data, HM.out, mkS_list])
      have hfin : ((m.toList != []) = OK) ∧ mkS D = m := by
        cases hok : OK with
        | true =>
          have hd := HYES.out hok
          refine ⟨?_, by rw [hd, HM.out]⟩
          rw [HE.out]
          -- digits there are
          rw [hok] at hO
          have h1 := of_decide_eq_true hO.symm
          have hne : s.size ≠ 0 := by intro e; unfold stC at h1; rw [if_pos e] at h1; omega
          have h2 : ¬ bt T (s.size - 1) = 95 := by intro e; unfold stC at h1; rw [if_neg hne, if_pos e] at h1; omega
          obtain ⟨n, hn⟩ : ∃ n, s.size = n + 1 := ⟨s.size - 1, by omega⟩
          have hl : n < s.size := by omega
          have hb := HBT.out n hl
          rw [hn, show n + 1 - 1 = n by omega, hb] at h2
          have h3 := HTK.out n hl
          rw [← hn, List.take_of_length_le (by omega)] at h3
          rw [h3, cln_snoc, if_neg h2]
          simp
        | false =>
          have hd := HNO.out hok
          have h0 : s.size = 0 := by
            refine Classical.byContradiction fun h0 => ?_
            have h1 := HLS.out rfl h0
            rw [hok] at hO
            have h2 := of_decide_eq_false hO.symm
            unfold stC at h2
            rw [if_neg h0, if_neg h1] at h2
            exact h2 rfl
          obtain rfl : T = [] := List.length_eq_zero_iff.1 (by omega)
          exact ⟨by rw [HE.out]; rfl, by rw [hd, HM.out]; rfl⟩
      obtain ⟨hf1, hf2⟩ := hfin
      have HF1 : Hid ((!m.toList.isEmpty) = OK) := hid (by rw [← hf1]; cases m.toList <;> rfl)
      have HF2 := hid hf2
      clear hf1 hf2 hO HE HO
      go_wp2_with fail
      go_ret2
      exact ⟨by rw [HF2.out, ← HF1.out]; rfl, rfl⟩
end Go.Proofs.YtlapefhnbbcmmaaGreatDoor
