/- The document's Number, walked: the ways without a base. -/
import Derived.Test.YtlapefhnbbcmmaaGreatDoorXRtQ
import Derived.Test.YtlapefhnbbcmmaaGreatDoorXTlF
import Derived.KernelRfl
/- The document's Number in plain mathematics. -/
/- What is no number, on both sides. -/
/- Whole numbers, on both sides. -/
/- The document's Number is the program's. -/
/- The document's Number is the program's: the end. -/
namespace Go.Proofs.YtlapefhnbbcmmaaGreatDoor
open Go.RowKit
set_option linter.unusedVariables false

set_option maxRecDepth 100000 in
set_option maxHeartbeats 8000000 in
theorem rnPnos (s b m p wd f q WH QS EC : ByteArray) (sv mv : Int) (nb : Bool) (w : World)
    (CU : Hid (∀ X, Calls Tryz.prog 36 #[.string s] X fun e w' => e = .returned (.tuple #[.string b, .int .u8 sv]) ∧ Below X.heap.size X w'))
    (CE : Hid (∀ X, Calls Tryz.prog 39 #[.string b, .string ⟨#[101, 69]⟩] X fun e w' => e = .returned (.tuple #[.string m, .string p, .bool true]) ∧ Below X.heap.size X w'))
    (CD : Hid (∀ X, Calls Tryz.prog 39 #[.string m, .string ⟨#[46]⟩] X fun e w' => e = .returned (.tuple #[.string wd, .string f, .bool false]) ∧ Below X.heap.size X w'))
    (CW : Hid (∀ X, Calls Tryz.prog 37 #[.string wd, .int .i64 10] X fun e w' => e = .returned (.tuple #[.string WH, .bool true]) ∧ w' = X))
    (CQ : Hid (∀ X, Calls Tryz.prog 36 #[.string p] X fun e w' => e = .returned (.tuple #[.string q, .int .u8 mv]) ∧ Below X.heap.size X w'))
    (CP : Hid (∀ X, Calls Tryz.prog 37 #[.string q, .int .i64 10] X fun e w' => e = .returned (.tuple #[.string QS, .bool true]) ∧ w' = X))
    (CN : Hid (∀ X, Calls Tryz.prog 41 #[.string (((WH ++ EC) ++ p.extract 0 1) ++ QS)] X fun e w' => e = .returned (.bool nb) ∧ w' = X))
    (q1 : (b.toList == [105, 110, 102]) = false) (q2 : (b.toList == [110, 97, 110]) = false) (HNB : Hid (∀ h : 2 < b.size, ¬ (b[0].toNat = 48 ∧ (b[1].toNat = 120 ∨ b[1].toNat = 111 ∨ b[1].toNat = 98)))) (hW : WH.size ≤ 1000000) (HLZ : Hid (∀ h : 1 < WH.size, ¬ WH[0].toNat = 48)) (gs : (sv == 45) = false) (hQ : QS.size ≤ 1000000) (hm : m.size ≤ 1000000) (hp : p.size ≤ 1000000) (hmp : m.size + p.size + 1 = b.size) (HEC : Hid (EC = mkS [eB (b.data.toList.take (m.size + p.size))])) (hEC : EC.size = 1) (gm : (mv != 0) = true) (hp1 : 1 ≤ p.size) :
    Calls Tryz.prog 11 #[.string s] w fun e w' => e = .returned ((if nb = true then .tuple #[.agg #[.int .i64 3, .int .i64 0, .string (((WH ++ EC) ++ p.extract 0 1) ++ QS), nilS, nilS], .int .i64 0] else .tuple #[.agg #[.int .i64 0, .int .i64 0, .string ⟨#[]⟩, nilS, nilS], .int .i64 6])) ∧ Below w.heap.size w w' := by
  go_enter Tryz.func11, Tryz.ntmps11
  go_wp2_with fail
  go_at_call 36
  refine (CU.out _).mono ?_
  rintro e w2 ⟨rfl, hb2⟩
  have R2 := hid (box_row hb2)
  have HB2 := hid (vonto (valloc_bel (Below.refl w.heap.size w) _) hb2)
  clear hb2
  go_upto_region 4 with fail
  go_cut [65] (fun v wx => v = .bool false ∧ wx = w2)
  case first => as_aux_lemma =>
    by_cases h2 : 2 < b.size
    rotate_left
    · have h2z : ¬ (2 : Int) < (b.size : Int) := by omega
      clear h2
      go_wp2_with fail
      go_meet
      exact ⟨rfl, rfl⟩
    have h2z : (2 : Int) < (b.size : Int) := by omega
    have hn := HNB.out h2
    by_cases h0 : b[0].toNat = 48
    rotate_left
    · have g0 : ((b[0].toNat : Int) == 48) = false := by rw [beq_eq_false_iff_ne]; omega
      clear hn h0
      go_wp2_with fail
      go_meet
      exact ⟨rfl, rfl⟩
    have g0 : ((b[0].toNat : Int) == 48) = true := by rw [h0]; rfl
    have k1 : ((b[1].toNat : Int) == 120) = false := by rw [beq_eq_false_iff_ne]; omega
    have k2 : ((b[1].toNat : Int) == 111) = false := by rw [beq_eq_false_iff_ne]; omega
    have k3 : ((b[1].toNat : Int) == 98) = false := by rw [beq_eq_false_iff_ne]; omega
    clear hn h0
    go_wp2_with fail
    go_meet
    exact ⟨rfl, rfl⟩
  obtain ⟨rfl, rfl⟩ := hcut
  clear HNB
  go_wp2_with fail
  go_at_call 39
  refine (CE.out _).mono ?_
  rintro e w3 ⟨rfl, hb3⟩
  have R3 := hid (R2.out.onto (hb3.block _ R2.out.lt))
  have HB3 := hid (vonto HB2.out hb3)
  clear hb3 R2 HB2
  go_wp2_with fail
  go_at_call 39
  refine (CD.out _).mono ?_
  rintro e w4 ⟨rfl, hb4⟩
  have R4 := hid (R3.out.onto (hb4.block _ R3.out.lt))
  have HB4 := hid (vonto HB3.out hb4)
  clear hb4 R3 HB3
  go_upto_region 20 with (go_at_call 37; go_must (refine (CW.out _).mono ?_; rintro e w5 ⟨rfl, hw5⟩; obtain rfl := hw5.symm))
  go_cut [125] (fun v wx => v = .bool false ∧ wx = w4)
  case first => as_aux_lemma =>
    by_cases h1 : 1 < WH.size
    rotate_left
    · have h1z : ¬ (1 : Int) < (WH.size : Int) := by omega
      clear h1
      go_wp2_with fail
      go_meet
      exact ⟨rfl, rfl⟩
    have h1z : (1 : Int) < (WH.size : Int) := by omega
    have gz : ((WH[0].toNat : Int) == 48) = false := by have := HLZ.out h1; rw [beq_eq_false_iff_ne]; omega
    go_wp2_with fail
    go_meet
    exact ⟨rfl, rfl⟩
  obtain ⟨rfl, rfl⟩ := hcut
  clear HLZ
  go_wp2_with fail
  go_at_call 36
  refine (CQ.out _).mono ?_
  rintro e w6 ⟨rfl, hb6⟩
  have R6 := hid (R4.out.onto (hb6.block _ R4.out.lt))
  have HB6 := hid (vonto HB4.out hb6)
  clear hb6 R4 HB4
  obtain ⟨u0, e0⟩ := R6.out.cell (o := 0) (by decide)
  obtain ⟨u1, e1⟩ := R6.out.cell (o := 1) (by decide)
  obtain ⟨u2, e2⟩ := R6.out.cell (o := 2) (by decide)
  obtain ⟨u3, e3⟩ := R6.out.cell (o := 3) (by decide)
  obtain ⟨u4, e4⟩ := R6.out.cell (o := 4) (by decide)
  have z0 := R6.out.frozen
  go_wp2_with (go_at_call 37; go_must (refine (CP.out _).mono ?_; rintro e w9 ⟨rfl, hw9⟩; obtain rfl := hw9.symm))
  go_loop [28, 29] (fun e i => ∃ k : Nat, k ≤ m.size + p.size ∧ i = .int .i64 (k : Int) ∧ e = .string (mkS [eB (b.data.toList.take k)])) (fun _ i => m.size + p.size - (intOf i).toNat)
  case atStart => exact ⟨0, Nat.zero_le _, rfl, rfl⟩
  case round =>
    obtain ⟨k, hk, rfl, rfl⟩ := hrel
    by_cases hlt : k < m.size + p.size
    · have hltz : (k : Int) < (m.size : Int) + (p.size : Int) := by omega
      have hkb : k < b.size := by omega
      have hkz : (k : Int) < (b.size : Int) := by omega
      have hst := eB_snoc b k hkb
      by_cases h69 : b[k].toNat = 69
      · have g69 : ((b[k].toNat : Int) == 69) = true := by rw [h69]; rfl
        rw [if_pos h69] at hst
        have HST := hid hst
        clear hst h69
        go_wp2_with fail
        go_round
        case rel => exact ⟨k + 1, hlt, by go_num, by rw [HST.out]; rfl⟩
        case measure => simp [intOf]; omega
      · have g69 : ((b[k].toNat : Int) == 69) = false := by rw [beq_eq_false_iff_ne]; omega
        rw [if_neg h69] at hst
        have HST := hid hst
        clear hst h69
        go_wp2_with fail
        go_round
        case rel => exact ⟨k + 1, hlt, by go_num, by rw [HST.out]⟩
        case measure => simp [intOf]; omega
    · have hltz : ¬ (k : Int) < (m.size : Int) + (p.size : Int) := by omega
      obtain rfl : k = m.size + p.size := by omega
      rw [← HEC.out]
      clear hlt
      cases nb with
      | false =>
        go_wp2_with (go_at_call 41; go_must (refine (CN.out _).mono ?_; rintro e w8 ⟨rfl, hw8⟩; obtain rfl := hw8.symm))
        refine bodyPost_ret (v := .tuple #[.agg #[.int .i64 0, .int .i64 0, .string ⟨#[]⟩, nilS, nilS], .int .i64 6]) (by simp [results, Tryz.results11, go_sem, e0, e1, e2, e3, e4]) rfl ⟨rfl, ?_⟩
        repeat (first | exact HB6.out | (refine vset_bel ?_ (by simp)))
      | true =>
        go_wp2_with (go_at_call 41; go_must (refine (CN.out _).mono ?_; rintro e w8 ⟨rfl, hw8⟩; obtain rfl := hw8.symm))
        refine bodyPost_ret (v := .tuple #[.agg #[.int .i64 3, .int .i64 0, .string (((WH ++ EC) ++ p.extract 0 1) ++ QS), nilS, nilS], .int .i64 0]) (by simp [results, Tryz.results11, go_sem, e0, e1, e2, e3, e4]) rfl ⟨rfl, ?_⟩
        repeat (first | exact HB6.out | (refine vset_bel ?_ (by simp)))
set_option maxRecDepth 100000 in
set_option maxHeartbeats 8000000 in
theorem rnPnou (s b m p wd f q WH QS EC : ByteArray) (sv mv : Int) (nb : Bool) (w : World)
    (CU : Hid (∀ X, Calls Tryz.prog 36 #[.string s] X fun e w' => e = .returned (.tuple #[.string b, .int .u8 sv]) ∧ Below X.heap.size X w'))
    (CE : Hid (∀ X, Calls Tryz.prog 39 #[.string b, .string ⟨#[101, 69]⟩] X fun e w' => e = .returned (.tuple #[.string m, .string p, .bool true]) ∧ Below X.heap.size X w'))
    (CD : Hid (∀ X, Calls Tryz.prog 39 #[.string m, .string ⟨#[46]⟩] X fun e w' => e = .returned (.tuple #[.string wd, .string f, .bool false]) ∧ Below X.heap.size X w'))
    (CW : Hid (∀ X, Calls Tryz.prog 37 #[.string wd, .int .i64 10] X fun e w' => e = .returned (.tuple #[.string WH, .bool true]) ∧ w' = X))
    (CQ : Hid (∀ X, Calls Tryz.prog 36 #[.string p] X fun e w' => e = .returned (.tuple #[.string q, .int .u8 mv]) ∧ Below X.heap.size X w'))
    (CP : Hid (∀ X, Calls Tryz.prog 37 #[.string q, .int .i64 10] X fun e w' => e = .returned (.tuple #[.string QS, .bool true]) ∧ w' = X))
    (CN : Hid (∀ X, Calls Tryz.prog 41 #[.string ((WH ++ EC) ++ QS)] X fun e w' => e = .returned (.bool nb) ∧ w' = X))
    (q1 : (b.toList == [105, 110, 102]) = false) (q2 : (b.toList == [110, 97, 110]) = false) (HNB : Hid (∀ h : 2 < b.size, ¬ (b[0].toNat = 48 ∧ (b[1].toNat = 120 ∨ b[1].toNat = 111 ∨ b[1].toNat = 98)))) (hW : WH.size ≤ 1000000) (HLZ : Hid (∀ h : 1 < WH.size, ¬ WH[0].toNat = 48)) (gs : (sv == 45) = false) (hQ : QS.size ≤ 1000000) (hm : m.size ≤ 1000000) (hp : p.size ≤ 1000000) (hmp : m.size + p.size + 1 = b.size) (HEC : Hid (EC = mkS [eB (b.data.toList.take (m.size + p.size))])) (hEC : EC.size = 1) (gm : (mv != 0) = false) :
    Calls Tryz.prog 11 #[.string s] w fun e w' => e = .returned ((if nb = true then .tuple #[.agg #[.int .i64 3, .int .i64 0, .string ((WH ++ EC) ++ QS), nilS, nilS], .int .i64 0] else .tuple #[.agg #[.int .i64 0, .int .i64 0, .string ⟨#[]⟩, nilS, nilS], .int .i64 6])) ∧ Below w.heap.size w w' := by
  go_enter Tryz.func11, Tryz.ntmps11
  go_wp2_with fail
  go_at_call 36
  refine (CU.out _).mono ?_
  rintro e w2 ⟨rfl, hb2⟩
  have R2 := hid (box_row hb2)
  have HB2 := hid (vonto (valloc_bel (Below.refl w.heap.size w) _) hb2)
  clear hb2
  go_upto_region 4 with fail
  go_cut [65] (fun v wx => v = .bool false ∧ wx = w2)
  case first => as_aux_lemma =>
    by_cases h2 : 2 < b.size
    rotate_left
    · have h2z : ¬ (2 : Int) < (b.size : Int) := by omega
      clear h2
      go_wp2_with fail
      go_meet
      exact ⟨rfl, rfl⟩
    have h2z : (2 : Int) < (b.size : Int) := by omega
    have hn := HNB.out h2
    by_cases h0 : b[0].toNat = 48
    rotate_left
    · have g0 : ((b[0].toNat : Int) == 48) = false := by rw [beq_eq_false_iff_ne]; omega
      clear hn h0
      go_wp2_with fail
      go_meet
      exact ⟨rfl, rfl⟩
    have g0 : ((b[0].toNat : Int) == 48) = true := by rw [h0]; rfl
    have k1 : ((b[1].toNat : Int) == 120) = false := by rw [beq_eq_false_iff_ne]; omega
    have k2 : ((b[1].toNat : Int) == 111) = false := by rw [beq_eq_false_iff_ne]; omega
    have k3 : ((b[1].toNat : Int) == 98) = false := by rw [beq_eq_false_iff_ne]; omega
    clear hn h0
    go_wp2_with fail
    go_meet
    exact ⟨rfl, rfl⟩
  obtain ⟨rfl, rfl⟩ := hcut
  clear HNB
  go_wp2_with fail
  go_at_call 39
  refine (CE.out _).mono ?_
  rintro e w3 ⟨rfl, hb3⟩
  have R3 := hid (R2.out.onto (hb3.block _ R2.out.lt))
  have HB3 := hid (vonto HB2.out hb3)
  clear hb3 R2 HB2
  go_wp2_with fail
  go_at_call 39
  refine (CD.out _).mono ?_
  rintro e w4 ⟨rfl, hb4⟩
  have R4 := hid (R3.out.onto (hb4.block _ R3.out.lt))
  have HB4 := hid (vonto HB3.out hb4)
  clear hb4 R3 HB3
  go_upto_region 20 with (go_at_call 37; go_must (refine (CW.out _).mono ?_; rintro e w5 ⟨rfl, hw5⟩; obtain rfl := hw5.symm))
  go_cut [125] (fun v wx => v = .bool false ∧ wx = w4)
  case first => as_aux_lemma =>
    by_cases h1 : 1 < WH.size
    rotate_left
    · have h1z : ¬ (1 : Int) < (WH.size : Int) := by omega
      clear h1
      go_wp2_with fail
      go_meet
      exact ⟨rfl, rfl⟩
    have h1z : (1 : Int) < (WH.size : Int) := by omega
    have gz : ((WH[0].toNat : Int) == 48) = false := by have := HLZ.out h1; rw [beq_eq_false_iff_ne]; omega
    go_wp2_with fail
    go_meet
    exact ⟨rfl, rfl⟩
  obtain ⟨rfl, rfl⟩ := hcut
  clear HLZ
  go_wp2_with fail
  go_at_call 36
  refine (CQ.out _).mono ?_
  rintro e w6 ⟨rfl, hb6⟩
  have R6 := hid (R4.out.onto (hb6.block _ R4.out.lt))
  have HB6 := hid (vonto HB4.out hb6)
  clear hb6 R4 HB4
  obtain ⟨u0, e0⟩ := R6.out.cell (o := 0) (by decide)
  obtain ⟨u1, e1⟩ := R6.out.cell (o := 1) (by decide)
  obtain ⟨u2, e2⟩ := R6.out.cell (o := 2) (by decide)
  obtain ⟨u3, e3⟩ := R6.out.cell (o := 3) (by decide)
  obtain ⟨u4, e4⟩ := R6.out.cell (o := 4) (by decide)
  have z0 := R6.out.frozen
  go_wp2_with (go_at_call 37; go_must (refine (CP.out _).mono ?_; rintro e w9 ⟨rfl, hw9⟩; obtain rfl := hw9.symm))
  go_loop [28, 29] (fun e i => ∃ k : Nat, k ≤ m.size + p.size ∧ i = .int .i64 (k : Int) ∧ e = .string (mkS [eB (b.data.toList.take k)])) (fun _ i => m.size + p.size - (intOf i).toNat)
  case atStart => exact ⟨0, Nat.zero_le _, rfl, rfl⟩
  case round =>
    obtain ⟨k, hk, rfl, rfl⟩ := hrel
    by_cases hlt : k < m.size + p.size
    · have hltz : (k : Int) < (m.size : Int) + (p.size : Int) := by omega
      have hkb : k < b.size := by omega
      have hkz : (k : Int) < (b.size : Int) := by omega
      have hst := eB_snoc b k hkb
      by_cases h69 : b[k].toNat = 69
      · have g69 : ((b[k].toNat : Int) == 69) = true := by rw [h69]; rfl
        rw [if_pos h69] at hst
        have HST := hid hst
        clear hst h69
        go_wp2_with fail
        go_round
        case rel => exact ⟨k + 1, hlt, by go_num, by rw [HST.out]; rfl⟩
        case measure => simp [intOf]; omega
      · have g69 : ((b[k].toNat : Int) == 69) = false := by rw [beq_eq_false_iff_ne]; omega
        rw [if_neg h69] at hst
        have HST := hid hst
        clear hst h69
        go_wp2_with fail
        go_round
        case rel => exact ⟨k + 1, hlt, by go_num, by rw [HST.out]⟩
        case measure => simp [intOf]; omega
    · have hltz : ¬ (k : Int) < (m.size : Int) + (p.size : Int) := by omega
      obtain rfl : k = m.size + p.size := by omega
      rw [← HEC.out]
      clear hlt
      cases nb with
      | false =>
        go_wp2_with (go_at_call 41; go_must (refine (CN.out _).mono ?_; rintro e w8 ⟨rfl, hw8⟩; obtain rfl := hw8.symm))
        refine bodyPost_ret (v := .tuple #[.agg #[.int .i64 0, .int .i64 0, .string ⟨#[]⟩, nilS, nilS], .int .i64 6]) (by simp [results, Tryz.results11, go_sem, e0, e1, e2, e3, e4]) rfl ⟨rfl, ?_⟩
        repeat (first | exact HB6.out | (refine vset_bel ?_ (by simp)))
      | true =>
        go_wp2_with (go_at_call 41; go_must (refine (CN.out _).mono ?_; rintro e w8 ⟨rfl, hw8⟩; obtain rfl := hw8.symm))
        refine bodyPost_ret (v := .tuple #[.agg #[.int .i64 3, .int .i64 0, .string ((WH ++ EC) ++ QS), nilS, nilS], .int .i64 0]) (by simp [results, Tryz.results11, go_sem, e0, e1, e2, e3, e4]) rfl ⟨rfl, ?_⟩
        repeat (first | exact HB6.out | (refine vset_bel ?_ (by simp)))
end Go.Proofs.YtlapefhnbbcmmaaGreatDoor
namespace Go.Proofs.YtlapefhnbbcmmaaGreatDoor
open Go

def nofD (O : List UInt8) (b : UInt8) : Bool := O.all fun c => decide (b.toNat ≠ c.toNat)
/-- a number's reading: kind, number, text, error -/
abbrev NQ := Int × Int × List UInt8 × Int
def badQ : NQ := (0, 0, [], 4)
def rngQ : NQ := (0, 0, [], 6)
def intQ : Option Int → NQ
  | some v => (2, v, [], 0)
  | none => rngQ
/-- as the program reads -/
def numQ (t : List UInt8) : NQ := if numB t = true then (if intB t = true then (2, intV t, [], 0) else (3, 0, t, 0)) else rngQ
def tnQ (l : List UInt8) : NQ :=
  if infB (unS l) = true then (7, 0, l, 0) else if bsB l ≠ 0 then intQ (psV (bsB l) (clnS (l.drop 2)))
  else if kdN (unS l) = 2 then intQ (piV (clnS l)) else if kdN (unS l) = 3 then numQ (noP (clnS l)) else badQ
/-- as the document reads -/
def dM (B : List UInt8) : List UInt8 := B.take (run (nofD [101, 69]) B)
def dP (B : List UInt8) : List UInt8 := B.drop (run (nofD [101, 69]) B + 1)
def dPw (B : List UInt8) : Bool := decide (run (nofD [101, 69]) B < B.length)
def dW (m : List UInt8) : List UInt8 := m.take (run (nofD [46]) m)
def dF (m : List UInt8) : List UInt8 := m.drop (run (nofD [46]) m + 1)
def dDt (m : List UInt8) : Bool := decide (run (nofD [46]) m < m.length)
def eBD (l : List UInt8) : UInt8 := if l.any (fun c => decide (c.toNat = 69)) then 69 else 101
def dT0 (l W : List UInt8) : List UInt8 := (if bt l 0 = 45 then [45] else []) ++ clnS W
def dnI (t : List UInt8) : NQ := if intB t = true then (2, intV t, [], 0) else rngQ
def dnN (t : List UInt8) : NQ := if numB t = true then (3, 0, t, 0) else rngQ
def dTx (l B : List UInt8) : List UInt8 :=
  (dT0 l (dW (dM B)) ++ (if dDt (dM B) = true then 46 :: clnS (dF (dM B)) else [])) ++ (if dPw B = true then eBD (B.take ((dM B).length + (dP B).length)) :: ((if sgA (dP B) = true then (dP B).take 1 else []) ++ clnS (unS (dP B))) else [])
def dnE (l B : List UInt8) : NQ :=
  if dgs 10 (dW (dM B)) = false ∨ (1 < (clnS (dW (dM B))).length ∧ bt (clnS (dW (dM B))) 0 = 48) then badQ
  else if dDt (dM B) = false ∧ dPw B = false then dnI (if dT0 l (dW (dM B)) = [45, 48] then [48] else dT0 l (dW (dM B)))
  else if dDt (dM B) = true ∧ dgs 10 (dF (dM B)) = false then badQ
  else if dPw B = true ∧ dgs 10 (unS (dP B)) = false then badQ
  else dnN (dTx l B)
def dBase (B : List UInt8) : Nat := if bt B 1 = 120 then 16 else if bt B 1 = 111 then 8 else 2
def dPre (B : List UInt8) : Prop := 2 < B.length ∧ bt B 0 = 48 ∧ (bt B 1 = 120 ∨ bt B 1 = 111 ∨ bt B 1 = 98)
instance (B : List UInt8) : Decidable (dPre B) := by unfold dPre; infer_instance
def dnQ (l : List UInt8) : NQ :=
  if infB (unS l) = true then (7, 0, l, 0)
  else if dPre (unS l) then (if dgs (dBase (unS l)) ((unS l).drop 2) = false ∨ sgA l = true then badQ else intQ (psV (dBase (unS l)) (clnS ((unS l).drop 2))))
  else dnE l (unS l)

theorem nn_take (p : UInt8 → Bool) (l : List UInt8) : l.take (run p l) = l.takeWhile p := by
  unfold run
  exact (List.prefix_iff_eq_take.1 (List.takeWhile_prefix p)).symm
theorem nn_drop (p : UInt8 → Bool) (l : List UInt8) : l.drop (run p l) = l.dropWhile p := by
  have h1 := List.takeWhile_append_dropWhile (p := p) (l := l)
  have h2 := List.take_append_drop (run p l) l
  rw [nn_take] at h2
  exact List.append_cancel_left (h2.trans h1.symm)
theorem nn_all (p : UInt8 → Bool) (l : List UInt8) : ∀ b ∈ l.take (run p l), p b = true := fun b hb => by
  rw [nn_take] at hb
  exact List.all_eq_true.1 (List.all_takeWhile (p := p) (l := l)) b hb
theorem nn_head (p : UInt8 → Bool) (l : List UInt8) : l.drop (run p l) = [] ∨ ∃ c r, l.drop (run p l) = c :: r ∧ p c = false ∧ l.drop (run p l + 1) = r := by
  rw [nn_drop]
  cases h : l.dropWhile p with
  | nil => exact Or.inl rfl
  | cons c r =>
    refine Or.inr ⟨c, r, rfl, ?_, ?_⟩
    · have := List.head_dropWhile_not p (l := l) (by rw [h]; simp)
      simp only [h, List.head_cons] at this
      simpa using this
    · rw [← List.drop_drop, nn_drop, h]; rfl
/-- where a text ends or no digit and no stroke stands -/
def nstp (p : UInt8 → Bool) (y : List UInt8) : Prop := y = [] ∨ ∃ c r, y = c :: r ∧ p c = false ∧ c.toNat ≠ 95
theorem nstp_hd {p : UInt8 → Bool} {y : List UInt8} (h : nstp p y) : hdB p y = false := by
  rcases h with rfl | ⟨c, r, rfl, h1, -⟩
  · rfl
  · exact h1
theorem nstp_cd {p : UInt8 → Bool} {y : List UInt8} (h : nstp p y) (q : Bool) : cdN p q y = 0 := by
  rcases h with rfl | ⟨c, r, rfl, h1, h2⟩
  · rfl
  · rw [cdN, h1, decide_eq_false h2]; simp
theorem cd_cut {p : UInt8 → Bool} {y : List UInt8} (h : nstp p y) : ∀ (x : List UInt8) (q : Bool), cdN p q (x ++ y) = cdN p q x
  | [], q => by rw [List.nil_append, nstp_cd h]; rfl
  | b :: x, q => by
    have ih := cd_cut h x true
    have hh : hdB p (x ++ y) = hdB p x := by
      cases x with
      | nil => exact nstp_hd h
      | cons _ _ => rfl
    rw [List.cons_append, cdN, cdN, hh, ih]
theorem ndg46 : dgB 10 46 = false := by decide
theorem dg_e {c : UInt8} (hc : c.toNat = 101 ∨ c.toNat = 69) : dgB 10 c = false := by
  rw [dgB_ten]; unfold dgI; rw [decide_eq_false_iff_not.2 (by omega)]
theorem nof46 {c : UInt8} : nofD [46] c = true ↔ c.toNat ≠ 46 := by unfold nofD; simp
theorem nofE {c : UInt8} : nofD [101, 69] c = true ↔ c.toNat ≠ 101 ∧ c.toNat ≠ 69 := by unfold nofD; simp
end Go.Proofs.YtlapefhnbbcmmaaGreatDoor
namespace Go.Proofs.YtlapefhnbbcmmaaGreatDoor
open Go

theorem dgs_iff {base : Nat} {d : List UInt8} : dgs base d = true ↔ d ≠ [] ∧ cdN (dgB base) false d = d.length := by
  unfold dgs; rw [Bool.and_eq_true, decide_eq_true_iff, decide_eq_true_iff]
theorem dgs_no {base : Nat} {d : List UInt8} (h : dgs base d = false) : cdN (dgB base) false d = 0 ∨ cdN (dgB base) false d < d.length := by
  have hle := cdN_le (dgB base) false d
  by_cases h0 : d = []
  · subst h0; exact Or.inl rfl
  · right
    rcases Nat.lt_or_eq_of_le hle with h1 | h1
    · exact h1
    · rw [dgs_iff.2 ⟨h0, h1⟩] at h; cases h
/-- all bytes of digits and strokes -/
theorem cd_chars (p : UInt8 → Bool) : ∀ (l : List UInt8) (q : Bool), cdN p q l = l.length → ∀ b ∈ l, p b = true ∨ b.toNat = 95
  | [], _, _, b, hb => by cases hb
  | a :: l, q, h, b, hb => by
    rw [cdN] at h
    split at h
    · rename_i hc
      simp only [List.length_cons] at h
      rcases List.mem_cons.1 hb with rfl | hb
      · rw [Bool.or_eq_true] at hc
        rcases hc with hc | hc
        · exact Or.inl hc
        · rw [Bool.and_eq_true, Bool.and_eq_true, decide_eq_true_iff] at hc
          exact Or.inr hc.1.2
      · exact cd_chars p l true (by omega) b hb
    · simp at h
theorem dgs_head {base : Nat} {a : UInt8} {t : List UInt8} (h : dgs base (a :: t) = true) : dgB base a = true ∧ cdN (dgB base) true t = t.length := by
  have h2 := (dgs_iff.1 h).2
  rw [cdN] at h2
  split at h2
  · rename_i hc
    simp only [Bool.false_and, Bool.or_false] at hc
    refine ⟨hc, ?_⟩
    simp only [List.length_cons] at h2; omega
  · simp at h2
theorem dg_no95 {base : Nat} {b : UInt8} (h : dgB base b = true) : b.toNat ≠ 95 := by
  intro e
  unfold dgB hxI at h
  rw [Bool.and_eq_true] at h
  have := h.1
  simp [e] at this
theorem cln_cons {a : UInt8} {t : List UInt8} (h : a.toNat ≠ 95) : clnS (a :: t) = a :: clnS t := by
  unfold clnS; rw [List.filter_cons, if_pos (by unfold noS; simp [h])]
theorem cln_app (a b : List UInt8) : clnS (a ++ b) = clnS a ++ clnS b := by unfold clnS; rw [List.filter_append]
/-- a nought ahead of others -/
theorem zero_same {w : List UInt8} (h : dgs 10 w = true) : (1 < (clnS w).length ∧ bt (clnS w) 0 = 48) ↔ (1 < w.length ∧ bt w 0 = 48) := by
  cases w with
  | nil => exact absurd rfl (dgs_iff.1 h).1
  | cons a t =>
    obtain ⟨h1, h2⟩ := dgs_head h
    rw [cln_cons (dg_no95 h1), bt_cons, bt_cons]
    have : (clnS t).length = 0 ↔ t.length = 0 := by
      constructor
      · intro e
        cases t with
        | nil => rfl
        | cons b t =>
          exfalso
          rw [cdN] at h2
          split at h2
          · rename_i hc
            rw [Bool.or_eq_true] at hc
            rcases hc with hc | hc
            · rw [cln_cons (dg_no95 hc)] at e; simp at e
            · rw [Bool.and_eq_true, Bool.and_eq_true] at hc
              cases t with
              | nil => simp [hdB] at hc
              | cons c t =>
                have hcc : dgB 10 c = true := hc.2
                have e2 : clnS (b :: c :: t) = clnS [b] ++ clnS (c :: t) := cln_app [b] (c :: t)
                rw [e2, cln_cons (dg_no95 hcc)] at e; simp at e
          · simp at h2
      · intro e
        rw [List.length_eq_zero_iff.1 e]; rfl
    simp only [List.length_cons]
    constructor
    · rintro ⟨k1, k2⟩; exact ⟨by omega, k2⟩
    · rintro ⟨k1, k2⟩; exact ⟨by omega, k2⟩
/-- what stands where the digits end -/
theorem rest_at {w y : List UInt8} {k : Nat} (h : k < w.length) : ∃ c r, (w ++ y).drop k = c :: r ∧ c ∈ w := by
  refine ⟨w[k], w.drop (k + 1) ++ y, ?_, List.getElem_mem h⟩
  rw [List.drop_append_of_le_length (by omega), List.drop_eq_getElem_cons h]; rfl
theorem kd_w_no {w y : List UInt8} (hy : nstp (dgB 10) y) (hw : ∀ b ∈ w, b.toNat ≠ 46 ∧ b.toNat ≠ 101 ∧ b.toNat ≠ 69) (h : dgs 10 w = false) : kdN (w ++ y) = 0 := by
  unfold kdN
  rw [cd_cut hy]
  rcases dgs_no h with h0 | h0
  · rw [if_pos (Or.inl h0)]
  · obtain ⟨c, r, e, hc⟩ := rest_at (y := y) h0
    obtain ⟨c1, c2, c3⟩ := hw c hc
    rw [e]
    split
    · rfl
    · rw [if_neg (by simp), if_neg (by unfold kdF; rw [bt_cons, decide_eq_false (fun k => c1 k.1)]; decide)]
      have hk : kdR (c :: r) = c :: r := by unfold kdR; rw [bt_cons, if_neg c1]
      rw [hk, if_pos ⟨by simp, by unfold pwB; rw [bt_cons, decide_eq_false (by omega)]; rfl⟩]
theorem kd_w_yes {w y : List UInt8} (hy : nstp (dgB 10) y) (h : dgs 10 w = true) : kdN (w ++ y) = if 1 < w.length ∧ bt w 0 = 48 then 0 else if y = [] then 2 else if kdF y = true then 0 else if kdR y ≠ [] ∧ pwB (kdR y) = false then 0 else 3 := by
  obtain ⟨h0, h1⟩ := dgs_iff.1 h
  have hl : 0 < w.length := List.length_pos_iff.2 h0
  unfold kdN
  rw [cd_cut hy, h1, List.drop_left, bt_app w y 0 hl]
  by_cases hz : 1 < w.length ∧ bt w 0 = 48
  · rw [if_pos (Or.inr hz), if_pos hz]
  · rw [if_neg (by rintro (k | k); omega; exact hz k), if_neg hz]
/-- behind the dot -/
theorem frac_no {f z : List UInt8} (hz : nstp (dgB 10) z) (hf : ∀ b ∈ f, b.toNat ≠ 101 ∧ b.toNat ≠ 69) (h : dgs 10 f = false) : kdF (46 :: (f ++ z)) = true ∨ (kdR (46 :: (f ++ z)) ≠ [] ∧ pwB (kdR (46 :: (f ++ z))) = false) := by
  unfold kdF kdR
  rw [bt_cons, List.drop_succ_cons, List.drop_zero, cd_cut hz]
  rcases dgs_no h with h0 | h0
  · left; rw [decide_eq_true ⟨rfl, h0⟩]
  · right
    obtain ⟨c, r, e, hc⟩ := rest_at (y := z) h0
    obtain ⟨c2, c3⟩ := hf c hc
    rw [if_pos (by rfl), e]
    exact ⟨by simp, by unfold pwB; rw [bt_cons, decide_eq_false (by omega)]; rfl⟩
theorem frac_yes {f z : List UInt8} (hz : nstp (dgB 10) z) (h : dgs 10 f = true) : kdF (46 :: (f ++ z)) = false ∧ kdR (46 :: (f ++ z)) = z := by
  obtain ⟨h0, h1⟩ := dgs_iff.1 h
  have hl : 0 < f.length := List.length_pos_iff.2 h0
  unfold kdF kdR
  rw [bt_cons, List.drop_succ_cons, List.drop_zero, cd_cut hz, h1, if_pos (by rfl), List.drop_left]
  exact ⟨decide_eq_false (fun k => by omega), rfl⟩
/-- a text with a letter behind its 0 is no number -/
theorem kd_pre {B : List UInt8} (h : dPre B) : kdN B = 0 := by
  obtain ⟨h1, h2, h3⟩ := h
  match B, h1 with
  | a :: b :: t, _ =>
    rw [bt_cons] at h2
    rw [bt_succ, bt_cons] at h3
    have ha : dgB 10 a = true := by rw [dgB_ten]; unfold dgI; rw [decide_eq_true_iff]; omega
    have hb : dgB 10 b = false := by rw [dgB_ten]; unfold dgI; rw [decide_eq_false_iff_not]; omega
    have hc : cdN (dgB 10) false (a :: b :: t) = 1 := by
      have h95 : ¬ b.toNat = 95 := by omega
      rw [cdN, ha, cdN, hb]; simp [h95]
    unfold kdN
    rw [hc, if_neg (by rintro (k | k); omega; omega)]
    simp only [List.drop_succ_cons, List.drop_zero]
    rw [if_neg (by simp), if_neg (by unfold kdF; rw [bt_cons, decide_eq_false (fun k => by omega)]; decide)]
    have hk : kdR (b :: t) = b :: t := by unfold kdR; rw [bt_cons, if_neg (by omega)]
    rw [hk, if_pos ⟨by simp, by unfold pwB; rw [bt_cons, decide_eq_false (by omega)]; rfl⟩]
end Go.Proofs.YtlapefhnbbcmmaaGreatDoor
namespace Go.Proofs.YtlapefhnbbcmmaaGreatDoor
open Go

theorem cln_dig {w : List UInt8} (h : dgs 10 w = true) : (clnS w).all isD = true := by
  rw [List.all_eq_true]
  intro b hb
  unfold clnS at hb
  obtain ⟨h1, h2⟩ := List.mem_filter.1 hb
  rcases cd_chars _ w false (dgs_iff.1 h).2 b h1 with k | k
  · rw [dgB_ten] at k
    unfold dgI at k
    rw [decide_eq_true_iff] at k
    unfold isD; rw [decide_eq_true k.1, decide_eq_true k.2]; rfl
  · unfold noS at h2; simp [k] at h2
theorem ncln_ne {w : List UInt8} (h : dgs 10 w = true) : ∃ a t, clnS w = a :: t ∧ isD a = true := by
  cases w with
  | nil => exact absurd rfl (dgs_iff.1 h).1
  | cons a t =>
    have hc := cln_cons (t := t) (dg_no95 (dgs_head h).1)
    refine ⟨a, clnS t, hc, ?_⟩
    have := cln_dig h
    rw [hc, List.all_cons, Bool.and_eq_true] at this
    exact this.1
theorem tw_self {D : List UInt8} (h : D.all isD = true) : D.takeWhile isD = D ∧ D.dropWhile isD = [] := by
  induction D with
  | nil => exact ⟨rfl, rfl⟩
  | cons a t ih =>
    rw [List.all_cons, Bool.and_eq_true] at h
    obtain ⟨i1, i2⟩ := ih h.2
    exact ⟨by rw [List.takeWhile_cons, if_pos h.1, i1], by rw [List.dropWhile_cons, if_pos h.1, i2]⟩
/-- digits, a minus ahead or none -/
theorem num_plain {D t : List UInt8} {a : UInt8} (hD : D.all isD = true) (he : D = a :: t) (hz : ¬ (1 < D.length ∧ bt D 0 = 48)) (x : List UInt8) (hx : x = D ∨ x = 45 :: D) : numB x = decide (x.length ≤ 400) := by
  have ha : isD a = true := by rw [he, List.all_cons, Bool.and_eq_true] at hD; exact hD.1
  have hb := isD_bd ha
  have hU : pU x = D := by
    rcases hx with rfl | rfl
    · unfold pU pNeg; rw [he, List.getD_cons_zero, decide_eq_false (by omega)]; rfl
    · unfold pU pNeg; rw [List.getD_cons_zero, decide_eq_true (by decide), if_pos rfl]; rfl
  have hW : pW x = D := by unfold pW; rw [hU]; exact (tw_self hD).1
  have hR : pR x = [] := by unfold pR; rw [hU]; exact (tw_self hD).2
  have hd : pDot x = false := by unfold pDot; rw [hR]; rfl
  have hS : pS x = [] := by unfold pS; rw [hd, hR]; rfl
  have hP : pP x = [] := by unfold pP; rw [hS]; rfl
  unfold numB pOk pWok pFok pEok
  rw [hW, hd, hS, hP]
  have h0 : ¬ D = [] := by rw [he]; simp
  have hz2 : (decide (1 < D.length) && decide ((D.getD 0 0).toNat = 48)) = false := by
    rw [Bool.and_eq_false_iff, decide_eq_false_iff_not, decide_eq_false_iff_not]
    by_cases k : 1 < D.length
    · right
      intro e; apply hz; refine ⟨k, ?_⟩
      rw [he] at e ⊢; exact e
    · exact Or.inl k
  rw [decide_eq_false h0, hz2]
  have hp0 : pwOk [] = true := by decide
  rw [hp0]
  simp
theorem piV_of {x : List UInt8} (hn : numB x = true) (h0 : ¬ x = [45, 48]) : piV x = if intB x = true then some (intV x) else none := by
  obtain ⟨h1, h2⟩ := int_par x hn h0
  unfold piV
  cases hb : intB x with
  | true => rw [h1 hb]; rfl
  | false =>
    have h3 := h2 hb
    cases hq : Lib.parseIntB 64 x with
    | ok v => exact absurd hq (h3 v)
    | _ => rfl
theorem pval_big {D t : List UInt8} {a : UInt8} (hD : D.all isD = true) (he : D = a :: t) (h48 : a.toNat ≠ 48) (hl : 30 ≤ t.length) : ¬ pval D ≤ 18446744073709551615 := by
  have ha : isD a = true := by rw [he, List.all_cons, Bool.and_eq_true] at hD; exact hD.1
  have hb := isD_bd ha
  rw [he] at hD ⊢
  rw [pval_cons a t hD]
  have h1 : 10 ^ 30 ≤ 10 ^ t.length := Nat.pow_le_pow_right (by decide) hl
  have h2 : 1 * 10 ^ t.length ≤ (a.toNat - 48) * 10 ^ t.length := Nat.mul_le_mul_right _ (by omega)
  have h3 : (10 : Nat) ^ 30 > 18446744073709551615 := by decide
  omega
theorem piV_big {D t : List UInt8} {a : UInt8} (hD : D.all isD = true) (he : D = a :: t) (h48 : a.toNat ≠ 48) (hl : 30 ≤ t.length) (x : List UInt8) (hx : x = D ∨ x = 45 :: D) : piV x = none := by
  have ha : isD a = true := by rw [he, List.all_cons, Bool.and_eq_true] at hD; exact hD.1
  have hb := isD_bd ha
  have hp := pub D [] hD (by rw [he]; simp)
  rw [List.append_nil, if_neg (pval_big hD he h48 hl)] at hp
  rcases hx with rfl | rfl
  · rw [he] at hp ⊢
    unfold piV Lib.parseIntB
    have e : (if a.toNat = 43 ∨ a.toNat = 45 then t else a :: t) = a :: t := if_neg (by omega)
    simp only [e, hp]
  · unfold piV Lib.parseIntB
    have e : (if (45 : UInt8).toNat = 43 ∨ (45 : UInt8).toNat = 45 then D else 45 :: D) = D := if_pos (Or.inr rfl)
    simp only [e, hp]
theorem piV_plusD {D t : List UInt8} {a : UInt8} (he : D = a :: t) (ha : isD a = true) : piV (43 :: D) = piV D := by
  have hb := isD_bd ha
  rw [he]
  unfold piV Lib.parseIntB
  have e1 : (if (43 : UInt8).toNat = 43 ∨ (43 : UInt8).toNat = 45 then a :: t else 43 :: a :: t) = a :: t := if_pos (Or.inl rfl)
  have e2 : (if a.toNat = 43 ∨ a.toNat = 45 then t else a :: t) = a :: t := if_neg (by omega)
  simp only [e1, e2]
  have n1 : ((43 : UInt8).toNat = 45) = False := by simp
  have n2 : (a.toNat = 45) = False := by simp; omega
  simp only [n1, n2]
/-- a whole number, on both sides -/
theorem int_same {D t : List UInt8} {a : UInt8} (hD : D.all isD = true) (he : D = a :: t) (hz : ¬ (1 < D.length ∧ bt D 0 = 48)) (x : List UInt8) (hx : x = D ∨ x = 45 :: D) : dnI (if x = [45, 48] then [48] else x) = intQ (piV x) := by
  by_cases h0 : x = [45, 48]
  · rw [if_pos h0, h0]
    kernel_rfl
  · rw [if_neg h0]
    unfold dnI
    by_cases hl : x.length ≤ 400
    · have hn : numB x = true := by rw [num_plain hD he hz x hx, decide_eq_true hl]
      rw [piV_of hn h0]
      split <;> rfl
    · have hn : numB x = false := by rw [num_plain hD he hz x hx, decide_eq_false hl]
      have hi : intB x = false := by unfold intB; rw [hn]; rfl
      have hlen : 30 ≤ t.length := by
        rcases hx with e | e <;> rw [e, he] at hl <;> simp at hl <;> omega
      have h48 : a.toNat ≠ 48 := fun e => hz ⟨by rw [he]; simp; omega, by rw [he]; exact e⟩
      rw [piV_big hD he h48 hlen x hx, hi]; rfl
end Go.Proofs.YtlapefhnbbcmmaaGreatDoor
namespace Go.Proofs.YtlapefhnbbcmmaaGreatDoor
open Go

theorem run_lt (p : UInt8 → Bool) (l : List UInt8) : run p l < l.length ↔ l.drop (run p l) ≠ [] := by
  rw [Ne, List.drop_eq_nil_iff]; omega
theorem eE_of {c : UInt8} (h : nofD [101, 69] c = false) : c.toNat = 101 ∨ c.toNat = 69 := by
  by_cases h1 : c.toNat = 101
  · exact Or.inl h1
  · by_cases h2 : c.toNat = 69
    · exact Or.inr h2
    · rw [nofE.2 ⟨h1, h2⟩] at h; cases h
theorem dot_of {c : UInt8} (h : nofD [46] c = false) : c = 46 := by
  by_cases h1 : c.toNat = 46
  · exact UInt8.toNat_inj.1 h1
  · rw [nof46.2 h1] at h; cases h
/-- a text's parts, as the document cuts it -/
theorem d_parts (B : List UInt8) : ∃ w f z, (∀ b ∈ w, b.toNat ≠ 46 ∧ b.toNat ≠ 101 ∧ b.toNat ≠ 69) ∧ (∀ b ∈ f, b.toNat ≠ 101 ∧ b.toNat ≠ 69) ∧ dW (dM B) = w ∧
    ((dDt (dM B) = false ∧ dM B = w ∧ B = w ++ z) ∨ (dDt (dM B) = true ∧ dF (dM B) = f ∧ dM B = w ++ 46 :: f ∧ B = w ++ (46 :: (f ++ z)))) ∧
    ((dPw B = false ∧ z = []) ∨ ∃ c p, dPw B = true ∧ z = c :: p ∧ dP B = p ∧ (c.toNat = 101 ∨ c.toNat = 69)) := by
  have hB : dM B ++ B.drop (run (nofD [101, 69]) B) = B := List.take_append_drop _ _
  have hm : ∀ b ∈ dM B, b.toNat ≠ 101 ∧ b.toNat ≠ 69 := fun b hb => nofE.1 (nn_all _ B b hb)
  have hw : ∀ b ∈ dW (dM B), b.toNat ≠ 46 ∧ b.toNat ≠ 101 ∧ b.toNat ≠ 69 := fun b hb => ⟨nof46.1 (nn_all _ _ b hb), hm b (List.mem_of_mem_take hb)⟩
  have hM : dW (dM B) ++ (dM B).drop (run (nofD [46]) (dM B)) = dM B := List.take_append_drop _ _
  have hz : ((dPw B = false ∧ B.drop (run (nofD [101, 69]) B) = []) ∨ ∃ c p, dPw B = true ∧ B.drop (run (nofD [101, 69]) B) = c :: p ∧ dP B = p ∧ (c.toNat = 101 ∨ c.toNat = 69)) := by
    rcases nn_head (nofD [101, 69]) B with h | ⟨c, r, h1, h2, h3⟩
    · left; exact ⟨by unfold dPw; rw [decide_eq_false (by rw [run_lt]; simp [h])], h⟩
    · right; exact ⟨c, r, by unfold dPw; rw [decide_eq_true (by rw [run_lt, h1]; simp)], h1, h3, eE_of h2⟩
  rcases nn_head (nofD [46]) (dM B) with h | ⟨c, r, h1, h2, h3⟩
  · refine ⟨dW (dM B), [], B.drop (run (nofD [101, 69]) B), hw, (fun b hb => by cases hb), rfl, Or.inl ⟨?_, ?_, ?_⟩, hz⟩
    · unfold dDt; rw [decide_eq_false (by rw [run_lt]; simp [h])]
    · rw [h, List.append_nil] at hM; exact hM.symm
    · rw [h, List.append_nil] at hM; rw [hM]; exact hB.symm
  · obtain rfl := dot_of h2
    refine ⟨dW (dM B), r, B.drop (run (nofD [101, 69]) B), hw, (fun b hb => ?_), rfl, Or.inr ⟨?_, h3, ?_, ?_⟩, hz⟩
    · refine hm b ?_
      rw [← hM, h1]
      exact List.mem_append_right _ (List.mem_cons_of_mem _ hb)
    · unfold dDt; rw [decide_eq_true (by rw [run_lt, h1]; simp)]
    · rw [h1] at hM; exact hM.symm
    · rw [h1] at hM
      have : dW (dM B) ++ (46 :: (r ++ B.drop (run (nofD [101, 69]) B))) = (dW (dM B) ++ 46 :: r) ++ B.drop (run (nofD [101, 69]) B) := by simp
      rw [this, hM]; exact hB.symm
theorem z_stp {z : List UInt8} (h : z = [] ∨ ∃ c p, z = c :: p ∧ (c.toNat = 101 ∨ c.toNat = 69)) : nstp (dgB 10) z := by
  rcases h with rfl | ⟨c, p, rfl, hc⟩
  · exact Or.inl rfl
  · exact Or.inr ⟨c, p, rfl, dg_e hc, by omega⟩
theorem dot_stp (y : List UInt8) : nstp (dgB 10) (46 :: y) := Or.inr ⟨46, y, rfl, ndg46, by decide⟩
/-- the sign ahead -/
theorem sign_cases (l : List UInt8) : (sgA l = false ∧ unS l = l ∧ bt l 0 ≠ 43 ∧ bt l 0 ≠ 45) ∨ (∃ B, l = 43 :: B ∧ unS l = B ∧ sgA l = true) ∨ (∃ B, l = 45 :: B ∧ unS l = B ∧ sgA l = true) := by
  unfold unS sgA
  by_cases h : bt l 0 = 43 ∨ bt l 0 = 45
  · right
    rw [decide_eq_true h, if_pos rfl]
    cases l with
    | nil => rw [bt_nil] at h; omega
    | cons a t =>
      rw [bt_cons] at h
      rcases h with h | h
      · left; exact ⟨t, by rw [show a = 43 from UInt8.toNat_inj.1 h], rfl, rfl⟩
      · right; exact ⟨t, by rw [show a = 45 from UInt8.toNat_inj.1 h], rfl, rfl⟩
  · left
    rw [decide_eq_false h]
    exact ⟨rfl, rfl, fun e => h (Or.inl e), fun e => h (Or.inr e)⟩
/-- what the program hands on of a text whose body begins with a digit -/
theorem noP_of (l : List UInt8) {a : UInt8} {t : List UInt8} (hB : clnS (unS l) = a :: t) (ha : isD a = true) : noP (clnS l) = (if bt l 0 = 45 then [45] else []) ++ clnS (unS l) := by
  have hb := isD_bd ha
  rcases sign_cases l with ⟨-, h1, h2, h3⟩ | ⟨B, rfl, h1, -⟩ | ⟨B, rfl, h1, -⟩
  · rw [if_neg h3, h1, List.nil_append]
    rw [h1] at hB
    unfold noP
    rw [hB, bt_cons, if_neg (by omega)]
  · rw [if_neg (by rw [bt_cons]; decide), h1, List.nil_append]
    unfold noP
    rw [cln_cons (by decide), bt_cons, if_pos (by decide)]; rfl
  · rw [if_pos (by rw [bt_cons]; decide), h1]
    unfold noP
    rw [cln_cons (by decide), bt_cons, if_neg (by decide)]; rfl
theorem eB_one {m p : List UInt8} {c : UInt8} (hm : ∀ b ∈ m, b.toNat ≠ 69) (hp : ∀ b ∈ p, b.toNat ≠ 69) (hp0 : 0 < p.length) (hc : c.toNat = 101 ∨ c.toNat = 69) : eBD ((m ++ c :: p).take (m.length + p.length)) = c := by
  obtain ⟨k, hk⟩ : ∃ k, p.length = k + 1 := ⟨p.length - 1, by omega⟩
  have e : (m ++ c :: p).take (m.length + p.length) = m ++ c :: p.take k := by
    rw [List.take_append, List.take_of_length_le (by omega), hk, Nat.add_sub_cancel_left]; rfl
  unfold eBD
  rw [e, List.any_append, List.any_cons]
  have h1 : m.any (fun c => decide (c.toNat = 69)) = false := by
    rw [List.any_eq_false]; intro b hb; simp [hm b hb]
  have h2 : (p.take k).any (fun c => decide (c.toNat = 69)) = false := by
    rw [List.any_eq_false]; intro b hb; simp [hp b (List.mem_of_mem_take hb)]
  rw [h1, h2]
  rcases hc with hc | hc
  · rw [decide_eq_false (by omega)]; exact (UInt8.toNat_inj.1 hc).symm
  · rw [decide_eq_true hc]; exact (UInt8.toNat_inj.1 hc).symm
theorem dgs_no69 {q : List UInt8} (h : dgs 10 q = true) : ∀ b ∈ q, b.toNat ≠ 69 := fun b hb e => by
  rcases cd_chars _ q false (dgs_iff.1 h).2 b hb with k | k
  · rw [dg_e (Or.inr e)] at k; cases k
  · omega
theorem un_parts (p : List UInt8) : p = (if sgA p = true then p.take 1 else []) ++ unS p := by
  rcases sign_cases p with ⟨h0, h1, -⟩ | ⟨B, rfl, h1, h0⟩ | ⟨B, rfl, h1, h0⟩
  · rw [h0, h1]; rfl
  · rw [h0, h1]; rfl
  · rw [h0, h1]; rfl
theorem cln_sg (p : List UInt8) : clnS p = (if sgA p = true then p.take 1 else []) ++ clnS (unS p) := by
  rcases sign_cases p with ⟨h0, h1, -⟩ | ⟨B, rfl, h1, h0⟩ | ⟨B, rfl, h1, h0⟩
  · rw [h0, h1]; rfl
  · rw [h0, h1, cln_cons (by decide)]; rfl
  · rw [h0, h1, cln_cons (by decide)]; rfl
theorem p_no69 {p : List UInt8} (h : dgs 10 (unS p) = true) : (∀ b ∈ p, b.toNat ≠ 69) ∧ 0 < p.length := by
  constructor
  · intro b hb
    rw [un_parts p] at hb
    rcases List.mem_append.1 hb with hb | hb
    · rcases sign_cases p with ⟨h0, -⟩ | ⟨B, rfl, -, h0⟩ | ⟨B, rfl, -, h0⟩
      · rw [h0] at hb; cases hb
      · rw [h0] at hb; simp at hb; rw [hb]; decide
      · rw [h0] at hb; simp at hb; rw [hb]; decide
    · exact dgs_no69 h b hb
  · cases p with
    | nil => exact absurd rfl (dgs_iff.1 h).1
    | cons a t => simp
/-- a text with a dot or a power is no whole number -/
theorem tw_upto {D y : List UInt8} (hD : D.all isD = true) (hy : y = [] ∨ ∃ c r, y = c :: r ∧ isD c = false) : (D ++ y).takeWhile isD = D ∧ (D ++ y).dropWhile isD = y := by
  induction D with
  | nil =>
    rcases hy with rfl | ⟨c, r, rfl, hc⟩
    · exact ⟨rfl, rfl⟩
    · exact ⟨by rw [List.nil_append, List.takeWhile_cons, if_neg (by rw [hc]; decide)], by rw [List.nil_append, List.dropWhile_cons, if_neg (by rw [hc]; decide)]⟩
  | cons a t ih =>
    rw [List.all_cons, Bool.and_eq_true] at hD
    obtain ⟨i1, i2⟩ := ih hD.2
    exact ⟨by rw [List.cons_append, List.takeWhile_cons, if_pos hD.1, i1], by rw [List.cons_append, List.dropWhile_cons, if_pos hD.1, i2]⟩
theorem isD_no {c : UInt8} (h : c.toNat < 48 ∨ 57 < c.toNat) : isD c = false := by
  unfold isD
  rcases h with h | h
  · rw [decide_eq_false (by omega)]; rfl
  · rw [decide_eq_false (p := c.toNat ≤ 57) (by omega), Bool.and_false]
theorem pU_of {D y x : List UInt8} {a : UInt8} {t : List UInt8} (he : D = a :: t) (ha : isD a = true) (hx : x = D ++ y ∨ x = 45 :: (D ++ y)) : pU x = D ++ y := by
  have hb := isD_bd ha
  rcases hx with rfl | rfl
  · unfold pU pNeg; rw [he, List.cons_append, List.getD_cons_zero, decide_eq_false (by omega)]; rfl
  · unfold pU pNeg; rw [List.getD_cons_zero, decide_eq_true (by decide), if_pos rfl]; rfl
theorem int_no_dot {D F y x : List UInt8} {a : UInt8} {t : List UInt8} (hD : D.all isD = true) (he : D = a :: t) {b : UInt8} {g : List UInt8} (hF : F = b :: g) (hb : isD b = true) (hx : x = D ++ (46 :: (F ++ y)) ∨ x = 45 :: (D ++ (46 :: (F ++ y)))) : intB x = false := by
  have ha : isD a = true := by rw [he, List.all_cons, Bool.and_eq_true] at hD; exact hD.1
  have hU := pU_of he ha hx
  have hR : pR x = 46 :: (F ++ y) := by unfold pR; rw [hU]; exact (tw_upto hD (Or.inr ⟨46, _, rfl, by decide⟩)).2
  have hd : pDot x = true := by unfold pDot; rw [hR]; rfl
  have hf : ¬ pF x = [] := by
    unfold pF; rw [hd, hR, if_pos rfl, hF]
    simp only [List.drop_succ_cons, List.drop_zero, List.cons_append]
    rw [List.takeWhile_cons, if_pos hb]; simp
  unfold intB
  rw [decide_eq_false hf]; simp
theorem int_no_pw {D p x : List UInt8} {a c : UInt8} {t : List UInt8} (hD : D.all isD = true) (he : D = a :: t) (hc : c.toNat = 101 ∨ c.toNat = 69) (hp : p ≠ []) (hx : x = D ++ (c :: p) ∨ x = 45 :: (D ++ (c :: p))) : intB x = false := by
  have ha : isD a = true := by rw [he, List.all_cons, Bool.and_eq_true] at hD; exact hD.1
  have hU := pU_of he ha hx
  have hR : pR x = c :: p := by unfold pR; rw [hU]; exact (tw_upto hD (Or.inr ⟨c, _, rfl, isD_no (by omega)⟩)).2
  have hd : pDot x = false := by unfold pDot; rw [hR, List.getD_cons_zero, decide_eq_false (by omega)]
  have hf : ¬ pP x = [] := by
    unfold pP pS; rw [hd, hR]
    exact hp
  unfold intB
  rw [decide_eq_false hf]; simp
end Go.Proofs.YtlapefhnbbcmmaaGreatDoor
namespace Go.Proofs.YtlapefhnbbcmmaaGreatDoor
open Go

theorem bs_none {l : List UInt8} (h : ¬ dPre (unS l)) : bsB l = 0 := by
  have key : ∀ c, (c = 120 ∨ c = 111 ∨ c = 98) → ∀ base, ¬ (bt l 0 = 48 ∧ bt l 1 = c ∧ dgs base (l.drop 2) = true) := by
    rintro c hc base ⟨h1, h2, h3⟩
    rcases sign_cases l with ⟨-, hu, -⟩ | ⟨B, rfl, -⟩ | ⟨B, rfl, -⟩
    · apply h
      rw [hu]
      refine ⟨?_, h1, by rw [h2]; exact hc⟩
      have := (dgs_iff.1 h3).1
      rw [Ne, List.drop_eq_nil_iff] at this; omega
    · rw [bt_cons] at h1; exact absurd h1 (by decide)
    · rw [bt_cons] at h1; exact absurd h1 (by decide)
  unfold bsB
  rw [if_neg (key 120 (Or.inl rfl) 16), if_neg (key 111 (Or.inr (Or.inl rfl)) 8), if_neg (key 98 (Or.inr (Or.inr rfl)) 2)]
theorem bs_sign {l : List UInt8} (h : sgA l = true) : bsB l = 0 := by
  have h0 : ¬ bt l 0 = 48 := by
    unfold sgA at h; rw [decide_eq_true_iff] at h; omega
  unfold bsB
  rw [if_neg (fun k => h0 k.1), if_neg (fun k => h0 k.1), if_neg (fun k => h0 k.1)]
theorem bs_pre {l : List UInt8} (h : dPre l) : bsB l = if dgs (dBase l) (l.drop 2) = true then dBase l else 0 := by
  obtain ⟨h1, h2, h3⟩ := h
  rcases h3 with h3 | h3 | h3
  · have hb : dBase l = 16 := by unfold dBase; rw [if_pos h3]
    have n1 : ¬ (bt l 0 = 48 ∧ bt l 1 = 111 ∧ dgs 8 (l.drop 2) = true) := fun k => by have := k.2.1; omega
    have n2 : ¬ (bt l 0 = 48 ∧ bt l 1 = 98 ∧ dgs 2 (l.drop 2) = true) := fun k => by have := k.2.1; omega
    rw [hb]
    unfold bsB
    rw [if_neg n1, if_neg n2]
    by_cases hd : dgs 16 (l.drop 2) = true
    · rw [if_pos ⟨h2, h3, hd⟩, if_pos hd]
    · rw [if_neg (fun k => hd k.2.2), if_neg hd]
  · have hb : dBase l = 8 := by unfold dBase; rw [if_neg (show ¬ bt l 1 = 120 by omega), if_pos h3]
    have n1 : ¬ (bt l 0 = 48 ∧ bt l 1 = 120 ∧ dgs 16 (l.drop 2) = true) := fun k => by have := k.2.1; omega
    have n2 : ¬ (bt l 0 = 48 ∧ bt l 1 = 98 ∧ dgs 2 (l.drop 2) = true) := fun k => by have := k.2.1; omega
    rw [hb]
    unfold bsB
    rw [if_neg n1, if_neg n2]
    by_cases hd : dgs 8 (l.drop 2) = true
    · rw [if_pos ⟨h2, h3, hd⟩, if_pos hd]
    · rw [if_neg (fun k => hd k.2.2), if_neg hd]
  · have hb : dBase l = 2 := by unfold dBase; rw [if_neg (show ¬ bt l 1 = 120 by omega), if_neg (show ¬ bt l 1 = 111 by omega)]
    have n1 : ¬ (bt l 0 = 48 ∧ bt l 1 = 120 ∧ dgs 16 (l.drop 2) = true) := fun k => by have := k.2.1; omega
    have n2 : ¬ (bt l 0 = 48 ∧ bt l 1 = 111 ∧ dgs 8 (l.drop 2) = true) := fun k => by have := k.2.1; omega
    rw [hb]
    unfold bsB
    rw [if_neg n1, if_neg n2]
    by_cases hd : dgs 2 (l.drop 2) = true
    · rw [if_pos ⟨h2, h3, hd⟩, if_pos hd]
    · rw [if_neg (fun k => hd k.2.2), if_neg hd]
/-- the program's decimal part -/
def tnD (l : List UInt8) : NQ := if kdN (unS l) = 2 then intQ (piV (clnS l)) else if kdN (unS l) = 3 then numQ (noP (clnS l)) else badQ
theorem tnD_no {l : List UInt8} (h : kdN (unS l) = 0) : tnD l = badQ := by unfold tnD; rw [h]; rfl
theorem dn_int {l w : List UInt8} (hu : unS l = w) (hw : dgs 10 w = true) (hz : ¬ (1 < (clnS w).length ∧ bt (clnS w) 0 = 48)) : dnI (if dT0 l w = [45, 48] then [48] else dT0 l w) = intQ (piV (clnS l)) := by
  obtain ⟨a, t, he, ha⟩ := ncln_ne hw
  have hD := cln_dig hw
  rcases sign_cases l with ⟨-, h1, h2, h3⟩ | ⟨B, rfl, h1, -⟩ | ⟨B, rfl, h1, -⟩
  · have e : dT0 l w = clnS w := by unfold dT0; rw [if_neg h3, List.nil_append]
    rw [e]
    rw [h1] at hu; subst hu
    exact int_same hD he hz _ (Or.inl rfl)
  · have e : dT0 (43 :: B) w = clnS w := by unfold dT0; rw [if_neg (show ¬ bt (43 :: B) 0 = 45 by rw [bt_cons]; decide), List.nil_append]
    rw [e, cln_cons (show (43 : UInt8).toNat ≠ 95 by decide)]
    rw [h1] at hu; subst hu
    rw [piV_plusD he ha]
    exact int_same hD he hz _ (Or.inl rfl)
  · have e : dT0 (45 :: B) w = 45 :: clnS w := by unfold dT0; rw [if_pos (show bt (45 :: B) 0 = 45 by rw [bt_cons]; decide)]; rfl
    rw [e, cln_cons (show (45 : UInt8).toNat ≠ 95 by decide)]
    rw [h1] at hu; subst hu
    exact int_same hD he hz _ (Or.inr rfl)
theorem num_same {x : List UInt8} (h : intB x = false) : dnN x = numQ x := by unfold dnN numQ; rw [h]; rfl
theorem dnE_same (l : List UInt8) : dnE l (unS l) = tnD l := by
  generalize hB : unS l = B
  obtain ⟨w, f, z, hw, hf, eW, hdot, hpw⟩ := d_parts B
  have hzs : nstp (dgB 10) z := z_stp (by
    rcases hpw with ⟨-, e⟩ | ⟨c, p, -, e, -, hc⟩
    · exact Or.inl e
    · exact Or.inr ⟨c, p, e, hc⟩)
  have hy : ∃ y, B = w ++ y ∧ nstp (dgB 10) y := by
    rcases hdot with ⟨-, -, e⟩ | ⟨-, -, -, e⟩
    · exact ⟨z, e, hzs⟩
    · exact ⟨_, e, dot_stp _⟩
  obtain ⟨y, eB, hys⟩ := hy
  unfold dnE
  rw [eW]
  by_cases hd : dgs 10 w = true
  rotate_left
  · have hd' : dgs 10 w = false := by simpa using hd
    rw [if_pos (Or.inl hd')]
    exact (tnD_no (by rw [hB, eB]; exact kd_w_no hys hw hd')).symm
  have hkd := kd_w_yes hys hd
  by_cases hz : 1 < (clnS w).length ∧ bt (clnS w) 0 = 48
  · rw [if_pos (Or.inr hz)]
    refine (tnD_no ?_).symm
    rw [hB, eB, hkd, if_pos ((zero_same hd).1 hz)]
  rw [if_neg (by rintro (k | k); rw [hd] at k; cases k; exact hz k)]
  rw [if_neg (fun k => hz ((zero_same hd).2 k))] at hkd
  obtain ⟨a, t, he, ha⟩ := ncln_ne hd
  have hD := cln_dig hd
  have hnP : ∀ r, clnS B = clnS w ++ r → noP (clnS l) = (if bt l 0 = 45 then [45] else []) ++ (clnS w ++ r) := fun r hr => by
    rw [noP_of l (a := a) (t := t ++ r) (by rw [hB, hr, he]; rfl) ha, hB, hr]
  rcases hdot with ⟨d1, d2, d3⟩ | ⟨d1, d2, d3, d4⟩
  · obtain rfl : y = z := List.append_cancel_left (eB.symm.trans d3)
    rcases hpw with ⟨p1, rfl⟩ | ⟨c, p, p1, rfl, p3, hc⟩
    · rw [if_pos ⟨d1, p1⟩]
      rw [List.append_nil] at d3
      rw [if_pos rfl] at hkd
      unfold tnD
      rw [hB, eB, hkd, if_pos rfl]
      exact dn_int (hB.trans d3) hd hz
    · rw [if_neg (fun k => by rw [p1] at k; cases k.2), if_neg (fun k => by rw [d1] at k; cases k.1), p3]
      have hkF : kdF (c :: p) = false := by unfold kdF; rw [bt_cons, decide_eq_false (fun k => by omega)]
      have hkR : kdR (c :: p) = c :: p := by unfold kdR; rw [bt_cons, if_neg (by omega)]
      have hpB : pwB (c :: p) = dgs 10 (unS p) := by unfold pwB; rw [bt_cons, decide_eq_true hc]; rfl
      rw [if_neg (by simp), hkF, if_neg (by decide), hkR, hpB] at hkd
      by_cases hq : dgs 10 (unS p) = true
      rotate_left
      · have hq' : dgs 10 (unS p) = false := by simpa using hq
        rw [if_pos ⟨p1, hq'⟩]
        refine (tnD_no ?_).symm
        rw [hB, eB, hkd, if_pos ⟨by simp, hq'⟩]
      rw [if_neg (fun k => by rw [hq] at k; cases k.2)]
      rw [if_neg (fun k => by rw [hq] at k; cases k.2)] at hkd
      unfold tnD
      rw [hB, eB, hkd, if_neg (by decide), if_pos rfl]
      obtain ⟨q1, q2⟩ := p_no69 hq
      have hT : dTx l B = noP (clnS l) := by
        rw [hnP (c :: clnS p) (by rw [eB, cln_app, cln_cons (by omega)])]
        unfold dTx dT0
        rw [eW, d1, p1, p3, d2, if_neg (show ¬ (false = true) by decide), if_pos rfl, eB, eB_one (fun b hb => (hw b hb).2.2) q1 q2 hc, List.append_nil, ← cln_sg, List.append_assoc]
      rw [← eB, hT]
      refine num_same ?_
      rw [hnP (c :: clnS p) (by rw [eB, cln_app, cln_cons (by omega)])]
      refine int_no_pw hD he hc (p := clnS p) ?_ ?_
      · rw [cln_sg]
        obtain ⟨b, g, hbg, -⟩ := ncln_ne hq
        rw [hbg]; simp
      · by_cases h45 : bt l 0 = 45
        · right; rw [if_pos h45]; rfl
        · left; rw [if_neg h45]; rfl
  · obtain rfl : y = 46 :: (f ++ z) := List.append_cancel_left (eB.symm.trans d4)
    rw [if_neg (fun k => by rw [d1] at k; cases k.1), d2]
    by_cases hfd : dgs 10 f = true
    rotate_left
    · have hfd' : dgs 10 f = false := by simpa using hfd
      rw [if_pos ⟨d1, hfd'⟩]
      refine (tnD_no ?_).symm
      rw [hB, eB, hkd, if_neg (by simp)]
      rcases frac_no hzs hf hfd' with k | k
      · rw [if_pos k]
      · by_cases k2 : kdF (46 :: (f ++ z)) = true
        · rw [if_pos k2]
        · rw [if_neg k2, if_pos k]
    rw [if_neg (fun k => by rw [hfd] at k; cases k.2)]
    obtain ⟨f1, f2⟩ := frac_yes hzs hfd
    rw [if_neg (by simp), f1, if_neg (by decide), f2] at hkd
    obtain ⟨b, g, hbg, hbD⟩ := ncln_ne hfd
    rcases hpw with ⟨p1, rfl⟩ | ⟨c, p, p1, rfl, p3, hc⟩
    · rw [if_neg (fun k => by rw [p1] at k; cases k.1)]
      rw [if_neg (fun k => k.1 rfl)] at hkd
      unfold tnD
      rw [hB, eB, hkd, if_neg (by decide), if_pos rfl]
      have hr : clnS B = clnS w ++ (46 :: (clnS f ++ [])) := by rw [eB, cln_app, cln_cons (by decide), List.append_nil, List.append_nil]
      have hT : dTx l B = noP (clnS l) := by
        rw [hnP _ hr]
        unfold dTx dT0
        rw [eW, d1, p1, d2, if_pos rfl, if_neg (show ¬ (false = true) by decide), List.append_nil, List.append_nil, List.append_assoc]
      rw [← eB, hT]
      refine num_same ?_
      rw [hnP _ hr]
      refine int_no_dot hD he hbg hbD (y := []) ?_
      by_cases h45 : bt l 0 = 45
      · right; rw [if_pos h45]; rfl
      · left; rw [if_neg h45]; rfl
    · rw [p3]
      have hpB : pwB (c :: p) = dgs 10 (unS p) := by unfold pwB; rw [bt_cons, decide_eq_true hc]; rfl
      rw [hpB] at hkd
      by_cases hq : dgs 10 (unS p) = true
      rotate_left
      · have hq' : dgs 10 (unS p) = false := by simpa using hq
        rw [if_pos ⟨p1, hq'⟩]
        refine (tnD_no ?_).symm
        rw [hB, eB, hkd, if_pos ⟨by simp, hq'⟩]
      rw [if_neg (fun k => by rw [hq] at k; cases k.2)]
      rw [if_neg (fun k => by rw [hq] at k; cases k.2)] at hkd
      unfold tnD
      rw [hB, eB, hkd, if_neg (by decide), if_pos rfl]
      obtain ⟨q1, q2⟩ := p_no69 hq
      have hr : clnS B = clnS w ++ (46 :: (clnS f ++ (c :: clnS p))) := by rw [eB, cln_app, cln_cons (by decide), cln_app, cln_cons (a := c) (by omega)]
      have hm : ∀ x ∈ w ++ 46 :: f, x.toNat ≠ 69 := fun x hx => by
        rcases List.mem_append.1 hx with k | k
        · exact (hw x k).2.2
        · rcases List.mem_cons.1 k with rfl | k
          · decide
          · exact (hf x k).2
      have hT : dTx l B = noP (clnS l) := by
        rw [hnP _ hr]
        unfold dTx dT0
        rw [eW, d1, p1, p3, d2, if_pos rfl, if_pos rfl, d3]
        have e2 : B = (w ++ 46 :: f) ++ c :: p := by rw [eB]; simp
        rw [e2, eB_one hm q1 q2 hc, ← cln_sg]
        simp only [List.append_assoc, List.cons_append]
      rw [← eB, hT]
      refine num_same ?_
      rw [hnP _ hr]
      refine int_no_dot hD he hbg hbD (y := c :: clnS p) ?_
      by_cases h45 : bt l 0 = 45
      · right; rw [if_pos h45]; rfl
      · left; rw [if_neg h45]; rfl
/-- the document's Number is the program's -/
theorem dn_same (l : List UInt8) : dnQ l = tnQ l := by
  unfold dnQ tnQ
  by_cases hi : infB (unS l) = true
  · rw [if_pos hi, if_pos hi]
  rw [if_neg hi, if_neg hi]
  by_cases hp : dPre (unS l)
  · rw [if_pos hp]
    cases hs : sgA l with
    | true =>
      rw [if_pos (Or.inr rfl), bs_sign hs, if_neg (by simp), kd_pre hp]; rfl
    | false =>
      have hu : unS l = l := by unfold unS; rw [hs]; rfl
      rw [hu] at hp ⊢
      rw [bs_pre hp]
      by_cases hd : dgs (dBase l) (l.drop 2) = true
      · rw [if_pos hd, if_neg (by rintro (k | k); rw [hd] at k; cases k; cases k), if_pos (show dBase l ≠ 0 by unfold dBase; split; decide; split <;> decide)]
      · have hd' : dgs (dBase l) (l.drop 2) = false := by simpa using hd
        rw [if_neg hd, if_pos (Or.inl hd'), if_neg (by simp), kd_pre hp]; rfl
  · rw [if_neg hp, bs_none hp, if_neg (by simp)]
    exact dnE_same l
end Go.Proofs.YtlapefhnbbcmmaaGreatDoor
