/- The document's Number, walked: the ways without a base. -/
import Derived.Test.YtlapefhnbbcmmaaGreatDoorXRtQ
namespace Go.Proofs.YtlapefhnbbcmmaaGreatDoor
open Go.RowKit

set_option maxRecDepth 100000 in
set_option maxHeartbeats 8000000 in
theorem rnW (s b m p wd f WH : ByteArray) (sv : Int) (pw dt : Bool) (w : World)
    (CU : Hid (∀ X, Calls Tryz.prog 36 #[.string s] X fun e w' => e = .returned (.tuple #[.string b, .int .u8 sv]) ∧ Below X.heap.size X w'))
    (CE : Hid (∀ X, Calls Tryz.prog 39 #[.string b, .string ⟨#[101, 69]⟩] X fun e w' => e = .returned (.tuple #[.string m, .string p, .bool pw]) ∧ Below X.heap.size X w'))
    (CD : Hid (∀ X, Calls Tryz.prog 39 #[.string m, .string ⟨#[46]⟩] X fun e w' => e = .returned (.tuple #[.string wd, .string f, .bool dt]) ∧ Below X.heap.size X w'))
    (CW : Hid (∀ X, Calls Tryz.prog 37 #[.string wd, .int .i64 10] X fun e w' => e = .returned (.tuple #[.string WH, .bool false]) ∧ w' = X))
    (q1 : (b.toList == [105, 110, 102]) = false) (q2 : (b.toList == [110, 97, 110]) = false) (HNB : Hid (∀ h : 2 < b.size, ¬ (b[0].toNat = 48 ∧ (b[1].toNat = 120 ∨ b[1].toNat = 111 ∨ b[1].toNat = 98)))) :
    Calls Tryz.prog 11 #[.string s] w fun e w' => e = .returned (.tuple #[.agg #[.int .i64 0, .int .i64 0, .string ⟨#[]⟩, nilS, nilS], .int .i64 4]) ∧ Below w.heap.size w w' := by
  go_enter Tryz.func11, Tryz.ntmps11
  go_wp2_with fail
  go_at_call 36
  refine (CU.out _).mono ?_
  rintro e w2 ⟨rfl, hb2⟩
  have R2 := hid (box_row hb2)
  have HB2 := hid (vonto (valloc_bel (Below.refl w.heap.size w) _) hb2)
  clear hb2
  go_upto_region 4 with fail
  go_cut [65] (fun v wx => v = .bool false ∧ wx = w2)
  case first => as_aux_lemma =>
    by_cases h2 : 2 < b.size
    rotate_left
    · have h2z : ¬ (2 : Int) < (b.size : Int) := by omega
      clear h2
      go_wp2_with fail
      go_meet
      exact ⟨rfl, rfl⟩
    have h2z : (2 : Int) < (b.size : Int) := by omega
    have hn := HNB.out h2
    by_cases h0 : b[0].toNat = 48
    rotate_left
    · have g0 : ((b[0].toNat : Int) == 48) = false := by rw [beq_eq_false_iff_ne]; omega
      clear hn h0
      go_wp2_with fail
      go_meet
      exact ⟨rfl, rfl⟩
    have g0 : ((b[0].toNat : Int) == 48) = true := by rw [h0]; rfl
    have k1 : ((b[1].toNat : Int) == 120) = false := by rw [beq_eq_false_iff_ne]; omega
    have k2 : ((b[1].toNat : Int) == 111) = false := by rw [beq_eq_false_iff_ne]; omega
    have k3 : ((b[1].toNat : Int) == 98) = false := by rw [beq_eq_false_iff_ne]; omega
    clear hn h0
    go_wp2_with fail
    go_meet
    exact ⟨rfl, rfl⟩
  obtain ⟨rfl, rfl⟩ := hcut
  clear HNB
  go_wp2_with fail
  go_at_call 39
  refine (CE.out _).mono ?_
  rintro e w3 ⟨rfl, hb3⟩
  have R3 := hid (R2.out.onto (hb3.block _ R2.out.lt))
  have HB3 := hid (vonto HB2.out hb3)
  clear hb3 R2 HB2
  go_wp2_with fail
  go_at_call 39
  refine (CD.out _).mono ?_
  rintro e w4 ⟨rfl, hb4⟩
  have R4 := hid (R3.out.onto (hb4.block _ R3.out.lt))
  have HB4 := hid (vonto HB3.out hb4)
  clear hb4 R3 HB3
  obtain ⟨u0, e0⟩ := R4.out.cell (o := 0) (by decide)
  obtain ⟨u1, e1⟩ := R4.out.cell (o := 1) (by decide)
  obtain ⟨u2, e2⟩ := R4.out.cell (o := 2) (by decide)
  obtain ⟨u3, e3⟩ := R4.out.cell (o := 3) (by decide)
  obtain ⟨u4, e4⟩ := R4.out.cell (o := 4) (by decide)
  have z0 := R4.out.frozen
  go_wp2_with (go_at_call 37; go_must (refine (CW.out _).mono ?_; rintro e w5 ⟨rfl, hw5⟩; obtain rfl := hw5.symm))
  refine bodyPost_ret (v := .tuple #[.agg #[.int .i64 0, .int .i64 0, .string ⟨#[]⟩, nilS, nilS], .int .i64 4]) (by simp [results, Tryz.results11, go_sem, e0, e1, e2, e3, e4]) rfl ⟨rfl, ?_⟩
  repeat (first | exact HB4.out | (refine vset_bel ?_ (by simp)))
set_option maxRecDepth 100000 in
set_option maxHeartbeats 8000000 in
theorem rnZ (s b m p wd f WH : ByteArray) (sv : Int) (pw dt : Bool) (w : World)
    (CU : Hid (∀ X, Calls Tryz.prog 36 #[.string s] X fun e w' => e = .returned (.tuple #[.string b, .int .u8 sv]) ∧ Below X.heap.size X w'))
    (CE : Hid (∀ X, Calls Tryz.prog 39 #[.string b, .string ⟨#[101, 69]⟩] X fun e w' => e = .returned (.tuple #[.string m, .string p, .bool pw]) ∧ Below X.heap.size X w'))
    (CD : Hid (∀ X, Calls Tryz.prog 39 #[.string m, .string ⟨#[46]⟩] X fun e w' => e = .returned (.tuple #[.string wd, .string f, .bool dt]) ∧ Below X.heap.size X w'))
    (CW : Hid (∀ X, Calls Tryz.prog 37 #[.string wd, .int .i64 10] X fun e w' => e = .returned (.tuple #[.string WH, .bool true]) ∧ w' = X))
    (q1 : (b.toList == [105, 110, 102]) = false) (q2 : (b.toList == [110, 97, 110]) = false) (HNB : Hid (∀ h : 2 < b.size, ¬ (b[0].toNat = 48 ∧ (b[1].toNat = 120 ∨ b[1].toNat = 111 ∨ b[1].toNat = 98)))) (hW : WH.size ≤ 1000000) (hz1 : 1 < WH.size) (hz2 : WH[0].toNat = 48) :
    Calls Tryz.prog 11 #[.string s] w fun e w' => e = .returned (.tuple #[.agg #[.int .i64 0, .int .i64 0, .string ⟨#[]⟩, nilS, nilS], .int .i64 4]) ∧ Below w.heap.size w w' := by
  go_enter Tryz.func11, Tryz.ntmps11
  go_wp2_with fail
  go_at_call 36
  refine (CU.out _).mono ?_
  rintro e w2 ⟨rfl, hb2⟩
  have R2 := hid (box_row hb2)
  have HB2 := hid (vonto (valloc_bel (Below.refl w.heap.size w) _) hb2)
  clear hb2
  go_upto_region 4 with fail
  go_cut [65] (fun v wx => v = .bool false ∧ wx = w2)
  case first => as_aux_lemma =>
    by_cases h2 : 2 < b.size
    rotate_left
    · have h2z : ¬ (2 : Int) < (b.size : Int) := by omega
      clear h2
      go_wp2_with fail
      go_meet
      exact ⟨rfl, rfl⟩
    have h2z : (2 : Int) < (b.size : Int) := by omega
    have hn := HNB.out h2
    by_cases h0 : b[0].toNat = 48
    rotate_left
    · have g0 : ((b[0].toNat : Int) == 48) = false := by rw [beq_eq_false_iff_ne]; omega
      clear hn h0
      go_wp2_with fail
      go_meet
      exact ⟨rfl, rfl⟩
    have g0 : ((b[0].toNat : Int) == 48) = true := by rw [h0]; rfl
    have k1 : ((b[1].toNat : Int) == 120) = false := by rw [beq_eq_false_iff_ne]; omega
    have k2 : ((b[1].toNat : Int) == 111) = false := by rw [beq_eq_false_iff_ne]; omega
    have k3 : ((b[1].toNat : Int) == 98) = false := by rw [beq_eq_false_iff_ne]; omega
    clear hn h0
    go_wp2_with fail
    go_meet
    exact ⟨rfl, rfl⟩
  obtain ⟨rfl, rfl⟩ := hcut
  clear HNB
  go_wp2_with fail
  go_at_call 39
  refine (CE.out _).mono ?_
  rintro e w3 ⟨rfl, hb3⟩
  have R3 := hid (R2.out.onto (hb3.block _ R2.out.lt))
  have HB3 := hid (vonto HB2.out hb3)
  clear hb3 R2 HB2
  go_wp2_with fail
  go_at_call 39
  refine (CD.out _).mono ?_
  rintro e w4 ⟨rfl, hb4⟩
  have R4 := hid (R3.out.onto (hb4.block _ R3.out.lt))
  have HB4 := hid (vonto HB3.out hb4)
  clear hb4 R3 HB3
  obtain ⟨u0, e0⟩ := R4.out.cell (o := 0) (by decide)
  obtain ⟨u1, e1⟩ := R4.out.cell (o := 1) (by decide)
  obtain ⟨u2, e2⟩ := R4.out.cell (o := 2) (by decide)
  obtain ⟨u3, e3⟩ := R4.out.cell (o := 3) (by decide)
  obtain ⟨u4, e4⟩ := R4.out.cell (o := 4) (by decide)
  have z0 := R4.out.frozen
  have hz1z : (1 : Int) < (WH.size : Int) := by omega
  have gz : ((WH[0].toNat : Int) == 48) = true := by rw [hz2]; rfl
  clear hz2
  go_wp2_with (go_at_call 37; go_must (refine (CW.out _).mono ?_; rintro e w5 ⟨rfl, hw5⟩; obtain rfl := hw5.symm))
  refine bodyPost_ret (v := .tuple #[.agg #[.int .i64 0, .int .i64 0, .string ⟨#[]⟩, nilS, nilS], .int .i64 4]) (by simp [results, Tryz.results11, go_sem, e0, e1, e2, e3, e4]) rfl ⟨rfl, ?_⟩
  repeat (first | exact HB4.out | (refine vset_bel ?_ (by simp)))
set_option maxRecDepth 100000 in
set_option maxHeartbeats 8000000 in
theorem rnImy (s b m p wd f WH : ByteArray) (sv N : Int) (nb : Bool) (w : World)
    (CU : Hid (∀ X, Calls Tryz.prog 36 #[.string s] X fun e w' => e = .returned (.tuple #[.string b, .int .u8 sv]) ∧ Below X.heap.size X w'))
    (CE : Hid (∀ X, Calls Tryz.prog 39 #[.string b, .string ⟨#[101, 69]⟩] X fun e w' => e = .returned (.tuple #[.string m, .string p, .bool false]) ∧ Below X.heap.size X w'))
    (CD : Hid (∀ X, Calls Tryz.prog 39 #[.string m, .string ⟨#[46]⟩] X fun e w' => e = .returned (.tuple #[.string wd, .string f, .bool false]) ∧ Below X.heap.size X w'))
    (CW : Hid (∀ X, Calls Tryz.prog 37 #[.string wd, .int .i64 10] X fun e w' => e = .returned (.tuple #[.string WH, .bool true]) ∧ w' = X))
    (CI : Hid (∀ X, Calls Tryz.prog 40 #[.string ⟨#[48]⟩] X fun e w' => e = .returned (.tuple #[.int .i64 N, .bool nb]) ∧ w' = X))
    (q1 : (b.toList == [105, 110, 102]) = false) (q2 : (b.toList == [110, 97, 110]) = false) (HNB : Hid (∀ h : 2 < b.size, ¬ (b[0].toNat = 48 ∧ (b[1].toNat = 120 ∨ b[1].toNat = 111 ∨ b[1].toNat = 98)))) (hW : WH.size ≤ 1000000) (HLZ : Hid (∀ h : 1 < WH.size, ¬ WH[0].toNat = 48)) (gs : (sv == 45) = true) (gy : ((⟨#[45]⟩ ++ WH).toList == [45, 48]) = true) :
    Calls Tryz.prog 11 #[.string s] w fun e w' => e = .returned ((if nb = true then .tuple #[.agg #[.int .i64 2, .int .i64 N, .string ⟨#[]⟩, nilS, nilS], .int .i64 0] else .tuple #[.agg #[.int .i64 0, .int .i64 0, .string ⟨#[]⟩, nilS, nilS], .int .i64 6])) ∧ Below w.heap.size w w' := by
  go_enter Tryz.func11, Tryz.ntmps11
  go_wp2_with fail
  go_at_call 36
  refine (CU.out _).mono ?_
  rintro e w2 ⟨rfl, hb2⟩
  have R2 := hid (box_row hb2)
  have HB2 := hid (vonto (valloc_bel (Below.refl w.heap.size w) _) hb2)
  clear hb2
  go_upto_region 4 with fail
  go_cut [65] (fun v wx => v = .bool false ∧ wx = w2)
  case first => as_aux_lemma =>
    by_cases h2 : 2 < b.size
    rotate_left
    · have h2z : ¬ (2 : Int) < (b.size : Int) := by omega
      clear h2
      go_wp2_with fail
      go_meet
      exact ⟨rfl, rfl⟩
    have h2z : (2 : Int) < (b.size : Int) := by omega
    have hn := HNB.out h2
    by_cases h0 : b[0].toNat = 48
    rotate_left
    · have g0 : ((b[0].toNat : Int) == 48) = false := by rw [beq_eq_false_iff_ne]; omega
      clear hn h0
      go_wp2_with fail
      go_meet
      exact ⟨rfl, rfl⟩
    have g0 : ((b[0].toNat : Int) == 48) = true := by rw [h0]; rfl
    have k1 : ((b[1].toNat : Int) == 120) = false := by rw [beq_eq_false_iff_ne]; omega
    have k2 : ((b[1].toNat : Int) == 111) = false := by rw [beq_eq_false_iff_ne]; omega
    have k3 : ((b[1].toNat : Int) == 98) = false := by rw [beq_eq_false_iff_ne]; omega
    clear hn h0
    go_wp2_with fail
    go_meet
    exact ⟨rfl, rfl⟩
  obtain ⟨rfl, rfl⟩ := hcut
  clear HNB
  go_wp2_with fail
  go_at_call 39
  refine (CE.out _).mono ?_
  rintro e w3 ⟨rfl, hb3⟩
  have R3 := hid (R2.out.onto (hb3.block _ R2.out.lt))
  have HB3 := hid (vonto HB2.out hb3)
  clear hb3 R2 HB2
  go_wp2_with fail
  go_at_call 39
  refine (CD.out _).mono ?_
  rintro e w4 ⟨rfl, hb4⟩
  have R4 := hid (R3.out.onto (hb4.block _ R3.out.lt))
  have HB4 := hid (vonto HB3.out hb4)
  clear hb4 R3 HB3
  go_upto_region 20 with (go_at_call 37; go_must (refine (CW.out _).mono ?_; rintro e w5 ⟨rfl, hw5⟩; obtain rfl := hw5.symm))
  go_cut [125] (fun v wx => v = .bool false ∧ wx = w4)
  case first => as_aux_lemma =>
    by_cases h1 : 1 < WH.size
    rotate_left
    · have h1z : ¬ (1 : Int) < (WH.size : Int) := by omega
      clear h1
      go_wp2_with fail
      go_meet
      exact ⟨rfl, rfl⟩
    have h1z : (1 : Int) < (WH.size : Int) := by omega
    have gz : ((WH[0].toNat : Int) == 48) = false := by have := HLZ.out h1; rw [beq_eq_false_iff_ne]; omega
    go_wp2_with fail
    go_meet
    exact ⟨rfl, rfl⟩
  obtain ⟨rfl, rfl⟩ := hcut
  clear HLZ
  obtain ⟨u0, e0⟩ := R4.out.cell (o := 0) (by decide)
  obtain ⟨u1, e1⟩ := R4.out.cell (o := 1) (by decide)
  obtain ⟨u2, e2⟩ := R4.out.cell (o := 2) (by decide)
  obtain ⟨u3, e3⟩ := R4.out.cell (o := 3) (by decide)
  obtain ⟨u4, e4⟩ := R4.out.cell (o := 4) (by decide)
  have z0 := R4.out.frozen
  cases nb with
  | false =>
    go_wp2_with (first | (go_at_call 40; go_must (refine (CI.out _).mono ?_; rintro e w6 ⟨rfl, hw6⟩; obtain rfl := hw6.symm)))
    refine bodyPost_ret (v := .tuple #[.agg #[.int .i64 0, .int .i64 0, .string ⟨#[]⟩, nilS, nilS], .int .i64 6]) (by simp [results, Tryz.results11, go_sem, e0, e1, e2, e3, e4]) rfl ⟨rfl, ?_⟩
    repeat (first | exact HB4.out | (refine vset_bel ?_ (by simp)))
  | true =>
    go_wp2_with (first | (go_at_call 40; go_must (refine (CI.out _).mono ?_; rintro e w6 ⟨rfl, hw6⟩; obtain rfl := hw6.symm)))
    refine bodyPost_ret (v := .tuple #[.agg #[.int .i64 2, .int .i64 N, .string ⟨#[]⟩, nilS, nilS], .int .i64 0]) (by simp [results, Tryz.results11, go_sem, e0, e1, e2, e3, e4]) rfl ⟨rfl, ?_⟩
    repeat (first | exact HB4.out | (refine vset_bel ?_ (by simp)))
set_option maxRecDepth 100000 in
set_option maxHeartbeats 8000000 in
theorem rnIm (s b m p wd f WH : ByteArray) (sv N : Int) (nb : Bool) (w : World)
    (CU : Hid (∀ X, Calls Tryz.prog 36 #[.string s] X fun e w' => e = .returned (.tuple #[.string b, .int .u8 sv]) ∧ Below X.heap.size X w'))
    (CE : Hid (∀ X, Calls Tryz.prog 39 #[.string b, .string ⟨#[101, 69]⟩] X fun e w' => e = .returned (.tuple #[.string m, .string p, .bool false]) ∧ Below X.heap.size X w'))
    (CD : Hid (∀ X, Calls Tryz.prog 39 #[.string m, .string ⟨#[46]⟩] X fun e w' => e = .returned (.tuple #[.string wd, .string f, .bool false]) ∧ Below X.heap.size X w'))
    (CW : Hid (∀ X, Calls Tryz.prog 37 #[.string wd, .int .i64 10] X fun e w' => e = .returned (.tuple #[.string WH, .bool true]) ∧ w' = X))
    (CI : Hid (∀ X, Calls Tryz.prog 40 #[.string (⟨#[45]⟩ ++ WH)] X fun e w' => e = .returned (.tuple #[.int .i64 N, .bool nb]) ∧ w' = X))
    (q1 : (b.toList == [105, 110, 102]) = false) (q2 : (b.toList == [110, 97, 110]) = false) (HNB : Hid (∀ h : 2 < b.size, ¬ (b[0].toNat = 48 ∧ (b[1].toNat = 120 ∨ b[1].toNat = 111 ∨ b[1].toNat = 98)))) (hW : WH.size ≤ 1000000) (HLZ : Hid (∀ h : 1 < WH.size, ¬ WH[0].toNat = 48)) (gs : (sv == 45) = true) (gy : ((⟨#[45]⟩ ++ WH).toList == [45, 48]) = false) :
    Calls Tryz.prog 11 #[.string s] w fun e w' => e = .returned ((if nb = true then .tuple #[.agg #[.int .i64 2, .int .i64 N, .string ⟨#[]⟩, nilS, nilS], .int .i64 0] else .tuple #[.agg #[.int .i64 0, .int .i64 0, .string ⟨#[]⟩, nilS, nilS], .int .i64 6])) ∧ Below w.heap.size w w' := by
  go_enter Tryz.func11, Tryz.ntmps11
  go_wp2_with fail
  go_at_call 36
  refine (CU.out _).mono ?_
  rintro e w2 ⟨rfl, hb2⟩
  have R2 := hid (box_row hb2)
  have HB2 := hid (vonto (valloc_bel (Below.refl w.heap.size w) _) hb2)
  clear hb2
  go_upto_region 4 with fail
  go_cut [65] (fun v wx => v = .bool false ∧ wx = w2)
  case first => as_aux_lemma =>
    by_cases h2 : 2 < b.size
    rotate_left
    · have h2z : ¬ (2 : Int) < (b.size : Int) := by omega
      clear h2
      go_wp2_with fail
      go_meet
      exact ⟨rfl, rfl⟩
    have h2z : (2 : Int) < (b.size : Int) := by omega
    have hn := HNB.out h2
    by_cases h0 : b[0].toNat = 48
    rotate_left
    · have g0 : ((b[0].toNat : Int) == 48) = false := by rw [beq_eq_false_iff_ne]; omega
      clear hn h0
      go_wp2_with fail
      go_meet
      exact ⟨rfl, rfl⟩
    have g0 : ((b[0].toNat : Int) == 48) = true := by rw [h0]; rfl
    have k1 : ((b[1].toNat : Int) == 120) = false := by rw [beq_eq_false_iff_ne]; omega
    have k2 : ((b[1].toNat : Int) == 111) = false := by rw [beq_eq_false_iff_ne]; omega
    have k3 : ((b[1].toNat : Int) == 98) = false := by rw [beq_eq_false_iff_ne]; omega
    clear hn h0
    go_wp2_with fail
    go_meet
    exact ⟨rfl, rfl⟩
  obtain ⟨rfl, rfl⟩ := hcut
  clear HNB
  go_wp2_with fail
  go_at_call 39
  refine (CE.out _).mono ?_
  rintro e w3 ⟨rfl, hb3⟩
  have R3 := hid (R2.out.onto (hb3.block _ R2.out.lt))
  have HB3 := hid (vonto HB2.out hb3)
  clear hb3 R2 HB2
  go_wp2_with fail
  go_at_call 39
  refine (CD.out _).mono ?_
  rintro e w4 ⟨rfl, hb4⟩
  have R4 := hid (R3.out.onto (hb4.block _ R3.out.lt))
  have HB4 := hid (vonto HB3.out hb4)
  clear hb4 R3 HB3
  go_upto_region 20 with (go_at_call 37; go_must (refine (CW.out _).mono ?_; rintro e w5 ⟨rfl, hw5⟩; obtain rfl := hw5.symm))
  go_cut [125] (fun v wx => v = .bool false ∧ wx = w4)
  case first => as_aux_lemma =>
    by_cases h1 : 1 < WH.size
    rotate_left
    · have h1z : ¬ (1 : Int) < (WH.size : Int) := by omega
      clear h1
      go_wp2_with fail
      go_meet
      exact ⟨rfl, rfl⟩
    have h1z : (1 : Int) < (WH.size : Int) := by omega
    have gz : ((WH[0].toNat : Int) == 48) = false := by have := HLZ.out h1; rw [beq_eq_false_iff_ne]; omega
    go_wp2_with fail
    go_meet
    exact ⟨rfl, rfl⟩
  obtain ⟨rfl, rfl⟩ := hcut
  clear HLZ
  obtain ⟨u0, e0⟩ := R4.out.cell (o := 0) (by decide)
  obtain ⟨u1, e1⟩ := R4.out.cell (o := 1) (by decide)
  obtain ⟨u2, e2⟩ := R4.out.cell (o := 2) (by decide)
  obtain ⟨u3, e3⟩ := R4.out.cell (o := 3) (by decide)
  obtain ⟨u4, e4⟩ := R4.out.cell (o := 4) (by decide)
  have z0 := R4.out.frozen
  cases nb with
  | false =>
    go_wp2_with (first | (go_at_call 40; go_must (refine (CI.out _).mono ?_; rintro e w6 ⟨rfl, hw6⟩; obtain rfl := hw6.symm)))
    refine bodyPost_ret (v := .tuple #[.agg #[.int .i64 0, .int .i64 0, .string ⟨#[]⟩, nilS, nilS], .int .i64 6]) (by simp [results, Tryz.results11, go_sem, e0, e1, e2, e3, e4]) rfl ⟨rfl, ?_⟩
    repeat (first | exact HB4.out | (refine vset_bel ?_ (by simp)))
  | true =>
    go_wp2_with (first | (go_at_call 40; go_must (refine (CI.out _).mono ?_; rintro e w6 ⟨rfl, hw6⟩; obtain rfl := hw6.symm)))
    refine bodyPost_ret (v := .tuple #[.agg #[.int .i64 2, .int .i64 N, .string ⟨#[]⟩, nilS, nilS], .int .i64 0]) (by simp [results, Tryz.results11, go_sem, e0, e1, e2, e3, e4]) rfl ⟨rfl, ?_⟩
    repeat (first | exact HB4.out | (refine vset_bel ?_ (by simp)))
set_option maxRecDepth 100000 in
set_option maxHeartbeats 8000000 in
theorem rnIn (s b m p wd f WH : ByteArray) (sv N : Int) (nb : Bool) (w : World)
    (CU : Hid (∀ X, Calls Tryz.prog 36 #[.string s] X fun e w' => e = .returned (.tuple #[.string b, .int .u8 sv]) ∧ Below X.heap.size X w'))
    (CE : Hid (∀ X, Calls Tryz.prog 39 #[.string b, .string ⟨#[101, 69]⟩] X fun e w' => e = .returned (.tuple #[.string m, .string p, .bool false]) ∧ Below X.heap.size X w'))
    (CD : Hid (∀ X, Calls Tryz.prog 39 #[.string m, .string ⟨#[46]⟩] X fun e w' => e = .returned (.tuple #[.string wd, .string f, .bool false]) ∧ Below X.heap.size X w'))
    (CW : Hid (∀ X, Calls Tryz.prog 37 #[.string wd, .int .i64 10] X fun e w' => e = .returned (.tuple #[.string WH, .bool true]) ∧ w' = X))
    (CI : Hid (∀ X, Calls Tryz.prog 40 #[.string WH] X fun e w' => e = .returned (.tuple #[.int .i64 N, .bool nb]) ∧ w' = X))
    (q1 : (b.toList == [105, 110, 102]) = false) (q2 : (b.toList == [110, 97, 110]) = false) (HNB : Hid (∀ h : 2 < b.size, ¬ (b[0].toNat = 48 ∧ (b[1].toNat = 120 ∨ b[1].toNat = 111 ∨ b[1].toNat = 98)))) (hW : WH.size ≤ 1000000) (HLZ : Hid (∀ h : 1 < WH.size, ¬ WH[0].toNat = 48)) (gs : (sv == 45) = false) (gy : (WH.toList == [45, 48]) = false) :
    Calls Tryz.prog 11 #[.string s] w fun e w' => e = .returned ((if nb = true then .tuple #[.agg #[.int .i64 2, .int .i64 N, .string ⟨#[]⟩, nilS, nilS], .int .i64 0] else .tuple #[.agg #[.int .i64 0, .int .i64 0, .string ⟨#[]⟩, nilS, nilS], .int .i64 6])) ∧ Below w.heap.size w w' := by
  go_enter Tryz.func11, Tryz.ntmps11
  go_wp2_with fail
  go_at_call 36
  refine (CU.out _).mono ?_
  rintro e w2 ⟨rfl, hb2⟩
  have R2 := hid (box_row hb2)
  have HB2 := hid (vonto (valloc_bel (Below.refl w.heap.size w) _) hb2)
  clear hb2
  go_upto_region 4 with fail
  go_cut [65] (fun v wx => v = .bool false ∧ wx = w2)
  case first => as_aux_lemma =>
    by_cases h2 : 2 < b.size
    rotate_left
    · have h2z : ¬ (2 : Int) < (b.size : Int) := by omega
      clear h2
      go_wp2_with fail
      go_meet
      exact ⟨rfl, rfl⟩
    have h2z : (2 : Int) < (b.size : Int) := by omega
    have hn := HNB.out h2
    by_cases h0 : b[0].toNat = 48
    rotate_left
    · have g0 : ((b[0].toNat : Int) == 48) = false := by rw [beq_eq_false_iff_ne]; omega
      clear hn h0
      go_wp2_with fail
      go_meet
      exact ⟨rfl, rfl⟩
    have g0 : ((b[0].toNat : Int) == 48) = true := by rw [h0]; rfl
    have k1 : ((b[1].toNat : Int) == 120) = false := by rw [beq_eq_false_iff_ne]; omega
    have k2 : ((b[1].toNat : Int) == 111) = false := by rw [beq_eq_false_iff_ne]; omega
    have k3 : ((b[1].toNat : Int) == 98) = false := by rw [beq_eq_false_iff_ne]; omega
    clear hn h0
    go_wp2_with fail
    go_meet
    exact ⟨rfl, rfl⟩
  obtain ⟨rfl, rfl⟩ := hcut
  clear HNB
  go_wp2_with fail
  go_at_call 39
  refine (CE.out _).mono ?_
  rintro e w3 ⟨rfl, hb3⟩
  have R3 := hid (R2.out.onto (hb3.block _ R2.out.lt))
  have HB3 := hid (vonto HB2.out hb3)
  clear hb3 R2 HB2
  go_wp2_with fail
  go_at_call 39
  refine (CD.out _).mono ?_
  rintro e w4 ⟨rfl, hb4⟩
  have R4 := hid (R3.out.onto (hb4.block _ R3.out.lt))
  have HB4 := hid (vonto HB3.out hb4)
  clear hb4 R3 HB3
  go_upto_region 20 with (go_at_call 37; go_must (refine (CW.out _).mono ?_; rintro e w5 ⟨rfl, hw5⟩; obtain rfl := hw5.symm))
  go_cut [125] (fun v wx => v = .bool false ∧ wx = w4)
  case first => as_aux_lemma =>
    by_cases h1 : 1 < WH.size
    rotate_left
    · have h1z : ¬ (1 : Int) < (WH.size : Int) := by omega
      clear h1
      go_wp2_with fail
      go_meet
      exact ⟨rfl, rfl⟩
    have h1z : (1 : Int) < (WH.size : Int) := by omega
    have gz : ((WH[0].toNat : Int) == 48) = false := by have := HLZ.out h1; rw [beq_eq_false_iff_ne]; omega
    go_wp2_with fail
    go_meet
    exact ⟨rfl, rfl⟩
  obtain ⟨rfl, rfl⟩ := hcut
  clear HLZ
  obtain ⟨u0, e0⟩ := R4.out.cell (o := 0) (by decide)
  obtain ⟨u1, e1⟩ := R4.out.cell (o := 1) (by decide)
  obtain ⟨u2, e2⟩ := R4.out.cell (o := 2) (by decide)
  obtain ⟨u3, e3⟩ := R4.out.cell (o := 3) (by decide)
  obtain ⟨u4, e4⟩ := R4.out.cell (o := 4) (by decide)
  have z0 := R4.out.frozen
  cases nb with
  | false =>
    go_wp2_with (first | (go_at_call 40; go_must (refine (CI.out _).mono ?_; rintro e w6 ⟨rfl, hw6⟩; obtain rfl := hw6.symm)))
    refine bodyPost_ret (v := .tuple #[.agg #[.int .i64 0, .int .i64 0, .string ⟨#[]⟩, nilS, nilS], .int .i64 6]) (by simp [results, Tryz.results11, go_sem, e0, e1, e2, e3, e4]) rfl ⟨rfl, ?_⟩
    repeat (first | exact HB4.out | (refine vset_bel ?_ (by simp)))
  | true =>
    go_wp2_with (first | (go_at_call 40; go_must (refine (CI.out _).mono ?_; rintro e w6 ⟨rfl, hw6⟩; obtain rfl := hw6.symm)))
    refine bodyPost_ret (v := .tuple #[.agg #[.int .i64 2, .int .i64 N, .string ⟨#[]⟩, nilS, nilS], .int .i64 0]) (by simp [results, Tryz.results11, go_sem, e0, e1, e2, e3, e4]) rfl ⟨rfl, ?_⟩
    repeat (first | exact HB4.out | (refine vset_bel ?_ (by simp)))
end Go.Proofs.YtlapefhnbbcmmaaGreatDoor
