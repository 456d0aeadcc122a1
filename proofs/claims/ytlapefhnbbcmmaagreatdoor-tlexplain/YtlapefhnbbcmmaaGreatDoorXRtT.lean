/- The document's Plain, walked: each way by itself. -/
import Derived.Test.YtlapefhnbbcmmaaGreatDoorXRtQ
namespace Go.Proofs.YtlapefhnbbcmmaaGreatDoor
open Go.RowKit
set_option linter.unusedVariables false

set_option maxRecDepth 100000 in
set_option maxHeartbeats 8000000 in
theorem rpEm (t R : ByteArray) (a n : Nat) (w : World)
    (ht : t.size ≤ 1000000) (ha : a < t.size)
    (hn : a + n ≤ t.size) (j1 : ¬ t[a].toNat = 34) (j2 : ¬ t[a].toNat = 39)
    (CR : Hid (∀ X, Calls Tryz.prog 33 #[.string t, .int .i64 (a : Int)] X fun e w' => e = .returned (.int .i64 (n : Int)) ∧ w' = X))
    (hR : t.extract a (a + n) = R)
    (hE : R = ⟨#[]⟩) :
    Calls Tryz.prog 9 #[.string t, .int .i64 (a : Int)] w fun e w' => e = .returned (.tuple #[.agg #[.int .i64 0, .int .i64 0, .string ⟨#[]⟩, nilS, nilS], .int .i64 0, .int .i64 4, .int .i64 (a : Int)]) ∧ Below w.heap.size w w' := by
  have n1 : ¬ (a : Int) < 0 := by omega
  have n2 : ¬ (t.size : Int) ≤ (a : Int) := by omega
  have k1 : ((t[a].toNat : Int) == 34) = false := by rw [beq_eq_false_iff_ne]; omega
  have k2 : ((t[a].toNat : Int) == 39) = false := by rw [beq_eq_false_iff_ne]; omega
  have n3 : (a : Int) + (n : Int) ≤ (t.size : Int) := by omega
  clear j1 j2
  subst hE
  go_enter Tryz.func9, Tryz.ntmps9
  go_wp2_with (go_at_call 33; go_must (refine (CR.out _).mono ?_; rintro e wr ⟨rfl, hwr⟩; obtain rfl := hwr.symm))
  refine bodyPost_ret (v := .tuple #[.agg #[.int .i64 0, .int .i64 0, .string ⟨#[]⟩, nilS, nilS], .int .i64 0, .int .i64 4, .int .i64 (a : Int)]) (by simp [results, Tryz.results9, go_sem]) rfl ⟨rfl, ?_⟩
  repeat (first | exact Below.refl _ _ | (refine vset_bel ?_ (by simp)) | apply valloc_bel)
set_option maxRecDepth 100000 in
set_option maxHeartbeats 8000000 in
theorem rpTr (t R : ByteArray) (a n : Nat) (w : World)
    (ht : t.size ≤ 1000000) (ha : a < t.size)
    (hn : a + n ≤ t.size) (j1 : ¬ t[a].toNat = 34) (j2 : ¬ t[a].toNat = 39)
    (CR : Hid (∀ X, Calls Tryz.prog 33 #[.string t, .int .i64 (a : Int)] X fun e w' => e = .returned (.int .i64 (n : Int)) ∧ w' = X))
    (hR : t.extract a (a + n) = R)
    (hne : ¬ R.toList = []) (s1 : (R.toList == [116, 114, 117, 101]) = true) :
    Calls Tryz.prog 9 #[.string t, .int .i64 (a : Int)] w fun e w' => e = .returned (.tuple #[.agg #[.int .i64 1, .int .i64 1, .string ⟨#[]⟩, nilS, nilS], .int .i64 ((a : Int) + (n : Int)), .int .i64 0, .int .i64 0]) ∧ Below w.heap.size w w' := by
  have n1 : ¬ (a : Int) < 0 := by omega
  have n2 : ¬ (t.size : Int) ≤ (a : Int) := by omega
  have k1 : ((t[a].toNat : Int) == 34) = false := by rw [beq_eq_false_iff_ne]; omega
  have k2 : ((t[a].toNat : Int) == 39) = false := by rw [beq_eq_false_iff_ne]; omega
  have n3 : (a : Int) + (n : Int) ≤ (t.size : Int) := by omega
  clear j1 j2
  have hn0 : ¬ R.toList = [] := hne
  have hem : R.toList.isEmpty = false := by rw [List.isEmpty_eq_false_iff]; exact hne
  go_enter Tryz.func9, Tryz.ntmps9
  go_wp2_with (go_at_call 33; go_must (refine (CR.out _).mono ?_; rintro e wr ⟨rfl, hwr⟩; obtain rfl := hwr.symm))
  refine bodyPost_ret (v := .tuple #[.agg #[.int .i64 1, .int .i64 1, .string ⟨#[]⟩, nilS, nilS], .int .i64 ((a : Int) + (n : Int)), .int .i64 0, .int .i64 0]) (by simp [results, Tryz.results9, go_sem]) rfl ⟨rfl, ?_⟩
  repeat (first | exact Below.refl _ _ | (refine vset_bel ?_ (by simp)) | apply valloc_bel)
set_option maxRecDepth 100000 in
set_option maxHeartbeats 8000000 in
theorem rpFa (t R : ByteArray) (a n : Nat) (w : World)
    (ht : t.size ≤ 1000000) (ha : a < t.size)
    (hn : a + n ≤ t.size) (j1 : ¬ t[a].toNat = 34) (j2 : ¬ t[a].toNat = 39)
    (CR : Hid (∀ X, Calls Tryz.prog 33 #[.string t, .int .i64 (a : Int)] X fun e w' => e = .returned (.int .i64 (n : Int)) ∧ w' = X))
    (hR : t.extract a (a + n) = R)
    (hne : ¬ R.toList = []) (s1 : (R.toList == [116, 114, 117, 101]) = false) (s2 : (R.toList == [102, 97, 108, 115, 101]) = true) :
    Calls Tryz.prog 9 #[.string t, .int .i64 (a : Int)] w fun e w' => e = .returned (.tuple #[.agg #[.int .i64 1, .int .i64 0, .string ⟨#[]⟩, nilS, nilS], .int .i64 ((a : Int) + (n : Int)), .int .i64 0, .int .i64 0]) ∧ Below w.heap.size w w' := by
  have n1 : ¬ (a : Int) < 0 := by omega
  have n2 : ¬ (t.size : Int) ≤ (a : Int) := by omega
  have k1 : ((t[a].toNat : Int) == 34) = false := by rw [beq_eq_false_iff_ne]; omega
  have k2 : ((t[a].toNat : Int) == 39) = false := by rw [beq_eq_false_iff_ne]; omega
  have n3 : (a : Int) + (n : Int) ≤ (t.size : Int) := by omega
  clear j1 j2
  have hn0 : ¬ R.toList = [] := hne
  have hem : R.toList.isEmpty = false := by rw [List.isEmpty_eq_false_iff]; exact hne
  go_enter Tryz.func9, Tryz.ntmps9
  go_wp2_with (go_at_call 33; go_must (refine (CR.out _).mono ?_; rintro e wr ⟨rfl, hwr⟩; obtain rfl := hwr.symm))
  refine bodyPost_ret (v := .tuple #[.agg #[.int .i64 1, .int .i64 0, .string ⟨#[]⟩, nilS, nilS], .int .i64 ((a : Int) + (n : Int)), .int .i64 0, .int .i64 0]) (by simp [results, Tryz.results9, go_sem]) rfl ⟨rfl, ?_⟩
  repeat (first | exact Below.refl _ _ | (refine vset_bel ?_ (by simp)) | apply valloc_bel)
set_option maxRecDepth 100000 in
set_option maxHeartbeats 8000000 in
theorem rpX (t R L : ByteArray) (a n m : Nat) (w : World)
    (ht : t.size ≤ 1000000) (ha : a < t.size)
    (hn : a + n ≤ t.size) (j1 : ¬ t[a].toNat = 34) (j2 : ¬ t[a].toNat = 39)
    (CR : Hid (∀ X, Calls Tryz.prog 33 #[.string t, .int .i64 (a : Int)] X fun e w' => e = .returned (.int .i64 (n : Int)) ∧ w' = X))
    (hR : t.extract a (a + n) = R)
    (hne : ¬ R.toList = []) (s1 : (R.toList == [116, 114, 117, 101]) = false) (s2 : (R.toList == [102, 97, 108, 115, 101]) = false)
    (CD : Hid (∀ X, Calls Tryz.prog 34 #[.string R] X fun e w' => e = .returned (.bool true) ∧ Below X.heap.size X w'))
    (hx : a + n < t.size) (hc : (t[a + n]'hx).toNat = 32)
    (CR2 : Hid (∀ X, Calls Tryz.prog 33 #[.string t, .int .i64 ((a : Int) + (n : Int) + 1)] X fun e w' => e = .returned (.int .i64 (m : Int)) ∧ w' = X))
    (hm : a + n + 1 + m ≤ t.size) (hL : t.extract a (a + n + 1 + m) = L)
    (CL : Hid (∀ X, Calls Tryz.prog 12 #[.string L] X fun e w' => e = .returned (.bool true) ∧ Below X.heap.size X w')) :
    Calls Tryz.prog 9 #[.string t, .int .i64 (a : Int)] w fun e w' => e = .returned (.tuple #[.agg #[.int .i64 7, .int .i64 0, .string L, nilS, nilS], .int .i64 ((a : Int) + (n : Int) + 1 + (m : Int)), .int .i64 0, .int .i64 0]) ∧ Below w.heap.size w w' := by
  have n1 : ¬ (a : Int) < 0 := by omega
  have n2 : ¬ (t.size : Int) ≤ (a : Int) := by omega
  have k1 : ((t[a].toNat : Int) == 34) = false := by rw [beq_eq_false_iff_ne]; omega
  have k2 : ((t[a].toNat : Int) == 39) = false := by rw [beq_eq_false_iff_ne]; omega
  have n3 : (a : Int) + (n : Int) ≤ (t.size : Int) := by omega
  clear j1 j2
  have hn0 : ¬ R.toList = [] := hne
  have hem : R.toList.isEmpty = false := by rw [List.isEmpty_eq_false_iff]; exact hne
  have hxz : (a : Int) + (n : Int) < (t.size : Int) := by omega
  have k3 : (((t[a + n]'hx).toNat : Int) == 32) = true := by rw [hc]; rfl
  have hmz : (a : Int) + (n : Int) + 1 + (m : Int) ≤ (t.size : Int) := by omega
  clear hc
  go_enter Tryz.func9, Tryz.ntmps9
  go_wp2_with (go_at_call 33; go_must (refine (CR.out _).mono ?_; rintro e wr ⟨rfl, hwr⟩; obtain rfl := hwr.symm))
  go_at_call 34
  refine (CD.out _).mono ?_
  rintro e w2 ⟨rfl, hb2⟩
  have R2 := hid (box_row hb2)
  have HB2 := hid (vonto (valloc_bel (Below.refl w.heap.size w) _) hb2)
  clear hb2 CD
  go_wp2_with (go_at_call 33; go_must (refine (CR2.out _).mono ?_; rintro e wr ⟨rfl, hwr⟩; obtain rfl := hwr.symm))
  go_at_call 12
  refine (CL.out _).mono ?_
  rintro e w3 ⟨rfl, hb3⟩
  have R3 := hid (R2.out.onto (hb3.block _ R2.out.lt))
  have HB3 := hid (vonto HB2.out hb3)
  clear hb3 R2 HB2 CL
  obtain ⟨u0, e0⟩ := R3.out.cell (o := 0) (by decide)
  obtain ⟨u1, e1⟩ := R3.out.cell (o := 1) (by decide)
  obtain ⟨u2, e2⟩ := R3.out.cell (o := 2) (by decide)
  obtain ⟨u3, e3⟩ := R3.out.cell (o := 3) (by decide)
  obtain ⟨u4, e4⟩ := R3.out.cell (o := 4) (by decide)
  have z0 := R3.out.frozen
  go_wp2_with fail
  refine bodyPost_ret (v := .tuple #[.agg #[.int .i64 7, .int .i64 0, .string L, nilS, nilS], .int .i64 ((a : Int) + (n : Int) + 1 + (m : Int)), .int .i64 0, .int .i64 0]) (by simp [results, Tryz.results9, go_sem, e0, e1, e2, e3, e4]) rfl ⟨rfl, ?_⟩
  repeat (first | exact HB3.out | (refine vset_bel ?_ (by simp)) | apply valloc_bel)
set_option maxRecDepth 100000 in
set_option maxHeartbeats 8000000 in
theorem rp1S (t R : ByteArray) (a n : Nat) (w : World)
    (ht : t.size ≤ 1000000) (ha : a < t.size)
    (hn : a + n ≤ t.size) (j1 : ¬ t[a].toNat = 34) (j2 : ¬ t[a].toNat = 39)
    (CR : Hid (∀ X, Calls Tryz.prog 33 #[.string t, .int .i64 (a : Int)] X fun e w' => e = .returned (.int .i64 (n : Int)) ∧ w' = X))
    (hR : t.extract a (a + n) = R)
    (hne : ¬ R.toList = []) (s1 : (R.toList == [116, 114, 117, 101]) = false) (s2 : (R.toList == [102, 97, 108, 115, 101]) = false)
    (CD : Hid (∀ X, Calls Tryz.prog 34 #[.string R] X fun e w' => e = .returned (.bool false) ∧ Below X.heap.size X w'))
    (CS : Hid (∀ X, Calls Tryz.prog 12 #[.string R] X fun e w' => e = .returned (.bool true) ∧ Below X.heap.size X w')) :
    Calls Tryz.prog 9 #[.string t, .int .i64 (a : Int)] w fun e w' => e = .returned (.tuple #[.agg #[.int .i64 7, .int .i64 0, .string R, nilS, nilS], .int .i64 ((a : Int) + (n : Int)), .int .i64 0, .int .i64 0]) ∧ Below w.heap.size w w' := by
  have n1 : ¬ (a : Int) < 0 := by omega
  have n2 : ¬ (t.size : Int) ≤ (a : Int) := by omega
  have k1 : ((t[a].toNat : Int) == 34) = false := by rw [beq_eq_false_iff_ne]; omega
  have k2 : ((t[a].toNat : Int) == 39) = false := by rw [beq_eq_false_iff_ne]; omega
  have n3 : (a : Int) + (n : Int) ≤ (t.size : Int) := by omega
  clear j1 j2
  have hn0 : ¬ R.toList = [] := hne
  have hem : R.toList.isEmpty = false := by rw [List.isEmpty_eq_false_iff]; exact hne
  go_enter Tryz.func9, Tryz.ntmps9
  go_wp2_with (go_at_call 33; go_must (refine (CR.out _).mono ?_; rintro e wr ⟨rfl, hwr⟩; obtain rfl := hwr.symm))
  go_at_call 34
  refine (CD.out _).mono ?_
  rintro e w2 ⟨rfl, hb2⟩
  have R2 := hid (box_row hb2)
  have HB2 := hid (vonto (valloc_bel (Below.refl w.heap.size w) _) hb2)
  clear hb2 CD
  go_wp2_with fail
  go_at_call 12
  refine (CS.out _).mono ?_
  rintro e w4 ⟨rfl, hb4⟩
  have R4 := hid (R2.out.onto (hb4.block _ R2.out.lt))
  have HB4 := hid (vonto HB2.out hb4)
  clear hb4 R2 HB2 CS
  obtain ⟨u0, e0⟩ := R4.out.cell (o := 0) (by decide)
  obtain ⟨u1, e1⟩ := R4.out.cell (o := 1) (by decide)
  obtain ⟨u2, e2⟩ := R4.out.cell (o := 2) (by decide)
  obtain ⟨u3, e3⟩ := R4.out.cell (o := 3) (by decide)
  obtain ⟨u4, e4⟩ := R4.out.cell (o := 4) (by decide)
  have z0 := R4.out.frozen
  go_wp2_with fail
  refine bodyPost_ret (v := .tuple #[.agg #[.int .i64 7, .int .i64 0, .string R, nilS, nilS], .int .i64 ((a : Int) + (n : Int)), .int .i64 0, .int .i64 0]) (by simp [results, Tryz.results9, go_sem, e0, e1, e2, e3, e4]) rfl ⟨rfl, ?_⟩
  repeat (first | exact HB4.out | (refine vset_bel ?_ (by simp)) | apply valloc_bel)
set_option maxRecDepth 100000 in
set_option maxHeartbeats 8000000 in
theorem rp2S (t R : ByteArray) (a n : Nat) (w : World)
    (ht : t.size ≤ 1000000) (ha : a < t.size)
    (hn : a + n ≤ t.size) (j1 : ¬ t[a].toNat = 34) (j2 : ¬ t[a].toNat = 39)
    (CR : Hid (∀ X, Calls Tryz.prog 33 #[.string t, .int .i64 (a : Int)] X fun e w' => e = .returned (.int .i64 (n : Int)) ∧ w' = X))
    (hR : t.extract a (a + n) = R)
    (hne : ¬ R.toList = []) (s1 : (R.toList == [116, 114, 117, 101]) = false) (s2 : (R.toList == [102, 97, 108, 115, 101]) = false)
    (CD : Hid (∀ X, Calls Tryz.prog 34 #[.string R] X fun e w' => e = .returned (.bool true) ∧ Below X.heap.size X w'))
    (hx : ¬ a + n < t.size)
    (CS : Hid (∀ X, Calls Tryz.prog 12 #[.string R] X fun e w' => e = .returned (.bool true) ∧ Below X.heap.size X w')) :
    Calls Tryz.prog 9 #[.string t, .int .i64 (a : Int)] w fun e w' => e = .returned (.tuple #[.agg #[.int .i64 7, .int .i64 0, .string R, nilS, nilS], .int .i64 ((a : Int) + (n : Int)), .int .i64 0, .int .i64 0]) ∧ Below w.heap.size w w' := by
  have n1 : ¬ (a : Int) < 0 := by omega
  have n2 : ¬ (t.size : Int) ≤ (a : Int) := by omega
  have k1 : ((t[a].toNat : Int) == 34) = false := by rw [beq_eq_false_iff_ne]; omega
  have k2 : ((t[a].toNat : Int) == 39) = false := by rw [beq_eq_false_iff_ne]; omega
  have n3 : (a : Int) + (n : Int) ≤ (t.size : Int) := by omega
  clear j1 j2
  have hn0 : ¬ R.toList = [] := hne
  have hem : R.toList.isEmpty = false := by rw [List.isEmpty_eq_false_iff]; exact hne
  have hxz : ¬ (a : Int) + (n : Int) < (t.size : Int) := by omega
  go_enter Tryz.func9, Tryz.ntmps9
  go_wp2_with (go_at_call 33; go_must (refine (CR.out _).mono ?_; rintro e wr ⟨rfl, hwr⟩; obtain rfl := hwr.symm))
  go_at_call 34
  refine (CD.out _).mono ?_
  rintro e w2 ⟨rfl, hb2⟩
  have R2 := hid (box_row hb2)
  have HB2 := hid (vonto (valloc_bel (Below.refl w.heap.size w) _) hb2)
  clear hb2 CD
  go_wp2_with fail
  go_at_call 12
  refine (CS.out _).mono ?_
  rintro e w4 ⟨rfl, hb4⟩
  have R4 := hid (R2.out.onto (hb4.block _ R2.out.lt))
  have HB4 := hid (vonto HB2.out hb4)
  clear hb4 R2 HB2 CS
  obtain ⟨u0, e0⟩ := R4.out.cell (o := 0) (by decide)
  obtain ⟨u1, e1⟩ := R4.out.cell (o := 1) (by decide)
  obtain ⟨u2, e2⟩ := R4.out.cell (o := 2) (by decide)
  obtain ⟨u3, e3⟩ := R4.out.cell (o := 3) (by decide)
  obtain ⟨u4, e4⟩ := R4.out.cell (o := 4) (by decide)
  have z0 := R4.out.frozen
  go_wp2_with fail
  refine bodyPost_ret (v := .tuple #[.agg #[.int .i64 7, .int .i64 0, .string R, nilS, nilS], .int .i64 ((a : Int) + (n : Int)), .int .i64 0, .int .i64 0]) (by simp [results, Tryz.results9, go_sem, e0, e1, e2, e3, e4]) rfl ⟨rfl, ?_⟩
  repeat (first | exact HB4.out | (refine vset_bel ?_ (by simp)) | apply valloc_bel)
set_option maxRecDepth 100000 in
set_option maxHeartbeats 8000000 in
theorem rp3S (t R : ByteArray) (a n : Nat) (w : World)
    (ht : t.size ≤ 1000000) (ha : a < t.size)
    (hn : a + n ≤ t.size) (j1 : ¬ t[a].toNat = 34) (j2 : ¬ t[a].toNat = 39)
    (CR : Hid (∀ X, Calls Tryz.prog 33 #[.string t, .int .i64 (a : Int)] X fun e w' => e = .returned (.int .i64 (n : Int)) ∧ w' = X))
    (hR : t.extract a (a + n) = R)
    (hne : ¬ R.toList = []) (s1 : (R.toList == [116, 114, 117, 101]) = false) (s2 : (R.toList == [102, 97, 108, 115, 101]) = false)
    (CD : Hid (∀ X, Calls Tryz.prog 34 #[.string R] X fun e w' => e = .returned (.bool true) ∧ Below X.heap.size X w'))
    (hx : a + n < t.size) (hc : ¬ (t[a + n]'hx).toNat = 32)
    (CS : Hid (∀ X, Calls Tryz.prog 12 #[.string R] X fun e w' => e = .returned (.bool true) ∧ Below X.heap.size X w')) :
    Calls Tryz.prog 9 #[.string t, .int .i64 (a : Int)] w fun e w' => e = .returned (.tuple #[.agg #[.int .i64 7, .int .i64 0, .string R, nilS, nilS], .int .i64 ((a : Int) + (n : Int)), .int .i64 0, .int .i64 0]) ∧ Below w.heap.size w w' := by
  have n1 : ¬ (a : Int) < 0 := by omega
  have n2 : ¬ (t.size : Int) ≤ (a : Int) := by omega
  have k1 : ((t[a].toNat : Int) == 34) = false := by rw [beq_eq_false_iff_ne]; omega
  have k2 : ((t[a].toNat : Int) == 39) = false := by rw [beq_eq_false_iff_ne]; omega
  have n3 : (a : Int) + (n : Int) ≤ (t.size : Int) := by omega
  clear j1 j2
  have hn0 : ¬ R.toList = [] := hne
  have hem : R.toList.isEmpty = false := by rw [List.isEmpty_eq_false_iff]; exact hne
  have hxz : (a : Int) + (n : Int) < (t.size : Int) := by omega
  have k3 : (((t[a + n]'hx).toNat : Int) == 32) = false := by rw [beq_eq_false_iff_ne]; omega
  clear hc
  go_enter Tryz.func9, Tryz.ntmps9
  go_wp2_with (go_at_call 33; go_must (refine (CR.out _).mono ?_; rintro e wr ⟨rfl, hwr⟩; obtain rfl := hwr.symm))
  go_at_call 34
  refine (CD.out _).mono ?_
  rintro e w2 ⟨rfl, hb2⟩
  have R2 := hid (box_row hb2)
  have HB2 := hid (vonto (valloc_bel (Below.refl w.heap.size w) _) hb2)
  clear hb2 CD
  go_wp2_with fail
  go_at_call 12
  refine (CS.out _).mono ?_
  rintro e w4 ⟨rfl, hb4⟩
  have R4 := hid (R2.out.onto (hb4.block _ R2.out.lt))
  have HB4 := hid (vonto HB2.out hb4)
  clear hb4 R2 HB2 CS
  obtain ⟨u0, e0⟩ := R4.out.cell (o := 0) (by decide)
  obtain ⟨u1, e1⟩ := R4.out.cell (o := 1) (by decide)
  obtain ⟨u2, e2⟩ := R4.out.cell (o := 2) (by decide)
  obtain ⟨u3, e3⟩ := R4.out.cell (o := 3) (by decide)
  obtain ⟨u4, e4⟩ := R4.out.cell (o := 4) (by decide)
  have z0 := R4.out.frozen
  go_wp2_with fail
  refine bodyPost_ret (v := .tuple #[.agg #[.int .i64 7, .int .i64 0, .string R, nilS, nilS], .int .i64 ((a : Int) + (n : Int)), .int .i64 0, .int .i64 0]) (by simp [results, Tryz.results9, go_sem, e0, e1, e2, e3, e4]) rfl ⟨rfl, ?_⟩
  repeat (first | exact HB4.out | (refine vset_bel ?_ (by simp)) | apply valloc_bel)
set_option maxRecDepth 100000 in
set_option maxHeartbeats 8000000 in
theorem rpBS (t R L : ByteArray) (a n m : Nat) (w : World)
    (ht : t.size ≤ 1000000) (ha : a < t.size)
    (hn : a + n ≤ t.size) (j1 : ¬ t[a].toNat = 34) (j2 : ¬ t[a].toNat = 39)
    (CR : Hid (∀ X, Calls Tryz.prog 33 #[.string t, .int .i64 (a : Int)] X fun e w' => e = .returned (.int .i64 (n : Int)) ∧ w' = X))
    (hR : t.extract a (a + n) = R)
    (hne : ¬ R.toList = []) (s1 : (R.toList == [116, 114, 117, 101]) = false) (s2 : (R.toList == [102, 97, 108, 115, 101]) = false)
    (CD : Hid (∀ X, Calls Tryz.prog 34 #[.string R] X fun e w' => e = .returned (.bool true) ∧ Below X.heap.size X w'))
    (hx : a + n < t.size) (hc : (t[a + n]'hx).toNat = 32)
    (CR2 : Hid (∀ X, Calls Tryz.prog 33 #[.string t, .int .i64 ((a : Int) + (n : Int) + 1)] X fun e w' => e = .returned (.int .i64 (m : Int)) ∧ w' = X))
    (hm : a + n + 1 + m ≤ t.size) (hL : t.extract a (a + n + 1 + m) = L)
    (CL : Hid (∀ X, Calls Tryz.prog 12 #[.string L] X fun e w' => e = .returned (.bool false) ∧ Below X.heap.size X w'))
    (CS : Hid (∀ X, Calls Tryz.prog 12 #[.string R] X fun e w' => e = .returned (.bool true) ∧ Below X.heap.size X w')) :
    Calls Tryz.prog 9 #[.string t, .int .i64 (a : Int)] w fun e w' => e = .returned (.tuple #[.agg #[.int .i64 7, .int .i64 0, .string R, nilS, nilS], .int .i64 ((a : Int) + (n : Int)), .int .i64 0, .int .i64 0]) ∧ Below w.heap.size w w' := by
  have n1 : ¬ (a : Int) < 0 := by omega
  have n2 : ¬ (t.size : Int) ≤ (a : Int) := by omega
  have k1 : ((t[a].toNat : Int) == 34) = false := by rw [beq_eq_false_iff_ne]; omega
  have k2 : ((t[a].toNat : Int) == 39) = false := by rw [beq_eq_false_iff_ne]; omega
  have n3 : (a : Int) + (n : Int) ≤ (t.size : Int) := by omega
  clear j1 j2
  have hn0 : ¬ R.toList = [] := hne
  have hem : R.toList.isEmpty = false := by rw [List.isEmpty_eq_false_iff]; exact hne
  have hxz : (a : Int) + (n : Int) < (t.size : Int) := by omega
  have k3 : (((t[a + n]'hx).toNat : Int) == 32) = true := by rw [hc]; rfl
  have hmz : (a : Int) + (n : Int) + 1 + (m : Int) ≤ (t.size : Int) := by omega
  clear hc
  go_enter Tryz.func9, Tryz.ntmps9
  go_wp2_with (go_at_call 33; go_must (refine (CR.out _).mono ?_; rintro e wr ⟨rfl, hwr⟩; obtain rfl := hwr.symm))
  go_at_call 34
  refine (CD.out _).mono ?_
  rintro e w2 ⟨rfl, hb2⟩
  have R2 := hid (box_row hb2)
  have HB2 := hid (vonto (valloc_bel (Below.refl w.heap.size w) _) hb2)
  clear hb2 CD
  go_wp2_with (go_at_call 33; go_must (refine (CR2.out _).mono ?_; rintro e wr ⟨rfl, hwr⟩; obtain rfl := hwr.symm))
  go_at_call 12
  refine (CL.out _).mono ?_
  rintro e w3 ⟨rfl, hb3⟩
  have R3 := hid (R2.out.onto (hb3.block _ R2.out.lt))
  have HB3 := hid (vonto HB2.out hb3)
  clear hb3 R2 HB2 CL
  go_wp2_with fail
  go_at_call 12
  refine (CS.out _).mono ?_
  rintro e w4 ⟨rfl, hb4⟩
  have R4 := hid (R3.out.onto (hb4.block _ R3.out.lt))
  have HB4 := hid (vonto HB3.out hb4)
  clear hb4 R3 HB3 CS
  obtain ⟨u0, e0⟩ := R4.out.cell (o := 0) (by decide)
  obtain ⟨u1, e1⟩ := R4.out.cell (o := 1) (by decide)
  obtain ⟨u2, e2⟩ := R4.out.cell (o := 2) (by decide)
  obtain ⟨u3, e3⟩ := R4.out.cell (o := 3) (by decide)
  obtain ⟨u4, e4⟩ := R4.out.cell (o := 4) (by decide)
  have z0 := R4.out.frozen
  go_wp2_with fail
  refine bodyPost_ret (v := .tuple #[.agg #[.int .i64 7, .int .i64 0, .string R, nilS, nilS], .int .i64 ((a : Int) + (n : Int)), .int .i64 0, .int .i64 0]) (by simp [results, Tryz.results9, go_sem, e0, e1, e2, e3, e4]) rfl ⟨rfl, ?_⟩
  repeat (first | exact HB4.out | (refine vset_bel ?_ (by simp)) | apply valloc_bel)
end Go.Proofs.YtlapefhnbbcmmaaGreatDoor
