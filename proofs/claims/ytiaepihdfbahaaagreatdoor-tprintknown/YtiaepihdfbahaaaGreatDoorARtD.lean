/- The document's reading of days. Walked. -/
import Derived.Test.YtiaepihdfbahaaaGreatDoorARtC
import Derived.Test.YtiaepihdfbahaaaGreatDoorATlG
import Derived.Test.YtiaepihdfbahaaaGreatDoorAEscTun
namespace Go.Proofs.YtiaepihdfbahaaaGreatDoor
open Go.RowKit

theorem two_at (l : List UInt8) (i n : Nat) (h : i + 2 ≤ l.length) : twoB ((l.take (i + 2)).drop i) n = (is2 l i && decide (dg2 l i < n)) := by
  have hl : ((l.take (i + 2)).drop i).length = 2 := by rw [List.length_drop, List.length_take]; omega
  have b0 : bt ((l.take (i + 2)).drop i) 0 = bt l i := by rw [bt_drop, bt_take (by omega), Nat.add_zero]
  have b1 : bt ((l.take (i + 2)).drop i) 1 = bt l (i + 1) := by rw [bt_drop, bt_take (by omega)]
  have h1 : is2 ((l.take (i + 2)).drop i) 0 = is2 l i := by unfold is2 dgA; rw [b0]; simp only [Nat.zero_add]; rw [b1]
  have h2 : dg2 ((l.take (i + 2)).drop i) 0 = dg2 l i := by unfold dg2; rw [b0]; simp only [Nat.zero_add]; rw [b1]
  unfold twoB
  rw [decide_eq_true hl, h1, h2, Bool.true_and]
theorem two_of (s : ByteArray) (i n : Nat) (w : World) (h : i + 2 ≤ s.size) :
    Calls Tryz.prog 107 #[.string (s.extract i (i + 2)), .int .i64 (n : Int)] w fun e w' => e = .returned (.bool (is2 s.data.toList i && decide (dg2 s.data.toList i < n))) ∧ Below w.heap.size w w' := by
  have := rtwo_any (s.extract i (i + 2)) n w
  rw [part_list, two_at _ _ _ (by rw [size_list]; exact h)] at this
  exact this
theorem dg2_lt {l : List UInt8} {i : Nat} (h : is2 l i = true) : dg2 l i < 100 := by
  unfold is2 dgA at h
  simp only [Bool.and_eq_true, decide_eq_true_eq] at h
  unfold dg2; omega
theorem is2_nums {l : List UInt8} {i : Nat} (h : is2 l i = true) : 48 ≤ bt l i ∧ bt l i ≤ 57 ∧ 48 ≤ bt l (i + 1) ∧ bt l (i + 1) ≤ 57 := by
  unfold is2 dgA at h
  simp only [Bool.and_eq_true, decide_eq_true_eq] at h
  omega
set_option maxRecDepth 100000 in
set_option maxHeartbeats 4000000 in
theorem rday_no0 (s : ByteArray) (w : World) (h10 : s.size = 10) (h4 : ¬ ((s[4]'(by omega)).toNat : Int) = 45) :
    Calls Tryz.prog 105 #[.string s] w fun e w' => e = .returned (.bool false) ∧ Below w.heap.size w w' := by
  have C0 : Hid (∀ X, Calls Tryz.prog 107 #[.string (s.extract 0 2), .int .i64 100] X fun e w' => e = .returned (.bool (is2 s.data.toList 0 && decide (dg2 s.data.toList 0 < 100))) ∧ Below X.heap.size X w') := hid (fun X => two_of s 0 100 X (by omega))
  have C1 : Hid (∀ X, Calls Tryz.prog 107 #[.string (s.extract 2 4), .int .i64 100] X fun e w' => e = .returned (.bool (is2 s.data.toList 2 && decide (dg2 s.data.toList 2 < 100))) ∧ Below X.heap.size X w') := hid (fun X => two_of s 2 100 X (by omega))
  have C2 : Hid (∀ X, Calls Tryz.prog 107 #[.string (s.extract 5 7), .int .i64 13] X fun e w' => e = .returned (.bool (is2 s.data.toList 5 && decide (dg2 s.data.toList 5 < 13))) ∧ Below X.heap.size X w') := hid (fun X => two_of s 5 13 X (by omega))
  have C3 : Hid (∀ X, Calls Tryz.prog 107 #[.string (s.extract 8 10), .int .i64 32] X fun e w' => e = .returned (.bool (is2 s.data.toList 8 && decide (dg2 s.data.toList 8 < 32))) ∧ Below X.heap.size X w') := hid (fun X => two_of s 8 32 X (by omega))
  have z : (s.size : Int) = 10 := by omega
  have hx4 : 4 < s.size := by omega
  have hx7 : 7 < s.size := by omega
  have e83 : s.extract 8 10 = s.extract 8 s.size := by rw [h10]
  have q4 : (((s[4]).toNat : Int) != 45) = true := by rw [bne_iff_ne]; exact h4
  clear h4 C0 C1 C2 C3 e83 z
  go_enter Tryz.func105, Tryz.ntmps105
  go_wp2_with (go_at_call 107; go_must (first
    | ((with_reducible refine (C0.out _).mono ?_); rintro e w1 ⟨rfl, hb1⟩)
    | ((with_reducible refine (C1.out _).mono ?_); rintro e w2 ⟨rfl, hb2⟩)
    | ((with_reducible refine (C2.out _).mono ?_); rintro e w3 ⟨rfl, hb3⟩)
    | ((with_reducible refine (C3.out _).mono ?_); rintro e w4 ⟨rfl, hb4⟩)))
  go_ret
  exact ⟨rfl, Below.refl _ _⟩
set_option maxRecDepth 100000 in
set_option maxHeartbeats 4000000 in
theorem rday_no1 (s : ByteArray) (w : World) (h10 : s.size = 10) (h4 : ((s[4]'(by omega)).toNat : Int) = 45) (h7 : ¬ ((s[7]'(by omega)).toNat : Int) = 45) :
    Calls Tryz.prog 105 #[.string s] w fun e w' => e = .returned (.bool false) ∧ Below w.heap.size w w' := by
  have C0 : Hid (∀ X, Calls Tryz.prog 107 #[.string (s.extract 0 2), .int .i64 100] X fun e w' => e = .returned (.bool (is2 s.data.toList 0 && decide (dg2 s.data.toList 0 < 100))) ∧ Below X.heap.size X w') := hid (fun X => two_of s 0 100 X (by omega))
  have C1 : Hid (∀ X, Calls Tryz.prog 107 #[.string (s.extract 2 4), .int .i64 100] X fun e w' => e = .returned (.bool (is2 s.data.toList 2 && decide (dg2 s.data.toList 2 < 100))) ∧ Below X.heap.size X w') := hid (fun X => two_of s 2 100 X (by omega))
  have C2 : Hid (∀ X, Calls Tryz.prog 107 #[.string (s.extract 5 7), .int .i64 13] X fun e w' => e = .returned (.bool (is2 s.data.toList 5 && decide (dg2 s.data.toList 5 < 13))) ∧ Below X.heap.size X w') := hid (fun X => two_of s 5 13 X (by omega))
  have C3 : Hid (∀ X, Calls Tryz.prog 107 #[.string (s.extract 8 10), .int .i64 32] X fun e w' => e = .returned (.bool (is2 s.data.toList 8 && decide (dg2 s.data.toList 8 < 32))) ∧ Below X.heap.size X w') := hid (fun X => two_of s 8 32 X (by omega))
  have z : (s.size : Int) = 10 := by omega
  have hx4 : 4 < s.size := by omega
  have hx7 : 7 < s.size := by omega
  have e83 : s.extract 8 10 = s.extract 8 s.size := by rw [h10]
  have q4 : (((s[4]).toNat : Int) != 45) = false := by rw [h4]; rfl
  have q7 : (((s[7]).toNat : Int) != 45) = true := by rw [bne_iff_ne]; exact h7
  clear h4 h7 C0 C1 C2 C3 e83 z
  go_enter Tryz.func105, Tryz.ntmps105
  go_wp2_with (go_at_call 107; go_must (first
    | ((with_reducible refine (C0.out _).mono ?_); rintro e w1 ⟨rfl, hb1⟩)
    | ((with_reducible refine (C1.out _).mono ?_); rintro e w2 ⟨rfl, hb2⟩)
    | ((with_reducible refine (C2.out _).mono ?_); rintro e w3 ⟨rfl, hb3⟩)
    | ((with_reducible refine (C3.out _).mono ?_); rintro e w4 ⟨rfl, hb4⟩)))
  go_ret
  exact ⟨rfl, Below.refl _ _⟩
set_option maxRecDepth 100000 in
set_option maxHeartbeats 4000000 in
theorem rday_no2 (s : ByteArray) (w : World) (h10 : s.size = 10) (h4 : ((s[4]'(by omega)).toNat : Int) = 45) (h7 : ((s[7]'(by omega)).toNat : Int) = 45)  (x0 : (is2 s.data.toList 0 && decide (dg2 s.data.toList 0 < 100)) = false) :
    Calls Tryz.prog 105 #[.string s] w fun e w' => e = .returned (.bool false) ∧ Below w.heap.size w w' := by
  have C0 : Hid (∀ X, Calls Tryz.prog 107 #[.string (s.extract 0 2), .int .i64 100] X fun e w' => e = .returned (.bool (is2 s.data.toList 0 && decide (dg2 s.data.toList 0 < 100))) ∧ Below X.heap.size X w') := hid (fun X => two_of s 0 100 X (by omega))
  have C1 : Hid (∀ X, Calls Tryz.prog 107 #[.string (s.extract 2 4), .int .i64 100] X fun e w' => e = .returned (.bool (is2 s.data.toList 2 && decide (dg2 s.data.toList 2 < 100))) ∧ Below X.heap.size X w') := hid (fun X => two_of s 2 100 X (by omega))
  have C2 : Hid (∀ X, Calls Tryz.prog 107 #[.string (s.extract 5 7), .int .i64 13] X fun e w' => e = .returned (.bool (is2 s.data.toList 5 && decide (dg2 s.data.toList 5 < 13))) ∧ Below X.heap.size X w') := hid (fun X => two_of s 5 13 X (by omega))
  have C3 : Hid (∀ X, Calls Tryz.prog 107 #[.string (s.extract 8 10), .int .i64 32] X fun e w' => e = .returned (.bool (is2 s.data.toList 8 && decide (dg2 s.data.toList 8 < 32))) ∧ Below X.heap.size X w') := hid (fun X => two_of s 8 32 X (by omega))
  have z : (s.size : Int) = 10 := by omega
  have hx4 : 4 < s.size := by omega
  have hx7 : 7 < s.size := by omega
  have e83 : s.extract 8 10 = s.extract 8 s.size := by rw [h10]
  have q4 : (((s[4]).toNat : Int) != 45) = false := by rw [h4]; rfl
  have q7 : (((s[7]).toNat : Int) != 45) = false := by rw [h7]; rfl
  rw [x0] at C0
  clear h4 h7 z x0
  clear e83
  go_enter Tryz.func105, Tryz.ntmps105
  go_wp2_with (go_at_call 107; go_must (first
    | ((with_reducible refine (C0.out _).mono ?_); rintro e w1 ⟨rfl, hb1⟩)
    | ((with_reducible refine (C1.out _).mono ?_); rintro e w2 ⟨rfl, hb2⟩)
    | ((with_reducible refine (C2.out _).mono ?_); rintro e w3 ⟨rfl, hb3⟩)
    | ((with_reducible refine (C3.out _).mono ?_); rintro e w4 ⟨rfl, hb4⟩)))
  go_ret
  exact ⟨rfl, hb1⟩
set_option maxRecDepth 100000 in
set_option maxHeartbeats 4000000 in
theorem rday_no3 (s : ByteArray) (w : World) (h10 : s.size = 10) (h4 : ((s[4]'(by omega)).toNat : Int) = 45) (h7 : ((s[7]'(by omega)).toNat : Int) = 45) (x0 : (is2 s.data.toList 0 && decide (dg2 s.data.toList 0 < 100)) = true) (x1 : (is2 s.data.toList 2 && decide (dg2 s.data.toList 2 < 100)) = false) :
    Calls Tryz.prog 105 #[.string s] w fun e w' => e = .returned (.bool false) ∧ Below w.heap.size w w' := by
  have C0 : Hid (∀ X, Calls Tryz.prog 107 #[.string (s.extract 0 2), .int .i64 100] X fun e w' => e = .returned (.bool (is2 s.data.toList 0 && decide (dg2 s.data.toList 0 < 100))) ∧ Below X.heap.size X w') := hid (fun X => two_of s 0 100 X (by omega))
  have C1 : Hid (∀ X, Calls Tryz.prog 107 #[.string (s.extract 2 4), .int .i64 100] X fun e w' => e = .returned (.bool (is2 s.data.toList 2 && decide (dg2 s.data.toList 2 < 100))) ∧ Below X.heap.size X w') := hid (fun X => two_of s 2 100 X (by omega))
  have C2 : Hid (∀ X, Calls Tryz.prog 107 #[.string (s.extract 5 7), .int .i64 13] X fun e w' => e = .returned (.bool (is2 s.data.toList 5 && decide (dg2 s.data.toList 5 < 13))) ∧ Below X.heap.size X w') := hid (fun X => two_of s 5 13 X (by omega))
  have C3 : Hid (∀ X, Calls Tryz.prog 107 #[.string (s.extract 8 10), .int .i64 32] X fun e w' => e = .returned (.bool (is2 s.data.toList 8 && decide (dg2 s.data.toList 8 < 32))) ∧ Below X.heap.size X w') := hid (fun X => two_of s 8 32 X (by omega))
  have z : (s.size : Int) = 10 := by omega
  have hx4 : 4 < s.size := by omega
  have hx7 : 7 < s.size := by omega
  have e83 : s.extract 8 10 = s.extract 8 s.size := by rw [h10]
  have q4 : (((s[4]).toNat : Int) != 45) = false := by rw [h4]; rfl
  have q7 : (((s[7]).toNat : Int) != 45) = false := by rw [h7]; rfl
  rw [x0] at C0
  rw [x1] at C1
  clear h4 h7 z x0 x1
  clear e83
  go_enter Tryz.func105, Tryz.ntmps105
  go_wp2_with (go_at_call 107; go_must (first
    | ((with_reducible refine (C0.out _).mono ?_); rintro e w1 ⟨rfl, hb1⟩)
    | ((with_reducible refine (C1.out _).mono ?_); rintro e w2 ⟨rfl, hb2⟩)
    | ((with_reducible refine (C2.out _).mono ?_); rintro e w3 ⟨rfl, hb3⟩)
    | ((with_reducible refine (C3.out _).mono ?_); rintro e w4 ⟨rfl, hb4⟩)))
  go_ret
  exact ⟨rfl, eonto hb1 hb2⟩
set_option maxRecDepth 100000 in
set_option maxHeartbeats 4000000 in
theorem rday_no4 (s : ByteArray) (w : World) (h10 : s.size = 10) (h4 : ((s[4]'(by omega)).toNat : Int) = 45) (h7 : ((s[7]'(by omega)).toNat : Int) = 45) (x0 : (is2 s.data.toList 0 && decide (dg2 s.data.toList 0 < 100)) = true) (x1 : (is2 s.data.toList 2 && decide (dg2 s.data.toList 2 < 100)) = true) (x2 : (is2 s.data.toList 5 && decide (dg2 s.data.toList 5 < 13)) = false) :
    Calls Tryz.prog 105 #[.string s] w fun e w' => e = .returned (.bool false) ∧ Below w.heap.size w w' := by
  have C0 : Hid (∀ X, Calls Tryz.prog 107 #[.string (s.extract 0 2), .int .i64 100] X fun e w' => e = .returned (.bool (is2 s.data.toList 0 && decide (dg2 s.data.toList 0 < 100))) ∧ Below X.heap.size X w') := hid (fun X => two_of s 0 100 X (by omega))
  have C1 : Hid (∀ X, Calls Tryz.prog 107 #[.string (s.extract 2 4), .int .i64 100] X fun e w' => e = .returned (.bool (is2 s.data.toList 2 && decide (dg2 s.data.toList 2 < 100))) ∧ Below X.heap.size X w') := hid (fun X => two_of s 2 100 X (by omega))
  have C2 : Hid (∀ X, Calls Tryz.prog 107 #[.string (s.extract 5 7), .int .i64 13] X fun e w' => e = .returned (.bool (is2 s.data.toList 5 && decide (dg2 s.data.toList 5 < 13))) ∧ Below X.heap.size X w') := hid (fun X => two_of s 5 13 X (by omega))
  have C3 : Hid (∀ X, Calls Tryz.prog 107 #[.string (s.extract 8 10), .int .i64 32] X fun e w' => e = .returned (.bool (is2 s.data.toList 8 && decide (dg2 s.data.toList 8 < 32))) ∧ Below X.heap.size X w') := hid (fun X => two_of s 8 32 X (by omega))
  have z : (s.size : Int) = 10 := by omega
  have hx4 : 4 < s.size := by omega
  have hx7 : 7 < s.size := by omega
  have e83 : s.extract 8 10 = s.extract 8 s.size := by rw [h10]
  have q4 : (((s[4]).toNat : Int) != 45) = false := by rw [h4]; rfl
  have q7 : (((s[7]).toNat : Int) != 45) = false := by rw [h7]; rfl
  rw [x0] at C0
  rw [x1] at C1
  rw [x2] at C2
  clear h4 h7 z x0 x1 x2
  clear e83
  go_enter Tryz.func105, Tryz.ntmps105
  go_wp2_with (go_at_call 107; go_must (first
    | ((with_reducible refine (C0.out _).mono ?_); rintro e w1 ⟨rfl, hb1⟩)
    | ((with_reducible refine (C1.out _).mono ?_); rintro e w2 ⟨rfl, hb2⟩)
    | ((with_reducible refine (C2.out _).mono ?_); rintro e w3 ⟨rfl, hb3⟩)
    | ((with_reducible refine (C3.out _).mono ?_); rintro e w4 ⟨rfl, hb4⟩)))
  go_ret
  exact ⟨rfl, eonto (eonto hb1 hb2) hb3⟩
set_option maxRecDepth 100000 in
set_option maxHeartbeats 4000000 in
theorem rday_no5 (s : ByteArray) (w : World) (h10 : s.size = 10) (h4 : ((s[4]'(by omega)).toNat : Int) = 45) (h7 : ((s[7]'(by omega)).toNat : Int) = 45) (x0 : (is2 s.data.toList 0 && decide (dg2 s.data.toList 0 < 100)) = true) (x1 : (is2 s.data.toList 2 && decide (dg2 s.data.toList 2 < 100)) = true) (x2 : (is2 s.data.toList 5 && decide (dg2 s.data.toList 5 < 13)) = true) (x3 : (is2 s.data.toList 8 && decide (dg2 s.data.toList 8 < 32)) = false) :
    Calls Tryz.prog 105 #[.string s] w fun e w' => e = .returned (.bool false) ∧ Below w.heap.size w w' := by
  have C0 : Hid (∀ X, Calls Tryz.prog 107 #[.string (s.extract 0 2), .int .i64 100] X fun e w' => e = .returned (.bool (is2 s.data.toList 0 && decide (dg2 s.data.toList 0 < 100))) ∧ Below X.heap.size X w') := hid (fun X => two_of s 0 100 X (by omega))
  have C1 : Hid (∀ X, Calls Tryz.prog 107 #[.string (s.extract 2 4), .int .i64 100] X fun e w' => e = .returned (.bool (is2 s.data.toList 2 && decide (dg2 s.data.toList 2 < 100))) ∧ Below X.heap.size X w') := hid (fun X => two_of s 2 100 X (by omega))
  have C2 : Hid (∀ X, Calls Tryz.prog 107 #[.string (s.extract 5 7), .int .i64 13] X fun e w' => e = .returned (.bool (is2 s.data.toList 5 && decide (dg2 s.data.toList 5 < 13))) ∧ Below X.heap.size X w') := hid (fun X => two_of s 5 13 X (by omega))
  have C3 : Hid (∀ X, Calls Tryz.prog 107 #[.string (s.extract 8 10), .int .i64 32] X fun e w' => e = .returned (.bool (is2 s.data.toList 8 && decide (dg2 s.data.toList 8 < 32))) ∧ Below X.heap.size X w') := hid (fun X => two_of s 8 32 X (by omega))
  have z : (s.size : Int) = 10 := by omega
  have hx4 : 4 < s.size := by omega
  have hx7 : 7 < s.size := by omega
  have e83 : s.extract 8 10 = s.extract 8 s.size := by rw [h10]
  rw [e83] at C3
  have q4 : (((s[4]).toNat : Int) != 45) = false := by rw [h4]; rfl
  have q7 : (((s[7]).toNat : Int) != 45) = false := by rw [h7]; rfl
  rw [x0] at C0
  rw [x1] at C1
  rw [x2] at C2
  rw [x3] at C3
  clear h4 h7 z x0 x1 x2 x3
  go_enter Tryz.func105, Tryz.ntmps105
  go_wp2_with (go_at_call 107; go_must (first
    | ((with_reducible refine (C0.out _).mono ?_); rintro e w1 ⟨rfl, hb1⟩)
    | ((with_reducible refine (C1.out _).mono ?_); rintro e w2 ⟨rfl, hb2⟩)
    | ((with_reducible refine (C2.out _).mono ?_); rintro e w3 ⟨rfl, hb3⟩)
    | ((with_reducible refine (C3.out _).mono ?_); rintro e w4 ⟨rfl, hb4⟩)))
  go_ret
  exact ⟨rfl, eonto (eonto (eonto hb1 hb2) hb3) hb4⟩
set_option maxRecDepth 100000 in
set_option maxHeartbeats 8000000 in
theorem rday_yes (s : ByteArray) (w : World) (h10 : s.size = 10) (h4 : ((s[4]'(by omega)).toNat : Int) = 45) (h7 : ((s[7]'(by omega)).toNat : Int) = 45) (x0 : is2 s.data.toList 0 = true) (x1 : is2 s.data.toList 2 = true) (x2 : (is2 s.data.toList 5 && decide (dg2 s.data.toList 5 < 13)) = true) (x3 : (is2 s.data.toList 8 && decide (dg2 s.data.toList 8 < 32)) = true) :
    Calls Tryz.prog 105 #[.string s] w fun e w' => e = .returned (.bool (decide (0 < dg2 s.data.toList 5 ∧ 0 < dg2 s.data.toList 8 ∧ dg2 s.data.toList 8 ≤ dim (dg2 s.data.toList 0 * 100 + dg2 s.data.toList 2) (dg2 s.data.toList 5)))) ∧ Below w.heap.size w w' := by
  have C0 : Hid (∀ X, Calls Tryz.prog 107 #[.string (s.extract 0 2), .int .i64 100] X fun e w' => e = .returned (.bool true) ∧ Below X.heap.size X w') := hid (fun X => by
    have h := two_of s 0 100 X (by omega)
    rw [x0, decide_eq_true (dg2_lt x0), Bool.true_and] at h
    exact h)
  have C1 : Hid (∀ X, Calls Tryz.prog 107 #[.string (s.extract 2 4), .int .i64 100] X fun e w' => e = .returned (.bool true) ∧ Below X.heap.size X w') := hid (fun X => by
    have h := two_of s 2 100 X (by omega)
    rw [x1, decide_eq_true (dg2_lt x1), Bool.true_and] at h
    exact h)
  have C2 : Hid (∀ X, Calls Tryz.prog 107 #[.string (s.extract 5 7), .int .i64 13] X fun e w' => e = .returned (.bool true) ∧ Below X.heap.size X w') := hid (fun X => by
    have h := two_of s 5 13 X (by omega)
    rw [x2] at h
    exact h)
  have C3 : Hid (∀ X, Calls Tryz.prog 107 #[.string (s.extract 8 10), .int .i64 32] X fun e w' => e = .returned (.bool true) ∧ Below X.heap.size X w') := hid (fun X => by
    have h := two_of s 8 32 X (by omega)
    rw [x3] at h
    exact h)
  have y2 : is2 s.data.toList 5 = true ∧ dg2 s.data.toList 5 < 13 := by simpa using x2
  have y3 : is2 s.data.toList 8 = true ∧ dg2 s.data.toList 8 < 32 := by simpa using x3
  have n0 := is2_nums x0
  have n1 := is2_nums x1
  have n2 := is2_nums y2.1
  have n3 := is2_nums y3.1
  have HD0 : Hid (dg2 s.data.toList 0 = (bt s.data.toList 0 - 48) * 10 + (bt s.data.toList 1 - 48)) := hid rfl
  have HD1 : Hid (dg2 s.data.toList 2 = (bt s.data.toList 2 - 48) * 10 + (bt s.data.toList 3 - 48)) := hid rfl
  have HD2 : Hid (dg2 s.data.toList 5 = (bt s.data.toList 5 - 48) * 10 + (bt s.data.toList 6 - 48)) := hid rfl
  have HD3 : Hid (dg2 s.data.toList 8 = (bt s.data.toList 8 - 48) * 10 + (bt s.data.toList 9 - 48)) := hid rfl
  have y2b := y2.2
  have y3b := y3.2
  clear x0 x1 x2 x3 y2 y3
  simp only [Nat.zero_add, Nat.reduceAdd] at n0 n1 n2 n3
  generalize dg2 s.data.toList 0 = Y0 at *
  generalize dg2 s.data.toList 2 = Y1 at *
  generalize dg2 s.data.toList 5 = M at *
  generalize dg2 s.data.toList 8 = D at *
  have hx0 : 0 < s.size := by omega
  have hx1 : 1 < s.size := by omega
  have hx2 : 2 < s.size := by omega
  have hx3 : 3 < s.size := by omega
  have hx4 : 4 < s.size := by omega
  have hx5 : 5 < s.size := by omega
  have hx6 : 6 < s.size := by omega
  have hx7 : 7 < s.size := by omega
  have hx8 : 8 < s.size := by omega
  have hx9 : 9 < s.size := by omega
  rw [bt_at s 0 hx0] at n0 HD0
  rw [bt_at s 1 hx1] at n0 HD0
  rw [bt_at s 2 hx2] at n1 HD1
  rw [bt_at s 3 hx3] at n1 HD1
  rw [bt_at s 5 hx5] at n2 HD2
  rw [bt_at s 6 hx6] at n2 HD2
  rw [bt_at s 8 hx8] at n3 HD3
  rw [bt_at s 9 hx9] at n3 HD3
  have q4 : (((s[4]).toNat : Int) != 45) = false := by rw [h4]; rfl
  have q7 : (((s[7]).toNat : Int) != 45) = false := by rw [h7]; rfl
  clear h4 h7
  obtain ⟨A0, hA0⟩ : ∃ A : Int, ((s[0]).toNat : Int) = A := ⟨_, rfl⟩
  obtain ⟨A1, hA1⟩ : ∃ A : Int, ((s[1]).toNat : Int) = A := ⟨_, rfl⟩
  obtain ⟨A2, hA2⟩ : ∃ A : Int, ((s[2]).toNat : Int) = A := ⟨_, rfl⟩
  obtain ⟨A3, hA3⟩ : ∃ A : Int, ((s[3]).toNat : Int) = A := ⟨_, rfl⟩
  obtain ⟨A5, hA5⟩ : ∃ A : Int, ((s[5]).toNat : Int) = A := ⟨_, rfl⟩
  obtain ⟨A6, hA6⟩ : ∃ A : Int, ((s[6]).toNat : Int) = A := ⟨_, rfl⟩
  obtain ⟨A8, hA8⟩ : ∃ A : Int, ((s[8]).toNat : Int) = A := ⟨_, rfl⟩
  obtain ⟨A9, hA9⟩ : ∃ A : Int, ((s[9]).toNat : Int) = A := ⟨_, rfl⟩
  have r0 : 48 ≤ A0 ∧ A0 ≤ 57 ∧ 48 ≤ A1 ∧ A1 ≤ 57 := by omega
  have r1 : 48 ≤ A2 ∧ A2 ≤ 57 ∧ 48 ≤ A3 ∧ A3 ≤ 57 := by omega
  have r2 : 48 ≤ A5 ∧ A5 ≤ 57 ∧ 48 ≤ A6 ∧ A6 ≤ 57 := by omega
  have r3 : 48 ≤ A8 ∧ A8 ≤ 57 ∧ 48 ≤ A9 ∧ A9 ≤ 57 := by omega
  have HY : Hid (((A0 - 48) * 10 + (A1 - 48)) * 100 + (A2 - 48) * 10 + (A3 - 48) = ((Y0 * 100 + Y1 : Nat) : Int)) := hid (by rw [HD0.out, HD1.out]; omega)
  have HMM : Hid ((A5 - 48) * 10 + (A6 - 48) = ((M : Nat) : Int)) := hid (by rw [HD2.out]; omega)
  have HDD : Hid ((A8 - 48) * 10 + (A9 - 48) = ((D : Nat) : Int)) := hid (by rw [HD3.out]; omega)
  generalize Y0 * 100 + Y1 = Y at *
  have hYb : Y ≤ 9999 := by have h := HY.out; omega
  clear HD0 HD1 HD2 HD3 n0 n1 n2 n3
  have u0 : IntKind.u8.wrap (A0 - 48) = A0 - 48 := by rw [IntKind.wrap_u8]; omega
  have v0 : IntKind.i64.wrap (A0 - 48) = A0 - 48 := by rw [IntKind.wrap_i64]; omega
  have u1 : IntKind.u8.wrap (A1 - 48) = A1 - 48 := by rw [IntKind.wrap_u8]; omega
  have v1 : IntKind.i64.wrap (A1 - 48) = A1 - 48 := by rw [IntKind.wrap_i64]; omega
  have u2 : IntKind.u8.wrap (A2 - 48) = A2 - 48 := by rw [IntKind.wrap_u8]; omega
  have v2 : IntKind.i64.wrap (A2 - 48) = A2 - 48 := by rw [IntKind.wrap_i64]; omega
  have u3 : IntKind.u8.wrap (A3 - 48) = A3 - 48 := by rw [IntKind.wrap_u8]; omega
  have v3 : IntKind.i64.wrap (A3 - 48) = A3 - 48 := by rw [IntKind.wrap_i64]; omega
  have u5 : IntKind.u8.wrap (A5 - 48) = A5 - 48 := by rw [IntKind.wrap_u8]; omega
  have v5 : IntKind.i64.wrap (A5 - 48) = A5 - 48 := by rw [IntKind.wrap_i64]; omega
  have u6 : IntKind.u8.wrap (A6 - 48) = A6 - 48 := by rw [IntKind.wrap_u8]; omega
  have v6 : IntKind.i64.wrap (A6 - 48) = A6 - 48 := by rw [IntKind.wrap_i64]; omega
  have u8 : IntKind.u8.wrap (A8 - 48) = A8 - 48 := by rw [IntKind.wrap_u8]; omega
  have v8 : IntKind.i64.wrap (A8 - 48) = A8 - 48 := by rw [IntKind.wrap_i64]; omega
  have u9 : IntKind.u8.wrap (A9 - 48) = A9 - 48 := by rw [IntKind.wrap_u8]; omega
  have v9 : IntKind.i64.wrap (A9 - 48) = A9 - 48 := by rw [IntKind.wrap_i64]; omega
  have wa1 : IntKind.i64.wrap ((A0 - 48) * 10) = (A0 - 48) * 10 := by rw [IntKind.wrap_i64]; omega
  have wa2 : IntKind.i64.wrap ((A0 - 48) * 10 + (A1 - 48)) = (A0 - 48) * 10 + (A1 - 48) := by rw [IntKind.wrap_i64]; omega
  have wb1 : IntKind.i64.wrap ((A2 - 48) * 10) = (A2 - 48) * 10 := by rw [IntKind.wrap_i64]; omega
  have wb2 : IntKind.i64.wrap ((A2 - 48) * 10 + (A3 - 48)) = (A2 - 48) * 10 + (A3 - 48) := by rw [IntKind.wrap_i64]; omega
  have wc1 : IntKind.i64.wrap ((A5 - 48) * 10) = (A5 - 48) * 10 := by rw [IntKind.wrap_i64]; omega
  have wc2 : IntKind.i64.wrap ((A5 - 48) * 10 + (A6 - 48)) = (A5 - 48) * 10 + (A6 - 48) := by rw [IntKind.wrap_i64]; omega
  have wd1 : IntKind.i64.wrap ((A8 - 48) * 10) = (A8 - 48) * 10 := by rw [IntKind.wrap_i64]; omega
  have wd2 : IntKind.i64.wrap ((A8 - 48) * 10 + (A9 - 48)) = (A8 - 48) * 10 + (A9 - 48) := by rw [IntKind.wrap_i64]; omega
  have we1 : IntKind.i64.wrap (((A0 - 48) * 10 + (A1 - 48)) * 100) = ((A0 - 48) * 10 + (A1 - 48)) * 100 := by rw [IntKind.wrap_i64]; omega
  have we2 : IntKind.i64.wrap (((A0 - 48) * 10 + (A1 - 48)) * 100 + (A2 - 48) * 10) = ((A0 - 48) * 10 + (A1 - 48)) * 100 + (A2 - 48) * 10 := by rw [IntKind.wrap_i64]; omega
  have we3 : IntKind.i64.wrap (((A0 - 48) * 10 + (A1 - 48)) * 100 + (A2 - 48) * 10 + (A3 - 48)) = ((A0 - 48) * 10 + (A1 - 48)) * 100 + (A2 - 48) * 10 + (A3 - 48) := by rw [IntKind.wrap_i64]; omega
  obtain ⟨R, hR⟩ : ∃ R : Bool, decide (0 < M ∧ 0 < D ∧ D ≤ dim Y M) = R := ⟨_, rfl⟩
  rw [hR]
  have HR := hid hR.symm
  clear hR
  go_enter Tryz.func105, Tryz.ntmps105
  go_upto_region 3 with (go_at_call 107; go_must (first
    | ((with_reducible refine (C0.out _).mono ?_); rintro e w1 ⟨rfl, hb1⟩)
    | ((with_reducible refine (C1.out _).mono ?_); rintro e w2 ⟨rfl, hb2⟩)
    | ((with_reducible refine (C2.out _).mono ?_); rintro e w3 ⟨rfl, hb3⟩)
    | ((with_reducible refine (C3.out _).mono ?_); rintro e w4 ⟨rfl, hb4⟩)))
  have HB4 := hid (eonto (eonto (eonto hb1 hb2) hb3) hb4)
  clear hb1 hb2 hb3 hb4 C0 C1 C2 C3
  go_wp2_with fail
  go_quiet (fail)
  rw [HY.out]
  have HB5 := hid (eonto HB4.out (tdrew_below w4 nq))
  generalize w4.drewN nq = w5 at HB5 ⊢
  clear HB4
  go_wp2_with fail
  go_quiet (fail)
  rw [HMM.out]
  have HB6 := hid (eonto HB5.out (tdrew_below w5 nq))
  generalize w5.drewN nq = w6 at HB6 ⊢
  clear HB5
  go_wp2_with fail
  go_quiet (fail)
  rw [HDD.out]
  have HB7 := hid (eonto HB6.out (tdrew_below w6 nq))
  generalize w6.drewN nq = w7 at HB7 ⊢
  clear HB6 HY HMM HDD
  have hcase : (M = 4 ∨ M = 6 ∨ M = 9 ∨ M = 11) ∨ M = 2 ∨ (M ≠ 4 ∧ M ≠ 6 ∧ M ≠ 9 ∧ M ≠ 11 ∧ M ≠ 2) := by omega
  have hMi : (M : Int) < 13 := by omega
  have hDi : (D : Int) < 32 := by omega
  obtain ⟨mi, hmi⟩ : ∃ m : Int, (M : Int) = m := ⟨_, rfl⟩
  obtain ⟨di, hdi⟩ : ∃ d : Int, (D : Int) = d := ⟨_, rfl⟩
  obtain ⟨yi, hyi⟩ : ∃ y : Int, (Y : Int) = y := ⟨_, rfl⟩
  have HMI := hid hmi
  have HDI := hid hdi
  have hm0 : 0 ≤ mi := by omega
  have hd0 : 0 ≤ di := by omega
  rw [hmi] at hMi ⊢
  rw [hdi] at hDi ⊢
  rw [hyi]
  clear hmi hdi
  rcases hcase with hc | hc | hc
  · have HN : Hid (dim Y M = 30) := hid (by unfold dim; rw [if_pos hc])
    have hmc : mi = 4 ∨ mi = 6 ∨ mi = 9 ∨ mi = 11 := by have := HMI.out; omega
    clear hc
    rcases hmc with rfl | rfl | rfl | rfl
    · as_aux_lemma =>
      have g0 : (0 < (4 : Int) ∧ 0 < di ∧ di ≤ 30) ∨ ¬ (0 < (4 : Int) ∧ 0 < di ∧ di ≤ 30) := Classical.em _
      have HRT : Hid ((R = true) = (0 < (4 : Int) ∧ 0 < di ∧ di ≤ 30)) := hid (by rw [HR.out, HN.out, decide_eq_true_eq]; have e1 := HMI.out; have e2 := HDI.out; exact propext (by omega))
      clear g0 HN HR HMI HDI
      go_wp2_with fail
      all_goals
        go_ret
        exact ⟨ret_bool (by
          have h := HRT.out
          cases R with
          | true => have h2 : (0 < (4 : Int) ∧ 0 < di ∧ di ≤ 30) := by rw [← h]
                    first | rfl | (simp; omega) | (exfalso; omega)
          | false => have h2 : ¬ (0 < (4 : Int) ∧ 0 < di ∧ di ≤ 30) := by rw [← h]; decide
                     first | rfl | (simp; omega) | (exfalso; omega)), HB7.out⟩
    · as_aux_lemma =>
      have g0 : (0 < (6 : Int) ∧ 0 < di ∧ di ≤ 30) ∨ ¬ (0 < (6 : Int) ∧ 0 < di ∧ di ≤ 30) := Classical.em _
      have HRT : Hid ((R = true) = (0 < (6 : Int) ∧ 0 < di ∧ di ≤ 30)) := hid (by rw [HR.out, HN.out, decide_eq_true_eq]; have e1 := HMI.out; have e2 := HDI.out; exact propext (by omega))
      clear g0 HN HR HMI HDI
      go_wp2_with fail
      all_goals
        go_ret
        exact ⟨ret_bool (by
          have h := HRT.out
          cases R with
          | true => have h2 : (0 < (6 : Int) ∧ 0 < di ∧ di ≤ 30) := by rw [← h]
                    first | rfl | (simp; omega) | (exfalso; omega)
          | false => have h2 : ¬ (0 < (6 : Int) ∧ 0 < di ∧ di ≤ 30) := by rw [← h]; decide
                     first | rfl | (simp; omega) | (exfalso; omega)), HB7.out⟩
    · as_aux_lemma =>
      have g0 : (0 < (9 : Int) ∧ 0 < di ∧ di ≤ 30) ∨ ¬ (0 < (9 : Int) ∧ 0 < di ∧ di ≤ 30) := Classical.em _
      have HRT : Hid ((R = true) = (0 < (9 : Int) ∧ 0 < di ∧ di ≤ 30)) := hid (by rw [HR.out, HN.out, decide_eq_true_eq]; have e1 := HMI.out; have e2 := HDI.out; exact propext (by omega))
      clear g0 HN HR HMI HDI
      go_wp2_with fail
      all_goals
        go_ret
        exact ⟨ret_bool (by
          have h := HRT.out
          cases R with
          | true => have h2 : (0 < (9 : Int) ∧ 0 < di ∧ di ≤ 30) := by rw [← h]
                    first | rfl | (simp; omega) | (exfalso; omega)
          | false => have h2 : ¬ (0 < (9 : Int) ∧ 0 < di ∧ di ≤ 30) := by rw [← h]; decide
                     first | rfl | (simp; omega) | (exfalso; omega)), HB7.out⟩
    · as_aux_lemma =>
      have g0 : (0 < (11 : Int) ∧ 0 < di ∧ di ≤ 30) ∨ ¬ (0 < (11 : Int) ∧ 0 < di ∧ di ≤ 30) := Classical.em _
      have HRT : Hid ((R = true) = (0 < (11 : Int) ∧ 0 < di ∧ di ≤ 30)) := hid (by rw [HR.out, HN.out, decide_eq_true_eq]; have e1 := HMI.out; have e2 := HDI.out; exact propext (by omega))
      clear g0 HN HR HMI HDI
      go_wp2_with fail
      all_goals
        go_ret
        exact ⟨ret_bool (by
          have h := HRT.out
          cases R with
          | true => have h2 : (0 < (11 : Int) ∧ 0 < di ∧ di ≤ 30) := by rw [← h]
                    first | rfl | (simp; omega) | (exfalso; omega)
          | false => have h2 : ¬ (0 < (11 : Int) ∧ 0 < di ∧ di ≤ 30) := by rw [← h]; decide
                     first | rfl | (simp; omega) | (exfalso; omega)), HB7.out⟩
  · obtain ⟨a, ha⟩ : ∃ a : Nat, Y % 4 = a := ⟨_, rfl⟩
    obtain ⟨b, hb⟩ : ∃ b : Nat, Y % 100 = b := ⟨_, rfl⟩
    obtain ⟨c, hc4⟩ : ∃ c : Nat, Y % 400 = c := ⟨_, rfl⟩
    have ea : Int.tmod yi 4 = (a : Int) := by rw [← hyi, Int.tmod_eq_emod_of_nonneg (by omega)]; omega
    have eb : Int.tmod yi 100 = (b : Int) := by rw [← hyi, Int.tmod_eq_emod_of_nonneg (by omega)]; omega
    have ec : Int.tmod yi 400 = (c : Int) := by rw [← hyi, Int.tmod_eq_emod_of_nonneg (by omega)]; omega
    have HDM : Hid (dim Y M = if (a = 0 ∧ b ≠ 0) ∨ c = 0 then 29 else 28) := hid (by unfold dim; rw [if_neg (by omega), if_pos hc, ha, hb, hc4])
    obtain rfl : mi = 2 := by have := HMI.out; omega
    have hyb : 0 ≤ yi ∧ yi ≤ 9999 := by omega
    clear ha hb hc4 hc hyi hYb
    by_cases a0 : a = 0
    · have ga : ((a : Int) == 0) = true := by rw [beq_iff_eq]; omega
      by_cases b0 : b = 0
      · have gb : ((b : Int) != 0) = false := by rw [bne_eq_false_iff_eq]; omega
        by_cases c0 : c = 0
        · have gc : ((c : Int) == 0) = true := by rw [beq_iff_eq]; omega
          have HN : Hid (dim Y M = 29) := hid (by rw [HDM.out, if_pos (Or.inr c0)])
          clear a0 b0 c0 HDM
          as_aux_lemma =>
          have g0 : (0 < (2 : Int) ∧ 0 < di ∧ di ≤ 29) ∨ ¬ (0 < (2 : Int) ∧ 0 < di ∧ di ≤ 29) := Classical.em _
          have HRT : Hid ((R = true) = (0 < (2 : Int) ∧ 0 < di ∧ di ≤ 29)) := hid (by rw [HR.out, HN.out, decide_eq_true_eq]; have e1 := HMI.out; have e2 := HDI.out; exact propext (by omega))
          clear g0 HN HR HMI HDI
          go_wp2_with fail
          all_goals
            go_ret
            exact ⟨ret_bool (by
              have h := HRT.out
              cases R with
              | true => have h2 : (0 < (2 : Int) ∧ 0 < di ∧ di ≤ 29) := by rw [← h]
                        first | rfl | (simp; omega) | (exfalso; omega)
              | false => have h2 : ¬ (0 < (2 : Int) ∧ 0 < di ∧ di ≤ 29) := by rw [← h]; decide
                         first | rfl | (simp; omega) | (exfalso; omega)), HB7.out⟩
        · have gc : ((c : Int) == 0) = false := by rw [beq_eq_false_iff_ne]; omega
          have HN : Hid (dim Y M = 28) := hid (by rw [HDM.out, if_neg (by rintro (h | h); exact h.2 b0; exact c0 h)])
          clear a0 b0 c0 HDM
          as_aux_lemma =>
          have g0 : (0 < (2 : Int) ∧ 0 < di ∧ di ≤ 28) ∨ ¬ (0 < (2 : Int) ∧ 0 < di ∧ di ≤ 28) := Classical.em _
          have HRT : Hid ((R = true) = (0 < (2 : Int) ∧ 0 < di ∧ di ≤ 28)) := hid (by rw [HR.out, HN.out, decide_eq_true_eq]; have e1 := HMI.out; have e2 := HDI.out; exact propext (by omega))
          clear g0 HN HR HMI HDI
          go_wp2_with fail
          all_goals
            go_ret
            exact ⟨ret_bool (by
              have h := HRT.out
              cases R with
              | true => have h2 : (0 < (2 : Int) ∧ 0 < di ∧ di ≤ 28) := by rw [← h]
                        first | rfl | (simp; omega) | (exfalso; omega)
              | false => have h2 : ¬ (0 < (2 : Int) ∧ 0 < di ∧ di ≤ 28) := by rw [← h]; decide
                         first | rfl | (simp; omega) | (exfalso; omega)), HB7.out⟩
      · have gb : ((b : Int) != 0) = true := by rw [bne_iff_ne]; omega
        have HN : Hid (dim Y M = 29) := hid (by rw [HDM.out, if_pos (Or.inl ⟨a0, b0⟩)])
        clear a0 b0 HDM
        as_aux_lemma =>
        have g0 : (0 < (2 : Int) ∧ 0 < di ∧ di ≤ 29) ∨ ¬ (0 < (2 : Int) ∧ 0 < di ∧ di ≤ 29) := Classical.em _
        have HRT : Hid ((R = true) = (0 < (2 : Int) ∧ 0 < di ∧ di ≤ 29)) := hid (by rw [HR.out, HN.out, decide_eq_true_eq]; have e1 := HMI.out; have e2 := HDI.out; exact propext (by omega))
        clear g0 HN HR HMI HDI
        go_wp2_with fail
        all_goals
          go_ret
          exact ⟨ret_bool (by
            have h := HRT.out
            cases R with
            | true => have h2 : (0 < (2 : Int) ∧ 0 < di ∧ di ≤ 29) := by rw [← h]
                      first | rfl | (simp; omega) | (exfalso; omega)
            | false => have h2 : ¬ (0 < (2 : Int) ∧ 0 < di ∧ di ≤ 29) := by rw [← h]; decide
                       first | rfl | (simp; omega) | (exfalso; omega)), HB7.out⟩
    · have ga : ((a : Int) == 0) = false := by rw [beq_eq_false_iff_ne]; omega
      by_cases c0 : c = 0
      · have gc : ((c : Int) == 0) = true := by rw [beq_iff_eq]; omega
        have HN : Hid (dim Y M = 29) := hid (by rw [HDM.out, if_pos (Or.inr c0)])
        clear a0 c0 HDM
        as_aux_lemma =>
        have g0 : (0 < (2 : Int) ∧ 0 < di ∧ di ≤ 29) ∨ ¬ (0 < (2 : Int) ∧ 0 < di ∧ di ≤ 29) := Classical.em _
        have HRT : Hid ((R = true) = (0 < (2 : Int) ∧ 0 < di ∧ di ≤ 29)) := hid (by rw [HR.out, HN.out, decide_eq_true_eq]; have e1 := HMI.out; have e2 := HDI.out; exact propext (by omega))
        clear g0 HN HR HMI HDI
        go_wp2_with fail
        all_goals
          go_ret
          exact ⟨ret_bool (by
            have h := HRT.out
            cases R with
            | true => have h2 : (0 < (2 : Int) ∧ 0 < di ∧ di ≤ 29) := by rw [← h]
                      first | rfl | (simp; omega) | (exfalso; omega)
            | false => have h2 : ¬ (0 < (2 : Int) ∧ 0 < di ∧ di ≤ 29) := by rw [← h]; decide
                       first | rfl | (simp; omega) | (exfalso; omega)), HB7.out⟩
      · have gc : ((c : Int) == 0) = false := by rw [beq_eq_false_iff_ne]; omega
        have HN : Hid (dim Y M = 28) := hid (by rw [HDM.out, if_neg (by rintro (h | h); exact a0 h.1; exact c0 h)])
        clear a0 c0 HDM
        as_aux_lemma =>
        have g0 : (0 < (2 : Int) ∧ 0 < di ∧ di ≤ 28) ∨ ¬ (0 < (2 : Int) ∧ 0 < di ∧ di ≤ 28) := Classical.em _
        have HRT : Hid ((R = true) = (0 < (2 : Int) ∧ 0 < di ∧ di ≤ 28)) := hid (by rw [HR.out, HN.out, decide_eq_true_eq]; have e1 := HMI.out; have e2 := HDI.out; exact propext (by omega))
        clear g0 HN HR HMI HDI
        go_wp2_with fail
        all_goals
          go_ret
          exact ⟨ret_bool (by
            have h := HRT.out
            cases R with
            | true => have h2 : (0 < (2 : Int) ∧ 0 < di ∧ di ≤ 28) := by rw [← h]
                      first | rfl | (simp; omega) | (exfalso; omega)
            | false => have h2 : ¬ (0 < (2 : Int) ∧ 0 < di ∧ di ≤ 28) := by rw [← h]; decide
                       first | rfl | (simp; omega) | (exfalso; omega)), HB7.out⟩
  · have HN : Hid (dim Y M = 31) := hid (by unfold dim; rw [if_neg (by omega), if_neg (by omega)])
    have k4 : (mi == 4) = false := by rw [beq_eq_false_iff_ne]; have := HMI.out; omega
    have k6 : (mi == 6) = false := by rw [beq_eq_false_iff_ne]; have := HMI.out; omega
    have k9 : (mi == 9) = false := by rw [beq_eq_false_iff_ne]; have := HMI.out; omega
    have k11 : (mi == 11) = false := by rw [beq_eq_false_iff_ne]; have := HMI.out; omega
    have k2 : (mi == 2) = false := by rw [beq_eq_false_iff_ne]; have := HMI.out; omega
    clear hc
    have g0 : (0 < mi ∧ 0 < di ∧ di ≤ 31) ∨ ¬ (0 < mi ∧ 0 < di ∧ di ≤ 31) := Classical.em _
    have HRT : Hid ((R = true) = (0 < mi ∧ 0 < di ∧ di ≤ 31)) := hid (by rw [HR.out, HN.out, decide_eq_true_eq]; have e1 := HMI.out; have e2 := HDI.out; exact propext (by omega))
    clear g0 HN HR HMI HDI
    go_wp2_with fail
    all_goals
      go_ret
      exact ⟨ret_bool (by
        have h := HRT.out
        cases R with
        | true => have h2 : (0 < mi ∧ 0 < di ∧ di ≤ 31) := by rw [← h]
                  first | rfl | (simp; omega) | (exfalso; omega)
        | false => have h2 : ¬ (0 < mi ∧ 0 < di ∧ di ≤ 31) := by rw [← h]; decide
                   first | rfl | (simp; omega) | (exfalso; omega)), HB7.out⟩
theorem rday_any (s : ByteArray) (w : World) :
    Calls Tryz.prog 105 #[.string s] w fun e w' => e = .returned (.bool (dayB s.data.toList)) ∧ Below w.heap.size w w' := by
  by_cases h10 : s.size = 10
  · have e4 : bt s.data.toList 4 = (s[4]'(by omega)).toNat := bt_at s 4 (by omega)
    have e7 : bt s.data.toList 7 = (s[7]'(by omega)).toNat := bt_at s 7 (by omega)
    have hS : dayS s.data.toList = (is2 s.data.toList 0 && is2 s.data.toList 2 && decide (bt s.data.toList 4 = 45) && is2 s.data.toList 5 && decide (bt s.data.toList 7 = 45) && is2 s.data.toList 8) := by
      unfold dayS; rw [size_list, decide_eq_true h10, Bool.true_and]
    have hno : dayS s.data.toList = false → dayB s.data.toList = false := fun h => by unfold dayB; rw [h]; rfl
    by_cases h4 : ((s[4]'(by omega)).toNat : Int) = 45
    rotate_left
    · rw [hno (by rw [hS, decide_eq_false (p := bt s.data.toList 4 = 45) (by omega)]; simp)]
      exact rday_no0 s w h10 h4
    by_cases h7 : ((s[7]'(by omega)).toNat : Int) = 45
    rotate_left
    · rw [hno (by rw [hS, decide_eq_false (p := bt s.data.toList 7 = 45) (by omega)]; simp)]
      exact rday_no1 s w h10 h4 h7
    cases i0 : is2 s.data.toList 0 with
    | false =>
      rw [hno (by rw [hS, i0]; simp)]
      exact rday_no2 s w h10 h4 h7 (by rw [i0]; rfl)
    | true =>
      have x0 : (is2 s.data.toList 0 && decide (dg2 s.data.toList 0 < 100)) = true := by rw [i0, decide_eq_true (dg2_lt i0)]; rfl
      cases i1 : is2 s.data.toList 2 with
      | false =>
        rw [hno (by rw [hS, i1]; simp)]
        exact rday_no3 s w h10 h4 h7 x0 (by rw [i1]; rfl)
      | true =>
        have x1 : (is2 s.data.toList 2 && decide (dg2 s.data.toList 2 < 100)) = true := by rw [i1, decide_eq_true (dg2_lt i1)]; rfl
        cases x2 : (is2 s.data.toList 5 && decide (dg2 s.data.toList 5 < 13)) with
        | false =>
          have : dayB s.data.toList = false := by
            unfold dayB
            rw [hS]
            rw [Bool.and_eq_false_iff] at x2
            rcases x2 with x2 | x2
            · rw [x2]; simp
            · rw [decide_eq_false (p := 1 ≤ dg2 s.data.toList 5 ∧ _) (by have := of_decide_eq_false x2; omega)]; simp
          rw [this]
          exact rday_no4 s w h10 h4 h7 x0 x1 x2
        | true =>
          cases x3 : (is2 s.data.toList 8 && decide (dg2 s.data.toList 8 < 32)) with
          | false =>
            have : dayB s.data.toList = false := by
              unfold dayB
              rw [hS]
              rw [Bool.and_eq_false_iff] at x3
              rcases x3 with x3 | x3
              · rw [x3]; simp
              · have hd : dim (dg2 s.data.toList 0 * 100 + dg2 s.data.toList 2) (dg2 s.data.toList 5) ≤ 31 := by unfold dim; (repeat' split) <;> omega
                rw [decide_eq_false (p := 1 ≤ dg2 s.data.toList 5 ∧ _) (by have := of_decide_eq_false x3; omega)]; simp
            rw [this]
            exact rday_no5 s w h10 h4 h7 x0 x1 x2 x3
          | true =>
            have h := rday_yes s w h10 h4 h7 i0 i1 x2 x3
            have e : dayB s.data.toList = decide (0 < dg2 s.data.toList 5 ∧ 0 < dg2 s.data.toList 8 ∧ dg2 s.data.toList 8 ≤ dim (dg2 s.data.toList 0 * 100 + dg2 s.data.toList 2) (dg2 s.data.toList 5)) := by
              rw [Bool.and_eq_true, decide_eq_true_eq] at x2 x3
              unfold dayB
              rw [hS, i0, i1, x2.1, x3.1, decide_eq_true (p := bt s.data.toList 4 = 45) (by omega), decide_eq_true (p := bt s.data.toList 7 = 45) (by omega)]
              simp only [Bool.true_and]
              exact decide_eq_decide.2 (by omega)
            rw [e]; exact h
  · have e : dayB s.data.toList = false := by unfold dayB dayS; rw [size_list, decide_eq_false h10]; rfl
    rw [e]
    have hz : (((s.size : Nat) : Int) != 10) = true := by rw [bne_iff_ne]; omega
    clear e h10
    go_enter Tryz.func105, Tryz.ntmps105
    go_wp2_with fail
    go_ret
    exact ⟨rfl, Below.refl _ _⟩
end Go.Proofs.YtiaepihdfbahaaaGreatDoor
