/- The document's reading of times: clock. Walked. -/
import Derived.Test.YtiaepihdfbahaaaGreatDoorARtD
namespace Go.Proofs.YtiaepihdfbahaaaGreatDoor
open Go.RowKit

/-- two digits at a place below a bound -/
def tw (l : List UInt8) (i n : Nat) : Bool := is2 l i && decide (dg2 l i < n)
def ck8 (l : List UInt8) : Bool := decide (8 ≤ l.length) && decide (bt l 2 = 58) && decide (bt l 5 = 58) && tw l 0 24 && tw l 3 60 && tw l 6 61
/-- how long the time at a text's beginning is; 0: there is none -/
def ckN (l : List UInt8) : Nat := if ck8 l = true then (if 8 < l.length ∧ bt l 8 = 46 then (if run dgI (l.drop 9) = 0 ∨ 9 < run dgI (l.drop 9) then 0 else 9 + run dgI (l.drop 9)) else 8) else 0
theorem rrun_has : ∀ (l : List UInt8) (k : Nat), k < run dgI l → 48 ≤ bt l k ∧ bt l k ≤ 57
  | [], k, h => absurd h (Nat.not_lt_zero _)
  | b :: l, k, h => by
    cases hp : dgI b with
    | false => rw [run_cneg hp] at h; exact absurd h (Nat.not_lt_zero _)
    | true =>
      rw [run_cpos hp] at h
      cases k with
      | zero => rw [bt_cons]; exact of_decide_eq_true hp
      | succ k => rw [bt_succ]; exact rrun_has l k (by omega)
theorem rrun_out : ∀ (l : List UInt8), run dgI l < l.length → ¬ (48 ≤ bt l (run dgI l) ∧ bt l (run dgI l) ≤ 57)
  | [], h => absurd h (Nat.not_lt_zero _)
  | b :: l, h => by
    cases hp : dgI b with
    | false => rw [run_cneg hp, bt_cons]; exact of_decide_eq_false hp
    | true =>
      rw [run_cpos hp] at h ⊢
      rw [bt_succ]
      exact rrun_out l (by simp only [List.length_cons] at h; omega)
theorem ckN_no {l : List UInt8} (h : ck8 l = false) : ckN l = 0 := by unfold ckN; rw [if_neg (by rw [h]; decide)]
theorem ckN_le (l : List UInt8) : ckN l ≤ l.length := by
  unfold ckN
  split
  · next h =>
    unfold ck8 at h
    simp only [Bool.and_eq_true, decide_eq_true_eq] at h
    have h8 := h.1.1.1.1.1
    have hr : run dgI (l.drop 9) ≤ (l.drop 9).length := by unfold run; exact (List.takeWhile_sublist _).length_le
    rw [List.length_drop] at hr
    split
    · split
      · omega
      · omega
    · omega
  · omega
set_option maxRecDepth 100000 in
set_option maxHeartbeats 4000000 in
theorem rclock_no0 (s : ByteArray) (w : World) (h8 : 8 ≤ s.size) (h2 : ¬ ((s[2]'(by omega)).toNat : Int) = 58) :
    Calls Tryz.prog 106 #[.string s] w fun e w' => e = .returned (.int .i64 0) ∧ Below w.heap.size w w' := by
  have C0 : Hid (∀ X, Calls Tryz.prog 107 #[.string (s.extract 0 2), .int .i64 24] X fun e w' => e = .returned (.bool (tw s.data.toList 0 24)) ∧ Below X.heap.size X w') := hid (fun X => two_of s 0 24 X (by omega))
  have C1 : Hid (∀ X, Calls Tryz.prog 107 #[.string (s.extract 3 5), .int .i64 60] X fun e w' => e = .returned (.bool (tw s.data.toList 3 60)) ∧ Below X.heap.size X w') := hid (fun X => two_of s 3 60 X (by omega))
  have C2 : Hid (∀ X, Calls Tryz.prog 107 #[.string (s.extract 6 8), .int .i64 61] X fun e w' => e = .returned (.bool (tw s.data.toList 6 61)) ∧ Below X.heap.size X w') := hid (fun X => two_of s 6 61 X (by omega))
  have z : ¬ (s.size : Int) < 8 := by omega
  have hx2 : 2 < s.size := by omega
  have hx5 : 5 < s.size := by omega
  have q2 : (((s[2]).toNat : Int) != 58) = true := by rw [bne_iff_ne]; exact h2
  clear h2 C0 C1 C2
  go_enter Tryz.func106, Tryz.ntmps106
  go_wp2_with (go_at_call 107; go_must (first
    | ((with_reducible refine (C0.out _).mono ?_); rintro e w1 ⟨rfl, hb1⟩)
    | ((with_reducible refine (C1.out _).mono ?_); rintro e w2 ⟨rfl, hb2⟩)
    | ((with_reducible refine (C2.out _).mono ?_); rintro e w3 ⟨rfl, hb3⟩)))
  go_ret
  exact ⟨rfl, Below.refl _ _⟩
set_option maxRecDepth 100000 in
set_option maxHeartbeats 4000000 in
theorem rclock_no1 (s : ByteArray) (w : World) (h8 : 8 ≤ s.size) (h2 : ((s[2]'(by omega)).toNat : Int) = 58) (h5 : ¬ ((s[5]'(by omega)).toNat : Int) = 58) :
    Calls Tryz.prog 106 #[.string s] w fun e w' => e = .returned (.int .i64 0) ∧ Below w.heap.size w w' := by
  have C0 : Hid (∀ X, Calls Tryz.prog 107 #[.string (s.extract 0 2), .int .i64 24] X fun e w' => e = .returned (.bool (tw s.data.toList 0 24)) ∧ Below X.heap.size X w') := hid (fun X => two_of s 0 24 X (by omega))
  have C1 : Hid (∀ X, Calls Tryz.prog 107 #[.string (s.extract 3 5), .int .i64 60] X fun e w' => e = .returned (.bool (tw s.data.toList 3 60)) ∧ Below X.heap.size X w') := hid (fun X => two_of s 3 60 X (by omega))
  have C2 : Hid (∀ X, Calls Tryz.prog 107 #[.string (s.extract 6 8), .int .i64 61] X fun e w' => e = .returned (.bool (tw s.data.toList 6 61)) ∧ Below X.heap.size X w') := hid (fun X => two_of s 6 61 X (by omega))
  have z : ¬ (s.size : Int) < 8 := by omega
  have hx2 : 2 < s.size := by omega
  have hx5 : 5 < s.size := by omega
  have q2 : (((s[2]).toNat : Int) != 58) = false := by rw [h2]; rfl
  have q5 : (((s[5]).toNat : Int) != 58) = true := by rw [bne_iff_ne]; exact h5
  clear h2 h5 C0 C1 C2
  go_enter Tryz.func106, Tryz.ntmps106
  go_wp2_with (go_at_call 107; go_must (first
    | ((with_reducible refine (C0.out _).mono ?_); rintro e w1 ⟨rfl, hb1⟩)
    | ((with_reducible refine (C1.out _).mono ?_); rintro e w2 ⟨rfl, hb2⟩)
    | ((with_reducible refine (C2.out _).mono ?_); rintro e w3 ⟨rfl, hb3⟩)))
  go_ret
  exact ⟨rfl, Below.refl _ _⟩
set_option maxRecDepth 100000 in
set_option maxHeartbeats 4000000 in
theorem rclock_no2 (s : ByteArray) (w : World) (h8 : 8 ≤ s.size) (h2 : ((s[2]'(by omega)).toNat : Int) = 58) (h5 : ((s[5]'(by omega)).toNat : Int) = 58)  (x0 : tw s.data.toList 0 24 = false) :
    Calls Tryz.prog 106 #[.string s] w fun e w' => e = .returned (.int .i64 0) ∧ Below w.heap.size w w' := by
  have C0 : Hid (∀ X, Calls Tryz.prog 107 #[.string (s.extract 0 2), .int .i64 24] X fun e w' => e = .returned (.bool (tw s.data.toList 0 24)) ∧ Below X.heap.size X w') := hid (fun X => two_of s 0 24 X (by omega))
  have C1 : Hid (∀ X, Calls Tryz.prog 107 #[.string (s.extract 3 5), .int .i64 60] X fun e w' => e = .returned (.bool (tw s.data.toList 3 60)) ∧ Below X.heap.size X w') := hid (fun X => two_of s 3 60 X (by omega))
  have C2 : Hid (∀ X, Calls Tryz.prog 107 #[.string (s.extract 6 8), .int .i64 61] X fun e w' => e = .returned (.bool (tw s.data.toList 6 61)) ∧ Below X.heap.size X w') := hid (fun X => two_of s 6 61 X (by omega))
  have z : ¬ (s.size : Int) < 8 := by omega
  have hx2 : 2 < s.size := by omega
  have hx5 : 5 < s.size := by omega
  have q2 : (((s[2]).toNat : Int) != 58) = false := by rw [h2]; rfl
  have q5 : (((s[5]).toNat : Int) != 58) = false := by rw [h5]; rfl
  rw [x0] at C0
  clear h2 h5 x0
  go_enter Tryz.func106, Tryz.ntmps106
  go_wp2_with (go_at_call 107; go_must (first
    | ((with_reducible refine (C0.out _).mono ?_); rintro e w1 ⟨rfl, hb1⟩)
    | ((with_reducible refine (C1.out _).mono ?_); rintro e w2 ⟨rfl, hb2⟩)
    | ((with_reducible refine (C2.out _).mono ?_); rintro e w3 ⟨rfl, hb3⟩)))
  go_ret
  exact ⟨rfl, hb1⟩
set_option maxRecDepth 100000 in
set_option maxHeartbeats 4000000 in
theorem rclock_no3 (s : ByteArray) (w : World) (h8 : 8 ≤ s.size) (h2 : ((s[2]'(by omega)).toNat : Int) = 58) (h5 : ((s[5]'(by omega)).toNat : Int) = 58) (x0 : tw s.data.toList 0 24 = true) (x1 : tw s.data.toList 3 60 = false) :
    Calls Tryz.prog 106 #[.string s] w fun e w' => e = .returned (.int .i64 0) ∧ Below w.heap.size w w' := by
  have C0 : Hid (∀ X, Calls Tryz.prog 107 #[.string (s.extract 0 2), .int .i64 24] X fun e w' => e = .returned (.bool (tw s.data.toList 0 24)) ∧ Below X.heap.size X w') := hid (fun X => two_of s 0 24 X (by omega))
  have C1 : Hid (∀ X, Calls Tryz.prog 107 #[.string (s.extract 3 5), .int .i64 60] X fun e w' => e = .returned (.bool (tw s.data.toList 3 60)) ∧ Below X.heap.size X w') := hid (fun X => two_of s 3 60 X (by omega))
  have C2 : Hid (∀ X, Calls Tryz.prog 107 #[.string (s.extract 6 8), .int .i64 61] X fun e w' => e = .returned (.bool (tw s.data.toList 6 61)) ∧ Below X.heap.size X w') := hid (fun X => two_of s 6 61 X (by omega))
  have z : ¬ (s.size : Int) < 8 := by omega
  have hx2 : 2 < s.size := by omega
  have hx5 : 5 < s.size := by omega
  have q2 : (((s[2]).toNat : Int) != 58) = false := by rw [h2]; rfl
  have q5 : (((s[5]).toNat : Int) != 58) = false := by rw [h5]; rfl
  rw [x0] at C0
  rw [x1] at C1
  clear h2 h5 x0 x1
  go_enter Tryz.func106, Tryz.ntmps106
  go_wp2_with (go_at_call 107; go_must (first
    | ((with_reducible refine (C0.out _).mono ?_); rintro e w1 ⟨rfl, hb1⟩)
    | ((with_reducible refine (C1.out _).mono ?_); rintro e w2 ⟨rfl, hb2⟩)
    | ((with_reducible refine (C2.out _).mono ?_); rintro e w3 ⟨rfl, hb3⟩)))
  go_ret
  exact ⟨rfl, eonto hb1 hb2⟩
set_option maxRecDepth 100000 in
set_option maxHeartbeats 4000000 in
theorem rclock_no4 (s : ByteArray) (w : World) (h8 : 8 ≤ s.size) (h2 : ((s[2]'(by omega)).toNat : Int) = 58) (h5 : ((s[5]'(by omega)).toNat : Int) = 58) (x0 : tw s.data.toList 0 24 = true) (x1 : tw s.data.toList 3 60 = true) (x2 : tw s.data.toList 6 61 = false) :
    Calls Tryz.prog 106 #[.string s] w fun e w' => e = .returned (.int .i64 0) ∧ Below w.heap.size w w' := by
  have C0 : Hid (∀ X, Calls Tryz.prog 107 #[.string (s.extract 0 2), .int .i64 24] X fun e w' => e = .returned (.bool (tw s.data.toList 0 24)) ∧ Below X.heap.size X w') := hid (fun X => two_of s 0 24 X (by omega))
  have C1 : Hid (∀ X, Calls Tryz.prog 107 #[.string (s.extract 3 5), .int .i64 60] X fun e w' => e = .returned (.bool (tw s.data.toList 3 60)) ∧ Below X.heap.size X w') := hid (fun X => two_of s 3 60 X (by omega))
  have C2 : Hid (∀ X, Calls Tryz.prog 107 #[.string (s.extract 6 8), .int .i64 61] X fun e w' => e = .returned (.bool (tw s.data.toList 6 61)) ∧ Below X.heap.size X w') := hid (fun X => two_of s 6 61 X (by omega))
  have z : ¬ (s.size : Int) < 8 := by omega
  have hx2 : 2 < s.size := by omega
  have hx5 : 5 < s.size := by omega
  have q2 : (((s[2]).toNat : Int) != 58) = false := by rw [h2]; rfl
  have q5 : (((s[5]).toNat : Int) != 58) = false := by rw [h5]; rfl
  rw [x0] at C0
  rw [x1] at C1
  rw [x2] at C2
  clear h2 h5 x0 x1 x2
  go_enter Tryz.func106, Tryz.ntmps106
  go_wp2_with (go_at_call 107; go_must (first
    | ((with_reducible refine (C0.out _).mono ?_); rintro e w1 ⟨rfl, hb1⟩)
    | ((with_reducible refine (C1.out _).mono ?_); rintro e w2 ⟨rfl, hb2⟩)
    | ((with_reducible refine (C2.out _).mono ?_); rintro e w3 ⟨rfl, hb3⟩)))
  go_ret
  exact ⟨rfl, eonto (eonto hb1 hb2) hb3⟩
set_option maxRecDepth 100000 in
set_option maxHeartbeats 4000000 in
theorem rclock_yes (s : ByteArray) (w : World) (hs : s.size ≤ 1000000) (h8 : 8 ≤ s.size) (h2 : ((s[2]'(by omega)).toNat : Int) = 58) (h5 : ((s[5]'(by omega)).toNat : Int) = 58) (x0 : tw s.data.toList 0 24 = true) (x1 : tw s.data.toList 3 60 = true) (x2 : tw s.data.toList 6 61 = true) :
    Calls Tryz.prog 106 #[.string s] w fun e w' => e = .returned (.int .i64 (((if 8 < s.data.toList.length ∧ bt s.data.toList 8 = 46 then (if run dgI (s.data.toList.drop 9) = 0 ∨ 9 < run dgI (s.data.toList.drop 9) then 0 else 9 + run dgI (s.data.toList.drop 9)) else 8 : Nat)) : Int)) ∧ Below w.heap.size w w' := by
  have C0 : Hid (∀ X, Calls Tryz.prog 107 #[.string (s.extract 0 2), .int .i64 24] X fun e w' => e = .returned (.bool (tw s.data.toList 0 24)) ∧ Below X.heap.size X w') := hid (fun X => two_of s 0 24 X (by omega))
  have C1 : Hid (∀ X, Calls Tryz.prog 107 #[.string (s.extract 3 5), .int .i64 60] X fun e w' => e = .returned (.bool (tw s.data.toList 3 60)) ∧ Below X.heap.size X w') := hid (fun X => two_of s 3 60 X (by omega))
  have C2 : Hid (∀ X, Calls Tryz.prog 107 #[.string (s.extract 6 8), .int .i64 61] X fun e w' => e = .returned (.bool (tw s.data.toList 6 61)) ∧ Below X.heap.size X w') := hid (fun X => two_of s 6 61 X (by omega))
  have z : ¬ (s.size : Int) < 8 := by omega
  have hx2 : 2 < s.size := by omega
  have hx5 : 5 < s.size := by omega
  have q2 : (((s[2]).toNat : Int) != 58) = false := by rw [h2]; rfl
  have q5 : (((s[5]).toNat : Int) != 58) = false := by rw [h5]; rfl
  rw [x0] at C0
  rw [x1] at C1
  rw [x2] at C2
  obtain ⟨T, hT⟩ : ∃ T, s.data.toList = T := ⟨_, rfl⟩
  have HT := hid hT
  have hTl : T.length = s.size := by rw [← hT, size_list]
  rw [hT]
  clear h2 h5 x0 x1 x2 hT
  by_cases h9 : 8 < T.length ∧ bt T 8 = 46
  · rw [if_pos h9]
    have hx8 : 8 < s.size := by omega
    have z8 : (8 : Int) < (s.size : Int) := by omega
    have q8 : (((s[8]).toNat : Int) == 46) = true := by
      have := bt_at s 8 hx8
      rw [HT.out, h9.2] at this
      rw [← this]; rfl
    obtain ⟨rn, hrn⟩ : ∃ r, run dgI (T.drop 9) = r := ⟨_, rfl⟩
    have hrl : rn ≤ s.size - 9 := by
      rw [← hrn]
      have h : run dgI (T.drop 9) ≤ (T.drop 9).length := by unfold run; exact (List.takeWhile_sublist _).length_le
      rw [List.length_drop] at h; omega
    have HIN : Hid (∀ j (h : 9 + j < s.size), j < rn → 48 ≤ s[9 + j].toNat ∧ s[9 + j].toNat ≤ 57) := hid (fun j h hj => by
      have h1 := rrun_has (T.drop 9) j (by rw [hrn]; exact hj)
      rw [bt_drop, ← HT.out, bt_at s (9 + j) h] at h1
      exact h1)
    have HOUT : Hid (∀ h : 9 + rn < s.size, ¬ (48 ≤ s[9 + rn].toNat ∧ s[9 + rn].toNat ≤ 57)) := hid (fun h => by
      have h1 := rrun_out (T.drop 9) (by rw [hrn, List.length_drop]; omega)
      rw [hrn, bt_drop, ← HT.out, bt_at s (9 + rn) h] at h1
      exact h1)
    rw [hrn]
    obtain ⟨R, hR⟩ : ∃ R : Nat, (if rn = 0 ∨ 9 < rn then 0 else 9 + rn) = R := ⟨_, rfl⟩
    rw [hR]
    have HRR := hid hR
    clear hrn h9 hR
    go_enter Tryz.func106, Tryz.ntmps106
    go_wp2_with (go_at_call 107; go_must (first
    | ((with_reducible refine (C0.out _).mono ?_); rintro e w1 ⟨rfl, hb1⟩)
    | ((with_reducible refine (C1.out _).mono ?_); rintro e w2 ⟨rfl, hb2⟩)
    | ((with_reducible refine (C2.out _).mono ?_); rintro e w3 ⟨rfl, hb3⟩)))
    have HB3 := hid (eonto (eonto hb1 hb2) hb3)
    clear hb1 hb2 hb3 C0 C1 C2
    go_loop [3] (fun i => ∃ j : Nat, j ≤ rn ∧ i = .int .i64 ((9 + j : Nat) : Int)) (fun i => s.size - (intOf i).toNat)
    case atStart => exact ⟨0, Nat.zero_le _, rfl⟩
    case round =>
      obtain ⟨j, hj, rfl⟩ := hrel
      obtain ⟨k, hk⟩ : ∃ k, 9 + j = k := ⟨_, rfl⟩
      rw [hk]
      by_cases hlt : j < rn
      · have hks : k < s.size := by omega
        have hkz : (k : Int) < (s.size : Int) := by omega
        have hd : 48 ≤ s[k].toNat ∧ s[k].toNat ≤ 57 := by have := HIN.out j (by omega) hlt; simp only [hk] at this; exact this
        have hd1 : (48 : Int) ≤ (s[k].toNat : Int) := by omega
        have hd2 : (s[k].toNat : Int) ≤ 57 := by omega
        clear hd
        go_wp2_with fail
        go_round
        case rel => exact ⟨j + 1, hlt, val_int (by omega)⟩
        case measure => simp [intOf]; omega
      · obtain rfl : j = rn := by omega
        clear hlt
        have hfin : (¬ k < s.size) ∨ ∃ h : k < s.size, ((s[k].toNat : Int) < 48 ∨ (48 ≤ (s[k].toNat : Int) ∧ 57 < (s[k].toNat : Int))) := by
          by_cases h : k < s.size
          · right
            refine ⟨h, ?_⟩
            have := HOUT.out (by omega)
            simp only [hk] at this
            omega
          · exact Or.inl h
        have hkb : k ≤ s.size := by omega
        have hcase : (k = 9 ∧ R = 0) ∨ (¬ k = 9 ∧ 18 < k ∧ R = 0) ∨ (¬ k = 9 ∧ ¬ 18 < k ∧ R = k) := by
          have hR := HRR.out
          by_cases h : j = 0 ∨ 9 < j
          · rw [if_pos h] at hR; omega
          · rw [if_neg h] at hR; omega
        clear HRR HIN HOUT
        rcases hfin with hf | ⟨hf, hf1 | ⟨hf1, hf2⟩⟩
        · have hkz : ¬ (k : Int) < (s.size : Int) := by omega
          rcases hcase with ⟨hc, rfl⟩ | ⟨hc, hc2, rfl⟩ | ⟨hc, hc2, rfl⟩
          · have g9 : ((k : Int) == 9) = true := by rw [beq_iff_eq]; omega
            clear hc hk
            go_wp2_with fail
            go_ret
            exact ⟨rfl, HB3.out⟩
          · have g9 : ((k : Int) == 9) = false := by rw [beq_eq_false_iff_ne]; omega
            have g18 : (18 : Int) < (k : Int) := by omega
            clear hc hk
            go_wp2_with fail
            go_ret
            exact ⟨rfl, HB3.out⟩
          · have g9 : ((R : Int) == 9) = false := by rw [beq_eq_false_iff_ne]; omega
            have g18 : ¬ (18 : Int) < (R : Int) := by omega
            clear hc hk
            go_wp2_with fail
            go_ret
            exact ⟨rfl, HB3.out⟩
        · have hkz : (k : Int) < (s.size : Int) := by omega
          have hf3 : ¬ (48 : Int) ≤ (s[k].toNat : Int) := by omega
          rcases hcase with ⟨hc, rfl⟩ | ⟨hc, hc2, rfl⟩ | ⟨hc, hc2, rfl⟩
          · have g9 : ((k : Int) == 9) = true := by rw [beq_iff_eq]; omega
            clear hc hk
            go_wp2_with fail
            go_ret
            exact ⟨rfl, HB3.out⟩
          · have g9 : ((k : Int) == 9) = false := by rw [beq_eq_false_iff_ne]; omega
            have g18 : (18 : Int) < (k : Int) := by omega
            clear hc hk
            go_wp2_with fail
            go_ret
            exact ⟨rfl, HB3.out⟩
          · have g9 : ((R : Int) == 9) = false := by rw [beq_eq_false_iff_ne]; omega
            have g18 : ¬ (18 : Int) < (R : Int) := by omega
            clear hc hk
            go_wp2_with fail
            go_ret
            exact ⟨rfl, HB3.out⟩
        · have hkz : (k : Int) < (s.size : Int) := by omega
          have hf3 : ¬ (s[k].toNat : Int) ≤ 57 := by omega
          rcases hcase with ⟨hc, rfl⟩ | ⟨hc, hc2, rfl⟩ | ⟨hc, hc2, rfl⟩
          · have g9 : ((k : Int) == 9) = true := by rw [beq_iff_eq]; omega
            clear hc hk
            go_wp2_with fail
            go_ret
            exact ⟨rfl, HB3.out⟩
          · have g9 : ((k : Int) == 9) = false := by rw [beq_eq_false_iff_ne]; omega
            have g18 : (18 : Int) < (k : Int) := by omega
            clear hc hk
            go_wp2_with fail
            go_ret
            exact ⟨rfl, HB3.out⟩
          · have g9 : ((R : Int) == 9) = false := by rw [beq_eq_false_iff_ne]; omega
            have g18 : ¬ (18 : Int) < (R : Int) := by omega
            clear hc hk
            go_wp2_with fail
            go_ret
            exact ⟨rfl, HB3.out⟩
  · rw [if_neg h9]
    have hcase : (¬ (8 : Int) < (s.size : Int)) ∨ ∃ h : 8 < s.size, (((s[8]).toNat : Int) == 46) = false := by
      by_cases h : 8 < s.size
      · right
        refine ⟨h, ?_⟩
        rw [beq_eq_false_iff_ne]
        intro e
        have h2 := bt_at s 8 h
        rw [HT.out] at h2
        exact h9 ⟨by omega, by rw [h2]; omega⟩
      · left; omega
    clear h9
    rcases hcase with h9 | ⟨h9, q8⟩
    · go_enter Tryz.func106, Tryz.ntmps106
      go_wp2_with (go_at_call 107; go_must (first
    | ((with_reducible refine (C0.out _).mono ?_); rintro e w1 ⟨rfl, hb1⟩)
    | ((with_reducible refine (C1.out _).mono ?_); rintro e w2 ⟨rfl, hb2⟩)
    | ((with_reducible refine (C2.out _).mono ?_); rintro e w3 ⟨rfl, hb3⟩)))
      go_ret
      exact ⟨rfl, eonto (eonto hb1 hb2) hb3⟩
    · have z8 : (8 : Int) < (s.size : Int) := by omega
      go_enter Tryz.func106, Tryz.ntmps106
      go_wp2_with (go_at_call 107; go_must (first
    | ((with_reducible refine (C0.out _).mono ?_); rintro e w1 ⟨rfl, hb1⟩)
    | ((with_reducible refine (C1.out _).mono ?_); rintro e w2 ⟨rfl, hb2⟩)
    | ((with_reducible refine (C2.out _).mono ?_); rintro e w3 ⟨rfl, hb3⟩)))
      go_ret
      exact ⟨rfl, eonto (eonto hb1 hb2) hb3⟩
theorem rclock_any (s : ByteArray) (w : World) (hs : s.size ≤ 1000000) :
    Calls Tryz.prog 106 #[.string s] w fun e w' => e = .returned (.int .i64 (ckN s.data.toList : Int)) ∧ Below w.heap.size w w' := by
  by_cases h8 : 8 ≤ s.size
  · have e2 : bt s.data.toList 2 = (s[2]'(by omega)).toNat := bt_at s 2 (by omega)
    have e5 : bt s.data.toList 5 = (s[5]'(by omega)).toNat := bt_at s 5 (by omega)
    by_cases h2 : ((s[2]'(by omega)).toNat : Int) = 58
    rotate_left
    · rw [ckN_no (by unfold ck8; rw [decide_eq_false (p := bt s.data.toList 2 = 58) (by omega)]; simp)]
      exact rclock_no0 s w h8 h2
    by_cases h5 : ((s[5]'(by omega)).toNat : Int) = 58
    rotate_left
    · rw [ckN_no (by unfold ck8; rw [decide_eq_false (p := bt s.data.toList 5 = 58) (by omega)]; simp)]
      exact rclock_no1 s w h8 h2 h5
    cases x0 : tw s.data.toList 0 24 with
    | false => rw [ckN_no (by unfold ck8; rw [x0]; simp)]; exact rclock_no2 s w h8 h2 h5 x0
    | true =>
      cases x1 : tw s.data.toList 3 60 with
      | false => rw [ckN_no (by unfold ck8; rw [x1]; simp)]; exact rclock_no3 s w h8 h2 h5 x0 x1
      | true =>
        cases x2 : tw s.data.toList 6 61 with
        | false => rw [ckN_no (by unfold ck8; rw [x2]; simp)]; exact rclock_no4 s w h8 h2 h5 x0 x1 x2
        | true =>
          have h := rclock_yes s w hs h8 h2 h5 x0 x1 x2
          have e : ckN s.data.toList = (if 8 < s.data.toList.length ∧ bt s.data.toList 8 = 46 then (if run dgI (s.data.toList.drop 9) = 0 ∨ 9 < run dgI (s.data.toList.drop 9) then 0 else 9 + run dgI (s.data.toList.drop 9)) else 8) := by
            unfold ckN
            rw [if_pos]
            unfold ck8
            rw [size_list, decide_eq_true h8, decide_eq_true (p := bt s.data.toList 2 = 58) (by omega), decide_eq_true (p := bt s.data.toList 5 = 58) (by omega), x0, x1, x2]; rfl
          rw [e]; exact h
  · rw [ckN_no (by unfold ck8; rw [size_list, decide_eq_false h8]; simp)]
    have z : (s.size : Int) < 8 := by omega
    clear h8
    go_enter Tryz.func106, Tryz.ntmps106
    go_wp2_with fail
    go_ret
    exact ⟨rfl, Below.refl _ _⟩
end Go.Proofs.YtiaepihdfbahaaaGreatDoor
