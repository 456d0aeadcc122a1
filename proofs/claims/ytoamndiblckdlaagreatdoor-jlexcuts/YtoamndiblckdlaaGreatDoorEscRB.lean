/- The document's own escape of chapter 6: walked. -/
import Derived.Test.YtoamndiblckdlaaGreatDoorEscRA
import Derived.Test.YtoamndiblckdlaaGreatDoorEscF
namespace Go.Proofs.YtoamndiblckdlaaGreatDoor
open Go.RowKit

theorem rput_l (r : Int) (w : World) : Calls Tryz.prog 48 #[.int .i64 r] w fun e w' => e = .returned (.string (mkS (ltr r))) ∧ Below w.heap.size w w' := by
  have := rput_any r w
  rw [ltr_str] at this; exact this
/-- what is left of escape when its digits have been read -/
theorem escU_end {toml : Bool} {l : List UInt8} {n : Nat} (hg : ¬ (0 ≤ cdI l 2 n ∧ goodB (cdI l 2 n) = true)) (h : ¬ (toml = false ∧ 55296 ≤ cdI l 2 n ∧ cdI l 2 n < 56320 ∧ bt l 6 = 92 ∧ bt l 7 = 117 ∧ 56320 ≤ cdI l 8 4 ∧ cdI l 8 4 < 57344)) : escU toml l n = ([], 0) := by
  unfold escU; rw [if_neg hg, if_neg h]
theorem escU_pair {l : List UInt8} {n : Nat} (hg : goodB (cdI l 2 n) = false) (h : 55296 ≤ cdI l 2 n ∧ cdI l 2 n < 56320 ∧ bt l 6 = 92 ∧ bt l 7 = 117 ∧ 56320 ≤ cdI l 8 4 ∧ cdI l 8 4 < 57344) : escU false l n = (ltr (65536 + (cdI l 2 n - 55296) * 1024 + cdI l 8 4 - 56320), 12) := by
  unfold escU; rw [if_neg (by rw [hg]; simp), if_pos ⟨rfl, h⟩]
theorem escP_short {toml : Bool} {l : List UInt8} (h : bt l 1 = 256) : escP toml l = ([], 0) := by
  unfold escP; rw [h, nmV_256', if_neg (by omega), if_neg (by omega), if_neg (by omega)]
where nmV_256' : nmV toml 256 = 256 := by unfold nmV; simp
theorem escP_other {toml : Bool} {l : List UInt8} (h : plnB toml (bt l 1) = false) (h1 : ¬ (bt l 1 = 85 ∧ toml = true)) (h2 : bt l 1 ≠ 117) : escP toml l = ([], 0) := by
  have := of_decide_eq_false h
  unfold escP; rw [if_neg this, if_neg h1, if_neg h2]
theorem escP_named {toml : Bool} {l : List UInt8} (h : plnB toml (bt l 1) = true) : escP toml l = (plnS (bt l 1), 2) := by
  have := of_decide_eq_true h
  unfold escP; rw [if_pos this, pln_is toml _ this]
set_option maxRecDepth 100000 in
set_option maxHeartbeats 1000000 in
theorem resc_short (t : ByteArray) (a : Nat) (toml : Bool) (w : World) (ht : t.size ≤ 1000000) (ha : a < t.size) (h1 : t.size ≤ a + 1) :
    Calls Tryz.prog 36 #[.string t, .int .i64 (a : Int), .bool toml] w fun e w' => e = .returned (.tuple #[.string (mkS (escP toml (t.data.toList.drop a)).1), .int .i64 ((escP toml (t.data.toList.drop a)).2 : Nat)]) ∧ Below w.heap.size w w' := by
  have HZ := hid (size_list t)
  obtain ⟨l, hl⟩ : ∃ l, t.data.toList.drop a = l := ⟨_, rfl⟩
  have HBT : Hid (∀ k (h : a + k < t.size), bt l k = t[a + k].toNat) := fun k h => by rw [← hl, bt_drop]; exact bt_at t _ h
  have HBN : Hid (∀ k, t.size ≤ a + k → bt l k = 256) := fun k h => by rw [← hl, bt_drop]; exact bt_none (by rw [HZ.out]; exact h)
  rw [hl]
  clear hl
  have HR := hid (escP_short (toml := toml) (l := l) (HBN.out 1 h1))
  clear HBT
  go_enter Tryz.func36, Tryz.ntmps36
  go_wp2_with fail
  go_ret2
  exact ⟨ret_sn (by rw [HR.out]; rfl) (by rw [HR.out]; rfl), Below.refl _ _⟩
set_option maxRecDepth 100000 in
set_option maxHeartbeats 1000000 in
theorem resc_named (t : ByteArray) (a : Nat) (toml : Bool) (w : World) (ht : t.size ≤ 1000000) (h1 : a + 1 < t.size) (hp : plnB toml t[a + 1].toNat = true) :
    Calls Tryz.prog 36 #[.string t, .int .i64 (a : Int), .bool toml] w fun e w' => e = .returned (.tuple #[.string (mkS (escP toml (t.data.toList.drop a)).1), .int .i64 ((escP toml (t.data.toList.drop a)).2 : Nat)]) ∧ Below w.heap.size w w' := by
  have HZ := hid (size_list t)
  obtain ⟨l, hl⟩ : ∃ l, t.data.toList.drop a = l := ⟨_, rfl⟩
  have HBT : Hid (∀ k (h : a + k < t.size), bt l k = t[a + k].toNat) := fun k h => by rw [← hl, bt_drop]; exact bt_at t _ h
  have HBN : Hid (∀ k, t.size ≤ a + k → bt l k = 256) := fun k h => by rw [← hl, bt_drop]; exact bt_none (by rw [HZ.out]; exact h)
  rw [hl]
  clear hl
  have B1 := hid (HBT.out 1 h1)
  have HPL := hid (fun X => rplain_any t[a + 1] toml X)
  have HR := hid (escP_named (toml := toml) (l := l) (by rw [B1.out]; exact hp))
  rw [B1.out] at HR
  rw [hp] at HPL
  clear hp HBT HBN
  go_enter Tryz.func36, Tryz.ntmps36
  go_wp2_with (go_at_call 49; go_must (refine (HPL.out _).mono ?_; rintro e w1 ⟨rfl, hb1⟩))
  go_ret2
  exact ⟨ret_sn (by rw [HR.out]) (by rw [HR.out]; rfl), hb1⟩
set_option maxRecDepth 100000 in
set_option maxHeartbeats 1000000 in
theorem resc_other (t : ByteArray) (a : Nat) (toml : Bool) (w : World) (ht : t.size ≤ 1000000) (h1 : a + 1 < t.size) (hp : plnB toml t[a + 1].toNat = false) (hU : ¬ (t[a + 1].toNat = 85 ∧ toml = true)) (hu : t[a + 1].toNat ≠ 117) :
    Calls Tryz.prog 36 #[.string t, .int .i64 (a : Int), .bool toml] w fun e w' => e = .returned (.tuple #[.string (mkS (escP toml (t.data.toList.drop a)).1), .int .i64 ((escP toml (t.data.toList.drop a)).2 : Nat)]) ∧ Below w.heap.size w w' := by
  have HZ := hid (size_list t)
  obtain ⟨l, hl⟩ : ∃ l, t.data.toList.drop a = l := ⟨_, rfl⟩
  have HBT : Hid (∀ k (h : a + k < t.size), bt l k = t[a + k].toNat) := fun k h => by rw [← hl, bt_drop]; exact bt_at t _ h
  have HBN : Hid (∀ k, t.size ≤ a + k → bt l k = 256) := fun k h => by rw [← hl, bt_drop]; exact bt_none (by rw [HZ.out]; exact h)
  rw [hl]
  clear hl
  have B1 := hid (HBT.out 1 h1)
  have HPL := hid (fun X => rplain_any t[a + 1] toml X)
  have HR := hid (escP_other (toml := toml) (l := l) (by rw [B1.out]; exact hp) (by rw [B1.out]; exact hU) (by rw [B1.out]; exact hu))
  rw [hp] at HPL
  have g117 : ((t[a + 1].toNat : Int) != 117) = true := by rw [bne_iff_ne]; omega
  have gU : ((t[a + 1].toNat : Int) == 85) = false ∨ (((t[a + 1].toNat : Int) == 85) = true ∧ toml = false) := by
    by_cases h8 : t[a + 1].toNat = 85
    · right
      refine ⟨by rw [beq_iff_eq]; omega, ?_⟩
      cases toml with
      | false => rfl
      | true => exact absurd ⟨h8, rfl⟩ hU
    · left; rw [beq_eq_false_iff_ne]; omega
  clear hp HBT HBN hU hu B1
  rcases gU with gU | ⟨gU, rfl⟩
  all_goals
    go_enter Tryz.func36, Tryz.ntmps36
    go_wp2_with (go_at_call 49; go_must (refine (HPL.out _).mono ?_; rintro e w1 ⟨rfl, hb1⟩))
    go_ret2
    exact ⟨ret_sn (by rw [HR.out]; rfl) (by rw [HR.out]; rfl), hb1⟩
set_option maxRecDepth 100000 in
set_option maxHeartbeats 1000000 in
theorem resc_U (t : ByteArray) (a : Nat) (w : World) (ht : t.size ≤ 1000000) (h1 : a + 1 < t.size) (hp : plnB true t[a + 1].toNat = false) (hU1 : t[a + 1].toNat = 85) :
    Calls Tryz.prog 36 #[.string t, .int .i64 (a : Int), .bool true] w fun e w' => e = .returned (.tuple #[.string (mkS (escP true (t.data.toList.drop a)).1), .int .i64 ((escP true (t.data.toList.drop a)).2 : Nat)]) ∧ Below w.heap.size w w' := by
  have HZ := hid (size_list t)
  obtain ⟨l, hl⟩ : ∃ l, t.data.toList.drop a = l := ⟨_, rfl⟩
  have HBT : Hid (∀ k (h : a + k < t.size), bt l k = t[a + k].toNat) := fun k h => by rw [← hl, bt_drop]; exact bt_at t _ h
  have HBN : Hid (∀ k, t.size ≤ a + k → bt l k = 256) := fun k h => by rw [← hl, bt_drop]; exact bt_none (by rw [HZ.out]; exact h)
  have HCD : Hid (∀ (k n : Nat) (X : World), k ≤ 8 → 1 ≤ n → n ≤ 8 → Calls Tryz.prog 50 #[.string t, .int .i64 ((a : Int) + (k : Int)), .int .i64 (n : Int)] X fun e w' => e = .returned (.int .i64 (cdI l k n)) ∧ w' = X) := fun k n X hk hn hn8 => by
    have := code_any t (a + k) n X ht (by omega) hn hn8
    rw [← cdI_drop _ _ _ _ hn, hl] at this; exact this
  rw [hl]
  clear hl
  have B1 := hid (HBT.out 1 h1)
  have HPL := hid (fun X => rplain_any t[a + 1] true X)
  rw [hp] at HPL
  have HE := hid (esc_U l (by rw [B1.out]; exact hU1))
  have HC : Hid (∀ X, Calls Tryz.prog 50 #[.string t, .int .i64 ((a : Int) + 2), .int .i64 8] X fun e w' => e = .returned (.int .i64 (cdI l 2 8)) ∧ w' = X) := fun X => HCD.out 2 8 X (by omega) (by omega) (by omega)
  have hv1 := cdI_ge l 2 8
  have hv2 := cdI_lt l 2 8
  have g85 : ((t[a + 1].toNat : Int) == 85) = true := by rw [beq_iff_eq]; omega
  have HGD := hid (fun X => rgood_any (cdI l 2 8) X)
  clear hp HBT HBN HCD B1 hU1
  cases hg : goodB (cdI l 2 8) with
  | true =>
    have hv0 : 0 ≤ cdI l 2 8 := by have := of_decide_eq_true hg; omega
    have HR := hid (HE.out.trans (escT_good hv0 hg))
    rw [hg] at HGD
    clear HE hg
    generalize cdI l 2 8 = v at *
    go_enter Tryz.func36, Tryz.ntmps36
    go_wp2_with (first
      | (go_at_call 49; go_must (refine (HPL.out _).mono ?_; rintro e w1 ⟨rfl, hb1⟩))
      | (go_at_call 50; go_must (refine (HC.out _).mono ?_; rintro e w2 ⟨rfl, hw2⟩; obtain rfl := hw2.symm))
      | (go_at_call 51; go_must (refine (HGD.out _).mono ?_; rintro e w3 ⟨rfl, hw3⟩; obtain rfl := hw3.symm))
      | (go_at_call 48; go_must (refine (rput_l _ _).mono ?_; rintro e w4 ⟨rfl, hb4⟩)))
    go_ret2
    exact ⟨ret_sn (by rw [HR.out]) (by rw [HR.out]; rfl), eonto hb1 hb4⟩
  | false =>
    have HR := hid (HE.out.trans (escT_bad hg))
    rw [hg] at HGD
    clear HE hg
    generalize cdI l 2 8 = v at *
    by_cases hv0 : 0 ≤ v
    all_goals
      go_enter Tryz.func36, Tryz.ntmps36
      go_wp2_with (first
        | (go_at_call 49; go_must (refine (HPL.out _).mono ?_; rintro e w1 ⟨rfl, hb1⟩))
        | (go_at_call 50; go_must (refine (HC.out _).mono ?_; rintro e w2 ⟨rfl, hw2⟩; obtain rfl := hw2.symm))
        | (go_at_call 51; go_must (refine (HGD.out _).mono ?_; rintro e w3 ⟨rfl, hw3⟩; obtain rfl := hw3.symm))
        | (go_at_call 48; go_must (refine (rput_l _ _).mono ?_; rintro e w4 ⟨rfl, hb4⟩)))
      go_ret2
      exact ⟨ret_sn (by rw [HR.out]; rfl) (by rw [HR.out]; rfl), hb1⟩
set_option maxRecDepth 100000 in
set_option maxHeartbeats 2000000 in
theorem resc_ug (t : ByteArray) (a : Nat) (toml : Bool) (w : World) (ht : t.size ≤ 1000000) (h1 : a + 1 < t.size) (hp : plnB toml t[a + 1].toNat = false) (hu : t[a + 1].toNat = 117) (hg : goodB (cdI (t.data.toList.drop a) 2 4) = true) :
    Calls Tryz.prog 36 #[.string t, .int .i64 (a : Int), .bool toml] w fun e w' => e = .returned (.tuple #[.string (mkS (escP toml (t.data.toList.drop a)).1), .int .i64 ((escP toml (t.data.toList.drop a)).2 : Nat)]) ∧ Below w.heap.size w w' := by
  have HZ := hid (size_list t)
  obtain ⟨l, hl⟩ : ∃ l, t.data.toList.drop a = l := ⟨_, rfl⟩
  have HBT : Hid (∀ k (h : a + k < t.size), bt l k = t[a + k].toNat) := fun k h => by rw [← hl, bt_drop]; exact bt_at t _ h
  have HBN : Hid (∀ k, t.size ≤ a + k → bt l k = 256) := fun k h => by rw [← hl, bt_drop]; exact bt_none (by rw [HZ.out]; exact h)
  have HCD : Hid (∀ (k n : Nat) (X : World), k ≤ 8 → 1 ≤ n → n ≤ 8 → Calls Tryz.prog 50 #[.string t, .int .i64 ((a : Int) + (k : Int)), .int .i64 (n : Int)] X fun e w' => e = .returned (.int .i64 (cdI l k n)) ∧ w' = X) := fun k n X hk hn hn8 => by
    have := code_any t (a + k) n X ht (by omega) hn hn8
    rw [← cdI_drop _ _ _ _ hn, hl] at this; exact this
  rw [hl] at hg ⊢
  clear hl
  have B1 := hid (HBT.out 1 h1)
  have HPL := hid (fun X => rplain_any t[a + 1] toml X)
  rw [hp] at HPL
  have HE := hid (esc_u toml l (by rw [B1.out]; exact hu))
  have HC : Hid (∀ X, Calls Tryz.prog 50 #[.string t, .int .i64 ((a : Int) + 2), .int .i64 4] X fun e w' => e = .returned (.int .i64 (cdI l 2 4)) ∧ w' = X) := fun X => HCD.out 2 4 X (by omega) (by omega) (by omega)
  have HC2 : Hid (∀ X, Calls Tryz.prog 50 #[.string t, .int .i64 ((a : Int) + 8), .int .i64 4] X fun e w' => e = .returned (.int .i64 (cdI l 8 4)) ∧ w' = X) := fun X => HCD.out 8 4 X (by omega) (by omega) (by omega)
  have hv1 := cdI_ge l 2 4
  have hv2 := cdI_lt4 l 2
  have ho1 := cdI_ge l 8 4
  have ho2 := cdI_lt4 l 8
  have g85 : ((t[a + 1].toNat : Int) == 85) = false := by rw [beq_eq_false_iff_ne]; omega
  have g117 : ((t[a + 1].toNat : Int) != 117) = false := by rw [bne_eq_false_iff_eq]; omega
  have HGD := hid (fun X => rgood_any (cdI l 2 4) X)
  have hv0 : 0 ≤ cdI l 2 4 := by have := of_decide_eq_true hg; omega
  have HR := hid (HE.out.trans (show escU toml l 4 = (ltr (cdI l 2 4), 2 + 4) by unfold escU; rw [if_pos ⟨hv0, hg⟩]))
  rw [hg] at HGD
  clear hp HBT HBN HCD B1 hu HE hg HC2 ho1 ho2
  generalize cdI l 2 4 = v at *
  go_enter Tryz.func36, Tryz.ntmps36
  go_wp2_with (first
    | (go_at_call 49; go_must (refine (HPL.out _).mono ?_; rintro e w1 ⟨rfl, hb1⟩))
    | (go_at_call 50; go_must (refine (HC.out _).mono ?_; rintro e w2 ⟨rfl, hw2⟩; obtain rfl := hw2.symm))
    | (go_at_call 51; go_must (refine (HGD.out _).mono ?_; rintro e w3 ⟨rfl, hw3⟩; obtain rfl := hw3.symm))
    | (go_at_call 48; go_must (refine (rput_l _ _).mono ?_; rintro e w4 ⟨rfl, hb4⟩)))
  go_ret2
  exact ⟨ret_sn (by rw [HR.out]) (by rw [HR.out]; rfl), eonto hb1 hb4⟩
set_option maxRecDepth 100000 in
set_option maxHeartbeats 2000000 in
theorem resc_ub (t : ByteArray) (a : Nat) (toml : Bool) (w : World) (ht : t.size ≤ 1000000) (h1 : a + 1 < t.size) (hp : plnB toml t[a + 1].toNat = false) (hu : t[a + 1].toNat = 117) (hg : goodB (cdI (t.data.toList.drop a) 2 4) = false) (hn : toml = true ∨ cdI (t.data.toList.drop a) 2 4 < 0 ∨ 56320 ≤ cdI (t.data.toList.drop a) 2 4) :
    Calls Tryz.prog 36 #[.string t, .int .i64 (a : Int), .bool toml] w fun e w' => e = .returned (.tuple #[.string (mkS (escP toml (t.data.toList.drop a)).1), .int .i64 ((escP toml (t.data.toList.drop a)).2 : Nat)]) ∧ Below w.heap.size w w' := by
  have HZ := hid (size_list t)
  obtain ⟨l, hl⟩ : ∃ l, t.data.toList.drop a = l := ⟨_, rfl⟩
  have HBT : Hid (∀ k (h : a + k < t.size), bt l k = t[a + k].toNat) := fun k h => by rw [← hl, bt_drop]; exact bt_at t _ h
  have HBN : Hid (∀ k, t.size ≤ a + k → bt l k = 256) := fun k h => by rw [← hl, bt_drop]; exact bt_none (by rw [HZ.out]; exact h)
  have HCD : Hid (∀ (k n : Nat) (X : World), k ≤ 8 → 1 ≤ n → n ≤ 8 → Calls Tryz.prog 50 #[.string t, .int .i64 ((a : Int) + (k : Int)), .int .i64 (n : Int)] X fun e w' => e = .returned (.int .i64 (cdI l k n)) ∧ w' = X) := fun k n X hk hn hn8 => by
    have := code_any t (a + k) n X ht (by omega) hn hn8
    rw [← cdI_drop _ _ _ _ hn, hl] at this; exact this
  rw [hl] at hg hn ⊢
  clear hl
  have B1 := hid (HBT.out 1 h1)
  have HPL := hid (fun X => rplain_any t[a + 1] toml X)
  rw [hp] at HPL
  have HE := hid (esc_u toml l (by rw [B1.out]; exact hu))
  have HC : Hid (∀ X, Calls Tryz.prog 50 #[.string t, .int .i64 ((a : Int) + 2), .int .i64 4] X fun e w' => e = .returned (.int .i64 (cdI l 2 4)) ∧ w' = X) := fun X => HCD.out 2 4 X (by omega) (by omega) (by omega)
  have HC2 : Hid (∀ X, Calls Tryz.prog 50 #[.string t, .int .i64 ((a : Int) + 8), .int .i64 4] X fun e w' => e = .returned (.int .i64 (cdI l 8 4)) ∧ w' = X) := fun X => HCD.out 8 4 X (by omega) (by omega) (by omega)
  have hv1 := cdI_ge l 2 4
  have hv2 := cdI_lt4 l 2
  have ho1 := cdI_ge l 8 4
  have ho2 := cdI_lt4 l 8
  have g85 : ((t[a + 1].toNat : Int) == 85) = false := by rw [beq_eq_false_iff_ne]; omega
  have g117 : ((t[a + 1].toNat : Int) != 117) = false := by rw [bne_eq_false_iff_eq]; omega
  have HGD := hid (fun X => rgood_any (cdI l 2 4) X)
  have HR := hid (HE.out.trans (escU_end (by rw [hg]; simp) (by rintro ⟨q1, q2, q3, -⟩; rcases hn with h | h | h; rw [h] at q1; cases q1; omega; omega)))
  rw [hg] at HGD
  clear hp HBT HBN HCD B1 hu HE hg HC2 ho1 ho2
  generalize cdI l 2 4 = v at *
  by_cases hv0 : 0 ≤ v
  · by_cases hv5 : 56320 ≤ v
    · cases toml
      all_goals
        go_enter Tryz.func36, Tryz.ntmps36
        go_wp2_with (first
          | (go_at_call 49; go_must (refine (HPL.out _).mono ?_; rintro e w1 ⟨rfl, hb1⟩))
          | (go_at_call 50; go_must (refine (HC.out _).mono ?_; rintro e w2 ⟨rfl, hw2⟩; obtain rfl := hw2.symm))
          | (go_at_call 51; go_must (refine (HGD.out _).mono ?_; rintro e w3 ⟨rfl, hw3⟩; obtain rfl := hw3.symm))
          | (go_at_call 48; go_must (refine (rput_l _ _).mono ?_; rintro e w4 ⟨rfl, hb4⟩)))
        go_ret2
        exact ⟨ret_sn (by rw [HR.out]; rfl) (by rw [HR.out]; rfl), hb1⟩
    · obtain rfl : toml = true := by rcases hn with h | h | h; exact h; omega; omega
      go_enter Tryz.func36, Tryz.ntmps36
      go_wp2_with (first
        | (go_at_call 49; go_must (refine (HPL.out _).mono ?_; rintro e w1 ⟨rfl, hb1⟩))
        | (go_at_call 50; go_must (refine (HC.out _).mono ?_; rintro e w2 ⟨rfl, hw2⟩; obtain rfl := hw2.symm))
        | (go_at_call 51; go_must (refine (HGD.out _).mono ?_; rintro e w3 ⟨rfl, hw3⟩; obtain rfl := hw3.symm))
        | (go_at_call 48; go_must (refine (rput_l _ _).mono ?_; rintro e w4 ⟨rfl, hb4⟩)))
      go_ret2
      exact ⟨ret_sn (by rw [HR.out]; rfl) (by rw [HR.out]; rfl), hb1⟩
  · cases toml
    all_goals
      go_enter Tryz.func36, Tryz.ntmps36
      go_wp2_with (first
        | (go_at_call 49; go_must (refine (HPL.out _).mono ?_; rintro e w1 ⟨rfl, hb1⟩))
        | (go_at_call 50; go_must (refine (HC.out _).mono ?_; rintro e w2 ⟨rfl, hw2⟩; obtain rfl := hw2.symm))
        | (go_at_call 51; go_must (refine (HGD.out _).mono ?_; rintro e w3 ⟨rfl, hw3⟩; obtain rfl := hw3.symm))
        | (go_at_call 48; go_must (refine (rput_l _ _).mono ?_; rintro e w4 ⟨rfl, hb4⟩)))
      go_ret2
      exact ⟨ret_sn (by rw [HR.out]; rfl) (by rw [HR.out]; rfl), hb1⟩
set_option maxRecDepth 100000 in
set_option maxHeartbeats 2000000 in
theorem resc_up (t : ByteArray) (a : Nat) (w : World) (ht : t.size ≤ 1000000) (h1 : a + 1 < t.size) (hp : plnB false t[a + 1].toNat = false) (hu : t[a + 1].toNat = 117) (hg : goodB (cdI (t.data.toList.drop a) 2 4) = false) (hn1 : 55296 ≤ cdI (t.data.toList.drop a) 2 4) (hn2 : cdI (t.data.toList.drop a) 2 4 < 56320) :
    Calls Tryz.prog 36 #[.string t, .int .i64 (a : Int), .bool false] w fun e w' => e = .returned (.tuple #[.string (mkS (escP false (t.data.toList.drop a)).1), .int .i64 ((escP false (t.data.toList.drop a)).2 : Nat)]) ∧ Below w.heap.size w w' := by
  have HZ := hid (size_list t)
  obtain ⟨l, hl⟩ : ∃ l, t.data.toList.drop a = l := ⟨_, rfl⟩
  have HBT : Hid (∀ k (h : a + k < t.size), bt l k = t[a + k].toNat) := fun k h => by rw [← hl, bt_drop]; exact bt_at t _ h
  have HBN : Hid (∀ k, t.size ≤ a + k → bt l k = 256) := fun k h => by rw [← hl, bt_drop]; exact bt_none (by rw [HZ.out]; exact h)
  have HCD : Hid (∀ (k n : Nat) (X : World), k ≤ 8 → 1 ≤ n → n ≤ 8 → Calls Tryz.prog 50 #[.string t, .int .i64 ((a : Int) + (k : Int)), .int .i64 (n : Int)] X fun e w' => e = .returned (.int .i64 (cdI l k n)) ∧ w' = X) := fun k n X hk hn hn8 => by
    have := code_any t (a + k) n X ht (by omega) hn hn8
    rw [← cdI_drop _ _ _ _ hn, hl] at this; exact this
  rw [hl] at hg hn1 hn2 ⊢
  clear hl
  have B1 := hid (HBT.out 1 h1)
  have HPL := hid (fun X => rplain_any t[a + 1] false X)
  rw [hp] at HPL
  have HE := hid (esc_u false l (by rw [B1.out]; exact hu))
  have HC : Hid (∀ X, Calls Tryz.prog 50 #[.string t, .int .i64 ((a : Int) + 2), .int .i64 4] X fun e w' => e = .returned (.int .i64 (cdI l 2 4)) ∧ w' = X) := fun X => HCD.out 2 4 X (by omega) (by omega) (by omega)
  have HC2 : Hid (∀ X, Calls Tryz.prog 50 #[.string t, .int .i64 ((a : Int) + 8), .int .i64 4] X fun e w' => e = .returned (.int .i64 (cdI l 8 4)) ∧ w' = X) := fun X => HCD.out 8 4 X (by omega) (by omega) (by omega)
  have hv1 := cdI_ge l 2 4
  have hv2 := cdI_lt4 l 2
  have ho1 := cdI_ge l 8 4
  have ho2 := cdI_lt4 l 8
  have g85 : ((t[a + 1].toNat : Int) == 85) = false := by rw [beq_eq_false_iff_ne]; omega
  have g117 : ((t[a + 1].toNat : Int) != 117) = false := by rw [bne_eq_false_iff_eq]; omega
  have HGD := hid (fun X => rgood_any (cdI l 2 4) X)
  have HEND := hid (fun h => HE.out.trans (escU_end (toml := false) (l := l) (n := 4) (by rw [hg]; simp) h))
  have HPAIR := hid (fun h => HE.out.trans (escU_pair (l := l) (n := 4) hg h))
  rw [hg] at HGD
  have B6 := hid (fun h => HBT.out 6 h)
  have B7 := hid (fun h => HBT.out 7 h)
  have N7 := hid (HBN.out 7)
  clear hp HBT HBN HCD B1 hu HE hg
  by_cases h8 : a + 7 < t.size
  · have d8 : decide ((a : Int) + 8 ≤ (t.size : Int)) = true := decide_eq_true (by omega)
    have B6' := hid (B6.out (by omega))
    have B7' := hid (B7.out h8)
    by_cases h6 : t[a + 6].toNat = 92
    · have d6 : ((t[a + 6].toNat : Int) == 92) = true := by rw [beq_iff_eq]; omega
      by_cases h7 : t[a + 7].toNat = 117
      · have d7 : ((t[a + 7].toNat : Int) == 117) = true := by rw [beq_iff_eq]; omega
        by_cases ho : 56320 ≤ cdI l 8 4 ∧ cdI l 8 4 < 57344
        · have HR := hid (HPAIR.out ⟨hn1, hn2, by rw [B6'.out]; exact h6, by rw [B7'.out]; exact h7, ho⟩)
          obtain ⟨ho3, ho4⟩ := ho
          clear HEND HPAIR B6 B7 N7 B6' B7' h6 h7
          generalize cdI l 2 4 = v at *
          generalize cdI l 8 4 = o at *
          go_enter Tryz.func36, Tryz.ntmps36
          go_wp2_with (first
            | (go_at_call 49; go_must (refine (HPL.out _).mono ?_; rintro e w1 ⟨rfl, hb1⟩))
            | (go_at_call 50; go_must (first | ((with_reducible refine (HC2.out _).mono ?_); rintro e w2 ⟨rfl, hw2⟩; obtain rfl := hw2.symm) | ((with_reducible refine (HC.out _).mono ?_); rintro e w2 ⟨rfl, hw2⟩; obtain rfl := hw2.symm)))
            | (go_at_call 51; go_must (refine (HGD.out _).mono ?_; rintro e w3 ⟨rfl, hw3⟩; obtain rfl := hw3.symm))
            | (go_at_call 48; go_must (refine (rput_l _ _).mono ?_; rintro e w4 ⟨rfl, hb4⟩)))
          go_ret2
          exact ⟨ret_sn (by rw [HR.out]) (by rw [HR.out]; rfl), eonto hb1 hb4⟩
        · have HR := hid (HEND.out (by rintro ⟨-, -, -, -, -, q⟩; exact ho q))
          have ho' : cdI l 8 4 < 56320 ∨ 57344 ≤ cdI l 8 4 := by omega
          clear HEND HPAIR B6 B7 N7 B6' B7' h6 h7 ho
          generalize cdI l 2 4 = v at *
          generalize cdI l 8 4 = o at *
          rcases ho' with ho | ho
          all_goals
            go_enter Tryz.func36, Tryz.ntmps36
            go_wp2_with (first
              | (go_at_call 49; go_must (refine (HPL.out _).mono ?_; rintro e w1 ⟨rfl, hb1⟩))
              | (go_at_call 50; go_must (first | ((with_reducible refine (HC2.out _).mono ?_); rintro e w2 ⟨rfl, hw2⟩; obtain rfl := hw2.symm) | ((with_reducible refine (HC.out _).mono ?_); rintro e w2 ⟨rfl, hw2⟩; obtain rfl := hw2.symm)))
              | (go_at_call 51; go_must (refine (HGD.out _).mono ?_; rintro e w3 ⟨rfl, hw3⟩; obtain rfl := hw3.symm))
              | (go_at_call 48; go_must (refine (rput_l _ _).mono ?_; rintro e w4 ⟨rfl, hb4⟩)))
            go_ret2
            exact ⟨ret_sn (by rw [HR.out]; rfl) (by rw [HR.out]; rfl), hb1⟩
      · have HR := hid (HEND.out (by rintro ⟨-, -, -, -, q, -⟩; rw [B7'.out] at q; exact h7 q))
        have d7 : ((t[a + 7].toNat : Int) == 117) = false := by rw [beq_eq_false_iff_ne]; omega
        clear HEND HPAIR B6 B7 N7 B6' B7' h6 h7 HC2
        generalize cdI l 2 4 = v at *
        go_enter Tryz.func36, Tryz.ntmps36
        go_wp2_with (first
          | (go_at_call 49; go_must (refine (HPL.out _).mono ?_; rintro e w1 ⟨rfl, hb1⟩))
          | (go_at_call 50; go_must (refine (HC.out _).mono ?_; rintro e w2 ⟨rfl, hw2⟩; obtain rfl := hw2.symm))
          | (go_at_call 51; go_must (refine (HGD.out _).mono ?_; rintro e w3 ⟨rfl, hw3⟩; obtain rfl := hw3.symm))
          | (go_at_call 48; go_must (refine (rput_l _ _).mono ?_; rintro e w4 ⟨rfl, hb4⟩)))
        go_ret2
        exact ⟨ret_sn (by rw [HR.out]; rfl) (by rw [HR.out]; rfl), hb1⟩
    · have HR := hid (HEND.out (by rintro ⟨-, -, -, q, -⟩; rw [B6'.out] at q; exact h6 q))
      have d6 : ((t[a + 6].toNat : Int) == 92) = false := by rw [beq_eq_false_iff_ne]; omega
      clear HEND HPAIR B6 B7 N7 B6' B7' h6 HC2
      generalize cdI l 2 4 = v at *
      go_enter Tryz.func36, Tryz.ntmps36
      go_wp2_with (first
        | (go_at_call 49; go_must (refine (HPL.out _).mono ?_; rintro e w1 ⟨rfl, hb1⟩))
        | (go_at_call 50; go_must (refine (HC.out _).mono ?_; rintro e w2 ⟨rfl, hw2⟩; obtain rfl := hw2.symm))
        | (go_at_call 51; go_must (refine (HGD.out _).mono ?_; rintro e w3 ⟨rfl, hw3⟩; obtain rfl := hw3.symm))
        | (go_at_call 48; go_must (refine (rput_l _ _).mono ?_; rintro e w4 ⟨rfl, hb4⟩)))
      go_ret2
      exact ⟨ret_sn (by rw [HR.out]; rfl) (by rw [HR.out]; rfl), hb1⟩
  · have d8 : decide ((a : Int) + 8 ≤ (t.size : Int)) = false := decide_eq_false (by omega)
    have HR := hid (HEND.out (by rintro ⟨-, -, -, -, q, -⟩; rw [N7.out (by omega)] at q; omega))
    clear HEND HPAIR B6 B7 N7 HC2
    generalize cdI l 2 4 = v at *
    go_enter Tryz.func36, Tryz.ntmps36
    go_wp2_with (first
      | (go_at_call 49; go_must (refine (HPL.out _).mono ?_; rintro e w1 ⟨rfl, hb1⟩))
      | (go_at_call 50; go_must (refine (HC.out _).mono ?_; rintro e w2 ⟨rfl, hw2⟩; obtain rfl := hw2.symm))
      | (go_at_call 51; go_must (refine (HGD.out _).mono ?_; rintro e w3 ⟨rfl, hw3⟩; obtain rfl := hw3.symm))
      | (go_at_call 48; go_must (refine (rput_l _ _).mono ?_; rintro e w4 ⟨rfl, hb4⟩)))
    go_ret2
    exact ⟨ret_sn (by rw [HR.out]; rfl) (by rw [HR.out]; rfl), hb1⟩
/-- escape, whatever stands there -/
theorem rescape_any (t : ByteArray) (a : Nat) (toml : Bool) (w : World) (ht : t.size ≤ 1000000) (ha : a < t.size) :
    Calls Tryz.prog 36 #[.string t, .int .i64 (a : Int), .bool toml] w fun e w' => e = .returned (.tuple #[.string (mkS (escP toml (t.data.toList.drop a)).1), .int .i64 ((escP toml (t.data.toList.drop a)).2 : Nat)]) ∧ Below w.heap.size w w' := by
  by_cases h1 : a + 1 < t.size
  · cases hp : plnB toml t[a + 1].toNat with
    | true => exact resc_named t a toml w ht h1 hp
    | false =>
      by_cases hU : t[a + 1].toNat = 85 ∧ toml = true
      · obtain ⟨hU1, rfl⟩ := hU
        exact resc_U t a w ht h1 hp hU1
      · by_cases hu : t[a + 1].toNat = 117
        · cases hg : goodB (cdI (t.data.toList.drop a) 2 4) with
          | true => exact resc_ug t a toml w ht h1 hp hu hg
          | false =>
            by_cases hn : toml = true ∨ cdI (t.data.toList.drop a) 2 4 < 0 ∨ 56320 ≤ cdI (t.data.toList.drop a) 2 4
            · exact resc_ub t a toml w ht h1 hp hu hg hn
            · obtain rfl : toml = false := by
                cases toml with
                | false => rfl
                | true => exact absurd (Or.inl rfl) hn
              have hgg := of_decide_eq_false hg
              have hv2 := cdI_lt4 (t.data.toList.drop a) 2
              exact resc_up t a w ht h1 hp hu hg (by omega) (by omega)
        · exact resc_other t a toml w ht h1 hp hU hu
  · exact resc_short t a toml w ht ha (by omega)
end Go.Proofs.YtoamndiblckdlaaGreatDoor
