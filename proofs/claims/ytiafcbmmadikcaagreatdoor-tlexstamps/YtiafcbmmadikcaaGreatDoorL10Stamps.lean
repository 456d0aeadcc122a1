/- The statement TlexStamps: walked. -/
import Derived.Test.YtiafcbmmadikcaaGreatDoorL10A
import Derived.Test.YtiafcbmmadikcaaGreatDoorMathSx
namespace Go.Proofs.YtiafcbmmadikcaaGreatDoor
open Go.RowKit

/-- a number's two digits -/
def tw1 (n : Nat) : UInt8 := UInt8.ofNat (48 + n / 10 % 10)
def tw0 (n : Nat) : UInt8 := UInt8.ofNat (48 + n % 10)
theorem tw1_nat (n : Nat) : (tw1 n).toNat = 48 + n / 10 % 10 := by unfold tw1; simp; omega
theorem tw0_nat (n : Nat) : (tw0 n).toNat = 48 + n % 10 := by unfold tw0; simp; omega
theorem tw1_dg (n : Nat) : dgI (tw1 n) = true := by unfold dgI; rw [tw1_nat]; simp; omega
theorem tw0_dg (n : Nat) : dgI (tw0 n) = true := by unfold dgI; rw [tw0_nat]; simp; omega
theorem tw_D2 (n : Nat) : D2 (tw1 n) (tw0 n) = n / 10 % 10 * 10 + n % 10 := by unfold D2; rw [tw1_nat, tw0_nat]; omega
theorem tw_sm {n : Nat} (h : n ≤ 99) : D2 (tw1 n) (tw0 n) = n := by rw [tw_D2]; omega
set_option maxRecDepth 100000 in
set_option maxHeartbeats 1000000 in
theorem law_two (n : Nat) (w : World) (hn : n ≤ 9999) :
    Calls Tryz.prog 14 #[.int .i64 (n : Int)] w fun e w' => e = .returned (.string (mkS [tw1 n, tw0 n])) ∧ Below w.heap.size w w' := by
  obtain ⟨q, hq⟩ : ∃ q : Nat, n / 10 % 10 = q := ⟨_, rfl⟩
  obtain ⟨r, hr⟩ : ∃ r : Nat, n % 10 = r := ⟨_, rfl⟩
  have hq9 : q ≤ 9 := by omega
  have hr9 : r ≤ 9 := by omega
  have e1 : Int.tmod ((n : Int) / 10) 10 = (q : Int) := by
    rw [← hq]; rw [Int.tmod_eq_emod_of_nonneg (by omega)]; omega
  have e2 : Int.tmod (n : Int) 10 = (r : Int) := by
    rw [← hr]; rw [Int.tmod_eq_emod_of_nonneg (by omega)]; omega
  have hb1 : (tw1 n).toNat = 48 + q := by rw [tw1_nat, hq]
  have hb0 : (tw0 n).toNat = 48 + r := by rw [tw0_nat, hr]
  have hcv : (convert 70 9 (.slice (some ⟨w.heap.size, 0, none⟩) 2 2)).run Tryz.prog (w.alloc (.cells #[.int .u8 (48 + (q : Int)), .int .u8 (48 + (r : Int))] 5)) = .ok (.string (mkS [tw1 n, tw0 n])) (w.alloc (.cells #[.int .u8 (48 + (q : Int)), .int .u8 (48 + (r : Int))] 5)) := by
    refine run_convert_bytes_back (P := Tryz.prog) (w.alloc (.cells #[.int .u8 (48 + (q : Int)), .int .u8 (48 + (r : Int))] 5)) 70 9 5 ⟨w.heap.size, 0, none⟩ 2 [tw1 n, tw0 n] Tryz.underlying70 Tryz.underlying5 Tryz.underlying9 (fun j hj => ?_)
    have hk := new_cells w [.int .u8 (48 + (q : Int)), .int .u8 (48 + (r : Int))] 5 j
    have hj2 : j = 0 ∨ j = 1 := by simp at hj; omega
    rcases hj2 with rfl | rfl
    · rw [hk _ rfl]; simp [hb1]
    · rw [hk _ rfl]; simp [hb0]
  have HB1 := hid hb1
  clear hb1 hb0
  go_enter Tryz.func14, Tryz.ntmps14
  go_wp2_with fail
  go_ret
  exact ⟨rfl, (Below.refl _ _).alloc (Nat.le_refl _) _⟩
/-- a month's last day, as the statement lists it -/
def lastD (M : Nat) : Nat := [0, 31, 28, 31, 30, 31, 30, 31, 31, 30, 31, 30, 31, 0].getD M 0
def lastL (Y M : Nat) : Nat := if M = 2 ∧ ((Y % 4 = 0 ∧ Y % 100 ≠ 0) ∨ Y % 400 = 0) then 29 else lastD M
def avB (Y M D : Nat) : Bool := decide (1 ≤ D) && decide (D ≤ lastL Y M)
def bvB (H N S : Nat) : Bool := decide (H < 24) && (decide (N < 60) && decide (S < 61))
theorem last_dim (Y M : Nat) (hM : M ≤ 13) : lastL Y M = if 1 ≤ M ∧ M ≤ 12 then dim Y M else 0 := by
  unfold lastL dim lastD
  have h : M = 0 ∨ M = 1 ∨ M = 2 ∨ M = 3 ∨ M = 4 ∨ M = 5 ∨ M = 6 ∨ M = 7 ∨ M = 8 ∨ M = 9 ∨ M = 10 ∨ M = 11 ∨ M = 12 ∨ M = 13 := by omega
  rcases h with rfl | rfl | rfl | rfl | rfl | rfl | rfl | rfl | rfl | rfl | rfl | rfl | rfl | rfl <;> simp
theorem av_is {Y M D : Nat} (hY : Y ≤ 9999) (hM : M ≤ 13) (hD : D ≤ 32) : decide (1 ≤ D2 (tw1 M) (tw0 M) ∧ D2 (tw1 M) (tw0 M) ≤ 12 ∧ 1 ≤ D2 (tw1 D) (tw0 D) ∧ D2 (tw1 D) (tw0 D) ≤ dim (D2 (tw1 (Y / 100)) (tw0 (Y / 100)) * 100 + D2 (tw1 Y) (tw0 Y)) (D2 (tw1 M) (tw0 M))) = avB Y M D := by
  rw [tw_sm (n := M) (by omega), tw_sm (n := D) (by omega), tw_sm (n := Y / 100) (by omega), tw_D2 Y]
  have e : Y / 100 * 100 + (Y / 10 % 10 * 10 + Y % 10) = Y := by omega
  rw [e]
  unfold avB
  rw [last_dim Y M hM, ← Bool.decide_and]
  refine decide_eq_decide.2 ?_
  by_cases h : 1 ≤ M ∧ M ≤ 12
  · rw [if_pos h]; omega
  · rw [if_neg h]; omega
theorem app_list (a b : ByteArray) : (a ++ b).data.toList = a.data.toList ++ b.data.toList := by simp
def dayN (Y M D : Nat) : List UInt8 := [tw1 (Y / 100), tw0 (Y / 100), tw1 Y, tw0 Y, 45, tw1 M, tw0 M, 45, tw1 D, tw0 D]
def clkN (H N S : Nat) : List UInt8 := [tw1 H, tw0 H, 58, tw1 N, tw0 N, 58, tw1 S, tw0 S]
theorem day_list (Y M D : Nat) : (mkS [tw1 (Y / 100), tw0 (Y / 100)] ++ mkS [tw1 Y, tw0 Y] ++ ⟨#[45]⟩ ++ mkS [tw1 M, tw0 M] ++ ⟨#[45]⟩ ++ mkS [tw1 D, tw0 D]).data.toList = dayN Y M D := by
  simp only [app_list, mkS_list]; rfl
theorem clk_list (H N S : Nat) : (mkS [tw1 H, tw0 H] ++ ⟨#[58]⟩ ++ mkS [tw1 N, tw0 N] ++ ⟨#[58]⟩ ++ mkS [tw1 S, tw0 S]).data.toList = clkN H N S := by
  simp only [app_list, mkS_list]; rfl
theorem sx1 {Y M D : Nat} (hY : Y ≤ 9999) (hM : M ≤ 13) (hD : D ≤ 32) : stB (dayN Y M D) = avB Y M D := by
  unfold dayN
  rw [st_day (tw1_dg _) (tw0_dg _) (tw1_dg _) (tw0_dg _) (tw1_dg _) (tw0_dg _) (tw1_dg _) (tw0_dg _), av_is hY hM hD]
theorem bv_is {H N S : Nat} (hH : H ≤ 99) (hN : N ≤ 99) (hS : S ≤ 99) : (decide (D2 (tw1 H) (tw0 H) < 24) && (decide (D2 (tw1 N) (tw0 N) < 60) && decide (D2 (tw1 S) (tw0 S) < 61))) = bvB H N S := by
  rw [tw_sm hH, tw_sm hN, tw_sm hS]; rfl
theorem sx2 {H N S : Nat} (hH : H ≤ 99) (hN : N ≤ 99) (hS : S ≤ 99) : stB (clkN H N S) = bvB H N S := by
  unfold clkN
  rw [st_clock (tw1_dg _) (tw0_dg _) (tw1_dg _) (tw0_dg _) (tw1_dg _) (tw0_dg _), bv_is hH hN hS]
theorem sx3 {Y M D H N S : Nat} (hY : Y ≤ 9999) (hM : M ≤ 13) (hD : D ≤ 32) (hH : H ≤ 99) (hN : N ≤ 99) (hS : S ≤ 99) : stB (dayN Y M D ++ [84] ++ clkN H N S ++ [90]) = (avB Y M D && bvB H N S) := by
  unfold dayN clkN
  show stB (tw1 (Y / 100) :: tw0 (Y / 100) :: tw1 Y :: tw0 Y :: 45 :: tw1 M :: tw0 M :: 45 :: tw1 D :: tw0 D :: 84 :: [tw1 H, tw0 H, 58, tw1 N, tw0 N, 58, tw1 S, tw0 S, 90]) = _
  rw [st_behind (tw1_dg _) (tw0_dg _) (tw1_dg _) (tw0_dg _) (tw1_dg _) (tw0_dg _) (tw1_dg _) (tw0_dg _) (Or.inl rfl), av_is hY hM hD, zn_z, tm_plain (six (tw1_dg _) (tw0_dg _) (tw1_dg _) (tw0_dg _) (tw1_dg _) (tw0_dg _)), ck3 (tw1_dg _) (tw0_dg _) (tw1_dg _) (tw0_dg _) (tw1_dg _) (tw0_dg _), bv_is hH hN hS]
theorem sx4 {H N S : Nat} (hH : H ≤ 99) (hN : N ≤ 99) (hS : S ≤ 99) : stB (clkN H N S ++ [46, 53]) = bvB H N S := by
  unfold clkN
  show stB [tw1 H, tw0 H, 58, tw1 N, tw0 N, 58, tw1 S, tw0 S, 46, 53] = _
  rw [st_frac (tw1_dg _) (tw0_dg _) (tw1_dg _) (tw0_dg _) (tw1_dg _) (tw0_dg _), bv_is hH hN hS]
theorem sx5 {Y M D H N S O : Nat} (hY : Y ≤ 9999) (hM : M ≤ 13) (hD : D ≤ 32) (hH : H ≤ 99) (hN : N ≤ 99) (hS : S ≤ 99) (hO : O ≤ 99) : stB (dayN Y M D ++ [32] ++ clkN H N S ++ [43] ++ [tw1 O, tw0 O] ++ [58, 51, 48]) = (avB Y M D && (bvB H N S && decide (O < 24))) := by
  unfold dayN clkN
  show stB (tw1 (Y / 100) :: tw0 (Y / 100) :: tw1 Y :: tw0 Y :: 45 :: tw1 M :: tw0 M :: 45 :: tw1 D :: tw0 D :: 32 :: [tw1 H, tw0 H, 58, tw1 N, tw0 N, 58, tw1 S, tw0 S, 43, tw1 O, tw0 O, 58, 51, 48]) = _
  rw [st_behind (tw1_dg _) (tw0_dg _) (tw1_dg _) (tw0_dg _) (tw1_dg _) (tw0_dg _) (tw1_dg _) (tw0_dg _) (Or.inr (Or.inr rfl)), av_is hY hM hD, tm_off (tw1_dg _) (tw0_dg _) (tw1_dg _) (tw0_dg _) (tw1_dg _) (tw0_dg _) (tw1_dg _) (tw0_dg _), bv_is hH hN hS, tw_sm hO]
theorem sx6 {Y M D H N S : Nat} (hY : Y ≤ 9999) (hM : M ≤ 13) (hD : D ≤ 32) (hH : H ≤ 99) (hN : N ≤ 99) (hS : S ≤ 99) : stB (dayN Y M D ++ [32] ++ clkN H N S) = (avB Y M D && bvB H N S) := by
  unfold dayN clkN
  show stB (tw1 (Y / 100) :: tw0 (Y / 100) :: tw1 Y :: tw0 Y :: 45 :: tw1 M :: tw0 M :: 45 :: tw1 D :: tw0 D :: 32 :: [tw1 H, tw0 H, 58, tw1 N, tw0 N, 58, tw1 S, tw0 S]) = _
  rw [st_behind (tw1_dg _) (tw0_dg _) (tw1_dg _) (tw0_dg _) (tw1_dg _) (tw0_dg _) (tw1_dg _) (tw0_dg _) (Or.inr (Or.inr rfl)), av_is hY hM hD, zn_no (tw0_dg _), tm_plain (six (tw1_dg _) (tw0_dg _) (tw1_dg _) (tw0_dg _) (tw1_dg _) (tw0_dg _)), ck3 (tw1_dg _) (tw0_dg _) (tw1_dg _) (tw0_dg _) (tw1_dg _) (tw0_dg _), bv_is hH hN hS]
/-- what is read of a day and a time with a remark behind -/
theorem sx7 {Y M D H N S : Nat} (hY : Y ≤ 9999) (hM : M ≤ 13) (hD : D ≤ 32) (hH : H ≤ 99) (hN : N ≤ 99) (hS : S ≤ 99) (ha : avB Y M D = true) (hb : bvB H N S = true) : plT (dayN Y M D ++ [32] ++ clkN H N S ++ [32, 35, 32, 120]) 0 = ⟨leafT 7 0 (mkS (dayN Y M D ++ [32] ++ clkN H N S)), 19, 0, 0⟩ := by
  have h6 := sx6 hY hM hD hH hN hS
  rw [ha, hb] at h6
  have hday : dayB (dayN Y M D) = true := by
    have := sx1 hY hM hD
    unfold dayN at this ⊢
    unfold stB at this
    rw [tm_long (tw1_dg _) (tw0_dg _) (tw1_dg _), ha] at this
    simpa using this
  have hr1 : run rowC (dayN Y M D ++ [32] ++ clkN H N S ++ [32, 35, 32, 120]) = 10 := by
    unfold dayN
    simp only [List.cons_append, List.nil_append]
    rw [run_cpos (dgRow (tw1_dg _)), run_cpos (dgRow (tw0_dg _)), run_cpos (dgRow (tw1_dg _)), run_cpos (dgRow (tw0_dg _)), run_cpos (by decide), run_cpos (dgRow (tw1_dg _)), run_cpos (dgRow (tw0_dg _)), run_cpos (by decide), run_cpos (dgRow (tw1_dg _)), run_cpos (dgRow (tw0_dg _)), run_cneg (by decide)]
  have hr2 : run rowC ((dayN Y M D ++ [32] ++ clkN H N S ++ [32, 35, 32, 120]).drop 11) = 8 := by
    have e : (dayN Y M D ++ [32] ++ clkN H N S ++ [32, 35, 32, 120]).drop 11 = clkN H N S ++ [32, 35, 32, 120] := rfl
    rw [e]; unfold clkN
    simp only [List.cons_append, List.nil_append]
    rw [run_cpos (dgRow (tw1_dg _)), run_cpos (dgRow (tw0_dg _)), run_cpos (by decide), run_cpos (dgRow (tw1_dg _)), run_cpos (dgRow (tw0_dg _)), run_cpos (by decide), run_cpos (dgRow (tw1_dg _)), run_cpos (dgRow (tw0_dg _)), run_cneg (by decide)]
  have hT : ∀ T : List UInt8, T = dayN Y M D ++ [32] ++ clkN H N S ++ [32, 35, 32, 120] → run rowC T = 10 → run rowC (T.drop 11) = 8 → plT T 0 = ⟨leafT 7 0 (mkS (dayN Y M D ++ [32] ++ clkN H N S)), 19, 0, 0⟩ := by
    intro T e k1 k2
    have hE : plE T 0 = 10 := by unfold plE; rw [List.drop_zero, k1]
    have hW : plW T 0 = dayN Y M D := by unfold plW slc; rw [hE, e]; rfl
    have hse : seE T 10 = 19 := by unfold seE; rw [k2]
    have hs1 : slc T 0 10 = dayN Y M D := by rw [← hE]; exact hW
    have hs2 : slc T 0 19 = dayN Y M D ++ [32] ++ clkN H N S := by unfold slc; rw [e]; rfl
    have hb10 : bt T 10 = 32 := by rw [e]; rfl
    have hB : seB T 0 10 = true := by unfold seB; rw [hs1, hday, hse, hs2, h6, hb10]; rfl
    have hS : seT T 0 10 = (19, true) := by unfold seT; rw [if_pos hB, hse]
    have h48 := dg_get (tw1_dg (Y / 100))
    have hq : ¬ (bt T 0 = 34 ∨ bt T 0 = 39) := by rw [e]; show ¬ ((tw1 (Y / 100)).toNat = 34 ∨ (tw1 (Y / 100)).toNat = 39); omega
    have hl1 : (dayN Y M D).length = 10 := rfl
    have hp0 : plc T 0 = 0 := plc_nat T 0 (Nat.zero_le _)
    unfold plT
    rw [hp0, if_neg (by simp)]
    show plN T 0 = _
    unfold plN
    rw [if_neg hq]
    unfold plQ
    rw [hW, hE, hS, if_neg (by intro k; have := congrArg List.length k; simp [hl1] at this), if_neg (by intro k; have := congrArg List.length k; simp [hl1] at this), if_pos rfl]
    simp only
    rw [hs2]
    have hst : stampB (mkS (dayN Y M D ++ [32] ++ clkN H N S)) = true := by
      have hall : ∀ x ∈ dayN Y M D ++ [32] ++ clkN H N S, 32 ≤ x.toNat ∧ x.toNat ≤ 126 := by
        have dd : ∀ x, dgI x = true → 32 ≤ x.toNat ∧ x.toNat ≤ 126 := fun x hx => by have := dg_get hx; omega
        intro x hx
        unfold dayN clkN at hx
        simp only [List.cons_append, List.nil_append, List.mem_cons, List.not_mem_nil, or_false] at hx
        rcases hx with rfl | rfl | rfl | rfl | rfl | rfl | rfl | rfl | rfl | rfl | rfl | rfl | rfl | rfl | rfl | rfl | rfl | rfl | rfl
        all_goals first | exact dd _ (tw1_dg _) | exact dd _ (tw0_dg _) | decide
      unfold stampB
      rw [mkS_size, mkS_list]
      have hlen : (dayN Y M D ++ [32] ++ clkN H N S).length = 19 := rfl
      rw [hlen]
      simp only [Bool.and_eq_true, decide_eq_true_eq, List.all_eq_true]
      exact ⟨⟨by omega, by omega⟩, fun x hx => hall x hx⟩
    unfold stampR
    rw [if_pos hst]; rfl
  exact hT _ rfl hr1 hr2
theorem list_last (M : Nat) (h : M ≤ 13) : ([.int .i64 0, .int .i64 31, .int .i64 28, .int .i64 31, .int .i64 30, .int .i64 31, .int .i64 30, .int .i64 31, .int .i64 31, .int .i64 30, .int .i64 31, .int .i64 30, .int .i64 31, .int .i64 0] : List Value)[M]? = some (.int .i64 (lastD M : Nat)) := by
  have h : M = 0 ∨ M = 1 ∨ M = 2 ∨ M = 3 ∨ M = 4 ∨ M = 5 ∨ M = 6 ∨ M = 7 ∨ M = 8 ∨ M = 9 ∨ M = 10 ∨ M = 11 ∨ M = 12 ∨ M = 13 := by omega
  rcases h with rfl | rfl | rfl | rfl | rfl | rfl | rfl | rfl | rfl | rfl | rfl | rfl | rfl | rfl <;> rfl
theorem lastD_le (M : Nat) (h : M ≤ 13) : lastD M ≤ 31 := by
  have h : M = 0 ∨ M = 1 ∨ M = 2 ∨ M = 3 ∨ M = 4 ∨ M = 5 ∨ M = 6 ∨ M = 7 ∨ M = 8 ∨ M = 9 ∨ M = 10 ∨ M = 11 ∨ M = 12 ∨ M = 13 := by omega
  rcases h with rfl | rfl | rfl | rfl | rfl | rfl | rfl | rfl | rfl | rfl | rfl | rfl | rfl | rfl <;> decide
end Go.Proofs.YtiafcbmmadikcaaGreatDoor
