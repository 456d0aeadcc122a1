/- The document's own writing of whole numbers, walked: Text. -/
import Derived.Test.YteimbjamnfkapaaGreatDoorGRefOne
import Derived.Test.YteimbjamnfkapaaGreatDoorGRefDec
import Derived.Deep.RegionWith
namespace Go.Proofs.YteimbjamnfkapaaGreatDoor
open Go.RowKit
theorem conv_at (w : World) (g : Nat) (x : Int) (hc : w.cell? ⟨g, 0, none⟩ = some (.int .u8 x)) :
  (convert 116 9 (.slice (some ⟨g, 0, none⟩) 1 1)).run Tryz.prog w = .ok (.string (strOfNums [x])) w := by
 refine run_convert_bytes_arg _ 116 5 Tryz.underlying116 Tryz.underlying5 _ 0 1 1 [x] rfl (fun i hi => ?_) 9 Tryz.underlying9
 obtain rfl : i = 0 := by omega
 rw [hc]; rfl
theorem natD_small (n : Nat) (h : n < 10) : natD n = [UInt8.ofNat (48 + n)] := by rw [natD, if_pos h]
theorem natD_big (n : Nat) (h : ¬ n < 10) : natD n = natD (n / 10) ++ [UInt8.ofNat (48 + n % 10)] := by rw [natD, if_neg h]
theorem natD_len : ∀ (k n : Nat), n < 10 ^ (k + 1) → (natD n).length ≤ k + 1
 | 0, n, h => by rw [natD_small n (by omega)]; simp
 | k + 1, n, h => by
  by_cases hn : n < 10
  ·rw [natD_small n hn]; simp
  ·rw [natD_big n hn, List.length_append]
   have := natD_len k (n / 10) (by rw [Nat.pow_succ] at h; omega)
   simp; omega
theorem ofNat_int (n : Int) (h : 0 ≤ n) : UInt8.ofNat (48 + n.toNat) = UInt8.ofNat (48 + n).toNat := by congr 1; omega
theorem nums_int (x : Int) : strOfNums [x] = mkS [UInt8.ofNat x.toNat] := by
 apply mkS_of; simp [strOfNums]
set_option maxRecDepth 100000 in
set_option maxHeartbeats 1000000 in
theorem text_pos : ∀ (k : Nat) (n : Int), 0 ≤ n → n < 10 ^ (k + 1) → n < 9223372036854775808 → ∀ (w : World),
  Calls Tryz.prog 25 #[.int .i64 n] w fun e w' => e = .returned (.string (mkS (natD n.toNat))) ∧ Below w.heap.size w w' := by
 intro k
 induction k with
 | zero =>
  intro n h0 h10 _ w
  have h1 : n < 10 := by omega
  have h2 : ¬ n < 0 := by omega
  have ho : (48 + n) % 256 = 48 + n := by omega
  have hcv := conv_new w [48 + n] 1 rfl
  simp only [List.map] at hcv
  rw [nums_int, ← ofNat_int n h0, ← natD_small n.toNat (by omega)] at hcv
  clear h10
  go_enter Tryz.func25, Tryz.ntmps25
  go_wp2_with fail
  go_ret
  exact ⟨rfl, (Below.refl _ _).alloc (Nat.le_refl _) _⟩
 | succ k ih =>
  intro n h0 hk hm w
  have h2 : ¬ n < 0 := by omega
  by_cases h1 : n < 10
  ·have ho : (48 + n) % 256 = 48 + n := by omega
   have hcv := conv_new w [48 + n] 1 rfl
   simp only [List.map] at hcv
   rw [nums_int, ← ofNat_int n h0, ← natD_small n.toNat (by omega)] at hcv
   clear hk ih
   go_enter Tryz.func25, Tryz.ntmps25
   go_wp2_with fail
   go_ret
   exact ⟨rfl, (Below.refl _ _).alloc (Nat.le_refl _) _⟩
  ·have ho : (48 + n % 10) % 256 = 48 + n % 10 := by omega
   have hq0 : 0 ≤ n / 10 := by omega
   have IH := hid (ih (n / 10) hq0 (by rw [Int.pow_succ] at hk; omega) (by omega))
   clear ih hk
   have hl1 : (natD (n / 10).toNat).length ≤ 19 := natD_len 18 _ (by omega)
   have hs1 : (mkS (natD (n / 10).toNat)).size ≤ 19 := by rw [mkS_size]; exact hl1
   have hs2 : (mkS [UInt8.ofNat (48 + n % 10).toNat]).size = 1 := mkS_size _
   have HA := hid (show mkS (natD (n / 10).toNat) ++ mkS [UInt8.ofNat (48 + n % 10).toNat] = mkS (natD n.toNat) by
    rw [mkS_add, natD_big n.toNat (by omega), show (n / 10).toNat = n.toNat / 10 by omega, show (48 + n % 10).toNat = 48 + n.toNat % 10 by omega])
   have hcv0 := conv_at (w.alloc (.cells #[.int .u8 (48 + n % 10)] 5)).drew w.heap.size (48 + n % 10) (new_cells w [.int .u8 (48 + n % 10)] 5 0 _ rfl)
   rw [nums_int] at hcv0
   have hwq : IntKind.i64.wrap (n.tdiv 10) = n / 10 := by rw [Int.tdiv_eq_ediv_of_nonneg h0, wraps_i64 _ hq0 (by omega)]
   have hwr : n.tmod 10 = n % 10 := Int.tmod_eq_emod_of_nonneg h0
   have hwu : IntKind.u8.wrap (48 + n % 10) = 48 + n % 10 := by rw [IntKind.wrap_u8]; omega
   have hwa : IntKind.i64.wrap (48 + n % 10) = 48 + n % 10 := wraps_i64 _ (by omega) (by omega)
   clear hl1
   go_enter Tryz.func25, Tryz.ntmps25
   go_wp2_with fail
   go_region_with (go_at_call 25; go_must (refine (IH.out _).mono ?_; rintro e w1 ⟨rfl, hb1⟩; have hcv1 := conv_new w1 [48 + n % 10] 1 rfl; simp only [List.map, nums_int] at hcv1; try (have hcv2 := conv_at w1 w.heap.size (48 + n % 10) ((hb1.cell (p := ⟨w.heap.size, 0, none⟩) (by simp)).trans (new_cells w.drew [.int .u8 (48 + n % 10)] 5 0 _ rfl)); rw [nums_int] at hcv2)))
   all_goals
    go_wp2_with fail
    go_ret
    refine ⟨by rw [← HA.out]; rfl, ?_⟩
    first
     | exact ((Below.refl _ _).drew.trans hb1).alloc hb1.size _
     | exact (((Below.refl _ _).alloc (Nat.le_refl _) _).drew).trans (hb1.mono (by simp))
theorem natD_top : mkS (45 :: natD 9223372036854775808) = ⟨#[45, 57, 50, 50, 51, 51, 55, 50, 48, 51, 54, 56, 53, 52, 55, 55, 53, 56, 48, 56]⟩ := by
 decide +kernel
theorem natD_txt (n : Int) (h : n < 0) : (⟨#[45]⟩ : ByteArray) ++ mkS (natD (-n).toNat) = mkS (txt n) := by
 unfold txt; rw [if_pos h, show (⟨#[45]⟩ : ByteArray) = mkS [45] by rfl, mkS_add]; rfl
set_option maxRecDepth 100000 in
set_option maxHeartbeats 1000000 in
theorem text_any (n : Int) (w : World) (h1 : -9223372036854775808 ≤ n) (h2 : n < 9223372036854775808) :
  Calls Tryz.prog 25 #[.int .i64 n] w fun e w' => e = .returned (.string (mkS (txt n))) ∧ Below w.heap.size w w' := by
 by_cases h0 : n < 0
 ·by_cases hm : n = -9223372036854775808
  ·subst hm
   have H := hid (show mkS (txt (-9223372036854775808)) = _ from natD_top)
   rw [H.out]
   go_enter Tryz.func25, Tryz.ntmps25
   go_wp2_with fail
   go_ret
   exact ⟨rfl, Below.refl _ _⟩
  ·have hm' : (n == -9223372036854775808) = false := by simpa using hm
   have H := hid (natD_txt n h0)
   have hs1 : (mkS (natD (-n).toNat)).size ≤ 19 := by rw [mkS_size]; exact natD_len 18 _ (by omega)
   have IH := hid (text_pos 18 (-n) (by omega) (by omega) (by omega))
   have hx : -9223372036854775808 < n := by omega
   clear hm
   go_enter Tryz.func25, Tryz.ntmps25
   go_wp2_with (go_at_call 25; go_must (refine (IH.out _).mono ?_; rintro e w1 ⟨rfl, hb1⟩))
   go_ret
   exact ⟨by rw [← H.out]; rfl, hb1⟩
 ·have e : txt n = natD n.toNat := by unfold txt; rw [if_neg h0]
  rw [e]
  exact text_pos 18 n (by omega) (by omega) h2 w
end Go.Proofs.YteimbjamnfkapaaGreatDoor
