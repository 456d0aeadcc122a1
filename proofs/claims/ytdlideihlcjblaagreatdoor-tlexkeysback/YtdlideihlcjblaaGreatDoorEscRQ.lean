/- The document's own hex4 and Quote of chapter 6: walked. -/
import Derived.Test.YtdlideihlcjblaaGreatDoorEscDoc
import Derived.Test.YtdlideihlcjblaaGreatDoorEscK
import Derived.Test.YtdlideihlcjblaaGreatDoorPlaceAll
import Derived.BigRegion
namespace Go.Proofs.YtdlideihlcjblaaGreatDoor
open Go.RowKit

theorem i64_and15 (n : Int) : bits .and .i64 n 15 = n % 16 := by
  have hm : (BitVec.ofInt 64 15).toNat = 2 ^ 4 - 1 := by decide
  have key : (BitVec.ofInt 64 n &&& BitVec.ofInt 64 15).toNat = (n % ((2 ^ 64 : Nat) : Int)).toNat % 2 ^ 4 := by
    rw [BitVec.toNat_and, BitVec.toNat_ofInt, hm, Nat.and_two_pow_sub_one_eq_mod]
  show IntKind.i64.wrap ((BitVec.ofInt 64 n &&& BitVec.ofInt 64 15).toNat : Nat) = n % 16
  rw [key, IntKind.wrap_i64]
  omega
/-- a block just laid, read as a text, behind a draw -/
theorem conv_newD (w : World) (xs : List Int) (k : Nat) (hk : xs.length = k) :
    (convert 41 9 (.slice (some ⟨w.heap.size, 0, none⟩) k k)).run Tryz.prog (w.alloc (.cells (xs.map (Value.int .u8)).toArray 5)).drew = .ok (.string (strOfNums xs)) (w.alloc (.cells (xs.map (Value.int .u8)).toArray 5)).drew := by
  refine run_convert_bytes_arg _ 41 5 Tryz.underlying41 Tryz.underlying5 _ 0 k k xs hk (fun i hi => ?_) 9 Tryz.underlying9
  have h1 : (w.alloc (.cells (xs.map (Value.int .u8)).toArray 5)).drew.cell? ⟨w.heap.size, 0 + i, none⟩ = (w.alloc (.cells (xs.map (Value.int .u8)).toArray 5)).cell? ⟨w.heap.size, 0 + i, none⟩ := rfl
  have := World.cell?_alloc_mark w (xs.map (Value.int .u8)).toArray 5 (0, 0) i
  rw [h1, Nat.zero_add, this]
  have hi' : i < xs.length := by omega
  simp [List.getD, List.getElem?_eq_getElem hi']
theorem strOfNums_data' (xs : List Int) : (strOfNums xs).data.toList = xs.map fun n => UInt8.ofNat n.toNat := by unfold strOfNums; simp
theorem hex_at : ∀ n (h : n < 16), (((⟨#[48, 49, 50, 51, 52, 53, 54, 55, 56, 57, 97, 98, 99, 100, 101, 102]⟩ : ByteArray)[n]'(show n < (⟨#[48, 49, 50, 51, 52, 53, 54, 55, 56, 57, 97, 98, 99, 100, 101, 102]⟩ : ByteArray).size from h)).toNat : Int) = ((hxD n).toNat : Int) := by decide
set_option maxRecDepth 100000 in
set_option maxHeartbeats 1000000 in
theorem hex4_any (n : Nat) (hn : n < 128) (w : World) :
    Calls Tryz.prog 126 #[.int .i64 (n : Int)] w fun e w' => e = .returned (.string (mkS [48, 48, hxD (n / 16), hxD (n % 16)])) ∧ Below w.heap.size w w' := by
  have a1 : bits .and .i64 ((n : Int) / 4096) 15 = 0 := by rw [i64_and15]; omega
  have a2 : bits .and .i64 ((n : Int) / 256) 15 = 0 := by rw [i64_and15]; omega
  obtain ⟨x, hx⟩ : ∃ x : Nat, x = n / 16 := ⟨_, rfl⟩
  obtain ⟨y, hy⟩ : ∃ y : Nat, y = n % 16 := ⟨_, rfl⟩
  have a3 : bits .and .i64 ((n : Int) / 16) 15 = (x : Int) := by rw [i64_and15]; omega
  have a4 : bits .and .i64 (n : Int) 15 = (y : Int) := by rw [i64_and15]; omega
  have hx1 : x < 16 := by omega
  have hy1 : y < 16 := by omega
  have hx2 : (x : Int) < 16 := by omega
  have hy2 : (y : Int) < 16 := by omega
  have HX := hid (show mkS [48, 48, hxD (n / 16), hxD (n % 16)] = mkS [48, 48, hxD x, hxD y] by rw [hx, hy])
  rw [HX.out]
  have e0 : ((⟨#[48, 49, 50, 51, 52, 53, 54, 55, 56, 57, 97, 98, 99, 100, 101, 102]⟩ : ByteArray)[0].toNat : Int) = 48 := rfl
  have e1 := hex_at x hx1
  have e2 := hex_at y hy1
  have hcv := conv_newD w [48, 48, ((hxD x).toNat : Int), ((hxD y).toNat : Int)] 4 rfl
  have HS := hid (show strOfNums [48, 48, ((hxD x).toNat : Int), ((hxD y).toNat : Int)] = mkS [48, 48, hxD x, hxD y] by
    refine mkS_of _ _ ?_
    rw [strOfNums_data']
    simp)
  simp only [List.map] at hcv
  clear hx hy HX
  go_enter Tryz.func126, Tryz.ntmps126
  go_wp2_with fail
  go_region
  go_wp2_with fail
  go_ret
  exact ⟨ret_st HS.out, ((Below.refl _ _).alloc (Nat.le_refl _) _).drew⟩
end Go.Proofs.YtdlideihlcjblaaGreatDoor
