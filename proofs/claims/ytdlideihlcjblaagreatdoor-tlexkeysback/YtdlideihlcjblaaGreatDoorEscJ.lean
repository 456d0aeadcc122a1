/- esc.quoteByte: walked. -/
import Derived.Test.YtdlideihlcjblaaGreatDoorEscSide
namespace Go.Proofs.YtdlideihlcjblaaGreatDoor
open Go.RowKit

theorem enc_sml (n : Nat) (h : n < 128) : Utf8.encode (n : Int) = mkS [UInt8.ofNat n] := by
  unfold Utf8.encode
  have hv : Utf8.valid (n : Int) = true := by unfold Utf8.valid; simp; omega
  simp only [hv, if_true, Int.toNat_natCast, h]
  rfl
def hexS : ByteArray := ⟨#[48, 49, 50, 51, 52, 53, 54, 55, 56, 57, 97, 98, 99, 100, 101, 102]⟩
theorem hex_cut : ∀ n < 16, (hexS.extract n (n + 1)).data.toList = [hxD n] := by decide
theorem hex_two (n : Nat) (h : n < 256) : (⟨#[92, 117, 48, 48]⟩ : ByteArray) ++ hexS.extract (n / 16) (n / 16 + 1) ++ hexS.extract (n % 16) (n % 16 + 1) = mkS [92, 117, 48, 48, hxD (n / 16), hxD (n % 16)] := by
  refine mkS_of _ _ ?_
  rw [ByteArray.data_append, ByteArray.data_append, Array.toList_append, Array.toList_append, hex_cut _ (by omega), hex_cut _ (by omega)]; rfl
end Go.Proofs.YtdlideihlcjblaaGreatDoor
