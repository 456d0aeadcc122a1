/- EscKnown, walked. -/
import Derived.Test.YtikdggcdgdokiaaDoorEscAwake
namespace Go.Proofs.YtikdggcdgdokiaaDoor
open Go.RowKit

set_option maxRecDepth 100000 in
theorem ek1 : unqJ (⟨#[34, 92, 117, 100, 56, 48, 48, 120, 34]⟩ : ByteArray).data.toList 0 = ((⟨#[]⟩ : ByteArray).data.toList, 0, 1) := by decide +kernel
set_option maxRecDepth 100000 in
theorem ek2 : unqJ (⟨#[34, 97, 98]⟩ : ByteArray).data.toList 0 = ((⟨#[]⟩ : ByteArray).data.toList, 0, 3) := by decide +kernel
set_option maxRecDepth 100000 in
theorem ek3 : unqJ (⟨#[120]⟩ : ByteArray).data.toList 0 = ((⟨#[]⟩ : ByteArray).data.toList, 0, 0) := by decide +kernel
set_option maxRecDepth 100000 in
theorem ek4 : unqT (⟨#[34, 92, 47, 34]⟩ : ByteArray).data.toList 0 = ((⟨#[]⟩ : ByteArray).data.toList, 0, 1) := by decide +kernel
set_option maxRecDepth 100000 in
theorem ek5 : unqJ (⟨#[34, 92, 117, 100, 56, 51, 52, 92, 117, 100, 100, 49, 101, 34]⟩ : ByteArray).data.toList 0 = ((⟨#[240, 157, 132, 158]⟩ : ByteArray).data.toList, 14, -1) := by decide +kernel
set_option maxRecDepth 100000 in
theorem ek6 : unqT (⟨#[34, 34, 34, 97, 92, 10, 32, 32, 98, 34, 34, 34, 34, 34]⟩ : ByteArray).data.toList 0 = ((⟨#[97, 98, 34, 34]⟩ : ByteArray).data.toList, 14, -1) := by decide +kernel
theorem ek7 : hexR (⟨#[49, 50, 51, 52, 53, 54, 55, 56, 57]⟩ : ByteArray).data.toList = 0 ∧ hexB (⟨#[49, 50, 51, 52, 53, 54, 55, 56, 57]⟩ : ByteArray).data.toList = false := by decide +kernel
set_option maxRecDepth 100000 in
set_option maxHeartbeats 2000000 in
theorem escKnown_walk (w : World) : Calls Tryd.prog 3 #[] w fun e w' => e = .returned (.bool true) ∧ Below w.heap.size w w' := by
  have C1 := hid (fun X => unq_at ⟨#[34, 92, 117, 100, 56, 48, 48, 120, 34]⟩ ⟨#[]⟩ 0 1 X (by decide) ek1)
  have C2 := hid (fun X => unq_at ⟨#[34, 97, 98]⟩ ⟨#[]⟩ 0 3 X (by decide) ek2)
  have C3 := hid (fun X => unq_at ⟨#[120]⟩ ⟨#[]⟩ 0 0 X (by decide) ek3)
  have C4 := hid (fun X => tunq_at ⟨#[34, 92, 47, 34]⟩ ⟨#[]⟩ 0 1 X (by decide) ek4)
  have C5 := hid (fun X => unq_at ⟨#[34, 92, 117, 100, 56, 51, 52, 92, 117, 100, 100, 49, 101, 34]⟩ ⟨#[240, 157, 132, 158]⟩ 14 (-1) X (by decide) ek5)
  have C6 := hid (fun X => tunq_at ⟨#[34, 34, 34, 97, 92, 10, 32, 32, 98, 34, 34, 34, 34, 34]⟩ ⟨#[97, 98, 34, 34]⟩ 14 (-1) X (by decide) ek6)
  have C7 := hid (fun X => hexc_at ⟨#[49, 50, 51, 52, 53, 54, 55, 56, 57]⟩ 0 false X (by decide) ek7.1 ek7.2)
  go_enter Tryd.func3, Tryd.ntmps3
  go_wp2_with (first
    | (go_at_call 8; go_must (refine (awake_any _).mono ?_; rintro e w0 ⟨rfl, hb0⟩))
    | (go_at_call 9; go_must (first | ((with_reducible refine (C1.out _).mono ?_); rintro e w1 ⟨rfl, hb1⟩) | ((with_reducible refine (C2.out _).mono ?_); rintro e w2 ⟨rfl, hb2⟩) | ((with_reducible refine (C3.out _).mono ?_); rintro e w3 ⟨rfl, hb3⟩) | ((with_reducible refine (C5.out _).mono ?_); rintro e w5 ⟨rfl, hb5⟩)))
    | (go_at_call 10; go_must (first | ((with_reducible refine (C4.out _).mono ?_); rintro e w4 ⟨rfl, hb4⟩) | ((with_reducible refine (C6.out _).mono ?_); rintro e w6 ⟨rfl, hb6⟩)))
    | (go_at_call 11; go_must (refine (C7.out _).mono ?_; rintro e w7 ⟨rfl, hb7⟩)))
  go_ret
  exact ⟨rfl, eonto (eonto (eonto (eonto (eonto (eonto (eonto hb0 hb1) hb2) hb3) hb4) hb5) hb6) hb7⟩
end Go.Proofs.YtikdggcdgdokiaaDoor
