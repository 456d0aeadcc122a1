/- What the statements of chapter 6 ask first, at closed inputs. -/
import Derived.Test.YtikdggcdgdokiaaDoorEscI
import Derived.Test.YtikdggcdgdokiaaDoorEscK
namespace Go.Proofs.YtikdggcdgdokiaaDoor
open Go.RowKit

theorem unq_at (t x : ByteArray) (n : Nat) (b : Int) (w : World) (ht : t.size ≤ 1000000) (h : unqJ t.data.toList 0 = (x.data.toList, n, b)) :
    Calls Tryd.prog 9 #[.string t, .int .i64 0] w fun e w' => e = .returned (.tuple #[.string x, .int .i64 (n : Int), .int .i64 b]) ∧ Below w.heap.size w w' := by
  have := unq_any t 0 w ht
  rw [h] at this
  rw [mkS_of x _ rfl]; exact this
theorem tunq_at (t x : ByteArray) (n : Nat) (b : Int) (w : World) (ht : t.size ≤ 1000000) (h : unqT t.data.toList 0 = (x.data.toList, n, b)) :
    Calls Tryd.prog 10 #[.string t, .int .i64 0] w fun e w' => e = .returned (.tuple #[.string x, .int .i64 (n : Int), .int .i64 b]) ∧ Below w.heap.size w w' := by
  have := tunq_any t 0 w ht
  rw [h] at this
  rw [mkS_of x _ rfl]; exact this
theorem hexc_at (t : ByteArray) (n : Nat) (b : Bool) (w : World) (ht : t.size ≤ 1000000) (h : hexR t.data.toList = n) (h2 : hexB t.data.toList = b) :
    Calls Tryd.prog 11 #[.string t] w fun e w' => e = .returned (.tuple #[.int .i64 (n : Int), .bool b]) ∧ Below w.heap.size w w' := by
  have := hex_any t w (max_le ht)
  rw [h, h2] at this; exact this
theorem bare_at (t : ByteArray) (b : Bool) (w : World) (ht : t.size ≤ 1000000) (h2 : brB t.data.toList = b) :
    Calls Tryd.prog 17 #[.string t] w fun e w' => e = .returned (.bool b) ∧ Below w.heap.size w w' := by
  have := bare_any t w (max_le ht)
  rw [h2] at this; exact this
theorem quote_at (t x : ByteArray) (w : World) (ht : t.size ≤ 100000) (h : qtA false t.data.toList = x.data.toList) :
    Calls Tryd.prog 14 #[.string t] w fun e w' => e = .returned (.string x) ∧ Below w.heap.size w w' := by
  have := jquote_any t w ht
  rw [h] at this
  rw [mkS_of x _ rfl]; exact this
theorem tquote_at (t x : ByteArray) (w : World) (ht : t.size ≤ 100000) (h : qtA true t.data.toList = x.data.toList) :
    Calls Tryd.prog 15 #[.string t] w fun e w' => e = .returned (.string x) ∧ Below w.heap.size w w' := by
  have := tquote_any t w ht
  rw [h] at this
  rw [mkS_of x _ rfl]; exact this
set_option maxRecDepth 100000 in
theorem aw1 : unqJ (⟨#[34, 92, 117, 48, 48, 52, 49, 34]⟩ : ByteArray).data.toList 0 = ((⟨#[65]⟩ : ByteArray).data.toList, 8, -1) := by decide +kernel
set_option maxRecDepth 100000 in
theorem aw2 : unqT (⟨#[39, 39, 39, 10, 97, 39, 98, 39, 39, 39]⟩ : ByteArray).data.toList 0 = ((⟨#[97, 39, 98]⟩ : ByteArray).data.toList, 10, -1) := by decide +kernel
theorem aw3 : hexR (⟨#[49, 70]⟩ : ByteArray).data.toList = 31 ∧ hexB (⟨#[49, 70]⟩ : ByteArray).data.toList = true := by decide +kernel
theorem aw4 : qtA false (⟨#[97, 10, 98]⟩ : ByteArray).data.toList = (⟨#[34, 97, 92, 110, 98, 34]⟩ : ByteArray).data.toList := by decide +kernel
theorem aw5 : qtA true (⟨#[127]⟩ : ByteArray).data.toList = (⟨#[34, 92, 117, 48, 48, 55, 102, 34]⟩ : ByteArray).data.toList := by decide +kernel
theorem aw6 : brB (⟨#[97, 45, 49]⟩ : ByteArray).data.toList = true := by decide +kernel
theorem aw7 : brB (⟨#[]⟩ : ByteArray).data.toList = false := by decide +kernel
set_option maxRecDepth 100000 in
set_option maxHeartbeats 2000000 in
theorem awake_any (w : World) : Calls Tryd.prog 8 #[] w fun e w' => e = .returned (.bool true) ∧ Below w.heap.size w w' := by
  have C1 := hid (fun X => unq_at ⟨#[34, 92, 117, 48, 48, 52, 49, 34]⟩ ⟨#[65]⟩ 8 (-1) X (by decide) aw1)
  have C2 := hid (fun X => tunq_at ⟨#[39, 39, 39, 10, 97, 39, 98, 39, 39, 39]⟩ ⟨#[97, 39, 98]⟩ 10 (-1) X (by decide) aw2)
  have C3 := hid (fun X => hexc_at ⟨#[49, 70]⟩ 31 true X (by decide) aw3.1 aw3.2)
  have C4 := hid (fun X => quote_at ⟨#[97, 10, 98]⟩ ⟨#[34, 97, 92, 110, 98, 34]⟩ X (by decide) aw4)
  have C5 := hid (fun X => tquote_at ⟨#[127]⟩ ⟨#[34, 92, 117, 48, 48, 55, 102, 34]⟩ X (by decide) aw5)
  have C6 := hid (fun X => bare_at ⟨#[97, 45, 49]⟩ true X (by decide) aw6)
  have C7 := hid (fun X => bare_at ⟨#[]⟩ false X (by decide) aw7)
  go_enter Tryd.func8, Tryd.ntmps8
  go_wp2_with (first
    | (go_at_call 9; go_must (refine (C1.out _).mono ?_; rintro e w1 ⟨rfl, hb1⟩))
    | (go_at_call 10; go_must (refine (C2.out _).mono ?_; rintro e w2 ⟨rfl, hb2⟩))
    | (go_at_call 11; go_must (refine (C3.out _).mono ?_; rintro e w3 ⟨rfl, hb3⟩))
    | (go_at_call 14; go_must (refine (C4.out _).mono ?_; rintro e w4 ⟨rfl, hb4⟩))
    | (go_at_call 15; go_must (refine (C5.out _).mono ?_; rintro e w5 ⟨rfl, hb5⟩))
    | (go_at_call 17; go_must (first | ((with_reducible refine (C7.out _).mono ?_); rintro e w7 ⟨rfl, hb7⟩) | ((with_reducible refine (C6.out _).mono ?_); rintro e w6 ⟨rfl, hb6⟩))))
  go_ret
  exact ⟨rfl, eonto (eonto (eonto (eonto (eonto (eonto hb1 hb2) hb3) hb4) hb5) hb6) hb7⟩
end Go.Proofs.YtikdggcdgdokiaaDoor
