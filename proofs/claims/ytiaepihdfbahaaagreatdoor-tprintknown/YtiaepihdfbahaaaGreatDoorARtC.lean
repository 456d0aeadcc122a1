/- tlex.Skip: walked. -/
import Derived.Test.YtiaepihdfbahaaaGreatDoorAMathDecAll
import Derived.Test.YtiaepihdfbahaaaGreatDoorATlE
import Derived.Test.YtiaepihdfbahaaaGreatDoorATlF
/- The document's end and Skip of chapter 10: walked. -/
/- The document's reading of days and times: two, unsigned. Walked. -/
namespace Go.Proofs.YtiaepihdfbahaaaGreatDoor
open Go.RowKit

/-- where one is behind what does not count -/
def skA (lines : Bool) (T : List UInt8) (a : Int) : Nat := (plc T a).toNat + skT lines (T.drop (plc T a).toNat)
end Go.Proofs.YtiaepihdfbahaaaGreatDoor
namespace Go.Proofs.YtiaepihdfbahaaaGreatDoor
open Go.RowKit

theorem rdrop_at (t : ByteArray) (i : Nat) (h : i < t.size) : t.data.toList.drop i = t[i] :: t.data.toList.drop (i + 1) := by
  rw [List.drop_eq_getElem_cons (by rw [size_list]; exact h)]; rfl
end Go.Proofs.YtiaepihdfbahaaaGreatDoor
namespace Go.Proofs.YtiaepihdfbahaaaGreatDoor
open Go.RowKit

set_option maxRecDepth 100000 in
set_option maxHeartbeats 4000000 in
theorem rtwo_any (s : ByteArray) (n : Nat) (w : World) :
    Calls Tryz.prog 107 #[.string s, .int .i64 (n : Int)] w fun e w' => e = .returned (.bool (twoB s.data.toList n)) ∧ Below w.heap.size w w' := by
  have HR : Hid (twoB s.data.toList n = (decide (s.data.toList.length = 2) && is2 s.data.toList 0 && decide (dg2 s.data.toList 0 < n))) := rfl
  rw [size_list] at HR
  by_cases h2 : s.size = 2
  · have h0 : 0 < s.size := by omega
    have h1 : 1 < s.size := by omega
    have HX : Hid (is2 s.data.toList 0 = (decide (48 ≤ s[0].toNat ∧ s[0].toNat ≤ 57) && decide (48 ≤ s[1].toNat ∧ s[1].toNat ≤ 57))) := by
      show _ = _
      unfold is2 dgA; rw [bt_at s 0 h0, bt_at s 1 h1]
    have HY : Hid (dg2 s.data.toList 0 = (s[0].toNat - 48) * 10 + (s[1].toNat - 48)) := by
      show _ = _
      unfold dg2; rw [bt_at s 0 h0, bt_at s 1 h1]
    rw [decide_eq_true h2, HX.out, HY.out, Bool.true_and] at HR
    have b0 := s[0].toNat_lt
    have b1 := s[1].toNat_lt
    generalize twoB s.data.toList n = R at *
    clear HX HY
    generalize hA : s[0].toNat = A at *
    generalize hB : s[1].toNat = B at *
    by_cases a1 : A < 48
    · have HR2 := hid (show R = false by rw [HR.out, decide_eq_false (by omega)]; rfl)
      go_enter Tryz.func107, Tryz.ntmps107
      go_wp2_with fail
      go_ret
      exact ⟨by rw [HR2.out]; rfl, Below.refl _ _⟩
    by_cases a2 : 57 < A
    · have HR2 := hid (show R = false by rw [HR.out, decide_eq_false (by omega)]; rfl)
      go_enter Tryz.func107, Tryz.ntmps107
      go_wp2_with fail
      go_ret
      exact ⟨by rw [HR2.out]; rfl, Below.refl _ _⟩
    by_cases a3 : B < 48
    · have HR2 := hid (show R = false by rw [HR.out, decide_eq_false (p := 48 ≤ B ∧ B ≤ 57) (by omega), Bool.and_false, Bool.false_and])
      go_enter Tryz.func107, Tryz.ntmps107
      go_wp2_with fail
      go_ret
      exact ⟨by rw [HR2.out]; rfl, Below.refl _ _⟩
    by_cases a4 : 57 < B
    · have HR2 := hid (show R = false by rw [HR.out, decide_eq_false (p := 48 ≤ B ∧ B ≤ 57) (by omega), Bool.and_false, Bool.false_and])
      go_enter Tryz.func107, Tryz.ntmps107
      go_wp2_with fail
      go_ret
      exact ⟨by rw [HR2.out]; rfl, Below.refl _ _⟩
    · have HR2 := hid (show R = decide (((A : Int) - 48) * 10 + ((B : Int) - 48) < (n : Int)) by
        rw [HR.out, decide_eq_true (show 48 ≤ A ∧ A ≤ 57 by omega), decide_eq_true (show 48 ≤ B ∧ B ≤ 57 by omega), Bool.true_and, Bool.true_and]
        exact decide_eq_decide.2 (by omega))
      obtain ⟨ai, hai⟩ : ∃ ai : Int, (A : Int) = ai := ⟨_, rfl⟩
      obtain ⟨bi, hbi⟩ : ∃ bi : Int, (B : Int) = bi := ⟨_, rfl⟩
      have i1 : 48 ≤ ai ∧ ai ≤ 57 ∧ 48 ≤ bi ∧ bi ≤ 57 := by omega
      have i2 : ¬ ai < 48 := by omega
      have i3 : ¬ 57 < ai := by omega
      have i4 : ¬ bi < 48 := by omega
      have i5 : ¬ 57 < bi := by omega
      have w1 : IntKind.u8.wrap (ai - 48) = ai - 48 := by rw [IntKind.wrap_u8]; omega
      have w2 : IntKind.u8.wrap (bi - 48) = bi - 48 := by rw [IntKind.wrap_u8]; omega
      have w5 : IntKind.i64.wrap (ai - 48) = ai - 48 := by rw [IntKind.wrap_i64]; omega
      have w6 : IntKind.i64.wrap (bi - 48) = bi - 48 := by rw [IntKind.wrap_i64]; omega
      have w3 : IntKind.i64.wrap ((ai - 48) * 10) = (ai - 48) * 10 := by rw [IntKind.wrap_i64]; omega
      have w4 : IntKind.i64.wrap ((ai - 48) * 10 + (bi - 48)) = (ai - 48) * 10 + (bi - 48) := by rw [IntKind.wrap_i64]; omega
      rw [hai, hbi] at HR2
      clear a1 a2 a3 a4 HR
      go_enter Tryz.func107, Tryz.ntmps107
      go_wp2_with fail
      go_quiet (fail)
      go_wp2_with fail
      go_ret
      exact ⟨by rw [HR2.out]; rfl, tdrew_below _ _⟩
  · have HR2 := hid (show twoB s.data.toList n = false by rw [HR.out, decide_eq_false h2]; rfl)
    have h3 : ¬ (s.size : Int) = 2 := by omega
    clear h2
    go_enter Tryz.func107, Tryz.ntmps107
    go_wp2_with fail
    go_ret
    exact ⟨by rw [HR2.out]; rfl, Below.refl _ _⟩
/-- the sign ahead; 0: none -/
def sgB (l : List UInt8) : Nat := if sgA l = true then bt l 0 else 0
end Go.Proofs.YtiaepihdfbahaaaGreatDoor
