/- esc.hexDigit, Hex, bareByte, Bare: walked. -/
import Derived.Test.YtoamndiblckdlaaGreatDoorMathEsc
import Derived.Test.YtoamndiblckdlaaGreatDoorUtfPut
import Derived.Test.YtoamndiblckdlaaGreatDoorUtfAll
import Derived.Test.YtoamndiblckdlaaGreatDoorRefOne
import Derived.Deep.DeepCutAuto
import Derived.Deep.LoopGhost
namespace Go.Proofs.YtoamndiblckdlaaGreatDoor
open Go.RowKit

theorem ret_sn {k : IntKind} {a b : ByteArray} {c d : Int} (h : a = b) (g : c = d) : Ending.returned (.tuple #[.string a, .int k c]) = .returned (.tuple #[.string b, .int k d]) := by rw [h, g]
theorem ret_snn {k l : IntKind} {a b : ByteArray} {c d x y : Int} (h : a = b) (g : c = d) (q : x = y) : Ending.returned (.tuple #[.string a, .int k c, .int l x]) = .returned (.tuple #[.string b, .int k d, .int l y]) := by rw [h, g, q]
theorem ret_st {a b : ByteArray} (h : a = b) : Ending.returned (.string a) = .returned (.string b) := by rw [h]
theorem ret_sb {a b : ByteArray} {c d : Bool} (h : a = b) (g : c = d) : Ending.returned (.tuple #[.string a, .bool c]) = .returned (.tuple #[.string b, .bool d]) := by rw [h, g]
/-- one frame upon another -/
theorem eonto {w w1 w2 : World} (h : Below w.heap.size w w1) (g : Below w1.heap.size w1 w2) : Below w.heap.size w w2 := h.trans (g.mono h.size)
/-- what a text's bytes lie as, once they are converted -/
theorem ebrow_at (s : ByteArray) (k : Nat) (w : World) (c : Nat) (t : TypeId) (m : Nat × Nat) (hk : k < s.size) : (w.alloc (.cells (bytesRow s c) t m)).cell? ⟨w.heap.size, k, none⟩ = some (.int .u8 (s[k].toNat : Int)) := by
  rw [World.cell?_alloc_mark w _ t m k]
  exact bytesRow_at s c k hk
def hxW (b : UInt8) : Nat := if hxI b = true then hxV b else 0
theorem hx_yes {b : UInt8} (h : (48 ≤ (b.toNat : Int) ∧ (b.toNat : Int) ≤ 57) ∨ (97 ≤ (b.toNat : Int) ∧ (b.toNat : Int) ≤ 102) ∨ (65 ≤ (b.toNat : Int) ∧ (b.toNat : Int) ≤ 70)) : hxI b = true := by
  unfold hxI; simp only [Bool.or_eq_true, decide_eq_true_eq]; omega
theorem hx_no {b : UInt8} (h : ¬ ((48 ≤ (b.toNat : Int) ∧ (b.toNat : Int) ≤ 57) ∨ (97 ≤ (b.toNat : Int) ∧ (b.toNat : Int) ≤ 102) ∨ (65 ≤ (b.toNat : Int) ∧ (b.toNat : Int) ≤ 70))) : hxI b = false := by
  rw [Bool.eq_false_iff]; intro hc; apply h
  unfold hxI at hc; simp only [Bool.or_eq_true, decide_eq_true_eq] at hc; omega
set_option maxRecDepth 100000 in
set_option maxHeartbeats 1000000 in
theorem hexd_any (b : UInt8) (w : World) :
    Calls Tryz.prog 117 #[.int .u8 (b.toNat : Int)] w fun e w' => e = .returned (.tuple #[.int .i64 (hxW b : Nat), .bool (hxI b)]) ∧ w' = w := by
  have hb : (b.toNat : Int) < 256 := by have := b.toNat_lt; omega
  have hb0 : 0 ≤ (b.toNat : Int) := by omega
  have HY := hid (@hx_yes b)
  have HN := hid (@hx_no b)
  have HW := hid (show hxI b = true → (hxW b : Int) = if (b.toNat : Int) ≤ 57 then (b.toNat : Int) - 48 else if (b.toNat : Int) ≤ 70 then (b.toNat : Int) - 55 else (b.toNat : Int) - 87 by
    intro h
    have h1 := h
    unfold hxI at h1; simp only [Bool.or_eq_true, decide_eq_true_eq] at h1
    unfold hxW; rw [if_pos h]; unfold hxV; (repeat' split) <;> omega)
  have HZ := hid (show hxI b = false → hxW b = 0 by intro h; unfold hxW; rw [h]; rfl)
  go_enter Tryz.func117, Tryz.ntmps117
  go_wp2
  all_goals
    go_ret2
    first
      | exact ⟨ret_ib (by rw [HW.out (HY.out (by omega))]; (repeat' split) <;> omega) (HY.out (by omega)).symm, rfl⟩
      | exact ⟨ret_ib (by rw [HZ.out (HN.out (by omega))]; rfl) (HN.out (by omega)).symm, rfl⟩
end Go.Proofs.YtoamndiblckdlaaGreatDoor
