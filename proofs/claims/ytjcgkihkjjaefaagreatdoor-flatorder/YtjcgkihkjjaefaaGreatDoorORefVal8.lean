/- The document's own reckoning of trees, walked: may a tree be? -/
import Derived.Test.YtjcgkihkjjaefaaGreatDoorORefVal6
import Derived.Test.YtjcgkihkjjaefaaGreatDoorORefVal2
import Derived.Test.YtjcgkihkjjaefaaGreatDoorOVHold
namespace Go.Proofs.YtjcgkihkjjaefaaGreatDoor
open Go.RowKit

theorem may_fit (T : VT) : mayB 0 1 T = (fitB T 32 4096 && plainT T) := by
  unfold mayB fitB
  congr 1
  exact decide_eq_decide.2 (by omega)
set_option maxRecDepth 100000 in
set_option maxHeartbeats 1000000 in
theorem rvalue_any (T : VT) (x y : Value) (w : World) (hT : HV w T x y) :
    Calls Tryz.prog 12 #[vv T x y] w fun e w' => e = .returned (.bool (mayB 0 1 T)) ∧ Below w.heap.size w w' := by
  have hal : Below w.heap.size w (w.alloc (.cells #[.int .i64 T.kd, .int .i64 T.nm, .string T.st, x, y] 34)) := (Below.refl _ _).alloc (Nat.le_refl _) _
  have HM := hid (may_fit T)
  obtain ⟨o1, n1, c1, o2, n2, c2, rfl, rfl⟩ := hv_slices hT
  have HB := hid (bx_new hT 34)
  have HAL := hid hal
  have HH := hid (heavy_any T _ _ 4096 32 _ HB.out.2 (by omega) (by omega))
  simp only [vv] at HH
  simp only [vv]
  clear hal hT
  cases hf : fitB T 32 4096 with
  | false =>
    rw [hf] at HH HM
    simp only [Bool.not_false] at HH
    go_enter Tryz.func12, Tryz.ntmps12
    go_wp2_with (go_at_call 11; go_must (refine HH.out.mono ?_; rintro e w1 ⟨rfl, hb1⟩))
    go_ret
    exact ⟨ret_bool (by rw [HM.out]; rfl), vonto HAL.out hb1⟩
  | true =>
    rw [hf] at HH HM
    simp only [Bool.not_true] at HH
    go_enter Tryz.func12, Tryz.ntmps12
    go_wp2_with fail
    go_at_call 11
    refine HH.out.mono ?_
    rintro e w1 ⟨rfl, hb1⟩
    have HB1 := hid hb1
    obtain ⟨q0, q1, q2, q3, q4⟩ := (HB.out.onto hb1).cells
    have HP := hid (rplain_any (szT T) T _ _ w1 (Nat.le_refl _) (HB.out.onto hb1).2)
    simp only [vv] at HP
    generalize plainT T = pt at HP HM
    clear hb1
    go_wp2_with fail
    go_at_call 29
    refine HP.out.mono ?_
    rintro e w2 ⟨rfl, hb2⟩
    go_wp2_with fail
    go_ret
    exact ⟨ret_bool (by rw [HM.out]; rfl), vonto (vonto HAL.out HB1.out) hb2⟩
end Go.Proofs.YtjcgkihkjjaefaaGreatDoor
