/- The library's table of powers, and a number's digits written by it. -/
import Derived.Test.YtmncibjkgbmfjaaGreatDoorDecOne
import Derived.Test.YtmncibjkgbmfjaaGreatDoorMathDecAll
import Derived.Lib.AppendIntMem
namespace Go.Proofs.YtmncibjkgbmfjaaGreatDoor
open Go.RowKit

/-- the table of powers that the library's writing of a number reads -/
def GlobW (w : World) : Prop := Lib.TabIs Tryz.prog w "internal/strconv.uint64pow10" .u64 Lib.pow10Tab
theorem GlobW.on {w w' : World} (h : GlobW w) (hb : Below w.heap.size w w') : GlobW w' := var_on hb h
theorem wformat_any (n : Int) (w : World) (hg : GlobW w) (h : -9223372036854775808 ≤ n ∧ n < 9223372036854775808) :
    Calls Tryz.prog 53 #[.int .i64 n, .int .i64 10] w fun e w' => e = .returned (.string (mkS (txt n))) ∧ Below w.heap.size w w' := by
  refine (Tryz.strconv_FormatInt_10 n h.1 (by omega) w hg).mono ?_
  rintro e w' ⟨rfl, k, os, rfl⟩
  exact ⟨by rw [itoa_txt]; rfl, Lib.below_grow _ _ (Nat.le_refl _) _ _⟩
set_option maxRecDepth 100000 in
set_option maxHeartbeats 400000 in
theorem wtext_any (n : Int) (w : World) (hg : GlobW w) (h : -9223372036854775808 ≤ n ∧ n < 9223372036854775808) :
    Calls Tryz.prog 33 #[.int .i64 n] w fun e w' => e = .returned (.string (mkS (txt n))) ∧ Below w.heap.size w w' := by
  have ft := wformat_any n w hg h
  go_enter Tryz.func33, Tryz.ntmps33
  go_wp2_with (go_at_call 53; go_must (refine ft.mono ?_; rintro e w' ⟨rfl, hb⟩))
  go_ret
  exact ⟨rfl, hb⟩
end Go.Proofs.YtmncibjkgbmfjaaGreatDoor
