/- What the laws' list of variables gives at stage 15: the library's table of powers, its two errors. -/
import Derived.Test.YtmncibjkgbmfjaaGreatDoorCeB
import Derived.Test.YtmncibjkgbmfjaaGreatDoorRows
import Derived.Stop.LaidErr
import Derived.LaidSub
import Derived.MakeChecks
import Derived.Lib.LaidTab
namespace Go.Proofs.YtmncibjkgbmfjaaGreatDoor
open Go.RowKit

theorem c5lg1 : Tryz.prog.globalNamed "internal/strconv.uint64pow10" = some 0 := by kernel_rfl
theorem c5lg2 : (Tryz.prog.globals[0]?).map (·.type) = some 124 := by kernel_rfl
theorem c5lg3 : Tryz.prog.cellsOf 101 = 1 := by kernel_rfl
theorem c5lg4 : Tryz.prog.cellsOf 124 = 20 := by kernel_rfl
theorem c5ls1 : Tryz.prog.globalNamed "strconv.ErrSyntax" = some 1 := by kernel_rfl
theorem c5ls2 : (Tryz.prog.globals[1]?).map (·.type) = some 87 := by kernel_rfl
theorem c5lr1 : Tryz.prog.globalNamed "strconv.ErrRange" = some 2 := by kernel_rfl
theorem c5lr2 : (Tryz.prog.globals[2]?).map (·.type) = some 87 := by kernel_rfl
theorem c5le1 : Tryz.prog.cellsOf 139 = 1 := by kernel_rfl
theorem c5le2 : Tryz.prog.cellsOf 9 = 1 := by kernel_rfl
theorem c5lstar : "*errors.errorString" = "*" ++ "errors.errorString" := by decide
theorem c5lrow (u : TypeId) (h : Tryz.prog.typeName? 3 u = some "*errors.errorString") : u = 137 :=
  typeName_ptr_named (nm := "errors.errorString") (by rw [← c5lstar]; kernel_rfl) (by kernel_rfl) (by decide) u (by rw [← c5lstar]; exact h)
/-- one entry of the list -/
theorem c5pick_laid {W : World} {l : List (String × DataW Unit)} (h : laidMetH Tryz.prog l W) (keep : String × DataW Unit → Bool) (x : String × DataW Unit) (hx : l.filter keep = [x]) (hp : x.2.handleName?.isNone = true) : laidMet Tryz.prog [x] W := by
  have k := h.filter keep
  rw [hx, MakeChecks.laidMetH_plain _ _ _ (by simp [hp])] at k
  exact k
theorem globx5 {W : World} (h : laidMetH Tryz.prog Rows.cellSaysRow.laid W) : GlobC5 W := by
  have h1 := c5pick_laid h (fun x => x.1 == "internal/strconv.uint64pow10") ("internal/strconv.uint64pow10", Rows.laid_internal_strconv_uint64pow10) (by kernel_rfl) (by kernel_rfl)
  have h2 := c5pick_laid h (fun x => x.1 == "strconv.ErrSyntax") ("strconv.ErrSyntax", Rows.laid_strconv_ErrSyntax) (by kernel_rfl) (by kernel_rfl)
  have h3 := c5pick_laid h (fun x => x.1 == "strconv.ErrRange") ("strconv.ErrRange", Rows.laid_strconv_ErrRange) (by kernel_rfl) (by kernel_rfl)
  obtain ⟨a0, s0, hv0, -, -, -⟩ := laid_sentinel h2 c5ls1 c5ls2 Tryz.underlying87 c5lrow Tryz.underlying137 Tryz.underlying139 rfl rfl Tryz.underlying9 c5le1 c5le2
  obtain ⟨a1, s1, hv1, -, -, -⟩ := laid_sentinel h3 c5lr1 c5lr2 Tryz.underlying87 c5lrow Tryz.underlying137 Tryz.underlying139 rfl rfl Tryz.underlying9 c5le1 c5le2
  exact ⟨⟨⟨_, _, hv0⟩, ⟨_, _, hv1⟩⟩, Lib.tabIs_of_head (rest := []) (zs := Lib.pow10Tab) c5lg1 c5lg2 Tryz.underlying124 Tryz.underlying101 c5lg3 c5lg4 h1⟩
end Go.Proofs.YtmncibjkgbmfjaaGreatDoor
