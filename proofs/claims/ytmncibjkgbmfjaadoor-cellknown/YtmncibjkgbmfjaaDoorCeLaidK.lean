/- What the laws' list of variables gives at stage 15: the library's table of powers, its two errors. -/
import Derived.Test.YtmncibjkgbmfjaaDoorCeB
import Derived.Test.YtmncibjkgbmfjaaDoorRows
import Derived.Stop.LaidErr
import Derived.LaidSub
import Derived.MakeChecks
import Derived.Lib.LaidTab
namespace Go.Proofs.YtmncibjkgbmfjaaDoor
open Go.RowKit

theorem c5lg1 : Tryd.prog.globalNamed "internal/strconv.uint64pow10" = some 0 := by kernel_rfl
theorem c5lg2 : (Tryd.prog.globals[0]?).map (·.type) = some 106 := by kernel_rfl
theorem c5lg3 : Tryd.prog.cellsOf 82 = 1 := by kernel_rfl
theorem c5lg4 : Tryd.prog.cellsOf 106 = 20 := by kernel_rfl
theorem c5ls1 : Tryd.prog.globalNamed "strconv.ErrSyntax" = some 1 := by kernel_rfl
theorem c5ls2 : (Tryd.prog.globals[1]?).map (·.type) = some 68 := by kernel_rfl
theorem c5lr1 : Tryd.prog.globalNamed "strconv.ErrRange" = some 2 := by kernel_rfl
theorem c5lr2 : (Tryd.prog.globals[2]?).map (·.type) = some 68 := by kernel_rfl
theorem c5le1 : Tryd.prog.cellsOf 122 = 1 := by kernel_rfl
theorem c5le2 : Tryd.prog.cellsOf 9 = 1 := by kernel_rfl
theorem c5lstar : "*errors.errorString" = "*" ++ "errors.errorString" := by decide
theorem c5lrow (u : TypeId) (h : Tryd.prog.typeName? 3 u = some "*errors.errorString") : u = 120 :=
  typeName_ptr_named (nm := "errors.errorString") (by rw [← c5lstar]; kernel_rfl) (by kernel_rfl) (by decide) u (by rw [← c5lstar]; exact h)
/-- one entry of the list -/
theorem c5pick_laid {W : World} {l : List (String × DataW Unit)} (h : laidMetH Tryd.prog l W) (keep : String × DataW Unit → Bool) (x : String × DataW Unit) (hx : l.filter keep = [x]) (hp : x.2.handleName?.isNone = true) : laidMet Tryd.prog [x] W := by
  have k := h.filter keep
  rw [hx, MakeChecks.laidMetH_plain _ _ _ (by simp [hp])] at k
  exact k
theorem globx5 {W : World} (h : laidMetH Tryd.prog Rows.cellKnownRow.laid W) : GlobC5 W := by
  have h1 := c5pick_laid h (fun x => x.1 == "internal/strconv.uint64pow10") ("internal/strconv.uint64pow10", Rows.laid_internal_strconv_uint64pow10) (by kernel_rfl) (by kernel_rfl)
  have h2 := c5pick_laid h (fun x => x.1 == "strconv.ErrSyntax") ("strconv.ErrSyntax", Rows.laid_strconv_ErrSyntax) (by kernel_rfl) (by kernel_rfl)
  have h3 := c5pick_laid h (fun x => x.1 == "strconv.ErrRange") ("strconv.ErrRange", Rows.laid_strconv_ErrRange) (by kernel_rfl) (by kernel_rfl)
  obtain ⟨a0, s0, hv0, -, -, -⟩ := laid_sentinel h2 c5ls1 c5ls2 Tryd.underlying68 c5lrow Tryd.underlying120 Tryd.underlying122 rfl rfl Tryd.underlying9 c5le1 c5le2
  obtain ⟨a1, s1, hv1, -, -, -⟩ := laid_sentinel h3 c5lr1 c5lr2 Tryd.underlying68 c5lrow Tryd.underlying120 Tryd.underlying122 rfl rfl Tryd.underlying9 c5le1 c5le2
  exact ⟨⟨⟨_, _, hv0⟩, ⟨_, _, hv1⟩⟩, Lib.tabIs_of_head (rest := []) (zs := Lib.pow10Tab) c5lg1 c5lg2 Tryd.underlying106 Tryd.underlying82 c5lg3 c5lg4 h1⟩
end Go.Proofs.YtmncibjkgbmfjaaDoor
