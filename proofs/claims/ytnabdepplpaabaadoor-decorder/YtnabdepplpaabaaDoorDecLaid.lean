/- What the laws' list of variables gives: the library's table of powers, its two errors. -/
import Derived.Test.YtnabdepplpaabaaDoorDecF
import Derived.Stop.LaidErr
import Derived.LaidSub
import Derived.MakeChecks
import Derived.Lib.LaidTab
namespace Go.Proofs.YtnabdepplpaabaaDoor
open Go.RowKit

theorem lg1 : Tryd.prog.globalNamed "internal/strconv.uint64pow10" = some 2 := by kernel_rfl
theorem lg2 : (Tryd.prog.globals[2]?).map (·.type) = some 97 := by kernel_rfl
theorem lg3 : Tryd.prog.cellsOf 66 = 1 := by kernel_rfl
theorem lg4 : Tryd.prog.cellsOf 97 = 20 := by kernel_rfl
theorem ls1 : Tryd.prog.globalNamed "strconv.ErrSyntax" = some 0 := by kernel_rfl
theorem ls2 : (Tryd.prog.globals[0]?).map (·.type) = some 36 := by kernel_rfl
theorem lr1 : Tryd.prog.globalNamed "strconv.ErrRange" = some 1 := by kernel_rfl
theorem lr2 : (Tryd.prog.globals[1]?).map (·.type) = some 36 := by kernel_rfl
theorem le1 : Tryd.prog.cellsOf 104 = 1 := by kernel_rfl
theorem le2 : Tryd.prog.cellsOf 9 = 1 := by kernel_rfl
theorem lstar : "*errors.errorString" = "*" ++ "errors.errorString" := by decide
theorem lrow (u : TypeId) (h : Tryd.prog.typeName? 3 u = some "*errors.errorString") : u = 102 :=
  typeName_ptr_named (nm := "errors.errorString") (by rw [← lstar]; kernel_rfl) (by kernel_rfl) (by decide) u (by rw [← lstar]; exact h)
/-- one entry of the list -/
theorem pick_laid {W : World} {l : List (String × DataW Unit)} (h : laidMetH Tryd.prog l W) (keep : String × DataW Unit → Bool) (x : String × DataW Unit) (hx : l.filter keep = [x]) (hp : x.2.handleName?.isNone = true) : laidMet Tryd.prog [x] W := by
  have k := h.filter keep
  rw [hx, MakeChecks.laidMetH_plain _ _ _ (by simp [hp])] at k
  exact k
theorem glob_of {W : World} (h : laidMetH Tryd.prog Rows.decKnownRow.laid W) : Glob W := by
  have h1 := pick_laid h (fun x => x.1 == "internal/strconv.uint64pow10") ("internal/strconv.uint64pow10", Rows.laid_internal_strconv_uint64pow10) (by kernel_rfl) (by kernel_rfl)
  have h2 := pick_laid h (fun x => x.1 == "strconv.ErrSyntax") ("strconv.ErrSyntax", Rows.laid_strconv_ErrSyntax) (by kernel_rfl) (by kernel_rfl)
  have h3 := pick_laid h (fun x => x.1 == "strconv.ErrRange") ("strconv.ErrRange", Rows.laid_strconv_ErrRange) (by kernel_rfl) (by kernel_rfl)
  obtain ⟨a0, s0, hv0, -, -, -⟩ := laid_sentinel h2 ls1 ls2 Tryd.underlying36 lrow Tryd.underlying102 Tryd.underlying104 rfl rfl Tryd.underlying9 le1 le2
  obtain ⟨a1, s1, hv1, -, -, -⟩ := laid_sentinel h3 lr1 lr2 Tryd.underlying36 lrow Tryd.underlying102 Tryd.underlying104 rfl rfl Tryd.underlying9 le1 le2
  exact ⟨Lib.tabIs_of_head (rest := []) (zs := Lib.pow10Tab) lg1 lg2 Tryd.underlying97 Tryd.underlying66 lg3 lg4 h1, ⟨_, _, hv0⟩, ⟨_, _, hv1⟩⟩
end Go.Proofs.YtnabdepplpaabaaDoor
