/- What the laws' list of variables gives: the library's two errors. -/
import Derived.Test.YtnpojefcibfgkabGreatDoorDecI
import Derived.Stop.LaidErr
import Derived.LaidSub
import Derived.MakeChecks
namespace Go.Proofs.YtnpojefcibfgkabGreatDoor
open Go.RowKit

theorem ls1 : Tryz.prog.globalNamed "strconv.ErrSyntax" = some 1 := by kernel_rfl
theorem ls2 : (Tryz.prog.globals[1]?).map (·.type) = some 70 := by kernel_rfl
theorem lr1 : Tryz.prog.globalNamed "strconv.ErrRange" = some 2 := by kernel_rfl
theorem lr2 : (Tryz.prog.globals[2]?).map (·.type) = some 70 := by kernel_rfl
theorem le1 : Tryz.prog.cellsOf 140 = 1 := by kernel_rfl
theorem le2 : Tryz.prog.cellsOf 9 = 1 := by kernel_rfl
theorem lstar : "*errors.errorString" = "*" ++ "errors.errorString" := by decide
theorem lrow (u : TypeId) (h : Tryz.prog.typeName? 3 u = some "*errors.errorString") : u = 138 :=
  typeName_ptr_named (nm := "errors.errorString") (by rw [← lstar]; kernel_rfl) (by kernel_rfl) (by decide) u (by rw [← lstar]; exact h)
/-- one entry of the list -/
theorem pick_laid {W : World} {l : List (String × DataW Unit)} (h : laidMetH Tryz.prog l W) (keep : String × DataW Unit → Bool) (x : String × DataW Unit) (hx : l.filter keep = [x]) (hp : x.2.handleName?.isNone = true) : laidMet Tryz.prog [x] W := by
  have k := h.filter keep
  rw [hx, MakeChecks.laidMetH_plain _ _ _ (by simp [hp])] at k
  exact k
theorem glob_of {W : World} (h : laidMetH Tryz.prog Rows.valueLikesRow.laid W) : Glob W := by
  have h2 := pick_laid h (fun x => x.1 == "strconv.ErrSyntax") ("strconv.ErrSyntax", Rows.laid_strconv_ErrSyntax) (by kernel_rfl) (by kernel_rfl)
  have h3 := pick_laid h (fun x => x.1 == "strconv.ErrRange") ("strconv.ErrRange", Rows.laid_strconv_ErrRange) (by kernel_rfl) (by kernel_rfl)
  obtain ⟨a0, s0, hv0, -, -, -⟩ := laid_sentinel h2 ls1 ls2 Tryz.underlying70 lrow Tryz.underlying138 Tryz.underlying140 rfl rfl Tryz.underlying9 le1 le2
  obtain ⟨a1, s1, hv1, -, -, -⟩ := laid_sentinel h3 lr1 lr2 Tryz.underlying70 lrow Tryz.underlying138 Tryz.underlying140 rfl rfl Tryz.underlying9 le1 le2
  exact ⟨⟨_, _, hv0⟩, ⟨_, _, hv1⟩⟩
end Go.Proofs.YtnpojefcibfgkabGreatDoor
