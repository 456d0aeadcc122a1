/- What the laws' list of variables gives: the library's two errors. -/
import Derived.Test.YtgfkhnpbkdddbaaGreatDoorDecOne
import Derived.Stop.LaidErr
import Derived.LaidSub
import Derived.MakeChecks
namespace Go.Proofs.YtgfkhnpbkdddbaaGreatDoor
open Go.RowKit

theorem ls1 : Tryz.prog.globalNamed "strconv.ErrSyntax" = some 1 := by kernel_rfl
theorem ls2 : (Tryz.prog.globals[1]?).map (·.type) = some 119 := by kernel_rfl
theorem lr1 : Tryz.prog.globalNamed "strconv.ErrRange" = some 2 := by kernel_rfl
theorem lr2 : (Tryz.prog.globals[2]?).map (·.type) = some 119 := by kernel_rfl
theorem le1 : Tryz.prog.cellsOf 235 = 1 := by kernel_rfl
theorem le2 : Tryz.prog.cellsOf 9 = 1 := by kernel_rfl
theorem lstar : "*errors.errorString" = "*" ++ "errors.errorString" := by decide
theorem lrow (u : TypeId) (h : Tryz.prog.typeName? 3 u = some "*errors.errorString") : u = 233 :=
  typeName_ptr_named (nm := "errors.errorString") (by rw [← lstar]; kernel_rfl) (by kernel_rfl) (by decide) u (by rw [← lstar]; exact h)
/-- one entry of the list -/
theorem pick_laid {W : World} {l : List (String × DataW Unit)} (h : laidMetH Tryz.prog l W) (keep : String × DataW Unit → Bool) (x : String × DataW Unit) (hx : l.filter keep = [x]) (hp : x.2.handleName?.isNone = true) : laidMet Tryz.prog [x] W := by
  have k := h.filter keep
  rw [hx, MakeChecks.laidMetH_plain _ _ _ (by simp [hp])] at k
  exact k
theorem glob_gen {W : World} {l : List (String × DataW Unit)} (h : laidMetH Tryz.prog l W) (e1 : l.filter (fun x => x.1 == "strconv.ErrSyntax") = [("strconv.ErrSyntax", Rows.laid_strconv_ErrSyntax)]) (e2 : l.filter (fun x => x.1 == "strconv.ErrRange") = [("strconv.ErrRange", Rows.laid_strconv_ErrRange)]) : Glob W := by
  have h2 := pick_laid h (fun x => x.1 == "strconv.ErrSyntax") ("strconv.ErrSyntax", Rows.laid_strconv_ErrSyntax) e1 (by kernel_rfl)
  have h3 := pick_laid h (fun x => x.1 == "strconv.ErrRange") ("strconv.ErrRange", Rows.laid_strconv_ErrRange) e2 (by kernel_rfl)
  obtain ⟨a0, s0, hv0, -, -, -⟩ := laid_sentinel h2 ls1 ls2 Tryz.underlying119 lrow Tryz.underlying233 Tryz.underlying235 rfl rfl Tryz.underlying9 le1 le2
  obtain ⟨a1, s1, hv1, -, -, -⟩ := laid_sentinel h3 lr1 lr2 Tryz.underlying119 lrow Tryz.underlying233 Tryz.underlying235 rfl rfl Tryz.underlying9 le1 le2
  exact ⟨⟨_, _, hv0⟩, ⟨_, _, hv1⟩⟩
theorem glob_gets {W : World} (h : laidMetH Tryz.prog Rows.valueGetsRow.laid W) : Glob W := glob_gen h (by kernel_rfl) (by kernel_rfl)
theorem glob_makes {W : World} (h : laidMetH Tryz.prog Rows.valueMakesRow.laid W) : Glob W := glob_gen h (by kernel_rfl) (by kernel_rfl)
theorem glob_new {W : World} (h : laidMetH Tryz.prog Rows.valueNewRow.laid W) : Glob W := glob_gen h (by kernel_rfl) (by kernel_rfl)
end Go.Proofs.YtgfkhnpbkdddbaaGreatDoor
