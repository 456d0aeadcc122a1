/- What the laws' list of variables gives: the decoder's tables, the library's two errors. -/
import Derived.Test.YtkhjahpkbjafaaaGreatDoorUBaseDec
import Derived.Test.YtkhjahpkbjafaaaGreatDoorUEscDoc
import Derived.Test.YtkhjahpkbjafaaaGreatDoorUDecOne
import Derived.Stop.LaidErr
import Derived.LaidSub
import Derived.MakeChecks
import Derived.Lib.LaidU8
namespace Go.Proofs.YtkhjahpkbjafaaaGreatDoor
open Go.RowKit

theorem ju1 : Rows.laid_unicode_utf8_first = Lib.firstData := by kernel_rfl
theorem ju2 : (Rows.laid_unicode_utf8_acceptRanges : DataW Unit) = Lib.acceptData := by kernel_rfl
theorem Tryz.u8x : U8Extra Tryz.prog Tryz.lays230_ren where
  n3 := by kernel_rfl
  n4 := by kernel_rfl
  y3 := by kernel_rfl
  y4 := by kernel_rfl
  c5 := by kernel_rfl
  c119 := by kernel_rfl
  c138 := by kernel_rfl
theorem ls1 : Tryz.prog.globalNamed "strconv.ErrSyntax" = some 2 := by kernel_rfl
theorem ls2 : (Tryz.prog.globals[2]?).map (·.type) = some 108 := by kernel_rfl
theorem lr1 : Tryz.prog.globalNamed "strconv.ErrRange" = some 3 := by kernel_rfl
theorem lr2 : (Tryz.prog.globals[3]?).map (·.type) = some 108 := by kernel_rfl
theorem le1 : Tryz.prog.cellsOf 247 = 1 := by kernel_rfl
theorem le2 : Tryz.prog.cellsOf 9 = 1 := by kernel_rfl
theorem lstar : "*errors.errorString" = "*" ++ "errors.errorString" := by decide
theorem lrow (u : TypeId) (h : Tryz.prog.typeName? 3 u = some "*errors.errorString") : u = 245 :=
  typeName_ptr_named (nm := "errors.errorString") (by rw [← lstar]; kernel_rfl) (by kernel_rfl) (by decide) u (by rw [← lstar]; exact h)
/-- one entry of the list -/
theorem pick_laid {W : World} {l : List (String × DataW Unit)} (h : laidMetH Tryz.prog l W) (keep : String × DataW Unit → Bool) (x : String × DataW Unit) (hx : l.filter keep = [x]) (hp : x.2.handleName?.isNone = true) : laidMet Tryz.prog [x] W := by
  have k := h.filter keep
  rw [hx, MakeChecks.laidMetH_plain _ _ _ (by simp [hp])] at k
  exact k
/-- what the walks take of the variables -/
def Globs (W : World) : Prop := Glob W ∧ GlobU W
theorem globs_gen {W : World} {l : List (String × DataW Unit)} (h : laidMetH Tryz.prog l W) (e1 : l.filter (fun x => x.1 == "strconv.ErrSyntax") = [("strconv.ErrSyntax", Rows.laid_strconv_ErrSyntax)]) (e2 : l.filter (fun x => x.1 == "strconv.ErrRange") = [("strconv.ErrRange", Rows.laid_strconv_ErrRange)])
    (e3 : l.filter (fun x => x.1 == "unicode/utf8.first") = [("unicode/utf8.first", Rows.laid_unicode_utf8_first)]) (e4 : l.filter (fun x => x.1 == "unicode/utf8.acceptRanges") = [("unicode/utf8.acceptRanges", Rows.laid_unicode_utf8_acceptRanges)]) : Globs W := by
  have h2 := pick_laid h (fun x => x.1 == "strconv.ErrSyntax") ("strconv.ErrSyntax", Rows.laid_strconv_ErrSyntax) e1 (by kernel_rfl)
  have h3 := pick_laid h (fun x => x.1 == "strconv.ErrRange") ("strconv.ErrRange", Rows.laid_strconv_ErrRange) e2 (by kernel_rfl)
  have h4 := pick_laid h (fun x => x.1 == "unicode/utf8.first") ("unicode/utf8.first", Rows.laid_unicode_utf8_first) e3 (by kernel_rfl)
  have h5 := pick_laid h (fun x => x.1 == "unicode/utf8.acceptRanges") ("unicode/utf8.acceptRanges", Rows.laid_unicode_utf8_acceptRanges) e4 (by kernel_rfl)
  obtain ⟨a0, s0, hv0, -, -, -⟩ := laid_sentinel h2 ls1 ls2 Tryz.underlying108 lrow Tryz.underlying245 Tryz.underlying247 rfl rfl Tryz.underlying9 le1 le2
  obtain ⟨a1, s1, hv1, -, -, -⟩ := laid_sentinel h3 lr1 lr2 Tryz.underlying108 lrow Tryz.underlying245 Tryz.underlying247 rfl rfl Tryz.underlying9 le1 le2
  have r1 := Lib.laidMet.reads h4 (List.mem_singleton.2 rfl)
  have r2 := Lib.laidMet.reads h5 (List.mem_singleton.2 rfl)
  rw [ju1] at r1
  rw [ju2] at r2
  exact ⟨⟨⟨_, _, hv0⟩, ⟨_, _, hv1⟩⟩, utf8Tabs_of_reads { Tryz.lays230 with } Tryz.u8x r1 r2⟩
end Go.Proofs.YtkhjahpkbjafaaaGreatDoor
