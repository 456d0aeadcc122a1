/- What the laws' list of variables gives: the tables of the decoder of letters. -/
import Derived.Test.YtoamndiblckdlaaGreatDoorShelf3
import Derived.Test.YtoamndiblckdlaaGreatDoorGlobU
import Derived.LaidSub
import Derived.MakeChecks
import Derived.Lib.LaidU8
namespace Go.Proofs.YtoamndiblckdlaaGreatDoor
open Go.RowKit

theorem ju1 : Rows.laid_unicode_utf8_first = Lib.firstData := by kernel_rfl
theorem ju2 : (Rows.laid_unicode_utf8_acceptRanges : DataW Unit) = Lib.acceptData := by kernel_rfl
theorem Tryz.u8x : U8Extra Tryz.prog Tryz.lays230_ren where
  n3 := by kernel_rfl
  n4 := by kernel_rfl
  y3 := by kernel_rfl
  y4 := by kernel_rfl
  c5 := by kernel_rfl
  c119 := by kernel_rfl
  c138 := by kernel_rfl
/-- one entry of the list -/
theorem jpick {W : World} {l : List (String × DataW Unit)} (h : laidMetH Tryz.prog l W) (keep : String × DataW Unit → Bool) (x : String × DataW Unit) (hx : l.filter keep = [x]) (hp : x.2.handleName?.isNone = true) : laidMet Tryz.prog [x] W := by
  have k := h.filter keep
  rw [hx, MakeChecks.laidMetH_plain _ _ _ (by simp [hp])] at k
  exact k
theorem glob_u {W : World} (h : laidMetH Tryz.prog Rows.jlexKnownRow.laid W) : GlobU W := by
  have h1 := jpick h (fun x => x.1 == "unicode/utf8.first") ("unicode/utf8.first", Rows.laid_unicode_utf8_first) (by kernel_rfl) (by kernel_rfl)
  have h2 := jpick h (fun x => x.1 == "unicode/utf8.acceptRanges") ("unicode/utf8.acceptRanges", Rows.laid_unicode_utf8_acceptRanges) (by kernel_rfl) (by kernel_rfl)
  have r1 := Lib.laidMet.reads h1 (List.mem_singleton.2 rfl)
  have r2 := Lib.laidMet.reads h2 (List.mem_singleton.2 rfl)
  rw [ju1] at r1
  rw [ju2] at r2
  exact utf8Tabs_of_reads { Tryz.lays230 with } Tryz.u8x r1 r2
end Go.Proofs.YtoamndiblckdlaaGreatDoor
