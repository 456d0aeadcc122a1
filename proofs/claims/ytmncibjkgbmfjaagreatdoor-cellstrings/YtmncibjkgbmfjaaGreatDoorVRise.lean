/- Keys that rise; pairs: what they take. -/
import Derived.Test.YtmncibjkgbmfjaaGreatDoorVBase
import Derived.Test.YtmncibjkgbmfjaaGreatDoorVPlus
namespace Go.Proofs.YtmncibjkgbmfjaaGreatDoor
open Go.RowKit

/-- in order by their keys -/
def Rising (A : List (ByteArray × VT)) : Prop := ∀ (i j : Nat) (a b : ByteArray × VT), i < j → A[i]? = some a → A[j]? = some b → ltB b.1.data.toList a.1.data.toList = false
theorem Tryz.info34 : (Tryz.prog.info? 54).map (fun i => (i.zero, i.size, i.bytes)) = some (some (.agg #[.string ⟨#[]⟩, .int .i64 0, .int .i64 0, .string ⟨#[]⟩, .slice none 0 0, .slice none 0 0]), 6, 96) := by kernel_rfl
theorem add_off (b off i : Nat) : Addr.add ⟨b, off, none⟩ i = ⟨b, off + i, none⟩ := by
  simp only [Addr.add]; split
  · next h0 => rw [h0]; rfl
  · rfl
/-- the map that is made of pairs in order, or nothing -/
def mapR (A : List (ByteArray × VT)) : VT := if keI (A.map (·.1)) = 0 then .mk 6 0 ⟨#[]⟩ [] (A.map (·.1)) (A.map (·.2)) else zeroT
theorem in_nil (w : World) : InM w [] [] (.slice none 0 0) := (mf_nil w 0 0).inM
end Go.Proofs.YtmncibjkgbmfjaaGreatDoor
