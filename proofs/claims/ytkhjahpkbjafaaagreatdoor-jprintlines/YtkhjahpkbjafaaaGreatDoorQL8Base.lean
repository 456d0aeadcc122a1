/- What the laws of JSON's reader share. -/
import Derived.Test.YtkhjahpkbjafaaaGreatDoorQJrThree
import Derived.Test.YtkhjahpkbjafaaaGreatDoorQVOpen
import Derived.Test.YtkhjahpkbjafaaaGreatDoorQRefVal5
import Derived.Test.YtkhjahpkbjafaaaGreatDoorQEscK
/- The statements of layer 8: what the document tells of a few texts. -/
/- The statements of layer 8: what the program reads is what the document reads. -/
namespace Go.Proofs.YtkhjahpkbjafaaaGreatDoor
open Go.RowKit

/-- what awake reads first -/
def tA : VT := .mk 6 0 ⟨#[]⟩ [] [⟨#[97]⟩, ⟨#[98]⟩] [.mk 5 0 ⟨#[]⟩ [] [] [], .mk 2 1 ⟨#[]⟩ [] [] []]
end Go.Proofs.YtkhjahpkbjafaaaGreatDoor
namespace Go.Proofs.YtkhjahpkbjafaaaGreatDoor
open Go.RowKit

mutual
theorem same_me : ∀ T : VT, sameT false T T = true
  | .mk k n s L K V => by
    have h1 := same_meL L
    have h2 := same_meL V
    simp [sameT, strB, VT.kd, VT.nm, VT.st, VT.ls, VT.ks, VT.vs, h1, h2]
theorem same_meL : ∀ L : List VT, sameL false L L = true
  | [] => rfl
  | t :: r => by have h1 := same_me t; have h2 := same_meL r; simp only [sameL, h1, h2, Bool.and_self]
end
end Go.Proofs.YtkhjahpkbjafaaaGreatDoor
namespace Go.Proofs.YtkhjahpkbjafaaaGreatDoor
open Go.RowKit

theorem Tryz.madeB (w : World) : (Instr.makeSlice 34 (.int .i64 0) (.int .i64 0)).run Tryz.prog w = .ok (.slice (some ⟨w.heap.size, 0, none⟩) 0 0) (w.alloc (.cells #[] 5)) := by
  obtain ⟨i, hi, hz, hs, hb⟩ := info_parts Tryz.info_b
  have := run_make (P := Tryz.prog) w 34 5 i _ Tryz.underlying34 hi hz .i64 .i64 0 0 (by omega) (Int.le_refl _) (by rw [hb]; omega) (by omega)
  rw [hs, show (0 : Int).toNat * 1 = 0 from rfl, show ∀ z : Array Value, madeCells z 0 = #[] from fun z => by simp [madeCells]] at this
  exact this
theorem Tryz.madeB_own (w : World) (base : Nat) (hb : base ≤ w.heap.size) : (w.alloc (.cells #[] 5)).ownsRow base 5 1 (.slice (some ⟨w.heap.size, 0, none⟩) 0 0) 0 [] := by
  obtain ⟨i, hi, hz, hs, hb'⟩ := info_parts Tryz.info_b
  obtain ⟨w', h1, h2, -⟩ := run_make_own (P := Tryz.prog) w base 34 5 i _ 1 Tryz.underlying34 hi hz hs .i64 .i64 0 (by omega) (Nat.zero_le _) hb
  have h3 := Tryz.madeB w
  have h4 := h1.symm.trans h3
  injection h4 with _ h5
  rw [← h5]; exact h2
end Go.Proofs.YtkhjahpkbjafaaaGreatDoor
