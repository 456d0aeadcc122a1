/- The library's table of powers, and a number's digits written by it. -/
import Derived.Test.YtadbeodeiijhdaaGreatDoorKDecOne
import Derived.Test.YtadbeodeiijhdaaGreatDoorKOrders
import Derived.Lib.AppendIntMem
import Derived.Test.YtadbeodeiijhdaaGreatDoorKVSameT
import Derived.Test.YtadbeodeiijhdaaGreatDoorKCeA
import Derived.Test.YtadbeodeiijhdaaGreatDoorKVGood
/- Plain mathematics: trees that are alike, strictly, are one. -/
/- Package cell, walked: writeString, write, Text. -/
namespace Go.Proofs.YtadbeodeiijhdaaGreatDoor
open Go.RowKit

/-- the table of powers that the library's writing of a number reads -/
def GlobW (w : World) : Prop := Lib.TabIs Tryz.prog w "internal/strconv.uint64pow10" .u64 Lib.pow10Tab
theorem GlobW.on {w w' : World} (h : GlobW w) (hb : Below w.heap.size w w') : GlobW w' := var_on hb h
end Go.Proofs.YtadbeodeiijhdaaGreatDoor
namespace Go.Proofs.YtadbeodeiijhdaaGreatDoor
open Go.RowKit

mutual
theorem same_eq : ∀ T U : VT, sameT false T U = true → T = U
  | .mk k n s L K V, .mk k' n' s' L' K' V', h => by
    rw [sameT, Bool.and_eq_true, Bool.and_eq_true, Bool.and_eq_true, Bool.and_eq_true] at h
    obtain ⟨⟨⟨⟨h0, h5⟩, h6⟩, h7⟩, h8⟩ := h
    obtain ⟨h1, h2, h3, h4⟩ := of_decide_eq_true h0
    have h7 : K = K' := of_decide_eq_true h7
    have h1 : k = k' := h1
    have h2 : n = n' := h2
    have h5 : strB false k s s' = true := h5
    unfold strB at h5
    simp at h5
    rw [h1, h2, h5, h7, sameL_eq L L' h3 h6, sameL_eq V V' h4 h8]
theorem sameL_eq : ∀ L M : List VT, L.length = M.length → sameL false L M = true → L = M
  | [], [], _, _ => rfl
  | [], _ :: _, h, _ => by simp at h
  | _ :: _, [], h, _ => by simp at h
  | t :: r, u :: q, h, g => by
    rw [sameL, Bool.and_eq_true] at g
    rw [same_eq t u g.1, sameL_eq r q (by simpa using h) g.2]
end
mutual
theorem eq_same : ∀ T : VT, sameT false T T = true
  | .mk k n s L K V => by
    have h1 := eqL_same L
    have h2 := eqL_same V
    simp [sameT, strB, VT.kd, VT.nm, VT.st, VT.ls, VT.ks, VT.vs, h1, h2]
theorem eqL_same : ∀ L : List VT, sameL false L L = true
  | [] => by rw [sameL]
  | t :: r => by rw [sameL, eq_same t, eqL_same r]; rfl
end
end Go.Proofs.YtadbeodeiijhdaaGreatDoor
namespace Go.Proofs.YtadbeodeiijhdaaGreatDoor
open Go.RowKit

def GlobC5 (w : World) : Prop := Glob w ∧ GlobW w
theorem GlobC5.on {w w' : World} (h : GlobC5 w) (hb : Below w.heap.size w w') : GlobC5 w' := ⟨h.1.on hb, h.2.on hb⟩
end Go.Proofs.YtadbeodeiijhdaaGreatDoor
