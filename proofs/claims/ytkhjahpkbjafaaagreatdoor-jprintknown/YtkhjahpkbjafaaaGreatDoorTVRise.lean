/- Keys that rise; pairs: what they take. -/
import Derived.Test.YtkhjahpkbjafaaaGreatDoorTVSameT
import Derived.Test.YtkhjahpkbjafaaaGreatDoorTOrders
import Derived.Deep.LoopGhost
import Derived.Test.YtkhjahpkbjafaaaGreatDoorTDecOne
import Derived.Test.YtkhjahpkbjafaaaGreatDoorTVBase
import Derived.Test.YtkhjahpkbjafaaaGreatDoorTVTextAll
/- value.Same and value.Equal, walked. -/
/- value's makers of single values and of lists, walked; Get. -/
/- value.Get, walked. -/
namespace Go.Proofs.YtkhjahpkbjafaaaGreatDoor
open Go.RowKit

end Go.Proofs.YtkhjahpkbjafaaaGreatDoor
namespace Go.Proofs.YtkhjahpkbjafaaaGreatDoor
open Go.RowKit

/-- a value without parts -/
def leafT (k n : Int) (s : ByteArray) : VT := .mk k n s [] [] []
theorem hv_leaf (w : World) (k n : Int) (s : ByteArray) (hk : (Lit.int .i64 k).wf = true) (hn : (Lit.int .i64 n).wf = true) (hs : s.size ≤ maxLen) : HV w (leafT k n s) (.slice none 0 0) (.slice none 0 0) :=
  (hf_of (lo := 0) (m := 0) (hi := 0) hk hn hs (Nat.le_refl _) (Nat.le_refl _) (lf_nil w 0 0) (mf_nil w 0 0)).hv
/-- a number made -/
def numR (s : ByteArray) : VT := if numB s.data.toList then (if intB s.data.toList then leafT 2 (intV s.data.toList) ⟨#[]⟩ else leafT 3 0 s) else zeroT
def numE (s : ByteArray) : Int := if numB s.data.toList then 0 else 1
def strR (s : ByteArray) : VT := if teI s = 0 then leafT 4 0 s else zeroT
def stampR (s : ByteArray) : VT := if stampB s then leafT 7 0 s else zeroT
def stampE (s : ByteArray) : Int := if stampB s then 0 else 1
theorem list_wf : (Lit.int .i64 5).wf = true ∧ (Lit.int .i64 6).wf = true ∧ (Lit.int .i64 0).wf = true := by decide
end Go.Proofs.YtkhjahpkbjafaaaGreatDoor
namespace Go.Proofs.YtkhjahpkbjafaaaGreatDoor
open Go.RowKit

end Go.Proofs.YtkhjahpkbjafaaaGreatDoor
namespace Go.Proofs.YtkhjahpkbjafaaaGreatDoor
open Go.RowKit

/-- in order by their keys -/
def Rising (A : List (ByteArray × VT)) : Prop := ∀ (i j : Nat) (a b : ByteArray × VT), i < j → A[i]? = some a → A[j]? = some b → ltB b.1.data.toList a.1.data.toList = false
/-- the map that is made of pairs in order, or nothing -/
def mapR (A : List (ByteArray × VT)) : VT := if keI (A.map (·.1)) = 0 then .mk 6 0 ⟨#[]⟩ [] (A.map (·.1)) (A.map (·.2)) else zeroT
end Go.Proofs.YtkhjahpkbjafaaaGreatDoor
