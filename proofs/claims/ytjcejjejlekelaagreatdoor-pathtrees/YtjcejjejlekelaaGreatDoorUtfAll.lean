import Derived.Test.YtjcejjejlekelaaGreatDoorBase
namespace Go.Proofs.YtjcejjejlekelaaGreatDoor
open Go.RowKit

end Go.Proofs.YtjcejjejlekelaaGreatDoor
namespace Go.Proofs.YtjcejjejlekelaaGreatDoor
open Go.RowKit

end Go.Proofs.YtjcejjejlekelaaGreatDoor
namespace Go.Proofs.YtjcejjejlekelaaGreatDoor
open Go.RowKit

end Go.Proofs.YtjcejjejlekelaaGreatDoor
namespace Go.Proofs.YtjcejjejlekelaaGreatDoor
open Go.RowKit

theorem take_tests (F n : Nat) : ((goodN F && decide (wdN F = n)) = true → goodB (F : Int) = true ∧ (wdI (F : Int) != (n : Int)) = false)
    ∧ ((goodN F && decide (wdN F = n)) = false → goodB (F : Int) = false ∨ (goodB (F : Int) = true ∧ (wdI (F : Int) != (n : Int)) = true)) := by
  rw [goodB_goodN]
  have hw : wdI (F : Int) = (wdN F : Int) := wdI_wdN F
  rw [hw]
  cases goodN F <;> simp <;> omega

end Go.Proofs.YtjcejjejlekelaaGreatDoor
namespace Go.Proofs.YtjcejjejlekelaaGreatDoor
open Go.RowKit

end Go.Proofs.YtjcejjejlekelaaGreatDoor
