
import Derived.Test.YtjcgkihkjjaefaaGreatDoorHPathOne
import Derived.Test.YtjcgkihkjjaefaaGreatDoorHRefVal5
import Derived.Test.YtjcgkihkjjaefaaGreatDoorHOrders
import Derived.Test.YtjcgkihkjjaefaaGreatDoorHVHold
import Derived.Deep.AppendLies
import Derived.BigQuiet
/- The document's side: may a path be? -/
/- The document's side: a path as its own steps. -/
/- The document's side: are two paths alike? -/
namespace Go.Proofs.YtjcgkihkjjaefaaGreatDoor
open Go.RowKit

/-- a step may be -/
def stepOk (s : PStep) : Bool := if s.place = true then (s.key.toList.isEmpty && decide (0 ≤ s.at_ ∧ s.at_ ≤ 1000000000)) else (decide (s.at_ = 0) && strOkB s.key)
def pathOk (p : List PStep) : Bool := decide (p.length ≤ 50) && p.all stepOk
end Go.Proofs.YtjcgkihkjjaefaaGreatDoor
namespace Go.Proofs.YtjcgkihkjjaefaaGreatDoor
open Go.RowKit

/-- a step's cells -/
def sc (s : PStep) : List Value := [.string s.key, .int .i64 s.at_, .bool s.place]
theorem sc_one (s : PStep) : ∀ u ∈ sc s, u.oneCell' = true := by
  intro u hu
  unfold sc at hu
  simp at hu
  rcases hu with rfl | rfl | rfl <;> rfl
/-- a slice of one's own that holds steps is a path -/
theorem own_inp {w : World} {base : Nat} {v : Value} {p : List PStep} {ty : TypeId} (h : w.ownsRow base ty 3 v p.length (p.flatMap sc)) (hp : ∀ s ∈ p, s.key.size ≤ maxLen) : InP w p v := by
  have hc := h
  rcases hc with ⟨-, ⟨rfl, h0⟩ | ⟨g, cap, cur, rfl, -, -, hn, hcm, -, -⟩⟩
  · have : p = [] := List.eq_nil_of_length_eq_zero h0
    subst this
    exact ⟨⟨0, 0, none⟩, ⟨none, 0, rfl, Nat.le_refl _, Nat.zero_le _, fun h => absurd h (by simp)⟩, fun i s h => by simp at h⟩
  have key : ∀ (i : Nat) (s : PStep), p[i]? = some s → ∀ (c : Nat) (u : Value), (sc s)[c]? = some u → w.cell? ⟨g, i * 3 + c, none⟩ = some u := by
    intro i s hs c u hu
    have hi := lt_of_some hs
    have hc : c < 3 := lt_of_some hu
    rw [h.cellAt (i * 3 + c) (by omega), flat_at sc 3 (fun _ => rfl) p i c s hs hc]
    exact hu
  refine ⟨⟨g, 0, none⟩, ⟨_, _, rfl, hn, hcm, fun _ => rfl⟩, fun i s hs => ?_⟩
  rw [add_at]
  exact ⟨key i s hs 0 _ rfl, key i s hs 1 _ rfl, key i s hs 2 _ rfl, hp s (List.mem_of_getElem? hs)⟩
end Go.Proofs.YtjcgkihkjjaefaaGreatDoor
namespace Go.Proofs.YtjcgkihkjjaefaaGreatDoor
open Go.RowKit

end Go.Proofs.YtjcgkihkjjaefaaGreatDoor
