
import Derived.Test.YtkhjahpkbjafaaaGreatDoorTBase
import Derived.Deep.QuietTactic
import Derived.BigQuiet
import Derived.StillTail
import Derived.OrdersHeld
import Derived.Deep.RegionHeld
/- A region that draws its order and whose callees make memory but change none that was there: one walk serves every order, in the class of the worlds above. -/
/- A region that draws its order and whose last operation waits for all others: the others in whatever order, then the last. -/
/- A region that draws its order, of which a beginning has but one order. -/
/- A region that draws its order and is quiet from a point on: the check of its order over the list alone. -/
namespace Go.Proofs.YtkhjahpkbjafaaaGreatDoor
open Go.RowKit

/-- the worlds in which all that was there is as it was -/
structure Abv (w : World) where
  u : World
  h : Below w.heap.size w u
end Go.Proofs.YtkhjahpkbjafaaaGreatDoor
namespace Go.Proofs.YtkhjahpkbjafaaaGreatDoor
open Go.RowKit

section
variable {P : Program} {Q : Exit → Act → World → Prop} {md : Region.Mode}

/-- behind the others comes the last -/
def lastQ (P : Program) (o : Oper) (Q : Exit → Act → World → Prop) : Exit → Act → World → Prop
  | .normal, a, w => o.wp P a w (Q .normal) Q
  | .panic c, a, w => Q (.panic c) a w
  | .outgrown, a, w => Q .outgrown a w
  | .exit i, a, w => Q (.exit i) a w
  | .goto i, a, w => Q (.goto i) a w
  | .ret, a, w => Q .ret a w
/-- two accounts of what has come up, with and without the last -/
structure Both (n : Nat) (listed listedF : Array Bool) : Prop where
  s1 : listed.size = n
  s2 : listedF.size = n + 1
  at_ : ∀ j, j < n → listedF[j]? = listed[j]?
  last : listedF[n]? = some false
theorem Both.set {n : Nat} {listed listedF : Array Bool} (h : Both n listed listedF) {i : Nat} (hi : i < n) : Both n (listed.setIfInBounds i true) (listedF.setIfInBounds i true) := by
  refine ⟨by simpa using h.s1, by simpa using h.s2, fun j hj => ?_, ?_⟩
  · rw [Array.getElem?_setIfInBounds, Array.getElem?_setIfInBounds, h.at_ j hj]
    by_cases e : i = j
    · rw [if_pos e, if_pos e, if_pos (by rw [h.s2]; omega), if_pos (by rw [h.s1]; omega)]
    · rw [if_neg e, if_neg e]
  · rw [Array.getElem?_setIfInBounds, if_neg (by omega)]; exact h.last
/-- one that only reads, taken first -/
theorem take_h {i : Nat} {oi : Oper} {v : Value} {fuel : Nat} {listed : Array Bool} {a : Act} {w : World} {l : List Oper} {S : World → Prop} (hi : l[i]? = some oi)
    (hs : Region.noSelect l.toArray = true) (hf : Region.free md l.toArray listed i = true) (hr : (Region.ready md l.toArray listed).contains i = true)
    (hQ : ∀ c a w, Q (.panic c) (a.put oi.dst v) w → Q (.panic c) a w) (hw : Region.wanted oi (yielded l.toArray a.tmps) = true) (hy : ∀ X, S X → (execOp a.eval oi).run P X = .ok (.value v) X) (hS : S w)
    (h : wpAnyH P md l.toArray Q S fuel (listed.setIfInBounds i true) (a.put oi.dst v) w) : wpAnyH P md l.toArray Q S (fuel + 1) listed a w :=
  wpAnyH_take (by rw [List.getElem?_toArray]; exact hi) hs hf hr hQ (Or.inl ⟨hw, hy⟩) hS h
/-- the one that may come up now -/
theorem step_h {i : Nat} {oi : Oper} {fuel : Nat} {listed : Array Bool} {a : Act} {w : World} {l : List Oper} {S : World → Prop} (hi : l[i]? = some oi) (hr : Region.ready md l.toArray listed = [i])
    (h : ∀ K : Act → World → Prop, Shut (∀ a w, S w → (S w → wpAnyH P md l.toArray Q S fuel (listed.setIfInBounds i true) a w) → K a w) → if Region.wanted oi (yielded l.toArray a.tmps) = true then Oper.wp P oi a w K Q else K (a.put oi.dst undef) w) : wpAnyH P md l.toArray Q S (fuel + 1) listed a w :=
  wpAnyH_ready hr (by simp) (AllReadyH.cons (by rw [List.getElem?_toArray]; exact hi) h AllReadyH.nil)
end
end Go.Proofs.YtkhjahpkbjafaaaGreatDoor
namespace Go.Proofs.YtkhjahpkbjafaaaGreatDoor
open Go.RowKit

section
variable {P : Program} {md : Region.Mode} {C : World → Prop}
/-- one after the other up to n, and nothing else before -/
def rowOk (md : Region.Mode) (n k : Nat) (o : Oper) : Bool :=
  if k < n then o.after.all (fun e => !Region.binds md e || decide (e.on < k)) && (decide (k = 0) || o.after.any (fun e => Region.binds md e && decide (e.on + 1 = k)))
  else o.after.any (fun e => Region.binds md e && decide (n ≤ e.on + 1))
def rowL (md : Region.Mode) (n : Nat) : Nat → List Oper → Bool
  | _, [] => true
  | k, o :: r => rowOk md n k o && rowL md n (k + 1) r
/-- the first k have come up -/
def FirstK (listed : Array Bool) (m k : Nat) : Prop := listed.size = m ∧ ∀ j, j < m → listed[j]? = some (decide (j < k))
theorem FirstK.next {listed : Array Bool} {m k : Nat} (h : FirstK listed m k) : FirstK (listed.setIfInBounds k true) m (k + 1) := by
  refine ⟨by simpa using h.1, fun j hj => ?_⟩
  rw [Array.getElem?_setIfInBounds]
  split
  · next e => subst e; rw [if_pos (by rw [h.1]; exact hj)]; simp
  · next e => rw [h.2 j hj]; congr 1; rw [decide_eq_decide]; omega
theorem FirstK.below {listed : Array Bool} {m k i : Nat} (h : FirstK listed m k) (hi : listed.getD i false = true) : i < k := by
  rcases Nat.lt_or_ge i m with hm | hm
  · have := h.2 i hm
    simp [Array.getD_eq_getD_getElem?, this] at hi
    exact hi
  · simp [Array.getD_eq_getD_getElem?, Array.getElem?_eq_none (show listed.size ≤ i by rw [h.1]; exact hm)] at hi
theorem FirstK.out {listed : Array Bool} {m k : Nat} (h : FirstK listed m k) (hm : k < m) : listed.getD k true = false := by
  have := h.2 k hm
  simp [Array.getD_eq_getD_getElem?, this]
end
end Go.Proofs.YtkhjahpkbjafaaaGreatDoor
namespace Go.Proofs.YtkhjahpkbjafaaaGreatDoor
open Go.RowKit

section
variable {P : Program} {md : Region.Mode} {C : World → Prop}
/-- what comes up in the order of the text may do so -/
def lexL (md : Region.Mode) (ops : Array Oper) : Nat → List Oper → Bool
  | _, [] => true
  | k, o :: r => o.after.all (fun e => !Region.binds md e || decide (e.on < k)) && r.all (fun oj => oj.after.any (fun e => Region.binds md e && e.on == k) || o.apart ops oj) && lexL md ops (k + 1) r
theorem wp_region_h {id : Nat} {Q : Exit → Act → World → Prop} {a : Act} {w : World} {l : List Oper} {S : World → Prop} (n : Nat) (hm : P.follows .mixedOrders = true) (hn : l.length = n)
    (h : wpAnyH P .any l.toArray Q S n (Array.replicate n false) a w.drew) : (Code.region id l.toArray true).wp P Q a w := by
  subst hn
  refine wp_region_any hm ?_
  have := wpAny_of_held _ _ _ _ h
  simpa using this
end
end Go.Proofs.YtkhjahpkbjafaaaGreatDoor
