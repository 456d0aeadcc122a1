
import Derived.Test.YtadbeodeiijhdaaGreatDoorKOwnB
import Derived.Test.YtadbeodeiijhdaaGreatDoorKPathDoc
import Derived.Test.YtadbeodeiijhdaaGreatDoorKRefVal7
import Derived.Test.YtadbeodeiijhdaaGreatDoorKVHold
import Derived.Test.YtadbeodeiijhdaaGreatDoorKRefMake
/- The document's side: what stands at a path. -/
/- The document's side: a tree, or nothing. -/
/- Plain mathematics: what is set, or dropped, at a path, told from its first step on. -/
/- With on a tree's pairs: the same keys with one value in its place, or one key more where it belongs. -/
/- The document's side: what is set at a path. -/
namespace Go.Proofs.YtadbeodeiijhdaaGreatDoor
open Go.RowKit

/-- a tree's box that may be written to, and a fresh one behind it -/
structure Twob (w : World) (b : Nat) (U : VT) (x y : Value) : Prop where
  node : Node w ⟨b, 0, none⟩ U x y
  soft : Row w b 26 5
  zero : Z5 w (b + 1)
theorem Twob.onto {w w' : World} {b : Nat} {U : VT} {x y : Value} (h : Twob w b U x y) (hb : Below w.heap.size w w') : Twob w' b U x y :=
  ⟨h.node.onto hb, h.soft.onto (hb.block b (World.block_lt_of_cell? w ⟨b, 0, none⟩ h.node.1)), h.zero.onto hb⟩
theorem z5_far {w W : World} {b : Nat} (h : Z5 w b) (e : W.heap[b]? = w.heap[b]?) : Z5 W b := by
  obtain ⟨⟨h0, h1, h2, h3, h4⟩, hf⟩ := h
  have c : ∀ o, W.cell? ⟨b, o, none⟩ = w.cell? ⟨b, o, none⟩ := fun o => World.cell?_of_block (a := ⟨b, o, none⟩) e
  exact ⟨⟨(c 0).trans h0, (c 1).trans h1, (c 2).trans h2, (c 3).trans h3, (c 4).trans h4⟩, fun o => (World.frozen?_of_block (a := ⟨b, o, none⟩) e).trans (hf o)⟩
end Go.Proofs.YtadbeodeiijhdaaGreatDoor
namespace Go.Proofs.YtadbeodeiijhdaaGreatDoor
open Go.RowKit

end Go.Proofs.YtadbeodeiijhdaaGreatDoor
namespace Go.Proofs.YtadbeodeiijhdaaGreatDoor
open Go.RowKit

end Go.Proofs.YtadbeodeiijhdaaGreatDoor
namespace Go.Proofs.YtadbeodeiijhdaaGreatDoor
open Go.RowKit

end Go.Proofs.YtadbeodeiijhdaaGreatDoor
namespace Go.Proofs.YtadbeodeiijhdaaGreatDoor
open Go.RowKit

theorem hs_zero (w : World) (S : Nat → Prop) : HS w S zeroT (.slice none 0 0) (.slice none 0 0) :=
  .mk ⟨0, 0, none⟩ ⟨0, 0, none⟩ (fun _ => .int .i64 0) (fun _ => .int .i64 0) (fun _ => .int .i64 0) (fun _ => .int .i64 0) (by decide) (by decide) (by decide)
    ⟨none, 0, rfl, Nat.le_refl _, Nat.zero_le _, fun h => absurd h (Nat.lt_irrefl 0)⟩ ⟨none, 0, rfl, Nat.le_refl _, Nat.zero_le _, fun h => absurd h (Nat.lt_irrefl 0)⟩ rfl
    (fun h => absurd h (Nat.lt_irrefl 0)) (fun h => absurd h (Nat.lt_irrefl 0)) (fun i t h => by simp at h) (fun i t h => by simp at h) (fun i t h => by simp at h) (fun i t h => by simp at h) (fun i t h => by simp at h)
/-- the three boxes of Set: a tree, what is put in, the result -/
structure S5 (w wr : World) (T : VT) (x y : Value) (U : VT) (x' y' : Value) : Prop where
  node : Node wr ⟨w.heap.size, 0, none⟩ T x y
  nodx : Node wr ⟨w.heap.size + 1, 0, none⟩ U x' y'
  zero : Z5 wr (w.heap.size + 1 + 1)
  bel : Below w.heap.size w wr
  big : w.heap.size + 3 ≤ wr.heap.size
theorem S5.onto {w wr wr' : World} {T : VT} {x y : Value} {U : VT} {x' y' : Value} (h : S5 w wr T x y U x' y') (hb : Below (w.heap.size + 3) wr wr') : S5 w wr' T x y U x' y' := by
  have h1 := h.big
  have h2 := hb.size
  exact ⟨h.node.eqs (hb.block _ (by show w.heap.size < _; omega)), h.nodx.eqs (hb.block _ (by show w.heap.size + 1 < _; omega)), z5_far h.zero (hb.block _ (by omega)), h.bel.trans (hb.mono (by omega)), by omega⟩
theorem S5.on {w wr wr' : World} {T : VT} {x y : Value} {U : VT} {x' y' : Value} (h : S5 w wr T x y U x' y') (hb : Below wr.heap.size wr wr') : S5 w wr' T x y U x' y' := h.onto (hb.mono h.big)
/-- what Set answers -/
def Set5 (o : Option VT) (w : World) (e : Ending) (w' : World) : Prop := ∃ R X Y, e = .returned (.tuple #[vv R X Y, .bool o.isSome]) ∧ R = o.getD zeroT ∧ HS w' (fun k => w.heap.size ≤ k ∧ k < w'.heap.size) R X Y ∧ Below w.heap.size w w'
theorem put5_hs {w : World} {b lo : Nat} {T : VT} {x y v0 v1 v2 v3 v4 : Value} (hb : b < lo) (h : HS w (fun k => lo ≤ k ∧ k < w.heap.size) T x y) {lo' : Nat} (hl : lo' ≤ lo) : HS (put5 w b 0 v0 v1 v2 v3 v4) (fun k => lo' ≤ k ∧ k < (put5 w b 0 v0 v1 v2 v3 v4).heap.size) T x y := by
  rw [put5_size]
  exact h.onto (fun k hk => put5_heap _ _ _ _ _ _ _ _ _ (by omega)) (fun k hk => ⟨by omega, hk.2⟩)
theorem own_far {w : World} {base : Nat} {ty : TypeId} {k n : Nat} {v : Value} {xs : List Value} (h : w.ownsRow base ty k v n xs) (b o : Nat) (u : Value) (hb : ∀ g, v.ownBlock = some g → ¬ g = b) : (w.setCell ⟨b, o, none⟩ u).ownsRow base ty k v n xs := by
  refine h.kept (set_grown w b o u) ?_
  cases hv : v.ownBlock with
  | none => exact Or.inl rfl
  | some g => exact Or.inr (fun e => by injection e with e; exact hb g hv e)
theorem own_far5 {w : World} {base : Nat} {ty : TypeId} {k n : Nat} {v : Value} {xs : List Value} (h : w.ownsRow base ty k v n xs) (b o : Nat) (v0 v1 v2 v3 v4 : Value) (hb : ∀ g, v.ownBlock = some g → ¬ g = b) : (put5 w b o v0 v1 v2 v3 v4).ownsRow base ty k v n xs := by
  unfold put5
  exact own_far (own_far (own_far (own_far (own_far h _ _ _ hb) _ _ _ hb) _ _ _ hb) _ _ _ hb) _ _ _ hb
theorem ls_nil (w : World) (S : Nat → Prop) : LS w S [] (.slice none 0 0) := ⟨⟨0, 0, none⟩, fun _ => .nilIface, fun _ => .nilIface, ⟨none, 0, rfl, Nat.le_refl _, Nat.zero_le _, fun h => absurd h (by simp)⟩, fun h => absurd h (by simp), fun i t h => by simp at h, fun i t h => by simp at h⟩
theorem ms_nil (w : World) (S : Nat → Prop) : MS w S [] [] (.slice none 0 0) := ⟨⟨0, 0, none⟩, fun _ => .nilIface, fun _ => .nilIface, ⟨none, 0, rfl, Nat.le_refl _, Nat.zero_le _, fun h => absurd h (by simp)⟩, rfl, fun h => absurd h (by simp), fun i t h => by simp at h, fun i t h => by simp at h, fun i t h => by simp at h⟩
theorem Copied.on {w w' : World} {lo : Nat} {v : Value} {L : List VT} {j : Nat} {E : List (VT × Value × Value)} (h : Copied w lo v L j E) (hb : Below w.heap.size w w') : Copied w' lo v L j E := by
  have := hb.size
  exact ⟨h.1, h.2.1, ownsRow_below h.2.2.1 hb, fun e he => (h.2.2.2 e he).onto (fun k hk => hb.block k hk.2.1) (fun k hk => ⟨hk.1, by omega, hk.2.2⟩)⟩
theorem own_base5 {w : World} {base base' : Nat} {ty : TypeId} {k n : Nat} {v : Value} {xs : List Value} (h : w.ownsRow base ty k v n xs) (hb : base' ≤ base) : w.ownsRow base' ty k v n xs := by
  refine ⟨h.1, ?_⟩
  rcases h.2 with h1 | ⟨g, cap, cur, h1, h2, h3⟩
  · exact Or.inl h1
  · exact Or.inr ⟨g, cap, cur, h1, Nat.le_trans hb h2, h3⟩
theorem Copied.wide {w : World} {lo lo' : Nat} {v : Value} {L : List VT} {j : Nat} {E : List (VT × Value × Value)} (h : Copied w lo v L j E) (hl : lo' ≤ lo) : Copied w lo' v L j E :=
  ⟨h.1, h.2.1, own_base5 h.2.2.1 hl, fun e he => (h.2.2.2 e he).onto (fun _ _ => rfl) (fun k hk => ⟨by omega, hk.2⟩)⟩
theorem HS.on {w w' : World} {lo hi : Nat} {T : VT} {x y : Value} (h : HS w (fun k => lo ≤ k ∧ k < w.heap.size) T x y) (hb : Below w.heap.size w w') (hl : hi ≤ lo) : HS w' (fun k => hi ≤ k ∧ k < w'.heap.size) T x y := by
  have := hb.size
  exact h.onto (fun k hk => hb.block k hk.2) (fun k hk => ⟨by omega, by omega⟩)
/-- the step's box -/
structure Sb (wr : World) (b : Nat) (s : PStep) : Prop where
  c0 : wr.cell? ⟨b, 0, none⟩ = some (.string s.key)
  c1 : wr.cell? ⟨b, 1, none⟩ = some (.int .i64 s.at_)
  c2 : wr.cell? ⟨b, 2, none⟩ = some (.bool s.place)
theorem Sb.onto {wr wr' : World} {b : Nat} {s : PStep} (h : Sb wr b s) (hb : Below wr.heap.size wr wr') : Sb wr' b s := ⟨keepCell hb h.c0, keepCell hb h.c1, keepCell hb h.c2⟩
end Go.Proofs.YtadbeodeiijhdaaGreatDoor
