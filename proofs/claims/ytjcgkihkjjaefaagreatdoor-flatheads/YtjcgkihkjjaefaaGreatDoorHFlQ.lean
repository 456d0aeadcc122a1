/- The document's own reckoning of trees, walked: may a tree be? -/
import Derived.Test.YtjcgkihkjjaefaaGreatDoorHRefVal6
import Derived.Test.YtjcgkihkjjaefaaGreatDoorHRefVal2
import Derived.Test.YtjcgkihkjjaefaaGreatDoorHVHold
import Derived.Test.YtjcgkihkjjaefaaGreatDoorHMathFg
namespace Go.Proofs.YtjcgkihkjjaefaaGreatDoor
open Go.RowKit

end Go.Proofs.YtjcgkihkjjaefaaGreatDoor
/- FlatOrder, walked. -/
namespace Go.Proofs.YtjcgkihkjjaefaaGreatDoor
open Go.RowKit

/-- a list being laid the other way round: its box, its parts -/
structure RvS (w wr : World) (v : Value) (E : List (VT × Value × Value)) : Prop where
  bel : Below w.heap.size w wr
  own : wr.ownsRow (w.heap.size + 1) 34 5 v E.length (E.flatMap vc)
  box : wr.heap[w.heap.size]? = some (.cells #[.int .i64 5, .int .i64 0, .string ⟨#[]⟩, v, .slice none 0 0] 34 (0, 0))
theorem RvS.cells {w wr : World} {v : Value} {E : List (VT × Value × Value)} (h : RvS w wr v E) : Cs wr w.heap.size [.int .i64 5, .int .i64 0, .string ⟨#[]⟩, v, .slice none 0 0] := fun i u hu => by
  rw [cell_of_row wr w.heap.size i _ _ _ h.box]
  simpa using hu
theorem RvS.more {w wr w9 : World} {v v' : Value} {E : List (VT × Value × Value)} (h : RvS w wr v E) (a : VT × Value × Value) (ho : w9.ownsRow (w.heap.size + 1) 34 5 v' (E.length + 1) (E.flatMap vc ++ vc a)) (hg : wr.grownBy w9 v.ownBlock) :
    RvS w (w9.setCell ⟨w.heap.size, 3, none⟩ v') v' (E ++ [a]) := by
  have hs := h.bel.size
  have hlt : w.heap.size < wr.heap.size := (Array.getElem?_eq_some_iff.1 h.box).1
  have hne : some w.heap.size ≠ v.ownBlock := fun e => by have := (h.own.lt _ e.symm).1; omega
  have hbx := (hg.block _ hlt hne).trans h.box
  refine ⟨vset_bel (h.bel.grown hg hs (fun q hq => by have := (h.own.lt q hq).1; omega)) (Nat.le_refl _), ?_, ?_⟩
  · have := ownsRow_setCell_below ho (a := ⟨w.heap.size, 3, none⟩) (by show w.heap.size < w.heap.size + 1; omega) v'
    rw [List.length_append, List.flatMap_append]
    simpa using this
  · rw [lbox_set hbx]; rfl
/-- the tree that such a list is -/
theorem RvS.hv {w wr : World} {v : Value} {E : List (VT × Value × Value)} (h : RvS w wr v E) (hE : ∀ e ∈ E, HV wr e.1 e.2.1 e.2.2) : HV wr (.mk 5 0 ⟨#[]⟩ (E.map (·.1)) [] []) v (.slice none 0 0) := by
  have hc := h.own
  rcases hc with ⟨-, ⟨rfl, h0⟩ | ⟨g, cap, cur, rfl, -, -, hn, hcm, -, -⟩⟩
  · have : E = [] := List.eq_nil_of_length_eq_zero h0
    subst this
    exact hv_leaf wr 5 0 _ (by decide) (by decide) (by decide)
  have key : ∀ (i : Nat) (e : VT × Value × Value), E[i]? = some e → ∀ (c : Nat) (u : Value), (vc e)[c]? = some u → wr.cell? ⟨g, i * 5 + c, none⟩ = some u := by
    intro i e he c u hu
    have hi := lt_of_some he
    have hc : c < 5 := lt_of_some hu
    rw [h.own.cellAt (i * 5 + c) (by omega), flat_at vc 5 (fun _ => rfl) E i c e he hc]
    exact hu
  refine hv_in (by decide) (by decide) (by decide) ⟨⟨g, 0, none⟩, fun i => ((E[i]?).map (·.2.1)).getD (.slice none 0 0), fun i => ((E[i]?).map (·.2.2)).getD (.slice none 0 0), ⟨_, cap, by rw [List.length_map], by simpa using hn, hcm, fun _ => rfl⟩, fun i t ht => ?_, fun i t ht => ?_⟩ (mf_nil wr 0 0).inM
  · rw [List.getElem?_map] at ht
    obtain ⟨e, he, rfl⟩ := Option.map_eq_some_iff.1 ht
    rw [add_at]
    simp only [he, Option.map_some, Option.getD_some]
    exact ⟨key i e he 0 _ rfl, key i e he 1 _ rfl, key i e he 2 _ rfl, key i e he 3 _ rfl, key i e he 4 _ rfl⟩
  · rw [List.getElem?_map] at ht
    obtain ⟨e, he, rfl⟩ := Option.map_eq_some_iff.1 ht
    simp only [he, Option.map_some, Option.getD_some]
    exact hE e (List.mem_of_getElem? he)
/-- Flat's table, in slices -/
theorem flat_tab (T : VT) (x y : Value) (X : World) (hT : HV X T x y) (hg : GlobF X) : Calls Tryz.prog 8 #[vv T x y] X fun e w' => ∃ oh ch orr cr, e = .returned (.tuple #[.agg #[.slice oh (flatH T).length ch, .slice orr (flatR T).length cr], .int .i64 (flatE T)]) ∧ InS w' (flatH T) (.slice oh (flatH T).length ch) ∧ InRs w' (flatR T) (.slice orr (flatR T).length cr) ∧ Below X.heap.size X w' := by
  refine (flat_any T x y X hT hg).mono ?_
  rintro e w' ⟨h, r, rfl, hh, hr, hb⟩
  obtain ⟨o1, c1, rfl⟩ := hh.sl
  obtain ⟨o2, c2, rfl⟩ := hr.sl
  exact ⟨o1, c1, o2, c2, rfl, hh, hr, hb⟩
theorem tb2_of {w W : World} {a b : Value} (h : W = w.alloc (.cells #[a, b] 26)) : W.cell? ⟨w.heap.size, 0, none⟩ = some a ∧ W.cell? ⟨w.heap.size, 1, none⟩ = some b ∧ Below w.heap.size w W := by
  subst h
  exact ⟨by simp, by simp, valloc_bel (Below.refl _ _) _⟩
end Go.Proofs.YtjcgkihkjjaefaaGreatDoor
