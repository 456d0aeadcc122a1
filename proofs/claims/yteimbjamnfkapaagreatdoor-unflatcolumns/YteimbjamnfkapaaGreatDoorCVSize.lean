/- The document's own reckoning of trees, walked: may a tree be? -/
import Derived.Test.YteimbjamnfkapaaGreatDoorCRefVal6
import Derived.Test.YteimbjamnfkapaaGreatDoorCRefVal2
import Derived.Test.YteimbjamnfkapaaGreatDoorCPathDoc
import Derived.Test.YteimbjamnfkapaaGreatDoorCFlO
import Derived.Test.YteimbjamnfkapaaGreatDoorCMathFg
import Derived.Test.YteimbjamnfkapaaGreatDoorCVBase
import Derived.Deep.LoopGhost
/- value.Size and value.Deep, walked. -/
namespace Go.Proofs.YteimbjamnfkapaaGreatDoor
open Go.RowKit
end Go.Proofs.YteimbjamnfkapaaGreatDoor
/- FlatOrder, walked. -/
namespace Go.Proofs.YteimbjamnfkapaaGreatDoor
open Go.RowKit
structure RvS (w wr : World) (v : Value) (E : List (VT × Value × Value)) : Prop where
 bel : Below w.heap.size w wr
 own : wr.ownsRow (w.heap.size + 1) 29 5 v E.length (E.flatMap vc)
 box : wr.heap[w.heap.size]? = some (.cells #[.int .i64 5, .int .i64 0, .string ⟨#[]⟩, v, .slice none 0 0] 29 (0, 0))
theorem RvS.cells {w wr : World} {v : Value} {E : List (VT × Value × Value)} (h : RvS w wr v E) : Cs wr w.heap.size [.int .i64 5, .int .i64 0, .string ⟨#[]⟩, v, .slice none 0 0] := fun i u hu => by
 rw [cell_of_row wr w.heap.size i _ _ _ h.box]
 simpa using hu
theorem RvS.more {w wr w9 : World} {v v' : Value} {E : List (VT × Value × Value)} (h : RvS w wr v E) (a : VT × Value × Value) (ho : w9.ownsRow (w.heap.size + 1) 29 5 v' (E.length + 1) (E.flatMap vc ++ vc a)) (hg : wr.grownBy w9 v.ownBlock) :
  RvS w (w9.setCell ⟨w.heap.size, 3, none⟩ v') v' (E ++ [a]) := by
 have hs := h.bel.size
 have hlt : w.heap.size < wr.heap.size := (Array.getElem?_eq_some_iff.1 h.box).1
 have hne : some w.heap.size ≠ v.ownBlock := fun e => by have := (h.own.lt _ e.symm).1; omega
 have hbx := (hg.block _ hlt hne).trans h.box
 refine ⟨vset_bel (h.bel.grown hg hs (fun q hq => by have := (h.own.lt q hq).1; omega)) (Nat.le_refl _), ?_, ?_⟩
 ·have := ownsRow_setCell_below ho (a := ⟨w.heap.size, 3, none⟩) (by show w.heap.size < w.heap.size + 1; omega) v'
  rw [List.length_append, List.flatMap_append]
  simpa using this
 ·rw [lbox_set hbx]; rfl
theorem RvS.hv {w wr : World} {v : Value} {E : List (VT × Value × Value)} (h : RvS w wr v E) (hE : ∀ e ∈ E, HV wr e.1 e.2.1 e.2.2) : HV wr (.mk 5 0 ⟨#[]⟩ (E.map (·.1)) [] []) v (.slice none 0 0) := by
 have hc := h.own
 rcases hc with ⟨-, ⟨rfl, h0⟩ | ⟨g, cap, cur, rfl, -, -, hn, hcm, -, -⟩⟩
 ·have : E = [] := List.eq_nil_of_length_eq_zero h0
  subst this
  exact hv_leaf wr 5 0 _ (by decide) (by decide) (by decide)
 have key : ∀ (i : Nat) (e : VT × Value × Value), E[i]? = some e → ∀ (c : Nat) (u : Value), (vc e)[c]? = some u → wr.cell? ⟨g, i * 5 + c, none⟩ = some u := by
  intro i e he c u hu
  have hi := lt_of_some he
  have hc : c < 5 := lt_of_some hu
  rw [h.own.cellAt (i * 5 + c) (by omega), flat_at vc 5 (fun _ => rfl) E i c e he hc]
  exact hu
 refine hv_in (by decide) (by decide) (by decide) ⟨⟨g, 0, none⟩, fun i => ((E[i]?).map (·.2.1)).getD (.slice none 0 0), fun i => ((E[i]?).map (·.2.2)).getD (.slice none 0 0), ⟨_, cap, by rw [List.length_map], by simpa using hn, hcm, fun _ => rfl⟩, fun i t ht => ?_, fun i t ht => ?_⟩ (mf_nil wr 0 0).inM
 ·rw [List.getElem?_map] at ht
  obtain ⟨e, he, rfl⟩ := Option.map_eq_some_iff.1 ht
  rw [add_at]
  simp only [he, Option.map_some, Option.getD_some]
  exact ⟨key i e he 0 _ rfl, key i e he 1 _ rfl, key i e he 2 _ rfl, key i e he 3 _ rfl, key i e he 4 _ rfl⟩
 ·rw [List.getElem?_map] at ht
  obtain ⟨e, he, rfl⟩ := Option.map_eq_some_iff.1 ht
  simp only [he, Option.map_some, Option.getD_some]
  exact hE e (List.mem_of_getElem? he)
theorem flat_tab (T : VT) (x y : Value) (X : World) (hT : HV X T x y) (hg : GlobF X) : Calls Tryz.prog 24 #[vv T x y] X fun e w' => ∃ oh ch orr cr, e = .returned (.tuple #[.agg #[.slice oh (flatH T).length ch, .slice orr (flatR T).length cr], .int .i64 (flatE T)]) ∧ InS w' (flatH T) (.slice oh (flatH T).length ch) ∧ InRs w' (flatR T) (.slice orr (flatR T).length cr) ∧ Below X.heap.size X w' := by
 refine (flat_any T x y X hT hg).mono ?_
 rintro e w' ⟨h, r, rfl, hh, hr, hb⟩
 obtain ⟨o1, c1, rfl⟩ := hh.sl
 obtain ⟨o2, c2, rfl⟩ := hr.sl
 exact ⟨o1, c1, o2, c2, rfl, hh, hr, hb⟩
theorem tb2_of {w W : World} {a b : Value} (h : W = w.alloc (.cells #[a, b] 34)) : W.cell? ⟨w.heap.size, 0, none⟩ = some a ∧ W.cell? ⟨w.heap.size, 1, none⟩ = some b ∧ Below w.heap.size w W := by
 subst h
 exact ⟨by simp, by simp, valloc_bel (Below.refl _ _) _⟩
end Go.Proofs.YteimbjamnfkapaaGreatDoor
namespace Go.Proofs.YteimbjamnfkapaaGreatDoor
open Go.RowKit
set_option maxRecDepth 100000 in
set_option maxHeartbeats 1000000 in
theorem vsize_any : ∀ (N : Nat) (T : VT) (x y : Value) (w : World), szT T ≤ N → HV w T x y → szT T ≤ 1000000 →
  Calls Tryz.prog 42 #[vv T x y] w fun e w' => e = .returned (.int .i64 (szT T)) ∧ Below w.heap.size w w' := by
 intro N
 induction N with
 | zero => intro T x y w h; have := szT_pos T; omega
 | succ N ih =>
 intro T x y w hN hT hm
 cases hT with
 | mk a b f g p q hk hn hs hL hM hK cL cK cM rL rM =>
 rename_i k n s L K V
 simp only [vv, VT.kd, VT.nm, VT.st]
 obtain ⟨oL, capL, rfl, hL1, hL2, hL3⟩ := hL
 obtain ⟨oM, capM, rfl, hM1, hM2, hM3⟩ := hM
 unfold maxLen at hL2 hM2
 have hsz : szT (.mk k n s L K V) = 1 + szL L + szL V := by simp only [szT]
 rw [hsz] at hN hm ⊢
 go_enter Tryz.func42, Tryz.ntmps42
 go_wp2_with fail
 go_loopw [3, 11] (fun u i wr => ∃ j : Nat, j ≤ L.length ∧ u = .int .i64 (1 + (szL (L.take j) : Int)) ∧ i = .int .i64 j ∧ Below (w.heap.size + 1) (w.alloc (.cells #[.int .i64 k, .int .i64 n, .string s, .slice oL L.length capL, .slice oM V.length capM] 29)) wr) (fun _ i _ => L.length - (intOf i).toNat)
 case atStart => exact ⟨0, Nat.zero_le _, rfl, rfl, Below.refl _ _⟩
 case round =>
  obtain ⟨j, hj, rfl, rfl, hbel⟩ := hrel
  have hbw : Below w.heap.size w wr := ((Below.refl _ _).alloc (Nat.le_refl _) _).trans (hbel.mono (by omega))
  have hB4 := box_cell w wr _ _ _ _ _ _ hbel 4 _ rfl
  have hsl := szL_take_le L j
  by_cases hlt : j < L.length
  ·obtain ⟨t, ht⟩ : ∃ t, L[j]? = some t := ⟨L[j], List.getElem?_eq_getElem hlt⟩
   obtain rfl := hL3 (by omega)
   obtain ⟨d0, d1, d2, d3, d4⟩ := (cL j t ht).onto hbw
   obtain ⟨o1, n1, c1, o2, n2, c2, hp, hq⟩ := hv_slices (rL j t ht)
   have HR := hid ((rL j t ht).onto hbw)
   rw [hp, hq] at HR
   rw [hp] at d3
   rw [hq] at d4
   have hszs := szL_take_succ L j t ht
   have hsl1 := szL_take_le L (j + 1)
   have HSTEP := hid (fun (X : World) (hX : Below wr.heap.size wr X) => call_above hX (ih t _ _ X (by omega) (HR.out.onto hX) (by omega)))
   simp only [vv] at HSTEP
   have htz : (szT t : Int) ≤ 1000000 := by omega
   clear hp hq
   go_wp2_with (go_at_call 42; go_must (refine (HSTEP.out _ ?_).mono ?_; (repeat (first | exact Below.refl _ _ | apply valloc_bel | (refine vset_bel ?_ (by simp)))); rintro e w1 ⟨rfl, hb1⟩))
   go_roundw
   case rel => exact ⟨j + 1, hlt, val_int (by rw [hszs]; omega), val_int (by omega), hbel.trans (hb1.mono (by have := hbel.size; simp at this; omega))⟩
   case measure => simp [intOf]; omega
  ·have hjL : j = L.length := by omega
   subst hjL
   rw [List.take_length]
   go_wp2_with fail
   clear hB4 hsl
   go_loopw [3, 23] (fun u i wr => ∃ j : Nat, j ≤ V.length ∧ u = .int .i64 (1 + (szL L : Int) + (szL (V.take j) : Int)) ∧ i = .int .i64 j ∧ Below (w.heap.size + 1) (w.alloc (.cells #[.int .i64 k, .int .i64 n, .string s, .slice oL L.length capL, .slice oM V.length capM] 29)) wr) (fun _ i _ => V.length - (intOf i).toNat)
   case atStart => exact ⟨0, Nat.zero_le _, val_int (by simp [szL]), rfl, hbel⟩
   case round =>
    clear hbw hbel hj hlt
    obtain ⟨j, hj, rfl, rfl, hbel⟩ := hrel
    have hbw : Below w.heap.size w wr := ((Below.refl _ _).alloc (Nat.le_refl _) _).trans (hbel.mono (by omega))
    have hsl := szL_take_le V j
    by_cases hlt : j < V.length
    ·obtain ⟨t, ht⟩ : ∃ t, V[j]? = some t := ⟨V[j], List.getElem?_eq_getElem hlt⟩
     obtain ⟨c, hc⟩ : ∃ c, K[j]? = some c := ⟨K[j], List.getElem?_eq_getElem (by omega)⟩
     obtain rfl := hM3 (by omega)
     have hnode := (cM j t ht).onto hbw
     simp only [Node, nx] at hnode
     obtain ⟨d0, d1, d2, d3, d4⟩ := hnode
     have e0 := keepCell hbw (cK j c hc).1
     obtain ⟨o1, n1, c1, o2, n2, c2, hp, hq⟩ := hv_slices (rM j t ht)
     have HR := hid ((rM j t ht).onto hbw)
     rw [hp, hq] at HR
     rw [hp] at d3
     rw [hq] at d4
     have hszs := szL_take_succ V j t ht
     have hsl1 := szL_take_le V (j + 1)
     have HSTEP := hid (fun (X : World) (hX : Below wr.heap.size wr X) => call_above hX (ih t _ _ X (by omega) (HR.out.onto hX) (by omega)))
     simp only [vv] at HSTEP
     have htz : (szT t : Int) ≤ 1000000 := by omega
     clear hp hq
     go_wp2_with (go_at_call 42; go_must (refine (HSTEP.out _ ?_).mono ?_; (repeat (first | exact Below.refl _ _ | apply valloc_bel | (refine vset_bel ?_ (by simp)))); rintro e w1 ⟨rfl, hb1⟩))
     go_roundw
     case rel => exact ⟨j + 1, hlt, val_int (by rw [hszs]; omega), val_int (by omega), hbel.trans (hb1.mono (by have := hbel.size; simp at this; omega))⟩
     case measure => simp [intOf]; omega
    ·have hjV : j = V.length := by omega
     subst hjV
     rw [List.take_length]
     go_wp2_with fail
     go_ret
     exact ⟨ret_int (by omega), hbw⟩
end Go.Proofs.YteimbjamnfkapaaGreatDoor
