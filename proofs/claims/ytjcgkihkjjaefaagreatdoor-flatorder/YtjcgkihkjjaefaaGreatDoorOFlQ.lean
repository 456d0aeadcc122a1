
import Derived.Test.YtjcgkihkjjaefaaGreatDoorOMathFg
import Derived.Test.YtjcgkihkjjaefaaGreatDoorORefVal2
import Derived.Test.YtjcgkihkjjaefaaGreatDoorORefVal8
/- FlatOrder, walked. -/
namespace Go.Proofs.YtjcgkihkjjaefaaGreatDoor
open Go.RowKit

/-- a list being laid the other way round: its box, its parts -/
structure RvS (w wr : World) (v : Value) (E : List (VT × Value × Value)) : Prop where
  bel : Below w.heap.size w wr
  own : wr.ownsRow (w.heap.size + 1) 34 5 v E.length (E.flatMap vc)
  box : wr.heap[w.heap.size]? = some (.cells #[.int .i64 5, .int .i64 0, .string ⟨#[]⟩, v, .slice none 0 0] 34 (0, 0))
theorem RvS.cells {w wr : World} {v : Value} {E : List (VT × Value × Value)} (h : RvS w wr v E) : Cs wr w.heap.size [.int .i64 5, .int .i64 0, .string ⟨#[]⟩, v, .slice none 0 0] := fun i u hu => by
  rw [cell_of_row wr w.heap.size i _ _ _ h.box]
  simpa using hu
theorem RvS.more {w wr w9 : World} {v v' : Value} {E : List (VT × Value × Value)} (h : RvS w wr v E) (a : VT × Value × Value) (ho : w9.ownsRow (w.heap.size + 1) 34 5 v' (E.length + 1) (E.flatMap vc ++ vc a)) (hg : wr.grownBy w9 v.ownBlock) :
    RvS w (w9.setCell ⟨w.heap.size, 3, none⟩ v') v' (E ++ [a]) := by
  have hs := h.bel.size
  have hlt : w.heap.size < wr.heap.size := (Array.getElem?_eq_some_iff.1 h.box).1
  have hne : some w.heap.size ≠ v.ownBlock := fun e => by have := (h.own.lt _ e.symm).1; omega
  have hbx := (hg.block _ hlt hne).trans h.box
  refine ⟨vset_bel (h.bel.grown hg hs (fun q hq => by have := (h.own.lt q hq).1; omega)) (Nat.le_refl _), ?_, ?_⟩
  · have := ownsRow_setCell_below ho (a := ⟨w.heap.size, 3, none⟩) (by show w.heap.size < w.heap.size + 1; omega) v'
    rw [List.length_append, List.flatMap_append]
    simpa using this
  · rw [lbox_set hbx]; rfl
/-- the tree that such a list is -/
theorem RvS.hv {w wr : World} {v : Value} {E : List (VT × Value × Value)} (h : RvS w wr v E) (hE : ∀ e ∈ E, HV wr e.1 e.2.1 e.2.2) : HV wr (.mk 5 0 ⟨#[]⟩ (E.map (·.1)) [] []) v (.slice none 0 0) := by
  have hc := h.own
  rcases hc with ⟨-, ⟨rfl, h0⟩ | ⟨g, cap, cur, rfl, -, -, hn, hcm, -, -⟩⟩
  · have : E = [] := List.eq_nil_of_length_eq_zero h0
    subst this
    exact hv_leaf wr 5 0 _ (by decide) (by decide) (by decide)
  have key : ∀ (i : Nat) (e : VT × Value × Value), E[i]? = some e → ∀ (c : Nat) (u : Value), (vc e)[c]? = some u → wr.cell? ⟨g, i * 5 + c, none⟩ = some u := by
    intro i e he c u hu
    have hi := lt_of_some he
    have hc : c < 5 := lt_of_some hu
    rw [h.own.cellAt (i * 5 + c) (by omega), flat_at vc 5 (fun _ => rfl) E i c e he hc]
    exact hu
  refine hv_in (by decide) (by decide) (by decide) ⟨⟨g, 0, none⟩, fun i => ((E[i]?).map (·.2.1)).getD (.slice none 0 0), fun i => ((E[i]?).map (·.2.2)).getD (.slice none 0 0), ⟨_, cap, by rw [List.length_map], by simpa using hn, hcm, fun _ => rfl⟩, fun i t ht => ?_, fun i t ht => ?_⟩ (mf_nil wr 0 0).inM
  · rw [List.getElem?_map] at ht
    obtain ⟨e, he, rfl⟩ := Option.map_eq_some_iff.1 ht
    rw [add_at]
    simp only [he, Option.map_some, Option.getD_some]
    exact ⟨key i e he 0 _ rfl, key i e he 1 _ rfl, key i e he 2 _ rfl, key i e he 3 _ rfl, key i e he 4 _ rfl⟩
  · rw [List.getElem?_map] at ht
    obtain ⟨e, he, rfl⟩ := Option.map_eq_some_iff.1 ht
    simp only [he, Option.map_some, Option.getD_some]
    exact hE e (List.mem_of_getElem? he)
/-- Flat's table, in slices -/
theorem flat_tab (T : VT) (x y : Value) (X : World) (hT : HV X T x y) (hg : GlobF X) : Calls Tryz.prog 8 #[vv T x y] X fun e w' => ∃ oh ch orr cr, e = .returned (.tuple #[.agg #[.slice oh (flatH T).length ch, .slice orr (flatR T).length cr], .int .i64 (flatE T)]) ∧ InS w' (flatH T) (.slice oh (flatH T).length ch) ∧ InRs w' (flatR T) (.slice orr (flatR T).length cr) ∧ Below X.heap.size X w' := by
  refine (flat_any T x y X hT hg).mono ?_
  rintro e w' ⟨h, r, rfl, hh, hr, hb⟩
  obtain ⟨o1, c1, rfl⟩ := hh.sl
  obtain ⟨o2, c2, rfl⟩ := hr.sl
  exact ⟨o1, c1, o2, c2, rfl, hh, hr, hb⟩
theorem tb2_of {w W : World} {a b : Value} (h : W = w.alloc (.cells #[a, b] 26)) : W.cell? ⟨w.heap.size, 0, none⟩ = some a ∧ W.cell? ⟨w.heap.size, 1, none⟩ = some b ∧ Below w.heap.size w W := by
  subst h
  exact ⟨by simp, by simp, valloc_bel (Below.refl _ _) _⟩
set_option maxRecDepth 100000 in
set_option maxHeartbeats 8000000 in
theorem Tryz.flatOrder_walk (T : VT) (x y : Value) (w : World) (hg : GlobF w) (hT : HV w T x y) :
    Calls Tryz.prog 5 #[vv T x y] w fun e w' => e = .returned (.bool true) ∧ Below w.heap.size w w' := by
  have hwf := hv_wfT (szT T) (Nat.le_refl _) hT
  have CA := hid (fun X (hX : Below w.heap.size w X) => awake16 X (hg.on hX))
  have CH := hid (fun X (hX : Below w.heap.size w X) => heavy_any T x y 200 32 X (hT.onto hX) (by omega) (by omega))
  have CV := hid (fun X (hX : Below w.heap.size w X) => rvalue_any T x y X (hT.onto hX))
  have CF := hid (fun X (hX : Below w.heap.size w X) => flat_tab T x y X (hT.onto hX) (hg.on hX))
  have CF2 := hid (fun (U : VT) (x' y' : Value) X (hX : Below w.heap.size w X) (hU : HV X U x' y') => flat_tab U x' y' X hU (hg.on hX))
  obtain ⟨al, bl, f, g, p, q, oL, oM, cL, cM, rfl, rfl, -, -, hL3, hM3, hK, -, hlL, hlM, kL, kK, kM, rL, rM, -, -⟩ := hT.parts
  have hal : Below w.heap.size w (w.alloc (.cells #[.int .i64 T.kd, .int .i64 T.nm, .string T.st, .slice oL T.ls.length cL, .slice oM T.vs.length cM] 34)) := valloc_bel (Below.refl _ _) _
  have hcs : Cs (w.alloc (.cells #[.int .i64 T.kd, .int .i64 T.nm, .string T.st, .slice oL T.ls.length cL, .slice oM T.vs.length cM] 34)) w.heap.size [.int .i64 T.kd, .int .i64 T.nm, .string T.st, .slice oL T.ls.length cL, .slice oM T.vs.length cM] := fun i v h => cells_in rfl rfl (by simpa using h)
  simp only [vv] at CH CV CF ⊢
  have HkL := hid kL; have HrL := hid rL
  have HWF := hid hwf
  obtain ⟨F0, hF0⟩ : ∃ b, (!fitB T 32 200) = b := ⟨_, rfl⟩
  obtain ⟨M0, hM0⟩ : ∃ b, mayB 0 1 T = b := ⟨_, rfl⟩
  rw [hF0] at CH
  rw [hM0] at CV
  have HM0 := hid hM0
  obtain ⟨KD, hKD⟩ : ∃ k, T.kd = k := ⟨_, rfl⟩
  have HKD := hid hKD
  rw [hKD] at CH CV CF hal hcs ⊢
  clear hT hg kL kK kM rL rM hK hM3 hwf hF0 hM0 hKD
  go_enter Tryz.func5, Tryz.ntmps5
  go_upto_region 1 with fail
  refine cewp_gen ?_
  intro W hW
  rw [← hW] at hal hcs
  have HB0 := hid hal
  clear hW hal
  go_wp2_with fail
  go_at_call 7
  refine (CA.out _ HB0.out).mono ?_
  rintro e w1 ⟨rfl, hb1⟩
  have hcs1 := hcs.onto hb1
  have g0 := hcs1 0 _ rfl
  have g1 := hcs1 1 _ rfl
  have g2 := hcs1 2 _ rfl
  have g3 := hcs1 3 _ rfl
  have g4 := hcs1 4 _ rfl
  have HB1 := hid (vonto HB0.out hb1)
  clear hb1 hcs CA HB0 hcs1
  go_wp2_with fail
  go_at_call 11
  refine (CH.out _ HB1.out).mono ?_
  rintro e w2 ⟨rfl, hb2⟩
  have g0 := keepCell hb2 g0
  have g1 := keepCell hb2 g1
  have g2 := keepCell hb2 g2
  have g3 := keepCell hb2 g3
  have g4 := keepCell hb2 g4
  have HB2 := hid (vonto HB1.out hb2)
  clear hb2 CH HB1
  cases F0 with
  | true =>
    go_wp2_with fail
    go_ret
    exact ⟨rfl, HB2.out⟩
  | false =>
  go_wp2_with fail
  go_at_call 12
  refine (CV.out _ HB2.out).mono ?_
  rintro e w3 ⟨rfl, hb3⟩
  have g0 := keepCell hb3 g0
  have g1 := keepCell hb3 g1
  have g2 := keepCell hb3 g2
  have g3 := keepCell hb3 g3
  have g4 := keepCell hb3 g4
  have HB3 := hid (vonto HB2.out hb3)
  clear hb3 CV HB2
  cases M0 with
  | false =>
    go_wp2_with fail
    go_ret
    exact ⟨rfl, HB3.out⟩
  | true =>
  by_cases h5 : KD = 5
  case neg =>
    have t5 : (KD != 5) = true := by simpa using h5
    go_wp2_with fail
    go_ret
    exact ⟨rfl, HB3.out⟩
  have t5 : (KD != 5) = false := by simpa using h5
  have H5 := hid h5
  clear h5
  go_wp2_with fail
  go_at_call 8
  refine (CF.out _ HB3.out).mono ?_
  rintro e w4 ⟨oh, ch, orr, cr, rfl, hh, hr, hb4⟩
  have g3 := keepCell hb4 g3
  have HH := hid hh
  have HR := hid hr
  have HB4 := hid (vonto HB3.out hb4)
  clear hh hr hb4 CF HB3 g0 g1 g2 g4
  obtain ⟨E0, hE0⟩ : ∃ e, flatE T = e := ⟨_, rfl⟩
  rw [hE0]
  have HE0 := hid hE0
  clear hE0
  go_upto_region 6 with fail
  refine cewp_gen ?_
  intro W4 hW
  obtain ⟨x0, x1, hbW⟩ := tb2_of hW
  have g3 := keepCell hbW g3
  have HBW := hid (vonto HB4.out hbW)
  have HHW := hid (HH.out.onto hbW)
  have HRW := hid (HR.out.onto hbW)
  clear hW hbW HH HR HB4
  go_upto_region 7 with fail
  refine cewp_gen ?_
  intro W5 hW
  have H50 : Hid (RvS W4 W5 (.slice none 0 0) []) := hid (by
    subst hW
    exact ⟨valloc_bel (Below.refl _ _) _, World.ownsRow_nil _ _ _ _, by simp only [World.alloc, Array.getElem?_push_size]⟩)
  have g35 := keepCell H50.out.bel g3
  clear hW
  have hz4 := (good_sz HM0.out).1
  have hls4 := len_sz T
  have hn4 : T.ls.length ≤ 4096 := by omega
  clear hz4 hls4 hlM hlL
  obtain ⟨i1, hi', hz0', hz1', hz2'⟩ := info_parts Tryz.infoVal
  have HI := hid hi'; have HI0 := hid hz0'; have HI1 := hid hz1'; have HI2 := hid hz2'
  clear hi' hz0' hz1' hz2'
  go_wp2_with fail
  go_loopw [6] (fun i wr => ∃ (j : Nat) (v : Value) (E : List (VT × Value × Value)), i = .int .i64 ((T.ls.length : Int) - 1 - j) ∧ j ≤ T.ls.length ∧ Hid (RvS W4 wr v E) ∧ Hid (E.length = j) ∧ Hid (E.map (·.1) = T.ls.reverse.take j) ∧ Hid (∀ e ∈ E, HV w e.1 e.2.1 e.2.2)) (fun i _ => (intOf i + 1).toNat)
  case atStart => exact ⟨0, _, [], by simp, Nat.zero_le _, H50, hid rfl, hid (by simp), hid (fun e h => by cases h)⟩
  case round =>
    clear H50 g35
    obtain ⟨j, v, E, rfl, hj, HS, HL, HE, HV'⟩ := hrel
    by_cases hlt : j < T.ls.length
    · obtain ⟨k, hk⟩ : ∃ k, k = T.ls.length - 1 - j := ⟨_, rfl⟩
      have hkn : k < T.ls.length := by omega
      have hik : (T.ls.length : Int) - 1 - (j : Int) = (k : Int) := by omega
      rw [hik]
      obtain ⟨t, ht⟩ : ∃ t, T.ls[k]? = some t := ⟨T.ls[k], List.getElem?_eq_getElem hkn⟩
      have HRV := hid (show T.ls.reverse.take (j + 1) = T.ls.reverse.take j ++ [t] by
        rw [List.take_add_one, List.getElem?_reverse hlt, ← hk, ht]; rfl)
      obtain rfl := hL3 (by omega)
      obtain ⟨d0, d1, d2, d3, d4⟩ := (HkL.out k t ht).onto (vonto HBW.out HS.out.bel)
      have hvt := HrL.out k t ht
      obtain ⟨o1, n1, c1, o2, n2, c2, hf, hg'⟩ := hv_slices hvt
      rw [hf] at d3 hvt
      rw [hg'] at d4 hvt
      have HVT := hid hvt
      have g3r := keepCell HS.out.bel g3
      have hsl := own_slice HS.out.own
      obtain ⟨ov, cv, rfl⟩ := hsl
      have v3 := HS.out.cells 3 _ rfl
      have hgeq : (0 : Int) ≤ (k : Int) := by omega
      have HKE := hid hk
      have HIK := hid hik
      clear hk hik
      obtain ⟨e0, e1, e2, e3, e4⟩ := (HkL.out k t ht).onto HBW.out
      rw [hf] at e3
      rw [hg'] at e4
      clear ht hf hg' hvt
      go_wp2_with fail
      refine wp_region_ends2 (S := fun X => X.cell? ⟨W4.heap.size, 3, none⟩ = some (.slice ov E.length cv) ∧ X.cell? ⟨w.heap.size, 3, none⟩ = some (.slice (some al) T.ls.length cL) ∧ X.cell? (al.add (k * 5)) = some (.int .i64 t.kd) ∧ X.cell? ⟨(al.add (k * 5)).block, (al.add (k * 5)).off + 1, none⟩ = some (.int .i64 t.nm) ∧ X.cell? ⟨(al.add (k * 5)).block, (al.add (k * 5)).off + 2, none⟩ = some (.string t.st) ∧ X.cell? ⟨(al.add (k * 5)).block, (al.add (k * 5)).off + 3, none⟩ = some (.slice o1 n1 c1) ∧ X.cell? ⟨(al.add (k * 5)).block, (al.add (k * 5)).off + 4, none⟩ = some (.slice o2 n2 c2)) (by simp) (by kernel_rfl) (by kernel_rfl) (by kernel_rfl) (by kernel_rfl) (by kernel_rfl) (by kernel_rfl) ?_
      simp only [List.dropLast, List.getLast_cons_cons, List.getLast_singleton, List.length_cons, List.length_nil]
      have hS0 : wr.drew.cell? ⟨W4.heap.size, 3, none⟩ = some (.slice ov E.length cv) ∧ wr.drew.cell? ⟨w.heap.size, 3, none⟩ = some (.slice (some al) T.ls.length cL) ∧ wr.drew.cell? (al.add (k * 5)) = some (.int .i64 t.kd) ∧ wr.drew.cell? ⟨(al.add (k * 5)).block, (al.add (k * 5)).off + 1, none⟩ = some (.int .i64 t.nm) ∧ wr.drew.cell? ⟨(al.add (k * 5)).block, (al.add (k * 5)).off + 2, none⟩ = some (.string t.st) ∧ wr.drew.cell? ⟨(al.add (k * 5)).block, (al.add (k * 5)).off + 3, none⟩ = some (.slice o1 n1 c1) ∧ wr.drew.cell? ⟨(al.add (k * 5)).block, (al.add (k * 5)).off + 4, none⟩ = some (.slice o2 n2 c2) := ⟨v3, g3r, d0, d1, d2, d3, d4⟩
      refine take_h (i := 0) (v := ?_) rfl (by kernel_rfl) (by kernel_rfl) (by kernel_rfl) (fun _ _ _ h => h) (by rfl) ?_ hS0 ?_
      rotate_left
      · (intro X hX; obtain ⟨y0, y1, y2, y3, y4, y5, y6⟩ := hX; go_simp; try with_reducible rfl)
      simp only [Act.put, List.setIfInBounds_toArray, List.set_cons_zero, List.set_cons_succ]
      refine take_h (i := 1) (v := ?_) rfl (by kernel_rfl) (by kernel_rfl) (by kernel_rfl) (fun _ _ _ h => h) (by rfl) ?_ hS0 ?_
      rotate_left
      · (intro X hX; obtain ⟨y0, y1, y2, y3, y4, y5, y6⟩ := hX; go_simp; try with_reducible rfl)
      simp only [Act.put, List.setIfInBounds_toArray, List.set_cons_zero, List.set_cons_succ]
      refine take_h (i := 2) (v := ?_) rfl (by kernel_rfl) (by kernel_rfl) (by kernel_rfl) (fun _ _ _ h => h) (by rfl) ?_ hS0 ?_
      rotate_left
      · (intro X hX; obtain ⟨y0, y1, y2, y3, y4, y5, y6⟩ := hX; go_simp; try with_reducible rfl)
      simp only [Act.put, List.setIfInBounds_toArray, List.set_cons_zero, List.set_cons_succ]
      refine take_h (i := 3) (v := ?_) rfl (by kernel_rfl) (by kernel_rfl) (by kernel_rfl) (fun _ _ _ h => h) (by rfl) ?_ hS0 ?_
      rotate_left
      · (intro X hX; obtain ⟨y0, y1, y2, y3, y4, y5, y6⟩ := hX; go_simp; try with_reducible rfl)
      simp only [Act.put, List.setIfInBounds_toArray, List.set_cons_zero, List.set_cons_succ]
      refine take_h (i := 4) (v := ?_) rfl (by kernel_rfl) (by kernel_rfl) (by kernel_rfl) (fun _ _ _ h => h) (by rfl) ?_ hS0 ?_
      rotate_left
      · (intro X hX; obtain ⟨y0, y1, y2, y3, y4, y5, y6⟩ := hX; go_simp; try with_reducible rfl)
      simp only [Act.put, List.setIfInBounds_toArray, List.set_cons_zero, List.set_cons_succ]
      refine take_h (i := 5) (v := ?_) rfl (by kernel_rfl) (by kernel_rfl) (by kernel_rfl) (fun _ _ _ h => h) (by rfl) ?_ hS0 ?_
      rotate_left
      · (intro X hX; obtain ⟨y0, y1, y2, y3, y4, y5, y6⟩ := hX; go_simp; try with_reducible rfl)
      simp only [Act.put, List.setIfInBounds_toArray, List.set_cons_zero, List.set_cons_succ]
      refine take_h (i := 6) (v := ?_) rfl (by kernel_rfl) (by kernel_rfl) (by kernel_rfl) (fun _ _ _ h => h) (by rfl) ?_ hS0 ?_
      rotate_left
      · (intro X hX; obtain ⟨y0, y1, y2, y3, y4, y5, y6⟩ := hX; go_simp; try with_reducible rfl)
      simp only [Act.put, List.setIfInBounds_toArray, List.set_cons_zero, List.set_cons_succ]
      refine step_h (i := 7) rfl (by kernel_rfl) ?_
      intro KK hKK
      go_simp
      have hbx : Below wr.heap.size wr (wr.drew.alloc (.cells #[.int .i64 t.kd, .int .i64 t.nm, .string t.st, .slice o1 n1 c1, .slice o2 n2 c2] 34)) := valloc_bel (Below.refl wr.heap.size wr).drew _
      refine hKK.out _ _ ⟨keepCell hbx v3, keepCell hbx g3r, keepCell hbx d0, keepCell hbx d1, keepCell hbx d2, keepCell hbx d3, keepCell hbx d4⟩ (fun hS2 => ?_)
      clear hKK KK hS0
      refine step_h (i := 8) rfl (by kernel_rfl) ?_
      intro KK hKK
      have hws := HS.out.bel.size
      have hb5 : W4.heap.size < wr.heap.size := (Array.getElem?_eq_some_iff.1 HS.out.box).1
      have hown := ownsRow_below HS.out.own hbx
      refine step_append_lies _ (by rfl) _ _ _ (by rfl) (W4.heap.size + 1) 34 i1 (.agg #[.int .i64 0, .int .i64 0, .string ⟨#[]⟩, .slice none 0 0, .slice none 0 0]) 5 80 Tryz.underlying31 HI.out HI0.out HI1.out HI2.out rfl (by decide) _ E.length _ (by rfl) hown ⟨wr.heap.size, 0, none⟩ 1 1 (vc (t, .slice o1 n1 c1, .slice o2 n2 c2)) (by rfl) rfl (new_cells wr.drew _ 34) (vc_one _ _ _ _ _ _ _) (by decide) (by have := HL.out; unfold maxLen; omega) (by have := HL.out; omega) (by simp; omega) (wr.heap.size + 1) (by simp) ?_
      intro g9 cap9 w9 hown9 hgr9 hat9 hlt9
      have hlt5 : ∀ q, q < wr.heap.size → some q ≠ (Value.slice ov E.length cv).ownBlock → w9.heap[q]? = wr.heap[q]? := fun q hq hn => (hgr9.block q (by simp; omega) hn).trans (hbx.block q hq)
      have hS5 : RvS W4 (w9.setCell ⟨W4.heap.size, 3, none⟩ (.slice (some ⟨g9, 0, none⟩) (E.length + 1) cap9)) (.slice (some ⟨g9, 0, none⟩) (E.length + 1) cap9) (E ++ [(t, .slice o1 n1 c1, .slice o2 n2 c2)]) := by
        have hS4 : RvS W4 (wr.drew.alloc (.cells #[.int .i64 t.kd, .int .i64 t.nm, .string t.st, .slice o1 n1 c1, .slice o2 n2 c2] 34)) (.slice ov E.length cv) E := ⟨vonto HS.out.bel hbx, hown, by rw [hbx.block _ hb5]; exact HS.out.box⟩
        exact hS4.more (t, .slice o1 n1 c1, .slice o2 n2 c2) hown9 hgr9
      have hvo : ∀ q, (Value.slice ov E.length cv).ownBlock = some q → W4.heap.size + 1 ≤ q := fun q hq => (HS.out.own.lt q hq).1
      have kp : ∀ (a : Addr) (u : Value), wr.cell? a = some u → a.block ≤ W4.heap.size → w9.cell? a = some u := fun a u h ha => by
        rw [World.cell?_of_block (hlt5 a.block (by omega) (fun e => by have := hvo _ e.symm; omega))]
        exact h
      have hW4 : ∀ (a : Addr) (u : Value), W4.cell? a = some u → a.block ≤ W4.heap.size := fun a u h => Nat.le_of_lt (World.block_lt_of_cell? W4 a h)
      have hc : ∀ (a : Addr) (u : Value), W4.cell? a = some u → w9.cell? a = some u := fun a u h => kp a u (keepCell HS.out.bel h) (hW4 a u h)
      refine hKK.out _ _ ⟨kp _ _ v3 (Nat.le_refl _), hc _ _ g3, hc _ _ e0, hc _ _ e1, hc _ _ e2, hc _ _ e3, hc _ _ e4⟩ (fun hS3 => ?_)
      clear hKK KK hS2
      simp only [Act.put, List.setIfInBounds_toArray, List.set_cons_zero, List.set_cons_succ]
      refine take_h (i := 9) (v := ?_) rfl (by kernel_rfl) (by kernel_rfl) (by kernel_rfl) (fun _ _ _ h => h) (by rfl) ?_ hS3 ?_
      rotate_left
      · (intro X hX; obtain ⟨y0, y1, y2, y3, y4, y5, y6⟩ := hX; go_simp; try with_reducible rfl)
      simp only [Act.put, List.setIfInBounds_toArray, List.set_cons_zero, List.set_cons_succ]
      refine wpAnyH_done (by kernel_rfl) ?_ _
      change Oper.wp _ _ _ _ _ _
      have hf9 : w9.frozen? ⟨W4.heap.size, 3, none⟩ = false := by
        have := (hlt5 W4.heap.size hb5 (fun e => by have := hvo _ e.symm; omega)).trans HS.out.box
        simp [World.frozen?, this]
      obtain ⟨c30, -⟩ := hS3
      have HS5 := hid hS5
      clear hS5 hgr9 hown9 hown hbx kp hc hlt5 hvo e0 e1 e2 e3 e4 d0 d1 d2 d3 d4 v3 g3r
      go_simp
      generalize w9.setCell ⟨W4.heap.size, 3, none⟩ (.slice (some ⟨g9, 0, none⟩) (E.length + 1) cap9) = wA at *
      go_wp2_with fail
      go_roundw
      case rel => exact ⟨j + 1, _, E ++ [(t, .slice o1 n1 c1, .slice o2 n2 c2)], val_int (by have := HIK.out; omega), hlt, HS5, hid (by simp [HL.out]), hid (by rw [List.map_append, HE.out, HRV.out]; rfl), hid (fun e he => by
        rcases List.mem_append.1 he with he | he
        · exact HV'.out e he
        · simp at he; subst he; exact HVT.out)⟩
      case measure => first | (simp [intOf]; done) | (simp [intOf]; omega)
    · have hjn : j = T.ls.length := by omega
      have hik : (T.ls.length : Int) - 1 - (j : Int) = -1 := by omega
      rw [hik]
      have hT5 := lst_of HM0.out HWF.out (HKD.out.trans H5.out)
      have HRV := hid (show E.map (·.1) = (T.ls.reverse) by rw [HE.out, List.take_of_length_le (by rw [List.length_reverse]; omega)])
      have HUV : Hid (HV wr (revT T) v (.slice none 0 0)) := hid (by
        have := HS.out.hv (fun e he => (HV'.out e he).onto (vonto HBW.out HS.out.bel))
        rw [HRV.out] at this
        exact this)
      have HREV := hid (rev_E HM0.out HWF.out (HKD.out.trans H5.out))
      have HRN := hid (rev_N HM0.out HWF.out)
      have HRW2 := hid (rev_W HM0.out HWF.out)
      obtain ⟨ov, cv, rfl⟩ := own_slice HS.out.own
      have CG := hid (CF2.out (revT T) _ _ wr (vonto HBW.out HS.out.bel) HUV.out)
      rw [HREV.out, HE0.out] at CG
      simp only [vv, revT, VT.kd, VT.nm, VT.st] at CG
      rw [show VT.mk 5 0 ⟨#[]⟩ T.ls.reverse [] [] = revT T from rfl] at CG
      have b0 := HS.out.cells 0 _ rfl
      have b1 := HS.out.cells 1 _ rfl
      have b2 := HS.out.cells 2 _ rfl
      have b3 := HS.out.cells 3 _ rfl
      have b4 := HS.out.cells 4 _ rfl
      have x0 := keepCell HS.out.bel x0
      have x1 := keepCell HS.out.bel x1
      have HH5 := hid (HHW.out.onto HS.out.bel)
      have HR5 := hid (HRW.out.onto HS.out.bel)
      have HB5 := hid (vonto HBW.out HS.out.bel)
      clear hik hjn hT5 CF2 HHW HRW HBW HS HL HE HV' HUV g3 hL3
      go_wp2_with fail
      go_at_call 8
      refine CG.out.mono ?_
      rintro e w6 ⟨oh2, ch2, orr2, cr2, rfl, hh2, hr2, hb6⟩
      have x0 := keepCell hb6 x0
      have x1 := keepCell hb6 x1
      have HH6 := hid (HH5.out.onto hb6)
      have HR6 := hid (HR5.out.onto hb6)
      have HB6 := hid (vonto HB5.out hb6)
      have HH7 := hid hh2
      have HR7 := hid hr2
      clear hh2 hr2 hb6 CG HH5 HR5 HB5 b0 b1 b2 b3 b4
      go_upto_region 12 with fail
      refine cewp_gen ?_
      intro W7 hW
      obtain ⟨y0, y1, hbW7⟩ := tb2_of hW
      have x0 := keepCell hbW7 x0
      have x1 := keepCell hbW7 x1
      have HH8 := hid (HH6.out.onto hbW7)
      have HR8 := hid (HR6.out.onto hbW7)
      have HH9 := hid (HH7.out.onto hbW7)
      have HR9 := hid (HR7.out.onto hbW7)
      have HB8 := hid (vonto HB6.out hbW7)
      clear hW hbW7 HH6 HR6 HH7 HR7 HB6
      by_cases hz : E0 = 0
      case neg =>
        have tz : (E0 != 0) = true := by simpa using hz
        have tz2 : (E0 == 0) = false := by simpa using hz
        go_wp2_with fail
        go_ret
        exact ⟨rfl, HB8.out⟩
      subst hz
      obtain ⟨z1, z2, z3, z4⟩ := flat_zero HE0.out
      have HFH : Hid (flatH T = flatN T ∧ flatR T = flatW T ∧ flatH (revT T) = flatN T ∧ flatR (revT T) = (flatW T).reverse) := hid (by
        unfold flatH flatR
        rw [HREV.out, HE0.out, HRN.out, HRW2.out]
        exact ⟨rfl, rfl, rfl, rfl⟩)
      obtain ⟨q1, q2, q3, q4⟩ := HFH.out
      rw [q1] at HH8 x0
      rw [q2] at HR8 x1
      rw [q3] at HH9 y0
      rw [q4] at HR9 y1
      have HNL := hid (show (flatN T).length ≤ 64 by unfold flatN; rw [List.length_map]; exact z3)
      have hwl : (flatW T).length = T.ls.length := flatW_len T
      have HWR := hid (fun r (hr : r ∈ flatW T) => flatW_row hr)
      rw [List.length_reverse] at HR9 y1
      rw [hwl] at HR8 HR9 x1 y1
      obtain ⟨N, hN⟩ : ∃ N, flatN T = N := ⟨_, rfl⟩
      obtain ⟨Wr, hWr⟩ : ∃ Wr, flatW T = Wr := ⟨_, rfl⟩
      rw [hN] at HH8 HH9 HNL HWR x0 y0
      rw [hWr] at HR8 HR9 HWR hwl
      have HWL := hid hwl
      clear q1 q2 q3 q4 HFH z1 z2 z3 z4 hwl hN hWr HREV HRN HRW2 HRV
      have CT := hid (ftexts_same N _ _ W7 (by have := HNL.out; omega) HH8.out HH9.out)
      go_wp2_with fail
      go_at_call 17
      refine CT.out.mono ?_
      rintro e w8 ⟨rfl, hw8⟩
      have hb8 : Below W7.heap.size W7 w8 := by obtain ⟨m, rfl⟩ := hw8; exact below_drewN (Below.refl _ _) m
      have x0 := keepCell hb8 x0
      have x1 := keepCell hb8 x1
      have y0 := keepCell hb8 y0
      have y1 := keepCell hb8 y1
      have HR10 := hid (HR8.out.onto hb8)
      have HR11 := hid (HR9.out.onto hb8)
      have HB9 := hid (vonto HB8.out hb8)
      clear hw8 hb8 CT HR8 HR9 HH8 HH9 HB8
      go_wp2_with fail
      go_loopw [10] (fun i wr => ∃ j : Nat, i = .int .i64 j ∧ j ≤ T.ls.length ∧ Hid (∃ m, wr = w8.drewN m)) (fun i _ => T.ls.length - (intOf i).toNat)
      case atStart => exact ⟨0, rfl, Nat.zero_le _, hid ⟨0, rfl⟩⟩
      case round =>
        obtain ⟨j, rfl, hj, HD⟩ := hrel
        have hbr : Below w8.heap.size w8 wr := by obtain ⟨m, rfl⟩ := HD.out; exact below_drewN (Below.refl _ _) m
        by_cases hlt2 : j < T.ls.length
        · obtain ⟨k, hk⟩ : ∃ k, k = T.ls.length - 1 - j := ⟨_, rfl⟩
          have hkn : k < T.ls.length := by omega
          have hik : (T.ls.length : Int) - 1 - (j : Int) = (k : Int) := by omega
          have hwl := HWL.out
          obtain ⟨r, hr⟩ : ∃ r, Wr[j]? = some r := ⟨Wr[j], List.getElem?_eq_getElem (by omega)⟩
          have hr2 : Wr.reverse[k]? = some r := by rw [List.getElem?_reverse (by omega), hwl, show T.ls.length - 1 - k = j by omega]; exact hr
          have hrl := HWR.out r (List.mem_of_getElem? hr)
          obtain ⟨a1, ⟨p1, cp1, e1, -, -, h1⟩, h2⟩ := HR10.out
          obtain ⟨a2, ⟨p2, cp2, e2, -, -, h3⟩, h4⟩ := HR11.out
          injection e1 with e1 e1b e1c
          injection e2 with e2 e2b e2c
          clear e1b e1c e2b e2c
          have h1 := h1 (by omega)
          have h3 := h3 (by rw [List.length_reverse]; omega)
          rw [← e1] at h1
          rw [← e2] at h3
          subst h1 h3
          obtain ⟨u1, i1c, i1s⟩ := h2 j r hr
          obtain ⟨u2, i2c, i2s⟩ := h4 k r hr2
          have CT := hid (fun m => ftexts_same r u1 u2 (wr.drewN m) (by have := HNL.out; omega) (i1s.onto (below_drewN hbr m)) (i2s.onto (below_drewN hbr m)))
          obtain ⟨b1, b1c, rfl⟩ := i1s.sl
          obtain ⟨b2, b2c, rfl⟩ := i2s.sl
          rw [hrl] at i1c i2c CT
          have x0 := keepCell hbr x0
          have x1 := keepCell hbr x1
          have y1 := keepCell hbr y1
          have i1c := keepCell hbr i1c
          have i2c := keepCell hbr i2c
          have CT' : Hid (∀ m, Calls Tryz.prog 17 #[.slice b1 N.length b1c, .slice b2 N.length b2c] (wr.drewN m) fun x w' => x = .returned (.bool true) ∧ ∃ n, w' = wr.drewN n) := hid (fun m => (CT.out m).mono (by rintro e w5 ⟨rfl, q, rfl⟩; exact ⟨rfl, _, World.drewN_drewN _ _ _⟩))
          clear hk e1 e2 h2 h4 hr hr2 hrl i1s i2s CT hbr hwl
          go_wp2_with fail
          go_quiet ((go_at_call 17; exact CT'.out _))
          go_wp2_with fail
          go_round
          case rel => exact ⟨j + 1, val_int (by omega), hlt2, hid (by obtain ⟨m, rfl⟩ := HD.out; exact ⟨_, World.drewN_drewN _ _ _⟩)⟩
          case measure => simp [intOf]; omega
        · go_wp2_with fail
          go_ret
          exact ⟨rfl, vonto HB9.out hbr⟩
end Go.Proofs.YtjcgkihkjjaefaaGreatDoor
