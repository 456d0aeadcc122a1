/- What every law of paths asks first: awake, walked. -/
import Derived.Test.YtadbeodeiijhdaaGreatDoorFFlS
import Derived.Test.YtadbeodeiijhdaaGreatDoorFOwnB
import Derived.Test.YtadbeodeiijhdaaGreatDoorFRefVal7
import Derived.Test.YtadbeodeiijhdaaGreatDoorFFlL
import Derived.Test.YtadbeodeiijhdaaGreatDoorFRef5P
import Derived.Test.YtadbeodeiijhdaaGreatDoorFRef5E
import Derived.Test.YtadbeodeiijhdaaGreatDoorFRef5B
import Derived.Test.YtadbeodeiijhdaaGreatDoorFCeD
import Derived.Test.YtadbeodeiijhdaaGreatDoorFRefVal8
import Derived.Test.YtadbeodeiijhdaaGreatDoorFPathFind
import Derived.Test.YtadbeodeiijhdaaGreatDoorFPathZ8
import Derived.Test.YtadbeodeiijhdaaGreatDoorFVHold
import Derived.Test.YtadbeodeiijhdaaGreatDoorFOrders
import Derived.Test.YtadbeodeiijhdaaGreatDoorFVSameT
import Derived.Test.YtadbeodeiijhdaaGreatDoorFRefVal4
/- The likeness of trees, plain mathematics: each is like itself, likeness goes both ways and on, what is the same is equal. -/
/- PathParts, walked: a path's text is that of its beginning and of what goes on behind it; it leads first there, then on. -/
/- The document's Flat: its leaves and columns in memory; rows of paths appended. -/
namespace Go.Proofs.YtadbeodeiijhdaaGreatDoor
open Go.RowKit

theorem inld_of {w' : World} {B : Nat} {v : Value} {E : List LE} (h : w'.ownsRow B 40 6 v E.length (E.flatMap lcE)) (hE : ∀ e ∈ E, w'.ownsRow B 75 3 e.u e.p.length (e.p.flatMap sc) ∧ Bare e) (hk : ∀ e ∈ E, ∀ s ∈ e.p, s.key.size ≤ maxLen) : InLf w' (E.map LE.pt) v := by
  have hc := h
  rcases hc with ⟨-, ⟨rfl, h0⟩ | ⟨g, cap, cur, rfl, -, -, hn, hcm, -, -⟩⟩
  · have : E = [] := List.eq_nil_of_length_eq_zero h0
    subst this
    exact ⟨⟨0, 0, none⟩, ⟨none, 0, rfl, Nat.le_refl _, Nat.zero_le _, fun h => absurd h (by simp)⟩, fun i s h => by simp at h⟩
  have key : ∀ (i : Nat) (e : LE), E[i]? = some e → ∀ (c : Nat) (u : Value), (lcE e)[c]? = some u → w'.cell? ⟨g, i * 6 + c, none⟩ = some u := by
    intro i e he c u hu
    have hi := lt_of_some he
    have hc : c < 6 := lt_of_some hu
    have h' : w'.ownsRow B 40 6 (.slice (some ⟨g, 0, none⟩) E.length cap) E.length (E.flatMap lcE) := h
    rw [h'.cellAt (i * 6 + c) (by omega), flat_at lcE 6 (fun _ => rfl) E i c e he hc]
    exact hu
  refine ⟨⟨g, 0, none⟩, ⟨_, cap, by rw [List.length_map], by simpa using hn, hcm, fun _ => rfl⟩, fun i e' he' => ?_⟩
  rw [List.getElem?_map] at he'
  obtain ⟨e, he, rfl⟩ := Option.map_eq_some_iff.1 he'
  have hm := List.mem_of_getElem? he
  obtain ⟨h1, h2⟩ := hE e hm
  refine ⟨e.u, e.x, e.y, ?_, ?_, own_inp h1 (hk e hm), h2.2 w'⟩
  · rw [add_at]; exact key i e he 0 _ rfl
  · rw [add_at]
    exact ⟨key i e he 1 _ rfl, key i e he 2 _ rfl, key i e he 3 _ rfl, key i e he 4 _ rfl, key i e he 5 _ rfl⟩
/-- the document's leaves of a tree that may be -/
theorem dleaves_in (T : VT) (x y : Value) (w : World) (hT : HV w T x y) (hm : mayB 0 1 T = true) :
    Calls Tryz.prog 14 #[vv T x y, .slice none 0 0] w fun e w' => ∃ v, e = .returned v ∧ InLf w' (lfT T []) v ∧ Below w.heap.size w w' := by
  obtain ⟨h1, h2, h3⟩ := good_sz hm
  have hwf := hv_wfT (szT T) (Nat.le_refl _) hT
  refine (dleaf_any (szT T) T x y [] (.slice none 0 0) w (Nat.le_refl _) h3 hT ⟨⟨0, 0, none⟩, ⟨none, 0, rfl, Nat.le_refl _, Nat.zero_le _, fun h => absurd h (by simp)⟩, fun i s h => by simp at h⟩ (by simp; omega)).mono ?_
  rintro e w' ⟨v, E, rfl, hg, hE⟩
  refine ⟨v, rfl, ?_, hg.bel⟩
  rw [← hE]
  refine inld_of hg.row (fun e he => ⟨hg.els e he, hg.bs e he⟩) (fun e he s hs => ?_)
  have hz : (e.p, e.T) ∈ lfT T [] := by rw [← hE]; exact List.mem_map.2 ⟨e, he, rfl⟩
  obtain ⟨r, hr⟩ := lf_get (szT T) (T := T) (Nat.le_refl _) h3 hwf (by omega) _ _ _ hz
  have e1 : e.p = r := by rw [hr.e]; rfl
  have := (hr.f s (by rw [← e1]; exact hs)).2
  unfold maxLen; omega
/-- the slices of the columns' paths -/
theorem inc_vals {w : World} {R : List (List PStep)} {o : Option Addr} {n c : Nat} (h : InC w R (.slice o n c)) : n = R.length ∧ n ≤ c ∧ ∃ U : List Value, U.length = n ∧ (∀ (i : Nat) (p : List PStep) (u : Value), R[i]? = some p → U[i]? = some u → InP w p u) ∧ (0 < n → ∃ a, o = some a ∧ ∀ j u, U[j]? = some u → w.cell? (a.add j) = some u) ∧ ∀ u ∈ U, u.oneCell' = true := by
  obtain ⟨a, ⟨o', c', e1, h1, h2, h3⟩, h4⟩ := h
  injection e1 with e1 e2 e3
  subst e1 e2 e3
  have hf : ∀ i : Nat, ∃ u, ∀ p, R[i]? = some p → w.cell? (a.add i) = some u ∧ InP w p u := fun i => by
    cases hp : R[i]? with
    | none => exact ⟨.slice none 0 0, fun p h => by cases h⟩
    | some p =>
      obtain ⟨u, h5, h6⟩ := h4 i p hp
      exact ⟨u, fun q hq => by injection hq with hq; subst hq; exact ⟨h5, h6⟩⟩
  have hU : ∀ (i : Nat) (u : Value), ((List.range R.length).map fun i => (hf i).choose)[i]? = some u → i < R.length ∧ u = (hf i).choose := fun i u hu => by
    rw [List.getElem?_map] at hu
    obtain ⟨j, hj, rfl⟩ := Option.map_eq_some_iff.1 hu
    obtain ⟨hl, hj⟩ := List.getElem?_eq_some_iff.1 hj
    simp at hl hj
    subst hj
    exact ⟨hl, rfl⟩
  refine ⟨rfl, h1, (List.range R.length).map fun i => (hf i).choose, by simp, fun i p u hp hu => ?_, fun h0 => ⟨a, h3 h0, fun j u hu => ?_⟩, fun u hu => ?_⟩
  · obtain ⟨-, rfl⟩ := hU i u hu
    exact ((hf i).choose_spec p hp).2
  · obtain ⟨hl, rfl⟩ := hU j u hu
    exact ((hf j).choose_spec _ (List.getElem?_eq_getElem hl)).1
  · obtain ⟨i, hi⟩ := List.getElem?_of_mem hu
    obtain ⟨hl, rfl⟩ := hU i u hi
    obtain ⟨o, c, e⟩ := inp_slice ((hf i).choose_spec _ (List.getElem?_eq_getElem hl)).2
    rw [e]; rfl
theorem inc_of {X : World} {base : Nat} {v : Value} {R : List (List PStep)} {U : List Value} (h : X.ownsRow base 38 1 v R.length U) (hl : U.length = R.length) (hp : ∀ (i : Nat) (p : List PStep) (u : Value), R[i]? = some p → U[i]? = some u → InP X p u) : InC X R v := by
  have hc := h
  rcases hc with ⟨-, ⟨rfl, h0⟩ | ⟨g, cap, cur, rfl, -, -, hn, hcm, -, -⟩⟩
  · have : R = [] := List.eq_nil_of_length_eq_zero h0
    subst this
    exact ⟨⟨0, 0, none⟩, ⟨none, 0, rfl, Nat.le_refl _, Nat.zero_le _, fun h => absurd h (by simp)⟩, fun i s h => by simp at h⟩
  · refine ⟨⟨g, 0, none⟩, ⟨_, _, rfl, hn, hcm, fun _ => rfl⟩, fun i p hpi => ?_⟩
    have hi := lt_of_some hpi
    obtain ⟨u, hu⟩ : ∃ u, U[i]? = some u := ⟨U[i], List.getElem?_eq_getElem (by omega)⟩
    refine ⟨u, ?_, hp i p u hpi hu⟩
    rw [add_at, h.cellAt i (by omega)]; exact hu
theorem own_cap {w : World} {B : Nat} {ty : TypeId} {o : Option Addr} {n cv : Nat} {xs : List Value} (h : w.ownsRow B ty 1 (.slice o n cv) n xs) : n ≤ cv := by
  rcases h with ⟨-, ⟨e, h0⟩ | ⟨g, cap, cur, e, -, -, hn, hcm, -, -⟩⟩
  · omega
  · injection e with e1 e2 e3
    omega
/-- a row of paths behind a row of one's own -/
theorem cat5 (base : Nat) (X : World) (v : Value) (n : Nat) (ys : List Value) (hown : X.ownsRow base 38 1 v n ys) (o : Option Addr) (m c : Nat) (xs : List Value) (hl : xs.length = m) (ho : 0 < m → ∃ a, o = some a ∧ ∀ j u, xs[j]? = some u → X.cell? (a.add j) = some u)
    (h1 : ∀ u ∈ xs, u.oneCell' = true) (hb : base ≤ X.heap.size) (hlen : n + m ≤ 100000) (ty : TypeId) :
    ∃ u Y, (Builtin.append_ #[85, 85] ty #[v, .slice o m c]).run Tryz.prog X = .ok u Y ∧ Y.ownsRow base 38 1 u (n + m) (ys ++ xs) ∧ (∀ W0 : World, W0.heap.size = base → Below base W0 X → Below base W0 Y) ∧ (∀ ad : Addr, ad.block < X.heap.size → some ad.block ≠ v.ownBlock → Y.cell? ad = X.cell? ad) := by
  obtain ⟨i1, hi', hz0', hz1', hz2'⟩ := info_parts Tryz.infoRow
  rcases Nat.eq_zero_or_pos m with h0 | h0
  · subst h0
    have hx : xs = [] := List.eq_nil_of_length_eq_zero hl
    subst hx
    obtain ⟨ov, cv, rfl⟩ := own_sl5 hown
    refine ⟨_, X, run_append_nothing (P := Tryz.prog) X 85 85 ty 38 i1 Tryz.underlying85 hi' _ n cv (own_cap hown) _ ?_, by simpa using hown, fun _ _ h => h, fun _ _ _ => rfl⟩
    cases o with
    | none => exact Src.ofNil X Tryz.underlying85 c
    | some a => exact Src.ofSlice X Tryz.underlying85 a 0 c [] (by simp) (fun j u h => by simp at h) (by simp)
  · obtain ⟨a, rfl, hc⟩ := ho h0
    obtain ⟨g, cp, Y, hr, h2, h3, h4, h5⟩ := run_append_lies (P := Tryz.prog) X 85 ty base 38 i1 (.slice none 0 0) 1 24 Tryz.underlying85 hi' hz0' hz1' hz2' rfl (by decide) v n ys hown a m c xs (by omega) hc h1 h0 (by unfold maxLen; omega) (by omega) hb X.heap.size rfl
    exact ⟨_, Y, hr, h2, fun W0 hW0 hB => by subst hW0; exact hB.grown h3 hb (fun q hq => (hown.lt q hq).1), fun ad h1 h6 => h3.cell_far ad h1 h6⟩
end Go.Proofs.YtadbeodeiijhdaaGreatDoor
/- The statements of stage 16: what they ask first; FlatKnown. -/
namespace Go.Proofs.YtadbeodeiijhdaaGreatDoor
open Go.RowKit

def GlobF (w : World) : Prop := GlobC5 w ∧ Glob5 w
theorem GlobF.on {w w' : World} (h : GlobF w) (hb : Below w.heap.size w w') : GlobF w' := ⟨h.1.on hb, h.2.on hb⟩
theorem flat_any (T : VT) (x y : Value) (w : World) (hT : HV w T x y) (hg : GlobF w) : Calls Tryz.prog 17 #[vv T x y] w (FlatPost T w) := by
  cases hl : lomB T with
  | false => exact flat_no T x y w hT hg.1.1 hl
  | true =>
    by_cases h : 512 < T.ls.length
    · exact flat_many T x y w hT hg.1.1 hl h
    · exact flat_go T x y w hT hg.1 hg.2 hl (by omega)
/-- Leaves, as they lie in memory -/
theorem leaves_in (T : VT) (x y : Value) (w : World) (hT : HV w T x y) (hm : mayB 0 1 T = true) :
    Calls Tryz.prog 13 #[vv T x y] w fun e w' => ∃ v, e = .returned v ∧ InLf w' (lfT T []) v ∧ Below w.heap.size w w' := by
  obtain ⟨h1, h2, h3⟩ := good_sz hm
  have hwf := hv_wfT (szT T) (Nat.le_refl _) hT
  refine (leaves_any T x y w hT h3 (by omega)).mono ?_
  rintro e w' ⟨v, E, rfl, ho, hE, hEp, hb⟩
  refine ⟨v, rfl, ?_, hb⟩
  rw [← hEp]
  refine inlf_of ho hE (fun e he s hs => ?_)
  have hz : (e.p, e.T) ∈ lfT T [] := by rw [← hEp]; exact List.mem_map.2 ⟨e, he, rfl⟩
  obtain ⟨r, hr⟩ := lf_get (szT T) (Nat.le_refl _) h3 hwf (by omega) [] e.p e.T hz
  have e1 : e.p = r := by rw [hr.e]; rfl
  rw [e1] at hs
  have := (hr.f s hs).2
  unfold maxLen; omega
theorem inlf_sl {w : World} {l : List (List PStep × VT)} {v : Value} (h : InLf w l v) : ∃ o c, v = .slice o l.length c := by
  obtain ⟨_, ⟨o, c, rfl, -⟩, -⟩ := h
  exact ⟨o, c, rfl⟩
theorem inlf_at {w : World} {l : List (List PStep × VT)} {o : Option Addr} {n c : Nat} (h : InLf w l (.slice o n c)) {i : Nat} {e : List PStep × VT} (he : l[i]? = some e) : ∃ a u x y, o = some a ∧ w.cell? (a.add (i * 6)) = some u ∧ Node w (nx (a.add (i * 6))) e.2 x y ∧ InP w e.1 u ∧ HV w e.2 x y := by
  obtain ⟨a, ⟨o', c', e1, h1, h2, h3⟩, h4⟩ := h
  injection e1 with e1 e2 e3
  obtain ⟨u, x, y, h5⟩ := h4 i e he
  exact ⟨a, u, x, y, by rw [e1]; exact h3 (by have := lt_of_some he; omega), h5⟩
theorem ins_two {W : World} (w : World) (a b : ByteArray) (hW : W = w.alloc (.cells #[.string a, .string b] 9)) (ha : a.size ≤ maxLen) (hb : b.size ≤ maxLen) : InS W [a, b] (.slice (some ⟨w.heap.size, 0, none⟩) 2 2) := by
  subst hW
  refine ⟨⟨w.heap.size, 0, none⟩, ⟨_, _, rfl, Nat.le_refl _, by unfold maxLen; omega, fun _ => rfl⟩, fun i c hc => ?_⟩
  rw [add_at]
  match i, hc with
  | 0, hc => simp at hc; subst hc; exact ⟨by simp, ha⟩
  | 1, hc => simp at hc; subst hc; exact ⟨by simp, hb⟩
  | i + 2, hc => simp at hc
set_option maxRecDepth 100000 in
set_option maxHeartbeats 4000000 in
theorem awake16 (w : World) (hg : GlobF w) : Calls Tryz.prog 10 #[] w fun e w' => e = .returned (.bool true) ∧ Below w.heap.size w w' := by
  have HG := hid hg
  obtain ⟨g1, g2, g3, g4, g5, g6⟩ := one_good
  have HOE := hid g2
  have HOH := hid g3
  have HOR := hid g4
  have HOM := hid g5
  clear hg g1 g2 g3 g4 g5 g6
  have HF := hid (fun (X : World) (hX : Below w.heap.size w X) (r : Nat) (h : HV X tOne (.slice (some ⟨r, 0, none⟩) 1 1) (.slice none 0 0)) => flat_any tOne _ _ X h (HG.out.on hX))
  have HL := hid (fun (X : World) (r : Nat) (h : HV X tOne (.slice (some ⟨r, 0, none⟩) 1 1) (.slice none 0 0)) => leaves_in tOne _ _ X h HOM.out)
  simp only [vv, tOne, VT.kd, VT.nm, VT.st] at HF HL
  rw [show VT.mk 5 0 ⟨#[]⟩ [tOm] [] [] = tOne from rfl] at HF HL
  go_enter Tryz.func10, Tryz.ntmps10
  go_wp2_with fail
  go_at_call 29
  refine (fone_any _).mono ?_
  rintro e w1 ⟨q1, r1, rfl, hv1, -, -, hb1⟩
  go_wp2_with fail
  go_at_call 17
  refine (HF.out w1 hb1 r1 hv1).mono ?_
  rintro e w2 ⟨h, r, rfl, hh, hr, hb2⟩
  rw [HOE.out]
  rw [HOH.out] at hh
  rw [HOR.out] at hr
  obtain ⟨oh, ch, rfl⟩ := hh.sl
  obtain ⟨orr, cr, rfl⟩ := hr.sl
  simp only [List.length_cons, List.length_nil, Nat.zero_add, Nat.reduceAdd] at hh hr ⊢
  have HB2 := hid (vonto hb1 hb2)
  have HH := hid hh
  have HR := hid hr
  clear hv1 hb1 hb2 hh hr
  go_upto_region 2 with fail
  refine cewp_gen ?_
  intro W hW
  have hbW : Below w2.heap.size w2 W := by rw [hW]; exact valloc_bel (Below.refl _ _) _
  have hx0 : W.cell? ⟨w2.heap.size, 0, none⟩ = some (.slice oh 2 ch) := by rw [hW]; simp
  have hx1 : W.cell? ⟨w2.heap.size, 1, none⟩ = some (.slice orr 1 cr) := by rw [hW]; simp
  have HBW := hid (vonto HB2.out hbW)
  have HHW := hid (HH.out.onto hbW)
  have HRW := hid (HR.out.onto hbW)
  clear hW hbW HH HR HB2
  go_wp2_with fail
  go_at_call 29
  refine (fone_any _).mono ?_
  rintro e w3 ⟨q2, r2, rfl, hv3, -, -, hb3⟩
  replace hx0 := keepCell hb3 hx0
  replace hx1 := keepCell hb3 hx1
  have HB3 := hid hb3
  clear hb3
  go_wp2_with fail
  go_at_call 13
  refine (HL.out w3 r2 hv3).mono ?_
  rintro e w4 ⟨lv, rfl, hl, hb4⟩
  rw [one_leaves] at hl
  obtain ⟨ol, cl, rfl⟩ := inlf_sl hl
  obtain ⟨al, u, x, y, rfl, hc, hn, hip, hhv⟩ := inlf_at hl (i := 1) rfl
  obtain ⟨ou, cu, rfl⟩ := inp_slice hip
  obtain ⟨n0, n1, n2, n3, n4⟩ := hn
  simp only [List.length_cons, List.length_nil, Nat.zero_add, Nat.reduceAdd, nx] at hc n0 n1 n2 n3 n4 ⊢
  replace hx0 := keepCell hb4 hx0
  replace hx1 := keepCell hb4 hx1
  have HB4 := hid (vonto HB3.out hb4)
  have HH4 := hid (HHW.out.onto HB4.out)
  have HR4 := hid (HRW.out.onto HB4.out)
  have hn2 : w4.cell? ⟨(al.add (1 * 6)).block, (al.add (1 * 6)).off + 1 + 2, none⟩ = some (.string ⟨#[120]⟩) := n2
  have HBZ := hid (vonto HBW.out HB4.out)
  clear hl hip hhv hv3 hb4 HHW HRW HB3 n0 n1 n3 n4 n2
  obtain ⟨a1, ⟨o1, c1, e1, -, -, h1⟩, h2⟩ := HR4.out
  injection e1 with e1 e2 e3
  obtain ⟨u1, hc1, hin1⟩ := h2 0 _ rfl
  obtain rfl : orr = some a1 := by rw [e1]; exact h1 (by decide)
  obtain ⟨o2, c2, rfl⟩ := hin1.sl
  simp only [List.length_cons, List.length_nil, Nat.zero_add, Nat.reduceAdd] at hc1 hin1
  have HN1 := hid hin1
  rw [show a1.add 0 = a1 by simp [Addr.add]] at hc1
  rw [Nat.one_mul] at hc hn2
  replace hc : w4.cell? ⟨al.block, al.off + 6, none⟩ = some (.slice ou 3 cu) := hc
  replace hn2 : w4.cell? ⟨al.block, al.off + 6 + 1 + 2, none⟩ = some (.string ⟨#[120]⟩) := hn2
  clear h1 h2 e1 e2 e3 hin1
  go_wp2_with fail
  go_at_call 19
  refine (ftexts_same [⟨#[97]⟩, ⟨#[98, 47, 99]⟩] _ _ _ (by decide) (HH4.out.onto (valloc_bel (Below.refl _ _) _)) (ins_two w4 _ _ rfl (by decide) (by decide))).mono ?_
  rintro e w5 ⟨rfl, hw5⟩
  have hb5 : Below w4.heap.size w4 w5 := by obtain ⟨m, rfl⟩ := hw5; exact below_drewN (valloc_bel (Below.refl _ _) _) m
  replace hx1 := keepCell hb5 hx1
  replace hc1 := keepCell hb5 hc1
  replace hc := keepCell hb5 hc
  replace hn2 := keepCell hb5 hn2
  have HN5 := hid (HN1.out.onto hb5)
  have HB5 := hid (vonto HBZ.out hb5)
  clear hw5 hb5 hx0
  go_wp2_with fail
  go_at_call 19
  refine (ftexts_same [⟨#[49]⟩, ⟨#[120]⟩] _ _ _ (by decide) (HN5.out.onto (valloc_bel (Below.refl _ _) _)) (ins_two w5 _ _ rfl (by decide) (by decide))).mono ?_
  rintro e w6 ⟨rfl, hw6⟩
  have hb6 : Below w5.heap.size w5 w6 := by obtain ⟨m, rfl⟩ := hw6; exact below_drewN (valloc_bel (Below.refl _ _) _) m
  replace hc := keepCell hb6 hc
  replace hn2 := keepCell hb6 hn2
  have HB6 := hid (vonto HB5.out hb6)
  clear hw6 hb6 hx1 hc1
  go_wp2_with fail
  go_ret
  exact ⟨rfl, HB6.out⟩
end Go.Proofs.YtadbeodeiijhdaaGreatDoor
/- FlatOrder, walked. -/
namespace Go.Proofs.YtadbeodeiijhdaaGreatDoor
open Go.RowKit

/-- a list being laid the other way round: its box, its parts -/
structure RvS (w wr : World) (v : Value) (E : List (VT × Value × Value)) : Prop where
  bel : Below w.heap.size w wr
  own : wr.ownsRow (w.heap.size + 1) 26 5 v E.length (E.flatMap vc)
  box : wr.heap[w.heap.size]? = some (.cells #[.int .i64 5, .int .i64 0, .string ⟨#[]⟩, v, .slice none 0 0] 26 (0, 0))
theorem RvS.cells {w wr : World} {v : Value} {E : List (VT × Value × Value)} (h : RvS w wr v E) : Cs wr w.heap.size [.int .i64 5, .int .i64 0, .string ⟨#[]⟩, v, .slice none 0 0] := fun i u hu => by
  rw [cell_of_row wr w.heap.size i _ _ _ h.box]
  simpa using hu
theorem RvS.more {w wr w9 : World} {v v' : Value} {E : List (VT × Value × Value)} (h : RvS w wr v E) (a : VT × Value × Value) (ho : w9.ownsRow (w.heap.size + 1) 26 5 v' (E.length + 1) (E.flatMap vc ++ vc a)) (hg : wr.grownBy w9 v.ownBlock) :
    RvS w (w9.setCell ⟨w.heap.size, 3, none⟩ v') v' (E ++ [a]) := by
  have hs := h.bel.size
  have hlt : w.heap.size < wr.heap.size := (Array.getElem?_eq_some_iff.1 h.box).1
  have hne : some w.heap.size ≠ v.ownBlock := fun e => by have := (h.own.lt _ e.symm).1; omega
  have hbx := (hg.block _ hlt hne).trans h.box
  refine ⟨vset_bel (h.bel.grown hg hs (fun q hq => by have := (h.own.lt q hq).1; omega)) (Nat.le_refl _), ?_, ?_⟩
  · have := ownsRow_setCell_below ho (a := ⟨w.heap.size, 3, none⟩) (by show w.heap.size < w.heap.size + 1; omega) v'
    rw [List.length_append, List.flatMap_append]
    simpa using this
  · rw [lbox_set hbx]; rfl
/-- the tree that such a list is -/
theorem RvS.hv {w wr : World} {v : Value} {E : List (VT × Value × Value)} (h : RvS w wr v E) (hE : ∀ e ∈ E, HV wr e.1 e.2.1 e.2.2) : HV wr (.mk 5 0 ⟨#[]⟩ (E.map (·.1)) [] []) v (.slice none 0 0) := by
  have hc := h.own
  rcases hc with ⟨-, ⟨rfl, h0⟩ | ⟨g, cap, cur, rfl, -, -, hn, hcm, -, -⟩⟩
  · have : E = [] := List.eq_nil_of_length_eq_zero h0
    subst this
    exact hv_leaf wr 5 0 _ (by decide) (by decide) (by decide)
  have key : ∀ (i : Nat) (e : VT × Value × Value), E[i]? = some e → ∀ (c : Nat) (u : Value), (vc e)[c]? = some u → wr.cell? ⟨g, i * 5 + c, none⟩ = some u := by
    intro i e he c u hu
    have hi := lt_of_some he
    have hc : c < 5 := lt_of_some hu
    rw [h.own.cellAt (i * 5 + c) (by omega), flat_at vc 5 (fun _ => rfl) E i c e he hc]
    exact hu
  refine hv_in (by decide) (by decide) (by decide) ⟨⟨g, 0, none⟩, fun i => ((E[i]?).map (·.2.1)).getD (.slice none 0 0), fun i => ((E[i]?).map (·.2.2)).getD (.slice none 0 0), ⟨_, cap, by rw [List.length_map], by simpa using hn, hcm, fun _ => rfl⟩, fun i t ht => ?_, fun i t ht => ?_⟩ (mf_nil wr 0 0).inM
  · rw [List.getElem?_map] at ht
    obtain ⟨e, he, rfl⟩ := Option.map_eq_some_iff.1 ht
    rw [add_at]
    simp only [he, Option.map_some, Option.getD_some]
    exact ⟨key i e he 0 _ rfl, key i e he 1 _ rfl, key i e he 2 _ rfl, key i e he 3 _ rfl, key i e he 4 _ rfl⟩
  · rw [List.getElem?_map] at ht
    obtain ⟨e, he, rfl⟩ := Option.map_eq_some_iff.1 ht
    simp only [he, Option.map_some, Option.getD_some]
    exact hE e (List.mem_of_getElem? he)
/-- Flat's table, in slices -/
theorem flat_tab (T : VT) (x y : Value) (X : World) (hT : HV X T x y) (hg : GlobF X) : Calls Tryz.prog 17 #[vv T x y] X fun e w' => ∃ oh ch orr cr, e = .returned (.tuple #[.agg #[.slice oh (flatH T).length ch, .slice orr (flatR T).length cr], .int .i64 (flatE T)]) ∧ InS w' (flatH T) (.slice oh (flatH T).length ch) ∧ InRs w' (flatR T) (.slice orr (flatR T).length cr) ∧ Below X.heap.size X w' := by
  refine (flat_any T x y X hT hg).mono ?_
  rintro e w' ⟨h, r, rfl, hh, hr, hb⟩
  obtain ⟨o1, c1, rfl⟩ := hh.sl
  obtain ⟨o2, c2, rfl⟩ := hr.sl
  exact ⟨o1, c1, o2, c2, rfl, hh, hr, hb⟩
theorem tb2_of {w W : World} {a b : Value} (h : W = w.alloc (.cells #[a, b] 45)) : W.cell? ⟨w.heap.size, 0, none⟩ = some a ∧ W.cell? ⟨w.heap.size, 1, none⟩ = some b ∧ Below w.heap.size w W := by
  subst h
  exact ⟨by simp, by simp, valloc_bel (Below.refl _ _) _⟩
end Go.Proofs.YtadbeodeiijhdaaGreatDoor
/- FlatHeads, walked. -/
namespace Go.Proofs.YtadbeodeiijhdaaGreatDoor
open Go.RowKit

theorem may_kid {T t : VT} (h : mayB 0 1 T = true) {i : Nat} (hi : T.ls[i]? = some t) : mayB 0 1 t = true := by
  obtain ⟨h1, h2, h3⟩ := good_sz h
  have hs := szT_ls T i t hi
  have hh := (hgL_get T.ls _).1 (Nat.le_refl _) i t hi
  have hh2 := hg_ls T
  unfold mayB
  rw [Bool.and_eq_true, decide_eq_true_iff]
  exact ⟨⟨by omega, by omega⟩, plain_ls h3 hi⟩
/-- the cells that the last comparison reads -/
def SS (b b4 : Nat) (al ar : Addr) (oh o1 o2 b1 : Option Addr) (j5 j L cL : Nat) (t : VT) (n1 c1 n2 c2 N ch cr b1c : Nat) (X : World) : Prop :=
  X.cell? ⟨b, 3, none⟩ = some (.slice (some al) L cL) ∧ X.cell? (al.add j5) = some (.int .i64 t.kd) ∧ X.cell? ⟨(al.add j5).block, (al.add j5).off + 1, none⟩ = some (.int .i64 t.nm) ∧ X.cell? ⟨(al.add j5).block, (al.add j5).off + 2, none⟩ = some (.string t.st) ∧ X.cell? ⟨(al.add j5).block, (al.add j5).off + 3, none⟩ = some (.slice o1 n1 c1) ∧ X.cell? ⟨(al.add j5).block, (al.add j5).off + 4, none⟩ = some (.slice o2 n2 c2) ∧ X.cell? ⟨b4, 0, none⟩ = some (.slice oh N ch) ∧ X.cell? ⟨b4, 1, none⟩ = some (.slice (some ar) L cr) ∧ X.cell? (ar.add j) = some (.slice b1 N b1c)
theorem SS.onto {b b4 : Nat} {al ar : Addr} {oh o1 o2 b1 : Option Addr} {j5 j L cL : Nat} {t : VT} {n1 c1 n2 c2 N ch cr b1c : Nat} {X Y : World} (h : SS b b4 al ar oh o1 o2 b1 j5 j L cL t n1 c1 n2 c2 N ch cr b1c X) (hb : Below X.heap.size X Y) : SS b b4 al ar oh o1 o2 b1 j5 j L cL t n1 c1 n2 c2 N ch cr b1c Y := by
  obtain ⟨y0, y1, y2, y3, y4, y5, y6, y7, y8⟩ := h
  exact ⟨keepCell hb y0, keepCell hb y1, keepCell hb y2, keepCell hb y3, keepCell hb y4, keepCell hb y5, keepCell hb y6, keepCell hb y7, keepCell hb y8⟩
end Go.Proofs.YtadbeodeiijhdaaGreatDoor
namespace Go.Proofs.YtadbeodeiijhdaaGreatDoor
open Go.RowKit

def pA : List PStep := [kyS cRA, plS 1]
def cAB : ByteArray := ⟨#[97, 47, 98]⟩
def cK3 : ByteArray := ⟨#[51]⟩
def tR2 : VT := leafT 2 2 ⟨#[]⟩
def tR9 : VT := leafT 2 9 ⟨#[]⟩
def tRowS : VT := .mk 6 0 ⟨#[]⟩ [] [cRA] [.mk 5 0 ⟨#[]⟩ [leafT 2 1 ⟨#[]⟩, tR9] [] []]
def tRowD : VT := .mk 6 0 ⟨#[]⟩ [] [cRA] [.mk 5 0 ⟨#[]⟩ [leafT 2 1 ⟨#[]⟩] [] []]
end Go.Proofs.YtadbeodeiijhdaaGreatDoor
namespace Go.Proofs.YtadbeodeiijhdaaGreatDoor
open Go.RowKit

def keyO (l : List UInt8) : Option (Bool × List UInt8 × Int) := if numB l then some (scN l, scD l, scT l) else none
theorem cmp_key (a b : List UInt8) : cmpI a b = 0 ↔ keyO a = keyO b := by
  cases ha : numB a <;> cases hb : numB b
  · simp [cmpI, keyO, ha, hb]
  · simp [cmpI, keyO, ha, hb]
  · simp [cmpI, keyO, ha, hb]
  · rw [cmp_zero a b ha hb]; simp [keyO, ha, hb]
theorem str_iff (lo : Bool) (k : Int) (s t : ByteArray) : strB lo k s t = true ↔ s = t ∨ (lo = true ∧ k = 3 ∧ keyO s.data.toList = keyO t.data.toList) := by
  unfold strB
  simp only [Bool.or_eq_true, Bool.and_eq_true, decide_eq_true_eq, cmp_key, and_assoc]
theorem same_iff (lo : Bool) (T U : VT) : sameT lo T U = true ↔ (T.kd = U.kd ∧ T.nm = U.nm ∧ T.ls.length = U.ls.length ∧ T.vs.length = U.vs.length) ∧ strB lo T.kd T.st U.st = true ∧ sameL lo T.ls U.ls = true ∧ T.ks = U.ks ∧ sameL lo T.vs U.vs = true := by
  rw [sameT_eq]
  simp only [Bool.and_eq_true, decide_eq_true_eq, and_assoc]
mutual
theorem like_turn (lo : Bool) : ∀ T U : VT, sameT lo T U = true → sameT lo U T = true
  | .mk k n s L K V, U, h => by
    rw [same_iff] at h ⊢
    simp only [VT.kd, VT.nm, VT.st, VT.ls, VT.ks, VT.vs] at h ⊢
    obtain ⟨⟨h1, h2, h3, h4⟩, h5, h6, h7, h8⟩ := h
    refine ⟨⟨h1.symm, h2.symm, h3.symm, h4.symm⟩, ?_, likeL_turn lo L U.ls h3 h6, h7.symm, likeL_turn lo V U.vs h4 h8⟩
    rw [str_iff] at h5 ⊢
    rcases h5 with e | ⟨e1, e2, e3⟩
    · exact Or.inl e.symm
    · exact Or.inr ⟨e1, h1 ▸ e2, e3.symm⟩
theorem likeL_turn (lo : Bool) : ∀ L M : List VT, L.length = M.length → sameL lo L M = true → sameL lo M L = true
  | [], [], _, _ => by simp [sameL]
  | [], _ :: _, h, _ => by simp at h
  | _ :: _, [], h, _ => by simp at h
  | t :: r, u :: q, h, g => by
    simp only [sameL, Bool.and_eq_true] at g ⊢
    exact ⟨like_turn lo t u g.1, likeL_turn lo r q (by simpa using h) g.2⟩
end
mutual
theorem like_on (lo : Bool) : ∀ T U W : VT, sameT lo T U = true → sameT lo U W = true → sameT lo T W = true
  | .mk k n s L K V, U, W, h, g => by
    rw [same_iff] at h g ⊢
    simp only [VT.kd, VT.nm, VT.st, VT.ls, VT.ks, VT.vs] at h ⊢
    obtain ⟨⟨h1, h2, h3, h4⟩, h5, h6, h7, h8⟩ := h
    obtain ⟨⟨g1, g2, g3, g4⟩, g5, g6, g7, g8⟩ := g
    refine ⟨⟨h1.trans g1, h2.trans g2, h3.trans g3, h4.trans g4⟩, ?_, likeL_on lo L U.ls W.ls h6 g6, h7.trans g7, likeL_on lo V U.vs W.vs h8 g8⟩
    rw [str_iff] at h5 g5 ⊢
    rcases h5 with e | ⟨e1, e2, e3⟩
    · rcases g5 with f | ⟨f1, f2, f3⟩
      · exact Or.inl (e.trans f)
      · exact Or.inr ⟨f1, h1.trans f2, by rw [e]; exact f3⟩
    · rcases g5 with f | ⟨f1, f2, f3⟩
      · exact Or.inr ⟨e1, e2, e3.trans (congrArg (fun x : ByteArray => keyO x.data.toList) f)⟩
      · exact Or.inr ⟨e1, e2, e3.trans f3⟩
theorem likeL_on (lo : Bool) : ∀ L M N : List VT, sameL lo L M = true → sameL lo M N = true → sameL lo L N = true
  | [], _, _, _, _ => by simp [sameL]
  | _ :: _, [], _, h, _ => by simp [sameL] at h
  | _ :: _, _ :: _, [], _, h => by simp [sameL] at h
  | t :: r, u :: q, v :: p, h, g => by
    simp only [sameL, Bool.and_eq_true] at h g ⊢
    exact ⟨like_on lo t u v h.1 g.1, likeL_on lo r q p h.2 g.2⟩
end
mutual
theorem like_weak : ∀ T U : VT, sameT false T U = true → sameT true T U = true
  | .mk k n s L K V, U, h => by
    rw [same_iff] at h ⊢
    simp only [VT.kd, VT.nm, VT.st, VT.ls, VT.ks, VT.vs] at h ⊢
    obtain ⟨h1, h5, h6, h7, h8⟩ := h
    refine ⟨h1, ?_, likeL_weak L U.ls h6, h7, likeL_weak V U.vs h8⟩
    rw [str_iff] at h5 ⊢
    rcases h5 with e | ⟨e1, _⟩
    · exact Or.inl e
    · cases e1
theorem likeL_weak : ∀ L M : List VT, sameL false L M = true → sameL true L M = true
  | [], _, _ => by simp [sameL]
  | _ :: _, [], h => by simp [sameL] at h
  | t :: r, u :: q, h => by
    simp only [sameL, Bool.and_eq_true] at h ⊢
    exact ⟨like_weak t u h.1, likeL_weak r q h.2⟩
end
mutual
theorem like_self : ∀ T : VT, sameT false T T = true
  | .mk k n s L K V => by
    have h1 := likeL_self L
    have h2 := likeL_self V
    simp only [sameT, VT.kd, VT.nm, VT.st, VT.ls, VT.ks, VT.vs, strB, h1, h2]
    simp
theorem likeL_self : ∀ L : List VT, sameL false L L = true
  | [] => by simp [sameL]
  | t :: r => by have h1 := like_self t; have h2 := likeL_self r; simp only [sameL, h1, h2, Bool.and_self]
end
end Go.Proofs.YtadbeodeiijhdaaGreatDoor
namespace Go.Proofs.YtadbeodeiijhdaaGreatDoor
open Go.RowKit

theorem sz_get : ∀ (p : List PStep) (T t : VT), getP T p = some t → szT t ≤ szT T
  | [], T, t, h => by simp only [getP] at h; injection h with h; subst h; exact Nat.le_refl _
  | s :: p, T, t, h => by
    simp only [getP] at h
    cases h1 : idxT T s with
    | none => simp [h1] at h
    | some i =>
      cases h2 : kidT T s i with
      | none => simp [h1, h2] at h
      | some u =>
        simp [h1, h2] at h
        have := kid_small h2
        have := sz_get p u t h
        omega
end Go.Proofs.YtadbeodeiijhdaaGreatDoor
