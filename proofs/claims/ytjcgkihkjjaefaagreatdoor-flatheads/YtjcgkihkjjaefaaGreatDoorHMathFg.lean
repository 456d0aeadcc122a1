
import Derived.Test.YtjcgkihkjjaefaaGreatDoorHFlN
import Derived.Test.YtjcgkihkjjaefaaGreatDoorHFlL
/- The statements of stage 16: what they ask first; FlatKnown. -/
namespace Go.Proofs.YtjcgkihkjjaefaaGreatDoor
open Go.RowKit

def GlobF (w : World) : Prop := GlobC5 w ∧ Glob5 w
theorem GlobF.on {w w' : World} (h : GlobF w) (hb : Below w.heap.size w w') : GlobF w' := ⟨h.1.on hb, h.2.on hb⟩
theorem flat_any (T : VT) (x y : Value) (w : World) (hT : HV w T x y) (hg : GlobF w) : Calls Tryz.prog 8 #[vv T x y] w (FlatPost T w) := by
  cases hl : lomB T with
  | false => exact flat_no T x y w hT hg.1.1 hl
  | true =>
    by_cases h : 512 < T.ls.length
    · exact flat_many T x y w hT hg.1.1 hl h
    · exact flat_go T x y w hT hg.1 hg.2 hl (by omega)
/-- Leaves, as they lie in memory -/
theorem leaves_in (T : VT) (x y : Value) (w : World) (hT : HV w T x y) (hm : mayB 0 1 T = true) :
    Calls Tryz.prog 10 #[vv T x y] w fun e w' => ∃ v, e = .returned v ∧ InLf w' (lfT T []) v ∧ Below w.heap.size w w' := by
  obtain ⟨h1, h2, h3⟩ := good_sz hm
  have hwf := hv_wfT (szT T) (Nat.le_refl _) hT
  refine (leaves_any T x y w hT h3 (by omega)).mono ?_
  rintro e w' ⟨v, E, rfl, ho, hE, hEp, hb⟩
  refine ⟨v, rfl, ?_, hb⟩
  rw [← hEp]
  refine inlf_of ho hE (fun e he s hs => ?_)
  have hz : (e.p, e.T) ∈ lfT T [] := by rw [← hEp]; exact List.mem_map.2 ⟨e, he, rfl⟩
  obtain ⟨r, hr⟩ := lf_get (szT T) (Nat.le_refl _) h3 hwf (by omega) [] e.p e.T hz
  have e1 : e.p = r := by rw [hr.e]; rfl
  rw [e1] at hs
  have := (hr.f s hs).2
  unfold maxLen; omega
theorem inlf_sl {w : World} {l : List (List PStep × VT)} {v : Value} (h : InLf w l v) : ∃ o c, v = .slice o l.length c := by
  obtain ⟨_, ⟨o, c, rfl, -⟩, -⟩ := h
  exact ⟨o, c, rfl⟩
theorem inlf_at {w : World} {l : List (List PStep × VT)} {o : Option Addr} {n c : Nat} (h : InLf w l (.slice o n c)) {i : Nat} {e : List PStep × VT} (he : l[i]? = some e) : ∃ a u x y, o = some a ∧ w.cell? (a.add (i * 6)) = some u ∧ Node w (nx (a.add (i * 6))) e.2 x y ∧ InP w e.1 u ∧ HV w e.2 x y := by
  obtain ⟨a, ⟨o', c', e1, h1, h2, h3⟩, h4⟩ := h
  injection e1 with e1 e2 e3
  obtain ⟨u, x, y, h5⟩ := h4 i e he
  exact ⟨a, u, x, y, by rw [e1]; exact h3 (by have := lt_of_some he; omega), h5⟩
theorem ins_two {W : World} (w : World) (a b : ByteArray) (hW : W = w.alloc (.cells #[.string a, .string b] 9)) (ha : a.size ≤ maxLen) (hb : b.size ≤ maxLen) : InS W [a, b] (.slice (some ⟨w.heap.size, 0, none⟩) 2 2) := by
  subst hW
  refine ⟨⟨w.heap.size, 0, none⟩, ⟨_, _, rfl, Nat.le_refl _, by unfold maxLen; omega, fun _ => rfl⟩, fun i c hc => ?_⟩
  rw [add_at]
  match i, hc with
  | 0, hc => simp at hc; subst hc; exact ⟨by simp, ha⟩
  | 1, hc => simp at hc; subst hc; exact ⟨by simp, hb⟩
  | i + 2, hc => simp at hc
set_option maxRecDepth 100000 in
set_option maxHeartbeats 4000000 in
theorem awake16 (w : World) (hg : GlobF w) : Calls Tryz.prog 7 #[] w fun e w' => e = .returned (.bool true) ∧ Below w.heap.size w w' := by
  have HG := hid hg
  obtain ⟨g1, g2, g3, g4, g5, g6⟩ := one_good
  have HOE := hid g2
  have HOH := hid g3
  have HOR := hid g4
  have HOM := hid g5
  clear hg g1 g2 g3 g4 g5 g6
  have HF := hid (fun (X : World) (hX : Below w.heap.size w X) (r : Nat) (h : HV X tOne (.slice (some ⟨r, 0, none⟩) 1 1) (.slice none 0 0)) => flat_any tOne _ _ X h (HG.out.on hX))
  have HL := hid (fun (X : World) (r : Nat) (h : HV X tOne (.slice (some ⟨r, 0, none⟩) 1 1) (.slice none 0 0)) => leaves_in tOne _ _ X h HOM.out)
  simp only [vv, tOne, VT.kd, VT.nm, VT.st] at HF HL
  rw [show VT.mk 5 0 ⟨#[]⟩ [tOm] [] [] = tOne from rfl] at HF HL
  go_enter Tryz.func7, Tryz.ntmps7
  go_wp2_with fail
  go_at_call 9
  refine (fone_any _).mono ?_
  rintro e w1 ⟨q1, r1, rfl, hv1, -, -, hb1⟩
  go_wp2_with fail
  go_at_call 8
  refine (HF.out w1 hb1 r1 hv1).mono ?_
  rintro e w2 ⟨h, r, rfl, hh, hr, hb2⟩
  rw [HOE.out]
  rw [HOH.out] at hh
  rw [HOR.out] at hr
  obtain ⟨oh, ch, rfl⟩ := hh.sl
  obtain ⟨orr, cr, rfl⟩ := hr.sl
  simp only [List.length_cons, List.length_nil, Nat.zero_add, Nat.reduceAdd] at hh hr ⊢
  have HB2 := hid (vonto hb1 hb2)
  have HH := hid hh
  have HR := hid hr
  clear hv1 hb1 hb2 hh hr
  go_upto_region 2 with fail
  refine cewp_gen ?_
  intro W hW
  have hbW : Below w2.heap.size w2 W := by rw [hW]; exact valloc_bel (Below.refl _ _) _
  have hx0 : W.cell? ⟨w2.heap.size, 0, none⟩ = some (.slice oh 2 ch) := by rw [hW]; simp
  have hx1 : W.cell? ⟨w2.heap.size, 1, none⟩ = some (.slice orr 1 cr) := by rw [hW]; simp
  have HBW := hid (vonto HB2.out hbW)
  have HHW := hid (HH.out.onto hbW)
  have HRW := hid (HR.out.onto hbW)
  clear hW hbW HH HR HB2
  go_wp2_with fail
  go_at_call 9
  refine (fone_any _).mono ?_
  rintro e w3 ⟨q2, r2, rfl, hv3, -, -, hb3⟩
  replace hx0 := keepCell hb3 hx0
  replace hx1 := keepCell hb3 hx1
  have HB3 := hid hb3
  clear hb3
  go_wp2_with fail
  go_at_call 10
  refine (HL.out w3 r2 hv3).mono ?_
  rintro e w4 ⟨lv, rfl, hl, hb4⟩
  rw [one_leaves] at hl
  obtain ⟨ol, cl, rfl⟩ := inlf_sl hl
  obtain ⟨al, u, x, y, rfl, hc, hn, hip, hhv⟩ := inlf_at hl (i := 1) rfl
  obtain ⟨ou, cu, rfl⟩ := inp_slice hip
  obtain ⟨n0, n1, n2, n3, n4⟩ := hn
  simp only [List.length_cons, List.length_nil, Nat.zero_add, Nat.reduceAdd, nx] at hc n0 n1 n2 n3 n4 ⊢
  replace hx0 := keepCell hb4 hx0
  replace hx1 := keepCell hb4 hx1
  have HB4 := hid (vonto HB3.out hb4)
  have HH4 := hid (HHW.out.onto HB4.out)
  have HR4 := hid (HRW.out.onto HB4.out)
  have hn2 : w4.cell? ⟨(al.add (1 * 6)).block, (al.add (1 * 6)).off + 1 + 2, none⟩ = some (.string ⟨#[120]⟩) := n2
  have HBZ := hid (vonto HBW.out HB4.out)
  clear hl hip hhv hv3 hb4 HHW HRW HB3 n0 n1 n3 n4 n2
  obtain ⟨a1, ⟨o1, c1, e1, -, -, h1⟩, h2⟩ := HR4.out
  injection e1 with e1 e2 e3
  obtain ⟨u1, hc1, hin1⟩ := h2 0 _ rfl
  obtain rfl : orr = some a1 := by rw [e1]; exact h1 (by decide)
  obtain ⟨o2, c2, rfl⟩ := hin1.sl
  simp only [List.length_cons, List.length_nil, Nat.zero_add, Nat.reduceAdd] at hc1 hin1
  have HN1 := hid hin1
  rw [show a1.add 0 = a1 by simp [Addr.add]] at hc1
  rw [Nat.one_mul] at hc hn2
  replace hc : w4.cell? ⟨al.block, al.off + 6, none⟩ = some (.slice ou 3 cu) := hc
  replace hn2 : w4.cell? ⟨al.block, al.off + 6 + 1 + 2, none⟩ = some (.string ⟨#[120]⟩) := hn2
  clear h1 h2 e1 e2 e3 hin1
  go_wp2_with fail
  go_at_call 17
  refine (ftexts_same [⟨#[97]⟩, ⟨#[98, 47, 99]⟩] _ _ _ (by decide) (HH4.out.onto (valloc_bel (Below.refl _ _) _)) (ins_two w4 _ _ rfl (by decide) (by decide))).mono ?_
  rintro e w5 ⟨rfl, hw5⟩
  have hb5 : Below w4.heap.size w4 w5 := by obtain ⟨m, rfl⟩ := hw5; exact below_drewN (valloc_bel (Below.refl _ _) _) m
  replace hx1 := keepCell hb5 hx1
  replace hc1 := keepCell hb5 hc1
  replace hc := keepCell hb5 hc
  replace hn2 := keepCell hb5 hn2
  have HN5 := hid (HN1.out.onto hb5)
  have HB5 := hid (vonto HBZ.out hb5)
  clear hw5 hb5 hx0
  go_wp2_with fail
  go_at_call 17
  refine (ftexts_same [⟨#[49]⟩, ⟨#[120]⟩] _ _ _ (by decide) (HN5.out.onto (valloc_bel (Below.refl _ _) _)) (ins_two w5 _ _ rfl (by decide) (by decide))).mono ?_
  rintro e w6 ⟨rfl, hw6⟩
  have hb6 : Below w5.heap.size w5 w6 := by obtain ⟨m, rfl⟩ := hw6; exact below_drewN (valloc_bel (Below.refl _ _) _) m
  replace hc := keepCell hb6 hc
  replace hn2 := keepCell hb6 hn2
  have HB6 := hid (vonto HB5.out hb6)
  clear hw6 hb6 hx1 hc1
  go_wp2_with fail
  go_ret
  exact ⟨rfl, HB6.out⟩
end Go.Proofs.YtjcgkihkjjaefaaGreatDoor
/- Plain mathematics: a list's maps the other way round: the same columns, the rows the other way round. -/
namespace Go.Proofs.YtjcgkihkjjaefaaGreatDoor
open Go.RowKit

def revT (T : VT) : VT := .mk 5 0 ⟨#[]⟩ T.ls.reverse [] []
theorem lom_frm {T : VT} (h : mayB 0 1 T = true) (hw : wfT T) : ∀ l ∈ flatX T, ∀ e ∈ l, FrmP e.1 := fun l hl e he => by
  obtain ⟨t, ht, rfl⟩ := List.mem_map.1 hl
  obtain ⟨i, hi⟩ := List.getElem?_of_mem ht
  obtain ⟨r, -, h2, -⟩ := lf_good h hw hi e he
  exact h2
theorem flatW_len (T : VT) : (flatW T).length = T.ls.length := by unfold flatW flatX; simp
theorem flatW_row {T : VT} {r : List ByteArray} (h : r ∈ flatW T) : r.length = (flatN T).length := by
  unfold flatW at h
  obtain ⟨l, -, rfl⟩ := List.mem_map.1 h
  unfold flatN
  rw [rowM_len, List.length_map]
theorem flat_zero {T : VT} (h : flatE T = 0) : lomB T = true ∧ T.ls.length ≤ 512 ∧ (flatC T).length ≤ 64 ∧ flatL T = false := by
  unfold flatE at h
  cases hl : lomB T with
  | false => rw [if_pos hl] at h; cases h
  | true =>
    rw [if_neg (by rw [hl]; decide)] at h
    split at h
    · cases h
    · split at h
      · cases h
      · cases hL : flatL T with
        | true => rw [if_pos hL] at h; cases h
        | false => exact ⟨rfl, by omega, by omega, rfl⟩
end Go.Proofs.YtjcgkihkjjaefaaGreatDoor
