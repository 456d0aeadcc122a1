
import Derived.Test.YtjcgkihkjjaefaaGreatDoorKFlN
/- The statements of stage 16: what they ask first; FlatKnown. -/
namespace Go.Proofs.YtjcgkihkjjaefaaGreatDoor
open Go.RowKit

def GlobF (w : World) : Prop := GlobC5 w ∧ Glob5 w
theorem GlobF.on {w w' : World} (h : GlobF w) (hb : Below w.heap.size w w') : GlobF w' := ⟨h.1.on hb, h.2.on hb⟩
theorem flat_any (T : VT) (x y : Value) (w : World) (hT : HV w T x y) (hg : GlobF w) : Calls Tryz.prog 8 #[vv T x y] w (FlatPost T w) := by
  cases hl : lomB T with
  | false => exact flat_no T x y w hT hg.1.1 hl
  | true =>
    by_cases h : 512 < T.ls.length
    · exact flat_many T x y w hT hg.1.1 hl h
    · exact flat_go T x y w hT hg.1 hg.2 hl (by omega)
/-- Leaves, as they lie in memory -/
theorem leaves_in (T : VT) (x y : Value) (w : World) (hT : HV w T x y) (hm : mayB 0 1 T = true) :
    Calls Tryz.prog 10 #[vv T x y] w fun e w' => ∃ v, e = .returned v ∧ InLf w' (lfT T []) v ∧ Below w.heap.size w w' := by
  obtain ⟨h1, h2, h3⟩ := good_sz hm
  have hwf := hv_wfT (szT T) (Nat.le_refl _) hT
  refine (leaves_any T x y w hT h3 (by omega)).mono ?_
  rintro e w' ⟨v, E, rfl, ho, hE, hEp, hb⟩
  refine ⟨v, rfl, ?_, hb⟩
  rw [← hEp]
  refine inlf_of ho hE (fun e he s hs => ?_)
  have hz : (e.p, e.T) ∈ lfT T [] := by rw [← hEp]; exact List.mem_map.2 ⟨e, he, rfl⟩
  obtain ⟨r, hr⟩ := lf_get (szT T) (Nat.le_refl _) h3 hwf (by omega) [] e.p e.T hz
  have e1 : e.p = r := by rw [hr.e]; rfl
  rw [e1] at hs
  have := (hr.f s hs).2
  unfold maxLen; omega
theorem inlf_sl {w : World} {l : List (List PStep × VT)} {v : Value} (h : InLf w l v) : ∃ o c, v = .slice o l.length c := by
  obtain ⟨_, ⟨o, c, rfl, -⟩, -⟩ := h
  exact ⟨o, c, rfl⟩
theorem inlf_at {w : World} {l : List (List PStep × VT)} {o : Option Addr} {n c : Nat} (h : InLf w l (.slice o n c)) {i : Nat} {e : List PStep × VT} (he : l[i]? = some e) : ∃ a u x y, o = some a ∧ w.cell? (a.add (i * 6)) = some u ∧ Node w (nx (a.add (i * 6))) e.2 x y ∧ InP w e.1 u ∧ HV w e.2 x y := by
  obtain ⟨a, ⟨o', c', e1, h1, h2, h3⟩, h4⟩ := h
  injection e1 with e1 e2 e3
  obtain ⟨u, x, y, h5⟩ := h4 i e he
  exact ⟨a, u, x, y, by rw [e1]; exact h3 (by have := lt_of_some he; omega), h5⟩
theorem ins_two {W : World} (w : World) (a b : ByteArray) (hW : W = w.alloc (.cells #[.string a, .string b] 9)) (ha : a.size ≤ maxLen) (hb : b.size ≤ maxLen) : InS W [a, b] (.slice (some ⟨w.heap.size, 0, none⟩) 2 2) := by
  subst hW
  refine ⟨⟨w.heap.size, 0, none⟩, ⟨_, _, rfl, Nat.le_refl _, by unfold maxLen; omega, fun _ => rfl⟩, fun i c hc => ?_⟩
  rw [add_at]
  match i, hc with
  | 0, hc => simp at hc; subst hc; exact ⟨by simp, ha⟩
  | 1, hc => simp at hc; subst hc; exact ⟨by simp, hb⟩
  | i + 2, hc => simp at hc
set_option maxRecDepth 100000 in
set_option maxHeartbeats 4000000 in
theorem awake16 (w : World) (hg : GlobF w) : Calls Tryz.prog 7 #[] w fun e w' => e = .returned (.bool true) ∧ Below w.heap.size w w' := by
  have HG := hid hg
  obtain ⟨g1, g2, g3, g4, g5, g6⟩ := one_good
  have HOE := hid g2
  have HOH := hid g3
  have HOR := hid g4
  have HOM := hid g5
  clear hg g1 g2 g3 g4 g5 g6
  have HF := hid (fun (X : World) (hX : Below w.heap.size w X) (r : Nat) (h : HV X tOne (.slice (some ⟨r, 0, none⟩) 1 1) (.slice none 0 0)) => flat_any tOne _ _ X h (HG.out.on hX))
  have HL := hid (fun (X : World) (r : Nat) (h : HV X tOne (.slice (some ⟨r, 0, none⟩) 1 1) (.slice none 0 0)) => leaves_in tOne _ _ X h HOM.out)
  simp only [vv, tOne, VT.kd, VT.nm, VT.st] at HF HL
  rw [show VT.mk 5 0 ⟨#[]⟩ [tOm] [] [] = tOne from rfl] at HF HL
  go_enter Tryz.func7, Tryz.ntmps7
  go_wp2_with fail
  go_at_call 9
  refine (fone_any _).mono ?_
  rintro e w1 ⟨q1, r1, rfl, hv1, -, -, hb1⟩
  go_wp2_with fail
  go_at_call 8
  refine (HF.out w1 hb1 r1 hv1).mono ?_
  rintro e w2 ⟨h, r, rfl, hh, hr, hb2⟩
  rw [HOE.out]
  rw [HOH.out] at hh
  rw [HOR.out] at hr
  obtain ⟨oh, ch, rfl⟩ := hh.sl
  obtain ⟨orr, cr, rfl⟩ := hr.sl
  simp only [List.length_cons, List.length_nil, Nat.zero_add, Nat.reduceAdd] at hh hr ⊢
  have HB2 := hid (vonto hb1 hb2)
  have HH := hid hh
  have HR := hid hr
  clear hv1 hb1 hb2 hh hr
  go_upto_region 2 with fail
  refine cewp_gen ?_
  intro W hW
  have hbW : Below w2.heap.size w2 W := by rw [hW]; exact valloc_bel (Below.refl _ _) _
  have hx0 : W.cell? ⟨w2.heap.size, 0, none⟩ = some (.slice oh 2 ch) := by rw [hW]; simp
  have hx1 : W.cell? ⟨w2.heap.size, 1, none⟩ = some (.slice orr 1 cr) := by rw [hW]; simp
  have HBW := hid (vonto HB2.out hbW)
  have HHW := hid (HH.out.onto hbW)
  have HRW := hid (HR.out.onto hbW)
  clear hW hbW HH HR HB2
  go_wp2_with fail
  go_at_call 9
  refine (fone_any _).mono ?_
  rintro e w3 ⟨q2, r2, rfl, hv3, -, -, hb3⟩
  replace hx0 := keepCell hb3 hx0
  replace hx1 := keepCell hb3 hx1
  have HB3 := hid hb3
  clear hb3
  go_wp2_with fail
  go_at_call 10
  refine (HL.out w3 r2 hv3).mono ?_
  rintro e w4 ⟨lv, rfl, hl, hb4⟩
  rw [one_leaves] at hl
  obtain ⟨ol, cl, rfl⟩ := inlf_sl hl
  obtain ⟨al, u, x, y, rfl, hc, hn, hip, hhv⟩ := inlf_at hl (i := 1) rfl
  obtain ⟨ou, cu, rfl⟩ := inp_slice hip
  obtain ⟨n0, n1, n2, n3, n4⟩ := hn
  simp only [List.length_cons, List.length_nil, Nat.zero_add, Nat.reduceAdd, nx] at hc n0 n1 n2 n3 n4 ⊢
  replace hx0 := keepCell hb4 hx0
  replace hx1 := keepCell hb4 hx1
  have HB4 := hid (vonto HB3.out hb4)
  have HH4 := hid (HHW.out.onto HB4.out)
  have HR4 := hid (HRW.out.onto HB4.out)
  have hn2 : w4.cell? ⟨(al.add (1 * 6)).block, (al.add (1 * 6)).off + 1 + 2, none⟩ = some (.string ⟨#[120]⟩) := n2
  have HBZ := hid (vonto HBW.out HB4.out)
  clear hl hip hhv hv3 hb4 HHW HRW HB3 n0 n1 n3 n4 n2
  obtain ⟨a1, ⟨o1, c1, e1, -, -, h1⟩, h2⟩ := HR4.out
  injection e1 with e1 e2 e3
  obtain ⟨u1, hc1, hin1⟩ := h2 0 _ rfl
  obtain rfl : orr = some a1 := by rw [e1]; exact h1 (by decide)
  obtain ⟨o2, c2, rfl⟩ := hin1.sl
  simp only [List.length_cons, List.length_nil, Nat.zero_add, Nat.reduceAdd] at hc1 hin1
  have HN1 := hid hin1
  rw [show a1.add 0 = a1 by simp [Addr.add]] at hc1
  rw [Nat.one_mul] at hc hn2
  replace hc : w4.cell? ⟨al.block, al.off + 6, none⟩ = some (.slice ou 3 cu) := hc
  replace hn2 : w4.cell? ⟨al.block, al.off + 6 + 1 + 2, none⟩ = some (.string ⟨#[120]⟩) := hn2
  clear h1 h2 e1 e2 e3 hin1
  go_wp2_with fail
  go_at_call 17
  refine (ftexts_same [⟨#[97]⟩, ⟨#[98, 47, 99]⟩] _ _ _ (by decide) (HH4.out.onto (valloc_bel (Below.refl _ _) _)) (ins_two w4 _ _ rfl (by decide) (by decide))).mono ?_
  rintro e w5 ⟨rfl, hw5⟩
  have hb5 : Below w4.heap.size w4 w5 := by obtain ⟨m, rfl⟩ := hw5; exact below_drewN (valloc_bel (Below.refl _ _) _) m
  replace hx1 := keepCell hb5 hx1
  replace hc1 := keepCell hb5 hc1
  replace hc := keepCell hb5 hc
  replace hn2 := keepCell hb5 hn2
  have HN5 := hid (HN1.out.onto hb5)
  have HB5 := hid (vonto HBZ.out hb5)
  clear hw5 hb5 hx0
  go_wp2_with fail
  go_at_call 17
  refine (ftexts_same [⟨#[49]⟩, ⟨#[120]⟩] _ _ _ (by decide) (HN5.out.onto (valloc_bel (Below.refl _ _) _)) (ins_two w5 _ _ rfl (by decide) (by decide))).mono ?_
  rintro e w6 ⟨rfl, hw6⟩
  have hb6 : Below w5.heap.size w5 w6 := by obtain ⟨m, rfl⟩ := hw6; exact below_drewN (valloc_bel (Below.refl _ _) _) m
  replace hc := keepCell hb6 hc
  replace hn2 := keepCell hb6 hn2
  have HB6 := hid (vonto HB5.out hb6)
  clear hw6 hb6 hx1 hc1
  go_wp2_with fail
  go_ret
  exact ⟨rfl, HB6.out⟩
end Go.Proofs.YtjcgkihkjjaefaaGreatDoor
/- FlatKnown, walked. -/
namespace Go.Proofs.YtjcgkihkjjaefaaGreatDoor
open Go.RowKit

/-- Flat's error, and some table -/
def FlE (k : Int) (X : World) (e : Ending) (w' : World) : Prop := ∃ h r k1 k2 k3 k4, e = .returned (.tuple #[.agg #[.slice h k1 k2, .slice r k3 k4], .int .i64 k]) ∧ Below X.heap.size X w'
theorem flat_e (T : VT) (x y : Value) (X : World) (hT : HV X T x y) (hg : GlobF X) {k : Int} (hk : flatE T = k) : Calls Tryz.prog 8 #[vv T x y] X (FlE k X) := by
  refine (flat_any T x y X hT hg).mono ?_
  rintro e w' ⟨h, r, rfl, hh, hr, hb⟩
  obtain ⟨o1, c1, rfl⟩ := hh.sl
  obtain ⟨o2, c2, rfl⟩ := hr.sl
  exact ⟨_, _, _, _, _, _, by rw [hk], hb⟩
set_option maxRecDepth 100000 in
theorem Tryz.fieldL (a b : Value) (c d : Value) (o : Option Addr) (n k : Nat) (w : World) : (Instr.field 34 (.agg #[a, b, c, .slice o n k, d]) 3).run Tryz.prog w = .ok (.slice o n k) w := by
  unfold Instr.field
  simp [run_underlying Tryz.underlying34, part, asAgg]
def tCc : VT := .mk 5 0 ⟨#[]⟩ [leafT 6 0 ⟨#[]⟩] [] []
theorem known_e : flatE (leafT 5 0 ⟨#[]⟩) = 1 ∧ flatE tOm = 1 ∧ flatE tCc = 1 ∧ mayB 0 1 (leafT 0 0 ⟨#[]⟩) = true := by
  refine ⟨?_, ?_, ?_, ?_⟩ <;> decide +kernel
theorem hv_cc {w : World} {b : Nat} (h : Cs w b [.int .i64 6, .int .i64 0, .string ⟨#[]⟩, .slice none 0 0, .slice none 0 0]) : HV w tCc (.slice (some ⟨b, 0, none⟩) 1 1) (.slice none 0 0) := by
  refine hv_in (by decide) (by decide) (by decide) ⟨⟨b, 0, none⟩, fun _ => .slice none 0 0, fun _ => .slice none 0 0, ⟨_, _, rfl, by decide, by decide, fun _ => rfl⟩, fun i t ht => ?_, fun i t ht => ?_⟩ (mf_nil w 0 0).inM
  · rw [add_at]
    match i, ht with
    | 0, ht => simp at ht; subst ht; exact ⟨h 0 _ rfl, h 1 _ rfl, h 2 _ rfl, h 3 _ rfl, h 4 _ rfl⟩
    | i + 1, ht => simp at ht
  · match i, ht with
    | 0, ht => simp at ht; subst ht; exact hv_leaf w _ _ _ (by decide) (by decide) (by decide)
    | i + 1, ht => simp at ht
set_option maxRecDepth 100000 in
set_option maxHeartbeats 4000000 in
theorem Tryz.flatKnown_walk (w : World) (hg : GlobF w) : Calls Tryz.prog 3 #[] w fun e w' => e = .returned (.bool true) ∧ Below w.heap.size w w' := by
  have HG := hid hg
  have HA := hid (awake16 w hg)
  obtain ⟨g1, g2, g3, g4⟩ := known_e
  have C1 := hid (fun (X : World) (hX : Below w.heap.size w X) => flat_e (leafT 5 0 ⟨#[]⟩) (.slice none 0 0) (.slice none 0 0) X (hv_leaf _ 5 0 _ (by decide) (by decide) (by decide)) (hg.on hX) g1)
  have C2 := hid (fun (X : World) (q : Nat) (hX : Below w.heap.size w X) (hv : HV X tOm (.slice none 0 0) (.slice (some ⟨q, 0, none⟩) 2 2)) => flat_e tOm _ _ X hv (hg.on hX) g2)
  have C3 := hid (fun (X : World) (b : Nat) (hX : Below w.heap.size w X) (hv : HV X tCc (.slice (some ⟨b, 0, none⟩) 1 1) (.slice none 0 0)) => flat_e tCc _ _ X hv (hg.on hX) g3)
  have C4 := hid (fun (X : World) => leaves_in (leafT 0 0 ⟨#[]⟩) (.slice none 0 0) (.slice none 0 0) X (hv_leaf _ 0 0 _ (by decide) (by decide) (by decide)) g4)
  simp only [vv, leafT, tOm, tCc, VT.kd, VT.nm, VT.st] at C1 C2 C3 C4
  rw [show VT.mk 6 0 ⟨#[]⟩ [] [⟨#[97]⟩, ⟨#[98]⟩] [tOa, tOc] = tOm from rfl] at C2
  rw [show VT.mk 5 0 ⟨#[]⟩ [VT.mk 6 0 ⟨#[]⟩ [] [] []] [] [] = tCc from rfl] at C3
  clear hg g1 g2 g3 g4
  go_enter Tryz.func3, Tryz.ntmps3
  go_wp2_with fail
  go_at_call 7
  refine HA.out.mono ?_
  rintro e w1 ⟨rfl, hb1⟩
  have HB1 := hid hb1
  clear hb1 HA
  go_wp2_with fail
  go_at_call 8
  refine (C1.out w1 HB1.out).mono ?_
  rintro e w2 ⟨h1, r1, k1, k2, k3, k4, rfl, hb2⟩
  have HB2 := hid (vonto HB1.out hb2)
  clear hb2
  go_upto_region 4 with fail
  refine cewp_gen ?_
  intro W3 hW
  have HB3 : Hid (Below w.heap.size w W3) := hid (by rw [hW]; exact valloc_bel HB2.out _)
  clear hW HB2
  go_wp2_with fail
  go_at_call 9
  refine (fone_any _).mono ?_
  rintro e w4 ⟨q2, r2, rfl, -, hcs, hvm, hb4⟩
  have HB4 := hid (vonto HB3.out hb4)
  have HVM := hid hvm
  have d0 := hcs 0 _ rfl
  have d1 := hcs 1 _ rfl
  have d2 := hcs 2 _ rfl
  have d3 := hcs 3 _ rfl
  have d4 := hcs 4 _ rfl
  have hfl := Tryz.fieldL (.int .i64 5) (.int .i64 0) (.string ⟨#[]⟩) (.slice none 0 0) (some ⟨r2, 0, none⟩) 1 1 w4
  clear hcs hvm hb4
  go_wp2_with fail
  go_at_call 8
  refine (C2.out w4 q2 HB4.out HVM.out).mono ?_
  rintro e w5 ⟨h5, r5, m1, m2, m3, m4, rfl, hb5⟩
  have HB5 := hid (vonto HB4.out hb5)
  clear hb5 d0 d1 d2 d3 d4 hfl
  go_upto_region 5 with fail
  refine cewp_gen ?_
  intro W6 hW
  have HB6 : Hid (Below w.heap.size w W6) := hid (by rw [hW]; exact valloc_bel HB5.out _)
  clear hW HB5
  go_wp2_with fail
  go_at_call 8
  refine (C3.out _ W6.heap.size (valloc_bel HB6.out _) (hv_cc (fun i v h => cells_in rfl rfl (by simpa using h)))).mono ?_
  rintro e w7 ⟨h7, r7, n1, n2, n3, n4, rfl, hb7⟩
  have HB7 := hid (vonto (valloc_bel HB6.out _) hb7)
  clear hb7
  go_upto_region 6 with fail
  refine cewp_gen ?_
  intro W8 hW
  have HB8 : Hid (Below w.heap.size w W8) := hid (by rw [hW]; exact valloc_bel HB7.out _)
  clear hW HB7
  go_wp2_with fail
  go_at_call 10
  refine (C4.out W8).mono ?_
  rintro e w9 ⟨lv, rfl, hl, hb9⟩
  have hl2 : lfT (VT.mk 0 0 ⟨#[]⟩ [] [] []) [] = [([], VT.mk 0 0 ⟨#[]⟩ [] [] [])] := by simp [lfT]
  rw [hl2] at hl
  obtain ⟨ol, cl, rfl⟩ := inlf_sl hl
  obtain ⟨al, u, x, y, rfl, hc, -, hip, -⟩ := inlf_at hl (i := 0) rfl
  obtain ⟨ou, cu, rfl⟩ := inp_slice hip
  simp only [List.length_cons, List.length_nil, Nat.zero_add, Nat.zero_mul] at hc ⊢
  rw [show al.add 0 = al by simp [Addr.add]] at hc
  have HB9 := hid (vonto HB8.out hb9)
  clear hl hl2 hip hb9
  go_wp2_with fail
  go_ret
  exact ⟨rfl, HB9.out⟩
end Go.Proofs.YtjcgkihkjjaefaaGreatDoor
