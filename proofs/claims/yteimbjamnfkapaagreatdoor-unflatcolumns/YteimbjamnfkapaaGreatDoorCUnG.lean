import Derived.Test.YteimbjamnfkapaaGreatDoorCMathUe
import Derived.Test.YteimbjamnfkapaaGreatDoorCFlF
/- unflat: a node's value, walked. -/
namespace Go.Proofs.YteimbjamnfkapaaGreatDoor
open Go.RowKit Go.Maps
structure VK (E : List NE) (M : Ways) (l : Lvs) (X : List (List PStep)) : Prop where
 gr : Grown l X (E.map NE.d) M
 well : ∀ n ∈ E.map NE.d, Well (E.map NE.d) n
 short : ∀ e ∈ l, e.1.length ≤ 31
 few : E.length ≤ 4096
 keys : ∀ e ∈ l, ∀ s ∈ e.1, s.key.size ≤ 1000000
def ValP (l : Lvs) (q : List PStep) (w : World) (r : Ending) (w' : World) : Prop := ∃ T x y, r = .returned (vv T x y) ∧ SubOf l q T ∧ HS w' (fun k => w.heap.size ≤ k ∧ k < w'.heap.size) T x y ∧ Below w.heap.size w w'
def ValOk (B tb m g c : Nat) (E : List NE) (M : Ways) (l : Lvs) (lv : Value) (a : Nat) (q : List PStep) : Prop := ∀ w : World, TM B w tb m (.slice (some ⟨g, 0, none⟩) E.length c) E M → InLf w l lv → Calls Tryz.prog 51 #[.pointer (some ⟨tb, 0, none⟩), .int .i64 (a : Int), lv] w (ValP l q w)
theorem InLf.slc {w : World} {l : Lvs} {v : Value} (h : InLf w l v) : ∃ o c, v = .slice o l.length c := by
 obtain ⟨a, ⟨o, c, rfl, -⟩, -⟩ := h
 exact ⟨o, c, rfl⟩
theorem InLf.sls {w : World} {l : Lvs} {v : Value} (h : InLf w l v) : ∃ a o c, v = .slice o l.length c ∧ l.length ≤ c ∧ c ≤ maxLen ∧ (0 < l.length → o = some a) ∧ ∀ i e, l[i]? = some e → ∃ u x y, w.cell? (a.add (i * 6)) = some u ∧ Node w (nx (a.add (i * 6))) e.2 x y ∧ InP w e.1 u ∧ HV w e.2 x y := by
 obtain ⟨a, ⟨o, c, rfl, h1, h2, h3⟩, h4⟩ := h
 exact ⟨a, o, c, rfl, h1, h2, h3, h4⟩
theorem InI.sl {w : World} {L : List Nat} {v : Value} (h : InI w L v) : ∃ a o c, v = .slice o L.length c ∧ L.length ≤ c ∧ c ≤ maxLen ∧ (0 < L.length → o = some a) ∧ ∀ (i b : Nat), L[i]? = some b → w.cell? (a.add i) = some (.int .i64 (b : Int)) := by
 obtain ⟨a, ⟨o, c, rfl, h1, h2, h3⟩, h4⟩ := h
 exact ⟨a, o, c, rfl, h1, h2, h3, h4⟩
theorem nbox6_of {w W : World} {a b c d e f : Value} (h : W = w.alloc (.cells #[a, b, c, d, e, f] 152)) : W.cell? ⟨w.heap.size, 0, none⟩ = some a ∧ W.cell? ⟨w.heap.size, 4, none⟩ = some e ∧ W.cell? ⟨w.heap.size, 5, none⟩ = some f ∧ Below w.heap.size w W ∧ W.heap.size = w.heap.size + 1 := by
 subst h
 exact ⟨by simp, by simp, by simp, valloc_bel (Below.refl _ _) _, by simp⟩
theorem rbox_of {w W : World} (h : W = w.alloc (.cells #[.int .i64 0, .int .i64 0, .string ⟨#[]⟩, .slice none 0 0, .slice none 0 0] 29)) : Row W w.heap.size 29 5 ∧ Below w.heap.size w W ∧ W.heap.size = w.heap.size + 1 := by
 subst h
 exact ⟨Row.new w #[.int .i64 0, .int .i64 0, .string ⟨#[]⟩, .slice none 0 0, .slice none 0 0] 29, valloc_bel (Below.refl _ _) _, by simp⟩
def VB (w : World) (b : Nat) (k : Int) (x y : Value) : Prop := w.cell? ⟨b, 0, none⟩ = some (.int .i64 k) ∧ w.cell? ⟨b, 1, none⟩ = some (.int .i64 0) ∧ w.cell? ⟨b, 2, none⟩ = some (.string ⟨#[]⟩) ∧ w.cell? ⟨b, 3, none⟩ = some x ∧ w.cell? ⟨b, 4, none⟩ = some y
theorem VB.far {w w' : World} {b : Nat} {k : Int} {x y : Value} (h : VB w b k x y) (e : w'.heap[b]? = w.heap[b]?) : VB w' b k x y := by
 obtain ⟨h0, h1, h2, h3, h4⟩ := h
 have c : ∀ o, w'.cell? ⟨b, o, none⟩ = w.cell? ⟨b, o, none⟩ := fun o => World.cell?_of_block (a := ⟨b, o, none⟩) e
 exact ⟨(c 0).trans h0, (c 1).trans h1, (c 2).trans h2, (c 3).trans h3, (c 4).trans h4⟩
theorem VB.lt {w : World} {b : Nat} {k : Int} {x y : Value} (h : VB w b k x y) : b < w.heap.size := World.block_lt_of_cell? w ⟨b, 0, none⟩ h.1
theorem VB.onto {w w' : World} {b : Nat} {k : Int} {x y : Value} (h : VB w b k x y) (hb : Below w.heap.size w w') : VB w' b k x y := h.far (hb.block b h.lt)
theorem vbox_of {w W : World} {k : Int} {x y : Value} {o : Obj} (h : W = (w.alloc o).alloc (.cells #[.int .i64 k, .int .i64 0, .string ⟨#[]⟩, x, y] 29)) : VB W (w.heap.size + 1) k x y ∧ Below (w.alloc o).heap.size (w.alloc o) W ∧ W.heap.size = w.heap.size + 2 := by
 subst h
 exact ⟨⟨by simp, by simp, by simp, by simp, by simp⟩, valloc_bel (Below.refl _ _) _, by simp⟩
def DonL (l : Lvs) (q : List PStep) (N : List Nd) (ps : List Nat) (j : Nat) (LE : List (VT × Value × Value)) : Prop := ∀ (i b : Nat), i < j → ps[i]? = some b → ∃ t, LE[plN N b]? = some t ∧ SubOf l (q ++ [lpl (plN N b)]) t.1
def DonM (l : Lvs) (q : List PStep) (N : List Nd) (ps : List Nat) (j : Nat) (D : List (ByteArray × VT × Value × Value)) : Prop := ∀ (i b : Nat), i < j → ps[i]? = some b → ∃ e nb, D[i]? = some e ∧ N[b]? = some nb ∧ e.1 = nb.st.key ∧ SubOf l (q ++ [lky e.1]) e.2.1
theorem hs_listT {wr : World} {S : Nat → Prop} {L : List VT} {x : Value} (h : LS wr S L x) : HS wr S (.mk 5 0 ⟨#[]⟩ L [] []) x (.slice none 0 0) := hs_of ⟨(by decide : (Lit.int .i64 5).wf = true), (by decide : (Lit.int .i64 0).wf = true), (by decide : (⟨#[]⟩ : ByteArray).size ≤ maxLen)⟩ h (ms_nil _ _)
theorem hs_mapT {wr : World} {S : Nat → Prop} {K : List ByteArray} {V : List VT} {y : Value} (h : MS wr S K V y) : HS wr S (.mk 6 0 ⟨#[]⟩ [] K V) (.slice none 0 0) y := hs_of ⟨(by decide : (Lit.int .i64 6).wf = true), (by decide : (Lit.int .i64 0).wf = true), (by decide : (⟨#[]⟩ : ByteArray).size ≤ maxLen)⟩ (ls_nil _ _) h
set_option maxRecDepth 100000 in
set_option maxHeartbeats 4000000 in
theorem val_leaf (B tb m g c : Nat) (E : List NE) (M : Ways) (l : Lvs) (X : List (List PStep)) (lv : Value) (K : VK E M l X) (a : Nat) (q : List PStep) (hq : X[a]? = some q) (w : World) (hT : TM B w tb m (.slice (some ⟨g, 0, none⟩) E.length c) E M) (hl : InLf w l lv) (e : NE) (he : E[a]? = some e) (hs : e.d.sh = 1) :
  Calls Tryz.prog 51 #[.pointer (some ⟨tb, 0, none⟩), .int .i64 (a : Int), lv] w (ValP l q w) := by
 have hk0 := lt_of_some he
 have HTM := hid hT
 have HLV := hid hl
 have HE := hid he
 have hem := List.mem_of_getElem? he
 have hnd : (E.map NE.d)[a]? = some e.d := by rw [List.getElem?_map, he]; rfl
 have HND := hid hnd
 have HQX := hid hq
 have HKK := hid K
 obtain ⟨q0, -, -⟩ := hT.cells
 have p0 := hT.at_ he 0 _ rfl
 have p1 := hT.at_ he 1 _ rfl
 have p2 := hT.at_ he 2 _ rfl
 have p3 := hT.at_ he 3 _ rfl
 have p4 := hT.at_ he 4 _ rfl
 have p5 := hT.at_ he 5 _ rfl
 rw [Nat.add_zero] at p0
 obtain ⟨ou, cu, hu⟩ := hT.parts hem
 have hin := own_ini (hT.ps e hem)
 rw [hu] at p5 hin
 have HIN := hid hin
 have hE4 := K.few
 obtain ⟨ol, cl, rfl⟩ := hl.slc
 rw [hs] at p0
 have HSH := hid hs
 clear hT hl he hnd hq hin hu K hs
 go_enter Tryz.func51, Tryz.ntmps51
 go_upto_region 1 with fail
 refine cewp_gen ?_
 intro W0 hW
 obtain ⟨r0, hb0, hz0⟩ := rbox_of hW
 have q0 := keepCell hb0 q0
 have p0 := keepCell hb0 p0
 have p1 := keepCell hb0 p1
 have p2 := keepCell hb0 p2
 have p3 := keepCell hb0 p3
 have p4 := keepCell hb0 p4
 have p5 := keepCell hb0 p5
 have R0 := hid r0
 have HB0 := hid hb0
 clear hW r0 hb0
 go_upto_region 2 with fail
 refine cewp_gen ?_
 intro W1 hW
 obtain ⟨n0, n4, n5, hb1, hz1⟩ := nbox6_of hW
 have R1 := hid (R0.out.onto (hb1.block _ R0.out.lt))
 have HB1 := hid (vonto HB0.out hb1)
 have HT1 := hid (HTM.out.onto HB1.out)
 have HL1 := hid (HLV.out.onto HB1.out)
 have HIN1 := hid (HIN.out.onto HB1.out)
 have HZ1 := hid (show W1.heap.size = w.heap.size + 2 by omega)
 have HZ0 := hid hz0
 have q0 := keepCell hb1 q0
 rw [hz0] at n0 n4 n5
 clear hW hb1 R0 HB0 p0 p1 p2 p3 p4 p5 HTM HLV HIN hz1
 obtain ⟨le, hle, -⟩ := HKK.out.gr.leaf HND.out HQX.out HSH.out
 have hsub := HKK.out.gr.leaf_sub HND.out HQX.out HSH.out hle
 obtain ⟨hbr1, hbr2⟩ := HKK.out.gr.fine.bare (List.mem_of_getElem? hle)
 obtain ⟨al, ol', cl', ev, l1, l2, l3, l4⟩ := HL1.out.sls
 injection ev with ev1 ev2 ev3
 subst ev1 ev3
 have hlf := lt_of_some hle
 obtain rfl := l3 (by omega)
 obtain ⟨u, x, y, -, hno, -, hhv⟩ := l4 e.d.lf le hle
 obtain ⟨d0, d1, d2, d3, d4⟩ := hno
 simp only [nx] at d0 d1 d2 d3 d4
 obtain ⟨o1, m1, c1, o2, m2, c2, rfl, rfl⟩ := hv_slices hhv
 have hsz : szT le.2 ≤ 1000000 := by
  obtain ⟨t, ht⟩ : ∃ t, le.2 = t := ⟨_, rfl⟩
  rw [ht] at hbr1 hbr2 ⊢
  obtain ⟨kk, nn, ss, LL, KK, VV⟩ := t
  simp only [VT.ls, VT.vs] at hbr1 hbr2
  subst hbr1 hbr2
  simp [szT, szL]
 have CC := hid (fun X (hX : Below W1.heap.size W1 X) => vcopy_any _ le.2 (Nat.le_refl _) hsz _ _ X (hhv.onto hX))
 have HSUB := hid hsub
 obtain ⟨T, hTe⟩ : ∃ T, le.2 = T := ⟨_, rfl⟩
 rw [hTe] at CC HSUB d0 d1 d2
 have hll := HL1.out
 simp only [vv] at CC
 clear hle hsub hbr1 hbr2 ev2 l1 l2 l3 l4 hhv hsz hTe hll HL1 HT1 HIN1
 go_wp2_with fail
 go_at_call 63
 refine (CC.out _ (Below.refl _ _)).mono ?_
 rintro r w2 ⟨X2, Y2, rfl, hf2, hb2⟩
 have R2 := hid (R1.out.onto (hb2.block _ R1.out.lt))
 have HF2 := hid hf2.hs
 obtain ⟨o1', m1', c1', o2', m2', c2', rfl, rfl⟩ := hv_slices hf2.hv
 have HB2 := hid (vonto HB1.out hb2)
 have HN2 := hid (show w.heap.size < W1.heap.size from by have := HZ1.out; omega)
 clear hf2 hb2 CC d0 d1 d2 d3 d4
 obtain ⟨u0, e0⟩ := R2.out.cell (o := 0) (by decide)
 obtain ⟨u1, e1⟩ := R2.out.cell (o := 1) (by decide)
 obtain ⟨u2, e2⟩ := R2.out.cell (o := 2) (by decide)
 obtain ⟨u3, e3⟩ := R2.out.cell (o := 3) (by decide)
 obtain ⟨u4, e4⟩ := R2.out.cell (o := 4) (by decide)
 have z0 := R2.out.frozen
 go_wp2_with fail
 refine bodyPost_ret (v := vv T (.slice o1' m1' c1') (.slice o2' m2' c2')) (by simp [results, Tryz.results51, go_sem, vv, e0, e1, e2, e3, e4]) rfl ?_
 refine ⟨T, _, _, rfl, HSUB.out, ?_, ?_⟩
 ·exact put5_hs (b := w.heap.size) HN2.out HF2.out (Nat.le_of_lt HN2.out)
 ·exact put5_bel HB2.out (Nat.le_refl _)
set_option maxRecDepth 100000 in
set_option maxHeartbeats 4000000 in
theorem val_list (B tb m g c : Nat) (E : List NE) (M : Ways) (l : Lvs) (X : List (List PStep)) (lv : Value) (K : VK E M l X) (a : Nat) (q : List PStep) (hq : X[a]? = some q) (w : World) (hT : TM B w tb m (.slice (some ⟨g, 0, none⟩) E.length c) E M) (hl : InLf w l lv) (e : NE) (he : E[a]? = some e) (hs : e.d.sh = 2) (ih : ∀ (b : Nat) (s : PStep), X[b]? = some (q ++ [s]) → ValOk B tb m g c E M l lv b (q ++ [s])) :
  Calls Tryz.prog 51 #[.pointer (some ⟨tb, 0, none⟩), .int .i64 (a : Int), lv] w (ValP l q w) := by
 have hk0 := lt_of_some he
 have HTM := hid hT
 have HLV := hid hl
 have HE := hid he
 have hem := List.mem_of_getElem? he
 have hnd : (E.map NE.d)[a]? = some e.d := by rw [List.getElem?_map, he]; rfl
 have HND := hid hnd
 have HQX := hid hq
 have HKK := hid K
 obtain ⟨q0, -, -⟩ := hT.cells
 have p0 := hT.at_ he 0 _ rfl
 have p1 := hT.at_ he 1 _ rfl
 have p2 := hT.at_ he 2 _ rfl
 have p3 := hT.at_ he 3 _ rfl
 have p4 := hT.at_ he 4 _ rfl
 have p5 := hT.at_ he 5 _ rfl
 rw [Nat.add_zero] at p0
 obtain ⟨ou, cu, hu⟩ := hT.parts hem
 have hin := own_ini (hT.ps e hem)
 rw [hu] at p5 hin
 have HIN := hid hin
 have hE4 := K.few
 have HIH := hid ih
 obtain ⟨ol, cl, hlv⟩ := hl.slc
 subst hlv
 clear ih
 rw [hs] at p0
 have HSH := hid hs
 clear hT hl he hnd hq hin hu K hs
 go_enter Tryz.func51, Tryz.ntmps51
 go_upto_region 1 with fail
 refine cewp_gen ?_
 intro W0 hW
 obtain ⟨r0, hb0, hz0⟩ := rbox_of hW
 have q0 := keepCell hb0 q0
 have p0 := keepCell hb0 p0
 have p1 := keepCell hb0 p1
 have p2 := keepCell hb0 p2
 have p3 := keepCell hb0 p3
 have p4 := keepCell hb0 p4
 have p5 := keepCell hb0 p5
 have R0 := hid r0
 have HB0 := hid hb0
 clear hW r0 hb0
 go_upto_region 2 with fail
 refine cewp_gen ?_
 intro W1 hW
 obtain ⟨n0, n4, n5, hb1, hz1⟩ := nbox6_of hW
 have R1 := hid (R0.out.onto (hb1.block _ R0.out.lt))
 have HB1 := hid (vonto HB0.out hb1)
 have HT1 := hid (HTM.out.onto HB1.out)
 have HL1 := hid (HLV.out.onto HB1.out)
 have HIN1 := hid (HIN.out.onto HB1.out)
 have HZ1 := hid (show W1.heap.size = w.heap.size + 2 by omega)
 have HZ0 := hid hz0
 have q0 := keepCell hb1 q0
 rw [hz0] at n0 n4 n5
 clear hW hb1 R0 HB0 p0 p1 p2 p3 p4 p5 HTM HLV HIN hz1
 obtain ⟨n, hn⟩ : ∃ n, e.d.ps.length = n := ⟨_, rfl⟩
 have HPL := hid hn
 have hnE : n ≤ 4096 := by
  have h1 := (HKK.out.gr.tri.ps a e.d q HND.out HQX.out).1
  have h2 : e.d.ps ⊆ List.range E.length := fun b hb => by
   obtain ⟨nb, h3, -⟩ := HKK.out.gr.part HND.out HQX.out hb
   have := lt_of_some h3
   rw [List.length_map] at this
   rw [List.mem_range]; exact this
  have := List.Nodup.length_le_of_subset h1 h2
  rw [List.length_range] at this
  omega
 rw [hn] at n5 HIN1
 have hmk := Tryz.made27 n (by omega)
 clear hn n4
 go_upto_region 5 with fail
 refine cewp_gen ?_
 intro W2 hW
 obtain ⟨v0, hb2, hz2⟩ := vbox_of hW
 have HLN := hid ((LnS.new W1 W1 (Below.refl _ _) n (by omega)).onto hb2)
 have n5 := keepCell HLN.out.bel n5
 have HVB := hid v0
 clear hW v0 hb2 hmk n0
 go_wp2_with fail
 go_loopw [33] (fun i wr => ∃ (j : Nat) (LE : List (VT × Value × Value)), i = .int .i64 j ∧ j ≤ n ∧ Hid (LnS W1 wr W1.heap.size n LE) ∧ Hid (VB wr (W1.heap.size + 1) 5 (.slice (some ⟨W1.heap.size, 0, none⟩) n n) (.slice none 0 0)) ∧ Hid (DonL l q (E.map NE.d) e.d.ps j LE)) (fun i _ => n - (intOf i).toNat)
 case atStart => exact ⟨0, _, rfl, Nat.zero_le _, HLN, HVB, hid (fun i b h => absurd h (Nat.not_lt_zero i))⟩
 case round =>
  clear HLN HVB n5
  obtain ⟨j, LE, rfl, hj, HLN, HVB, HDN⟩ := hrel
  by_cases hlt : j < n
  ·obtain ⟨b, hb⟩ : ∃ b, e.d.ps[j]? = some b := ⟨e.d.ps[j]'(by rw [HPL.out]; exact hlt), List.getElem?_eq_getElem _⟩
   have hbm := List.mem_of_getElem? hb
   obtain ⟨nb, hnb, hxb, hst⟩ := HKK.out.gr.place HND.out HQX.out HSH.out hbm
   have hpl : plN (E.map NE.d) b < n := by
    have := HKK.out.well e.d (List.mem_of_getElem? HND.out) HSH.out b hbm
    rw [HPL.out] at this; exact this
   obtain ⟨eb, heb, hebd⟩ : ∃ eb, E[b]? = some eb ∧ eb.d = nb := by
    rw [List.getElem?_map] at hnb
    obtain ⟨eb, h1, h2⟩ := Option.map_eq_some_iff.1 hnb
    exact ⟨eb, h1, h2⟩
   have hbl := lt_of_some heb
   have hTr := HT1.out.onto HLN.out.bel
   have t0 := hTr.cells.1
   have k2 := hTr.at_ heb 2 _ rfl
   obtain ⟨P, hP⟩ : ∃ P, plN (E.map NE.d) b = P := ⟨_, rfl⟩
   have hat : eb.d.st.at_ = (P : Int) := by rw [hebd, hst, hP]; rfl
   rw [hat] at k2
   rw [hP] at hpl hxb
   obtain ⟨ai, oi, ci, ev, i1, i2, i3, i4⟩ := HIN1.out.sl
   injection ev with ev1 ev2 ev3
   subst ev1 ev3
   obtain rfl := i3 (by rw [HPL.out]; omega)
   have kb := keepCell HLN.out.bel (i4 j b hb)
   obtain ⟨-, -, -, v3, -⟩ := HVB.out
   have CR := hid (fun X' (hX : Below wr.heap.size wr X') => HIH.out b (lpl P) hxb X' (hTr.onto hX) ((HL1.out.onto HLN.out.bel).onto hX))
   have HBE := hid hb
   have HPP := hid hP
   have HTL := hid (show g < E.length * 0 + g + 1 by omega)
   clear hb hbm hnb hxb hst heb hebd hTr hP hat ev2 i1 i2 i3 i4
   go_upto_region 8 with fail
   have hS0 : Below wr.heap.size wr wr.drew := (Below.refl _ _).drew
   refine wp_region_ends2 (S := fun X => Below wr.heap.size wr X) (by simp) (by kernel_rfl) (by kernel_rfl) (by kernel_rfl) (by kernel_rfl) (by kernel_rfl) (by kernel_rfl) ?_
   simp only [List.dropLast, List.getLast_cons_cons, List.getLast_singleton, List.length_cons, List.length_nil]
   refine take_h (i := 0) (v := ?_) rfl (by kernel_rfl) (by kernel_rfl) (by kernel_rfl) (fun _ _ _ h => h) (by rfl) ?_ hS0 ?_
   rotate_left
   ·(intro X hX; have y0 := keepCell hX v3; have y1 := keepCell hX t0; have y2 := keepCell hX k2; go_simp; try with_reducible rfl)
   try simp only [Act.put, List.setIfInBounds_toArray, List.set_cons_zero, List.set_cons_succ]
   refine take_h (i := 1) (v := ?_) rfl (by kernel_rfl) (by kernel_rfl) (by kernel_rfl) (fun _ _ _ h => h) (by rfl) ?_ hS0 ?_
   rotate_left
   ·(intro X hX; have y0 := keepCell hX v3; have y1 := keepCell hX t0; have y2 := keepCell hX k2; go_simp; try with_reducible rfl)
   try simp only [Act.put, List.setIfInBounds_toArray, List.set_cons_zero, List.set_cons_succ]
   refine take_h (i := 2) (v := ?_) rfl (by kernel_rfl) (by kernel_rfl) (by kernel_rfl) (fun _ _ _ h => h) (by rfl) ?_ hS0 ?_
   rotate_left
   ·(intro X hX; have y0 := keepCell hX v3; have y1 := keepCell hX t0; have y2 := keepCell hX k2; go_simp; try with_reducible rfl)
   try simp only [Act.put, List.setIfInBounds_toArray, List.set_cons_zero, List.set_cons_succ]
   refine take_h (i := 3) (v := ?_) rfl (by kernel_rfl) (by kernel_rfl) (by kernel_rfl) (fun _ _ _ h => h) (by rfl) ?_ hS0 ?_
   rotate_left
   ·(intro X hX; have y0 := keepCell hX v3; have y1 := keepCell hX t0; have y2 := keepCell hX k2; go_simp; try with_reducible rfl)
   try simp only [Act.put, List.setIfInBounds_toArray, List.set_cons_zero, List.set_cons_succ]
   refine take_h (i := 4) (v := ?_) rfl (by kernel_rfl) (by kernel_rfl) (by kernel_rfl) (fun _ _ _ h => h) (by rfl) ?_ hS0 ?_
   rotate_left
   ·(intro X hX; have y0 := keepCell hX v3; have y1 := keepCell hX t0; have y2 := keepCell hX k2; go_simp; try with_reducible rfl)
   try simp only [Act.put, List.setIfInBounds_toArray, List.set_cons_zero, List.set_cons_succ]
   refine take_h (i := 5) (v := ?_) rfl (by kernel_rfl) (by kernel_rfl) (by kernel_rfl) (fun _ _ _ h => h) (by rfl) ?_ hS0 ?_
   rotate_left
   ·(intro X hX; have y0 := keepCell hX v3; have y1 := keepCell hX t0; have y2 := keepCell hX k2; go_simp; try with_reducible rfl)
   try simp only [Act.put, List.setIfInBounds_toArray, List.set_cons_zero, List.set_cons_succ]
   refine take_h (i := 6) (v := ?_) rfl (by kernel_rfl) (by kernel_rfl) (by kernel_rfl) (fun _ _ _ h => h) (by rfl) ?_ hS0 ?_
   rotate_left
   ·(intro X hX; have y0 := keepCell hX v3; have y1 := keepCell hX t0; have y2 := keepCell hX k2; go_simp; try with_reducible rfl)
   try simp only [Act.put, List.setIfInBounds_toArray, List.set_cons_zero, List.set_cons_succ]
   refine take_h (i := 7) (v := ?_) rfl (by kernel_rfl) (by kernel_rfl) (by kernel_rfl) (fun _ _ _ h => h) (by rfl) ?_ hS0 ?_
   rotate_left
   ·(intro X hX; have y0 := keepCell hX v3; have y1 := keepCell hX t0; have y2 := keepCell hX k2; go_simp; try with_reducible rfl)
   try simp only [Act.put, List.setIfInBounds_toArray, List.set_cons_zero, List.set_cons_succ]
   refine take_h (i := 8) (v := ?_) rfl (by kernel_rfl) (by kernel_rfl) (by kernel_rfl) (fun _ _ _ h => h) (by rfl) ?_ hS0 ?_
   rotate_left
   ·(intro X hX; have y0 := keepCell hX v3; have y1 := keepCell hX t0; have y2 := keepCell hX k2; go_simp; try with_reducible rfl)
   try simp only [Act.put, List.setIfInBounds_toArray, List.set_cons_zero, List.set_cons_succ]
   refine take_h (i := 9) (v := ?_) rfl (by kernel_rfl) (by kernel_rfl) (by kernel_rfl) (fun _ _ _ h => h) (by rfl) ?_ hS0 ?_
   rotate_left
   ·(intro X hX; have y0 := keepCell hX v3; have y1 := keepCell hX t0; have y2 := keepCell hX k2; go_simp; try with_reducible rfl)
   try simp only [Act.put, List.setIfInBounds_toArray, List.set_cons_zero, List.set_cons_succ]
   refine take_h (i := 10) (v := ?_) rfl (by kernel_rfl) (by kernel_rfl) (by kernel_rfl) (fun _ _ _ h => h) (by rfl) ?_ hS0 ?_
   rotate_left
   ·(intro X hX; have y0 := keepCell hX v3; have y1 := keepCell hX t0; have y2 := keepCell hX k2; go_simp; try with_reducible rfl)
   try simp only [Act.put, List.setIfInBounds_toArray, List.set_cons_zero, List.set_cons_succ]
   refine take_h (i := 11) (v := ?_) rfl (by kernel_rfl) (by kernel_rfl) (by kernel_rfl) (fun _ _ _ h => h) (by rfl) ?_ hS0 ?_
   rotate_left
   ·(intro X hX; have y0 := keepCell hX v3; have y1 := keepCell hX t0; have y2 := keepCell hX k2; go_simp; try with_reducible rfl)
   try simp only [Act.put, List.setIfInBounds_toArray, List.set_cons_zero, List.set_cons_succ]
   refine take_h (i := 12) (v := ?_) rfl (by kernel_rfl) (by kernel_rfl) (by kernel_rfl) (fun _ _ _ h => h) (by rfl) ?_ hS0 ?_
   rotate_left
   ·(intro X hX; have y0 := keepCell hX v3; have y1 := keepCell hX t0; have y2 := keepCell hX k2; go_simp; try with_reducible rfl)
   try simp only [Act.put, List.setIfInBounds_toArray, List.set_cons_zero, List.set_cons_succ]
   refine take_h (i := 13) (v := ?_) rfl (by kernel_rfl) (by kernel_rfl) (by kernel_rfl) (fun _ _ _ h => h) (by rfl) ?_ hS0 ?_
   rotate_left
   ·(intro X hX; have y0 := keepCell hX v3; have y1 := keepCell hX t0; have y2 := keepCell hX k2; go_simp; try with_reducible rfl)
   try simp only [Act.put, List.setIfInBounds_toArray, List.set_cons_zero, List.set_cons_succ]
   refine step_h (i := 14) rfl (by kernel_rfl) ?_
   intro KK hKK
   go_simp
   go_at_call 51
   refine (CR.out _ hS0).mono ?_
   rintro r w2 ⟨T, x, y, rfl, hsub, hhs, hb2⟩
   have hb2' : Below wr.heap.size wr w2 := vonto (Below.refl wr.heap.size wr).drew hb2
   obtain ⟨o1, m1, c1, o2, m2, c2, rfl, rfl⟩ := hv_slices hhs.hv
   have HSB := hid hsub
   have HHS := hid hhs
   have HB2 := hid hb2'
   simp only [vv]
   go_wp2_with fail
   refine hKK.out _ _ hb2' (fun hS1 => ?_)
   clear hKK KK hsub hhs hb2 CR hS0 v3 t0 k2 kb
   try simp only [Act.put, List.setIfInBounds_toArray, List.set_cons_zero, List.set_cons_succ]
   refine take_h (i := 15) (v := ?_) rfl (by kernel_rfl) (by kernel_rfl) (by kernel_rfl) (fun _ _ _ h => h) (by rfl) ?_ hS1 ?_
   rotate_left
   ·(intro X hX; go_simp; try with_reducible rfl)
   try simp only [Act.put, List.setIfInBounds_toArray, List.set_cons_zero, List.set_cons_succ]
   refine wpAnyH_done (by kernel_rfl) ?_ _
   change Oper.wp _ _ _ _ _ _
   have HLN2 := hid (HLN.out.onto HB2.out)
   have HVB2 := hid (HVB.out.onto HB2.out)
   obtain ⟨u0, e0⟩ := HLN2.out.cell hpl (c := 0) (by decide)
   obtain ⟨u1, e1⟩ := HLN2.out.cell hpl (c := 1) (by decide)
   obtain ⟨u2, e2⟩ := HLN2.out.cell hpl (c := 2) (by decide)
   obtain ⟨u3, e3⟩ := HLN2.out.cell hpl (c := 3) (by decide)
   obtain ⟨u4, e4⟩ := HLN2.out.cell hpl (c := 4) (by decide)
   have z0 := fun k => HLN2.out.own.frozenAt k
   rw [Nat.add_zero] at e0
   have HS3 := hid (HLN2.out.set hpl (T := T) (x := .slice o1 m1 c1) (y := .slice o2 m2 c2) (HHS.out.onto (fun _ _ => rfl) (fun k hk => ⟨by have := HLN.out.gl; have := hk.1; simp at this; omega, hk.2⟩)))
   have HV3 := hid (HVB2.out.far (put5_heap w2 W1.heap.size (P * 5) (.int .i64 T.kd) (.int .i64 T.nm) (.string T.st) (.slice o1 m1 c1) (.slice o2 m2 c2) _ (by omega)))
   simp only [put5] at HS3 HV3
   clear hS1 HB2 HLN2 HVB2 HHS hb2'
   go_simp
   have HDN2 := hid (show DonL l q (E.map NE.d) e.d.ps (j + 1) (LE.set P (T, .slice o1 m1 c1, .slice o2 m2 c2)) from fun i b' hi hib => by
    have hP := HPP.out
    have hlen := HLN.out.len
    by_cases hij : i = j
    ·subst hij
     rw [HBE.out] at hib; injection hib with hib; subst hib
     rw [hP]
     exact ⟨_, List.getElem?_set_self (by omega), HSB.out⟩
    ·obtain ⟨t, h1, h2⟩ := HDN.out i b' (by omega) hib
     refine ⟨t, ?_, h2⟩
     rw [List.getElem?_set_ne (fun eq0 => ?_)]
     ·exact h1
     ·obtain ⟨nb1, h3, h4, -⟩ := HKK.out.gr.place HND.out HQX.out HSH.out (List.mem_of_getElem? hib)
      obtain ⟨nb2, h5, h6, -⟩ := HKK.out.gr.place HND.out HQX.out HSH.out (List.mem_of_getElem? HBE.out)
      rw [hP, eq0] at h6
      have := ix_inj HKK.out.gr.tri.nd h4 h6
      subst this
      exact hij ((List.getElem?_inj (lt_of_some hib) (HKK.out.gr.tri.ps a e.d q HND.out HQX.out).1).1 (hib.trans HBE.out.symm)))
   clear e0 e1 e2 e3 e4 z0 HLN HVB HDN HSB
   generalize ((((w2.setCell ⟨W1.heap.size, P * 5, none⟩ (.int .i64 T.kd)).setCell ⟨W1.heap.size, P * 5 + 1, none⟩ (.int .i64 T.nm)).setCell ⟨W1.heap.size, P * 5 + 2, none⟩ (.string T.st)).setCell ⟨W1.heap.size, P * 5 + 3, none⟩ (.slice o1 m1 c1)).setCell ⟨W1.heap.size, P * 5 + 4, none⟩ (.slice o2 m2 c2) = w3 at *
   go_wp2_with fail
   go_roundw
   case rel => exact ⟨j + 1, _, val_int (by omega), hlt, HS3, HV3, HDN2⟩
   case measure => simp [intOf]; omega
  ·have hjn : j = n := by omega
   subst hjn
   have hsub := HKK.out.gr.list_sub HND.out HQX.out HSH.out (HKK.out.well e.d (List.mem_of_getElem? HND.out)) (L := LE.map (·.1)) (by rw [List.length_map, HLN.out.len, HPL.out]) (fun b hb => by
    obtain ⟨i, hi⟩ := List.getElem?_of_mem hb
    obtain ⟨t, h1, h2⟩ := HDN.out i b (by have := lt_of_some hi; have := HPL.out; omega) hi
    exact ⟨t.1, by rw [List.getElem?_map, h1]; rfl, h2⟩)
   have HSUB := hid hsub
   have HHL := hid (hs_listT HLN.out.ls)
   have R2 := hid (R1.out.onto (HLN.out.bel.block _ R1.out.lt))
   have HB3 := hid (vonto HB1.out HLN.out.bel)
   have HN2 := hid (show w.heap.size < W1.heap.size from by have := HZ1.out; omega)
   obtain ⟨v0, v1, v2, v3, v4⟩ := HVB.out
   clear hsub HLN HVB HDN
   obtain ⟨u0, e0⟩ := R2.out.cell (o := 0) (by decide)
   obtain ⟨u1, e1⟩ := R2.out.cell (o := 1) (by decide)
   obtain ⟨u2, e2⟩ := R2.out.cell (o := 2) (by decide)
   obtain ⟨u3, e3⟩ := R2.out.cell (o := 3) (by decide)
   obtain ⟨u4, e4⟩ := R2.out.cell (o := 4) (by decide)
   have z0 := R2.out.frozen
   obtain ⟨LT, hLT⟩ : ∃ LT, LE.map (·.1) = LT := ⟨_, rfl⟩
   rw [hLT] at HSUB HHL
   go_wp2_with fail
   refine bodyPost_ret (v := vv (.mk 5 0 ⟨#[]⟩ LT [] []) (.slice (some ⟨W1.heap.size, 0, none⟩) j j) (.slice none 0 0)) (by simp [results, Tryz.results51, go_sem, vv, VT.kd, VT.nm, VT.st, e0, e1, e2, e3, e4]) rfl ?_
   refine ⟨_, _, _, rfl, HSUB.out, ?_, ?_⟩
   ·exact put5_hs (b := w.heap.size) HN2.out HHL.out (Nat.le_of_lt HN2.out)
   ·exact put5_bel HB3.out (Nat.le_refl _)
set_option maxRecDepth 100000 in
set_option maxHeartbeats 4000000 in
theorem val_map (B tb m g c : Nat) (E : List NE) (M : Ways) (l : Lvs) (X : List (List PStep)) (lv : Value) (K : VK E M l X) (a : Nat) (q : List PStep) (hq : X[a]? = some q) (w : World) (hT : TM B w tb m (.slice (some ⟨g, 0, none⟩) E.length c) E M) (hl : InLf w l lv) (e : NE) (he : E[a]? = some e) (hs : e.d.sh = 3) (ih : ∀ (b : Nat) (s : PStep), X[b]? = some (q ++ [s]) → ValOk B tb m g c E M l lv b (q ++ [s])) :
  Calls Tryz.prog 51 #[.pointer (some ⟨tb, 0, none⟩), .int .i64 (a : Int), lv] w (ValP l q w) := by
 have hk0 := lt_of_some he
 have HTM := hid hT
 have HLV := hid hl
 have HE := hid he
 have hem := List.mem_of_getElem? he
 have hnd : (E.map NE.d)[a]? = some e.d := by rw [List.getElem?_map, he]; rfl
 have HND := hid hnd
 have HQX := hid hq
 have HKK := hid K
 obtain ⟨q0, -, -⟩ := hT.cells
 have p0 := hT.at_ he 0 _ rfl
 have p1 := hT.at_ he 1 _ rfl
 have p2 := hT.at_ he 2 _ rfl
 have p3 := hT.at_ he 3 _ rfl
 have p4 := hT.at_ he 4 _ rfl
 have p5 := hT.at_ he 5 _ rfl
 rw [Nat.add_zero] at p0
 obtain ⟨ou, cu, hu⟩ := hT.parts hem
 have hin := own_ini (hT.ps e hem)
 rw [hu] at p5 hin
 have HIN := hid hin
 have hE4 := K.few
 have HIH := hid ih
 obtain ⟨ol, cl, hlv⟩ := hl.slc
 subst hlv
 clear ih
 rw [hs] at p0
 have HSH := hid hs
 clear hT hl he hnd hq hin hu K hs
 go_enter Tryz.func51, Tryz.ntmps51
 go_upto_region 1 with fail
 refine cewp_gen ?_
 intro W0 hW
 obtain ⟨r0, hb0, hz0⟩ := rbox_of hW
 have q0 := keepCell hb0 q0
 have p0 := keepCell hb0 p0
 have p1 := keepCell hb0 p1
 have p2 := keepCell hb0 p2
 have p3 := keepCell hb0 p3
 have p4 := keepCell hb0 p4
 have p5 := keepCell hb0 p5
 have R0 := hid r0
 have HB0 := hid hb0
 clear hW r0 hb0
 go_upto_region 2 with fail
 refine cewp_gen ?_
 intro W1 hW
 obtain ⟨n0, n4, n5, hb1, hz1⟩ := nbox6_of hW
 have R1 := hid (R0.out.onto (hb1.block _ R0.out.lt))
 have HB1 := hid (vonto HB0.out hb1)
 have HT1 := hid (HTM.out.onto HB1.out)
 have HL1 := hid (HLV.out.onto HB1.out)
 have HIN1 := hid (HIN.out.onto HB1.out)
 have HZ1 := hid (show W1.heap.size = w.heap.size + 2 by omega)
 have HZ0 := hid hz0
 have q0 := keepCell hb1 q0
 rw [hz0] at n0 n4 n5
 clear hW hb1 R0 HB0 p0 p1 p2 p3 p4 p5 HTM HLV HIN hz1
 obtain ⟨n, hn⟩ : ∃ n, e.d.ps.length = n := ⟨_, rfl⟩
 have HPL := hid hn
 have hnE : n ≤ 4096 := by
  have h1 := (HKK.out.gr.tri.ps a e.d q HND.out HQX.out).1
  have h2 : e.d.ps ⊆ List.range E.length := fun b hb => by
   obtain ⟨nb, h3, -⟩ := HKK.out.gr.part HND.out HQX.out hb
   have := lt_of_some h3
   rw [List.length_map] at this
   rw [List.mem_range]; exact this
  have := List.Nodup.length_le_of_subset h1 h2
  rw [List.length_range] at this
  omega
 rw [hn] at n5 HIN1
 have hmk := Tryz.made34 n (by omega)
 clear hn n4
 go_upto_region 13 with fail
 refine cewp_gen ?_
 intro W2 hW
 obtain ⟨v0, hb2, hz2⟩ := vbox_of hW
 have HPN := hid ((PnS.new W1 W1 (Below.refl _ _) n (by omega)).onto hb2)
 have n5 := keepCell HPN.out.bel n5
 have HVB := hid v0
 clear hW v0 hb2 hmk n0
 go_wp2_with fail
 go_loopw [65] (fun i wr => ∃ (j : Nat) (D : List (ByteArray × VT × Value × Value)), i = .int .i64 j ∧ j ≤ n ∧ Hid (PnS W1 wr W1.heap.size n D) ∧ Hid (VB wr (W1.heap.size + 1) 6 (.slice none 0 0) (.slice (some ⟨W1.heap.size, 0, none⟩) n n)) ∧ Hid (DonM l q (E.map NE.d) e.d.ps j D)) (fun i _ => n - (intOf i).toNat)
 case atStart => exact ⟨0, _, rfl, Nat.zero_le _, HPN, HVB, hid (fun i b h => absurd h (Nat.not_lt_zero i))⟩
 case round =>
  clear HPN HVB n5
  obtain ⟨j, D, rfl, hj, HPN, HVB, HDN⟩ := hrel
  by_cases hlt : j < n
  ·obtain ⟨b, hb⟩ : ∃ b, e.d.ps[j]? = some b := ⟨e.d.ps[j]'(by rw [HPL.out]; exact hlt), List.getElem?_eq_getElem _⟩
   have hbm := List.mem_of_getElem? hb
   obtain ⟨nb, hnb, hxb, hst⟩ := HKK.out.gr.key HND.out HQX.out HSH.out hbm
   obtain ⟨eb, heb, hebd⟩ : ∃ eb, E[b]? = some eb ∧ eb.d = nb := by
    have h0 := hnb
    rw [List.getElem?_map] at h0
    obtain ⟨eb, h1, h2⟩ := Option.map_eq_some_iff.1 h0
    exact ⟨eb, h1, h2⟩
   have hbl := lt_of_some heb
   have hTr := HT1.out.onto HPN.out.bel
   have t0 := hTr.cells.1
   have k1 := hTr.at_ heb 1 _ rfl
   obtain ⟨c1, hc1⟩ : ∃ c1, nb.st.key = c1 := ⟨_, rfl⟩
   rw [hebd, hc1] at k1
   rw [hc1] at hxb
   have hcs : c1.size ≤ 1000000 := by
    obtain ⟨ee, he1, rr, hr1⟩ := HKK.out.gr.any_ (List.mem_of_getElem? hxb)
    have := HKK.out.keys ee he1 (lky c1) (by rw [hr1]; simp)
    exact this
   obtain ⟨ai, oi, ci, ev, i1, i2, i3, i4⟩ := HIN1.out.sl
   injection ev with ev1 ev2 ev3
   subst ev1 ev3
   obtain rfl := i3 (by rw [HPL.out]; omega)
   have kb := keepCell HPN.out.bel (i4 j b hb)
   obtain ⟨-, -, -, -, v4⟩ := HVB.out
   have CR := hid (fun X' (hX : Below wr.heap.size wr X') => HIH.out b (lky c1) hxb X' (hTr.onto hX) ((HL1.out.onto HPN.out.bel).onto hX))
   have HBE := hid hb
   have HNB := hid hnb
   have HC1 := hid hc1
   clear hb hbm hnb hxb hst heb hebd hTr hc1 ev2 i1 i2 i3 i4
   go_upto_region 16 with fail
   have hS0 : Below wr.heap.size wr wr.drew := (Below.refl _ _).drew
   refine wp_region_ends2 (S := fun X => Below wr.heap.size wr X) (by simp) (by kernel_rfl) (by kernel_rfl) (by kernel_rfl) (by kernel_rfl) (by kernel_rfl) (by kernel_rfl) ?_
   simp only [List.dropLast, List.getLast_cons_cons, List.getLast_singleton, List.length_cons, List.length_nil]
   refine take_h (i := 0) (v := ?_) rfl (by kernel_rfl) (by kernel_rfl) (by kernel_rfl) (fun _ _ _ h => h) (by rfl) ?_ hS0 ?_
   rotate_left
   ·(intro X hX; have y0 := keepCell hX v4; have y1 := keepCell hX t0; have y2 := keepCell hX k1; go_simp; try with_reducible rfl)
   try simp only [Act.put, List.setIfInBounds_toArray, List.set_cons_zero, List.set_cons_succ]
   refine take_h (i := 1) (v := ?_) rfl (by kernel_rfl) (by kernel_rfl) (by kernel_rfl) (fun _ _ _ h => h) (by rfl) ?_ hS0 ?_
   rotate_left
   ·(intro X hX; have y0 := keepCell hX v4; have y1 := keepCell hX t0; have y2 := keepCell hX k1; go_simp; try with_reducible rfl)
   try simp only [Act.put, List.setIfInBounds_toArray, List.set_cons_zero, List.set_cons_succ]
   refine take_h (i := 2) (v := ?_) rfl (by kernel_rfl) (by kernel_rfl) (by kernel_rfl) (fun _ _ _ h => h) (by rfl) ?_ hS0 ?_
   rotate_left
   ·(intro X hX; have y0 := keepCell hX v4; have y1 := keepCell hX t0; have y2 := keepCell hX k1; go_simp; try with_reducible rfl)
   try simp only [Act.put, List.setIfInBounds_toArray, List.set_cons_zero, List.set_cons_succ]
   refine take_h (i := 3) (v := ?_) rfl (by kernel_rfl) (by kernel_rfl) (by kernel_rfl) (fun _ _ _ h => h) (by rfl) ?_ hS0 ?_
   rotate_left
   ·(intro X hX; have y0 := keepCell hX v4; have y1 := keepCell hX t0; have y2 := keepCell hX k1; go_simp; try with_reducible rfl)
   try simp only [Act.put, List.setIfInBounds_toArray, List.set_cons_zero, List.set_cons_succ]
   refine take_h (i := 4) (v := ?_) rfl (by kernel_rfl) (by kernel_rfl) (by kernel_rfl) (fun _ _ _ h => h) (by rfl) ?_ hS0 ?_
   rotate_left
   ·(intro X hX; have y0 := keepCell hX v4; have y1 := keepCell hX t0; have y2 := keepCell hX k1; go_simp; try with_reducible rfl)
   try simp only [Act.put, List.setIfInBounds_toArray, List.set_cons_zero, List.set_cons_succ]
   refine take_h (i := 5) (v := ?_) rfl (by kernel_rfl) (by kernel_rfl) (by kernel_rfl) (fun _ _ _ h => h) (by rfl) ?_ hS0 ?_
   rotate_left
   ·(intro X hX; have y0 := keepCell hX v4; have y1 := keepCell hX t0; have y2 := keepCell hX k1; go_simp; try with_reducible rfl)
   try simp only [Act.put, List.setIfInBounds_toArray, List.set_cons_zero, List.set_cons_succ]
   refine take_h (i := 6) (v := ?_) rfl (by kernel_rfl) (by kernel_rfl) (by kernel_rfl) (fun _ _ _ h => h) (by rfl) ?_ hS0 ?_
   rotate_left
   ·(intro X hX; have y0 := keepCell hX v4; have y1 := keepCell hX t0; have y2 := keepCell hX k1; go_simp; try with_reducible rfl)
   try simp only [Act.put, List.setIfInBounds_toArray, List.set_cons_zero, List.set_cons_succ]
   refine take_h (i := 7) (v := ?_) rfl (by kernel_rfl) (by kernel_rfl) (by kernel_rfl) (fun _ _ _ h => h) (by rfl) ?_ hS0 ?_
   rotate_left
   ·(intro X hX; have y0 := keepCell hX v4; have y1 := keepCell hX t0; have y2 := keepCell hX k1; go_simp; try with_reducible rfl)
   try simp only [Act.put, List.setIfInBounds_toArray, List.set_cons_zero, List.set_cons_succ]
   refine take_h (i := 8) (v := ?_) rfl (by kernel_rfl) (by kernel_rfl) (by kernel_rfl) (fun _ _ _ h => h) (by rfl) ?_ hS0 ?_
   rotate_left
   ·(intro X hX; have y0 := keepCell hX v4; have y1 := keepCell hX t0; have y2 := keepCell hX k1; go_simp; try with_reducible rfl)
   try simp only [Act.put, List.setIfInBounds_toArray, List.set_cons_zero, List.set_cons_succ]
   refine take_h (i := 9) (v := ?_) rfl (by kernel_rfl) (by kernel_rfl) (by kernel_rfl) (fun _ _ _ h => h) (by rfl) ?_ hS0 ?_
   rotate_left
   ·(intro X hX; have y0 := keepCell hX v4; have y1 := keepCell hX t0; have y2 := keepCell hX k1; go_simp; try with_reducible rfl)
   try simp only [Act.put, List.setIfInBounds_toArray, List.set_cons_zero, List.set_cons_succ]
   refine take_h (i := 10) (v := ?_) rfl (by kernel_rfl) (by kernel_rfl) (by kernel_rfl) (fun _ _ _ h => h) (by rfl) ?_ hS0 ?_
   rotate_left
   ·(intro X hX; have y0 := keepCell hX v4; have y1 := keepCell hX t0; have y2 := keepCell hX k1; go_simp; try with_reducible rfl)
   try simp only [Act.put, List.setIfInBounds_toArray, List.set_cons_zero, List.set_cons_succ]
   refine take_h (i := 11) (v := ?_) rfl (by kernel_rfl) (by kernel_rfl) (by kernel_rfl) (fun _ _ _ h => h) (by rfl) ?_ hS0 ?_
   rotate_left
   ·(intro X hX; have y0 := keepCell hX v4; have y1 := keepCell hX t0; have y2 := keepCell hX k1; go_simp; try with_reducible rfl)
   try simp only [Act.put, List.setIfInBounds_toArray, List.set_cons_zero, List.set_cons_succ]
   refine take_h (i := 12) (v := ?_) rfl (by kernel_rfl) (by kernel_rfl) (by kernel_rfl) (fun _ _ _ h => h) (by rfl) ?_ hS0 ?_
   rotate_left
   ·(intro X hX; have y0 := keepCell hX v4; have y1 := keepCell hX t0; have y2 := keepCell hX k1; go_simp; try with_reducible rfl)
   try simp only [Act.put, List.setIfInBounds_toArray, List.set_cons_zero, List.set_cons_succ]
   refine take_h (i := 13) (v := ?_) rfl (by kernel_rfl) (by kernel_rfl) (by kernel_rfl) (fun _ _ _ h => h) (by rfl) ?_ hS0 ?_
   rotate_left
   ·(intro X hX; have y0 := keepCell hX v4; have y1 := keepCell hX t0; have y2 := keepCell hX k1; go_simp; try with_reducible rfl)
   try simp only [Act.put, List.setIfInBounds_toArray, List.set_cons_zero, List.set_cons_succ]
   refine take_h (i := 14) (v := ?_) rfl (by kernel_rfl) (by kernel_rfl) (by kernel_rfl) (fun _ _ _ h => h) (by rfl) ?_ hS0 ?_
   rotate_left
   ·(intro X hX; have y0 := keepCell hX v4; have y1 := keepCell hX t0; have y2 := keepCell hX k1; go_simp; try with_reducible rfl)
   try simp only [Act.put, List.setIfInBounds_toArray, List.set_cons_zero, List.set_cons_succ]
   refine step_h (i := 15) rfl (by kernel_rfl) ?_
   intro KK hKK
   go_simp
   go_at_call 51
   refine (CR.out _ hS0).mono ?_
   rintro r w2 ⟨T, x, y, rfl, hsub, hhs, hb2⟩
   have hb2' : Below wr.heap.size wr w2 := vonto (Below.refl wr.heap.size wr).drew hb2
   obtain ⟨o1, m1, d1, o2, m2, d2, rfl, rfl⟩ := hv_slices hhs.hv
   have HSB := hid hsub
   have HHS := hid hhs
   have HB2 := hid hb2'
   simp only [vv]
   go_wp2_with fail
   refine hKK.out _ _ hb2' (fun hS1 => ?_)
   clear hKK KK hsub hhs hb2 CR hS0 v4 t0 k1 kb
   try simp only [Act.put, List.setIfInBounds_toArray, List.set_cons_zero, List.set_cons_succ]
   refine take_h (i := 16) (v := ?_) rfl (by kernel_rfl) (by kernel_rfl) (by kernel_rfl) (fun _ _ _ h => h) (by rfl) ?_ hS1 ?_
   rotate_left
   ·(intro X hX; go_simp; try with_reducible rfl)
   try simp only [Act.put, List.setIfInBounds_toArray, List.set_cons_zero, List.set_cons_succ]
   refine take_h (i := 17) (v := ?_) rfl (by kernel_rfl) (by kernel_rfl) (by kernel_rfl) (fun _ _ _ h => h) (by rfl) ?_ hS1 ?_
   rotate_left
   ·(intro X hX; go_simp; try with_reducible rfl)
   try simp only [Act.put, List.setIfInBounds_toArray, List.set_cons_zero, List.set_cons_succ]
   refine wpAnyH_done (by kernel_rfl) ?_ _
   change Oper.wp _ _ _ _ _ _
   have HPN2 := hid (HPN.out.onto HB2.out)
   have HVB2 := hid (HVB.out.onto HB2.out)
   obtain ⟨u0, e0⟩ := HPN2.out.cell hlt (c := 0) (by decide)
   obtain ⟨u1, e1⟩ := HPN2.out.cell hlt (c := 1) (by decide)
   obtain ⟨u2, e2⟩ := HPN2.out.cell hlt (c := 2) (by decide)
   obtain ⟨u3, e3⟩ := HPN2.out.cell hlt (c := 3) (by decide)
   obtain ⟨u4, e4⟩ := HPN2.out.cell hlt (c := 4) (by decide)
   obtain ⟨u5, e5⟩ := HPN2.out.cell hlt (c := 5) (by decide)
   have z0 := fun k => HPN2.out.own.frozenAt k
   rw [Nat.add_zero] at e0
   have HS3 := hid (HPN2.out.set hlt (c := c1) (T := T) (x := .slice o1 m1 d1) (y := .slice o2 m2 d2) (max_le hcs) (HHS.out.onto (fun _ _ => rfl) (fun k hk => ⟨by have := HPN.out.gl; have := hk.1; simp at this; omega, hk.2⟩)))
   have HV3 := hid (HVB2.out.far (put6_heap w2 W1.heap.size (j * 6) (.string c1) (.int .i64 T.kd) (.int .i64 T.nm) (.string T.st) (.slice o1 m1 d1) (.slice o2 m2 d2) _ (by omega)))
   simp only [put6] at HS3 HV3
   clear hS1 HB2 HPN2 HVB2 HHS hb2'
   go_simp
   have HDN2 := hid (show DonM l q (E.map NE.d) e.d.ps (j + 1) (D.set j (c1, T, .slice o1 m1 d1, .slice o2 m2 d2)) from fun i b' hi hib => by
    have hlen := HPN.out.len
    by_cases hij : i = j
    ·subst hij
     rw [HBE.out] at hib; injection hib with hib; subst hib
     exact ⟨_, _, List.getElem?_set_self (by omega), HNB.out, HC1.out.symm, HSB.out⟩
    ·obtain ⟨t, nb', h1, h2, h3, h4⟩ := HDN.out i b' (by omega) hib
     exact ⟨t, nb', by rw [List.getElem?_set_ne (fun eq0 => hij eq0.symm)]; exact h1, h2, h3, h4⟩)
   clear e0 e1 e2 e3 e4 e5 z0 HPN HVB HDN HSB
   generalize (((((w2.setCell ⟨W1.heap.size, j * 6, none⟩ (.string c1)).setCell ⟨W1.heap.size, j * 6 + 1, none⟩ (.int .i64 T.kd)).setCell ⟨W1.heap.size, j * 6 + 2, none⟩ (.int .i64 T.nm)).setCell ⟨W1.heap.size, j * 6 + 3, none⟩ (.string T.st)).setCell ⟨W1.heap.size, j * 6 + 4, none⟩ (.slice o1 m1 d1)).setCell ⟨W1.heap.size, j * 6 + 5, none⟩ (.slice o2 m2 d2) = w3 at *
   go_wp2_with fail
   go_roundw
   case rel => exact ⟨j + 1, _, val_int (by omega), hlt, HS3, HV3, HDN2⟩
   case measure => simp [intOf]; omega
  ·have hjn : j = n := by omega
   subst hjn
   have HSORT := hid (sortu_any HPN.out (by omega))
   have hDl := HPN.out.len
   have hat : ∀ (i b : Nat), e.d.ps[i]? = some b → ∃ x nb, D[i]? = some x ∧ (E.map NE.d)[b]? = some nb ∧ x.1 = nb.st.key ∧ SubOf l (q ++ [lky x.1]) x.2.1 := fun i b hi => HDN.out i b (by have := lt_of_some hi; have := HPL.out; omega) hi
   have hnod : (D.map (·.1)).Nodup := HKK.out.gr.keys_nodup HND.out HQX.out HSH.out (by rw [List.length_map, hDl, HPL.out]) (fun i b hi => by
    obtain ⟨x, nb, h1, h2, h3, -⟩ := hat i b hi
    exact ⟨nb, h2, by rw [List.getElem?_map, h1, ← h3]; rfl⟩)
   have HNOD := hid hnod
   have HAT := hid hat
   have HDL := hid hDl
   obtain ⟨v0, v1, v2, v3, v4⟩ := HVB.out
   clear hnod hat hDl
   go_wp2_with fail
   go_at_call 95
   refine HSORT.out.mono ?_
   rintro r w4 ⟨rfl, D', hperm, hord, hms, hb4, hch⟩
   have HVB4 := hid (HVB.out.far (hch.block _ HVB.out.lt (by omega)))
   have HHM := hid (hs_mapT hms)
   have R2 := hid (R1.out.onto (hb4.block _ R1.out.lt))
   have HB3 := hid (vonto HB1.out hb4)
   have HN2 := hid (show w.heap.size < W1.heap.size from by have := HZ1.out; omega)
   have hsub : SubOf l q (.mk 6 0 ⟨#[]⟩ [] (D'.map (·.1)) (D'.map (·.2.1))) := by
    have hnd' : (D'.map (·.1)).Nodup := (hperm.map (·.1)).nodup_iff.2 HNOD.out
    refine HKK.out.gr.map_sub HND.out HQX.out HSH.out (by simp) (strict_of hnd' (fun i k x y hik hi hk => ?_)) (fun k cc t hk ht => ?_) (fun b hb nb hnb => ?_)
    ·rw [List.getElem?_map] at hi hk
     obtain ⟨xx, h1, rfl⟩ := Option.map_eq_some_iff.1 hi
     obtain ⟨yy, h2, rfl⟩ := Option.map_eq_some_iff.1 hk
     exact hord i k xx yy hik h1 h2
    ·rw [List.getElem?_map] at hk ht
     obtain ⟨xx, h1, rfl⟩ := Option.map_eq_some_iff.1 hk
     rw [h1] at ht
     simp only [Option.map_some, Option.some.injEq] at ht
     subst ht
     obtain ⟨i, hi⟩ := List.getElem?_of_mem (hperm.subset (List.mem_of_getElem? h1))
     obtain ⟨b, hb⟩ : ∃ b, e.d.ps[i]? = some b := ⟨e.d.ps[i]'(by have := lt_of_some hi; have := HDL.out; have := HPL.out; omega), List.getElem?_eq_getElem _⟩
     obtain ⟨x2, nb, h3, -, -, h4⟩ := HAT.out i b hb
     rw [hi] at h3; injection h3 with h3; subst h3
     exact h4
    ·obtain ⟨i, hi⟩ := List.getElem?_of_mem hb
     obtain ⟨x2, nb2, h3, h4, h5, -⟩ := HAT.out i b hi
     rw [hnb] at h4; injection h4 with h4; subst h4
     rw [← h5]
     exact List.mem_map.2 ⟨x2, hperm.symm.subset (List.mem_of_getElem? h3), rfl⟩
   have HSUB := hid hsub
   obtain ⟨KT, hKT⟩ : ∃ KT, D'.map (·.1) = KT := ⟨_, rfl⟩
   obtain ⟨VT', hVT⟩ : ∃ VT', D'.map (·.2.1) = VT' := ⟨_, rfl⟩
   rw [hKT, hVT] at HSUB HHM
   clear hsub hperm hord hms hb4 hch HPN HVB HDN HNOD HAT v0 v1 v2 v3 v4 HSORT hKT hVT
   obtain ⟨v0, v1, v2, v3, v4⟩ := HVB4.out
   obtain ⟨u0, e0⟩ := R2.out.cell (o := 0) (by decide)
   obtain ⟨u1, e1⟩ := R2.out.cell (o := 1) (by decide)
   obtain ⟨u2, e2⟩ := R2.out.cell (o := 2) (by decide)
   obtain ⟨u3, e3⟩ := R2.out.cell (o := 3) (by decide)
   obtain ⟨u4, e4⟩ := R2.out.cell (o := 4) (by decide)
   have z0 := R2.out.frozen
   go_wp2_with fail
   refine bodyPost_ret (v := vv (.mk 6 0 ⟨#[]⟩ [] KT VT') (.slice none 0 0) (.slice (some ⟨W1.heap.size, 0, none⟩) j j)) (by simp [results, Tryz.results51, go_sem, vv, VT.kd, VT.nm, VT.st, e0, e1, e2, e3, e4]) rfl ?_
   refine ⟨_, _, _, rfl, HSUB.out, ?_, ?_⟩
   ·exact put5_hs (b := w.heap.size) HN2.out HHM.out (Nat.le_of_lt HN2.out)
   ·exact put5_bel HB3.out (Nat.le_refl _)
theorem value_all (B tb m g c : Nat) (E : List NE) (M : Ways) (l : Lvs) (X : List (List PStep)) (lv : Value) (K : VK E M l X) : ∀ (N a : Nat) (q : List PStep), q.length + N = 32 → X[a]? = some q → ValOk B tb m g c E M l lv a q
 | 0, a, q, hN, hq => by
  obtain ⟨e, he, r, hr⟩ := K.gr.any_ (List.mem_of_getElem? hq)
  have := K.short e he
  rw [hr, List.length_append] at this
  omega
 | N + 1, a, q, hN, hq => by
  intro w hT hl
  have ha : a < E.length := by have := lt_of_some hq; rw [K.gr.tri.len, List.length_map] at this; exact this
  obtain ⟨e, he⟩ : ∃ e, E[a]? = some e := ⟨E[a], List.getElem?_eq_getElem ha⟩
  have hnd : (E.map NE.d)[a]? = some e.d := by rw [List.getElem?_map, he]; rfl
  have ih : ∀ (b : Nat) (s : PStep), X[b]? = some (q ++ [s]) → ValOk B tb m g c E M l lv b (q ++ [s]) := fun b s hb => value_all B tb m g c E M l X lv K N b (q ++ [s]) (by rw [List.length_append]; simp; omega) hb
  rcases K.gr.sh hnd hq with hs | hs | hs
  ·exact val_leaf B tb m g c E M l X lv K a q hq w hT hl e he hs
  ·exact val_list B tb m g c E M l X lv K a q hq w hT hl e he hs ih
  ·exact val_map B tb m g c E M l X lv K a q hq w hT hl e he hs ih
end Go.Proofs.YteimbjamnfkapaaGreatDoor
