/- The document's own reckoning of trees, walked: may a tree be? -/
import Derived.Test.YtkhjahpkbjafaaaGreatDoorRRefVal6
import Derived.Test.YtkhjahpkbjafaaaGreatDoorRMathByte
import Derived.Test.YtkhjahpkbjafaaaGreatDoorRVHold
import Derived.Test.YtkhjahpkbjafaaaGreatDoorRMathSt
import Derived.Test.YtkhjahpkbjafaaaGreatDoorRRefVal5
import Derived.Test.YtkhjahpkbjafaaaGreatDoorRRefVal4
import Derived.Test.YtkhjahpkbjafaaaGreatDoorRVBase
import Derived.WideShapes
/- What was written is read back: JprintBack walked. -/
/- An argument that is a value: its tree. -/
namespace Go.Proofs.YtkhjahpkbjafaaaGreatDoor
open Go.RowKit

theorem may_fit (T : VT) : mayB 0 1 T = (fitB T 32 4096 && plainT T) := by
  unfold mayB fitB
  congr 1
  exact decide_eq_decide.2 (by omega)
set_option maxRecDepth 100000 in
set_option maxHeartbeats 1000000 in
theorem rvalue_any (T : VT) (x y : Value) (w : World) (hT : HV w T x y) :
    Calls Tryz.prog 22 #[vv T x y] w fun e w' => e = .returned (.bool (mayB 0 1 T)) ∧ Below w.heap.size w w' := by
  have hal : Below w.heap.size w (w.alloc (.cells #[.int .i64 T.kd, .int .i64 T.nm, .string T.st, x, y] 27)) := (Below.refl _ _).alloc (Nat.le_refl _) _
  have HM := hid (may_fit T)
  obtain ⟨o1, n1, c1, o2, n2, c2, rfl, rfl⟩ := hv_slices hT
  have HB := hid (bx_new hT 27)
  have HAL := hid hal
  have HH := hid (heavy_any T _ _ 4096 32 _ HB.out.2 (by omega) (by omega))
  simp only [vv] at HH
  simp only [vv]
  clear hal hT
  cases hf : fitB T 32 4096 with
  | false =>
    rw [hf] at HH HM
    simp only [Bool.not_false] at HH
    go_enter Tryz.func22, Tryz.ntmps22
    go_wp2_with (go_at_call 21; go_must (refine HH.out.mono ?_; rintro e w1 ⟨rfl, hb1⟩))
    go_ret
    exact ⟨ret_bool (by rw [HM.out]; rfl), vonto HAL.out hb1⟩
  | true =>
    rw [hf] at HH HM
    simp only [Bool.not_true] at HH
    go_enter Tryz.func22, Tryz.ntmps22
    go_wp2_with fail
    go_at_call 21
    refine HH.out.mono ?_
    rintro e w1 ⟨rfl, hb1⟩
    have HB1 := hid hb1
    obtain ⟨q0, q1, q2, q3, q4⟩ := (HB.out.onto hb1).cells
    have HP := hid (rplain_any (szT T) T _ _ w1 (Nat.le_refl _) (HB.out.onto hb1).2)
    simp only [vv] at HP
    generalize plainT T = pt at HP HM
    clear hb1
    go_wp2_with fail
    go_at_call 36
    refine HP.out.mono ?_
    rintro e w2 ⟨rfl, hb2⟩
    go_wp2_with fail
    go_ret
    exact ⟨ret_bool (by rw [HM.out]; rfl), vonto (vonto HAL.out HB1.out) hb2⟩
end Go.Proofs.YtkhjahpkbjafaaaGreatDoor
namespace Go.Proofs.YtkhjahpkbjafaaaGreatDoor
open Go.RowKit

set_option maxRecDepth 100000 in
set_option maxHeartbeats 4000000 in
theorem Tryz.jprintBack_walk (T : VT) (x y : Value) (w : World) (hga : GlobA w) (hT : HV w T x y) :
    Calls Tryz.prog 9 #[vv T x y] w fun e w' => e = .returned (.bool true) ∧ Below w.heap.size w w' := by
  have hg := hga.p
  have CP := hid (fun (t : ByteArray) X (ht : t.size ≤ 1000000) (hX : Below w.heap.size w X) => jparse_any t X ht (hga.1.1.on hX) (hga.1.2.on hX))
  clear hga
  have hal := valloc_bel (Below.refl w.heap.size w) (.cells #[.int .i64 T.kd, .int .i64 T.nm, .string T.st, x, y] 27)
  have CA := hid (awake9 (w.alloc (.cells #[.int .i64 T.kd, .int .i64 T.nm, .string T.st, x, y] 27)) (hg.on hal))
  have HG := hid hg
  have HWF := hid hT.wfT
  have HT := hid hT
  have HAL := hid hal
  clear hg hT hal
  have CH := hid (fun X (hX : Below w.heap.size w X) => heavy_any T x y 300 32 X (HT.out.onto hX) (by omega) (by omega))
  have CM := hid (fun X (hX : Below w.heap.size w X) => rvalue_any T x y X (HT.out.onto hX))
  have CC := hid (fun X (hX : Below w.heap.size w X) => compact_any T x y X (HG.out.on hX) (HT.out.onto hX))
  have CI := hid (fun X (hX : Below w.heap.size w X) => indent_any T x y X (HG.out.on hX) (HT.out.onto hX))
  simp only [vv] at CH CM CC CI ⊢
  obtain ⟨k, hk⟩ : ∃ k, T.kd = k := ⟨_, rfl⟩
  obtain ⟨nm, hnm⟩ : ∃ nm, T.nm = nm := ⟨_, rfl⟩
  obtain ⟨st, hst⟩ : ∃ st, T.st = st := ⟨_, rfl⟩
  have HK := hid hk
  have HN := hid hnm
  have HST := hid hst
  rw [hk, hnm, hst] at CA HAL CH CM CC CI ⊢
  clear hk hnm hst
  go_enter Tryz.func9, Tryz.ntmps9
  go_wp2_with fail
  go_at_call 25
  refine CA.out.mono ?_
  rintro e w0 ⟨rfl, hb0⟩
  have hbx : Below (w.heap.size + 1) (w.alloc (.cells #[.int .i64 k, .int .i64 nm, .string st, x, y] 27)) w0 := by simpa using hb0
  have c0 := box_cell w w0 _ _ _ _ _ _ hbx 0 _ rfl
  have c1 := box_cell w w0 _ _ _ _ _ _ hbx 1 _ rfl
  have c2 := box_cell w w0 _ _ _ _ _ _ hbx 2 _ rfl
  have c3 := box_cell w w0 _ _ _ _ _ _ hbx 3 _ rfl
  have c4 := box_cell w w0 _ _ _ _ _ _ hbx 4 _ rfl
  have HB0 := hid (vonto HAL.out hb0)
  clear hb0 hbx CA HAL
  go_wp2_with fail
  go_at_call 21
  refine (CH.out _ HB0.out).mono ?_
  rintro e w1 ⟨rfl, hb1⟩
  replace c0 := keepCell hb1 c0
  replace c1 := keepCell hb1 c1
  replace c2 := keepCell hb1 c2
  replace c3 := keepCell hb1 c3
  replace c4 := keepCell hb1 c4
  have HB1 := hid (vonto HB0.out hb1)
  clear hb1 CH HB0
  cases hf : fitB T 32 300 with
  | false =>
    go_wp2_with fail
    go_ret
    exact ⟨rfl, HB1.out⟩
  | true =>
  have hfit : szT T ≤ 300 := by
    unfold fitB at hf
    have := of_decide_eq_true hf
    omega
  clear hf
  go_wp2_with fail
  go_at_call 22
  refine (CM.out _ HB1.out).mono ?_
  rintro e w2 ⟨rfl, hb2⟩
  replace c0 := keepCell hb2 c0
  replace c1 := keepCell hb2 c1
  replace c2 := keepCell hb2 c2
  replace c3 := keepCell hb2 c3
  replace c4 := keepCell hb2 c4
  have HB2 := hid (vonto HB1.out hb2)
  clear hb2 CM HB1
  have CST := hid (fun X (hX : Below w.heap.size w X) => stamped_any (szT T) T x y X (Nat.le_refl _) (HT.out.onto hX))
  simp only [vv] at CST
  rw [HK.out, HN.out, HST.out] at CST
  cases hm : mayB 0 1 T with
  | false =>
    go_wp2_with fail
    go_ret
    exact ⟨rfl, HB2.out⟩
  | true =>
  obtain ⟨hpl, hsz, hhg⟩ := may_parts hm
  have HPL := hid hpl
  have e1 : ∀ inl, wrB inl T = txs (tkV (indO inl 0) T) := fun inl => by unfold wrB; rw [if_pos hm]
  have E1 := hid (e1 false)
  rw [e1] at CC CI
  simp only [indO, Bool.false_eq_true, if_false, if_true] at CC CI E1
  have hln := val_len T none hpl HWF.out (fun k hk => by cases hk)
  have hln2 := val_len T (some 0) HPL.out HWF.out (fun k hk => by injection hk with hk; omega)
  obtain ⟨m, hmm⟩ : ∃ m, mkS (txs (tkV none T)) = m := ⟨_, rfl⟩
  obtain ⟨u, huu⟩ : ∃ u, mkS (txs (tkV (some 0) T)) = u := ⟨_, rfl⟩
  rw [hmm] at CC
  rw [huu] at CI
  have h60 : 60000 * szT T ≤ 60000 * 300 := Nat.mul_le_mul_left _ hfit
  have hms : m.size ≤ 60000 * 300 := by rw [← hmm, mkS_size]; omega
  have hus : u.size ≤ 60000 * 300 := by rw [← huu, mkS_size]; omega
  have HM := hid (show txs (tkV none T) = m.data.toList by rw [← hmm, mkS_list])
  have HU := hid (show txs (tkV (some 0) T) = u.data.toList by rw [← huu, mkS_list])
  have HMM := hid hmm
  clear hmm huu e1 hm hpl hln hln2 h60
  go_wp2_with fail
  go_at_call 28
  refine (CST.out _ HB2.out).mono ?_
  rintro e w3 ⟨rfl, hb3⟩
  replace c0 := keepCell hb3 c0
  replace c1 := keepCell hb3 c1
  replace c2 := keepCell hb3 c2
  replace c3 := keepCell hb3 c3
  replace c4 := keepCell hb3 c4
  have HB3 := hid (vonto HB2.out hb3)
  clear hb3 CST HB2
  cases hs : smB T with
  | true =>
    go_wp2_with fail
    go_ret
    exact ⟨rfl, HB3.out⟩
  | false =>
  have hbk := bk_same T hs
  have HBK := hid hbk
  clear hs hbk
  go_wp2_with fail
  have hinh := abv_some w3
  have K1 := hid (fun X : Abv w3 => CC.out X.u (vonto HB3.out X.h))
  have K2 := hid (fun X : Abv w3 => CI.out X.u (vonto HB3.out X.h))
  have z0 := above_cell c0
  have z1 := above_cell c1
  have z2 := above_cell c2
  have z3 := above_cell c3
  have z4 := above_cell c4
  clear c0 c1 c2 c3 c4
  refine wp_region_above (by kernel_rfl) (by kernel_rfl) ?_
  repeat (go_big_quiet_step ((first
    | (go_at_call 26; with_reducible exact above_of (K1.out _))
    | (go_at_call 27; with_reducible exact above_of (K2.out _)))))
  refine wpQuiet_nil ?_
  intro _ hw'
  obtain ⟨X, hX⟩ := hw'
  subst hX
  have c0 := z0 X
  have c1 := z1 X
  have c2 := z2 X
  have c3 := z3 X
  have c4 := z4 X
  have HB4 := hid (vonto HB3.out X.h)
  clear z0 z1 z2 z3 z4 HB3 K1 K2 hinh
  generalize X.u = w4 at c0 c1 c2 c3 c4 HB4 ⊢
  by_cases hl1 : 65536 < m.size
  · go_wp2_with fail
    go_ret
    exact ⟨rfl, HB4.out⟩
  by_cases hl2 : 65536 < u.size
  · go_wp2_with fail
    go_ret
    exact ⟨rfl, HB4.out⟩
  obtain ⟨q1, hq1⟩ := val_reads none T HPL.out HWF.out hhg hsz (by rw [HM.out, size_list]; omega)
  obtain ⟨q2, hq2⟩ := val_reads (some 0) T HPL.out HWF.out hhg hsz (by rw [HU.out, size_list]; omega)
  rw [HBK.out, HM.out] at hq1
  rw [HBK.out, HU.out] at hq2
  have C1 := hid (fun X (hX : Below w.heap.size w X) => CP.out m X (by omega) hX)
  have C2 := hid (fun X (hX : Below w.heap.size w X) => CP.out u X (by omega) hX)
  rw [hq1] at C1
  rw [hq2] at C2
  unfold Jq at C1 C2
  simp only [vv] at C1 C2
  rw [HK.out, HN.out, HST.out] at C1 C2
  clear hq1 hq2 HM HU CP CC CI
  go_wp2_with fail
  go_at_call 15
  refine (C1.out _ HB4.out).mono ?_
  rintro e w5 ⟨o1, n1, a1, o1', n1', a1', rfl, hs1, hb5⟩
  replace c0 := keepCell hb5 c0
  replace c1 := keepCell hb5 c1
  replace c2 := keepCell hb5 c2
  replace c3 := keepCell hb5 c3
  replace c4 := keepCell hb5 c4
  have HS1 := hid hs1.hv
  have HB5 := hid (vonto HB4.out hb5)
  clear hb5 C1 hs1 HB4
  go_wp2_with fail
  go_at_call 15
  obtain ⟨f0, -, -, -⟩ := fault_cells w5 (.cells #[.int .i64 k, .int .i64 nm, .string st, .slice o1 n1 a1, .slice o1' n1' a1'] 27) 0 0 0 0
  obtain ⟨v0, v1, v2, v3, v4⟩ := value_cells w5 k nm st (.slice o1 n1 a1) (.slice o1' n1' a1') (.cells #[.int .i64 0, .int .i64 0, .int .i64 0, .int .i64 0] 30)
  have hk1 := valloc_bel (valloc_bel (Below.refl w5.heap.size w5) (.cells #[.int .i64 k, .int .i64 nm, .string st, .slice o1 n1 a1, .slice o1' n1' a1'] 27)) (.cells #[.int .i64 0, .int .i64 0, .int .i64 0, .int .i64 0] 30)
  replace c0 := keepCell hk1 c0
  replace c1 := keepCell hk1 c1
  replace c2 := keepCell hk1 c2
  replace c3 := keepCell hk1 c3
  replace c4 := keepCell hk1 c4
  refine (C2.out _ (vonto HB5.out hk1)).mono ?_
  rintro e w6 ⟨o2, n2, a2, o2', n2', a2', rfl, hs2, hb6⟩
  have hk2 := valloc_bel (valloc_bel (Below.refl w6.heap.size w6) (.cells #[.int .i64 k, .int .i64 nm, .string st, .slice o2 n2 a2, .slice o2' n2' a2'] 27)) (.cells #[.int .i64 0, .int .i64 0, .int .i64 0, .int .i64 0] 30)
  replace f0 := keepCell hk2 (keepCell hb6 f0)
  replace v0 := keepCell hk2 (keepCell hb6 v0)
  replace v1 := keepCell hk2 (keepCell hb6 v1)
  replace v2 := keepCell hk2 (keepCell hb6 v2)
  replace v3 := keepCell hk2 (keepCell hb6 v3)
  replace v4 := keepCell hk2 (keepCell hb6 v4)
  replace c0 := keepCell hk2 (keepCell hb6 c0)
  replace c1 := keepCell hk2 (keepCell hb6 c1)
  replace c2 := keepCell hk2 (keepCell hb6 c2)
  replace c3 := keepCell hk2 (keepCell hb6 c3)
  replace c4 := keepCell hk2 (keepCell hb6 c4)
  obtain ⟨g0, -, -, -⟩ := fault_cells w6 (.cells #[.int .i64 k, .int .i64 nm, .string st, .slice o2 n2 a2, .slice o2' n2' a2'] 27) 0 0 0 0
  obtain ⟨x0, x1, x2, x3, x4⟩ := value_cells w6 k nm st (.slice o2 n2 a2) (.slice o2' n2' a2') (.cells #[.int .i64 0, .int .i64 0, .int .i64 0, .int .i64 0] 30)
  have HV1 := hid (((HS1.out.onto hk1).onto hb6).onto hk2)
  have HV2 := hid (hs2.hv.onto hk2)
  have HB6 := hid (vonto (vonto (vonto HB5.out hk1) hb6) hk2)
  clear hb6 hk1 hk2 C2 hs2 HS1 HB5
  go_upto_region 10 with fail
  generalize ((w6.alloc (.cells #[.int .i64 k, .int .i64 nm, .string st, .slice o2 n2 a2, .slice o2' n2' a2'] 27)).alloc (.cells #[.int .i64 0, .int .i64 0, .int .i64 0, .int .i64 0] 30)) = W6 at f0 v0 v1 v2 v3 v4 g0 x0 x1 x2 x3 x4 c0 c1 c2 c3 c4 HV1 HV2 HB6 ⊢
  have S1 := hid (fun X (hX : Below W6.heap.size W6 X) => same_any (szT T) T T _ _ x y false X (Nat.le_refl _) (HV1.out.onto hX) (HT.out.onto (vonto HB6.out hX)))
  have S2 := hid (fun X (hX : Below W6.heap.size W6 X) => same_any (szT T) T T _ _ x y false X (Nat.le_refl _) (HV2.out.onto hX) (HT.out.onto (vonto HB6.out hX)))
  have S3 := hid (fun X (hX : Below W6.heap.size W6 X) => compact_any T _ _ X (HG.out.on (vonto HB6.out hX)) (HV2.out.onto hX))
  rw [eq_same] at S1 S2
  rw [E1.out, HMM.out] at S3
  simp only [vv] at S1 S2 S3
  rw [HK.out, HN.out, HST.out] at S1 S2 S3
  go_wp2_with fail
  go_at_call 20
  refine (S1.out _ (Below.refl _ _)).mono ?_
  rintro e w7 ⟨rfl, hb7⟩
  replace c0 := keepCell hb7 c0
  replace c1 := keepCell hb7 c1
  replace c2 := keepCell hb7 c2
  replace c3 := keepCell hb7 c3
  replace c4 := keepCell hb7 c4
  replace x0 := keepCell hb7 x0
  replace x1 := keepCell hb7 x1
  replace x2 := keepCell hb7 x2
  replace x3 := keepCell hb7 x3
  replace x4 := keepCell hb7 x4
  have HB7 := hid (vonto HB6.out hb7)
  have H7 := hid hb7
  clear hb7 S1 v0 v1 v2 v3 v4
  go_wp2_with fail
  go_at_call 20
  refine (S2.out _ H7.out).mono ?_
  rintro e w8 ⟨rfl, hb8⟩
  replace x0 := keepCell hb8 x0
  replace x1 := keepCell hb8 x1
  replace x2 := keepCell hb8 x2
  replace x3 := keepCell hb8 x3
  replace x4 := keepCell hb8 x4
  have HB8 := hid (vonto HB7.out hb8)
  have H8 := hid (vonto H7.out hb8)
  clear hb8 S2 c0 c1 c2 c3 c4
  go_wp2_with fail
  go_at_call 26
  refine (S3.out _ H8.out).mono ?_
  rintro e w9 ⟨rfl, hb9⟩
  have HB9 := hid (vonto HB8.out hb9)
  clear hb9
  go_wp2_with fail
  go_ret
  exact ⟨by first | rfl | exact ret_bool (by simp), HB9.out⟩
end Go.Proofs.YtkhjahpkbjafaaaGreatDoor
namespace Go.Proofs.YtkhjahpkbjafaaaGreatDoor
open Go.RowKit Go.WideShapes

set_option maxRecDepth 100000 in
theorem open_tree {H : Type} {enc : TypeId × Value → H} {w W : World} {base b : Nat} {r : Reach} {spare : Nat → Bool} {held : Bool} {v : Value} {d : DataW H} {ps : List MemPlace}
    (hv : Value.okWide Tryz.prog W r b 27 v) (h : DataW.Trod enc Tryz.prog w base spare held 27 v d ps) : ∃ (T : VT) (x y : Value), v = vv T x y ∧ HV w T x y := by
  obtain ⟨cs, rfl, -⟩ := okWide_struct Tryz.underlying27 hv
  obtain ⟨fuel, hf⟩ := h
  obtain ⟨T, x, y, hc, hT⟩ := tree_of fuel _ _ hf
  refine ⟨T, x, y, ?_, hT⟩
  have : cs.toList = [.int .i64 T.kd, .int .i64 T.nm, .string T.st, x, y] := by simpa [Value.cells] using hc
  unfold vv
  congr 1
  apply Array.ext'
  rw [this]
end Go.Proofs.YtkhjahpkbjafaaaGreatDoor
