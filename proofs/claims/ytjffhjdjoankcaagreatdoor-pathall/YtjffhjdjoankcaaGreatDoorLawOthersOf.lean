/- PathOthers, walked: where something is set, or dropped, at a key, all that stands elsewhere stays as it was. -/
import Derived.Test.YtjffhjdjoankcaaGreatDoorLawPartsOf
import Derived.Test.YtjffhjdjoankcaaGreatDoorPathBegins
import Derived.Test.YtjffhjdjoankcaaGreatDoorMathOthers
import Derived.Test.YtjffhjdjoankcaaGreatDoorRefVal8
import Derived.Test.YtjffhjdjoankcaaGreatDoorVZero
namespace Go.Proofs.YtjffhjdjoankcaaGreatDoor
open Go.RowKit

theorem all_small {T : VT} (hp : plainT T = true) (hw : wfT T) (hz : szT T ≤ 1000000) : ∀ q ∈ allT T [], (∃ t, getP T q = some t) ∧ (∀ s ∈ q, Frm s) := by
  intro q hq
  have hl := (szT_len T).1
  obtain ⟨r, e, h1, h2⟩ := all_get (szT T) (Nat.le_refl _) hp hw (by omega) (by omega) [] q hq
  rw [List.nil_append] at e
  subst e
  exact ⟨h1, h2⟩
theorem get_len : ∀ (p : List PStep) (T t : VT), getP T p = some t → p.length + szT t ≤ szT T
  | [], T, t, h => by simp only [getP] at h; injection h with h; subst h; simp
  | s :: p, T, t, h => by
    obtain ⟨i, u, h1, h2, h3⟩ := get_head h
    have := kid_small h2
    have := get_len p u t h3
    simp only [List.length_cons]; omega
/-- the keys of a tree's paths are not too great -/
theorem all_keys {w : World} : ∀ (N : Nat) {T : VT} {x y : Value}, szT T ≤ N → HV w T x y → ∀ (p q : List PStep), (∀ s ∈ p, s.key.size ≤ maxLen) → q ∈ allT T p → ∀ s ∈ q, s.key.size ≤ maxLen
  | 0, T, x, y, hN, h, _, _, _, _ => by have := szT_pos T; omega
  | N + 1, T, x, y, hN, h, p, q, hp, hq => by
    obtain ⟨a, b, f, g, pp, qq, oL, oM, cL, cM, -, -, -, -, -, -, hK, -, -, -, -, kK, -, rL, rM, -⟩ := h.parts
    rw [allT_eq, List.mem_cons] at hq
    rcases hq with rfl | hq
    · exact hp
    · split at hq
      · obtain ⟨j, t, h1, h2⟩ := mem_allL _ _ _ _ hq
        have hs := szT_ls T j t h1
        refine all_keys N (by omega) (rL j t h1) _ _ (fun s hs => ?_) h2
        rcases List.mem_append.1 hs with h | h
        · exact hp s h
        · rw [List.mem_singleton.1 h]; exact Nat.zero_le _
      · split at hq
        · obtain ⟨j, t, c, h1, hc, h2⟩ := mem_allM _ _ _ _ hK hq
          have hs := szT_vs T j t h1
          refine all_keys N (by omega) (rM j t h1) _ _ (fun s hs => ?_) h2
          rcases List.mem_append.1 hs with h | h
          · exact hp s h
          · rw [List.mem_singleton.1 h]; exact (kK j c hc).2
        · simp at hq
/-- all paths of a tree, each in memory -/
def InPP (w : World) (E : List (List PStep × Value)) (g : Nat) : Prop := ∀ (i : Nat) (e : List PStep × Value), E[i]? = some e → w.cell? ⟨g, i, none⟩ = some e.2 ∧ InP w e.1 e.2
theorem InPP.onto {w w' : World} {E : List (List PStep × Value)} {g : Nat} (h : InPP w E g) (hb : Below w.heap.size w w') : InPP w' E g := fun i e he => ⟨keepCell hb (h i e he).1, (h i e he).2.onto hb⟩
theorem inpp_of {W w : World} {v : Value} {E : List (List PStep × Value)} (h : OwnP W w v E) (hE : ∀ e ∈ E, OwnS W w e.2 e.1) (hk : ∀ e ∈ E, ∀ s ∈ e.1, s.key.size ≤ maxLen) (h0 : 0 < E.length) : ∃ g c, v = .slice (some ⟨g, 0, none⟩) E.length c ∧ E.length ≤ c ∧ c ≤ maxLen ∧ InPP w E g := by
  obtain ⟨g, c, rfl, h1, h2, h3⟩ := own_at h h0
  refine ⟨g, c, rfl, h1, h2, fun i e he => ⟨h3 i e.2 (lt_of_some he) (by rw [List.getElem?_map, he]; rfl), own_inp (hE e (List.mem_of_getElem? he)) (hk e (List.mem_of_getElem? he))⟩⟩
set_option maxRecDepth 100000 in
set_option maxHeartbeats 8000000 in
theorem pothers_walk (T Tx : VT) (x y x' y' : Value) (k : Int) (hk : (Lit.int .i64 k).wf = true) (w : World) (hg : Glob5 w) (hT : HV w T x y) (hX : HV w Tx x' y') :
    Calls Tryz.prog 8 #[vv T x y, .int .i64 k, vv Tx x' y'] w fun e w' => e = .returned (.bool true) ∧ Below w.heap.size w w' := by
  have HG := hid hg
  have HT := hid hT
  have HX := hid hX
  obtain ⟨o1, n1, c1, o2, n2, c2, rfl, rfl⟩ := hv_slices hT
  obtain ⟨o3, n3, c3, o4, n4, c4, rfl, rfl⟩ := hv_slices hX
  clear hg hT hX
  simp only [vv]
  go_enter Tryz.func8, Tryz.ntmps8
  go_wp2_with fail
  have b0 := (bx_new HT.out 31).onto (valloc_bel (Below.refl _ _) (.cells #[.int .i64 Tx.kd, .int .i64 Tx.nm, .string Tx.st, .slice o3 n3 c3, .slice o4 n4 c4] 31))
  have b1 := bx_new (HX.out.onto (valloc_bel (Below.refl _ _) (.cells #[.int .i64 T.kd, .int .i64 T.nm, .string T.st, .slice o1 n1 c1, .slice o2 n2 c2] 31))) 31
  rw [World.size_alloc] at b1
  have hal : Below w.heap.size w _ := valloc_bel (valloc_bel (Below.refl w.heap.size w) (.cells #[.int .i64 T.kd, .int .i64 T.nm, .string T.st, .slice o1 n1 c1, .slice o2 n2 c2] 31)) (.cells #[.int .i64 Tx.kd, .int .i64 Tx.nm, .string Tx.st, .slice o3 n3 c3, .slice o4 n4 c4] 31)
  generalize ((w.alloc (.cells #[.int .i64 T.kd, .int .i64 T.nm, .string T.st, .slice o1 n1 c1, .slice o2 n2 c2] 31)).alloc (.cells #[.int .i64 Tx.kd, .int .i64 Tx.nm, .string Tx.st, .slice o3 n3 c3, .slice o4 n4 c4] 31)) = W at b0 b1 hal ⊢
  go_at_call 10
  refine (pawake_any _ (HG.out.on hal)).mono ?_
  rintro e w1 ⟨rfl, hb1⟩
  have B0 := hid (b0.onto hb1)
  have B1 := hid (b1.onto hb1)
  have H1 := hid (vonto hal hb1)
  clear hal hb1 b0 b1 HG HT HX
  obtain ⟨k0, k1, k2, k3, k4⟩ := B0.out.cells
  have CH := hid (heavy_any T (.slice o1 n1 c1) (.slice o2 n2 c2) 80 32 w1 B0.out.2 (by decide) (by decide))
  simp only [vv] at CH
  go_wp2_with fail
  go_at_call 24
  refine CH.out.mono ?_
  rintro e w2 ⟨rfl, hb2⟩
  have C0 := hid (B0.out.onto hb2)
  have C1 := hid (B1.out.onto hb2)
  have H2 := hid (vonto H1.out hb2)
  clear hb2 B0 B1 H1 CH k0 k1 k2 k3 k4
  cases hfit : fitB T 32 80 with
  | false =>
    simp only [Bool.not_false]
    go_wp2_with fail
    go_ret
    exact ⟨rfl, H2.out⟩
  | true =>
  have hsz : szT T ≤ 80 := by
    unfold fitB at hfit
    have := (of_decide_eq_true hfit).2
    omega
  clear hfit
  obtain ⟨k0, k1, k2, k3, k4⟩ := C0.out.cells
  have CV := hid (rvalue_any T (.slice o1 n1 c1) (.slice o2 n2 c2) w2 C0.out.2)
  simp only [vv] at CV
  simp only [Bool.not_true]
  go_wp2_with fail
  go_at_call 25
  refine CV.out.mono ?_
  rintro e w3 ⟨rfl, hb3⟩
  have D0 := hid (C0.out.onto hb3)
  have D1 := hid (C1.out.onto hb3)
  have H3 := hid (vonto H2.out hb3)
  clear hb3 C0 C1 H2 CV k0 k1 k2 k3 k4
  cases hmay : mayB 0 1 T with
  | false =>
    go_wp2_with fail
    go_ret
    exact ⟨rfl, H3.out⟩
  | true =>
  have HPL : Hid (plainT T = true) := hid (by unfold mayB at hmay; rw [Bool.and_eq_true] at hmay; exact hmay.2)
  clear hmay
  obtain ⟨k0, k1, k2, k3, k4⟩ := D1.out.cells
  have CH := hid (heavy_any Tx (.slice o3 n3 c3) (.slice o4 n4 c4) 30 32 w3 D1.out.2 (by decide) (by decide))
  simp only [vv] at CH
  go_wp2_with fail
  go_at_call 24
  refine CH.out.mono ?_
  rintro e w4 ⟨rfl, hb4⟩
  have E0 := hid (D0.out.onto hb4)
  have E1 := hid (D1.out.onto hb4)
  have H4 := hid (vonto H3.out hb4)
  clear hb4 D0 D1 H3 CH k0 k1 k2 k3 k4
  cases hfit : fitB Tx 32 30 with
  | false =>
    simp only [Bool.not_false]
    go_wp2_with fail
    go_ret
    exact ⟨rfl, H4.out⟩
  | true =>
  have hszX : szT Tx ≤ 30 := by
    unfold fitB at hfit
    have := (of_decide_eq_true hfit).2
    omega
  clear hfit
  obtain ⟨k0, k1, k2, k3, k4⟩ := E0.out.cells
  have CA := hid (pall_any T (.slice o1 n1 c1) (.slice o2 n2 c2) w4 E0.out.2 (by omega))
  simp only [vv] at CA
  simp only [Bool.not_true]
  go_wp2_with fail
  go_at_call 31
  refine CA.out.mono ?_
  rintro e w5 ⟨v, E, rfl, hO, hE, hM, hb5⟩
  have HWF := hid (hv_wfT (szT T) (Nat.le_refl _) E0.out.2)
  have HAS := hid (all_small HPL.out HWF.out (by omega))
  have HKS := hid (fun q hq => all_keys (szT T) (Nat.le_refl _) E0.out.2 [] q (by simp) hq)
  have HEM : Hid (∀ e ∈ E, e.1 ∈ allT T []) := hid (fun e he => by rw [← hM]; exact List.mem_map_of_mem he)
  have hlen : E.length = (allT T []).length := by rw [← hM, List.length_map]
  have hl0 : 0 < E.length := by rw [hlen, allT_eq]; simp
  obtain ⟨g, cl, rfl, hlc, hcm, hpp⟩ := inpp_of hO hE (fun e he => HKS.out e.1 (HEM.out e he)) hl0
  unfold maxLen at hcm
  have PP5 := hid hpp
  have F0 := hid (E0.out.onto hb5)
  have F1 := hid (E1.out.onto hb5)
  have H5 := hid (vonto H4.out hb5)
  have HM := hid hM
  clear hO hE hM hlen hpp hb5 E0 E1 H4 CA k0 k1 k2 k3 k4
  by_cases hk1 : k < 1
  · go_wp2_with fail
    go_ret
    exact ⟨rfl, H5.out⟩
  by_cases hk2 : (E.length : Int) ≤ k
  · go_wp2_with fail
    go_ret
    exact ⟨rfl, H5.out⟩
  obtain ⟨m, rfl⟩ : ∃ m : Nat, k = m := ⟨k.toNat, by omega⟩
  have hm1 : 1 ≤ m := by omega
  have hm2 : m < E.length := by omega
  clear hk1 hk2 hk
  obtain ⟨⟨pk, vp⟩, hek⟩ : ∃ e, E[m]? = some e := ⟨E[m], List.getElem?_eq_getElem hm2⟩
  have hpc := (PP5.out m _ hek).1
  have IPK := hid (PP5.out m _ hek).2
  simp only at hpc IPK
  obtain ⟨ap, ⟨op, cp, rfl, hp1, hp2, hp3⟩, -⟩ := IPK.out
  unfold maxLen at hp2
  obtain ⟨⟨t0, hgt⟩, hfrm⟩ := HAS.out pk (HEM.out _ (List.mem_of_getElem? hek))
  have HGT := hid hgt
  have HFRM := hid hfrm
  have hpk : pk ≠ [] := by
    have hmk : (allT T [])[m]? = some pk := by rw [← HM.out, List.getElem?_map, hek]; rfl
    exact all_ne ((wfT_eq T).1 HWF.out).1 hm1 hmk (fun t p q hq => allT_pre (szT t) t (Nat.le_refl _) p q hq)
  have hpl : pk.length ≤ 1000000 := by have := get_len pk T t0 HGT.out; omega
  obtain ⟨k0, k1, k2, k3, k4⟩ := F0.out.cells
  obtain ⟨j0, j1, j2, j3, j4⟩ := F1.out.cells
  have CS := hid (pset_any T Tx (.slice o1 n1 c1) (.slice o2 n2 c2) (.slice o3 n3 c3) (.slice o4 n4 c4) pk _ w5 F0.out.2 (by omega) F1.out.2 (by omega) IPK.out hpl)
  rw [set_there Tx HGT.out] at CS
  simp only [vv, eN, Option.getD_some] at CS
  clear hgt hfrm hek
  go_wp2_with fail
  go_at_call 14
  refine CS.out.mono ?_
  rintro e w6 ⟨TW, X, Y, rfl, hTW, hf6, hb6⟩
  have hszW : szT TW ≤ 1000000 := by
    rw [hTW]
    have := sz_repl pk T t0 Tx HGT.out
    omega
  obtain ⟨xo1, xn1, xc1, xo2, xn2, xc2, rfl, rfl⟩ := hv_slices hf6.hv
  have HTW := hid hTW
  have hal := valloc_bel (Below.refl w6.heap.size w6) (.cells #[.int .i64 TW.kd, .int .i64 TW.nm, .string TW.st, .slice xo1 xn1 xc1, .slice xo2 xn2 xc2] 31)
  have BW := hid (bx_new hf6.hv 31)
  have G0 := hid ((F0.out.onto hb6).onto hal)
  have PP6 := hid ((PP5.out.onto hb6).onto hal)
  have IPK6 := hid ((IPK.out.onto hb6).onto hal)
  have H6 := hid (vonto (vonto H5.out hb6) hal)
  clear hTW hf6 hb6 hal F0 F1 PP5 IPK H5 CS k0 k1 k2 k3 k4 j0 j1 j2 j3 j4 hpc
  go_wp2_with fail
  generalize (w6.alloc (.cells #[.int .i64 TW.kd, .int .i64 TW.nm, .string TW.st, .slice xo1 xn1 xc1, .slice xo2 xn2 xc2] 31)) = W6 at BW G0 PP6 IPK6 H6 ⊢
  generalize w6.heap.size = b9 at BW ⊢
  go_loopw [11] (fun i wr => ∃ j : Nat, i = .int .i64 j ∧ j ≤ E.length ∧ Hid (Below W6.heap.size W6 wr)) (fun i _ => E.length - (intOf i).toNat)
  case atStart => exact ⟨0, rfl, Nat.zero_le _, Below.refl _ _⟩
  case round =>
    obtain ⟨j, rfl, hj, HBW⟩ := hrel
    by_cases hlt : j < E.length
    · obtain ⟨⟨q, vq⟩, heq⟩ : ∃ e, E[j]? = some e := ⟨E[j], List.getElem?_eq_getElem hlt⟩
      have hqc := keepCell HBW.out (PP6.out j _ heq).1
      have IQ := hid ((PP6.out j _ heq).2.onto HBW.out)
      have IP := hid (IPK6.out.onto HBW.out)
      simp only at hqc IQ
      obtain ⟨aq, ⟨oq, cq, rfl, hq1, hq2, hq3⟩, -⟩ := IQ.out
      obtain ⟨⟨tq, hgq⟩, hfq⟩ := HAS.out q (HEM.out _ (List.mem_of_getElem? heq))
      have HGQ := hid hgq
      have HFQ := hid hfq
      clear hq1 hq2 hq3 hgq hfq heq
      go_wp2_with fail
      go_at_call 34
      by_cases h1 : pk <+: q
      · refine (begins_any q pk _ _ _ IQ.out IP.out true ⟨fun _ => h1, fun _ => rfl⟩).mono ?_
        rintro e w8 ⟨rfl, hb8⟩
        go_wp2_with fail
        go_roundw
        case rel => exact ⟨j + 1, val_int (by omega), hlt, vonto HBW.out hb8⟩
        case measure => simp [intOf]; omega
      refine (begins_any q pk _ _ _ IQ.out IP.out false ⟨fun h => (by cases h), fun h => absurd h h1⟩).mono ?_
      rintro e w8 ⟨rfl, hb8⟩
      have hqc8 := keepCell hb8 hqc
      have IQ8 := hid (IQ.out.onto hb8)
      have IP8 := hid (IP.out.onto hb8)
      have HB8 := hid (vonto HBW.out hb8)
      clear hb8 hqc IQ IP HBW
      go_wp2_with fail
      go_at_call 34
      by_cases h2 : q <+: pk
      · refine (begins_any pk q _ _ _ IP8.out IQ8.out true ⟨fun _ => h2, fun _ => rfl⟩).mono ?_
        rintro e w9 ⟨rfl, hb9⟩
        go_wp2_with fail
        go_roundw
        case rel => exact ⟨j + 1, val_int (by omega), hlt, vonto HB8.out hb9⟩
        case measure => simp [intOf]; omega
      refine (begins_any pk q _ _ _ IP8.out IQ8.out false ⟨fun h => (by cases h), fun h => absurd h h2⟩).mono ?_
      rintro e w9 ⟨rfl, hb9⟩
      have hqc9 := keepCell hb9 hqc8
      have IQ9 := hid (IQ8.out.onto hb9)
      have HB9 := hid (vonto HB8.out hb9)
      have HAP : Hid (getP TW q = some tq) := hid (by rw [HTW.out]; exact (get_apart pk q T t0 Tx HFRM.out HFQ.out HGT.out h1 h2).trans HGQ.out)
      clear hb9 hqc8 IQ8 IP8 HB8 h1 h2
      obtain ⟨k0, k1, k2, k3, k4⟩ := (G0.out.onto HB9.out).cells
      have CG := hid (fun X (hX : Below w9.heap.size w9 X) => pget_any T (.slice o1 n1 c1) (.slice o2 n2 c2) q _ X (G0.out.2.onto (vonto HB9.out hX)) (by omega) (IQ9.out.onto hX))
      rw [HGQ.out] at CG
      simp only [vv, Option.isSome_some, Option.getD_some] at CG
      go_wp2_with fail
      go_cut [12, 13] from 56 to 101 (fun vb vo wx => ∃ b o n c o' n' c', vb = .pointer (some ⟨b, 0, none⟩) ∧ vo = .bool true ∧ Hid (Bx wx b tq (.slice o n c) (.slice o' n' c')) ∧ Hid (Below w9.heap.size w9 wx))
      case first =>
        refine wp_region_h (S := fun X => Below w9.heap.size w9 X) 12 (by kernel_rfl) (by kernel_rfl) ?_
        have hS0 : Below w9.heap.size w9 w9.drew := (Below.refl _ _).drew
        refine take_h (i := 0) (v := ?_) rfl (by kernel_rfl) (by kernel_rfl) (by kernel_rfl) (fun _ _ _ h => h) (by rfl) ?_ hS0 ?_
        rotate_left
        · (intro X hX; have y0 := keepCell hX k0; have y1 := keepCell hX k1; have y2 := keepCell hX k2; have y3 := keepCell hX k3; have y4 := keepCell hX k4; have y5 := keepCell hX hqc9; go_simp; try with_reducible rfl)
        simp only [Act.put, List.setIfInBounds_toArray, List.set_cons_zero, List.set_cons_succ]
        refine take_h (i := 1) (v := ?_) rfl (by kernel_rfl) (by kernel_rfl) (by kernel_rfl) (fun _ _ _ h => h) (by rfl) ?_ hS0 ?_
        rotate_left
        · (intro X hX; have y0 := keepCell hX k0; have y1 := keepCell hX k1; have y2 := keepCell hX k2; have y3 := keepCell hX k3; have y4 := keepCell hX k4; have y5 := keepCell hX hqc9; go_simp; try with_reducible rfl)
        simp only [Act.put, List.setIfInBounds_toArray, List.set_cons_zero, List.set_cons_succ]
        refine take_h (i := 2) (v := ?_) rfl (by kernel_rfl) (by kernel_rfl) (by kernel_rfl) (fun _ _ _ h => h) (by rfl) ?_ hS0 ?_
        rotate_left
        · (intro X hX; have y0 := keepCell hX k0; have y1 := keepCell hX k1; have y2 := keepCell hX k2; have y3 := keepCell hX k3; have y4 := keepCell hX k4; have y5 := keepCell hX hqc9; go_simp; try with_reducible rfl)
        simp only [Act.put, List.setIfInBounds_toArray, List.set_cons_zero, List.set_cons_succ]
        refine take_h (i := 3) (v := ?_) rfl (by kernel_rfl) (by kernel_rfl) (by kernel_rfl) (fun _ _ _ h => h) (by rfl) ?_ hS0 ?_
        rotate_left
        · (intro X hX; have y0 := keepCell hX k0; have y1 := keepCell hX k1; have y2 := keepCell hX k2; have y3 := keepCell hX k3; have y4 := keepCell hX k4; have y5 := keepCell hX hqc9; go_simp; try with_reducible rfl)
        simp only [Act.put, List.setIfInBounds_toArray, List.set_cons_zero, List.set_cons_succ]
        refine take_h (i := 4) (v := ?_) rfl (by kernel_rfl) (by kernel_rfl) (by kernel_rfl) (fun _ _ _ h => h) (by rfl) ?_ hS0 ?_
        rotate_left
        · (intro X hX; have y0 := keepCell hX k0; have y1 := keepCell hX k1; have y2 := keepCell hX k2; have y3 := keepCell hX k3; have y4 := keepCell hX k4; have y5 := keepCell hX hqc9; go_simp; try with_reducible rfl)
        simp only [Act.put, List.setIfInBounds_toArray, List.set_cons_zero, List.set_cons_succ]
        refine wpAnyH_ready (rs := [5, 9]) (by kernel_rfl) (by simp) ?_
        refine AllReadyH.cons rfl (fun KK hKK => ?_) (AllReadyH.cons rfl (fun KK hKK => ?_) AllReadyH.nil)
        · go_simp
          go_wp2_with (go_at_call 12; go_must (refine (CG.out _ hS0).mono ?_; rintro e wg ⟨R, X, Y, rfl, hR, hfg, hbg⟩))
          subst hR
          obtain ⟨ro1, rn1, rc1, ro2, rn2, rc2, rfl, rfl⟩ := hv_slices hfg.hv
          have hS1 := vonto hS0 hbg
          refine hKK.out _ _ hS1 (fun _ => ?_)
          clear hKK KK
          refine take_h (i := 6) (v := ?_) rfl (by kernel_rfl) (by kernel_rfl) (by kernel_rfl) (fun _ _ _ h => h) (by rfl) ?_ hS1 ?_
          rotate_left
          · (intro X hX; go_simp; try with_reducible rfl)
          simp only [Act.put, List.setIfInBounds_toArray, List.set_cons_zero, List.set_cons_succ]
          refine take_h (i := 7) (v := ?_) rfl (by kernel_rfl) (by kernel_rfl) (by kernel_rfl) (fun _ _ _ h => h) (by rfl) ?_ hS1 ?_
          rotate_left
          · (intro X hX; go_simp; try with_reducible rfl)
          simp only [Act.put, List.setIfInBounds_toArray, List.set_cons_zero, List.set_cons_succ]
          refine take_h (i := 8) (v := ?_) rfl (by kernel_rfl) (by kernel_rfl) (by kernel_rfl) (fun _ _ _ h => h) (by rfl) ?_ hS1 ?_
          rotate_left
          · (intro X hX; go_simp; try with_reducible rfl)
          simp only [Act.put, List.setIfInBounds_toArray, List.set_cons_zero, List.set_cons_succ]
          refine step_h (i := 9) rfl (by kernel_rfl) ?_
          intro KK hKK
          go_simp
          refine hKK.out _ _ (valloc_bel hS1 _) (fun _ => ?_)
          clear hKK KK
          refine step_h (i := 10) rfl (by kernel_rfl) ?_
          intro KK hKK
          go_simp
          have hS2 := valloc_bel hS1 (.cells #[.int .i64 R.kd, .int .i64 R.nm, .string R.st, .slice ro1 rn1 rc1, .slice ro2 rn2 rc2] 31)
          refine hKK.out _ _ hS2 (fun _ => ?_)
          clear hKK KK
          refine take_h (i := 11) (v := ?_) rfl (by kernel_rfl) (by kernel_rfl) (by kernel_rfl) (fun _ _ _ h => h) (by rfl) ?_ hS2 ?_
          rotate_left
          · (intro X hX; go_simp; try with_reducible rfl)
          simp only [Act.put, List.setIfInBounds_toArray, List.set_cons_zero, List.set_cons_succ]
          refine wpAnyH_done (by kernel_rfl) ?_ _
          go_wp2_with fail
          go_meet
          exact ⟨wg.heap.size, _, _, _, _, _, _, rfl, rfl, bx_new hfg.hv _, hS2⟩
        · go_simp
          have hS1 : Below w9.heap.size w9 (w9.alloc (.cells #[.int .i64 0, .int .i64 0, .string ⟨#[]⟩, .slice none 0 0, .slice none 0 0] 31)).drew := (valloc_bel (Below.refl _ _) _).drew
          have hz := z5_new w9
          refine hKK.out _ _ hS1 (fun _ => ?_)
          clear hKK KK
          refine step_h (i := 5) rfl (by kernel_rfl) ?_
          intro KK hKK
          go_simp
          go_wp2_with (go_at_call 12; go_must (refine (CG.out _ hS1).mono ?_; rintro e wg ⟨R, X, Y, rfl, hR, hfg, hbg⟩))
          subst hR
          obtain ⟨ro1, rn1, rc1, ro2, rn2, rc2, rfl, rfl⟩ := hv_slices hfg.hv
          have hS2 := vonto hS1 hbg
          have hz2 : Z5 wg w9.heap.size := (hz.onto (Below.refl _ _).drew).onto hbg
          have HZ2 := hid hz2
          obtain ⟨⟨q0, q1, q2, q3, q4⟩, qf⟩ := hz2
          refine hKK.out _ _ hS2 (fun _ => ?_)
          clear hKK KK
          refine take_h (i := 6) (v := ?_) rfl (by kernel_rfl) (by kernel_rfl) (by kernel_rfl) (fun _ _ _ h => h) (by rfl) ?_ hS2 ?_
          rotate_left
          · (intro X hX; go_simp; try with_reducible rfl)
          simp only [Act.put, List.setIfInBounds_toArray, List.set_cons_zero, List.set_cons_succ]
          refine take_h (i := 7) (v := ?_) rfl (by kernel_rfl) (by kernel_rfl) (by kernel_rfl) (fun _ _ _ h => h) (by rfl) ?_ hS2 ?_
          rotate_left
          · (intro X hX; go_simp; try with_reducible rfl)
          simp only [Act.put, List.setIfInBounds_toArray, List.set_cons_zero, List.set_cons_succ]
          refine take_h (i := 8) (v := ?_) rfl (by kernel_rfl) (by kernel_rfl) (by kernel_rfl) (fun _ _ _ h => h) (by rfl) ?_ hS2 ?_
          rotate_left
          · (intro X hX; go_simp; try with_reducible rfl)
          simp only [Act.put, List.setIfInBounds_toArray, List.set_cons_zero, List.set_cons_succ]
          refine step_h (i := 10) rfl (by kernel_rfl) ?_
          intro KK hKK
          go_simp
          have hS3 := vset_bel (vset_bel (vset_bel (vset_bel (vset_bel hS2 (ad := ⟨w9.heap.size, 0, none⟩) (v := .int .i64 R.kd) (Nat.le_refl _)) (ad := ⟨w9.heap.size, 1, none⟩) (v := .int .i64 R.nm) (Nat.le_refl _)) (ad := ⟨w9.heap.size, 2, none⟩) (v := .string R.st) (Nat.le_refl _)) (ad := ⟨w9.heap.size, 3, none⟩) (v := .slice ro1 rn1 rc1) (Nat.le_refl _)) (ad := ⟨w9.heap.size, 4, none⟩) (v := .slice ro2 rn2 rc2) (Nat.le_refl _)
          refine hKK.out _ _ hS3 (fun _ => ?_)
          clear hKK KK q0 q1 q2 q3 q4 qf
          refine take_h (i := 11) (v := ?_) rfl (by kernel_rfl) (by kernel_rfl) (by kernel_rfl) (fun _ _ _ h => h) (by rfl) ?_ hS3 ?_
          rotate_left
          · (intro X hX; go_simp; try with_reducible rfl)
          simp only [Act.put, List.setIfInBounds_toArray, List.set_cons_zero, List.set_cons_succ]
          refine wpAnyH_done (by kernel_rfl) ?_ _
          go_wp2_with fail
          go_meet
          exact ⟨w9.heap.size, _, _, _, _, _, _, rfl, rfl, box_put (lo := w9.heap.size + 1) HZ2.out (by omega) (hfg.wide (by simp) (Nat.le_refl _)), hS3⟩
      case rest =>
      obtain ⟨b12, zo1, zn1, zc1, zo2, zn2, zc2, rfl, rfl, BA, HBA⟩ := hcut
      generalize wc = wA at BA HBA ⊢
      have hqcA := keepCell HBA.out hqc9
      have HBB := hid (vonto HB9.out HBA.out)
      have IQA := hid (IQ9.out.onto HBA.out)
      clear k0 k1 k2 k3 k4 CG hqc9 IQ9 HB9 HBA
      obtain ⟨k0, k1, k2, k3, k4⟩ := (BW.out.onto HBB.out).cells
      have CG := hid (fun X (hX : Below wA.heap.size wA X) => pget_any TW (.slice xo1 xn1 xc1) (.slice xo2 xn2 xc2) q _ X (BW.out.2.onto (vonto HBB.out hX)) hszW (IQA.out.onto hX))
      rw [HAP.out] at CG
      simp only [vv, Option.isSome_some, Option.getD_some] at CG
      go_wp2_with fail
      go_cut [14, 15] from 56 to 101 (fun vb vo wx => ∃ b o n c o' n' c', vb = .pointer (some ⟨b, 0, none⟩) ∧ vo = .bool true ∧ Hid (Bx wx b tq (.slice o n c) (.slice o' n' c')) ∧ Hid (Below wA.heap.size wA wx))
      case first =>
        refine wp_region_h (S := fun X => Below wA.heap.size wA X) 12 (by kernel_rfl) (by kernel_rfl) ?_
        have hS0 : Below wA.heap.size wA wA.drew := (Below.refl _ _).drew
        refine take_h (i := 0) (v := ?_) rfl (by kernel_rfl) (by kernel_rfl) (by kernel_rfl) (fun _ _ _ h => h) (by rfl) ?_ hS0 ?_
        rotate_left
        · (intro X hX; have y0 := keepCell hX k0; have y1 := keepCell hX k1; have y2 := keepCell hX k2; have y3 := keepCell hX k3; have y4 := keepCell hX k4; have y5 := keepCell hX hqcA; go_simp; try with_reducible rfl)
        simp only [Act.put, List.setIfInBounds_toArray, List.set_cons_zero, List.set_cons_succ]
        refine take_h (i := 1) (v := ?_) rfl (by kernel_rfl) (by kernel_rfl) (by kernel_rfl) (fun _ _ _ h => h) (by rfl) ?_ hS0 ?_
        rotate_left
        · (intro X hX; have y0 := keepCell hX k0; have y1 := keepCell hX k1; have y2 := keepCell hX k2; have y3 := keepCell hX k3; have y4 := keepCell hX k4; have y5 := keepCell hX hqcA; go_simp; try with_reducible rfl)
        simp only [Act.put, List.setIfInBounds_toArray, List.set_cons_zero, List.set_cons_succ]
        refine take_h (i := 2) (v := ?_) rfl (by kernel_rfl) (by kernel_rfl) (by kernel_rfl) (fun _ _ _ h => h) (by rfl) ?_ hS0 ?_
        rotate_left
        · (intro X hX; have y0 := keepCell hX k0; have y1 := keepCell hX k1; have y2 := keepCell hX k2; have y3 := keepCell hX k3; have y4 := keepCell hX k4; have y5 := keepCell hX hqcA; go_simp; try with_reducible rfl)
        simp only [Act.put, List.setIfInBounds_toArray, List.set_cons_zero, List.set_cons_succ]
        refine take_h (i := 3) (v := ?_) rfl (by kernel_rfl) (by kernel_rfl) (by kernel_rfl) (fun _ _ _ h => h) (by rfl) ?_ hS0 ?_
        rotate_left
        · (intro X hX; have y0 := keepCell hX k0; have y1 := keepCell hX k1; have y2 := keepCell hX k2; have y3 := keepCell hX k3; have y4 := keepCell hX k4; have y5 := keepCell hX hqcA; go_simp; try with_reducible rfl)
        simp only [Act.put, List.setIfInBounds_toArray, List.set_cons_zero, List.set_cons_succ]
        refine take_h (i := 4) (v := ?_) rfl (by kernel_rfl) (by kernel_rfl) (by kernel_rfl) (fun _ _ _ h => h) (by rfl) ?_ hS0 ?_
        rotate_left
        · (intro X hX; have y0 := keepCell hX k0; have y1 := keepCell hX k1; have y2 := keepCell hX k2; have y3 := keepCell hX k3; have y4 := keepCell hX k4; have y5 := keepCell hX hqcA; go_simp; try with_reducible rfl)
        simp only [Act.put, List.setIfInBounds_toArray, List.set_cons_zero, List.set_cons_succ]
        refine wpAnyH_ready (rs := [5, 9]) (by kernel_rfl) (by simp) ?_
        refine AllReadyH.cons rfl (fun KK hKK => ?_) (AllReadyH.cons rfl (fun KK hKK => ?_) AllReadyH.nil)
        · go_simp
          go_wp2_with (go_at_call 12; go_must (refine (CG.out _ hS0).mono ?_; rintro e wg ⟨R, X, Y, rfl, hR, hfg, hbg⟩))
          subst hR
          obtain ⟨ro1, rn1, rc1, ro2, rn2, rc2, rfl, rfl⟩ := hv_slices hfg.hv
          have hS1 := vonto hS0 hbg
          refine hKK.out _ _ hS1 (fun _ => ?_)
          clear hKK KK
          refine take_h (i := 6) (v := ?_) rfl (by kernel_rfl) (by kernel_rfl) (by kernel_rfl) (fun _ _ _ h => h) (by rfl) ?_ hS1 ?_
          rotate_left
          · (intro X hX; go_simp; try with_reducible rfl)
          simp only [Act.put, List.setIfInBounds_toArray, List.set_cons_zero, List.set_cons_succ]
          refine take_h (i := 7) (v := ?_) rfl (by kernel_rfl) (by kernel_rfl) (by kernel_rfl) (fun _ _ _ h => h) (by rfl) ?_ hS1 ?_
          rotate_left
          · (intro X hX; go_simp; try with_reducible rfl)
          simp only [Act.put, List.setIfInBounds_toArray, List.set_cons_zero, List.set_cons_succ]
          refine take_h (i := 8) (v := ?_) rfl (by kernel_rfl) (by kernel_rfl) (by kernel_rfl) (fun _ _ _ h => h) (by rfl) ?_ hS1 ?_
          rotate_left
          · (intro X hX; go_simp; try with_reducible rfl)
          simp only [Act.put, List.setIfInBounds_toArray, List.set_cons_zero, List.set_cons_succ]
          refine step_h (i := 9) rfl (by kernel_rfl) ?_
          intro KK hKK
          go_simp
          refine hKK.out _ _ (valloc_bel hS1 _) (fun _ => ?_)
          clear hKK KK
          refine step_h (i := 10) rfl (by kernel_rfl) ?_
          intro KK hKK
          go_simp
          have hS2 := valloc_bel hS1 (.cells #[.int .i64 R.kd, .int .i64 R.nm, .string R.st, .slice ro1 rn1 rc1, .slice ro2 rn2 rc2] 31)
          refine hKK.out _ _ hS2 (fun _ => ?_)
          clear hKK KK
          refine take_h (i := 11) (v := ?_) rfl (by kernel_rfl) (by kernel_rfl) (by kernel_rfl) (fun _ _ _ h => h) (by rfl) ?_ hS2 ?_
          rotate_left
          · (intro X hX; go_simp; try with_reducible rfl)
          simp only [Act.put, List.setIfInBounds_toArray, List.set_cons_zero, List.set_cons_succ]
          refine wpAnyH_done (by kernel_rfl) ?_ _
          go_wp2_with fail
          go_meet
          exact ⟨wg.heap.size, _, _, _, _, _, _, rfl, rfl, bx_new hfg.hv _, hS2⟩
        · go_simp
          have hS1 : Below wA.heap.size wA (wA.alloc (.cells #[.int .i64 0, .int .i64 0, .string ⟨#[]⟩, .slice none 0 0, .slice none 0 0] 31)).drew := (valloc_bel (Below.refl _ _) _).drew
          have hz := z5_new wA
          refine hKK.out _ _ hS1 (fun _ => ?_)
          clear hKK KK
          refine step_h (i := 5) rfl (by kernel_rfl) ?_
          intro KK hKK
          go_simp
          go_wp2_with (go_at_call 12; go_must (refine (CG.out _ hS1).mono ?_; rintro e wg ⟨R, X, Y, rfl, hR, hfg, hbg⟩))
          subst hR
          obtain ⟨ro1, rn1, rc1, ro2, rn2, rc2, rfl, rfl⟩ := hv_slices hfg.hv
          have hS2 := vonto hS1 hbg
          have hz2 : Z5 wg wA.heap.size := (hz.onto (Below.refl _ _).drew).onto hbg
          have HZ2 := hid hz2
          obtain ⟨⟨q0, q1, q2, q3, q4⟩, qf⟩ := hz2
          refine hKK.out _ _ hS2 (fun _ => ?_)
          clear hKK KK
          refine take_h (i := 6) (v := ?_) rfl (by kernel_rfl) (by kernel_rfl) (by kernel_rfl) (fun _ _ _ h => h) (by rfl) ?_ hS2 ?_
          rotate_left
          · (intro X hX; go_simp; try with_reducible rfl)
          simp only [Act.put, List.setIfInBounds_toArray, List.set_cons_zero, List.set_cons_succ]
          refine take_h (i := 7) (v := ?_) rfl (by kernel_rfl) (by kernel_rfl) (by kernel_rfl) (fun _ _ _ h => h) (by rfl) ?_ hS2 ?_
          rotate_left
          · (intro X hX; go_simp; try with_reducible rfl)
          simp only [Act.put, List.setIfInBounds_toArray, List.set_cons_zero, List.set_cons_succ]
          refine take_h (i := 8) (v := ?_) rfl (by kernel_rfl) (by kernel_rfl) (by kernel_rfl) (fun _ _ _ h => h) (by rfl) ?_ hS2 ?_
          rotate_left
          · (intro X hX; go_simp; try with_reducible rfl)
          simp only [Act.put, List.setIfInBounds_toArray, List.set_cons_zero, List.set_cons_succ]
          refine step_h (i := 10) rfl (by kernel_rfl) ?_
          intro KK hKK
          go_simp
          have hS3 := vset_bel (vset_bel (vset_bel (vset_bel (vset_bel hS2 (ad := ⟨wA.heap.size, 0, none⟩) (v := .int .i64 R.kd) (Nat.le_refl _)) (ad := ⟨wA.heap.size, 1, none⟩) (v := .int .i64 R.nm) (Nat.le_refl _)) (ad := ⟨wA.heap.size, 2, none⟩) (v := .string R.st) (Nat.le_refl _)) (ad := ⟨wA.heap.size, 3, none⟩) (v := .slice ro1 rn1 rc1) (Nat.le_refl _)) (ad := ⟨wA.heap.size, 4, none⟩) (v := .slice ro2 rn2 rc2) (Nat.le_refl _)
          refine hKK.out _ _ hS3 (fun _ => ?_)
          clear hKK KK q0 q1 q2 q3 q4 qf
          refine take_h (i := 11) (v := ?_) rfl (by kernel_rfl) (by kernel_rfl) (by kernel_rfl) (fun _ _ _ h => h) (by rfl) ?_ hS3 ?_
          rotate_left
          · (intro X hX; go_simp; try with_reducible rfl)
          simp only [Act.put, List.setIfInBounds_toArray, List.set_cons_zero, List.set_cons_succ]
          refine wpAnyH_done (by kernel_rfl) ?_ _
          go_wp2_with fail
          go_meet
          exact ⟨wA.heap.size, _, _, _, _, _, _, rfl, rfl, box_put (lo := wA.heap.size + 1) HZ2.out (by omega) (hfg.wide (by simp) (Nat.le_refl _)), hS3⟩
      case rest =>
      obtain ⟨b14, yo1, yn1, yc1, yo2, yn2, yc2, rfl, rfl, BB, HBC⟩ := hcut
      generalize wc = wB at BB HBC ⊢
      have BA2 := hid (BA.out.onto HBC.out)
      have HBD := hid (vonto HBB.out HBC.out)
      clear k0 k1 k2 k3 k4 CG hqcA IQA HBB HBC BA
      obtain ⟨k0, k1, k2, k3, k4⟩ := BA2.out.cells
      obtain ⟨j0, j1, j2, j3, j4⟩ := BB.out.cells
      have CS := hid (same_any _ tq tq _ _ _ _ false wB (Nat.le_refl _) BA2.out.2 BB.out.2)
      rw [like_self tq] at CS
      simp only [vv] at CS
      go_wp2_with fail
      go_at_call 28
      refine CS.out.mono ?_
      rintro e wS ⟨rfl, hbS⟩
      clear k0 k1 k2 k3 k4 j0 j1 j2 j3 j4
      go_wp2_with fail
      go_roundw
      case rel => exact ⟨j + 1, val_int (by omega), hlt, vonto HBD.out hbS⟩
      case measure => simp [intOf]; omega
    · obtain ⟨r, s, hrs⟩ : ∃ r s, pk = r ++ [s] := by
        rcases List.eq_nil_or_concat pk with h | ⟨r, s, h⟩
        · exact absurd h hpk
        · exact ⟨r, s, by rw [h, List.concat_eq_append]⟩
      have HRS := hid hrs
      have IP := hid (IPK6.out.onto HBW.out)
      have BWr := hid (BW.out.onto HBW.out)
      obtain ⟨k0, k1, k2, k3, k4⟩ := BWr.out.cells
      obtain ⟨Y, hY⟩ : ∃ Y, dropP TW pk = some Y := by rw [HTW.out, hrs]; exact dropped_some (by rw [← hrs]; exact HGT.out)
      have HDY := hid hY
      have hszY : szT Y ≤ 1000000 := by have := sz_drop hY; omega
      have CD := hid (pdrop_any TW (.slice xo1 xn1 xc1) (.slice xo2 xn2 xc2) pk _ wr BWr.out.2 hszW IP.out hpl)
      rw [hY] at CD
      simp only [vv, eN, Option.getD_some] at CD
      clear hY hrs
      go_wp2_with fail
      go_at_call 15
      refine CD.out.mono ?_
      rintro e w8 ⟨R, X, Z, rfl, hR, hf8, hb8⟩
      subst hR
      obtain ⟨do1, dn1, dc1, do2, dn2, dc2, rfl, rfl⟩ := hv_slices hf8.hv
      have hal := valloc_bel (Below.refl w8.heap.size w8) (.cells #[.int .i64 R.kd, .int .i64 R.nm, .string R.st, .slice do1 dn1 dc1, .slice do2 dn2 dc2] 31)
      have BY := hid (bx_new hf8.hv 31)
      have IP8 := hid ((IP.out.onto hb8).onto hal)
      have H8 := hid (vonto H6.out (vonto HBW.out (vonto hb8 hal)))
      clear hf8 hb8 hal CD k0 k1 k2 k3 k4 IP BWr HBW
      obtain ⟨k0, k1, k2, k3, k4⟩ := BY.out.cells
      go_wp2_with fail
      generalize (w8.alloc (.cells #[.int .i64 R.kd, .int .i64 R.nm, .string R.st, .slice do1 dn1 dc1, .slice do2 dn2 dc2] 31)) = W8 at BY IP8 H8 k0 k1 k2 k3 k4 ⊢
      generalize w8.heap.size = b16 at BY k0 k1 k2 k3 k4 ⊢
      have CG := hid (pget_any R (.slice do1 dn1 dc1) (.slice do2 dn2 dc2) pk _ W8 BY.out.2 hszY IP8.out)
      simp only [vv] at CG
      have hlr : pk.length = r.length + 1 := by rw [HRS.out]; simp
      have hps : pk[r.length]? = some s := by rw [HRS.out]; simp
      obtain rfl := hp3 (by omega)
      have GONE : Hid (s.place = false → getP R pk = none) := hid (fun hs => by
        obtain ⟨Y', h1, h2⟩ := dropped_gone (x := Tx) HPL.out (by rw [← HRS.out]; exact HGT.out) hs
        rw [← HRS.out, ← HTW.out, HDY.out] at h1
        injection h1 with h1
        subst h1
        rw [HRS.out]; exact h2)
      go_at_call 12
      refine CG.out.mono ?_
      rintro e w9 ⟨R2, X, Z, rfl, hR2, hf9, hb9⟩
      obtain ⟨eo1, en1, ec1, eo2, en2, ec2, rfl, rfl⟩ := hv_slices hf9.hv
      have hal := valloc_bel (Below.refl w9.heap.size w9) (.cells #[.int .i64 R2.kd, .int .i64 R2.nm, .string R2.st, .slice eo1 en1 ec1, .slice eo2 en2 ec2] 31)
      have IP9 := (IP8.out.onto hb9).onto hal
      have H9 := hid (vonto H8.out (vonto hb9 hal))
      obtain ⟨l0, l1, l2⟩ := inp_at IP9 (i := r.length) hps
      clear hf9 hb9 hal hR2 CG k0 k1 k2 k3 k4 BY IP8 H8 IP9 hps l0 l1
      rw [hlr] at hp1 ⊢
      cases hpl : s.place with
      | true =>
        rw [hpl] at l2
        clear GONE
        generalize (getP R pk).isSome = bo
        go_wp2_with fail
        go_ret
        exact ⟨rfl, H9.out⟩
      | false =>
        rw [hpl] at l2
        rw [GONE.out hpl]
        simp only [Option.isSome_none]
        go_wp2_with fail
        go_ret
        exact ⟨rfl, H9.out⟩
end Go.Proofs.YtjffhjdjoankcaaGreatDoor
