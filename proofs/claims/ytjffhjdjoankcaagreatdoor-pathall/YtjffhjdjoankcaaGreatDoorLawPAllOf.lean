/- PathAll, walked: all paths of a tree are told, each ahead of its parts; each leads to a node; what is set there is there. -/
import Derived.Test.YtjffhjdjoankcaaGreatDoorLawOthersOf
import Derived.Test.YtjffhjdjoankcaaGreatDoorRef5F
import Derived.Test.YtjffhjdjoankcaaGreatDoorRefVal1
namespace Go.Proofs.YtjffhjdjoankcaaGreatDoor
open Go.RowKit

theorem allL_full (p : List PStep) : ∀ (r : List VT) (i : Nat), (∀ t ∈ r, ∀ q, (allT t q).length = szT t) → (allL r i p).length = szL r
  | [], i, _ => rfl
  | t :: r, i, h => by
    rw [allL, List.length_append, h t (by simp), allL_full p r (i + 1) (fun u hu => h u (by simp [hu]))]
    simp only [szL]
theorem allM_full (p : List PStep) : ∀ (r : List VT) (K : List ByteArray), (∀ t ∈ r, ∀ q, (allT t q).length = szT t) → (allM r K p).length = szL r
  | [], K, _ => rfl
  | t :: r, K, h => by
    rw [allM, List.length_append, h t (by simp), allM_full p r K.tail (fun u hu => h u (by simp [hu]))]
    simp only [szL]
theorem allT_full : ∀ (N : Nat) (T : VT), szT T ≤ N → plainT T = true → ∀ p, (allT T p).length = szT T
  | 0, T, h, _, _ => by have := szT_pos T; omega
  | N + 1, T, h, hp, p => by
    rw [← allA_eq hp]
    unfold allA
    rw [List.length_cons, List.length_append, allL_full p T.ls 0 (fun t ht q => ?_), allM_full p T.vs T.ks (fun t ht q => ?_), sz_both T]
    · omega
    · obtain ⟨i, hi⟩ := List.getElem?_of_mem ht
      have := szT_vs T i t hi
      exact allT_full N t (by omega) (plain_vs hp hi) q
    · obtain ⟨i, hi⟩ := List.getElem?_of_mem ht
      have := szT_ls T i t hi
      exact allT_full N t (by omega) (plain_ls hp hi) q
theorem got_inpp {W w : World} {v : Value} {E : List (List PStep × Value)} (h : Got W w v E) (hk : ∀ e ∈ E, ∀ s ∈ e.1, s.key.size ≤ maxLen) (h0 : 0 < E.length) : ∃ g c, v = .slice (some ⟨g, 0, none⟩) E.length c ∧ E.length ≤ c ∧ c ≤ maxLen ∧ InPP w E g := by
  obtain ⟨g, c, rfl, h1, h2, h3⟩ := own_at h.row h0
  refine ⟨g, c, rfl, h1, h2, fun i e he => ⟨h3 i e.2 (lt_of_some he) (by rw [List.getElem?_map, he]; rfl), own_inp (h.els e (List.mem_of_getElem? he)) (hk e (List.mem_of_getElem? he))⟩⟩
theorem box_put_s {wl : World} {b lo : Nat} {T : VT} {x y : Value} (h : Z5 wl b) (hb : b < lo) (hf : HS wl (fun k => lo ≤ k ∧ k < wl.heap.size) T x y) : Bx (put5 wl b 0 (.int .i64 T.kd) (.int .i64 T.nm) (.string T.st) x y) b T x y :=
  ⟨z5_put h T _ _, (hf.onto (fun k hk => put5_heap _ _ _ _ _ _ _ _ _ (by omega)) (fun k hk => hk)).hv⟩
theorem inp_nil5 (w : World) : InP w [] (.slice none 0 0) := ⟨default, ⟨none, 0, rfl, Nat.le_refl _, Nat.zero_le _, fun h => absurd h (by simp)⟩, fun i s h => by simp at h⟩
def tNew : VT := leafT 4 0 ⟨#[110, 101, 119]⟩
set_option maxRecDepth 100000 in
set_option maxHeartbeats 8000000 in
theorem pall_walk (T : VT) (x y : Value) (k : Int) (hk : (Lit.int .i64 k).wf = true) (w : World) (hg : Glob5 w) (hT : HV w T x y) :
    Calls Tryz.prog 6 #[vv T x y, .int .i64 k] w fun e w' => e = .returned (.bool true) ∧ Below w.heap.size w w' := by
  have HG := hid hg
  have HT := hid hT
  obtain ⟨o1, n1, c1, o2, n2, c2, rfl, rfl⟩ := hv_slices hT
  clear hg hT
  simp only [vv]
  go_enter Tryz.func6, Tryz.ntmps6
  go_wp2_with fail
  have b0 := bx_new HT.out 31
  have hal : Below w.heap.size w _ := valloc_bel (Below.refl w.heap.size w) (.cells #[.int .i64 T.kd, .int .i64 T.nm, .string T.st, .slice o1 n1 c1, .slice o2 n2 c2] 31)
  generalize (w.alloc (.cells #[.int .i64 T.kd, .int .i64 T.nm, .string T.st, .slice o1 n1 c1, .slice o2 n2 c2] 31)) = W at b0 hal ⊢
  go_at_call 10
  refine (pawake_any _ (HG.out.on hal)).mono ?_
  rintro e w1 ⟨rfl, hb1⟩
  have B0 := hid (b0.onto hb1)
  have H1 := hid (vonto hal hb1)
  clear hal hb1 b0 HG HT
  obtain ⟨k0, k1, k2, k3, k4⟩ := B0.out.cells
  have CH := hid (heavy_any T (.slice o1 n1 c1) (.slice o2 n2 c2) 150 32 w1 B0.out.2 (by decide) (by decide))
  simp only [vv] at CH
  go_wp2_with fail
  go_at_call 24
  refine CH.out.mono ?_
  rintro e w2 ⟨rfl, hb2⟩
  have C0 := hid (B0.out.onto hb2)
  have H2 := hid (vonto H1.out hb2)
  clear hb2 B0 H1 CH k0 k1 k2 k3 k4
  cases hfit : fitB T 32 150 with
  | false =>
    simp only [Bool.not_false]
    go_wp2_with fail
    go_ret
    exact ⟨rfl, H2.out⟩
  | true =>
  have hsz : szT T ≤ 150 := by
    unfold fitB at hfit
    have := (of_decide_eq_true hfit).2
    omega
  clear hfit
  obtain ⟨k0, k1, k2, k3, k4⟩ := C0.out.cells
  have CV := hid (rvalue_any T (.slice o1 n1 c1) (.slice o2 n2 c2) w2 C0.out.2)
  simp only [vv] at CV
  simp only [Bool.not_true]
  go_wp2_with fail
  go_at_call 25
  refine CV.out.mono ?_
  rintro e w3 ⟨rfl, hb3⟩
  have E0 := hid (C0.out.onto hb3)
  have H3 := hid (vonto H2.out hb3)
  clear hb3 C0 H2 CV k0 k1 k2 k3 k4
  cases hmay : mayB 0 1 T with
  | false =>
    go_wp2_with fail
    go_ret
    exact ⟨rfl, H3.out⟩
  | true =>
  have HPL : Hid (plainT T = true) := hid (by unfold mayB at hmay; rw [Bool.and_eq_true] at hmay; exact hmay.2)
  clear hmay
  obtain ⟨k0, k1, k2, k3, k4⟩ := E0.out.cells
  have CA := hid (pall_any T (.slice o1 n1 c1) (.slice o2 n2 c2) w3 E0.out.2 (by omega))
  simp only [vv] at CA
  go_wp2_with fail
  go_at_call 31
  refine CA.out.mono ?_
  rintro e w5 ⟨v, E, rfl, hO, hE, hM, hb5⟩
  have HWF := hid (hv_wfT (szT T) (Nat.le_refl _) E0.out.2)
  have HAS := hid (all_small HPL.out HWF.out (by omega))
  have HKS := hid (fun q hq => all_keys (szT T) (Nat.le_refl _) E0.out.2 [] q (by simp) hq)
  have HEM : Hid (∀ e ∈ E, e.1 ∈ allT T []) := hid (fun e he => by rw [← hM]; exact List.mem_map_of_mem he)
  have hlen : E.length = szT T := by rw [← allT_full (szT T) T (Nat.le_refl _) HPL.out [], ← hM, List.length_map]
  have hl0 : 0 < E.length := by rw [hlen]; exact szT_pos T
  obtain ⟨g, cl, rfl, hlc, hcm, hpp⟩ := inpp_of hO hE (fun e he => HKS.out e.1 (HEM.out e he)) hl0
  unfold maxLen at hcm
  have PP5 := hid hpp
  have F0 := hid (E0.out.onto hb5)
  have H5 := hid (vonto H3.out hb5)
  have HM := hid hM
  have HLEN := hid hlen
  clear hO hE hM hpp hb5 E0 H3 CA k0 k1 k2 k3 k4 hlen
  obtain ⟨k0, k1, k2, k3, k4⟩ := F0.out.cells
  have C5 := hid (all5_any (szT T) T (.slice o1 n1 c1) (.slice o2 n2 c2) [] (.slice none 0 0) w5 (Nat.le_refl _) HPL.out F0.out.2 (inp_nil5 w5) (by simp; omega))
  simp only [vv] at C5
  go_wp2_with fail
  go_at_call 32
  refine C5.out.mono ?_
  rintro e w6 ⟨v2, E2, rfl, got, hM2⟩
  have HM2 := hid hM2
  have hlen2 : E2.length = E.length := by rw [HLEN.out, ← allT_full (szT T) T (Nat.le_refl _) HPL.out [], ← hM2, List.length_map]
  obtain ⟨g2, cl2, rfl, hlc2, hcm2, hpp2⟩ := got_inpp got (fun e he => HKS.out e.1 (by rw [← hM2]; exact List.mem_map_of_mem he)) (by omega)
  unfold maxLen at hcm2
  have PP6 := hid (PP5.out.onto got.bel)
  have QQ6 := hid hpp2
  have G0 := hid (F0.out.onto got.bel)
  have H6 := hid (vonto H5.out got.bel)
  have HSAME : Hid (∀ (i : Nat) (a b : List PStep × Value), E[i]? = some a → E2[i]? = some b → a.1 = b.1) := hid (fun i a b ha hb => by
    have h1 : (E.map (·.1))[i]? = some a.1 := by rw [List.getElem?_map, ha]; rfl
    have h2 : (E2.map (·.1))[i]? = some b.1 := by rw [List.getElem?_map, hb]; rfl
    rw [HM.out] at h1
    rw [HM2.out, h1] at h2
    exact Option.some.inj h2)
  rw [hlen2] at hlc2 ⊢
  clear got hM2 hpp2 PP5 F0 H5 C5 k0 k1 k2 k3 k4
  obtain ⟨k0, k1, k2, k3, k4⟩ := G0.out.cells
  have CZ := hid (size_any (szT T) T (.slice o1 n1 c1) (.slice o2 n2 c2) 1000 w6 (Nat.le_refl _) G0.out.2 (by omega) (by omega))
  rw [← HLEN.out] at CZ
  simp only [vv] at CZ
  go_wp2_with fail
  go_at_call 33
  refine CZ.out.mono ?_
  rintro e w7 ⟨rfl, hb7⟩
  have PP7 := hid (PP6.out.onto hb7)
  have QQ7 := hid (QQ6.out.onto hb7)
  have D0 := hid (G0.out.onto hb7)
  have H7 := hid (vonto H6.out hb7)
  clear hb7 PP6 QQ6 G0 H6 CZ k0 k1 k2 k3 k4
  go_wp2_with fail
  go_loopw [7] (fun i wr => ∃ j : Nat, i = .int .i64 j ∧ j ≤ E.length ∧ Hid (Below w7.heap.size w7 wr)) (fun i _ => E.length - (intOf i).toNat)
  case atStart => exact ⟨0, rfl, Nat.zero_le _, Below.refl _ _⟩
  case round =>
    obtain ⟨j, rfl, hj, HBW⟩ := hrel
    by_cases hlt : j < E.length
    · obtain ⟨⟨q, vq⟩, heq⟩ : ∃ e, E[j]? = some e := ⟨E[j], List.getElem?_eq_getElem hlt⟩
      obtain ⟨⟨q2, vq2⟩, heq2⟩ : ∃ e, E2[j]? = some e := ⟨E2[j]'(by omega), List.getElem?_eq_getElem (by omega)⟩
      obtain rfl : q = q2 := HSAME.out j _ _ heq heq2
      have hqc := keepCell HBW.out (PP7.out j _ heq).1
      have hqc2 := keepCell HBW.out (QQ7.out j _ heq2).1
      have IQ := hid ((PP7.out j _ heq).2.onto HBW.out)
      have IR := hid ((QQ7.out j _ heq2).2.onto HBW.out)
      simp only at hqc hqc2 IQ IR
      obtain ⟨aq, ⟨oq, cq, rfl, -⟩, -⟩ := IQ.out
      obtain ⟨ar, ⟨or, cr, rfl, -⟩, -⟩ := IR.out
      obtain ⟨⟨tq, hgq⟩, -⟩ := HAS.out q (HEM.out _ (List.mem_of_getElem? heq))
      have HGQ := hid hgq
      clear hgq heq heq2
      obtain ⟨k0, k1, k2, k3, k4⟩ := (D0.out.onto HBW.out).cells
      have CG := hid (fun X (hX : Below wr.heap.size wr X) => pget_any T (.slice o1 n1 c1) (.slice o2 n2 c2) q _ X (D0.out.2.onto (vonto HBW.out hX)) (by omega) (IQ.out.onto hX))
      rw [HGQ.out] at CG
      simp only [vv, Option.isSome_some, Option.getD_some] at CG
      go_wp2_with fail
      go_cut [8, 9] from 39 to 67 (fun vb vo wx => ∃ b o n c o' n' c', vb = .pointer (some ⟨b, 0, none⟩) ∧ vo = .bool true ∧ Hid (Bx wx b tq (.slice o n c) (.slice o' n' c')) ∧ Hid (Below wr.heap.size wr wx))
      case first =>
        refine wp_region_h (S := fun X => Below wr.heap.size wr X) 12 (by kernel_rfl) (by kernel_rfl) ?_
        have hS0 : Below wr.heap.size wr wr.drew := (Below.refl _ _).drew
        refine take_h (i := 0) (v := ?_) rfl (by kernel_rfl) (by kernel_rfl) (by kernel_rfl) (fun _ _ _ h => h) (by rfl) ?_ hS0 ?_
        rotate_left
        · (intro X hX; have y0 := keepCell hX k0; have y1 := keepCell hX k1; have y2 := keepCell hX k2; have y3 := keepCell hX k3; have y4 := keepCell hX k4; have y5 := keepCell hX hqc; go_simp; try with_reducible rfl)
        simp only [Act.put, List.setIfInBounds_toArray, List.set_cons_zero, List.set_cons_succ]
        refine take_h (i := 1) (v := ?_) rfl (by kernel_rfl) (by kernel_rfl) (by kernel_rfl) (fun _ _ _ h => h) (by rfl) ?_ hS0 ?_
        rotate_left
        · (intro X hX; have y0 := keepCell hX k0; have y1 := keepCell hX k1; have y2 := keepCell hX k2; have y3 := keepCell hX k3; have y4 := keepCell hX k4; have y5 := keepCell hX hqc; go_simp; try with_reducible rfl)
        simp only [Act.put, List.setIfInBounds_toArray, List.set_cons_zero, List.set_cons_succ]
        refine take_h (i := 2) (v := ?_) rfl (by kernel_rfl) (by kernel_rfl) (by kernel_rfl) (fun _ _ _ h => h) (by rfl) ?_ hS0 ?_
        rotate_left
        · (intro X hX; have y0 := keepCell hX k0; have y1 := keepCell hX k1; have y2 := keepCell hX k2; have y3 := keepCell hX k3; have y4 := keepCell hX k4; have y5 := keepCell hX hqc; go_simp; try with_reducible rfl)
        simp only [Act.put, List.setIfInBounds_toArray, List.set_cons_zero, List.set_cons_succ]
        refine take_h (i := 3) (v := ?_) rfl (by kernel_rfl) (by kernel_rfl) (by kernel_rfl) (fun _ _ _ h => h) (by rfl) ?_ hS0 ?_
        rotate_left
        · (intro X hX; have y0 := keepCell hX k0; have y1 := keepCell hX k1; have y2 := keepCell hX k2; have y3 := keepCell hX k3; have y4 := keepCell hX k4; have y5 := keepCell hX hqc; go_simp; try with_reducible rfl)
        simp only [Act.put, List.setIfInBounds_toArray, List.set_cons_zero, List.set_cons_succ]
        refine take_h (i := 4) (v := ?_) rfl (by kernel_rfl) (by kernel_rfl) (by kernel_rfl) (fun _ _ _ h => h) (by rfl) ?_ hS0 ?_
        rotate_left
        · (intro X hX; have y0 := keepCell hX k0; have y1 := keepCell hX k1; have y2 := keepCell hX k2; have y3 := keepCell hX k3; have y4 := keepCell hX k4; have y5 := keepCell hX hqc; go_simp; try with_reducible rfl)
        simp only [Act.put, List.setIfInBounds_toArray, List.set_cons_zero, List.set_cons_succ]
        refine wpAnyH_ready (rs := [5, 9]) (by kernel_rfl) (by simp) ?_
        refine AllReadyH.cons rfl (fun KK hKK => ?_) (AllReadyH.cons rfl (fun KK hKK => ?_) AllReadyH.nil)
        · go_simp
          go_wp2_with (go_at_call 12; go_must (refine (CG.out _ hS0).mono ?_; rintro e wg ⟨R, X, Y, rfl, hR, hfg, hbg⟩))
          subst hR
          obtain ⟨ro1, rn1, rc1, ro2, rn2, rc2, rfl, rfl⟩ := hv_slices hfg.hv
          have hS1 := vonto hS0 hbg
          refine hKK.out _ _ hS1 (fun _ => ?_)
          clear hKK KK
          refine take_h (i := 6) (v := ?_) rfl (by kernel_rfl) (by kernel_rfl) (by kernel_rfl) (fun _ _ _ h => h) (by rfl) ?_ hS1 ?_
          rotate_left
          · (intro X hX; go_simp; try with_reducible rfl)
          simp only [Act.put, List.setIfInBounds_toArray, List.set_cons_zero, List.set_cons_succ]
          refine take_h (i := 7) (v := ?_) rfl (by kernel_rfl) (by kernel_rfl) (by kernel_rfl) (fun _ _ _ h => h) (by rfl) ?_ hS1 ?_
          rotate_left
          · (intro X hX; go_simp; try with_reducible rfl)
          simp only [Act.put, List.setIfInBounds_toArray, List.set_cons_zero, List.set_cons_succ]
          refine take_h (i := 8) (v := ?_) rfl (by kernel_rfl) (by kernel_rfl) (by kernel_rfl) (fun _ _ _ h => h) (by rfl) ?_ hS1 ?_
          rotate_left
          · (intro X hX; go_simp; try with_reducible rfl)
          simp only [Act.put, List.setIfInBounds_toArray, List.set_cons_zero, List.set_cons_succ]
          refine step_h (i := 9) rfl (by kernel_rfl) ?_
          intro KK hKK
          go_simp
          refine hKK.out _ _ (valloc_bel hS1 _) (fun _ => ?_)
          clear hKK KK
          refine step_h (i := 10) rfl (by kernel_rfl) ?_
          intro KK hKK
          go_simp
          have hS2 := valloc_bel hS1 (.cells #[.int .i64 R.kd, .int .i64 R.nm, .string R.st, .slice ro1 rn1 rc1, .slice ro2 rn2 rc2] 31)
          refine hKK.out _ _ hS2 (fun _ => ?_)
          clear hKK KK
          refine take_h (i := 11) (v := ?_) rfl (by kernel_rfl) (by kernel_rfl) (by kernel_rfl) (fun _ _ _ h => h) (by rfl) ?_ hS2 ?_
          rotate_left
          · (intro X hX; go_simp; try with_reducible rfl)
          simp only [Act.put, List.setIfInBounds_toArray, List.set_cons_zero, List.set_cons_succ]
          refine wpAnyH_done (by kernel_rfl) ?_ _
          go_wp2_with fail
          go_meet
          exact ⟨wg.heap.size, _, _, _, _, _, _, rfl, rfl, bx_new hfg.hv _, hS2⟩
        · go_simp
          have hS1 : Below wr.heap.size wr (wr.alloc (.cells #[.int .i64 0, .int .i64 0, .string ⟨#[]⟩, .slice none 0 0, .slice none 0 0] 31)).drew := (valloc_bel (Below.refl _ _) _).drew
          have hz := z5_new wr
          refine hKK.out _ _ hS1 (fun _ => ?_)
          clear hKK KK
          refine step_h (i := 5) rfl (by kernel_rfl) ?_
          intro KK hKK
          go_simp
          go_wp2_with (go_at_call 12; go_must (refine (CG.out _ hS1).mono ?_; rintro e wg ⟨R, X, Y, rfl, hR, hfg, hbg⟩))
          subst hR
          obtain ⟨ro1, rn1, rc1, ro2, rn2, rc2, rfl, rfl⟩ := hv_slices hfg.hv
          have hS2 := vonto hS1 hbg
          have hz2 : Z5 wg wr.heap.size := (hz.onto (Below.refl _ _).drew).onto hbg
          have HZ2 := hid hz2
          obtain ⟨⟨q0, q1, q2, q3, q4⟩, qf⟩ := hz2
          refine hKK.out _ _ hS2 (fun _ => ?_)
          clear hKK KK
          refine take_h (i := 6) (v := ?_) rfl (by kernel_rfl) (by kernel_rfl) (by kernel_rfl) (fun _ _ _ h => h) (by rfl) ?_ hS2 ?_
          rotate_left
          · (intro X hX; go_simp; try with_reducible rfl)
          simp only [Act.put, List.setIfInBounds_toArray, List.set_cons_zero, List.set_cons_succ]
          refine take_h (i := 7) (v := ?_) rfl (by kernel_rfl) (by kernel_rfl) (by kernel_rfl) (fun _ _ _ h => h) (by rfl) ?_ hS2 ?_
          rotate_left
          · (intro X hX; go_simp; try with_reducible rfl)
          simp only [Act.put, List.setIfInBounds_toArray, List.set_cons_zero, List.set_cons_succ]
          refine take_h (i := 8) (v := ?_) rfl (by kernel_rfl) (by kernel_rfl) (by kernel_rfl) (fun _ _ _ h => h) (by rfl) ?_ hS2 ?_
          rotate_left
          · (intro X hX; go_simp; try with_reducible rfl)
          simp only [Act.put, List.setIfInBounds_toArray, List.set_cons_zero, List.set_cons_succ]
          refine step_h (i := 10) rfl (by kernel_rfl) ?_
          intro KK hKK
          go_simp
          have hS3 := vset_bel (vset_bel (vset_bel (vset_bel (vset_bel hS2 (ad := ⟨wr.heap.size, 0, none⟩) (v := .int .i64 R.kd) (Nat.le_refl _)) (ad := ⟨wr.heap.size, 1, none⟩) (v := .int .i64 R.nm) (Nat.le_refl _)) (ad := ⟨wr.heap.size, 2, none⟩) (v := .string R.st) (Nat.le_refl _)) (ad := ⟨wr.heap.size, 3, none⟩) (v := .slice ro1 rn1 rc1) (Nat.le_refl _)) (ad := ⟨wr.heap.size, 4, none⟩) (v := .slice ro2 rn2 rc2) (Nat.le_refl _)
          refine hKK.out _ _ hS3 (fun _ => ?_)
          clear hKK KK q0 q1 q2 q3 q4 qf
          refine take_h (i := 11) (v := ?_) rfl (by kernel_rfl) (by kernel_rfl) (by kernel_rfl) (fun _ _ _ h => h) (by rfl) ?_ hS3 ?_
          rotate_left
          · (intro X hX; go_simp; try with_reducible rfl)
          simp only [Act.put, List.setIfInBounds_toArray, List.set_cons_zero, List.set_cons_succ]
          refine wpAnyH_done (by kernel_rfl) ?_ _
          go_wp2_with fail
          go_meet
          exact ⟨wr.heap.size, _, _, _, _, _, _, rfl, rfl, box_put (lo := wr.heap.size + 1) HZ2.out (by omega) (hfg.wide (by simp) (Nat.le_refl _)), hS3⟩
      case rest =>
      obtain ⟨b8, zo1, zn1, zc1, zo2, zn2, zc2, rfl, rfl, BA, HBA⟩ := hcut
      generalize wc = wA at BA HBA ⊢
      have hqA := keepCell HBA.out hqc
      have hqA2 := keepCell HBA.out hqc2
      have IQA := hid (IQ.out.onto HBA.out)
      have IRA := hid (IR.out.onto HBA.out)
      have HBB := hid (vonto HBW.out HBA.out)
      have CS := hid (fun X (hX : Below wA.heap.size wA X) => psame_any q q _ _ X (IQA.out.onto hX) (IRA.out.onto hX) true ⟨fun _ => rfl, fun _ => rfl⟩)
      clear k0 k1 k2 k3 k4 CG hqc hqc2 IQ IR HBW HBA BA
      go_wp2_with fail
      refine wp_region_h (S := fun X => Below wA.heap.size wA X) 14 (by kernel_rfl) (by kernel_rfl) ?_
      have hS0 : Below wA.heap.size wA wA.drew := (Below.refl _ _).drew
      refine take_h (i := 0) (v := ?_) rfl (by kernel_rfl) (by kernel_rfl) (by kernel_rfl) (fun _ _ _ h => h) (by rfl) ?_ hS0 ?_
      rotate_left
      · (intro X hX; have y0 := keepCell hX hqA; have y1 := keepCell hX hqA2; go_simp; try with_reducible rfl)
      simp only [Act.put, List.setIfInBounds_toArray, List.set_cons_zero, List.set_cons_succ]
      refine take_h (i := 1) (v := ?_) rfl (by kernel_rfl) (by kernel_rfl) (by kernel_rfl) (fun _ _ _ h => h) (by rfl) ?_ hS0 ?_
      rotate_left
      · (intro X hX; have y0 := keepCell hX hqA; have y1 := keepCell hX hqA2; go_simp; try with_reducible rfl)
      simp only [Act.put, List.setIfInBounds_toArray, List.set_cons_zero, List.set_cons_succ]
      refine take_h (i := 2) (v := ?_) rfl (by kernel_rfl) (by kernel_rfl) (by kernel_rfl) (fun _ _ _ h => h) (by rfl) ?_ hS0 ?_
      rotate_left
      · (intro X hX; have y0 := keepCell hX hqA; have y1 := keepCell hX hqA2; go_simp; try with_reducible rfl)
      simp only [Act.put, List.setIfInBounds_toArray, List.set_cons_zero, List.set_cons_succ]
      refine take_h (i := 3) (v := ?_) rfl (by kernel_rfl) (by kernel_rfl) (by kernel_rfl) (fun _ _ _ h => h) (by rfl) ?_ hS0 ?_
      rotate_left
      · (intro X hX; have y0 := keepCell hX hqA; have y1 := keepCell hX hqA2; go_simp; try with_reducible rfl)
      simp only [Act.put, List.setIfInBounds_toArray, List.set_cons_zero, List.set_cons_succ]
      refine take_h (i := 4) (v := ?_) rfl (by kernel_rfl) (by kernel_rfl) (by kernel_rfl) (fun _ _ _ h => h) (by rfl) ?_ hS0 ?_
      rotate_left
      · (intro X hX; have y0 := keepCell hX hqA; have y1 := keepCell hX hqA2; go_simp; try with_reducible rfl)
      simp only [Act.put, List.setIfInBounds_toArray, List.set_cons_zero, List.set_cons_succ]
      refine take_h (i := 5) (v := ?_) rfl (by kernel_rfl) (by kernel_rfl) (by kernel_rfl) (fun _ _ _ h => h) (by rfl) ?_ hS0 ?_
      rotate_left
      · (intro X hX; have y0 := keepCell hX hqA; have y1 := keepCell hX hqA2; go_simp; try with_reducible rfl)
      simp only [Act.put, List.setIfInBounds_toArray, List.set_cons_zero, List.set_cons_succ]
      refine take_h (i := 6) (v := ?_) rfl (by kernel_rfl) (by kernel_rfl) (by kernel_rfl) (fun _ _ _ h => h) (by rfl) ?_ hS0 ?_
      rotate_left
      · (intro X hX; have y0 := keepCell hX hqA; have y1 := keepCell hX hqA2; go_simp; try with_reducible rfl)
      simp only [Act.put, List.setIfInBounds_toArray, List.set_cons_zero, List.set_cons_succ]
      refine take_h (i := 7) (v := ?_) rfl (by kernel_rfl) (by kernel_rfl) (by kernel_rfl) (fun _ _ _ h => h) (by rfl) ?_ hS0 ?_
      rotate_left
      · (intro X hX; have y0 := keepCell hX hqA; have y1 := keepCell hX hqA2; go_simp; try with_reducible rfl)
      simp only [Act.put, List.setIfInBounds_toArray, List.set_cons_zero, List.set_cons_succ]
      refine step_h (i := 8) rfl (by kernel_rfl) ?_
      intro KK hKK
      go_simp
      go_wp2_with (go_at_call 21; go_must (refine (CS.out _ hS0).mono ?_; rintro e wS ⟨rfl, hbS⟩))
      have hS1 := vonto hS0 hbS
      refine hKK.out _ _ hS1 (fun _ => ?_)
      clear hKK KK
      refine take_h (i := 9) (v := ?_) rfl (by kernel_rfl) (by kernel_rfl) (by kernel_rfl) (fun _ _ _ h => h) (by rfl) ?_ hS1 ?_
      rotate_left
      · (intro X hX; go_simp; try with_reducible rfl)
      simp only [Act.put, List.setIfInBounds_toArray, List.set_cons_zero, List.set_cons_succ]
      refine take_h (i := 10) (v := ?_) rfl (by kernel_rfl) (by kernel_rfl) (by kernel_rfl) (fun _ _ _ h => h) (by rfl) ?_ hS1 ?_
      rotate_left
      · (intro X hX; go_simp; try with_reducible rfl)
      simp only [Act.put, List.setIfInBounds_toArray, List.set_cons_zero, List.set_cons_succ]
      refine take_h (i := 11) (v := ?_) rfl (by kernel_rfl) (by kernel_rfl) (by kernel_rfl) (fun _ _ _ h => h) (by rfl) ?_ hS1 ?_
      rotate_left
      · (intro X hX; go_simp; try with_reducible rfl)
      simp only [Act.put, List.setIfInBounds_toArray, List.set_cons_zero, List.set_cons_succ]
      refine take_h (i := 12) (v := ?_) rfl (by kernel_rfl) (by kernel_rfl) (by kernel_rfl) (fun _ _ _ h => h) (by rfl) ?_ hS1 ?_
      rotate_left
      · (intro X hX; go_simp; try with_reducible rfl)
      simp only [Act.put, List.setIfInBounds_toArray, List.set_cons_zero, List.set_cons_succ]
      refine take_h (i := 13) (v := ?_) rfl (by kernel_rfl) (by kernel_rfl) (by kernel_rfl) (fun _ _ _ h => h) (by rfl) ?_ hS1 ?_
      rotate_left
      · (intro X hX; go_simp; try with_reducible rfl)
      simp only [Act.put, List.setIfInBounds_toArray, List.set_cons_zero, List.set_cons_succ]
      refine wpAnyH_done (by kernel_rfl) ?_ _
      go_wp2_with fail
      go_roundw
      case rel => exact ⟨j + 1, val_int (by omega), hlt, vonto HBB.out hS1⟩
      case measure => simp [intOf]; omega
    · have PP8 := hid (PP7.out.onto HBW.out)
      have D8 := hid (D0.out.onto HBW.out)
      have H8 := hid (vonto H7.out HBW.out)
      clear PP7 QQ7 D0 H7 HBW HSAME
      by_cases hk1 : k < 0
      · go_wp2_with fail
        go_ret
        exact ⟨rfl, H8.out⟩
      by_cases hk2 : (E.length : Int) ≤ k
      · go_wp2_with fail
        go_ret
        exact ⟨rfl, H8.out⟩
      obtain ⟨m, rfl⟩ : ∃ m : Nat, k = m := ⟨k.toNat, by omega⟩
      have hm2 : m < E.length := by omega
      clear hk1 hk2 hk
      obtain ⟨⟨pk, vp⟩, hek⟩ : ∃ e, E[m]? = some e := ⟨E[m], List.getElem?_eq_getElem hm2⟩
      have hpc := (PP8.out m _ hek).1
      have IPK := hid (PP8.out m _ hek).2
      simp only at hpc IPK
      obtain ⟨ap, ⟨op, cp, rfl, -⟩, -⟩ := IPK.out
      obtain ⟨⟨t0, hgt⟩, -⟩ := HAS.out pk (HEM.out _ (List.mem_of_getElem? hek))
      have HGT := hid hgt
      have hpl : pk.length ≤ 1000000 := by have := get_len pk T t0 HGT.out; omega
      obtain ⟨k0, k1, k2, k3, k4⟩ := D8.out.cells
      have CS := hid (fun X (hX : Below wr.heap.size wr X) => pset_any T tNew (.slice o1 n1 c1) (.slice o2 n2 c2) (.slice none 0 0) (.slice none 0 0) pk _ X (D8.out.2.onto hX) (by omega) (hv_leaf X 4 0 ⟨#[110, 101, 119]⟩ (by decide) (by decide) (by decide)) (by decide) (IPK.out.onto hX) hpl)
      rw [set_there tNew HGT.out] at CS
      simp only [vv, eN, Option.getD_some, show tNew.kd = 4 from rfl, show tNew.nm = 0 from rfl, show tNew.st = ⟨#[110, 101, 119]⟩ from rfl] at CS
      clear hgt hek
      obtain ⟨TW, hTW⟩ : ∃ TW, TW = replP T pk tNew := ⟨_, rfl⟩
      have HTW := hid hTW
      rw [← hTW] at CS
      have hszW : szT TW ≤ 1000000 := by
        rw [hTW]
        have := sz_repl pk T t0 tNew HGT.out
        have : szT tNew = 1 := rfl
        omega
      clear hTW
      go_wp2_with fail
      go_cut [10, 11] from 14 (fun vb vo wx => ∃ b o n c o' n' c', vb = .pointer (some ⟨b, 0, none⟩) ∧ vo = .int .i64 0 ∧ Hid (Bx wx b TW (.slice o n c) (.slice o' n' c')) ∧ Hid (Below wr.heap.size wr wx))
      case first =>
        refine wp_region_h (S := fun X => Below wr.heap.size wr X) 13 (by kernel_rfl) (by kernel_rfl) ?_
        have hS0 : Below wr.heap.size wr wr.drew := (Below.refl _ _).drew
        refine take_h (i := 0) (v := ?_) rfl (by kernel_rfl) (by kernel_rfl) (by kernel_rfl) (fun _ _ _ h => h) (by rfl) ?_ hS0 ?_
        rotate_left
        · (intro X hX; have y0 := keepCell hX k0; have y1 := keepCell hX k1; have y2 := keepCell hX k2; have y3 := keepCell hX k3; have y4 := keepCell hX k4; have y5 := keepCell hX hpc; go_simp; try with_reducible rfl)
        simp only [Act.put, List.setIfInBounds_toArray, List.set_cons_zero, List.set_cons_succ]
        refine take_h (i := 1) (v := ?_) rfl (by kernel_rfl) (by kernel_rfl) (by kernel_rfl) (fun _ _ _ h => h) (by rfl) ?_ hS0 ?_
        rotate_left
        · (intro X hX; have y0 := keepCell hX k0; have y1 := keepCell hX k1; have y2 := keepCell hX k2; have y3 := keepCell hX k3; have y4 := keepCell hX k4; have y5 := keepCell hX hpc; go_simp; try with_reducible rfl)
        simp only [Act.put, List.setIfInBounds_toArray, List.set_cons_zero, List.set_cons_succ]
        refine take_h (i := 2) (v := ?_) rfl (by kernel_rfl) (by kernel_rfl) (by kernel_rfl) (fun _ _ _ h => h) (by rfl) ?_ hS0 ?_
        rotate_left
        · (intro X hX; have y0 := keepCell hX k0; have y1 := keepCell hX k1; have y2 := keepCell hX k2; have y3 := keepCell hX k3; have y4 := keepCell hX k4; have y5 := keepCell hX hpc; go_simp; try with_reducible rfl)
        simp only [Act.put, List.setIfInBounds_toArray, List.set_cons_zero, List.set_cons_succ]
        refine take_h (i := 3) (v := ?_) rfl (by kernel_rfl) (by kernel_rfl) (by kernel_rfl) (fun _ _ _ h => h) (by rfl) ?_ hS0 ?_
        rotate_left
        · (intro X hX; have y0 := keepCell hX k0; have y1 := keepCell hX k1; have y2 := keepCell hX k2; have y3 := keepCell hX k3; have y4 := keepCell hX k4; have y5 := keepCell hX hpc; go_simp; try with_reducible rfl)
        simp only [Act.put, List.setIfInBounds_toArray, List.set_cons_zero, List.set_cons_succ]
        refine take_h (i := 4) (v := ?_) rfl (by kernel_rfl) (by kernel_rfl) (by kernel_rfl) (fun _ _ _ h => h) (by rfl) ?_ hS0 ?_
        rotate_left
        · (intro X hX; have y0 := keepCell hX k0; have y1 := keepCell hX k1; have y2 := keepCell hX k2; have y3 := keepCell hX k3; have y4 := keepCell hX k4; have y5 := keepCell hX hpc; go_simp; try with_reducible rfl)
        simp only [Act.put, List.setIfInBounds_toArray, List.set_cons_zero, List.set_cons_succ]
        refine take_h (i := 5) (v := ?_) rfl (by kernel_rfl) (by kernel_rfl) (by kernel_rfl) (fun _ _ _ h => h) (by rfl) ?_ hS0 ?_
        rotate_left
        · (intro X hX; have y0 := keepCell hX k0; have y1 := keepCell hX k1; have y2 := keepCell hX k2; have y3 := keepCell hX k3; have y4 := keepCell hX k4; have y5 := keepCell hX hpc; go_simp; try with_reducible rfl)
        simp only [Act.put, List.setIfInBounds_toArray, List.set_cons_zero, List.set_cons_succ]
        refine wpAnyH_ready (rs := [6, 10]) (by kernel_rfl) (by simp) ?_
        refine AllReadyH.cons rfl (fun KK hKK => ?_) (AllReadyH.cons rfl (fun KK hKK => ?_) AllReadyH.nil)
        · go_simp
          go_wp2_with (go_at_call 14; go_must (refine (CS.out _ hS0).mono ?_; rintro e wg ⟨R, X, Y, rfl, hR, hfg, hbg⟩))
          subst hR
          obtain ⟨ro1, rn1, rc1, ro2, rn2, rc2, rfl, rfl⟩ := hv_slices hfg.hv
          have hS1 := vonto hS0 hbg
          refine hKK.out _ _ hS1 (fun _ => ?_)
          clear hKK KK
          refine take_h (i := 7) (v := ?_) rfl (by kernel_rfl) (by kernel_rfl) (by kernel_rfl) (fun _ _ _ h => h) (by rfl) ?_ hS1 ?_
          rotate_left
          · (intro X hX; go_simp; try with_reducible rfl)
          simp only [Act.put, List.setIfInBounds_toArray, List.set_cons_zero, List.set_cons_succ]
          refine take_h (i := 8) (v := ?_) rfl (by kernel_rfl) (by kernel_rfl) (by kernel_rfl) (fun _ _ _ h => h) (by rfl) ?_ hS1 ?_
          rotate_left
          · (intro X hX; go_simp; try with_reducible rfl)
          simp only [Act.put, List.setIfInBounds_toArray, List.set_cons_zero, List.set_cons_succ]
          refine take_h (i := 9) (v := ?_) rfl (by kernel_rfl) (by kernel_rfl) (by kernel_rfl) (fun _ _ _ h => h) (by rfl) ?_ hS1 ?_
          rotate_left
          · (intro X hX; go_simp; try with_reducible rfl)
          simp only [Act.put, List.setIfInBounds_toArray, List.set_cons_zero, List.set_cons_succ]
          refine step_h (i := 10) rfl (by kernel_rfl) ?_
          intro KK hKK
          go_simp
          refine hKK.out _ _ (valloc_bel hS1 _) (fun _ => ?_)
          clear hKK KK
          refine step_h (i := 11) rfl (by kernel_rfl) ?_
          intro KK hKK
          go_simp
          have hS2 := valloc_bel hS1 (.cells #[.int .i64 R.kd, .int .i64 R.nm, .string R.st, .slice ro1 rn1 rc1, .slice ro2 rn2 rc2] 31)
          refine hKK.out _ _ hS2 (fun _ => ?_)
          clear hKK KK
          refine take_h (i := 12) (v := ?_) rfl (by kernel_rfl) (by kernel_rfl) (by kernel_rfl) (fun _ _ _ h => h) (by rfl) ?_ hS2 ?_
          rotate_left
          · (intro X hX; go_simp; try with_reducible rfl)
          simp only [Act.put, List.setIfInBounds_toArray, List.set_cons_zero, List.set_cons_succ]
          refine wpAnyH_done (by kernel_rfl) ?_ _
          go_wp2_with fail
          go_meet
          exact ⟨wg.heap.size, _, _, _, _, _, _, rfl, rfl, bx_new hfg.hv _, hS2⟩
        · go_simp
          have hS1 : Below wr.heap.size wr (wr.alloc (.cells #[.int .i64 0, .int .i64 0, .string ⟨#[]⟩, .slice none 0 0, .slice none 0 0] 31)).drew := (valloc_bel (Below.refl _ _) _).drew
          have hz := z5_new wr
          refine hKK.out _ _ hS1 (fun _ => ?_)
          clear hKK KK
          refine step_h (i := 6) rfl (by kernel_rfl) ?_
          intro KK hKK
          go_simp
          go_wp2_with (go_at_call 14; go_must (refine (CS.out _ hS1).mono ?_; rintro e wg ⟨R, X, Y, rfl, hR, hfg, hbg⟩))
          subst hR
          obtain ⟨ro1, rn1, rc1, ro2, rn2, rc2, rfl, rfl⟩ := hv_slices hfg.hv
          have hS2 := vonto hS1 hbg
          have hz2 : Z5 wg wr.heap.size := (hz.onto (Below.refl _ _).drew).onto hbg
          have HZ2 := hid hz2
          obtain ⟨⟨q0, q1, q2, q3, q4⟩, qf⟩ := hz2
          refine hKK.out _ _ hS2 (fun _ => ?_)
          clear hKK KK
          refine take_h (i := 7) (v := ?_) rfl (by kernel_rfl) (by kernel_rfl) (by kernel_rfl) (fun _ _ _ h => h) (by rfl) ?_ hS2 ?_
          rotate_left
          · (intro X hX; go_simp; try with_reducible rfl)
          simp only [Act.put, List.setIfInBounds_toArray, List.set_cons_zero, List.set_cons_succ]
          refine take_h (i := 8) (v := ?_) rfl (by kernel_rfl) (by kernel_rfl) (by kernel_rfl) (fun _ _ _ h => h) (by rfl) ?_ hS2 ?_
          rotate_left
          · (intro X hX; go_simp; try with_reducible rfl)
          simp only [Act.put, List.setIfInBounds_toArray, List.set_cons_zero, List.set_cons_succ]
          refine take_h (i := 9) (v := ?_) rfl (by kernel_rfl) (by kernel_rfl) (by kernel_rfl) (fun _ _ _ h => h) (by rfl) ?_ hS2 ?_
          rotate_left
          · (intro X hX; go_simp; try with_reducible rfl)
          simp only [Act.put, List.setIfInBounds_toArray, List.set_cons_zero, List.set_cons_succ]
          refine step_h (i := 11) rfl (by kernel_rfl) ?_
          intro KK hKK
          go_simp
          have hS3 := vset_bel (vset_bel (vset_bel (vset_bel (vset_bel hS2 (ad := ⟨wr.heap.size, 0, none⟩) (v := .int .i64 R.kd) (Nat.le_refl _)) (ad := ⟨wr.heap.size, 1, none⟩) (v := .int .i64 R.nm) (Nat.le_refl _)) (ad := ⟨wr.heap.size, 2, none⟩) (v := .string R.st) (Nat.le_refl _)) (ad := ⟨wr.heap.size, 3, none⟩) (v := .slice ro1 rn1 rc1) (Nat.le_refl _)) (ad := ⟨wr.heap.size, 4, none⟩) (v := .slice ro2 rn2 rc2) (Nat.le_refl _)
          refine hKK.out _ _ hS3 (fun _ => ?_)
          clear hKK KK q0 q1 q2 q3 q4 qf
          refine take_h (i := 12) (v := ?_) rfl (by kernel_rfl) (by kernel_rfl) (by kernel_rfl) (fun _ _ _ h => h) (by rfl) ?_ hS3 ?_
          rotate_left
          · (intro X hX; go_simp; try with_reducible rfl)
          simp only [Act.put, List.setIfInBounds_toArray, List.set_cons_zero, List.set_cons_succ]
          refine wpAnyH_done (by kernel_rfl) ?_ _
          go_wp2_with fail
          go_meet
          exact ⟨wr.heap.size, _, _, _, _, _, _, rfl, rfl, box_put_s (lo := wr.heap.size + 1) HZ2.out (by omega) (by simpa using hfg), hS3⟩
      case rest =>
      obtain ⟨b10, xo1, xn1, xc1, xo2, xn2, xc2, rfl, rfl, BW, HBA⟩ := hcut
      generalize wc = wA at BW HBA ⊢
      have hpcA := keepCell HBA.out hpc
      have IPA := hid (IPK.out.onto HBA.out)
      have HA := hid (vonto H8.out HBA.out)
      clear k0 k1 k2 k3 k4 CS hpc IPK H8 HBA PP8 D8
      obtain ⟨k0, k1, k2, k3, k4⟩ := BW.out.cells
      have CG := hid (fun X (hX : Below wA.heap.size wA X) => pget_any TW (.slice xo1 xn1 xc1) (.slice xo2 xn2 xc2) pk _ X (BW.out.2.onto hX) hszW (IPA.out.onto hX))
      rw [show getP TW pk = some tNew by rw [HTW.out]; exact set_get tNew HGT.out] at CG
      simp only [vv, Option.isSome_some, Option.getD_some] at CG
      go_wp2_with fail
      go_cut [12, 13] from 14 (fun vb vo wx => ∃ b o n c o' n' c', vb = .pointer (some ⟨b, 0, none⟩) ∧ vo = .bool true ∧ Hid (Bx wx b tNew (.slice o n c) (.slice o' n' c')) ∧ Hid (Below wA.heap.size wA wx))
      case first =>
        refine wp_region_h (S := fun X => Below wA.heap.size wA X) 12 (by kernel_rfl) (by kernel_rfl) ?_
        have hS0 : Below wA.heap.size wA wA.drew := (Below.refl _ _).drew
        refine take_h (i := 0) (v := ?_) rfl (by kernel_rfl) (by kernel_rfl) (by kernel_rfl) (fun _ _ _ h => h) (by rfl) ?_ hS0 ?_
        rotate_left
        · (intro X hX; have y0 := keepCell hX k0; have y1 := keepCell hX k1; have y2 := keepCell hX k2; have y3 := keepCell hX k3; have y4 := keepCell hX k4; have y5 := keepCell hX hpcA; go_simp; try with_reducible rfl)
        simp only [Act.put, List.setIfInBounds_toArray, List.set_cons_zero, List.set_cons_succ]
        refine take_h (i := 1) (v := ?_) rfl (by kernel_rfl) (by kernel_rfl) (by kernel_rfl) (fun _ _ _ h => h) (by rfl) ?_ hS0 ?_
        rotate_left
        · (intro X hX; have y0 := keepCell hX k0; have y1 := keepCell hX k1; have y2 := keepCell hX k2; have y3 := keepCell hX k3; have y4 := keepCell hX k4; have y5 := keepCell hX hpcA; go_simp; try with_reducible rfl)
        simp only [Act.put, List.setIfInBounds_toArray, List.set_cons_zero, List.set_cons_succ]
        refine take_h (i := 2) (v := ?_) rfl (by kernel_rfl) (by kernel_rfl) (by kernel_rfl) (fun _ _ _ h => h) (by rfl) ?_ hS0 ?_
        rotate_left
        · (intro X hX; have y0 := keepCell hX k0; have y1 := keepCell hX k1; have y2 := keepCell hX k2; have y3 := keepCell hX k3; have y4 := keepCell hX k4; have y5 := keepCell hX hpcA; go_simp; try with_reducible rfl)
        simp only [Act.put, List.setIfInBounds_toArray, List.set_cons_zero, List.set_cons_succ]
        refine take_h (i := 3) (v := ?_) rfl (by kernel_rfl) (by kernel_rfl) (by kernel_rfl) (fun _ _ _ h => h) (by rfl) ?_ hS0 ?_
        rotate_left
        · (intro X hX; have y0 := keepCell hX k0; have y1 := keepCell hX k1; have y2 := keepCell hX k2; have y3 := keepCell hX k3; have y4 := keepCell hX k4; have y5 := keepCell hX hpcA; go_simp; try with_reducible rfl)
        simp only [Act.put, List.setIfInBounds_toArray, List.set_cons_zero, List.set_cons_succ]
        refine take_h (i := 4) (v := ?_) rfl (by kernel_rfl) (by kernel_rfl) (by kernel_rfl) (fun _ _ _ h => h) (by rfl) ?_ hS0 ?_
        rotate_left
        · (intro X hX; have y0 := keepCell hX k0; have y1 := keepCell hX k1; have y2 := keepCell hX k2; have y3 := keepCell hX k3; have y4 := keepCell hX k4; have y5 := keepCell hX hpcA; go_simp; try with_reducible rfl)
        simp only [Act.put, List.setIfInBounds_toArray, List.set_cons_zero, List.set_cons_succ]
        refine wpAnyH_ready (rs := [5, 9]) (by kernel_rfl) (by simp) ?_
        refine AllReadyH.cons rfl (fun KK hKK => ?_) (AllReadyH.cons rfl (fun KK hKK => ?_) AllReadyH.nil)
        · go_simp
          go_wp2_with (go_at_call 12; go_must (refine (CG.out _ hS0).mono ?_; rintro e wg ⟨R, X, Y, rfl, hR, hfg, hbg⟩))
          subst hR
          obtain ⟨ro1, rn1, rc1, ro2, rn2, rc2, rfl, rfl⟩ := hv_slices hfg.hv
          have hS1 := vonto hS0 hbg
          refine hKK.out _ _ hS1 (fun _ => ?_)
          clear hKK KK
          refine take_h (i := 6) (v := ?_) rfl (by kernel_rfl) (by kernel_rfl) (by kernel_rfl) (fun _ _ _ h => h) (by rfl) ?_ hS1 ?_
          rotate_left
          · (intro X hX; go_simp; try with_reducible rfl)
          simp only [Act.put, List.setIfInBounds_toArray, List.set_cons_zero, List.set_cons_succ]
          refine take_h (i := 7) (v := ?_) rfl (by kernel_rfl) (by kernel_rfl) (by kernel_rfl) (fun _ _ _ h => h) (by rfl) ?_ hS1 ?_
          rotate_left
          · (intro X hX; go_simp; try with_reducible rfl)
          simp only [Act.put, List.setIfInBounds_toArray, List.set_cons_zero, List.set_cons_succ]
          refine take_h (i := 8) (v := ?_) rfl (by kernel_rfl) (by kernel_rfl) (by kernel_rfl) (fun _ _ _ h => h) (by rfl) ?_ hS1 ?_
          rotate_left
          · (intro X hX; go_simp; try with_reducible rfl)
          simp only [Act.put, List.setIfInBounds_toArray, List.set_cons_zero, List.set_cons_succ]
          refine step_h (i := 9) rfl (by kernel_rfl) ?_
          intro KK hKK
          go_simp
          refine hKK.out _ _ (valloc_bel hS1 _) (fun _ => ?_)
          clear hKK KK
          refine step_h (i := 10) rfl (by kernel_rfl) ?_
          intro KK hKK
          go_simp
          have hS2 := valloc_bel hS1 (.cells #[.int .i64 tNew.kd, .int .i64 tNew.nm, .string tNew.st, .slice ro1 rn1 rc1, .slice ro2 rn2 rc2] 31)
          refine hKK.out _ _ hS2 (fun _ => ?_)
          clear hKK KK
          refine take_h (i := 11) (v := ?_) rfl (by kernel_rfl) (by kernel_rfl) (by kernel_rfl) (fun _ _ _ h => h) (by rfl) ?_ hS2 ?_
          rotate_left
          · (intro X hX; go_simp; try with_reducible rfl)
          simp only [Act.put, List.setIfInBounds_toArray, List.set_cons_zero, List.set_cons_succ]
          refine wpAnyH_done (by kernel_rfl) ?_ _
          go_wp2_with fail
          go_meet
          exact ⟨wg.heap.size, _, _, _, _, _, _, rfl, rfl, bx_new hfg.hv _, hS2⟩
        · go_simp
          have hS1 : Below wA.heap.size wA (wA.alloc (.cells #[.int .i64 0, .int .i64 0, .string ⟨#[]⟩, .slice none 0 0, .slice none 0 0] 31)).drew := (valloc_bel (Below.refl _ _) _).drew
          have hz := z5_new wA
          refine hKK.out _ _ hS1 (fun _ => ?_)
          clear hKK KK
          refine step_h (i := 5) rfl (by kernel_rfl) ?_
          intro KK hKK
          go_simp
          go_wp2_with (go_at_call 12; go_must (refine (CG.out _ hS1).mono ?_; rintro e wg ⟨R, X, Y, rfl, hR, hfg, hbg⟩))
          subst hR
          obtain ⟨ro1, rn1, rc1, ro2, rn2, rc2, rfl, rfl⟩ := hv_slices hfg.hv
          have hS2 := vonto hS1 hbg
          have hz2 : Z5 wg wA.heap.size := (hz.onto (Below.refl _ _).drew).onto hbg
          have HZ2 := hid hz2
          obtain ⟨⟨q0, q1, q2, q3, q4⟩, qf⟩ := hz2
          refine hKK.out _ _ hS2 (fun _ => ?_)
          clear hKK KK
          refine take_h (i := 6) (v := ?_) rfl (by kernel_rfl) (by kernel_rfl) (by kernel_rfl) (fun _ _ _ h => h) (by rfl) ?_ hS2 ?_
          rotate_left
          · (intro X hX; go_simp; try with_reducible rfl)
          simp only [Act.put, List.setIfInBounds_toArray, List.set_cons_zero, List.set_cons_succ]
          refine take_h (i := 7) (v := ?_) rfl (by kernel_rfl) (by kernel_rfl) (by kernel_rfl) (fun _ _ _ h => h) (by rfl) ?_ hS2 ?_
          rotate_left
          · (intro X hX; go_simp; try with_reducible rfl)
          simp only [Act.put, List.setIfInBounds_toArray, List.set_cons_zero, List.set_cons_succ]
          refine take_h (i := 8) (v := ?_) rfl (by kernel_rfl) (by kernel_rfl) (by kernel_rfl) (fun _ _ _ h => h) (by rfl) ?_ hS2 ?_
          rotate_left
          · (intro X hX; go_simp; try with_reducible rfl)
          simp only [Act.put, List.setIfInBounds_toArray, List.set_cons_zero, List.set_cons_succ]
          refine step_h (i := 10) rfl (by kernel_rfl) ?_
          intro KK hKK
          go_simp
          have hS3 := vset_bel (vset_bel (vset_bel (vset_bel (vset_bel hS2 (ad := ⟨wA.heap.size, 0, none⟩) (v := .int .i64 tNew.kd) (Nat.le_refl _)) (ad := ⟨wA.heap.size, 1, none⟩) (v := .int .i64 tNew.nm) (Nat.le_refl _)) (ad := ⟨wA.heap.size, 2, none⟩) (v := .string tNew.st) (Nat.le_refl _)) (ad := ⟨wA.heap.size, 3, none⟩) (v := .slice ro1 rn1 rc1) (Nat.le_refl _)) (ad := ⟨wA.heap.size, 4, none⟩) (v := .slice ro2 rn2 rc2) (Nat.le_refl _)
          refine hKK.out _ _ hS3 (fun _ => ?_)
          clear hKK KK q0 q1 q2 q3 q4 qf
          refine take_h (i := 11) (v := ?_) rfl (by kernel_rfl) (by kernel_rfl) (by kernel_rfl) (fun _ _ _ h => h) (by rfl) ?_ hS3 ?_
          rotate_left
          · (intro X hX; go_simp; try with_reducible rfl)
          simp only [Act.put, List.setIfInBounds_toArray, List.set_cons_zero, List.set_cons_succ]
          refine wpAnyH_done (by kernel_rfl) ?_ _
          go_wp2_with fail
          go_meet
          exact ⟨wA.heap.size, _, _, _, _, _, _, rfl, rfl, box_put (lo := wA.heap.size + 1) HZ2.out (by omega) (hfg.wide (by simp) (Nat.le_refl _)), hS3⟩
      case rest =>
      obtain ⟨b12, yo1, yn1, yc1, yo2, yn2, yc2, rfl, rfl, BB, HBC⟩ := hcut
      generalize wc = wB at BB HBC ⊢
      clear k0 k1 k2 k3 k4
      obtain ⟨j0, j1, j2, j3, j4⟩ := BB.out.cells
      simp only [tNew, leafT, VT.kd, VT.nm, VT.st] at j0 j1 j2
      go_wp2_with fail
      go_ret
      exact ⟨rfl, vonto HA.out HBC.out⟩
end Go.Proofs.YtjffhjdjoankcaaGreatDoor
