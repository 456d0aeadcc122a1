/- value.Good, walked, with its counter. -/
import Derived.Test.YteimbjamnfkapaaGreatDoorGShelf3
import Derived.Test.YteimbjamnfkapaaGreatDoorGVBase
namespace Go.Proofs.YteimbjamnfkapaaGreatDoor
open Go.RowKit
theorem HV.over {w w' : World} {T : VT} {x y : Value} (h : HV w T x y) (hb : Below w.heap.size w w') : HV w' T x y := h.onto hb
set_option maxRecDepth 100000 in
set_option maxHeartbeats 2000000 in
theorem wgood_any : ∀ (N : Nat) (T : VT) (x y : Value) (bw : Nat) (c d : Int) (w0 w : World), szT T ≤ N → HV w0 T x y → Glob w0 → Below w0.heap.size w0 w → w0.heap.size ≤ bw → Row w bw 137 1 → w.cell? ⟨bw, 0, none⟩ = some (.int .i64 c) → 0 ≤ c ∧ c ≤ 1000000 → 1 ≤ d ∧ d ≤ 1000000 →
  Calls Tryz.prog 82 #[.pointer (some ⟨bw, 0, none⟩), vv T x y, .int .i64 d] w fun e w' => e = .returned (.bool (mayB c d T)) ∧ Chg bw (bw + 1) w w' ∧ Row w' bw 137 1 ∧ (mayB c d T = true → w'.cell? ⟨bw, 0, none⟩ = some (.int .i64 (c + szT T))) := by
 intro N
 induction N with
 | zero => intro T x y bw c d w0 w h; have := szT_pos T; omega
 | succ N ih =>
 intro T x y bw c d w0 w hN hT hg hb hbw hrow hcell hc hd
 have HTL := hid (fun i t h => szT_ls T i t h)
 have HTV := hid (fun i t h => szT_vs T i t h)
 have HT := hid hT
 have HG := hid hg
 have HB := hid hb
 obtain ⟨a, b, f, g, p, q, oL, oM, capL, capM, rfl, rfl, hl1, hl2, hL3, hM3, hK, hs, -, -, cL, cK, cM, rL, rM, -, -⟩ := hT.parts
 clear hT hb hg
 have hlt : bw < w.heap.size := hrow.lt
 have hfr := hrow.frozen
 have HROW := hid hrow
 have gn := hid (fun X (hX : Below w0.heap.size w0 X) => gnode_any T _ _ X (HG.out.on hX) (HT.out.onto hX))
 simp only [vv] at gn ⊢
 have HY := hid (fun h => good_node (c := c) (d := d) (T := T) h)
 have HYL := hid (fun h => good_ls (c := c) (d := d) (T := T) h)
 have HYV := hid (fun h => good_vs (c := c) (d := d) (T := T) h)
 have HYA := hid (fun h1 h2 h3 h4 h5 => good_all (c := c) (d := d) (T := T) h1 h2 h3 h4 h5)
 have HSZ := hid (sz_both T)
 generalize hres : mayB c d T = res at HY HYL HYV HYA ⊢
 clear hres
 generalize hL : T.ls = L at *
 generalize hV : T.vs = V at *
 generalize hKK : T.ks = K at *
 generalize szT T = zz at *
 generalize T.kd = k at *
 generalize T.nm = n at *
 generalize T.st = s at *
 clear hL hV hKK hs
 generalize hnb : nodeB T = nb at *
 clear hnb HT
 have HW1 : Hid (∀ o u, Below w0.heap.size w0 ((w.setCell ⟨bw, 0, none⟩ u).alloc o)) := fun o u => (HB.out.setCell hbw u).alloc (by have := HB.out.size; simpa using this) o
 have HCH : Hid (∀ o u, Chg bw (bw + 1) w ((w.setCell ⟨bw, 0, none⟩ u).alloc o)) := fun o u => ((Chg.refl bw (bw + 1) w).setCell (p := ⟨bw, 0, none⟩) (Or.inl (show bw ≤ bw ∧ bw < bw + 1 by omega)) u).alloc o
 have HRW : Hid (∀ o u, Row ((w.setCell ⟨bw, 0, none⟩ u).alloc o) bw 137 1) := fun o u => (HROW.out.set _ _).onto (Below.heap_alloc _ _ _ (by simpa using hlt))
 have HCW : Hid (∀ o u, ((w.setCell ⟨bw, 0, none⟩ u).alloc o).cell? ⟨bw, 0, none⟩ = some u) := fun o u => by
  rw [World.cell?_alloc_lt _ _ _ (by simpa using hlt)]
  exact set_same HROW.out (by decide) u
 have hne : ¬ bw = w.heap.size := by omega
 by_cases h1 : c + 1 > 4096
 ·have HR := hid (show res = false by
   cases res with
   | false => rfl
   | true => have := (HY.out rfl).1; omega)
  go_enter Tryz.func82, Tryz.ntmps82
  go_wp2_with fail
  go_ret
  exact ⟨ret_bool HR.out.symm, HCH.out _ _, HRW.out _ _, fun h => by rw [HR.out] at h; cases h⟩
 by_cases h2 : d > 32
 ·have HR := hid (show res = false by
   cases res with
   | false => rfl
   | true => have := (HY.out rfl).2.1; omega)
  go_enter Tryz.func82, Tryz.ntmps82
  go_wp2_with fail
  go_ret
  exact ⟨ret_bool HR.out.symm, HCH.out _ _, HRW.out _ _, fun h => by rw [HR.out] at h; cases h⟩
 cases nb with
 | false =>
  have HR := hid (show res = false by
   cases res with
   | false => rfl
   | true => exact absurd (HY.out rfl).2.2 (by decide))
  go_enter Tryz.func82, Tryz.ntmps82
  go_wp2_with (go_at_call 142; go_must (refine (gn.out _ (HW1.out _ _)).mono ?_; rintro e w1 ⟨rfl, hb1⟩))
  go_ret
  exact ⟨ret_bool HR.out.symm, (HCH.out _ _).trans (Chg.of hb1), (HRW.out _ _).onto (hb1.block _ (by simp; omega)), fun h => by rw [HR.out] at h; cases h⟩
 | true =>
  go_enter Tryz.func82, Tryz.ntmps82
  go_wp2_with fail
  go_at_call 142
  refine (gn.out _ (HW1.out _ _)).mono ?_
  rintro e w1 ⟨rfl, hb1⟩
  have HB1 := hid hb1
  obtain ⟨W1, hW1⟩ : ∃ W1, W1 = (w.setCell ⟨bw, 0, none⟩ (.int .i64 (c + 1))).alloc (.cells #[.int .i64 k, .int .i64 n, .string s, .slice oL L.length capL, .slice oM V.length capM] 29) := ⟨_, rfl⟩
  have HCHW := hid (HCH.out (.cells #[.int .i64 k, .int .i64 n, .string s, .slice oL L.length capL, .slice oM V.length capM] 29) (.int .i64 (c + 1)))
  have HRWW := hid (HRW.out (.cells #[.int .i64 k, .int .i64 n, .string s, .slice oL L.length capL, .slice oM V.length capM] 29) (.int .i64 (c + 1)))
  have HCWW := hid (HCW.out (.cells #[.int .i64 k, .int .i64 n, .string s, .slice oL L.length capL, .slice oM V.length capM] 29) (.int .i64 (c + 1)))
  have HWW := hid (HW1.out (.cells #[.int .i64 k, .int .i64 n, .string s, .slice oL L.length capL, .slice oM V.length capM] 29) (.int .i64 (c + 1)))
  have HBX3 := hid (show W1.cell? ⟨w.heap.size, 3, none⟩ = some (.slice oL L.length capL) by
   have hnew := World.cell?_alloc_new (w.setCell ⟨bw, 0, none⟩ (.int .i64 (c + 1))) #[.int .i64 k, .int .i64 n, .string s, .slice oL L.length capL, .slice oM V.length capM] 29 3
   rw [World.size_setCell] at hnew
   rw [hW1]; exact hnew)
  have HBX4 := hid (show W1.cell? ⟨w.heap.size, 4, none⟩ = some (.slice oM V.length capM) by
   have hnew := World.cell?_alloc_new (w.setCell ⟨bw, 0, none⟩ (.int .i64 (c + 1))) #[.int .i64 k, .int .i64 n, .string s, .slice oL L.length capL, .slice oM V.length capM] 29 4
   rw [World.size_setCell] at hnew
   rw [hW1]; exact hnew)
  have hWs : W1.heap.size = w.heap.size + 1 := by rw [hW1]; simp
  rw [← hW1] at HCHW HRWW HCWW HWW HB1
  clear hb1 hW1 HW1 HCH HRW HCW
  have hx3 := keepCell HB1.out HBX3.out
  have HZ : Hid (∀ X, Chg bw (bw + 1) W1 X → Below w0.heap.size w0 X) := fun X hX => HWW.out.trans (hX.below hbw HWW.out.size)
  go_wp2_with fail
  go_loopw [35] (fun i wr => ∃ j : Nat, j ≤ L.length ∧ i = .int .i64 j ∧ Hid (Chg bw (bw + 1) W1 wr) ∧ Hid (Row wr bw 137 1) ∧ Hid (wr.cell? ⟨bw, 0, none⟩ = some (.int .i64 (c + 1 + szL (L.take j)))) ∧ Hid (∀ (i : Nat) (t : VT), i < j → L[i]? = some t → d + 1 + hgT t ≤ 33 ∧ plainT t = true) ∧ c + 1 + szL (L.take j) ≤ 4096) (fun i _ => L.length - (intOf i).toNat)
  case atStart =>
   exact ⟨0, Nat.zero_le _, rfl, Chg.of HB1.out, HRWW.out.onto (HB1.out.block _ HRWW.out.lt), (keepCell HB1.out HCWW.out).trans (by simp [szL]), fun i t h => absurd h (Nat.not_lt_zero _), by simp [szL]; omega⟩
  case round =>
   obtain ⟨j, hj, rfl, HCg, HRw, HCl, HJ, hcj⟩ := hrel
   have hbw0 := HZ.out _ HCg.out
   by_cases hlt2 : j < L.length
   ·obtain ⟨t, ht⟩ : ∃ t, L[j]? = some t := ⟨L[j], List.getElem?_eq_getElem hlt2⟩
    obtain rfl := hL3 (by omega)
    obtain ⟨d0, d1, d2, d3, d4⟩ := (cL j t ht).onto hbw0
    obtain ⟨o1, n1, c1, o2, n2, c2, hp, hq⟩ := hv_slices (rL j t ht)
    have HR := hid (rL j t ht)
    rw [hp, hq] at HR
    rw [hp] at d3
    rw [hq] at d4
    have hszs := szL_take_succ L j t ht
    have hstz := HTL.out j t ht
    have HSTEP : Hid (∀ X : World, Below wr.heap.size wr X → Calls Tryz.prog 82 #[.pointer (some ⟨bw, 0, none⟩), vv t (.slice o1 n1 c1) (.slice o2 n2 c2), .int .i64 (d + 1)] X fun e w' => e = .returned (.bool (mayB (c + 1 + szL (L.take j)) (d + 1) t)) ∧ Chg bw (bw + 1) wr w' ∧ Row w' bw 137 1 ∧ (mayB (c + 1 + szL (L.take j)) (d + 1) t = true → w'.cell? ⟨bw, 0, none⟩ = some (.int .i64 (c + 1 + szL (L.take j) + szT t)))) :=
     fun X hX => (ih t _ _ bw _ (d + 1) w0 X (by omega) HR.out HG.out (hbw0.trans (hX.mono hbw0.size)) hbw (HRw.out.onto (hX.block _ HRw.out.lt)) (keepCell hX HCl.out) ⟨by omega, by omega⟩ ⟨by omega, by omega⟩).mono fun e w' ⟨h1, h2, h3, h4⟩ => ⟨h1, (Chg.of hX).trans h2, h3, h4⟩
    simp only [vv] at HSTEP
    clear hp hq
    cases hm : mayB (c + 1 + szL (L.take j)) (d + 1) t with
    | true =>
     rw [hm] at HSTEP
     have HM := hid (good_sz hm)
     clear hm
     go_wp2_with (go_at_call 82; go_must (refine (HSTEP.out _ ?_).mono ?_; (repeat (first | exact Below.refl _ _ | apply valloc_bel | (refine vset_bel ?_ (by simp)))); rintro e w2 ⟨rfl, hc2, hr2, hcl2⟩))
     go_roundw
     case rel => exact ⟨j + 1, hlt2, val_int (by omega), HCg.out.trans hc2, hr2, (hcl2 (by first | rfl | trivial)).trans (by rw [hszs]; congr 2; omega), fun i t' hi ht' => by
      by_cases hij : i = j
      ·subst hij; rw [ht] at ht'; cases ht'; exact ⟨HM.out.2.1, HM.out.2.2⟩
      ·exact HJ.out i t' (by omega) ht', by have := HM.out.1; omega⟩
     case measure => simp [intOf]; omega
    | false =>
     rw [hm] at HSTEP
     have HR0 := hid (show res = false by
      cases res with
      | false => rfl
      | true => have := HYL.out rfl j t ht; rw [hm] at this; cases this)
     clear hm
     go_wp2_with (go_at_call 82; go_must (refine (HSTEP.out _ ?_).mono ?_; (repeat (first | exact Below.refl _ _ | apply valloc_bel | (refine vset_bel ?_ (by simp)))); rintro e w2 ⟨rfl, hc2, hr2, hcl2⟩))
     go_ret
     exact ⟨ret_bool HR0.out.symm, HCHW.out.trans (HCg.out.trans hc2), hr2, fun h => by rw [HR0.out] at h; cases h⟩
   ·have hjL : j = L.length := by omega
    subst hjL
    rw [List.take_length] at hcj HCl
    have hx4 := (HCg.out.cell (p := ⟨w.heap.size, 4, none⟩) (by rw [hWs]; exact Nat.lt_succ_self _) (by show ¬ (bw ≤ w.heap.size ∧ w.heap.size < bw + 1); omega)).trans HBX4.out
    go_wp2_with fail
    clear hx4 hx3
    go_loopw [49] (fun i wr => ∃ j : Nat, j ≤ V.length ∧ i = .int .i64 j ∧ Hid (Chg bw (bw + 1) W1 wr) ∧ Hid (Row wr bw 137 1) ∧ Hid (wr.cell? ⟨bw, 0, none⟩ = some (.int .i64 (c + 1 + szL L + szL (V.take j)))) ∧ Hid (∀ (i : Nat) (t : VT), i < j → V[i]? = some t → d + 1 + hgT t ≤ 33 ∧ plainT t = true) ∧ c + 1 + szL L + szL (V.take j) ≤ 4096) (fun i _ => V.length - (intOf i).toNat)
    case atStart => exact ⟨0, Nat.zero_le _, rfl, HCg.out, HRw.out, HCl.out.trans (by simp [szL]), fun i t h => absurd h (Nat.not_lt_zero _), by simp [szL]; omega⟩
    case round =>
     have HJL := HJ
     clear hbw0 HCg HRw HCl HJ hj hlt2
     have HCJ := hid hcj
     clear hcj
     obtain ⟨j, hj, rfl, HCg, HRw, HCl, HJ, hcj⟩ := hrel
     have hbw0 := HZ.out _ HCg.out
     by_cases hlt2 : j < V.length
     ·obtain ⟨t, ht⟩ : ∃ t, V[j]? = some t := ⟨V[j], List.getElem?_eq_getElem hlt2⟩
      obtain ⟨ck, hck⟩ : ∃ c, K[j]? = some c := ⟨K[j], List.getElem?_eq_getElem (by omega)⟩
      obtain rfl := hM3 (by omega)
      have hnode := (cM j t ht).onto hbw0
      simp only [Node, nx] at hnode
      obtain ⟨d0, d1, d2, d3, d4⟩ := hnode
      have k0 := keepCell hbw0 (cK j ck hck).1
      obtain ⟨o1, n1, c1, o2, n2, c2, hp, hq⟩ := hv_slices (rM j t ht)
      have HR := hid (rM j t ht)
      rw [hp, hq] at HR
      rw [hp] at d3
      rw [hq] at d4
      have hszs := szL_take_succ V j t ht
      have hstz := HTV.out j t ht
      have HSTEP : Hid (∀ X : World, Below wr.heap.size wr X → Calls Tryz.prog 82 #[.pointer (some ⟨bw, 0, none⟩), vv t (.slice o1 n1 c1) (.slice o2 n2 c2), .int .i64 (d + 1)] X fun e w' => e = .returned (.bool (mayB (c + 1 + szL L + szL (V.take j)) (d + 1) t)) ∧ Chg bw (bw + 1) wr w' ∧ Row w' bw 137 1 ∧ (mayB (c + 1 + szL L + szL (V.take j)) (d + 1) t = true → w'.cell? ⟨bw, 0, none⟩ = some (.int .i64 (c + 1 + szL L + szL (V.take j) + szT t)))) :=
       fun X hX => (ih t _ _ bw _ (d + 1) w0 X (by omega) HR.out HG.out (hbw0.trans (hX.mono hbw0.size)) hbw (HRw.out.onto (hX.block _ HRw.out.lt)) (keepCell hX HCl.out) ⟨by omega, by omega⟩ ⟨by omega, by omega⟩).mono fun e w' ⟨h1, h2, h3, h4⟩ => ⟨h1, (Chg.of hX).trans h2, h3, h4⟩
      simp only [vv] at HSTEP
      clear hp hq
      cases hm : mayB (c + 1 + szL L + szL (V.take j)) (d + 1) t with
      | true =>
       rw [hm] at HSTEP
       have HM := hid (good_sz hm)
       clear hm
       go_wp2_with (go_at_call 82; go_must (refine (HSTEP.out _ ?_).mono ?_; (repeat (first | exact Below.refl _ _ | apply valloc_bel | (refine vset_bel ?_ (by simp)))); rintro e w2 ⟨rfl, hc2, hr2, hcl2⟩))
       go_roundw
       case rel => exact ⟨j + 1, hlt2, val_int (by omega), HCg.out.trans hc2, hr2, (hcl2 (by first | rfl | trivial)).trans (by rw [hszs]; congr 2; omega), fun i t' hi ht' => by
        by_cases hij : i = j
        ·subst hij; rw [ht] at ht'; cases ht'; exact ⟨HM.out.2.1, HM.out.2.2⟩
        ·exact HJ.out i t' (by omega) ht', by have := HM.out.1; omega⟩
       case measure => simp [intOf]; omega
      | false =>
       rw [hm] at HSTEP
       have HR0 := hid (show res = false by
        cases res with
        | false => rfl
        | true => have := HYV.out rfl j t ht; rw [hm] at this; cases this)
       clear hm
       go_wp2_with (go_at_call 82; go_must (refine (HSTEP.out _ ?_).mono ?_; (repeat (first | exact Below.refl _ _ | apply valloc_bel | (refine vset_bel ?_ (by simp)))); rintro e w2 ⟨rfl, hc2, hr2, hcl2⟩))
       go_ret
       exact ⟨ret_bool HR0.out.symm, HCHW.out.trans (HCg.out.trans hc2), hr2, fun h => by rw [HR0.out] at h; cases h⟩
     ·have hjV : j = V.length := by omega
      subst hjV
      rw [List.take_length] at hcj HCl
      have HR1 := hid (show res = true from HYA.out (by omega) hcj (by first | rfl | trivial) (fun i t h => HJL.out i t (lt_of_some h) h) (fun i t h => HJ.out i t (lt_of_some h) h))
      go_wp2_with fail
      go_ret
      exact ⟨ret_bool HR1.out.symm, HCHW.out.trans HCg.out, HRw.out, fun _ => HCl.out.trans (by rw [HSZ.out]; congr 2; omega)⟩
set_option maxRecDepth 100000 in
set_option maxHeartbeats 1000000 in
theorem vgood_any (T : VT) (x y : Value) (w : World) (hg : Glob w) (hT : HV w T x y) :
  Calls Tryz.prog 43 #[vv T x y] w fun e w' => e = .returned (.bool (mayB 0 1 T)) ∧ Below w.heap.size w w' := by
 have HT := hid hT
 have HG := hid hg
 obtain ⟨oL, nL, cL, oM, nM, cM, rfl, rfl⟩ := hv_slices hT
 have HSTEP : Hid (∀ X : World, Below w.heap.size w X → Row X (w.heap.size + 1) 137 1 → X.cell? ⟨w.heap.size + 1, 0, none⟩ = some (.int .i64 0) → Calls Tryz.prog 82 #[.pointer (some ⟨w.heap.size + 1, 0, none⟩), vv T (.slice oL nL cL) (.slice oM nM cM), .int .i64 1] X fun e w' => e = .returned (.bool (mayB 0 1 T)) ∧ Below w.heap.size w w') :=
  fun X hX hr hc => (wgood_any (szT T) T _ _ (w.heap.size + 1) 0 1 w X (Nat.le_refl _) HT.out HG.out hX (by omega) hr hc (by omega) (by omega)).mono fun e w' ⟨h1, h2, _, _⟩ => ⟨h1, hX.trans (h2.below (by omega) hX.size)⟩
 clear hT hg
 simp only [vv] at HSTEP ⊢
 have HNW : Hid (∀ o, Row ((w.alloc o).alloc (.cells #[.int .i64 0] 137)) (w.heap.size + 1) 137 1) := fun o => by
  have := Row.new (w.alloc o) #[.int .i64 0] 137
  rw [World.size_alloc] at this
  exact this
 go_enter Tryz.func43, Tryz.ntmps43
 go_wp2_with (go_at_call 82; go_must (refine (HSTEP.out _ (valloc_bel (valloc_bel (Below.refl _ _) _) _) (HNW.out _) (by simp)).mono ?_; rintro e w1 ⟨rfl, hb1⟩))
 go_ret
 exact ⟨rfl, hb1⟩
end Go.Proofs.YteimbjamnfkapaaGreatDoor
