/- The document's own likeness of trees, walked: Same. -/
import Derived.Test.YteimbjamnfkapaaGreatDoorCVSameT
import Derived.Deep.LoopGhost
import Derived.Test.YteimbjamnfkapaaGreatDoorCRefDec
import Derived.Test.YteimbjamnfkapaaGreatDoorCOrders
namespace Go.Proofs.YteimbjamnfkapaaGreatDoor
open Go.RowKit
set_option maxRecDepth 100000 in
set_option maxHeartbeats 2000000 in
theorem same_any : ∀ (N : Nat) (T U : VT) (x y x' y' : Value) (lo : Bool) (w : World), szT T ≤ N → HV w T x y → HV w U x' y' →
  Calls Tryz.prog 16 #[vv T x y, vv U x' y', .bool lo] w fun e w' => e = .returned (.bool (sameT lo T U)) ∧ Below w.heap.size w w' := by
 intro N
 induction N with
 | zero => intro T U x y x' y' lo w h; have := szT_pos T; omega
 | succ N ih =>
 intro T U x y x' y' lo w hN hT hU
 have HTL := hid (fun i t h => szT_ls T i t h)
 have HTV := hid (fun i t h => szT_vs T i t h)
 have HE := hid (sameT_eq lo T U)
 obtain ⟨a, b, f, g, p, q, oL, oM, capL, capM, rfl, rfl, hl1, hl2, hL3, hM3, hK, hs, -, -, cL, cK, cM, rL, rM, -, -⟩ := hT.parts
 obtain ⟨a', b', f', g', p', q', oL', oM', capL', capM', rfl, rfl, hl1', hl2', hL3', hM3', hK', hs', -, -, cL', cK', cM', rL', rM', -, -⟩ := hU.parts
 clear hT hU
 obtain ⟨k, hk⟩ : ∃ k, T.kd = k := ⟨_, rfl⟩
 obtain ⟨n, hn⟩ : ∃ n, T.nm = n := ⟨_, rfl⟩
 obtain ⟨s, hst⟩ : ∃ s, T.st = s := ⟨_, rfl⟩
 obtain ⟨k', hk'⟩ : ∃ k, U.kd = k := ⟨_, rfl⟩
 obtain ⟨n', hn'⟩ : ∃ n, U.nm = n := ⟨_, rfl⟩
 obtain ⟨s', hst'⟩ : ∃ s, U.st = s := ⟨_, rfl⟩
 obtain ⟨L, hL⟩ : ∃ L, T.ls = L := ⟨_, rfl⟩
 obtain ⟨V, hV⟩ : ∃ L, T.vs = L := ⟨_, rfl⟩
 obtain ⟨K, hKK⟩ : ∃ L, T.ks = L := ⟨_, rfl⟩
 obtain ⟨L', hL'⟩ : ∃ L, U.ls = L := ⟨_, rfl⟩
 obtain ⟨V', hV'⟩ : ∃ L, U.vs = L := ⟨_, rfl⟩
 obtain ⟨K', hKK'⟩ : ∃ L, U.ks = L := ⟨_, rfl⟩
 simp only [vv]
 rw [hk, hn, hst, hk', hn', hst', hL, hV, hKK, hL', hV', hKK'] at HE
 rw [hL] at hl1 hL3 cL rL HTL ⊢
 rw [hV] at hl2 hM3 hK cM rM HTV ⊢
 rw [hKK] at hK cK
 rw [hL'] at hl1' hL3' cL' rL' ⊢
 rw [hV'] at hl2' hM3' hK' cM' rM' ⊢
 rw [hKK'] at hK' cK'
 rw [hst] at hs
 rw [hst'] at hs'
 rw [hk, hn, hst, hk', hn', hst']
 generalize sameT lo T U = res at HE ⊢
 generalize szT T = zz at HTL HTV hN
 clear hk hn hst hk' hn' hst' hL hV hKK hL' hV' hKK'
 by_cases hlab : k = k' ∧ n = n' ∧ L.length = L'.length ∧ V.length = V'.length
 ·obtain ⟨rfl, rfl, e3, e4⟩ := hlab
  have HR := hid (show res = (strB lo k s s' && sameL lo L L' && decide (K = K') && sameL lo V V') by
   rw [HE.out, decide_eq_true (show k = k ∧ n = n ∧ L.length = L'.length ∧ V.length = V'.length from ⟨rfl, rfl, e3, e4⟩)]; rfl)
  have t3 : ((L.length : Int) != (L'.length : Int)) = false := by rw [e3]; simp
  have t4 : ((V.length : Int) != (V'.length : Int)) = false := by rw [e4]; simp
  have E3 := hid e3
  have E4 := hid e4
  have hs9 : s.size ≤ maxLen := hs
  have hs9' : s'.size ≤ maxLen := hs'
  have HS := hid hs9
  have HS' := hid hs9'
  have hbase : Below w.heap.size w ((w.alloc (.cells #[.int .i64 k, .int .i64 n, .string s, .slice oL L.length capL, .slice oM V.length capM] 29)).alloc (.cells #[.int .i64 k, .int .i64 n, .string s', .slice oL' L'.length capL', .slice oM' V'.length capM'] 29)) := ((Below.refl _ _).alloc (Nat.le_refl _) _).alloc (by simp) _
  clear e3 e4 hs hs' hs9 hs9' HE
  go_enter Tryz.func16, Tryz.ntmps16
  go_upto_region 3 with fail
  go_cut [60] from 9 (fun v wx => v = .bool (!strB lo k s s') ∧ wx = ((w.alloc (.cells #[.int .i64 k, .int .i64 n, .string s, .slice oL L.length capL, .slice oM V.length capM] 29)).alloc (.cells #[.int .i64 k, .int .i64 n, .string s', .slice oL' L'.length capL', .slice oM' V'.length capM'] 29)))
  case first =>
   by_cases h1 : s = s'
   ·have t1 : (s.toList == s'.toList) = true := by rw [h1]; simp
    have H := hid (show strB lo k s s' = true by unfold strB; rw [decide_eq_true h1]; rfl)
    clear h1
    go_wp2_with fail
    go_meet
    exact ⟨by rw [H.out]; rfl, rfl⟩
   ·have t1 := str_ne s s' h1
    cases lo with
    | false =>
     have H := hid (show strB false k s s' = false by unfold strB; rw [decide_eq_false h1]; rfl)
     clear h1
     go_wp2_with fail
     go_meet
     exact ⟨by rw [H.out]; rfl, rfl⟩
    | true =>
     by_cases h3 : k = 3
     ·have t2 : (k == 3) = true := by rw [h3]; rfl
      obtain ⟨z, hz⟩ : ∃ z, cmpI s.data.toList s'.data.toList = z := ⟨_, rfl⟩
      have HZ := hid hz
      by_cases h4 : z = 0
      ·have t5 : (z == 0) = true := by rw [h4]; rfl
       have H := hid (show strB true k s s' = true by unfold strB; rw [decide_eq_false h1, decide_eq_true h3, hz, decide_eq_true h4]; rfl)
       clear h1 h3 h4 hz
       go_wp2_with (go_at_call 46; go_must (refine (cmp_any _ _ _ HS.out HS'.out).mono ?_; rintro e w' ⟨rfl, hw⟩; obtain rfl := hw.symm; rw [HZ.out]))
       go_meet
       exact ⟨by rw [H.out]; rfl, rfl⟩
      ·have t5 : (z == 0) = false := by simpa using h4
       have H := hid (show strB true k s s' = false by unfold strB; rw [decide_eq_false h1, decide_eq_true h3, hz, decide_eq_false h4]; rfl)
       clear h1 h3 h4 hz
       go_wp2_with (go_at_call 46; go_must (refine (cmp_any _ _ _ HS.out HS'.out).mono ?_; rintro e w' ⟨rfl, hw⟩; obtain rfl := hw.symm; rw [HZ.out]))
       go_meet
       exact ⟨by rw [H.out]; rfl, rfl⟩
     ·have t2 : (k == 3) = false := by simpa using h3
      have H := hid (show strB true k s s' = false by unfold strB; rw [decide_eq_false h1, decide_eq_false h3]; rfl)
      clear h1 h3
      go_wp2_with fail
      go_meet
      exact ⟨by rw [H.out]; rfl, rfl⟩
  case rest =>
  obtain ⟨rfl, rfl⟩ := hcut
  cases hstr : strB lo k s s' with
  | false =>
   have HF := hid (show res = false by rw [HR.out, hstr]; rfl)
   go_wp2_with fail
   go_ret
   exact ⟨ret_bool HF.out.symm, hbase⟩
  | true =>
  go_wp2_with fail
  go_loopw [7] (fun i wr => ∃ j : Nat, j ≤ L.length ∧ i = .int .i64 j ∧ Hid (∀ (i : Nat) (t u : VT), i < j → L[i]? = some t → L'[i]? = some u → sameT lo t u = true) ∧ Below (w.heap.size + 2) ((w.alloc (.cells #[.int .i64 k, .int .i64 n, .string s, .slice oL L.length capL, .slice oM V.length capM] 29)).alloc (.cells #[.int .i64 k, .int .i64 n, .string s', .slice oL' L'.length capL', .slice oM' V'.length capM'] 29)) wr) (fun i _ => L.length - (intOf i).toNat)
  case atStart => exact ⟨0, Nat.zero_le _, rfl, fun i t u h => absurd h (by omega), Below.refl _ _⟩
  case round =>
   obtain ⟨j, hj, rfl, HJ, hbel⟩ := hrel
   have hbw : Below w.heap.size w wr := hbase.trans (hbel.mono (by omega))
   have hB3 := box2_cell w wr _ _ _ _ _ _ _ hbel 3 _ rfl
   have hB4 := box2_cell w wr _ _ _ _ _ _ _ hbel 4 _ rfl
   by_cases hlt : j < L.length
   ·obtain ⟨t, ht⟩ : ∃ t, L[j]? = some t := ⟨L[j], List.getElem?_eq_getElem hlt⟩
    have hlt' : j < L'.length := by have := E3.out; omega
    obtain ⟨u, hu⟩ : ∃ t, L'[j]? = some t := ⟨L'[j], List.getElem?_eq_getElem hlt'⟩
    obtain rfl := hL3 (by omega)
    obtain rfl := hL3' (by omega)
    have hC3 := box2_next w wr _ _ _ _ _ _ _ hbel 3 _ rfl
    have A1 := above_cell hB3
    have A2 := above_cell hC3
    obtain ⟨d0, d1, d2, d3, d4⟩ := (cL j t ht).onto hbw
    obtain ⟨e0, e1, e2, e3, e4⟩ := (cL' j u hu).onto hbw
    have D0 := above_cell d0; have D1 := above_cell d1; have D2 := above_cell d2; have D3 := above_cell d3; have D4 := above_cell d4
    have F0 := above_cell e0; have F1 := above_cell e1; have F2 := above_cell e2; have F3 := above_cell e3; have F4 := above_cell e4
    have HT' := hid ((rL j t ht).onto hbw)
    have HU' := hid ((rL' j u hu).onto hbw)
    have hzt := HTL.out j t ht
    have HSTEP := hid (fun X : Abv wr => ih t u (f j) (g j) (f' j) (g' j) lo X.u (by omega) (HT'.out.onto X.h) (HU'.out.onto X.h))
    simp only [vv] at HSTEP
    cases hq : sameT lo t u with
    | true =>
     rw [hq] at HSTEP
     go_wp2_with fail
     have hinh := abv_some wr
     refine wp_region_above (by kernel_rfl) (by kernel_rfl) ?_
     repeat (go_big_quiet_step ((go_at_call 16; exact above_of (HSTEP.out _))))
     refine wpQuiet_nil ?_
     intro _ hw'
     obtain ⟨X, hX⟩ := hw'
     subst hX
     go_wp2_with fail
     refine ⟨?_, ?_⟩
     ·repeat apply Exists.intro
      exact ⟨⟨j + 1, hlt, val_int (by omega), fun i t' u' hi h1 h2 => by
       by_cases hij : i = j
       ·subst hij
        rw [ht] at h1; rw [hu] at h2; cases h1; cases h2; exact hq
       ·exact HJ.out i t' u' (by omega) h1 h2, hbel.trans (X.h.mono (by have := hbel.size; simp at this; omega))⟩, rfl⟩
     ·simp [intOf]; omega
    | false =>
     rw [hq] at HSTEP
     have HF := hid (show res = false by
      rw [HR.out]
      have : sameL lo L L' = false := by
       rw [Bool.eq_false_iff]; intro hc
       have := (sameL_get lo L L' E3.out).1 hc j t u ht hu
       rw [hq] at this; cases this
      rw [this]; simp)
     go_wp2_with fail
     have hinh := abv_some wr
     refine wp_region_above (by kernel_rfl) (by kernel_rfl) ?_
     repeat (go_big_quiet_step ((go_at_call 16; exact above_of (HSTEP.out _))))
     refine wpQuiet_nil ?_
     intro _ hw'
     obtain ⟨X, hX⟩ := hw'
     subst hX
     go_wp2_with fail
     go_ret
     exact ⟨ret_bool HF.out.symm, hbw.trans (X.h.mono hbw.size)⟩
   ·have HLL := hid (show sameL lo L L' = true from (sameL_get lo L L' E3.out).2 fun i t u h1 h2 => HJ.out i t u (by
     have : i < L.length := by
      apply Classical.byContradiction; intro hc
      rw [List.getElem?_eq_none (by omega)] at h1; cases h1
     omega) h1 h2)
    clear HJ
    go_wp2_with fail
    clear hB3 hB4
    go_loopw [8] (fun i wr => ∃ j : Nat, j ≤ V.length ∧ i = .int .i64 j ∧ Hid (∀ (i : Nat), i < j → K[i]? = K'[i]? ∧ ∀ (t u : VT), V[i]? = some t → V'[i]? = some u → sameT lo t u = true) ∧ Below (w.heap.size + 2) ((w.alloc (.cells #[.int .i64 k, .int .i64 n, .string s, .slice oL L.length capL, .slice oM V.length capM] 29)).alloc (.cells #[.int .i64 k, .int .i64 n, .string s', .slice oL' L'.length capL', .slice oM' V'.length capM'] 29)) wr) (fun i _ => V.length - (intOf i).toNat)
    case atStart => exact ⟨0, Nat.zero_le _, rfl, fun i h => absurd h (by omega), hbel⟩
    case round =>
     clear hbw hbel hj hlt
     obtain ⟨j, hj, rfl, HJ, hbel⟩ := hrel
     have hbw : Below w.heap.size w wr := hbase.trans (hbel.mono (by omega))
     have hB4 := box2_cell w wr _ _ _ _ _ _ _ hbel 4 _ rfl
     by_cases hlt : j < V.length
     ·obtain ⟨t, ht⟩ : ∃ t, V[j]? = some t := ⟨V[j], List.getElem?_eq_getElem hlt⟩
      have hlt' : j < V'.length := by have := E4.out; omega
      obtain ⟨u, hu⟩ : ∃ t, V'[j]? = some t := ⟨V'[j], List.getElem?_eq_getElem hlt'⟩
      obtain ⟨c, hc⟩ : ∃ t, K[j]? = some t := ⟨K[j]'(by omega), List.getElem?_eq_getElem (by omega)⟩
      obtain ⟨c', hc'⟩ : ∃ t, K'[j]? = some t := ⟨K'[j]'(by omega), List.getElem?_eq_getElem (by omega)⟩
      obtain rfl := hM3 (by omega)
      obtain rfl := hM3' (by omega)
      have hC4 := box2_next w wr _ _ _ _ _ _ _ hbel 4 _ rfl
      have A1 := above_cell hB4
      have A2 := above_cell hC4
      have k0 := above_cell (keepCell hbw (cK j c hc).1)
      have k1 := above_cell (keepCell hbw (cK' j c' hc').1)
      have hnode := (cM j t ht).onto hbw
      have hnode' := (cM' j u hu).onto hbw
      simp only [Node, nx] at hnode hnode'
      obtain ⟨d0, d1, d2, d3, d4⟩ := hnode
      obtain ⟨e0, e1, e2, e3, e4⟩ := hnode'
      have D0 := above_cell d0; have D1 := above_cell d1; have D2 := above_cell d2; have D3 := above_cell d3; have D4 := above_cell d4
      have F0 := above_cell e0; have F1 := above_cell e1; have F2 := above_cell e2; have F3 := above_cell e3; have F4 := above_cell e4
      by_cases hcc : c = c'
      ·have tc : (c.toList == c'.toList) = true := by rw [hcc]; simp
       have HT' := hid ((rM j t ht).onto hbw)
       have HU' := hid ((rM' j u hu).onto hbw)
       have hzt := HTV.out j t ht
       have HSTEP := hid (fun X : Abv wr => ih t u (p j) (q j) (p' j) (q' j) lo X.u (by omega) (HT'.out.onto X.h) (HU'.out.onto X.h))
       simp only [vv] at HSTEP
       have HCC := hid hcc
       clear hcc
       cases hq : sameT lo t u with
       | true =>
        rw [hq] at HSTEP
        go_wp2_with fail
        have hinh := abv_some wr
        refine wp_region_above (by kernel_rfl) (by kernel_rfl) ?_
        repeat (go_big_quiet_step ((go_at_call 16; exact above_of (HSTEP.out _))))
        refine wpQuiet_nil ?_
        intro _ hw'
        obtain ⟨X, hX⟩ := hw'
        subst hX
        go_wp2_with fail
        refine ⟨?_, ?_⟩
        ·repeat apply Exists.intro
         exact ⟨⟨j + 1, hlt, val_int (by omega), fun i hi => by
          by_cases hij : i = j
          ·subst hij
           refine ⟨by rw [hc, hc', HCC.out], fun t' u' h1 h2 => ?_⟩
           rw [ht] at h1; rw [hu] at h2; cases h1; cases h2; exact hq
          ·exact HJ.out i (by omega), hbel.trans (X.h.mono (by have := hbel.size; simp at this; omega))⟩, rfl⟩
        ·simp [intOf]; omega
       | false =>
        rw [hq] at HSTEP
        have HF := hid (show res = false by
         rw [HR.out]
         have : sameL lo V V' = false := by
          rw [Bool.eq_false_iff]; intro hc
          have := (sameL_get lo V V' E4.out).1 hc j t u ht hu
          rw [hq] at this; cases this
         rw [this]; simp)
        go_wp2_with fail
        have hinh := abv_some wr
        refine wp_region_above (by kernel_rfl) (by kernel_rfl) ?_
        repeat (go_big_quiet_step ((go_at_call 16; exact above_of (HSTEP.out _))))
        refine wpQuiet_nil ?_
        intro _ hw'
        obtain ⟨X, hX⟩ := hw'
        subst hX
        go_wp2_with fail
        go_ret
        exact ⟨ret_bool HF.out.symm, hbw.trans (X.h.mono hbw.size)⟩
      ·have tc := str_ne c c' hcc
       have HF := hid (show res = false by
        rw [HR.out]
        have : decide (K = K') = false := by
         rw [decide_eq_false_iff_not]; intro hKe
         rw [hKe, hc'] at hc; cases hc; exact hcc rfl
        rw [this]; simp)
       clear hcc
       go_wp2_with fail
       have hinh := abv_some wr
       refine wp_region_above (by kernel_rfl) (by kernel_rfl) ?_
       repeat (go_big_quiet_step (fail))
       refine wpQuiet_nil ?_
       intro _ hw'
       obtain ⟨X, hX⟩ := hw'
       subst hX
       go_wp2_with fail
       go_ret
       exact ⟨ret_bool HF.out.symm, hbw.trans (X.h.mono hbw.size)⟩
     ·have HF := hid (show res = true by
       rw [HR.out, hstr, HLL.out]
       have h1 : sameL lo V V' = true := (sameL_get lo V V' E4.out).2 fun i t u g1 g2 => (HJ.out i (by
        have : i < V.length := by
         apply Classical.byContradiction; intro hc
         rw [List.getElem?_eq_none (by omega)] at g1; cases g1
        omega)).2 t u g1 g2
       have h2 : K = K' := by
        apply List.ext_getElem?
        intro i
        by_cases hi : i < j
        ·exact (HJ.out i hi).1
        ·have := E4.out
         rw [List.getElem?_eq_none (by omega), List.getElem?_eq_none (by omega)]
       rw [h1, decide_eq_true h2]; rfl)
      clear HJ
      go_wp2_with fail
      go_ret
      exact ⟨ret_bool HF.out.symm, hbw⟩
 ·have HF := hid (show res = false by rw [HE.out, decide_eq_false hlab]; rfl)
  by_cases h1 : k = k'
  ·have t1 : (k != k') = false := by simpa using h1
   by_cases h2 : n = n'
   ·have t2 : (n != n') = false := by simpa using h2
    by_cases h3 : L.length = L'.length
    ·have t3 : ((L.length : Int) != (L'.length : Int)) = false := by rw [h3]; simp
     have t4 : ((V.length : Int) != (V'.length : Int)) = true := by
      rw [bne_iff_ne]; intro hc; exact hlab ⟨h1, h2, h3, by omega⟩
     clear hlab h1 h2 h3
     go_enter Tryz.func16, Tryz.ntmps16
     go_wp2_with fail
     go_ret
     exact ⟨ret_bool HF.out.symm, ((Below.refl _ _).alloc (Nat.le_refl _) _).alloc (by simp) _⟩
    ·have t3 : ((L.length : Int) != (L'.length : Int)) = true := by rw [bne_iff_ne]; omega
     clear hlab h1 h2 h3
     go_enter Tryz.func16, Tryz.ntmps16
     go_wp2_with fail
     go_ret
     exact ⟨ret_bool HF.out.symm, ((Below.refl _ _).alloc (Nat.le_refl _) _).alloc (by simp) _⟩
   ·have t2 : (n != n') = true := by simpa using h2
    clear hlab h1 h2
    go_enter Tryz.func16, Tryz.ntmps16
    go_wp2_with fail
    go_ret
    exact ⟨ret_bool HF.out.symm, ((Below.refl _ _).alloc (Nat.le_refl _) _).alloc (by simp) _⟩
  ·have t1 : (k != k') = true := by simpa using h1
   clear hlab h1
   go_enter Tryz.func16, Tryz.ntmps16
   go_wp2_with fail
   go_ret
   exact ⟨ret_bool HF.out.symm, ((Below.refl _ _).alloc (Nat.le_refl _) _).alloc (by simp) _⟩
end Go.Proofs.YteimbjamnfkapaaGreatDoor
