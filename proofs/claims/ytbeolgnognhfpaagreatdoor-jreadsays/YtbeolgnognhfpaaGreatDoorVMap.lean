/- value.Map, walked. -/
import Derived.Test.YtbeolgnognhfpaaGreatDoorVSorts
import Derived.Test.YtbeolgnognhfpaaGreatDoorVTextAll
import Derived.Test.YtbeolgnognhfpaaGreatDoorVPlus
namespace Go.Proofs.YtbeolgnognhfpaaGreatDoor
open Go.RowKit

theorem szL_perm {L M : List VT} (h : L.Perm M) : szL L = szL M := by
  induction h with
  | nil => rfl
  | cons x _ ih => simp only [szL, ih]
  | swap x y l => simp only [szL]; omega
  | trans _ _ h1 h2 => omega
set_option maxRecDepth 100000 in
set_option maxHeartbeats 2000000 in
theorem vmap_any (A : List (ByteArray × VT)) (w : World) (b off cap : Nat) (hA : InM w (A.map (·.1)) (A.map (·.2)) (.slice (some ⟨b, off, none⟩) A.length cap)) (h0 : 0 < A.length) (hl : szL (A.map (·.2)) ≤ 999999) :
    Calls Tryz.prog 114 #[.slice (some ⟨b, off, none⟩) A.length cap] w fun e w' => ∃ A' X Y, A'.Perm A ∧ Rising A' ∧ e = .returned (.tuple #[vv (mapR A') X Y, .int .i64 (keI (A'.map (·.1)))]) ∧ HF w' w.heap.size w'.heap.size (mapR A') X Y ∧ Below w.heap.size w w' := by
  have hlen : A.length ≤ 1000000 := by have := len_szL (A.map (·.2)); simp at this; omega
  have HCL := hid (fun (X : World) (hX : Below w.heap.size w X) => cloneP_any A X b off cap (hA.onto hX) h0 hlen)
  have HL := hid hl
  clear hA hl
  go_enter Tryz.func114, Tryz.ntmps114
  go_wp2_with fail
  go_at_call 141
  refine (HCL.out _ (valloc_bel (Below.refl _ _) _)).mono ?_
  rintro e w1 ⟨g, cap', rfl, hc1, hc2, hg1, hg2, hH, hb1⟩
  have R1 := hid (box_row hb1)
  have HB1 := hid (vonto (valloc_bel (Below.refl w.heap.size w) _) hb1)
  have HH := hid hH
  have hg3 : w.heap.size < g := by have := hg1; simp at this; omega
  have HS1 := hid hb1
  clear hH hb1 hg1
  go_wp2_with fail
  go_at_call 142
  refine (sortf_any A _ w1 g cap' HH.out hg2 hlen).mono ?_
  rintro e w2 ⟨rfl, A', hperm, hrise, hH2, hch⟩
  have hlen2 : A'.length = A.length := hperm.length_eq
  have HB2 := hid (HB1.out.trans (hch.below (show w.heap.size ≤ g by omega) HB1.out.size))
  have HBS := hid (HS1.out.trans (hch.below (show (w.alloc _).heap.size ≤ g by rw [World.size_alloc]; omega) HS1.out.size))
  have R2 := hid (R1.out.onto (hch.block _ R1.out.lt (by omega)))
  have hin := held_in (cap := cap') hH2 HBS.out (by omega) hc2
  rw [hlen2] at hin
  have HIN := hid hin
  have HP := hid hperm
  have HRI := hid hrise
  have HZ2 := hid (show szL (A'.map (·.2)) ≤ 999999 by rw [szL_perm (hperm.map (·.2))]; exact HL.out)
  clear hin hperm hrise hH2 hch
  go_wp2_with fail
  go_at_call 145
  refine (kerr_any _ _ _ w2 HIN.out).mono ?_
  rintro e w3 ⟨rfl, hb3⟩
  have R3 := hid (R2.out.onto (hb3.block _ R2.out.lt))
  have HB3 := hid (vonto HB2.out hb3)
  have HIN3 := hid (HIN.out.onto hb3)
  have HMR := hid (show mapR A' = if keI (A'.map (·.1)) = 0 then .mk 6 0 ⟨#[]⟩ [] (A'.map (·.1)) (A'.map (·.2)) else zeroT from rfl)
  obtain ⟨z, hz⟩ : ∃ z, keI (A'.map (·.1)) = z := ⟨_, rfl⟩
  have HZ := hid hz
  rw [hz] at HMR ⊢
  clear hb3 hz
  by_cases hz0 : z = 0
  · have tz : (z != 0) = false := by simpa using hz0
    rw [if_pos hz0] at HMR
    have HZ0 := hid hz0
    clear hz0
    have hCM : ∀ (i : Nat) (t : VT), (A'.map (·.2))[i]? = some t → CopyOk t := fun i t h => vcopy_any (szT t) t (Nat.le_refl _) (by have := szL_get _ i t h; have := HZ2.out; omega)
    have HMM := hid (copypairs_of _ _ _ w3 hCM HIN3.out (by have := hlen2; simp; omega))
    clear hCM
    go_wp2_with fail
    go_at_call 146
    refine HMM.out.mono ?_
    rintro e w4 ⟨Y, rfl, hY, hb4⟩
    obtain ⟨pY, nY, cY, rfl⟩ := hY.slice
    have HY := hid hY
    have R0 := hid (R3.out.onto (hb4.block _ R3.out.lt))
    have HB4 := hid (vonto HB3.out hb4)
    have hs3 : w.heap.size < w3.heap.size := R3.out.lt
    have hs4 := hb4.size
    clear hY hb4
    obtain ⟨u0, e0⟩ := R0.out.cell (o := 0) (by decide)
    obtain ⟨u1, e1⟩ := R0.out.cell (o := 1) (by decide)
    obtain ⟨u2, e2⟩ := R0.out.cell (o := 2) (by decide)
    obtain ⟨u3, e3⟩ := R0.out.cell (o := 3) (by decide)
    obtain ⟨u4, e4⟩ := R0.out.cell (o := 4) (by decide)
    have z0 := R0.out.frozen
    go_wp2_with fail
    refine bodyPost_ret (v := .tuple #[vv (.mk 6 0 ⟨#[]⟩ [] (A'.map (·.1)) (A'.map (·.2))) (.slice none 0 0) (.slice pY nY cY), .int .i64 0]) (by simp [results, Tryz.results114, go_sem, vv, VT.kd, VT.nm, VT.st, e0, e1, e2, e3, e4]) rfl ⟨A', .slice none 0 0, .slice pY nY cY, HP.out, HRI.out, by rw [HMR.out, HZ.out, HZ0.out], ?_, ?_⟩
    · rw [HMR.out]
      change HF (put5 w4 w.heap.size 0 (.int .i64 6) (.int .i64 0) (.string ⟨#[]⟩) (.slice none 0 0) (.slice pY nY cY)) w.heap.size (put5 w4 w.heap.size 0 (.int .i64 6) (.int .i64 0) (.string ⟨#[]⟩) (.slice none 0 0) (.slice pY nY cY)).heap.size _ _ _
      rw [put5_size]
      refine hf_of (m := w3.heap.size) list_wf.2.1 list_wf.2.2 (by decide) (by omega) hs4 (lf_nil _ _ _) ?_
      exact HY.out.onto (fun k g1 g2 => put5_heap _ _ _ _ _ _ _ _ _ (by omega))
    · exact vset_bel (vset_bel (vset_bel (vset_bel (vset_bel HB4.out (by simp)) (by simp)) (by simp)) (by simp)) (by simp)
  · have tz : (z != 0) = true := by simpa using hz0
    rw [if_neg hz0] at HMR
    clear hz0
    obtain ⟨u0, e0⟩ := R3.out.cell (o := 0) (by decide)
    obtain ⟨u1, e1⟩ := R3.out.cell (o := 1) (by decide)
    obtain ⟨u2, e2⟩ := R3.out.cell (o := 2) (by decide)
    obtain ⟨u3, e3⟩ := R3.out.cell (o := 3) (by decide)
    obtain ⟨u4, e4⟩ := R3.out.cell (o := 4) (by decide)
    have z0 := R3.out.frozen
    go_wp2_with fail
    refine bodyPost_ret (v := .tuple #[vv zeroT (.slice none 0 0) (.slice none 0 0), .int .i64 z]) (by simp [results, Tryz.results114, go_sem, vv, zeroT, VT.kd, VT.nm, VT.st, e0, e1, e2, e3, e4]) rfl ⟨A', .slice none 0 0, .slice none 0 0, HP.out, HRI.out, by rw [HMR.out, HZ.out], ?_, ?_⟩
    · rw [HMR.out]
      exact hf_zero _ _ _ (by simp; exact HB3.out.size)
    · exact vset_bel (vset_bel (vset_bel (vset_bel (vset_bel HB3.out (by simp)) (by simp)) (by simp)) (by simp)) (by simp)
set_option maxRecDepth 100000 in
set_option maxHeartbeats 2000000 in
theorem vmap_nil (w : World) :
    Calls Tryz.prog 114 #[.slice none 0 0] w fun e w' => ∃ X Y, e = .returned (.tuple #[vv (.mk 6 0 ⟨#[]⟩ [] [] []) X Y, .int .i64 0]) ∧ HF w' w.heap.size w'.heap.size (.mk 6 0 ⟨#[]⟩ [] [] []) X Y ∧ Below w.heap.size w w' := by
  have HCL := hid (fun X : World => AnyE.slices_Clone_nil Tryz.laysClone 0 0 X)
  have HSF := hid (fun X : World => AnyF.slices_SortFunc_none { Tryz.laysSort with } none 0 (.func (.func 143) #[] #[]) X)
  have HK := hid (fun X : World => kerr_any [] [] _ X (in_nil X))
  have HC := hid (fun X : World => copypairs_of [] [] _ X (fun i t h => by simp at h) (in_nil X) (by simp))
  go_enter Tryz.func114, Tryz.ntmps114
  go_wp2_with (first
    | (go_at_call 141; go_must (refine Calls.mono (HCL.out _) ?_; rintro e w1 ⟨rfl, rfl⟩))
    | (go_at_call 142; go_must (refine Calls.mono (HSF.out _) ?_; rintro e w1 ⟨rfl, rfl⟩)))
  go_at_call 145
  refine (HK.out _).mono ?_
  rintro e w3 ⟨rfl, hb3⟩
  rw [show keI [] = 0 from rfl]
  have R3 := hid (box_row hb3)
  have HB3 := hid (vonto (valloc_bel (Below.refl w.heap.size w) _) hb3)
  clear hb3
  go_wp2_with fail
  go_at_call 146
  refine (HC.out _).mono ?_
  rintro e w4 ⟨Y, rfl, hY, hb4⟩
  obtain ⟨pY, nY, cY, rfl⟩ := hY.slice
  have HY := hid hY
  have R0 := hid (R3.out.onto (hb4.block _ R3.out.lt))
  have HB4 := hid (vonto HB3.out hb4)
  have hs3 : w.heap.size < w3.heap.size := R3.out.lt
  have hs4 := hb4.size
  clear hY hb4
  obtain ⟨u0, e0⟩ := R0.out.cell (o := 0) (by decide)
  obtain ⟨u1, e1⟩ := R0.out.cell (o := 1) (by decide)
  obtain ⟨u2, e2⟩ := R0.out.cell (o := 2) (by decide)
  obtain ⟨u3, e3⟩ := R0.out.cell (o := 3) (by decide)
  obtain ⟨u4, e4⟩ := R0.out.cell (o := 4) (by decide)
  have z0 := R0.out.frozen
  go_wp2_with fail
  refine bodyPost_ret (v := .tuple #[vv (.mk 6 0 ⟨#[]⟩ [] [] []) (.slice none 0 0) (.slice pY nY cY), .int .i64 0]) (by simp [results, Tryz.results114, go_sem, vv, VT.kd, VT.nm, VT.st, e0, e1, e2, e3, e4]) rfl ⟨.slice none 0 0, .slice pY nY cY, rfl, ?_, ?_⟩
  · change HF (put5 w4 w.heap.size 0 (.int .i64 6) (.int .i64 0) (.string ⟨#[]⟩) (.slice none 0 0) (.slice pY nY cY)) w.heap.size (put5 w4 w.heap.size 0 (.int .i64 6) (.int .i64 0) (.string ⟨#[]⟩) (.slice none 0 0) (.slice pY nY cY)).heap.size _ _ _
    rw [put5_size]
    refine hf_of (m := w3.heap.size) list_wf.2.1 list_wf.2.2 (by decide) (by omega) hs4 (lf_nil _ _ _) ?_
    exact HY.out.onto (fun k g1 g2 => put5_heap _ _ _ _ _ _ _ _ _ (by omega))
  · exact vset_bel (vset_bel (vset_bel (vset_bel (vset_bel HB4.out (by simp)) (by simp)) (by simp)) (by simp)) (by simp)
end Go.Proofs.YtbeolgnognhfpaaGreatDoor
