/- The document's side: two paths compared. -/
import Derived.Test.YtadbeodeiijhdaaGreatDoorFPathFind
import Derived.Test.YtadbeodeiijhdaaGreatDoorFPathDoc
import Derived.Test.YtadbeodeiijhdaaGreatDoorFRefVal7
namespace Go.Proofs.YtadbeodeiijhdaaGreatDoor
open Go.RowKit

set_option maxRecDepth 100000 in
set_option maxHeartbeats 4000000 in
theorem cmp5_any (p q : List PStep) (x y : Value) (w : World) (hp : InP w p x) (hq : InP w q y) (fp : ∀ s ∈ p, Frm s) (fq : ∀ s ∈ q, Frm s) :
    Calls Tryz.prog 40 #[x, y] w fun e w' => e = .returned (.int .i64 (cmpP p q)) ∧ Below w.heap.size w w' := by
  obtain ⟨a, ⟨oa, ca, rfl, ha1, ha2, ha3⟩, hac⟩ := hp
  obtain ⟨b, ⟨ob, cb, rfl, hb1, hb2, hb3⟩, hbc⟩ := hq
  unfold maxLen at ha2 hb2
  have HA := hid hac
  have HB := hid hbc
  have FP := hid fp
  have FQ := hid fq
  have HR := hid (show cmpP p q = cmpP (p.drop 0) (q.drop 0) from rfl)
  generalize cmpP p q = r at HR ⊢
  clear hac hbc fp fq
  go_enter Tryz.func40, Tryz.ntmps40
  go_wp2_with fail
  go_loopw [5] (fun i wr => ∃ j : Nat, i = .int .i64 j ∧ j ≤ p.length ∧ j ≤ q.length ∧ Hid (r = cmpP (p.drop j) (q.drop j)) ∧ Hid (Below w.heap.size w wr)) (fun i _ => p.length - (intOf i).toNat)
  case atStart => exact ⟨0, rfl, Nat.zero_le _, Nat.zero_le _, HR, Below.refl _ _⟩
  case round =>
    clear HR
    obtain ⟨j, rfl, hj1, hj2, HJ, HBW⟩ := hrel
    by_cases hlt : j < p.length
    · by_cases hlt2 : j < q.length
      · obtain ⟨s, hs⟩ : ∃ s, p[j]? = some s := ⟨p[j], List.getElem?_eq_getElem hlt⟩
        obtain ⟨u, hu⟩ : ∃ u, q[j]? = some u := ⟨q[j], List.getElem?_eq_getElem hlt2⟩
        obtain rfl := ha3 (by omega)
        obtain rfl := hb3 (by omega)
        obtain ⟨s0, s1, s2, s3⟩ := HA.out j s hs
        obtain ⟨u0, u1, u2, u3⟩ := HB.out j u hu
        have t0 := keepCell HBW.out s0; have t1 := keepCell HBW.out s1; have t2 := keepCell HBW.out s2
        have v0 := keepCell HBW.out u0; have v1 := keepCell HBW.out u1; have v2 := keepCell HBW.out u2
        have HJ2 := hid (HJ.out.trans (cmpP_drop p q j s u hs hu))
        have HFS := hid (FP.out s (List.mem_of_getElem? hs))
        have HFU := hid (FQ.out u (List.mem_of_getElem? hu))
        clear s0 s1 s2 u0 u1 u2 HJ hs hu
        go_wp2_with fail
        go_cut [6, 7] from 9 to 69 (fun x6 x7 wx => ∃ b6 b7 : Nat, x6 = .pointer (some ⟨b6, 0, none⟩) ∧ x7 = .pointer (some ⟨b7, 0, none⟩) ∧ (wx.cell? ⟨b6, 0, none⟩ = some (.string s.key) ∧ wx.cell? ⟨b6, 1, none⟩ = some (.int .i64 s.at_) ∧ wx.cell? ⟨b6, 2, none⟩ = some (.bool s.place)) ∧ (wx.cell? ⟨b7, 0, none⟩ = some (.string u.key) ∧ wx.cell? ⟨b7, 1, none⟩ = some (.int .i64 u.at_) ∧ wx.cell? ⟨b7, 2, none⟩ = some (.bool u.place)) ∧ Hid (Below w.heap.size w wx))
        case first =>
          refine wp_region_h (S := fun X => Below wr.heap.size wr X) 12 (by kernel_rfl) (by kernel_rfl) ?_
          have hS0 : Below wr.heap.size wr wr.drew := (Below.refl _ _).drew
          refine take_h (i := 0) (v := ?_) rfl (by kernel_rfl) (by kernel_rfl) (by kernel_rfl) (fun _ _ _ h => h) (by rfl) ?_ hS0 ?_
          rotate_left
          · (intro X hX; have y0 := keepCell hX t0; have y1 := keepCell hX t1; have y2 := keepCell hX t2; have y3 := keepCell hX v0; have y4 := keepCell hX v1; have y5 := keepCell hX v2; go_simp; try with_reducible rfl)
          simp only [Act.put, List.setIfInBounds_toArray, List.set_cons_zero, List.set_cons_succ]
          refine take_h (i := 1) (v := ?_) rfl (by kernel_rfl) (by kernel_rfl) (by kernel_rfl) (fun _ _ _ h => h) (by rfl) ?_ hS0 ?_
          rotate_left
          · (intro X hX; have y0 := keepCell hX t0; have y1 := keepCell hX t1; have y2 := keepCell hX t2; have y3 := keepCell hX v0; have y4 := keepCell hX v1; have y5 := keepCell hX v2; go_simp; try with_reducible rfl)
          simp only [Act.put, List.setIfInBounds_toArray, List.set_cons_zero, List.set_cons_succ]
          refine take_h (i := 2) (v := ?_) rfl (by kernel_rfl) (by kernel_rfl) (by kernel_rfl) (fun _ _ _ h => h) (by rfl) ?_ hS0 ?_
          rotate_left
          · (intro X hX; have y0 := keepCell hX t0; have y1 := keepCell hX t1; have y2 := keepCell hX t2; have y3 := keepCell hX v0; have y4 := keepCell hX v1; have y5 := keepCell hX v2; go_simp; try with_reducible rfl)
          simp only [Act.put, List.setIfInBounds_toArray, List.set_cons_zero, List.set_cons_succ]
          refine take_h (i := 3) (v := ?_) rfl (by kernel_rfl) (by kernel_rfl) (by kernel_rfl) (fun _ _ _ h => h) (by rfl) ?_ hS0 ?_
          rotate_left
          · (intro X hX; have y0 := keepCell hX t0; have y1 := keepCell hX t1; have y2 := keepCell hX t2; have y3 := keepCell hX v0; have y4 := keepCell hX v1; have y5 := keepCell hX v2; go_simp; try with_reducible rfl)
          simp only [Act.put, List.setIfInBounds_toArray, List.set_cons_zero, List.set_cons_succ]
          refine take_h (i := 4) (v := ?_) rfl (by kernel_rfl) (by kernel_rfl) (by kernel_rfl) (fun _ _ _ h => h) (by rfl) ?_ hS0 ?_
          rotate_left
          · (intro X hX; have y0 := keepCell hX t0; have y1 := keepCell hX t1; have y2 := keepCell hX t2; have y3 := keepCell hX v0; have y4 := keepCell hX v1; have y5 := keepCell hX v2; go_simp; try with_reducible rfl)
          simp only [Act.put, List.setIfInBounds_toArray, List.set_cons_zero, List.set_cons_succ]
          refine take_h (i := 5) (v := ?_) rfl (by kernel_rfl) (by kernel_rfl) (by kernel_rfl) (fun _ _ _ h => h) (by rfl) ?_ hS0 ?_
          rotate_left
          · (intro X hX; have y0 := keepCell hX t0; have y1 := keepCell hX t1; have y2 := keepCell hX t2; have y3 := keepCell hX v0; have y4 := keepCell hX v1; have y5 := keepCell hX v2; go_simp; try with_reducible rfl)
          simp only [Act.put, List.setIfInBounds_toArray, List.set_cons_zero, List.set_cons_succ]
          refine take_h (i := 6) (v := ?_) rfl (by kernel_rfl) (by kernel_rfl) (by kernel_rfl) (fun _ _ _ h => h) (by rfl) ?_ hS0 ?_
          rotate_left
          · (intro X hX; have y0 := keepCell hX t0; have y1 := keepCell hX t1; have y2 := keepCell hX t2; have y3 := keepCell hX v0; have y4 := keepCell hX v1; have y5 := keepCell hX v2; go_simp; try with_reducible rfl)
          simp only [Act.put, List.setIfInBounds_toArray, List.set_cons_zero, List.set_cons_succ]
          refine take_h (i := 7) (v := ?_) rfl (by kernel_rfl) (by kernel_rfl) (by kernel_rfl) (fun _ _ _ h => h) (by rfl) ?_ hS0 ?_
          rotate_left
          · (intro X hX; have y0 := keepCell hX t0; have y1 := keepCell hX t1; have y2 := keepCell hX t2; have y3 := keepCell hX v0; have y4 := keepCell hX v1; have y5 := keepCell hX v2; go_simp; try with_reducible rfl)
          simp only [Act.put, List.setIfInBounds_toArray, List.set_cons_zero, List.set_cons_succ]
          refine wpAnyH_ready (rs := [8, 9]) (by kernel_rfl) (by simp) ?_
          refine AllReadyH.cons rfl (fun KK hKK => ?_) (AllReadyH.cons rfl (fun KK hKK => ?_) AllReadyH.nil)
          · go_simp
            refine hKK.out _ _ (valloc_bel (Below.refl _ _) _).drew (fun _ => ?_)
            clear hKK KK
            refine step_h (i := 9) rfl (by kernel_rfl) ?_
            intro KK hKK
            go_simp
            refine hKK.out _ _ (valloc_bel (valloc_bel (Below.refl _ _) _) _).drew (fun _ => ?_)
            clear hKK KK
            refine step_h (i := 10) rfl (by kernel_rfl) ?_
            intro KK hKK
            go_simp
            refine hKK.out _ _ (valloc_bel (valloc_bel (Below.refl _ _) _) _).drew (fun _ => ?_)
            clear hKK KK
            refine step_h (i := 11) rfl (by kernel_rfl) ?_
            intro KK hKK
            go_simp
            refine hKK.out _ _ (valloc_bel (valloc_bel (Below.refl _ _) _) _).drew (fun _ => ?_)
            clear hKK KK
            refine wpAnyH_done (by kernel_rfl) ?_ _
            go_wp2_with fail
            go_meet
            exact ⟨wr.heap.size, wr.heap.size + 1, rfl, rfl, ⟨keepCell ((valloc_bel (Below.refl _ _) _).drew) (cells_in rfl rfl rfl), keepCell ((valloc_bel (Below.refl _ _) _).drew) (cells_in rfl rfl rfl), keepCell ((valloc_bel (Below.refl _ _) _).drew) (cells_in rfl rfl rfl)⟩, ⟨keepCell (Below.refl _ _).drew (cells_in rfl (by simp) rfl), keepCell (Below.refl _ _).drew (cells_in rfl (by simp) rfl), keepCell (Below.refl _ _).drew (cells_in rfl (by simp) rfl)⟩, vonto HBW.out (valloc_bel (valloc_bel (Below.refl _ _) _) _).drew⟩
          · go_simp
            refine hKK.out _ _ (valloc_bel (Below.refl _ _) _).drew (fun _ => ?_)
            clear hKK KK
            refine step_h (i := 8) rfl (by kernel_rfl) ?_
            intro KK hKK
            go_simp
            refine hKK.out _ _ (valloc_bel (valloc_bel (Below.refl _ _) _) _).drew (fun _ => ?_)
            clear hKK KK
            refine step_h (i := 10) rfl (by kernel_rfl) ?_
            intro KK hKK
            go_simp
            refine hKK.out _ _ (valloc_bel (valloc_bel (Below.refl _ _) _) _).drew (fun _ => ?_)
            clear hKK KK
            refine step_h (i := 11) rfl (by kernel_rfl) ?_
            intro KK hKK
            go_simp
            refine hKK.out _ _ (valloc_bel (valloc_bel (Below.refl _ _) _) _).drew (fun _ => ?_)
            clear hKK KK
            refine wpAnyH_done (by kernel_rfl) ?_ _
            go_wp2_with fail
            go_meet
            exact ⟨wr.heap.size + 1, wr.heap.size, rfl, rfl, ⟨keepCell (Below.refl _ _).drew (cells_in rfl (by simp) rfl), keepCell (Below.refl _ _).drew (cells_in rfl (by simp) rfl), keepCell (Below.refl _ _).drew (cells_in rfl (by simp) rfl)⟩, ⟨keepCell ((valloc_bel (Below.refl _ _) _).drew) (cells_in rfl rfl rfl), keepCell ((valloc_bel (Below.refl _ _) _).drew) (cells_in rfl rfl rfl), keepCell ((valloc_bel (Below.refl _ _) _).drew) (cells_in rfl rfl rfl)⟩, vonto HBW.out (valloc_bel (valloc_bel (Below.refl _ _) _) _).drew⟩
        case rest =>
        obtain ⟨b6, b7, rfl, rfl, ⟨c60, c61, c62⟩, ⟨c70, c71, c72⟩, HBX⟩ := hcut
        generalize wc = wx at c60 c61 c62 c70 c71 c72 HBX ⊢
        clear t0 t1 t2 v0 v1 v2 HBW
        by_cases hsu : s = u
        · subst hsu
          have HJ3 := hid (show r = cmpP (p.drop (j + 1)) (q.drop (j + 1)) by rw [HJ2.out, if_pos (cs_refl s)])
          clear HJ2
          go_wp2_with fail
          go_roundw
          case rel => exact ⟨j + 1, val_int (by omega), hlt, hlt2, HJ3, HBX⟩
          case measure => simp [intOf]; omega
        · have hc0 : ¬ cstep s u = 0 := fun h => hsu (cs_eq HFS.out HFU.out h)
          have HJ3 := hid (show r = cstep s u by rw [HJ2.out, if_neg hc0])
          clear HJ2
          cases hps : s.place <;> cases hpu : u.place
          all_goals rw [hps] at c62
          all_goals rw [hpu] at c72
          · have hky : ¬ s.key.data.toList = u.key.data.toList := fun h => by
              have h1 := HFS.out
              have h2 := HFU.out
              unfold Frm at h1 h2
              simp [hps] at h1
              simp [hpu] at h2
              exact hsu (ps_ext _ _ h (by rw [h1, h2]) (by rw [hps, hpu]))
            have tk := txt_no s.key u.key hky
            have hcs : cstep s u = Lib.compareBytes s.key.data.toList u.key.data.toList := by unfold cstep; simp [hps, hpu]
            have hl := cb_less s.key.data.toList u.key.data.toList
            have hcv := cb_val s.key.data.toList u.key.data.toList
            cases hlt3 : ltB s.key.data.toList u.key.data.toList with
            | true =>
              have g : Op.bytesLess s.key.toList u.key.toList = true := by rw [Lib.toList_data, Lib.toList_data]; exact hlt3
              have HX := hid (show r = -1 by rw [HJ3.out, hcs]; rw [hlt3, decide_eq_true_eq] at hl; omega)
              clear HJ3 hc0 hsu hps hpu hcs hl hcv hky hlt3 HFS HFU
              go_wp2_with fail
              go_ret
              exact ⟨ret_int HX.out.symm, HBX.out⟩
            | false =>
              have g : Op.bytesLess s.key.toList u.key.toList = false := by rw [Lib.toList_data, Lib.toList_data]; exact hlt3
              have HX := hid (show r = 1 by rw [HJ3.out]; rw [hcs] at hc0 ⊢; rw [hlt3, decide_eq_false_iff_not] at hl; omega)
              clear HJ3 hc0 hsu hps hpu hcs hl hcv hky hlt3 HFS HFU
              go_wp2_with fail
              go_ret
              exact ⟨ret_int HX.out.symm, HBX.out⟩
          · have HX := hid (show r = 1 by rw [HJ3.out]; unfold cstep; simp [hps, hpu])
            clear HJ3 hc0 hsu hps hpu HFS HFU
            cases hke : (s.key.toList == u.key.toList) <;> by_cases hat : s.at_ = u.at_
            all_goals
              go_wp2_with fail
              go_ret
              exact ⟨ret_int HX.out.symm, HBX.out⟩
          · have HX := hid (show r = -1 by rw [HJ3.out]; unfold cstep; simp [hps, hpu])
            clear HJ3 hc0 hsu hps hpu HFS HFU
            cases hke : (s.key.toList == u.key.toList) <;> by_cases hat : s.at_ = u.at_
            all_goals
              go_wp2_with fail
              go_ret
              exact ⟨ret_int HX.out.symm, HBX.out⟩
          · have hcs : cstep s u = cmpZ s.at_ u.at_ := by unfold cstep; simp [hps, hpu]
            have h1 := HFS.out
            have h2 := HFU.out
            unfold Frm at h1 h2
            simp [hps] at h1
            simp [hpu] at h2
            have hke := txt_is s.key u.key (by rw [h1.1, h2.1])
            have hat : ¬ s.at_ = u.at_ := fun h => hsu (ps_ext _ _ (by rw [h1.1, h2.1]) h (by rw [hps, hpu]))
            clear h1 h2
            by_cases hl : s.at_ < u.at_
            · have HX := hid (show r = -1 by rw [HJ3.out, hcs]; unfold cmpZ; rw [if_pos hl])
              clear HJ3 hc0 hsu hps hpu hcs HFS HFU
              go_wp2_with fail
              go_ret
              exact ⟨ret_int HX.out.symm, HBX.out⟩
            · have HX := hid (show r = 1 by rw [HJ3.out, hcs]; unfold cmpZ; rw [if_neg hl, if_pos (by omega)])
              clear HJ3 hc0 hsu hps hpu hcs HFS HFU
              go_wp2_with fail
              go_ret
              exact ⟨ret_int HX.out.symm, HBX.out⟩
      · have HX := hid (HJ.out.trans (cmpP_short p q j hlt (by omega)))
        have hqp : q.length < p.length := by omega
        clear HJ
        go_wp2_with fail
        go_ret
        exact ⟨ret_int HX.out.symm, HBW.out⟩
    · have HX := hid (HJ.out.trans (cmpP_end p q j (by omega) hj2))
      clear HJ
      by_cases hq2 : j < q.length
      · have HX2 := hid (show r = -1 by rw [HX.out, if_pos hq2])
        have hpq : p.length < q.length := by omega
        clear HX
        go_wp2_with fail
        go_ret
        exact ⟨ret_int HX2.out.symm, HBW.out⟩
      · have HX2 := hid (show r = 0 by rw [HX.out, if_neg hq2])
        have hpq : ¬ p.length < q.length := by omega
        have hqp : ¬ q.length < p.length := by omega
        clear HX
        go_wp2_with fail
        go_ret
        exact ⟨ret_int HX2.out.symm, HBW.out⟩
end Go.Proofs.YtadbeodeiijhdaaGreatDoor
