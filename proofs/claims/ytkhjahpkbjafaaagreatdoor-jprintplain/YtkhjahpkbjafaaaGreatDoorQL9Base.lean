/- value.Good, walked, with its counter. -/
import Derived.Test.YtkhjahpkbjafaaaGreatDoorQVPlain
import Derived.Test.YtkhjahpkbjafaaaGreatDoorQVBase
import Derived.Test.YtkhjahpkbjafaaaGreatDoorQJpB
/- The program's Compact and Indent, walked. -/
/- What the laws of JSON's printer share: a map of a one, awake. -/
namespace Go.Proofs.YtkhjahpkbjafaaaGreatDoor
open Go.RowKit

/-- a tree that was there, in a world that has changed above it -/
theorem HV.over {w w' : World} {T : VT} {x y : Value} (h : HV w T x y) (hb : Below w.heap.size w w') : HV w' T x y := h.onto hb
set_option maxRecDepth 100000 in
set_option maxHeartbeats 2000000 in
theorem wgood_any : ∀ (N : Nat) (T : VT) (x y : Value) (bw : Nat) (c d : Int) (w0 w : World), szT T ≤ N → HV w0 T x y → Glob w0 → Below w0.heap.size w0 w → w0.heap.size ≤ bw → Row w bw 101 1 → w.cell? ⟨bw, 0, none⟩ = some (.int .i64 c) → 0 ≤ c ∧ c ≤ 1000000 → 1 ≤ d ∧ d ≤ 1000000 →
    Calls Tryz.prog 66 #[.pointer (some ⟨bw, 0, none⟩), vv T x y, .int .i64 d] w fun e w' => e = .returned (.bool (mayB c d T)) ∧ Chg bw (bw + 1) w w' ∧ Row w' bw 101 1 ∧ (mayB c d T = true → w'.cell? ⟨bw, 0, none⟩ = some (.int .i64 (c + szT T))) := by
  intro N
  induction N with
  | zero => intro T x y bw c d w0 w h; have := szT_pos T; omega
  | succ N ih =>
  intro T x y bw c d w0 w hN hT hg hb hbw hrow hcell hc hd
  have HTL := hid (fun i t h => szT_ls T i t h)
  have HTV := hid (fun i t h => szT_vs T i t h)
  have HT := hid hT
  have HG := hid hg
  have HB := hid hb
  obtain ⟨a, b, f, g, p, q, oL, oM, capL, capM, rfl, rfl, hl1, hl2, hL3, hM3, hK, hs, -, -, cL, cK, cM, rL, rM, -, -⟩ := hT.parts
  clear hT hb hg
  have hlt : bw < w.heap.size := hrow.lt
  have hfr := hrow.frozen
  have HROW := hid hrow
  have gn := hid (fun X (hX : Below w0.heap.size w0 X) => gnode_any T _ _ X (HG.out.on hX) (HT.out.onto hX))
  simp only [vv] at gn ⊢
  have HY := hid (fun h => good_node (c := c) (d := d) (T := T) h)
  have HYL := hid (fun h => good_ls (c := c) (d := d) (T := T) h)
  have HYV := hid (fun h => good_vs (c := c) (d := d) (T := T) h)
  have HYA := hid (fun h1 h2 h3 h4 h5 => good_all (c := c) (d := d) (T := T) h1 h2 h3 h4 h5)
  have HSZ := hid (sz_both T)
  generalize hres : mayB c d T = res at HY HYL HYV HYA ⊢
  clear hres
  generalize hL : T.ls = L at *
  generalize hV : T.vs = V at *
  generalize hKK : T.ks = K at *
  generalize szT T = zz at *
  generalize T.kd = k at *
  generalize T.nm = n at *
  generalize T.st = s at *
  clear hL hV hKK hs
  generalize hnb : nodeB T = nb at *
  clear hnb HT
  have HW1 : Hid (∀ o u, Below w0.heap.size w0 ((w.setCell ⟨bw, 0, none⟩ u).alloc o)) := fun o u => (HB.out.setCell hbw u).alloc (by have := HB.out.size; simpa using this) o
  have HCH : Hid (∀ o u, Chg bw (bw + 1) w ((w.setCell ⟨bw, 0, none⟩ u).alloc o)) := fun o u => ((Chg.refl bw (bw + 1) w).setCell (p := ⟨bw, 0, none⟩) (Or.inl (show bw ≤ bw ∧ bw < bw + 1 by omega)) u).alloc o
  have HRW : Hid (∀ o u, Row ((w.setCell ⟨bw, 0, none⟩ u).alloc o) bw 101 1) := fun o u => (HROW.out.set _ _).onto (Below.heap_alloc _ _ _ (by simpa using hlt))
  have HCW : Hid (∀ o u, ((w.setCell ⟨bw, 0, none⟩ u).alloc o).cell? ⟨bw, 0, none⟩ = some u) := fun o u => by
    rw [World.cell?_alloc_lt _ _ _ (by simpa using hlt)]
    exact set_same HROW.out (by decide) u
  have hne : ¬ bw = w.heap.size := by omega
  by_cases h1 : c + 1 > 4096
  · have HR := hid (show res = false by
      cases res with
      | false => rfl
      | true => have := (HY.out rfl).1; omega)
    go_enter Tryz.func66, Tryz.ntmps66
    go_wp2_with fail
    go_ret
    exact ⟨ret_bool HR.out.symm, HCH.out _ _, HRW.out _ _, fun h => by rw [HR.out] at h; cases h⟩
  by_cases h2 : d > 32
  · have HR := hid (show res = false by
      cases res with
      | false => rfl
      | true => have := (HY.out rfl).2.1; omega)
    go_enter Tryz.func66, Tryz.ntmps66
    go_wp2_with fail
    go_ret
    exact ⟨ret_bool HR.out.symm, HCH.out _ _, HRW.out _ _, fun h => by rw [HR.out] at h; cases h⟩
  cases nb with
  | false =>
    have HR := hid (show res = false by
      cases res with
      | false => rfl
      | true => exact absurd (HY.out rfl).2.2 (by decide))
    go_enter Tryz.func66, Tryz.ntmps66
    go_wp2_with (go_at_call 96; go_must (refine (gn.out _ (HW1.out _ _)).mono ?_; rintro e w1 ⟨rfl, hb1⟩))
    go_ret
    exact ⟨ret_bool HR.out.symm, (HCH.out _ _).trans (Chg.of hb1), (HRW.out _ _).onto (hb1.block _ (by simp; omega)), fun h => by rw [HR.out] at h; cases h⟩
  | true =>
    go_enter Tryz.func66, Tryz.ntmps66
    go_wp2_with fail
    go_at_call 96
    refine (gn.out _ (HW1.out _ _)).mono ?_
    rintro e w1 ⟨rfl, hb1⟩
    have HB1 := hid hb1
    obtain ⟨W1, hW1⟩ : ∃ W1, W1 = (w.setCell ⟨bw, 0, none⟩ (.int .i64 (c + 1))).alloc (.cells #[.int .i64 k, .int .i64 n, .string s, .slice oL L.length capL, .slice oM V.length capM] 27) := ⟨_, rfl⟩
    have HCHW := hid (HCH.out (.cells #[.int .i64 k, .int .i64 n, .string s, .slice oL L.length capL, .slice oM V.length capM] 27) (.int .i64 (c + 1)))
    have HRWW := hid (HRW.out (.cells #[.int .i64 k, .int .i64 n, .string s, .slice oL L.length capL, .slice oM V.length capM] 27) (.int .i64 (c + 1)))
    have HCWW := hid (HCW.out (.cells #[.int .i64 k, .int .i64 n, .string s, .slice oL L.length capL, .slice oM V.length capM] 27) (.int .i64 (c + 1)))
    have HWW := hid (HW1.out (.cells #[.int .i64 k, .int .i64 n, .string s, .slice oL L.length capL, .slice oM V.length capM] 27) (.int .i64 (c + 1)))
    have HBX3 := hid (show W1.cell? ⟨w.heap.size, 3, none⟩ = some (.slice oL L.length capL) by
      have hnew := World.cell?_alloc_new (w.setCell ⟨bw, 0, none⟩ (.int .i64 (c + 1))) #[.int .i64 k, .int .i64 n, .string s, .slice oL L.length capL, .slice oM V.length capM] 27 3
      rw [World.size_setCell] at hnew
      rw [hW1]; exact hnew)
    have HBX4 := hid (show W1.cell? ⟨w.heap.size, 4, none⟩ = some (.slice oM V.length capM) by
      have hnew := World.cell?_alloc_new (w.setCell ⟨bw, 0, none⟩ (.int .i64 (c + 1))) #[.int .i64 k, .int .i64 n, .string s, .slice oL L.length capL, .slice oM V.length capM] 27 4
      rw [World.size_setCell] at hnew
      rw [hW1]; exact hnew)
    have hWs : W1.heap.size = w.heap.size + 1 := by rw [hW1]; simp
    rw [← hW1] at HCHW HRWW HCWW HWW HB1
    clear hb1 hW1 HW1 HCH HRW HCW
    have hx3 := keepCell HB1.out HBX3.out
    have HZ : Hid (∀ X, Chg bw (bw + 1) W1 X → Below w0.heap.size w0 X) := fun X hX => HWW.out.trans (hX.below hbw HWW.out.size)
    go_wp2_with fail
    go_loopw [35] (fun i wr => ∃ j : Nat, j ≤ L.length ∧ i = .int .i64 j ∧ Hid (Chg bw (bw + 1) W1 wr) ∧ Hid (Row wr bw 101 1) ∧ Hid (wr.cell? ⟨bw, 0, none⟩ = some (.int .i64 (c + 1 + szL (L.take j)))) ∧ Hid (∀ (i : Nat) (t : VT), i < j → L[i]? = some t → d + 1 + hgT t ≤ 33 ∧ plainT t = true) ∧ c + 1 + szL (L.take j) ≤ 4096) (fun i _ => L.length - (intOf i).toNat)
    case atStart =>
      exact ⟨0, Nat.zero_le _, rfl, Chg.of HB1.out, HRWW.out.onto (HB1.out.block _ HRWW.out.lt), (keepCell HB1.out HCWW.out).trans (by simp [szL]), fun i t h => absurd h (Nat.not_lt_zero _), by simp [szL]; omega⟩
    case round =>
      obtain ⟨j, hj, rfl, HCg, HRw, HCl, HJ, hcj⟩ := hrel
      have hbw0 := HZ.out _ HCg.out
      by_cases hlt2 : j < L.length
      · obtain ⟨t, ht⟩ : ∃ t, L[j]? = some t := ⟨L[j], List.getElem?_eq_getElem hlt2⟩
        obtain rfl := hL3 (by omega)
        obtain ⟨d0, d1, d2, d3, d4⟩ := (cL j t ht).onto hbw0
        obtain ⟨o1, n1, c1, o2, n2, c2, hp, hq⟩ := hv_slices (rL j t ht)
        have HR := hid (rL j t ht)
        rw [hp, hq] at HR
        rw [hp] at d3
        rw [hq] at d4
        have hszs := szL_take_succ L j t ht
        have hstz := HTL.out j t ht
        have HSTEP : Hid (∀ X : World, Below wr.heap.size wr X → Calls Tryz.prog 66 #[.pointer (some ⟨bw, 0, none⟩), vv t (.slice o1 n1 c1) (.slice o2 n2 c2), .int .i64 (d + 1)] X fun e w' => e = .returned (.bool (mayB (c + 1 + szL (L.take j)) (d + 1) t)) ∧ Chg bw (bw + 1) wr w' ∧ Row w' bw 101 1 ∧ (mayB (c + 1 + szL (L.take j)) (d + 1) t = true → w'.cell? ⟨bw, 0, none⟩ = some (.int .i64 (c + 1 + szL (L.take j) + szT t)))) :=
          fun X hX => (ih t _ _ bw _ (d + 1) w0 X (by omega) HR.out HG.out (hbw0.trans (hX.mono hbw0.size)) hbw (HRw.out.onto (hX.block _ HRw.out.lt)) (keepCell hX HCl.out) ⟨by omega, by omega⟩ ⟨by omega, by omega⟩).mono fun e w' ⟨h1, h2, h3, h4⟩ => ⟨h1, (Chg.of hX).trans h2, h3, h4⟩
        simp only [vv] at HSTEP
        clear hp hq
        cases hm : mayB (c + 1 + szL (L.take j)) (d + 1) t with
        | true =>
          rw [hm] at HSTEP
          have HM := hid (good_sz hm)
          clear hm
          go_wp2_with (go_at_call 66; go_must (refine (HSTEP.out _ ?_).mono ?_; (repeat (first | exact Below.refl _ _ | apply valloc_bel | (refine vset_bel ?_ (by simp)))); rintro e w2 ⟨rfl, hc2, hr2, hcl2⟩))
          go_roundw
          case rel => exact ⟨j + 1, hlt2, val_int (by omega), HCg.out.trans hc2, hr2, (hcl2 (by first | rfl | trivial)).trans (by rw [hszs]; congr 2; omega), fun i t' hi ht' => by
            by_cases hij : i = j
            · subst hij; rw [ht] at ht'; cases ht'; exact ⟨HM.out.2.1, HM.out.2.2⟩
            · exact HJ.out i t' (by omega) ht', by have := HM.out.1; omega⟩
          case measure => simp [intOf]; omega
        | false =>
          rw [hm] at HSTEP
          have HR0 := hid (show res = false by
            cases res with
            | false => rfl
            | true => have := HYL.out rfl j t ht; rw [hm] at this; cases this)
          clear hm
          go_wp2_with (go_at_call 66; go_must (refine (HSTEP.out _ ?_).mono ?_; (repeat (first | exact Below.refl _ _ | apply valloc_bel | (refine vset_bel ?_ (by simp)))); rintro e w2 ⟨rfl, hc2, hr2, hcl2⟩))
          go_ret
          exact ⟨ret_bool HR0.out.symm, HCHW.out.trans (HCg.out.trans hc2), hr2, fun h => by rw [HR0.out] at h; cases h⟩
      · have hjL : j = L.length := by omega
        subst hjL
        rw [List.take_length] at hcj HCl
        have hx4 := (HCg.out.cell (p := ⟨w.heap.size, 4, none⟩) (by rw [hWs]; exact Nat.lt_succ_self _) (by show ¬ (bw ≤ w.heap.size ∧ w.heap.size < bw + 1); omega)).trans HBX4.out
        go_wp2_with fail
        clear hx4 hx3
        go_loopw [49] (fun i wr => ∃ j : Nat, j ≤ V.length ∧ i = .int .i64 j ∧ Hid (Chg bw (bw + 1) W1 wr) ∧ Hid (Row wr bw 101 1) ∧ Hid (wr.cell? ⟨bw, 0, none⟩ = some (.int .i64 (c + 1 + szL L + szL (V.take j)))) ∧ Hid (∀ (i : Nat) (t : VT), i < j → V[i]? = some t → d + 1 + hgT t ≤ 33 ∧ plainT t = true) ∧ c + 1 + szL L + szL (V.take j) ≤ 4096) (fun i _ => V.length - (intOf i).toNat)
        case atStart => exact ⟨0, Nat.zero_le _, rfl, HCg.out, HRw.out, HCl.out.trans (by simp [szL]), fun i t h => absurd h (Nat.not_lt_zero _), by simp [szL]; omega⟩
        case round =>
          have HJL := HJ
          clear hbw0 HCg HRw HCl HJ hj hlt2
          have HCJ := hid hcj
          clear hcj
          obtain ⟨j, hj, rfl, HCg, HRw, HCl, HJ, hcj⟩ := hrel
          have hbw0 := HZ.out _ HCg.out
          by_cases hlt2 : j < V.length
          · obtain ⟨t, ht⟩ : ∃ t, V[j]? = some t := ⟨V[j], List.getElem?_eq_getElem hlt2⟩
            obtain ⟨ck, hck⟩ : ∃ c, K[j]? = some c := ⟨K[j], List.getElem?_eq_getElem (by omega)⟩
            obtain rfl := hM3 (by omega)
            have hnode := (cM j t ht).onto hbw0
            simp only [Node, nx] at hnode
            obtain ⟨d0, d1, d2, d3, d4⟩ := hnode
            have k0 := keepCell hbw0 (cK j ck hck).1
            obtain ⟨o1, n1, c1, o2, n2, c2, hp, hq⟩ := hv_slices (rM j t ht)
            have HR := hid (rM j t ht)
            rw [hp, hq] at HR
            rw [hp] at d3
            rw [hq] at d4
            have hszs := szL_take_succ V j t ht
            have hstz := HTV.out j t ht
            have HSTEP : Hid (∀ X : World, Below wr.heap.size wr X → Calls Tryz.prog 66 #[.pointer (some ⟨bw, 0, none⟩), vv t (.slice o1 n1 c1) (.slice o2 n2 c2), .int .i64 (d + 1)] X fun e w' => e = .returned (.bool (mayB (c + 1 + szL L + szL (V.take j)) (d + 1) t)) ∧ Chg bw (bw + 1) wr w' ∧ Row w' bw 101 1 ∧ (mayB (c + 1 + szL L + szL (V.take j)) (d + 1) t = true → w'.cell? ⟨bw, 0, none⟩ = some (.int .i64 (c + 1 + szL L + szL (V.take j) + szT t)))) :=
              fun X hX => (ih t _ _ bw _ (d + 1) w0 X (by omega) HR.out HG.out (hbw0.trans (hX.mono hbw0.size)) hbw (HRw.out.onto (hX.block _ HRw.out.lt)) (keepCell hX HCl.out) ⟨by omega, by omega⟩ ⟨by omega, by omega⟩).mono fun e w' ⟨h1, h2, h3, h4⟩ => ⟨h1, (Chg.of hX).trans h2, h3, h4⟩
            simp only [vv] at HSTEP
            clear hp hq
            cases hm : mayB (c + 1 + szL L + szL (V.take j)) (d + 1) t with
            | true =>
              rw [hm] at HSTEP
              have HM := hid (good_sz hm)
              clear hm
              go_wp2_with (go_at_call 66; go_must (refine (HSTEP.out _ ?_).mono ?_; (repeat (first | exact Below.refl _ _ | apply valloc_bel | (refine vset_bel ?_ (by simp)))); rintro e w2 ⟨rfl, hc2, hr2, hcl2⟩))
              go_roundw
              case rel => exact ⟨j + 1, hlt2, val_int (by omega), HCg.out.trans hc2, hr2, (hcl2 (by first | rfl | trivial)).trans (by rw [hszs]; congr 2; omega), fun i t' hi ht' => by
                by_cases hij : i = j
                · subst hij; rw [ht] at ht'; cases ht'; exact ⟨HM.out.2.1, HM.out.2.2⟩
                · exact HJ.out i t' (by omega) ht', by have := HM.out.1; omega⟩
              case measure => simp [intOf]; omega
            | false =>
              rw [hm] at HSTEP
              have HR0 := hid (show res = false by
                cases res with
                | false => rfl
                | true => have := HYV.out rfl j t ht; rw [hm] at this; cases this)
              clear hm
              go_wp2_with (go_at_call 66; go_must (refine (HSTEP.out _ ?_).mono ?_; (repeat (first | exact Below.refl _ _ | apply valloc_bel | (refine vset_bel ?_ (by simp)))); rintro e w2 ⟨rfl, hc2, hr2, hcl2⟩))
              go_ret
              exact ⟨ret_bool HR0.out.symm, HCHW.out.trans (HCg.out.trans hc2), hr2, fun h => by rw [HR0.out] at h; cases h⟩
          · have hjV : j = V.length := by omega
            subst hjV
            rw [List.take_length] at hcj HCl
            have HR1 := hid (show res = true from HYA.out (by omega) hcj (by first | rfl | trivial) (fun i t h => HJL.out i t (lt_of_some h) h) (fun i t h => HJ.out i t (lt_of_some h) h))
            go_wp2_with fail
            go_ret
            exact ⟨ret_bool HR1.out.symm, HCHW.out.trans HCg.out, HRw.out, fun _ => HCl.out.trans (by rw [HSZ.out]; congr 2; omega)⟩
set_option maxRecDepth 100000 in
set_option maxHeartbeats 1000000 in
theorem vgood_any (T : VT) (x y : Value) (w : World) (hg : Glob w) (hT : HV w T x y) :
    Calls Tryz.prog 50 #[vv T x y] w fun e w' => e = .returned (.bool (mayB 0 1 T)) ∧ Below w.heap.size w w' := by
  have HT := hid hT
  have HG := hid hg
  obtain ⟨oL, nL, cL, oM, nM, cM, rfl, rfl⟩ := hv_slices hT
  have HSTEP : Hid (∀ X : World, Below w.heap.size w X → Row X (w.heap.size + 1) 101 1 → X.cell? ⟨w.heap.size + 1, 0, none⟩ = some (.int .i64 0) → Calls Tryz.prog 66 #[.pointer (some ⟨w.heap.size + 1, 0, none⟩), vv T (.slice oL nL cL) (.slice oM nM cM), .int .i64 1] X fun e w' => e = .returned (.bool (mayB 0 1 T)) ∧ Below w.heap.size w w') :=
    fun X hX hr hc => (wgood_any (szT T) T _ _ (w.heap.size + 1) 0 1 w X (Nat.le_refl _) HT.out HG.out hX (by omega) hr hc (by omega) (by omega)).mono fun e w' ⟨h1, h2, _, _⟩ => ⟨h1, hX.trans (h2.below (by omega) hX.size)⟩
  clear hT hg
  simp only [vv] at HSTEP ⊢
  have HNW : Hid (∀ o, Row ((w.alloc o).alloc (.cells #[.int .i64 0] 101)) (w.heap.size + 1) 101 1) := fun o => by
    have := Row.new (w.alloc o) #[.int .i64 0] 101
    rw [World.size_alloc] at this
    exact this
  go_enter Tryz.func50, Tryz.ntmps50
  go_wp2_with (go_at_call 66; go_must (refine (HSTEP.out _ (valloc_bel (valloc_bel (Below.refl _ _) _) _) (HNW.out _) (by simp)).mono ?_; rintro e w1 ⟨rfl, hb1⟩))
  go_ret
  exact ⟨rfl, hb1⟩
end Go.Proofs.YtkhjahpkbjafaaaGreatDoor
namespace Go.Proofs.YtkhjahpkbjafaaaGreatDoor
open Go.RowKit

def GlobP (w : World) : Prop := Glob w ∧ GlobT w
theorem GlobP.on {w w' : World} (h : GlobP w) (hb : Below w.heap.size w w') : GlobP w' := ⟨h.1.on hb, h.2.on hb⟩
/-- what is written of a tree: nothing of one that may not be -/
def wrB (inl : Bool) (T : VT) : List UInt8 := if mayB 0 1 T = true then txs (tkV (indO inl 0) T) else []
theorem val_ne (i : Option Nat) (v : VT) (hp : plainT v = true) (hw : wfT v) : txs (tkV i v) ≠ [] := by
  have h0 := val_ok i v hp hw [] edr_nil
  cases v with
  | mk k n s L K V =>
    rw [tkV] at h0 ⊢
    split
    · rw [txs_sg]; simp
    · split
      · rw [txs_sg]; simp
      · rename_i h5 h6
        rw [if_neg h5, if_neg h6] at h0
        rw [txs_cons]
        intro e
        have hb : ∀ b, tkS k n s ≠ .bl b := fun b e2 => by
          unfold tkS at e2
          (repeat' split at e2) <;> cases e2
        obtain ⟨b, -, -, h1, -, -⟩ := tok_lw (tkS k n s) [] (txs [] ++ []) h0.1 hb
        have h2 : (tkS k n s).tx ++ (txs [] ++ []) = [] := by simpa [txs] using e
        rw [List.nil_append, h2] at h1
        simp at h1
set_option maxRecDepth 100000 in
set_option maxHeartbeats 2000000 in
theorem pwriteT_any (T : VT) (x y : Value) (inl : Bool) (w : World) (hg : GlobP w) (hT : HV w T x y) :
    Calls Tryz.prog 38 #[vv T x y, .bool inl] w fun e w' => e = .returned (.string (mkS (wrB inl T))) ∧ Below w.heap.size w w' := by
  have hal := valloc_bel (Below.refl w.heap.size w) (.cells #[.int .i64 T.kd, .int .i64 T.nm, .string T.st, x, y] 27)
  have CG := hid (vgood_any T x y _ (hg.1.on hal) (hT.onto hal))
  have HAL := hid hal
  have HG := hid hg
  have HT := hid hT
  have HWF := hid hT.wfT
  clear hal hg hT
  simp only [vv] at CG ⊢
  go_enter Tryz.func38, Tryz.ntmps38
  go_wp2_with fail
  go_at_call 50
  refine CG.out.mono ?_
  rintro e w1 ⟨rfl, hb1⟩
  have hbx : Below (w.heap.size + 1) (w.alloc (.cells #[.int .i64 T.kd, .int .i64 T.nm, .string T.st, x, y] 27)) w1 := by simpa using hb1
  have c0 := box_cell w w1 _ _ _ _ _ _ hbx 0 _ rfl
  have c1 := box_cell w w1 _ _ _ _ _ _ hbx 1 _ rfl
  have c2 := box_cell w w1 _ _ _ _ _ _ hbx 2 _ rfl
  have c3 := box_cell w w1 _ _ _ _ _ _ hbx 3 _ rfl
  have c4 := box_cell w w1 _ _ _ _ _ _ hbx 4 _ rfl
  have HB1 := hid (vonto HAL.out hb1)
  clear hb1 hbx CG HAL
  cases hm : mayB 0 1 T with
  | false =>
    have HR := hid (show wrB inl T = [] by unfold wrB; rw [hm]; rfl)
    go_wp2_with fail
    go_ret
    exact ⟨ret_st (by rw [HR.out]; rfl), HB1.out⟩
  | true =>
  obtain ⟨hpl, hsz, hhg⟩ := may_parts hm
  have HR := hid (show wrB inl T = txs (tkV (indO inl 0) T) by unfold wrB; rw [if_pos hm])
  have hlen := val_len T (indO inl 0) hpl HWF.out (fun k hk => by cases inl <;> simp [indO] at hk; omega)
  have hne := val_ne (indO inl 0) T hpl HWF.out
  have HWT : Hid (∀ W : World, Pr W w1.heap.size [] inl → Below w1.heap.size w1 W → Calls Tryz.prog 51 #[.pointer (some ⟨w1.heap.size, 0, none⟩), vv T x y, .int .i64 0] W (Wr w1.heap.size ([] ++ txs (tkV (indO inl 0) T)) inl W)) := fun W hW hb => pvalue_any (szT T) T x y w1.heap.size [] inl 0 w1 W (Nat.le_refl _) (HT.out.onto HB1.out) hb (Nat.le_refl _) (HG.out.2.on HB1.out) hpl hW (by omega) (by omega) (by omega) (by simp; omega)
  simp only [vv, List.nil_append] at HWT
  have HNE := hid hne
  clear hlen hne hm hpl
  have hal2 := valloc_bel (Below.refl w1.heap.size w1) (.cells #[.pointer none, .slice none 0 0, .bool inl] 83)
  have HPR : Hid (Pr (w1.alloc (.cells #[.pointer none, .slice none 0 0, .bool inl] 83)) w1.heap.size [] inl) := ⟨.pointer none, .slice none 0 0, heap_alloc_new w1 _, Or.inl rfl, World.ownsRow_nil _ _ _ _⟩
  replace c0 := keepCell hal2 c0
  replace c1 := keepCell hal2 c1
  replace c2 := keepCell hal2 c2
  replace c3 := keepCell hal2 c3
  replace c4 := keepCell hal2 c4
  have HAL2 := hid hal2
  clear hal2
  go_wp2_with fail
  go_at_call 51
  refine (HWT.out _ HPR.out HAL2.out).mono ?_
  rintro e w2 ⟨rfl, hp2, hk2⟩
  have CS := hid (pstring_any w1.heap.size _ inl w2 hp2 HNE.out)
  have HB2 := hid (HB1.out.trans ((HAL2.out.trans hk2.1).mono HB1.out.size))
  clear hp2 hk2 HWT HPR
  go_wp2_with fail
  go_at_call 52
  refine CS.out.mono ?_
  rintro e w3 ⟨rfl, hb3⟩
  have HB3 := hid (HB2.out.trans (hb3.mono HB1.out.size))
  clear hb3 CS
  go_wp2_with fail
  go_ret
  exact ⟨ret_st (by rw [HR.out]), HB3.out⟩
theorem compact_any (T : VT) (x y : Value) (w : World) (hg : GlobP w) (hT : HV w T x y) :
    Calls Tryz.prog 26 #[vv T x y] w fun e w' => e = .returned (.string (mkS (wrB false T))) ∧ Below w.heap.size w w' := by
  have CW := hid (fun X (hX : Below w.heap.size w X) => pwriteT_any T x y false X (hg.on hX) (hT.onto hX))
  simp only [vv] at CW ⊢
  clear hg hT
  go_enter Tryz.func26, Tryz.ntmps26
  go_wp2_with (go_at_call 38; go_must (refine (CW.out _ (by first | exact Below.refl _ _ | exact valloc_bel (Below.refl _ _) _)).mono ?_; rintro e w1 ⟨rfl, hb1⟩))
  go_ret
  first | exact ⟨rfl, hb1⟩ | exact ⟨rfl, vonto (valloc_bel (Below.refl _ _) _) hb1⟩
theorem indent_any (T : VT) (x y : Value) (w : World) (hg : GlobP w) (hT : HV w T x y) :
    Calls Tryz.prog 27 #[vv T x y] w fun e w' => e = .returned (.string (mkS (wrB true T))) ∧ Below w.heap.size w w' := by
  have CW := hid (fun X (hX : Below w.heap.size w X) => pwriteT_any T x y true X (hg.on hX) (hT.onto hX))
  simp only [vv] at CW ⊢
  clear hg hT
  go_enter Tryz.func27, Tryz.ntmps27
  go_wp2_with (go_at_call 38; go_must (refine (CW.out _ (by first | exact Below.refl _ _ | exact valloc_bel (Below.refl _ _) _)).mono ?_; rintro e w1 ⟨rfl, hb1⟩))
  go_ret
  first | exact ⟨rfl, hb1⟩ | exact ⟨rfl, vonto (valloc_bel (Below.refl _ _) _) hb1⟩
end Go.Proofs.YtkhjahpkbjafaaaGreatDoor
namespace Go.Proofs.YtkhjahpkbjafaaaGreatDoor
open Go.RowKit

def tOne : VT := .mk 6 0 ⟨#[]⟩ [] [⟨#[97]⟩] [.mk 2 1 ⟨#[]⟩ [] [] []]
theorem one_hv (w : World) (g cap : Nat) (hc1 : 1 ≤ cap) (hc2 : cap ≤ maxLen) (h0 : w.cell? ⟨g, 0, none⟩ = some (.string ⟨#[97]⟩)) (h1 : w.cell? ⟨g, 1, none⟩ = some (.int .i64 2)) (h2 : w.cell? ⟨g, 2, none⟩ = some (.int .i64 1)) (h3 : w.cell? ⟨g, 3, none⟩ = some (.string ⟨#[]⟩)) (h4 : w.cell? ⟨g, 4, none⟩ = some (.slice none 0 0)) (h5 : w.cell? ⟨g, 5, none⟩ = some (.slice none 0 0)) :
    HV w tOne (.slice none 0 0) (.slice (some ⟨g, 0, none⟩) 1 cap) := by
  have hleaf : HV w (.mk 2 1 ⟨#[]⟩ [] [] []) (.slice none 0 0) (.slice none 0 0) := hv_leaf w 2 1 ⟨#[]⟩ (by decide) (by decide) (by decide)
  refine HV.mk ⟨0, 0, none⟩ ⟨g, 0, none⟩ (fun _ => .nilIface) (fun _ => .nilIface) (fun _ => .slice none 0 0) (fun _ => .slice none 0 0) (by decide) (by decide) (by decide) ⟨none, 0, rfl, Nat.le_refl _, Nat.zero_le _, fun h => absurd h (by simp)⟩ ⟨_, _, rfl, hc1, hc2, fun _ => rfl⟩ rfl (fun i t h => by simp at h) (fun i u h => ?_) (fun i t h => ?_) (fun i t h => by simp at h) (fun i t h => ?_)
  · cases i with
    | zero => simp at h; subst h; exact ⟨by simpa [Addr.add] using h0, by decide⟩
    | succ i => simp at h
  · cases i with
    | zero =>
      simp at h; subst h
      refine ⟨?_, ?_, ?_, ?_, ?_⟩
      · simpa [Addr.add, nx, VT.kd] using h1
      · simpa [Addr.add, nx, VT.nm] using h2
      · simpa [Addr.add, nx, VT.st] using h3
      · simpa [Addr.add, nx] using h4
      · simpa [Addr.add, nx] using h5
    | succ i => simp at h
  · cases i with
    | zero => simp at h; subst h; exact hleaf
    | succ i => simp at h
set_option maxRecDepth 100000 in
set_option maxHeartbeats 1000000 in
theorem one_any (w : World) :
    Calls Tryz.prog 37 #[] w fun e w' => ∃ y, e = .returned (vv tOne (.slice none 0 0) y) ∧ HV w' tOne (.slice none 0 0) y ∧ Below w.heap.size w w' := by
  go_enter Tryz.func37, Tryz.ntmps37
  go_wp2_with fail
  have hs := World.size_alloc w (.cells #[.int .i64 6, .int .i64 0, .string ⟨#[]⟩, .slice none 0 0, .slice (some ⟨w.heap.size + 1, 0, none⟩) 1 1] 27)
  have hB : Below w.heap.size w ((w.alloc (.cells #[.int .i64 6, .int .i64 0, .string ⟨#[]⟩, .slice none 0 0, .slice (some ⟨w.heap.size + 1, 0, none⟩) 1 1] 27)).alloc (.cells #[.string ⟨#[97]⟩, .int .i64 2, .int .i64 1, .string ⟨#[]⟩, .slice none 0 0, .slice none 0 0] 52)) := valloc_bel (valloc_bel (Below.refl _ _) _) _
  have hn := heap_alloc_new (w.alloc (.cells #[.int .i64 6, .int .i64 0, .string ⟨#[]⟩, .slice none 0 0, .slice (some ⟨w.heap.size + 1, 0, none⟩) 1 1] 27)) (.cells #[.string ⟨#[97]⟩, .int .i64 2, .int .i64 1, .string ⟨#[]⟩, .slice none 0 0, .slice none 0 0] 52)
  rw [hs] at hn
  have ho := (Lib.alloc_old _ (.cells #[.string ⟨#[97]⟩, .int .i64 2, .int .i64 1, .string ⟨#[]⟩, .slice none 0 0, .slice none 0 0] 52) w.heap.size (by omega)).trans (heap_alloc_new w (.cells #[.int .i64 6, .int .i64 0, .string ⟨#[]⟩, .slice none 0 0, .slice (some ⟨w.heap.size + 1, 0, none⟩) 1 1] 27))
  have b0 := cell_heap ho 0
  have b1 := cell_heap ho 1
  have b2 := cell_heap ho 2
  have b3 := cell_heap ho 3
  have b4 := cell_heap ho 4
  have HV1 := one_hv _ (w.heap.size + 1) 1 (Nat.le_refl _) (by unfold maxLen; omega) (cell_heap hn 0) (cell_heap hn 1) (cell_heap hn 2) (cell_heap hn 3) (cell_heap hn 4) (cell_heap hn 5)
  generalize ((w.alloc (.cells #[.int .i64 6, .int .i64 0, .string ⟨#[]⟩, .slice none 0 0, .slice (some ⟨w.heap.size + 1, 0, none⟩) 1 1] 27)).alloc (.cells #[.string ⟨#[97]⟩, .int .i64 2, .int .i64 1, .string ⟨#[]⟩, .slice none 0 0, .slice none 0 0] 52)) = W at b0 b1 b2 b3 b4 HV1 hB ⊢
  simp only [List.getElem?_toArray, List.getElem?_cons_zero, List.getElem?_cons_succ] at b0 b1 b2 b3 b4
  exact bodyPost_ret (v := vv tOne (.slice none 0 0) (.slice (some ⟨w.heap.size + 1, 0, none⟩) 1 1)) (by simp [results, Tryz.results37, go_sem, vv, tOne, VT.kd, VT.nm, VT.st, b0, b1, b2, b3, b4]) rfl ⟨_, rfl, HV1, hB⟩
theorem one_wr : mkS (wrB false tOne) = ⟨#[123, 34, 97, 34, 58, 49, 125]⟩ ∧ mkS (wrB true tOne) = ⟨#[123, 10, 32, 32, 34, 97, 34, 58, 32, 49, 10, 125]⟩ := by
  constructor <;> kernel_rfl
set_option maxRecDepth 100000 in
set_option maxHeartbeats 1000000 in
theorem awake9 (w : World) (hg : GlobP w) :
    Calls Tryz.prog 25 #[] w fun e w' => e = .returned (.bool true) ∧ Below w.heap.size w w' := by
  have HG := hid hg
  have CO := hid (fun X => one_any X)
  have CC := hid (fun (y : Value) X (hX : Below w.heap.size w X) (hv : HV X tOne (.slice none 0 0) y) => compact_any tOne (.slice none 0 0) y X (HG.out.on hX) hv)
  have CI := hid (fun (y : Value) X (hX : Below w.heap.size w X) (hv : HV X tOne (.slice none 0 0) y) => indent_any tOne (.slice none 0 0) y X (HG.out.on hX) hv)
  rw [one_wr.1] at CC
  rw [one_wr.2] at CI
  clear hg
  go_enter Tryz.func25, Tryz.ntmps25
  go_wp2_with fail
  go_at_call 37
  refine (CO.out _).mono ?_
  rintro e w1 ⟨y1, rfl, hv1, hb1⟩
  go_wp2_with fail
  go_at_call 26
  refine (CC.out _ _ hb1 hv1).mono ?_
  rintro e w2 ⟨rfl, hb2⟩
  have HB2 := hid (vonto hb1 hb2)
  clear hb1 hb2 hv1
  go_wp2_with fail
  go_at_call 37
  refine (CO.out _).mono ?_
  rintro e w3 ⟨y3, rfl, hv3, hb3⟩
  have HB3 := hid (vonto HB2.out hb3)
  go_wp2_with fail
  go_at_call 27
  refine (CI.out _ _ HB3.out hv3).mono ?_
  rintro e w4 ⟨rfl, hb4⟩
  have HB4 := hid (vonto HB3.out hb4)
  clear hb3 hv3 hb4
  go_wp2_with fail
  go_ret
  exact ⟨rfl, HB4.out⟩
end Go.Proofs.YtkhjahpkbjafaaaGreatDoor
