/- ValueNests, walked: a value may be so deep, and of so many nodes, and no more. -/
import Derived.Test.YtnpojefcibfgkaaGreatDoorVNest
import Derived.Deep.LoopGhost
import Derived.OpenShut
namespace Go.Proofs.YtnpojefcibfgkaaGreatDoor
open Go.RowKit

set_option maxRecDepth 100000 in
set_option maxHeartbeats 2000000 in
theorem nests_of (AW : ∀ w, Glob w → Calls Tryz.prog 9 #[] w fun e w' => e = .returned (.bool true) ∧ Below w.heap.size w w') (deep wide : Int) (w0 : (Lit.int .i64 deep).wf = true) (w1 : (Lit.int .i64 wide).wf = true) (w : World) (hg : Glob w) :
    Calls Tryz.prog 8 #[.int .i64 deep, .int .i64 wide] w fun e w' => e = .returned (.bool true) ∧ Below w.heap.size w w' := by
  have HG := hid hg
  have HAW := hid AW
  clear AW
  have ba := bounds_i64 w0
  have bb := bounds_i64 w1
  clear hg w0 w1
  by_cases h1 : deep < 1
  · go_enter Tryz.func8, Tryz.ntmps8
    go_wp2_with (go_at_call 9; go_must (refine (HAW.out _ HG.out).mono ?_; rintro e wa ⟨rfl, hba⟩))
    go_ret
    exact ⟨rfl, hba⟩
  by_cases h2 : deep > 40
  · go_enter Tryz.func8, Tryz.ntmps8
    go_wp2_with (go_at_call 9; go_must (refine (HAW.out _ HG.out).mono ?_; rintro e wa ⟨rfl, hba⟩))
    go_ret
    exact ⟨rfl, hba⟩
  by_cases h3 : wide < 0
  · go_enter Tryz.func8, Tryz.ntmps8
    go_wp2_with (go_at_call 9; go_must (refine (HAW.out _ HG.out).mono ?_; rintro e wa ⟨rfl, hba⟩))
    go_ret
    exact ⟨rfl, hba⟩
  by_cases h4 : wide > 4200
  · go_enter Tryz.func8, Tryz.ntmps8
    go_wp2_with (go_at_call 9; go_must (refine (HAW.out _ HG.out).mono ?_; rintro e wa ⟨rfl, hba⟩))
    go_ret
    exact ⟨rfl, hba⟩
  obtain ⟨D, hD⟩ : ∃ D : Nat, deep = (D : Int) + 1 := ⟨(deep - 1).toNat, by omega⟩
  obtain ⟨N, hN⟩ : ∃ N : Nat, wide = (N : Int) := ⟨wide.toNat, by omega⟩
  subst hD hN
  have hD : D ≤ 39 := by omega
  have hN : N ≤ 4200 := by omega
  have hD1 : (D : Int) ≤ 39 := by omega
  have hN1 : (N : Int) ≤ 4200 := by omega
  clear ba bb
  have hmk := Tryz.made27 N (by omega)
  go_enter Tryz.func8, Tryz.ntmps8
  go_wp2_with fail
  go_at_call 9
  refine (HAW.out _ HG.out).mono ?_
  rintro e wa ⟨rfl, hba⟩
  have HBA := hid hba
  clear hba
  go_wp2_with fail
  have HB0 : Hid (Bx (wa.alloc (.cells #[.int .i64 0, .int .i64 0, .string ⟨#[]⟩, .slice none 0 0, .slice none 0 0] 27)) wa.heap.size (nest 0) (.slice none 0 0) (.slice none 0 0)) := bx_new (hv_zero wa) _
  have HR0 : Hid (Row (wa.alloc (.cells #[.int .i64 0, .int .i64 0, .string ⟨#[]⟩, .slice none 0 0, .slice none 0 0] 27)) wa.heap.size 27 5) := Row.new wa _ _
  have HW0 : Hid (Below w.heap.size w (wa.alloc (.cells #[.int .i64 0, .int .i64 0, .string ⟨#[]⟩, .slice none 0 0, .slice none 0 0] 27))) := valloc_bel HBA.out _
  go_loopw [6] (fun i wr => ∃ j : Nat, i = .int .i64 ((j : Int) + 1) ∧ j ≤ D ∧ Hid (Below w.heap.size w wr) ∧ Hid (Row wr wa.heap.size 27 5) ∧ Hid (∃ o n c, Bx wr wa.heap.size (nest j) (.slice o n c) (.slice none 0 0))) (fun i _ => D + 1 - (intOf i).toNat)
  case atStart => exact ⟨0, rfl, Nat.zero_le _, HW0, HR0, ⟨_, _, _, HB0⟩⟩
  case round =>
    clear HB0 HR0 HW0
    obtain ⟨j, rfl, hj, HW, HR, HX⟩ := hrel
    obtain ⟨o, n, c, hbx⟩ := HX.out
    have HBX := hid hbx
    obtain ⟨kk, hk1, hk2, hk3⟩ := nest_cells j
    obtain ⟨q0, q1, q2, q3, q4⟩ := hbx.cells
    rw [hk1] at q0
    rw [hk2] at q1
    rw [hk3] at q2
    clear hbx HX
    by_cases hlt : j < D
    · have HSTEP := hid (list_one wr j (by omega) o n c HBX.out.2)
      rw [hk1, hk2, hk3] at HSTEP
      have hltI : (j : Int) + 1 < (D : Int) + 1 := by omega
      have hbs : wa.heap.size < wr.heap.size := HR.out.lt
      clear hk1 hk2 hk3
      go_wp2_with fail
      go_at_call 35
      refine HSTEP.out.mono ?_
      rintro e w1 ⟨o', n', c', rfl, hf1, hb1⟩
      have R1 := hid (HR.out.onto (hb1.block _ hbs))
      have HF1 := hid hf1
      have HB1 := hid (vonto HW.out hb1)
      have hge := HBA.out.size
      clear hf1 hb1 q0 q1 q2 q3 q4
      obtain ⟨u0, e0⟩ := R1.out.cell (o := 0) (by decide)
      obtain ⟨u1, e1⟩ := R1.out.cell (o := 1) (by decide)
      obtain ⟨u2, e2⟩ := R1.out.cell (o := 2) (by decide)
      obtain ⟨u3, e3⟩ := R1.out.cell (o := 3) (by decide)
      obtain ⟨u4, e4⟩ := R1.out.cell (o := 4) (by decide)
      have z0 := R1.out.frozen
      go_wp2_with fail
      go_roundw
      case rel =>
        refine ⟨j + 1, val_int (by omega), hlt, vset_bel (vset_bel (vset_bel (vset_bel (vset_bel HB1.out hge) hge) hge) hge) hge, put5_row R1.out wa.heap.size 0 _ _ _ _ _, ⟨o', n', c', ?_, ?_⟩⟩
        · exact put5_node R1.out 0 (by decide) (nest (j + 1)) _ _
        · exact (HF1.out.onto (fun k g1 g2 => put5_heap _ wa.heap.size 0 _ _ _ _ _ k (by omega))).hv
      case measure => simp [intOf]; omega
    · have hjD : j = D := by omega
      subst hjD
      have hltI : ¬ (j : Int) + 1 < (j : Int) + 1 := by omega
      have HMW := hid (hv_wide wr N (by omega))
      have HBX2 : Hid (∀ o' o'', Bx ((wr.alloc o').alloc o'') wa.heap.size (nest j) (.slice o n c) (.slice none 0 0)) := fun o' o'' => HBX.out.onto (valloc_bel (valloc_bel (Below.refl _ _) _) _)
      clear q0 q1 q2 q3 q4
      have q0 := fun o' o'' => (HBX2.out o' o'').cells.1
      have q1 := fun o' o'' => (HBX2.out o' o'').cells.2.1
      have q2 := fun o' o'' => (HBX2.out o' o'').cells.2.2.1
      have q3 := fun o' o'' => (HBX2.out o' o'').cells.2.2.2.1
      have q4 := fun o' o'' => (HBX2.out o' o'').cells.2.2.2.2
      rw [hk1] at q0
      rw [hk2] at q1
      rw [hk3] at q2
      have HK := hid (And.intro hk1 (And.intro hk2 hk3))
      clear hk1 hk2 hk3
      go_wp2_with fail
      have g7 : Bx ((wr.alloc (.cells (madeCells #[.int .i64 0, .int .i64 0, .string ⟨#[]⟩, .slice none 0 0, .slice none 0 0] (N * 5)) 27)).alloc (.cells #[.int .i64 5, .int .i64 0, .string ⟨#[]⟩, .slice (some ⟨wr.heap.size, 0, none⟩) N N, .slice none 0 0] 27)) (wr.heap.size + 1) (wideT N) (.slice (some ⟨wr.heap.size, 0, none⟩) N N) (.slice none 0 0) := by
        have := bx_new HMW.out 27
        rw [World.size_alloc] at this
        exact this
      have g5 := HBX2.out (.cells (madeCells #[.int .i64 0, .int .i64 0, .string ⟨#[]⟩, .slice none 0 0, .slice none 0 0] (N * 5)) 27) (.cells #[.int .i64 5, .int .i64 0, .string ⟨#[]⟩, .slice (some ⟨wr.heap.size, 0, none⟩) N N, .slice none 0 0] 27)
      have gw := valloc_bel (valloc_bel HW.out (.cells (madeCells #[.int .i64 0, .int .i64 0, .string ⟨#[]⟩, .slice none 0 0, .slice none 0 0] (N * 5)) 27)) (.cells #[.int .i64 5, .int .i64 0, .string ⟨#[]⟩, .slice (some ⟨wr.heap.size, 0, none⟩) N N, .slice none 0 0] 27)
      clear q0 q1 q2 q3 q4 hmk
      generalize (wr.alloc (.cells (madeCells #[.int .i64 0, .int .i64 0, .string ⟨#[]⟩, .slice none 0 0, .slice none 0 0] (N * 5)) 27)).alloc (.cells #[.int .i64 5, .int .i64 0, .string ⟨#[]⟩, .slice (some ⟨wr.heap.size, 0, none⟩) N N, .slice none 0 0] 27) = V at g5 g7 gw ⊢
      generalize wr.heap.size + 1 = b7 at g7 ⊢
      generalize wa.heap.size = b5 at g5 ⊢
      have G5 := hid g5
      have G7 := hid g7
      have GW := hid gw
      have hjj : (j : Int) ≤ 39 := by omega
      clear g5 g7 gw HBX HBX2 HR HW HMW
      have hsz5 := nest_sz j
      have cG5 := hid (fun X (hX : Below V.heap.size V X) => call_above hX (vgood_any (nest j) _ _ X ((HG.out.on GW.out).on hX) (G5.out.2.onto hX)))
      have cG7 := hid (fun X (hX : Below V.heap.size V X) => call_above hX (vgood_any (wideT N) _ _ X ((HG.out.on GW.out).on hX) (G7.out.2.onto hX)))
      have cD5 := hid (fun X (hX : Below V.heap.size V X) => call_above hX (vdeep_any (j + 1) (nest j) _ _ X (by omega) (G5.out.2.onto hX) (by omega)))
      have cS5 := hid (fun X (hX : Below V.heap.size V X) => call_above hX (vsize_any (j + 1) (nest j) _ _ X (by omega) (G5.out.2.onto hX) (by omega)))
      have cS7 := hid (fun X (hX : Below V.heap.size V X) => call_above hX (vsize_any (N + 1) (wideT N) _ _ X (by rw [wide_sz]; exact Nat.le_refl _) (G7.out.2.onto hX) (by rw [wide_sz]; omega)))
      rw [nest_may j hD] at cG5
      rw [wide_may] at cG7
      rw [hsz5.2] at cD5
      rw [hsz5.1] at cS5
      rw [wide_sz] at cS7
      simp only [vv, HK.out.1, HK.out.2.1, HK.out.2.2] at cG5 cD5 cS5
      simp only [vv, wideT, VT.kd, VT.nm, VT.st] at cG7 cS7
      clear hsz5
      have HF5 : Hid (∀ X, Below V.heap.size V X → X.cell? ⟨b5, 0, none⟩ = some (.int .i64 kk) ∧ X.cell? ⟨b5, 1, none⟩ = some (.int .i64 0) ∧ X.cell? ⟨b5, 2, none⟩ = some (.string ⟨#[]⟩) ∧ X.cell? ⟨b5, 3, none⟩ = some (.slice o n c) ∧ X.cell? ⟨b5, 4, none⟩ = some (.slice none 0 0)) := fun X hX => by
        have := (G5.out.onto hX).cells
        rw [HK.out.1, HK.out.2.1, HK.out.2.2] at this
        exact this
      have HF7 : Hid (∀ X, Below V.heap.size V X → X.cell? ⟨b7, 0, none⟩ = some (.int .i64 5) ∧ X.cell? ⟨b7, 1, none⟩ = some (.int .i64 0) ∧ X.cell? ⟨b7, 2, none⟩ = some (.string ⟨#[]⟩) ∧ X.cell? ⟨b7, 3, none⟩ = some (.slice (some ⟨wr.heap.size, 0, none⟩) N N) ∧ X.cell? ⟨b7, 4, none⟩ = some (.slice none 0 0)) := fun X hX => (G7.out.onto hX).cells
      clear G5 G7 HK
      go_at_call 17
      refine (cG5.out V (Below.refl _ _)).mono ?_
      rintro e x1 ⟨rfl, hx1⟩
      obtain ⟨p0, p1, p2, p3, p4⟩ := HF5.out x1 hx1
      go_wp2_with fail
      go_at_call 24
      refine (cD5.out x1 hx1).mono ?_
      rintro e x2 ⟨rfl, hx2⟩
      clear p0 p1 p2 p3 p4
      obtain ⟨q0, q1, q2, q3, q4⟩ := HF5.out x2 hx2
      go_wp2_with fail
      go_at_call 22
      refine (cS5.out x2 hx2).mono ?_
      rintro e x3 ⟨rfl, hx3⟩
      clear q0 q1 q2 q3 q4
      obtain ⟨r0, r1, r2, r3, r4⟩ := HF7.out x3 hx3
      go_wp2_with fail
      go_at_call 17
      refine (cG7.out x3 hx3).mono ?_
      rintro e x4 ⟨rfl, hx4⟩
      clear r0 r1 r2 r3 r4
      obtain ⟨s0, s1, s2, s3, s4⟩ := HF7.out x4 hx4
      go_wp2_with fail
      go_at_call 22
      refine (cS7.out x4 hx4).mono ?_
      rintro e x5 ⟨rfl, hx5⟩
      clear s0 s1 s2 s3 s4
      go_wp2_with fail
      go_ret
      exact ⟨ret_bool (by simp), vonto GW.out hx5⟩
end Go.Proofs.YtnpojefcibfgkaaGreatDoor
