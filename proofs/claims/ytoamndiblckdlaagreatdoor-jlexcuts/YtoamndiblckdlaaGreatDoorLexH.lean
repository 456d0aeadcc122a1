/- The statement JlexCuts, over what is asked of the program's Cut. -/
import Derived.Test.YtoamndiblckdlaaGreatDoorLexTail
import Derived.Test.YtoamndiblckdlaaGreatDoorAbove
namespace Go.Proofs.YtoamndiblckdlaaGreatDoor
open Go.RowKit

set_option maxRecDepth 100000 in
set_option maxHeartbeats 4000000 in
theorem Tryz.cuts_of (H : Tryz.JHas) (t : ByteArray) (w : World) (hg : GlobU w) :
    Calls Tryz.prog 4 #[.string t] w fun e w' => e = .returned (.bool true) ∧ Below w.heap.size w w' := by
  have CA := hid (fun X h => Tryz.awake_of H X h)
  have HGL := hid hg
  clear hg
  by_cases hs : t.size ≤ 2000
  · have CJ := hid (fun X h => H t X (by omega) h)
    have CR := hid (fun X => Tryz.rcut_any t X (by omega))
    have CF := hid (fun a e X => rfault_any t a e X (by omega))
    unfold Tryz.JPost jfV at CJ
    unfold Tryz.CutPost at CR
    have HNil := hid (fun h => cutA_nil (T := t.data.toList) h)
    obtain ⟨R, hR⟩ : ∃ R, cutA t.data.toList = R := ⟨_, rfl⟩
    rw [hR] at CJ CR HNil
    clear hR
    obtain ⟨ws, er, ea⟩ := R
    simp only at CJ CR HNil
    by_cases he : er = 0
    · subst he
      simp only [if_true] at CJ
      go_enter Tryz.func4, Tryz.ntmps4
      go_wp2_with fail
      go_at_call 8
      refine (CA.out _ HGL.out).mono ?_
      rintro e w1 ⟨rfl, hb1⟩
      go_wp2_with fail
      go_at_call 9
      refine (CJ.out _ (HGL.out.on hb1)).mono ?_
      rintro e w2 ⟨v2, rfl, hw2, hb2⟩
      go_wp2_with fail
      go_at_call 10
      refine (CR.out _).mono ?_
      rintro e w3 ⟨v3, rfl, hw3, hb3⟩
      simp only [show ((0 : Nat) : Int) = 0 from rfl]
      have HB := hid (lalloc (lonto (lalloc (lonto hb1 hb2) (.cells #[.int .i64 0, .int .i64 0, .int .i64 0, .int .i64 0] 26)) hb3) (.cells #[.int .i64 0, .int .i64 (ea : Int)] 32))
      have hbG : Below w3.heap.size w3 (w3.alloc (.cells #[.int .i64 0, .int .i64 (ea : Int)] 32)) := lalloc (Below.refl _ _) _
      have f0 : (w3.alloc (.cells #[.int .i64 0, .int .i64 (ea : Int)] 32)).cell? ⟨w2.heap.size, 0, none⟩ = some (.int .i64 0) := lkeep hbG (lkeep hb3 (new_cells w2 [.int .i64 0, .int .i64 0, .int .i64 0, .int .i64 0] 26 0 _ rfl))
      have f1 : (w3.alloc (.cells #[.int .i64 0, .int .i64 (ea : Int)] 32)).cell? ⟨w2.heap.size, 1, none⟩ = some (.int .i64 0) := lkeep hbG (lkeep hb3 (new_cells w2 [.int .i64 0, .int .i64 0, .int .i64 0, .int .i64 0] 26 1 _ rfl))
      have f2 : (w3.alloc (.cells #[.int .i64 0, .int .i64 (ea : Int)] 32)).cell? ⟨w2.heap.size, 2, none⟩ = some (.int .i64 0) := lkeep hbG (lkeep hb3 (new_cells w2 [.int .i64 0, .int .i64 0, .int .i64 0, .int .i64 0] 26 2 _ rfl))
      have f3 : (w3.alloc (.cells #[.int .i64 0, .int .i64 (ea : Int)] 32)).cell? ⟨w2.heap.size, 3, none⟩ = some (.int .i64 0) := lkeep hbG (lkeep hb3 (new_cells w2 [.int .i64 0, .int .i64 0, .int .i64 0, .int .i64 0] 26 3 _ rfl))
      obtain ⟨o, a, c, rfl, h2, h3, h4, h5⟩ := ((hw2.onto (lalloc (Below.refl _ _) _)).onto hb3).onto hbG
      obtain ⟨o', a', c', rfl, h2', h3', h4', h5'⟩ := (own_inw hw3).onto hbG
      have H4 := hid h4
      have H5 := hid h5
      have H4' := hid h4'
      have H5' := hid h5'
      unfold maxLen at h3 h3'
      clear h4 h5 h4' h5' hw2 hw3 hb1 hb2 hb3 hbG
      go_wp2_with fail
      go_loopw [7] (fun x wr => ∃ j : Nat, x = .int .i64 j ∧ j ≤ ws.length ∧ Hid (Below (w3.alloc (.cells #[.int .i64 0, .int .i64 (ea : Int)] 32)).heap.size (w3.alloc (.cells #[.int .i64 0, .int .i64 (ea : Int)] 32)) wr)) (fun x _ => ws.length - (intOf x).toNat)
      case atStart => exact ⟨0, rfl, Nat.zero_le _, Below.refl _ _⟩
      case round =>
        obtain ⟨j, rfl, hj, HG⟩ := hrel
        by_cases hlt : j < ws.length
        · obtain ⟨x, hx⟩ : ∃ x, ws[j]? = some x := ⟨ws[j], List.getElem?_eq_getElem hlt⟩
          obtain rfl := H4.out (by omega)
          obtain rfl := H4'.out (by omega)
          obtain ⟨p0, p1, p2⟩ := H5.out j x hx
          replace p0 := lkeep HG.out.drew p0
          replace p1 := lkeep HG.out.drew p1
          replace p2 := lkeep HG.out.drew p2
          obtain ⟨q0, q1, q2⟩ := H5'.out j x hx
          replace q0 := lkeep HG.out.drew q0
          replace q1 := lkeep HG.out.drew q1
          replace q2 := lkeep HG.out.drew q2
          clear hx
          go_wp2_with fail
          go_region
          go_wp2_with fail
          go_roundw
          case rel => exact ⟨j + 1, val_int (by omega), hlt, HG.out.drew⟩
          case measure => simp [intOf]; omega
        · go_wp2_with fail
          go_ret
          exact ⟨rfl, lonto HB.out HG.out⟩
    · obtain rfl := HNil.out he
      simp only [he, if_false] at CJ
      unfold faultV at CJ
      have CG := hid (fun X => CF.out (ea : Int) (er : Int) X)
      unfold faultV at CG
      generalize clN t.size (ea : Int) = c1 at CJ CG
      generalize ofL t (ea : Int) = c2 at CJ CG
      generalize ofC t (ea : Int) = c3 at CJ CG
      have hen : ((er : Int) != 0) = true := by rw [bne_iff_ne]; omega
      clear CF HNil
      go_enter Tryz.func4, Tryz.ntmps4
      go_wp2_with fail
      go_at_call 8
      refine (CA.out _ HGL.out).mono ?_
      rintro e w1 ⟨rfl, hb1⟩
      go_wp2_with fail
      go_at_call 9
      refine (CJ.out _ (HGL.out.on hb1)).mono ?_
      rintro e w2 ⟨v2, rfl, hw2, hb2⟩
      obtain ⟨o, a, c, rfl, h2, h3, h4, h5⟩ := hw2
      clear h4 h5
      go_wp2_with fail
      go_at_call 10
      refine (CR.out _).mono ?_
      rintro e w3 ⟨v3, rfl, hw3, hb3⟩
      have HB := hid (lalloc (lonto (lalloc (lonto hb1 hb2) (.cells #[.int .i64 (er : Int), .int .i64 c1, .int .i64 c2, .int .i64 c3] 26)) hb3) (.cells #[.int .i64 (er : Int), .int .i64 (ea : Int)] 32))
      have hbG : Below w3.heap.size w3 (w3.alloc (.cells #[.int .i64 (er : Int), .int .i64 (ea : Int)] 32)) := lalloc (Below.refl _ _) _
      have g0 : (w3.alloc (.cells #[.int .i64 (er : Int), .int .i64 (ea : Int)] 32)).cell? ⟨w3.heap.size, 0, none⟩ = some (.int .i64 (er : Int)) := new_cells w3 [.int .i64 (er : Int), .int .i64 (ea : Int)] 32 0 _ rfl
      have g1 : (w3.alloc (.cells #[.int .i64 (er : Int), .int .i64 (ea : Int)] 32)).cell? ⟨w3.heap.size, 1, none⟩ = some (.int .i64 (ea : Int)) := new_cells w3 [.int .i64 (er : Int), .int .i64 (ea : Int)] 32 1 _ rfl
      obtain ⟨V, hV⟩ : ∃ V, w3.alloc (.cells #[.int .i64 (er : Int), .int .i64 (ea : Int)] 32) = V := ⟨_, rfl⟩
      rw [hV] at g0 g1 hbG HB
      have f0 : V.cell? ⟨w2.heap.size, 0, none⟩ = some (.int .i64 (er : Int)) := lkeep hbG (lkeep hb3 (new_cells w2 [.int .i64 (er : Int), .int .i64 c1, .int .i64 c2, .int .i64 c3] 26 0 _ rfl))
      have f1 : V.cell? ⟨w2.heap.size, 1, none⟩ = some (.int .i64 c1) := lkeep hbG (lkeep hb3 (new_cells w2 [.int .i64 (er : Int), .int .i64 c1, .int .i64 c2, .int .i64 c3] 26 1 _ rfl))
      have f2 : V.cell? ⟨w2.heap.size, 2, none⟩ = some (.int .i64 c2) := lkeep hbG (lkeep hb3 (new_cells w2 [.int .i64 (er : Int), .int .i64 c1, .int .i64 c2, .int .i64 c3] 26 2 _ rfl))
      have f3 : V.cell? ⟨w2.heap.size, 3, none⟩ = some (.int .i64 c3) := lkeep hbG (lkeep hb3 (new_cells w2 [.int .i64 (er : Int), .int .i64 c1, .int .i64 c2, .int .i64 c3] 26 3 _ rfl))
      have y0 := above_cell f0; have y1 := above_cell f1; have y2 := above_cell f2; have y3 := above_cell f3; have z0 := above_cell g0; have z1 := above_cell g1
      have CX := hid (fun X : Abv V => CG.out X.u)
      have hinh := abv_some V
      have HV := hid hV
      clear hbG hb1 hb2 hb3 hw3 CG hV f0 f1 f2 f3
      go_wp2_with fail
      rw [HV.out]
      refine wp_region_above (by kernel_rfl) (by kernel_rfl) ?_
      repeat (go_big_quiet_step ((go_at_call 11; with_reducible exact above_of (CX.out _))))
      refine wpQuiet_nil ?_
      intro _ hw'
      obtain ⟨X, hX⟩ := hw'
      subst hX
      go_wp2_with fail
      go_ret
      exact ⟨rfl, lonto HB.out X.h⟩
  · go_enter Tryz.func4, Tryz.ntmps4
    go_wp2_with (go_at_call 8; go_must (refine (CA.out _ HGL.out).mono ?_; rintro e w1 ⟨rfl, hb1⟩))
    go_ret
    exact ⟨rfl, hb1⟩
end Go.Proofs.YtoamndiblckdlaaGreatDoor
