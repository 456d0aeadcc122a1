/- CellBack. -/
import Derived.Test.YtmncibjkgbmfjaaGreatDoorCeE
namespace Go.Proofs.YtmncibjkgbmfjaaGreatDoor
open Go.RowKit

theorem nm_of {w : World} {T : VT} {x y : Value} (h : HV w T x y) : -9223372036854775808 ≤ T.nm ∧ T.nm < 9223372036854775808 := by
  cases h with
  | mk a b f g p q hk hn hs hL hM hK cL cK cM rL rM =>
    have := hn
    simp [Lit.wf, IntKind.min, IntKind.max, IntKind.signed, IntKind.bits] at this
    simp only [VT.nm]
    omega
theorem ks_of {w : World} {T : VT} {x y : Value} (h : HV w T x y) : T.ks.length = T.vs.length := by
  cases h with
  | mk a b f g p q hk hn hs hL hM hK cL cK cM rL rM => exact hK
theorem cel_inj {T U : VT} (h : celT (celW T) = (T, 0)) (g : celT (celW U) = (U, 0)) : celW T = celW U ↔ T = U := by
  constructor
  · intro e
    rw [e, g] at h
    exact (congrArg Prod.fst h).symm
  · intro e; rw [e]
set_option maxRecDepth 100000 in
set_option maxHeartbeats 8000000 in
theorem Tryz.cellBack_walk (T U : VT) (x y x' y' : Value) (w : World) (hg : GlobC5 w) (hT : HV w T x y) (hU : HV w U x' y') :
    Calls Tryz.prog 4 #[vv T x y, vv U x' y'] w fun e w' => e = .returned (.bool true) ∧ Below w.heap.size w w' := by
  have CA := hid (fun X (hX : Below w.heap.size w X) => awake15 X (hg.on hX))
  have CH := hid (fun X (hX : Below w.heap.size w X) => heavy_any T x y 50 40 X (hT.onto hX) (by omega) (by omega))
  have CH2 := hid (fun X (hX : Below w.heap.size w X) => heavy_any U x' y' 50 40 X (hU.onto hX) (by omega) (by omega))
  have CT := hid (fun X (hX : Below w.heap.size w X) => cetext_any T x y X (hg.on hX) (hT.onto hX))
  have CT2 := hid (fun X (hX : Below w.heap.size w X) => cetext_any U x' y' X (hg.on hX) (hU.onto hX))
  have CV : Hid (celB T = true → (mkS (celW T)).size ≤ 4096 → ∀ X, Below w.heap.size w X → Calls Tryz.prog 10 #[.string (mkS (celW T))] X fun e w' => ∃ p q, e = .returned (.tuple #[vv T p q, .int .i64 0]) ∧ HV w' T p q ∧ Below X.heap.size X w') := hid (fun hb hz X hX => by
    have := cevalue_any (mkS (celW T)) X (hg.1.on hX) (by omega)
    rw [mkS_list, cel_back hb (ks_of hT) (nm_of hT)] at this
    exact this)
  have HEQ : Hid (celB T = true → celB U = true → ((mkS (celW T)).toList == (mkS (celW U)).toList) = sameT false T U) := hid (fun h g => by
    have hi := cel_inj (cel_back h (ks_of hT) (nm_of hT)) (cel_back g (ks_of hU) (nm_of hU))
    have e1 : (mkS (celW T)).toList = celW T := by rw [Lib.toList_data, mkS_list]
    have e2 : (mkS (celW U)).toList = celW U := by rw [Lib.toList_data, mkS_list]
    rw [e1, e2]
    cases hs : sameT false T U with
    | true => rw [same_eq T U hs]; exact beq_self_eq_true _
    | false =>
      rw [beq_eq_false_iff_ne]
      intro e
      rw [hi.1 e, eq_same] at hs
      cases hs)
  have CS1 := hid (fun (p q : Value) X (hX : Below w.heap.size w X) (h : HV X T p q) => same_any (szT T) T T p q x y false X (Nat.le_refl _) h (hT.onto hX))
  have CS2 := hid (fun X (hX : Below w.heap.size w X) => same_any (szT T) T U x y x' y' false X (Nat.le_refl _) (hT.onto hX) (hU.onto hX))
  rw [eq_same] at CS1
  obtain ⟨o1, n1, c1, o2, n2, c2, rfl, rfl⟩ := hv_slices hT
  obtain ⟨o1', n1', c1', o2', n2', c2', rfl, rfl⟩ := hv_slices hU
  obtain ⟨tk, tn, tt, h1, h2, h3⟩ : ∃ k n t, T.kd = k ∧ T.nm = n ∧ T.st = t := ⟨_, _, _, rfl, rfl, rfl⟩
  obtain ⟨uk, un, ut, j1, j2, j3⟩ : ∃ k n t, U.kd = k ∧ U.nm = n ∧ U.st = t := ⟨_, _, _, rfl, rfl, rfl⟩
  have CB := hid (fun X (hX : X = w.alloc (.cells #[.int .i64 tk, .int .i64 tn, .string tt, .slice o1 n1 c1, .slice o2 n2 c2] 26)) => cebox_of hX)
  simp only [vv] at CH CH2 CT CT2 CV CS1 CS2 ⊢
  rw [h1, h2, h3] at CH CT CV CS1 CS2 ⊢
  rw [j1, j2, j3] at CH2 CT2 CS2 ⊢
  generalize (!fitB T 40 50) = hv1 at CH
  generalize (!fitB U 40 50) = hv2 at CH2
  generalize celB T = q1 at CT CV HEQ
  generalize celB U = q2 at CT2 HEQ
  generalize mkS (celW T) = A at CT CV HEQ
  generalize mkS (celW U) = B at CT2 HEQ
  generalize sameT false T U = sm at CS2 HEQ
  obtain ⟨A1, hA1⟩ : ∃ A1, (if q1 = true then A else ⟨#[]⟩) = A1 := ⟨_, rfl⟩
  obtain ⟨B1, hB1⟩ : ∃ B1, (if q2 = true then B else ⟨#[]⟩) = B1 := ⟨_, rfl⟩
  rw [hA1] at CT
  rw [hB1] at CT2
  have HA1 := hid hA1
  have HB1' := hid hB1
  clear hA1 hB1
  clear h1 h2 h3 j1 j2 j3 hg hT hU
  go_enter Tryz.func4, Tryz.ntmps4
  go_upto_region 1 with fail
  refine cewp_gen ?_
  intro W hW
  obtain ⟨W1, hW1⟩ : ∃ W1, w.alloc (.cells #[.int .i64 tk, .int .i64 tn, .string tt, .slice o1 n1 c1, .slice o2 n2 c2] 26) = W1 := ⟨_, rfl⟩
  rw [hW1] at hW
  obtain ⟨g0, g1, g2, g3, g4, hbW⟩ := CB.out W1 hW1.symm
  have hz1 : W1.heap.size = w.heap.size + 1 := by rw [← hW1]; simp
  rw [← hz1]
  obtain ⟨v0, v1, v2, v3, v4, hbV⟩ := cebox_of hW
  have g0 := keepCell hbV g0
  have g1 := keepCell hbV g1
  have g2 := keepCell hbV g2
  have g3 := keepCell hbV g3
  have g4 := keepCell hbV g4
  have HB0 := hid (vonto hbW hbV)
  clear hW hW1 hbW hbV hz1 CB
  go_wp2_with fail
  go_at_call 6
  refine (CA.out _ HB0.out).mono ?_
  rintro e w1 ⟨rfl, hb1⟩
  have g0 := keepCell hb1 g0
  have g1 := keepCell hb1 g1
  have g2 := keepCell hb1 g2
  have g3 := keepCell hb1 g3
  have g4 := keepCell hb1 g4
  have v0 := keepCell hb1 v0
  have v1 := keepCell hb1 v1
  have v2 := keepCell hb1 v2
  have v3 := keepCell hb1 v3
  have v4 := keepCell hb1 v4
  have HB1 := hid (vonto HB0.out hb1)
  clear hb1 CA HB0
  go_wp2_with fail
  go_at_call 7
  refine (CH.out _ HB1.out).mono ?_
  rintro e w2 ⟨rfl, hb2⟩
  have g0 := keepCell hb2 g0
  have g1 := keepCell hb2 g1
  have g2 := keepCell hb2 g2
  have g3 := keepCell hb2 g3
  have g4 := keepCell hb2 g4
  have v0 := keepCell hb2 v0
  have v1 := keepCell hb2 v1
  have v2 := keepCell hb2 v2
  have v3 := keepCell hb2 v3
  have v4 := keepCell hb2 v4
  have HB2 := hid (vonto HB1.out hb2)
  clear hb2 CH HB1
  cases hv1 with
  | true =>
    go_wp2_with fail
    go_ret
    exact ⟨rfl, HB2.out⟩
  | false =>
  go_wp2_with fail
  go_at_call 7
  refine (CH2.out _ HB2.out).mono ?_
  rintro e w3 ⟨rfl, hb3⟩
  have g0 := keepCell hb3 g0
  have g1 := keepCell hb3 g1
  have g2 := keepCell hb3 g2
  have g3 := keepCell hb3 g3
  have g4 := keepCell hb3 g4
  have v0 := keepCell hb3 v0
  have v1 := keepCell hb3 v1
  have v2 := keepCell hb3 v2
  have v3 := keepCell hb3 v3
  have v4 := keepCell hb3 v4
  have HB3 := hid (vonto HB2.out hb3)
  clear hb3 CH2 HB2
  cases hv2 with
  | true =>
    go_wp2_with fail
    go_ret
    exact ⟨rfl, HB3.out⟩
  | false =>
  go_wp2_with fail
  go_at_call 8
  refine (CT.out _ HB3.out).mono ?_
  rintro e w4 ⟨rfl, hb4⟩
  have g0 := keepCell hb4 g0
  have g1 := keepCell hb4 g1
  have g2 := keepCell hb4 g2
  have g3 := keepCell hb4 g3
  have g4 := keepCell hb4 g4
  have v0 := keepCell hb4 v0
  have v1 := keepCell hb4 v1
  have v2 := keepCell hb4 v2
  have v3 := keepCell hb4 v3
  have v4 := keepCell hb4 v4
  have HB4 := hid (vonto HB3.out hb4)
  clear hb4 CT HB3
  go_wp2_with fail
  go_at_call 8
  refine (CT2.out _ HB4.out).mono ?_
  rintro e w5 ⟨rfl, hb5⟩
  have g0 := keepCell hb5 g0
  have g1 := keepCell hb5 g1
  have g2 := keepCell hb5 g2
  have g3 := keepCell hb5 g3
  have g4 := keepCell hb5 g4
  have v0 := keepCell hb5 v0
  have v1 := keepCell hb5 v1
  have v2 := keepCell hb5 v2
  have v3 := keepCell hb5 v3
  have v4 := keepCell hb5 v4
  have HB5 := hid (vonto HB4.out hb5)
  clear hb5 CT2 HB4
  cases q1 with
  | false =>
    go_wp2_with fail
    go_ret
    exact ⟨rfl, HB5.out⟩
  | true =>
  cases q2 with
  | false =>
    go_wp2_with fail
    go_ret
    exact ⟨rfl, HB5.out⟩
  | true =>
  have HE := hid (HEQ.out rfl rfl)
  have hA1 := HA1.out
  have hB1 := HB1'.out
  rw [if_pos rfl] at hA1 hB1
  subst hA1 hB1
  clear HA1 HB1'
  by_cases hz : 4096 < A.size
  · have f1 : (4096 : Int) < (A.size : Int) := by omega
    clear HEQ HE CV
    go_wp2_with fail
    go_ret
    exact ⟨rfl, HB5.out⟩
  have f1 : ¬ (4096 : Int) < (A.size : Int) := by omega
  have CV1 := hid (CV.out (by first | rfl | trivial) (by omega))
  clear HEQ CV
  go_wp2_with fail
  go_at_call 10
  refine (CV1.out _ HB5.out).mono ?_
  rintro e w6 ⟨X, Y, rfl, hx, hb6⟩
  obtain ⟨p1, i1, k1, p2, i2, k2, rfl, rfl⟩ := hv_slices hx
  have HX := hid hx
  have g0 := keepCell hb6 g0
  have g1 := keepCell hb6 g1
  have g2 := keepCell hb6 g2
  have g3 := keepCell hb6 g3
  have g4 := keepCell hb6 g4
  have v0 := keepCell hb6 v0
  have v1 := keepCell hb6 v1
  have v2 := keepCell hb6 v2
  have v3 := keepCell hb6 v3
  have v4 := keepCell hb6 v4
  have HB6 := hid (vonto HB5.out hb6)
  clear hb6 hx CV1 HB5
  go_upto_region 10 with fail
  refine cewp_gen ?_
  intro W6 hW
  obtain ⟨b0, b1, b2, b3, b4, hbW⟩ := cebox_of hW
  have g0 := keepCell hbW g0
  have g1 := keepCell hbW g1
  have g2 := keepCell hbW g2
  have g3 := keepCell hbW g3
  have g4 := keepCell hbW g4
  have v0 := keepCell hbW v0
  have v1 := keepCell hbW v1
  have v2 := keepCell hbW v2
  have v3 := keepCell hbW v3
  have v4 := keepCell hbW v4
  have HB7 := hid (vonto HB6.out hbW)
  have HX7 := hid (HX.out.onto hbW)
  clear hW hbW HB6 HX
  have CS3 := hid (CS1.out _ _ W6 HB7.out HX7.out)
  clear CS1 HX7
  go_wp2_with fail
  go_at_call 12
  refine CS3.out.mono ?_
  rintro e w7 ⟨rfl, hb7⟩
  have g0 := keepCell hb7 g0
  have g1 := keepCell hb7 g1
  have g2 := keepCell hb7 g2
  have g3 := keepCell hb7 g3
  have g4 := keepCell hb7 g4
  have v0 := keepCell hb7 v0
  have v1 := keepCell hb7 v1
  have v2 := keepCell hb7 v2
  have v3 := keepCell hb7 v3
  have v4 := keepCell hb7 v4
  have HB8 := hid (vonto HB7.out hb7)
  clear hb7 CS3 HB7
  have qe := HE.out
  go_wp2_with fail
  go_at_call 12
  refine (CS2.out _ HB8.out).mono ?_
  rintro e w8 ⟨rfl, hb8⟩
  have HB9 := hid (vonto HB8.out hb8)
  clear hb8
  cases sm
  all_goals
    go_wp2_with fail
    go_ret
    exact ⟨rfl, HB9.out⟩
end Go.Proofs.YtmncibjkgbmfjaaGreatDoor
