/- The statement JlexBlanks: walked. -/
import Derived.Test.YtoamndiblckdlaaGreatDoorMathLexF
import Derived.Test.YtoamndiblckdlaaGreatDoorLexTail
import Derived.Deep.QuietTactic
import Derived.BigQuiet
namespace Go.Proofs.YtoamndiblckdlaaGreatDoor
open Go.RowKit

theorem wds_two {T : List UInt8} {p : Nat} {x y : Wd} {r : List Wd} (h : Wds T p (x :: y :: r)) : x.at_ ≤ y.at_ ∧ y.at_ ≤ T.length ∧ ∃ p', Wds T p' (y :: r) := by
  cases h with
  | word _ j h1 h2 h3 h4 h5 _ h6 =>
    have k2 := (lw_good (at_q h2) h4 h5).2.1
    obtain ⟨y', t, e, g1, g2, -⟩ := h6.some
    injection e with e1 e2
    subst e1
    exact ⟨by simp only; omega, g2, _, h6⟩
theorem drop_two {ws : List Wd} {k : Nat} {x y : Wd} (hx : ws[k]? = some x) (hy : ws[k + 1]? = some y) : ws.drop k = x :: y :: ws.drop (k + 2) ∧ ws.drop (k + 1) = y :: ws.drop (k + 2) := by
  obtain ⟨h1, h2⟩ := List.getElem?_eq_some_iff.1 hx
  obtain ⟨h3, h4⟩ := List.getElem?_eq_some_iff.1 hy
  rw [List.drop_eq_getElem_cons h1, List.drop_eq_getElem_cons h3, h2, h4]
  exact ⟨rfl, rfl⟩
theorem same_at {a b : List Wd} (h : sameW a b) : a.length = b.length ∧ ∀ (k : Nat) (x : Wd), a[k]? = some x → ∃ y : Wd, b[k]? = some y ∧ y.kd = x.kd ∧ y.tx = x.tx := by
  unfold sameW at h
  refine ⟨by have := congrArg List.length h; simpa using this, fun k x hx => ?_⟩
  have e := congrArg (·[k]?) h
  simp only [List.getElem?_map, hx, Option.map_some] at e
  obtain ⟨y, hy, he⟩ := Option.map_eq_some_iff.1 e.symm
  injection he with e1 e2
  exact ⟨y, hy, e1, e2⟩
set_option maxRecDepth 100000 in
set_option maxHeartbeats 4000000 in
theorem Tryz.jlexBlanks_walk (t : ByteArray) (_w0 : t.size ≤ maxLen) (w : World) (hg : GlobU w) :
    Calls Tryz.prog 5 #[.string t] w fun e w' => e = .returned (.bool true) ∧ Below w.heap.size w w' := by
  have HGL := hid hg
  clear hg
  have CA := hid (fun X h => Tryz.awake_of Tryz.jhas X h)
  by_cases hs : t.size ≤ 1500
  · have CJ := hid (fun X h => Tryz.jhas t X (by omega) h)
    unfold Tryz.JPost jfV at CJ
    have HW := hid (fun h => cut_wds (T := t.data.toList) h)
    have HC := hid (fun h => cut_blanks (T := t.data.toList) h (by rw [size_list]; exact hs))
    obtain ⟨R, hR⟩ : ∃ R, cutA t.data.toList = R := ⟨_, rfl⟩
    rw [hR] at CJ HW HC
    clear hR
    obtain ⟨ws, er, ea⟩ := R
    simp only at CJ HW HC
    by_cases he : er = 0
    · subst he
      simp only [if_true] at CJ
      have HW0 := hid (HW.out rfl)
      obtain ⟨ws', hcut, hsame, hblen⟩ := HC.out rfl
      obtain ⟨hlen, hat⟩ := same_at hsame
      have HCUT := hid hcut
      have HAT := hid hat
      have HLEN := hid hlen
      have HBL := hid hblen
      clear HW HC hcut hsame hat hlen hblen
      have HZ := hid (size_list t)
      obtain ⟨y0, r0, hy0, -⟩ := HW0.out.some
      have hpos : 1 ≤ ws.length := by rw [hy0]; simp
      clear hy0 y0 r0
      have hmax : ws.length ≤ 1501 := by have := HW0.out.count; rw [HZ.out] at this; omega
      go_enter Tryz.func5, Tryz.ntmps5
      go_wp2_with fail
      go_at_call 8
      refine (CA.out _ HGL.out).mono ?_
      rintro e w1 ⟨rfl, hb1⟩
      go_wp2_with fail
      go_at_call 9
      refine (CJ.out _ (HGL.out.on hb1)).mono ?_
      rintro e w2 ⟨v2, rfl, hw2, hb2⟩
      have HB := hid (lalloc (lonto hb1 hb2) (.cells #[.int .i64 0, .int .i64 0, .int .i64 0, .int .i64 0] 26))
      obtain ⟨o, a, c, rfl, h2, h3, h4, h5⟩ := hw2.onto (lalloc (Below.refl _ _) (.cells #[.int .i64 0, .int .i64 0, .int .i64 0, .int .i64 0] 26))
      obtain rfl := h4 (by omega)
      have H5 := hid h5
      unfold maxLen at h3
      clear h4 h5 hw2 hb1 hb2 CJ
      go_wp2_with fail
      obtain ⟨V, hV⟩ : ∃ V, w2.alloc (.cells #[.int .i64 0, .int .i64 0, .int .i64 0, .int .i64 0] 26) = V := ⟨_, rfl⟩
      rw [hV] at HB H5
      simp only [hV]
      clear hV
      go_loopw [5, 6] (fun x y wr => ∃ (sb : ByteArray) (k p : Nat), x = .string sb ∧ y = .int .i64 k ∧ k + 1 ≤ ws.length ∧ sb.size ≤ 7500 ∧ Hid (sb.data.toList ++ blS t.data.toList (ws.drop k) = blS t.data.toList ws) ∧ Hid (Wds t.data.toList p (ws.drop k)) ∧ Hid (Below V.heap.size V wr)) (fun _ y _ => ws.length - (intOf y).toNat)
      case atStart => exact ⟨⟨#[]⟩, 0, 0, rfl, rfl, hpos, by decide, rfl, HW0.out, Below.refl _ _⟩
      case round =>
        obtain ⟨sb, k, p, rfl, rfl, hk, hsb, HS, HK, HG⟩ := hrel
        by_cases hlt : k + 1 < ws.length
        · obtain ⟨x, hx⟩ : ∃ x, ws[k]? = some x := ⟨ws[k], List.getElem?_eq_getElem (by omega)⟩
          obtain ⟨y, hy⟩ : ∃ y, ws[k + 1]? = some y := ⟨ws[k + 1], List.getElem?_eq_getElem hlt⟩
          obtain ⟨-, -, p2⟩ := H5.out k x hx
          obtain ⟨-, -, q2⟩ := H5.out (k + 1) y hy
          replace p2 := lkeep HG.out p2
          replace q2 := lkeep HG.out q2
          obtain ⟨d1, d2⟩ := drop_two hx hy
          have hwd := HK.out
          rw [d1] at hwd
          obtain ⟨s1, s2, p', s3⟩ := wds_two hwd
          rw [HZ.out] at s2
          rw [← d2] at s3
          have S3 := hid s3
          have hsp := HS.out
          rw [d1, blS_two, ← d2] at hsp
          have HN := hid (show (((sb ++ ⟨#[32, 10]⟩) ++ t.extract x.at_ y.at_) ++ ⟨#[9, 13]⟩ : ByteArray).data.toList ++ blS t.data.toList (ws.drop (k + 1)) = blS t.data.toList ws by
            rw [add_list, add_list, add_list, drop_ext, ← hsp]
            simp only [List.append_assoc])
          have hsz : (((sb ++ ⟨#[32, 10]⟩) ++ t.extract x.at_ y.at_) ++ ⟨#[9, 13]⟩ : ByteArray).size ≤ 7500 := by
            have h8 := congrArg List.length HN.out
            rw [List.length_append, size_list] at h8
            have := HBL.out
            omega
          clear d1 d2 hwd s3 hsp HS HK hx hy
          obtain ⟨kx, tx, ax⟩ := x
          obtain ⟨ky, ty, ay⟩ := y
          simp only at p2 q2 s1 s2 HN hsz
          obtain ⟨m, hm⟩ : ∃ m, t.extract ax ay = m := ⟨_, rfl⟩
          have hms : m.size ≤ 1500 := by rw [← hm]; simp; omega
          rw [hm] at HN hsz
          go_wp2_with fail
          go_quiet (fail)
          go_wp2_with fail
          go_roundw
          case rel => exact ⟨_, k + 1, p', rfl, val_int (by omega), by omega, hsz, HN.out, S3.out, below_drewN HG.out _⟩
          case measure => simp [intOf]; omega
        · have hk1 : k + 1 = ws.length := by omega
          have hsl : sb.data.toList = blS t.data.toList ws := by
            have h8 := HS.out
            have h9 : ws.drop k = [ws[k]'(by omega)] := by
              rw [List.drop_eq_getElem_cons (by omega), List.drop_of_length_le (by omega)]
            rw [h9, blS_one, List.append_nil] at h8; exact h8
          have C2 := hid (fun X h => Tryz.jhas sb X (by omega) h)
          unfold Tryz.JPost at C2
          rw [hsl, HCUT.out] at C2
          have ej : jfV sb (ws', 0, 0) = .agg #[.int .i64 0, .int .i64 0, .int .i64 0, .int .i64 0] := rfl
          rw [ej] at C2
          clear hsl ej HS HK HCUT HBL hk1
          have HBV := hid (lonto HB.out HG.out)
          go_wp2_with fail
          go_at_call 9
          refine (C2.out _ (HGL.out.on HBV.out)).mono ?_
          rintro e w4 ⟨v4, rfl, hw4, hb4⟩
          have HB4 := hid (lalloc (lonto HBV.out hb4) (.cells #[.int .i64 0, .int .i64 0, .int .i64 0, .int .i64 0] 26))
          have HBX := hid (lalloc (lonto HG.out hb4) (.cells #[.int .i64 0, .int .i64 0, .int .i64 0, .int .i64 0] 26))
          obtain ⟨o', a', c', rfl, k2, k3, k4, k5⟩ := hw4.onto (lalloc (Below.refl _ _) (.cells #[.int .i64 0, .int .i64 0, .int .i64 0, .int .i64 0] 26))
          rw [← HLEN.out] at k2 k4
          obtain rfl := k4 (by omega)
          have K5 := hid k5
          unfold maxLen at k3
          have hl' : ws'.length = ws.length := HLEN.out.symm
          clear k4 k5 hw4 hb4 C2
          go_wp2_with fail
          obtain ⟨V2, hV2⟩ : ∃ V2, w4.alloc (.cells #[.int .i64 0, .int .i64 0, .int .i64 0, .int .i64 0] 26) = V2 := ⟨_, rfl⟩
          rw [hV2] at HB4 HBX K5
          simp only [hV2]
          clear hV2
          go_loopw [9] (fun x wx => ∃ j : Nat, x = .int .i64 j ∧ j ≤ ws.length ∧ Hid (Below V2.heap.size V2 wx)) (fun x _ => ws.length - (intOf x).toNat)
          case atStart => exact ⟨0, rfl, Nat.zero_le _, Below.refl _ _⟩
          case round =>
            obtain ⟨j, rfl, hj, HJ⟩ := hrel
            by_cases hlj : j < ws.length
            · obtain ⟨x, hx⟩ : ∃ x, ws[j]? = some x := ⟨ws[j], List.getElem?_eq_getElem hlj⟩
              obtain ⟨y, hy, ey1, ey2⟩ := HAT.out j x hx
              obtain ⟨p0, p1, -⟩ := H5.out j x hx
              obtain ⟨q0, q1, -⟩ := K5.out j y hy
              have HXJ := hid (lonto HBX.out HJ.out)
              replace p0 := lkeep HXJ.out p0
              replace p1 := lkeep HXJ.out p1
              replace q0 := lkeep HJ.out q0
              replace q1 := lkeep HJ.out q1
              rw [ey1] at q0
              rw [ey2] at q1
              clear hx hy ey1 ey2
              go_wp2_with fail
              go_quiet (fail)
              go_wp2_with fail
              go_roundw
              case rel => exact ⟨j + 1, val_int (by omega), hlj, below_drewN HJ.out _⟩
              case measure => simp [intOf]; omega
            · go_wp2_with fail
              go_ret
              exact ⟨rfl, lonto HB4.out HJ.out⟩
    · simp only [he, if_false] at CJ
      unfold faultV at CJ
      clear HW
      generalize clN t.size (ea : Int) = c1 at CJ
      generalize ofL t (ea : Int) = c2 at CJ
      generalize ofC t (ea : Int) = c3 at CJ
      have hen : ((er : Int) == 0) = false := by rw [beq_eq_false_iff_ne]; omega
      have hen2 : ((er : Int) != 0) = true := by rw [bne_iff_ne]; omega
      clear he
      go_enter Tryz.func5, Tryz.ntmps5
      go_wp2_with fail
      go_at_call 8
      refine (CA.out _ HGL.out).mono ?_
      rintro e w1 ⟨rfl, hb1⟩
      go_wp2_with fail
      go_at_call 9
      refine (CJ.out _ (HGL.out.on hb1)).mono ?_
      rintro e w2 ⟨v2, rfl, hw2, hb2⟩
      have HB := hid (lalloc (lonto hb1 hb2) (.cells #[.int .i64 (er : Int), .int .i64 c1, .int .i64 c2, .int .i64 c3] 26))
      clear hb1 hb2 hw2
      go_wp2_with fail
      go_ret
      exact ⟨rfl, HB.out⟩
  · go_enter Tryz.func5, Tryz.ntmps5
    go_wp2_with (go_at_call 8; go_must (refine (CA.out _ HGL.out).mono ?_; rintro e w1 ⟨rfl, hb1⟩))
    go_ret
    exact ⟨rfl, hb1⟩
end Go.Proofs.YtoamndiblckdlaaGreatDoor
