/- The statement JlexPlaces: walked. -/
import Derived.Test.YtoamndiblckdlaaGreatDoorMathLexW
import Derived.Test.YtoamndiblckdlaaGreatDoorLexTail
import Derived.Deep.QuietTactic
import Derived.BigQuiet
namespace Go.Proofs.YtoamndiblckdlaaGreatDoor
open Go.RowKit

theorem bl_cases {n : Nat} {b : UInt8} (h : blB b = true) (hn : b.toNat = n) : n = 32 ∨ n = 9 ∨ n = 10 ∨ n = 13 := by
  unfold blB at h; have := of_decide_eq_true h; omega
set_option maxRecDepth 100000 in
set_option maxHeartbeats 4000000 in
theorem Tryz.jlexPlaces_walk (t : ByteArray) (_w0 : t.size ≤ maxLen) (w : World) (hg : GlobU w) :
    Calls Tryz.prog 6 #[.string t] w fun e w' => e = .returned (.bool true) ∧ Below w.heap.size w w' := by
  have HGL := hid hg
  clear hg
  have CA := hid (fun X h => Tryz.awake_of Tryz.jhas X h)
  by_cases hs : t.size ≤ 1500
  · have CJ := hid (fun X h => Tryz.jhas t X (by omega) h)
    unfold Tryz.JPost jfV at CJ
    have HW := hid (fun h => cut_wds (T := t.data.toList) h)
    obtain ⟨R, hR⟩ : ∃ R, cutA t.data.toList = R := ⟨_, rfl⟩
    rw [hR] at CJ HW
    clear hR
    obtain ⟨ws, er, ea⟩ := R
    simp only at CJ HW
    by_cases he : er = 0
    · subst he
      simp only [if_true] at CJ
      have HW0 := hid (HW.out rfl)
      clear HW
      have HZ := hid (size_list t)
      go_enter Tryz.func6, Tryz.ntmps6
      go_wp2_with fail
      go_at_call 8
      refine (CA.out _ HGL.out).mono ?_
      rintro e w1 ⟨rfl, hb1⟩
      go_wp2_with fail
      go_at_call 9
      refine (CJ.out _ (HGL.out.on hb1)).mono ?_
      rintro e w2 ⟨v2, rfl, hw2, hb2⟩
      have HB := hid (lalloc (lonto hb1 hb2) (.cells #[.int .i64 0, .int .i64 0, .int .i64 0, .int .i64 0] 26))
      obtain ⟨o, a, c, rfl, h2, h3, h4, h5⟩ := hw2.onto (lalloc (Below.refl _ _) (.cells #[.int .i64 0, .int .i64 0, .int .i64 0, .int .i64 0] 26))
      have H4 := hid h4
      have H5 := hid h5
      unfold maxLen at h3
      clear h4 h5 hw2 hb1 hb2
      go_wp2_with fail
      obtain ⟨V, hV⟩ : ∃ V, w2.alloc (.cells #[.int .i64 0, .int .i64 0, .int .i64 0, .int .i64 0] 26) = V := ⟨_, rfl⟩
      rw [hV] at HB H5
      simp only [hV]
      clear hV
      go_loopw [5, 6] (fun x y wr => ∃ (p k : Nat), x = .int .i64 p ∧ y = .int .i64 k ∧ p ≤ t.size ∧ k ≤ ws.length ∧ Hid (StW t.data.toList p (ws.drop k)) ∧ Hid (Below V.heap.size V wr)) (fun _ y _ => ws.length - (intOf y).toNat)
      case atStart => exact ⟨0, 0, rfl, rfl, Nat.zero_le _, Nat.zero_le _, .inr HW0.out, Below.refl _ _⟩
      case round =>
        obtain ⟨p, k, rfl, rfl, hp, hk, HS, HG⟩ := hrel
        by_cases hlt : k < ws.length
        · obtain ⟨x, hx⟩ : ∃ x, ws[k]? = some x := ⟨ws[k], List.getElem?_eq_getElem hlt⟩
          obtain rfl := H4.out (by omega)
          obtain ⟨p0, p1, p2⟩ := H5.out k x hx
          replace p0 := lkeep HG.out p0
          replace p1 := lkeep HG.out p1
          replace p2 := lkeep HG.out p2
          have hd : ws.drop k = x :: ws.drop (k + 1) := by
            rw [List.drop_eq_getElem_cons hlt]
            rw [List.getElem?_eq_getElem hlt] at hx
            injection hx with hx; rw [hx]
          have hst := HS.out
          rw [hd] at hst
          obtain ⟨s1, s2, s3, s4⟩ := st_step hst
          rw [HZ.out] at s2
          have S3 := hid s3
          have S4 := hid s4
          clear hd hst s3 s4 HS hx
          obtain ⟨kd, tx, j⟩ := x
          simp only at p0 p1 p2 s1 s2 S3 S4
          go_wp2_with fail
          go_loop [5, 7] (fun x _ => ∃ q : Nat, x = .int .i64 q ∧ p ≤ q ∧ q ≤ j) (fun x _ => j - (intOf x).toNat)
          case atStart => exact ⟨p, rfl, Nat.le_refl _, s1⟩
          case round =>
            obtain ⟨q, rfl, hq1, hq2⟩ := hrel
            by_cases hlj : q < j
            · have hqt : q < t.size := by omega
              have hbl := S3.out q (by rw [HZ.out]; exact hqt) hq1 hlj
              have hbl2 : blB t[q] = true := hbl
              clear hbl
              have hqt2 : q < t.size := hqt
              obtain ⟨n, hn⟩ : ∃ n, t[q].toNat = n := ⟨_, rfl⟩
              have hc := bl_cases hbl2 hn
              have hi : ((t[q].toNat : Nat) : Int) = (n : Int) := by rw [hn]
              clear hbl2 hn
              rcases hc with rfl | rfl | rfl | rfl
              all_goals
                go_wp2_with fail
                go_round
                case rel => exact ⟨q + 1, val_int (by omega), by omega, by omega⟩
                case measure => simp [intOf]; omega
            · obtain rfl : q = j := by omega
              rcases S4.out with ⟨rfl, e1, qq, e2, e3⟩ | ⟨e0, e1, e2, e3⟩
              · have hjt : q < t.size := by have := (List.getElem?_eq_some_iff.1 e1).1; rw [HZ.out] at this; exact this
                have hjt2 : q < t.size := hjt
                have e4 : t[q].toNat = 34 := by
                  have := list_at t q hjt
                  rw [e1] at this; injection this with this; rw [← this]; rfl
                have hi : ((t[q].toNat : Nat) : Int) = 34 := by rw [e4]; rfl
                have E2 := hid e2
                have E3 := hid e3
                simp only [show ((2 : Nat) : Int) = 2 from rfl] at p0
                clear e1 e2 e3 e4 S4
                go_wp2_with fail
                go_loop [5] (fun x => ∃ z : Nat, x = .int .i64 z ∧ z ≤ t.size ∧ Hid (Sc t.data.toList z qq)) (fun x => t.size - (intOf x).toNat)
                case atStart => exact ⟨q + 1, val_int (by omega), by omega, E2.out⟩
                case round =>
                  obtain ⟨z, rfl, hz, HZS⟩ := hrel
                  have hsc := HZS.out
                  have hlt9 := hsc.lt
                  rw [HZ.out] at hlt9
                  clear HZS hi
                  have hzt : z < t.size := by omega
                  have hzt2 : z < t.size := hzt
                  have hat := list_at t z hzt
                  rcases hsc.ways with ⟨hzq, h⟩ | ⟨b, h, g1, g2, r⟩ | ⟨h, g1, r⟩
                  · clear hsc
                    have HZQ := hid hzq
                    clear hzq
                    have e4 : t[z].toNat = 34 := by
                      rw [h] at hat; injection hat with hat; rw [← hat]; rfl
                    have hi : ((t[z].toNat : Nat) : Int) = 34 := by rw [e4]; rfl
                    clear e4 hat h
                    go_wp2_with fail
                    go_roundw
                    case rel => exact ⟨z + 1, k + 1, val_int (by omega), val_int (by omega), by omega, hlt, by rw [HZQ.out]; exact E3.out, HG.out⟩
                    case measure => simp [intOf]; omega
                  · clear hsc
                    have e4 : t[z] = b := by rw [h] at hat; injection hat with hat; exact hat.symm
                    obtain ⟨n, hn⟩ : ∃ n, t[z].toNat = n := ⟨_, rfl⟩
                    have hi : ((t[z].toNat : Nat) : Int) = (n : Int) := by rw [hn]
                    have g3 : ((n : Int) != 34) = true := by rw [bne_iff_ne, ← hi, e4]; omega
                    have g4 : ((n : Int) == 92) = false := by rw [beq_eq_false_iff_ne, ← hi, e4]; omega
                    have g5 : ((n : Int) == 34) = false := by rw [beq_eq_false_iff_ne, ← hi, e4]; omega
                    have HR := hid r
                    clear e4 hat h g1 g2 hn r
                    go_wp2_with fail
                    go_round
                    case rel => exact ⟨z + 1, val_int (by omega), by omega, HR.out⟩
                    case measure => simp [intOf]; omega
                  · clear hsc
                    have e4 : t[z].toNat = 92 := by
                      rw [h] at hat; injection hat with hat; rw [← hat]; rfl
                    have hi : ((t[z].toNat : Nat) : Int) = 92 := by rw [e4]; rfl
                    rw [HZ.out] at g1
                    have HR := hid r
                    clear e4 hat h r
                    go_wp2_with fail
                    go_round
                    case rel => exact ⟨z + 2, val_int (by omega), by omega, HR.out⟩
                    case measure => simp [intOf]; omega
              · have g1 : ((kd : Int) == 2) = false := by rw [beq_eq_false_iff_ne]; omega
                rw [HZ.out] at e1
                have hm : t.extract q (q + tx.length) = mkS tx := by rw [ext_mk, e2]
                have hms := mkS_size tx
                obtain ⟨n, hn⟩ : ∃ n, tx.length = n := ⟨_, rfl⟩
                rw [hn] at e1 e3 hm hms
                obtain ⟨m, hmm⟩ : ∃ m, mkS tx = m := ⟨_, rfl⟩
                rw [hmm] at hm hms p1
                have E3 := hid e3
                clear e0 e2 e3 S4 hn hmm
                have d1 := lkeep (Below.refl _ wr).drew p1
                go_wp2_with fail
                have gd : decide (((t.size : Nat) : Int) - (q : Int) < (n : Int)) = false := decide_eq_false (by omega)
                go_quiet (fail)
                have d2 := lkeep (below_drewN (Below.refl _ wr) nq) p1
                go_wp2_with fail
                go_roundw
                case rel => exact ⟨q + n, k + 1, val_int (by omega), val_int (by omega), by omega, hlt, E3.out, below_drewN HG.out _⟩
                case measure => simp [intOf]; omega
        · have hk2 : k = ws.length := by omega
          have hst := HS.out
          rw [hk2, List.drop_length] at hst
          have HP : Hid (p = t.size) := by
            rcases hst with ⟨-, h⟩ | h
            · rw [HZ.out] at h; exact h
            · cases h
          clear hst HS
          go_wp2_with fail
          go_ret
          exact ⟨ret_bool (by rw [HP.out]; simp), lonto HB.out HG.out⟩
    · simp only [he, if_false] at CJ
      unfold faultV at CJ
      clear HW
      generalize clN t.size (ea : Int) = c1 at CJ
      generalize ofL t (ea : Int) = c2 at CJ
      generalize ofC t (ea : Int) = c3 at CJ
      have hen : ((er : Int) == 0) = false := by rw [beq_eq_false_iff_ne]; omega
      have hen2 : ((er : Int) != 0) = true := by rw [bne_iff_ne]; omega
      clear he
      go_enter Tryz.func6, Tryz.ntmps6
      go_wp2_with fail
      go_at_call 8
      refine (CA.out _ HGL.out).mono ?_
      rintro e w1 ⟨rfl, hb1⟩
      go_wp2_with fail
      go_at_call 9
      refine (CJ.out _ (HGL.out.on hb1)).mono ?_
      rintro e w2 ⟨v2, rfl, hw2, hb2⟩
      have HB := hid (lalloc (lonto hb1 hb2) (.cells #[.int .i64 (er : Int), .int .i64 c1, .int .i64 c2, .int .i64 c3] 26))
      clear hb1 hb2 hw2
      go_wp2_with fail
      go_ret
      exact ⟨rfl, HB.out⟩
  · go_enter Tryz.func6, Tryz.ntmps6
    go_wp2_with (go_at_call 8; go_must (refine (CA.out _ HGL.out).mono ?_; rintro e w1 ⟨rfl, hb1⟩))
    go_ret
    exact ⟨rfl, hb1⟩
end Go.Proofs.YtoamndiblckdlaaGreatDoor
