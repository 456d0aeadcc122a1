/- The loop of the document's TUnquote: at a letter. -/
import Derived.Test.YtikdggcdgdokiaaDoorEscT0
import Derived.Deep.CutRange
namespace Go.Proofs.YtikdggcdgdokiaaDoor
open Go.RowKit

set_option maxRecDepth 1000000 in
set_option maxHeartbeats 4000000 in
theorem tr_plain (many : Bool) (t : ByteArray) (a : Nat) (ha : a < t.size) (Q : Nat) (R : List UInt8 × Nat × Int) (w : World) (i f : Nat) (acc : List UInt8) (A : ByteArray) (c : Nat → Value) (Q0 : Exit → Act → World → Prop) (wr : World) (ht : t.size ≤ 1000000)
    (hQ : t[a].toNat = Q) (hqq : Q = 34 ∨ Q = 39) (hrel : TRel many t Q R w i f acc A wr) (hret : Hid (TRet R w Q0)) (hlt : i < t.size) (hiq : ¬ t[i].toNat = t[a].toNat) (hesc : ¬ (t[i].toNat = 92 ∧ t[a].toNat = 34)) (hbad : ¬ badB many (t.data.toList.drop i)) :
    Code.wp Tryd.prog ((Tryd.f13.body.bind firstLoop).getD .skip) (Exit.then (fun x w' => TI many t a ha Q R w x w' ∧ Tmu t x w' < t.size - i) Q0) ⟨#[.string t, .int .i64 (a : Int), c 2, c 3, c 4, c 5, c 6, .int .u8 (t[a].toNat : Int), .bool many, .int .i64 (i : Int), .string A, c 11, c 12, c 13, c 14, c 15, c 16, c 17, c 18, c 19, c 20, c 21, c 22, c 23, c 24, c 25, c 26, c 27, c 28, c 29, c 30, c 31, c 32, c 33, c 34, c 35, c 36, c 37, c 38, c 39, c 40, c 41, c 42, c 43, c 44, c 45, c 46, c 47, c 48, c 49, c 50, c 51, c 52, c 53, c 54, c 55, c 56, c 57, c 58, c 59, c 60, c 61, c 62, c 63, c 64, c 65, c 66, c 67, c 68, c 69, c 70, c 71, c 72, c 73, c 74, c 75, c 76, c 77, c 78, c 79, c 80, c 81, c 82, c 83, c 84, c 85, c 86, c 87, c 88, c 89, c 90, c 91, c 92, c 93, c 94, c 95, c 96, c 97, c 98, c 99, c 100, c 101, c 102, c 103, c 104, c 105, c 106, c 107, c 108, c 109, c 110, c 111, c 112, c 113, c 114, c 115, c 116, c 117, c 118, c 119, c 120, c 121, c 122, c 123, c 124, c 125, c 126, c 127, c 128, c 129, c 130, c 131, c 132, c 133, c 134, c 135, c 136, c 137, c 138, c 139, c 140, c 141, c 142, c 143, c 144, c 145, c 146, c 147, c 148, c 149, c 150, c 151, c 152, c 153, c 154, c 155, c 156, c 157, c 158, c 159, c 160, c 161, c 162, c 163, c 164, c 165, c 166, c 167, c 168, c 169, c 170, c 171, c 172, c 173, c 174, c 175, c 176, c 177, c 178, c 179, c 180, c 181, c 182, c 183, c 184, c 185, c 186, c 187, c 188, c 189, c 190, c 191, c 192, c 193, c 194, c 195, c 196, c 197, c 198, c 199, c 200, c 201, c 202, c 203, c 204, c 205, c 206, c 207, c 208, c 209, c 210, c 211, c 212, c 213, c 214, c 215, c 216, c 217, c 218, c 219, c 220, c 221, c 222, c 223, c 224, c 225, c 226, c 227, c 228, c 229, c 230, c 231, c 232, c 233, c 234, c 235, c 236, c 237, c 238, c 239, c 240, c 241, c 242, c 243, c 244, c 245, c 246, c 247, c 248, c 249, c 250, c 251, c 252, c 253, c 254, c 255, c 256, c 257, c 258, c 259, c 260, c 261, c 262, c 263, c 264], []⟩ wr := by
  have _u : True := (fun _ _ _ => trivial) ht hqq hret
  conv => arg 2; whnf
  have HZ := hid (size_list t)
  have HML := hid (show t.size ≤ maxLen from max_le ht)
  have B0 := hid (show bt (t.data.toList.drop i) 0 = t[i].toNat by rw [bt_drop]; exact bt_at t i hlt)
  have HTL := hid (show i < t.data.toList.length by rw [HZ.out]; exact hlt)
  have hit := hrel.le
  have hA := hrel.size
  have HA := hid hrel.text
  have HRD := hid hrel.run
  have HF := hid hrel.fuel
  have HB := hid hrel.bel
  have HQ := hid hQ
  have HQQ := hid hqq
  clear hrel hQ hqq
  have hlt2 : i < t.size := hlt
  have HNQ := hid (show bt (t.data.toList.drop i) 0 ≠ Q by rw [B0.out, ← HQ.out]; exact hiq)
  have giq : ((t[i].toNat : Int) == (t[a].toNat : Int)) = false := by rw [beq_eq_false_iff_ne]; omega
  have giqp : ¬ (t[i].toNat : Int) = (t[a].toNat : Int) := by omega
  have HB92 := hid (show ¬ (bt (t.data.toList.drop i) 0 = 92 ∧ Q = 34) by rw [B0.out, ← HQ.out]; exact hesc)
  have CT := hid (fun X => rtake_at t i X HML.out)
  have hnl : i + tkN (t.data.toList.drop i) ≤ t.size := by have := tkN_le (t.data.toList.drop i); rw [List.length_drop, HZ.out] at this; omega
  have B1 : Hid (∀ h : i + 1 < t.size, bt (t.data.toList.drop i) 1 = t[i + 1].toNat) := fun h => by rw [bt_drop]; exact bt_at t (i + 1) h
  have N1 : Hid (t.size ≤ i + 1 → bt (t.data.toList.drop i) 1 = 256) := fun h => by rw [bt_drop]; exact bt_none (by rw [HZ.out]; exact h)
  obtain ⟨ln, hln⟩ : ∃ ln, lineB many (t.data.toList.drop i) = ln := ⟨_, rfl⟩
  have HLN := hid hln
  have HES := hid hesc
  clear hiq hln hesc
  go_upto_region 24 with fail
  go_cut [168] from 101 to 262 (fun v wx => v = .bool false ∧ wx = wr)
  case first =>
    as_aux_lemma =>
      have hesc := HES.out
      have h' : (((t[i].toNat : Int) == 92) = false ∧ ¬ (t[i].toNat : Int) = 92) ∨ (((t[i].toNat : Int) == 92) = true ∧ (t[i].toNat : Int) = 92 ∧ ((t[a].toNat : Int) == 34) = false ∧ ¬ (t[a].toNat : Int) = 34) := by simp only [beq_iff_eq, beq_eq_false_iff_ne]; omega
      clear hesc
      rcases h' with ⟨f1, f1p⟩ | ⟨f1, f1p, f2, f2p⟩
      all_goals
        go_wp2_with fail
        go_meet
        exact ⟨rfl, rfl⟩
  case rest =>
  obtain ⟨rfl, hwc⟩ := hcut
  obtain rfl := hwc.symm
  go_wp2_with fail
  go_at_call 38
  refine (CT.out _).mono ?_
  rintro e w1 ⟨rfl, hb1⟩
  have HB01 := hid (eonto HB.out hb1)
  clear hb1 CT
  go_upto_region 34 with fail
  go_cut [16] from 101 to 262 (fun v wx => v = .bool ln ∧ wx = w1)
  case first =>
    as_aux_lemma =>
      have hl := HLN.out
      unfold lineB lnE at hl
      cases many with
      | false =>
        obtain rfl : ln = false := by rw [← hl]; rfl
        go_wp2_with fail
        go_meet
        exact ⟨rfl, rfl⟩
      | true =>
        rw [B0.out, Bool.true_and] at hl
        by_cases h10 : t[i].toNat = 10
        · obtain rfl : ln = true := by rw [← hl]; simp [h10]
          have f1 : ((t[i].toNat : Int) == 10) = true := by rw [beq_iff_eq]; omega
          have f1p : (t[i].toNat : Int) = 10 := by omega
          clear h10 hl
          go_wp2_with fail
          go_meet
          exact ⟨rfl, rfl⟩
        · have f1 : ((t[i].toNat : Int) == 10) = false := by rw [beq_eq_false_iff_ne]; omega
          have f1p : ¬ (t[i].toNat : Int) = 10 := by omega
          by_cases h13 : t[i].toNat = 13
          · have f2 : ((t[i].toNat : Int) == 13) = true := by rw [beq_iff_eq]; omega
            have f2p : (t[i].toNat : Int) = 13 := by omega
            by_cases hn : i + 1 < t.size
            · have f3 : decide ((i : Int) + 1 < (t.size : Int)) = true := decide_eq_true (by omega)
              have f3p : (i : Int) + 1 < (t.size : Int) := by omega
              rw [B1.out hn] at hl
              by_cases h14 : t[i + 1].toNat = 10
              · have f4 : ((t[i + 1].toNat : Int) == 10) = true := by rw [beq_iff_eq]; omega
                have f4p : (t[i + 1].toNat : Int) = 10 := by omega
                obtain rfl : ln = true := by rw [← hl]; simp [h13, h14]
                clear h10 hl h13 h14
                go_wp2_with fail
                go_meet
                exact ⟨rfl, rfl⟩
              · have f4 : ((t[i + 1].toNat : Int) == 10) = false := by rw [beq_eq_false_iff_ne]; omega
                have f4p : ¬ (t[i + 1].toNat : Int) = 10 := by omega
                obtain rfl : ln = false := by rw [← hl]; simp [h10, h14]
                clear h10 hl h13 h14
                go_wp2_with fail
                go_meet
                exact ⟨rfl, rfl⟩
            · have f3 : decide ((i : Int) + 1 < (t.size : Int)) = false := decide_eq_false (by omega)
              have f3p : ¬ (i : Int) + 1 < (t.size : Int) := by omega
              obtain rfl : ln = false := by rw [← hl, N1.out (by omega)]; simp [h10]
              clear h10 hl h13
              go_wp2_with fail
              go_meet
              exact ⟨rfl, rfl⟩
          · have f2 : ((t[i].toNat : Int) == 13) = false := by rw [beq_eq_false_iff_ne]; omega
            have f2p : ¬ (t[i].toNat : Int) = 13 := by omega
            obtain rfl : ln = false := by rw [← hl]; simp [h10, h13]
            clear h10 hl h13
            go_wp2_with fail
            go_meet
            exact ⟨rfl, rfl⟩
  case rest =>
  obtain ⟨rfl, hwc⟩ := hcut
  obtain rfl := hwc.symm
  obtain ⟨bd, hbd⟩ : ∃ bd : Bool, (decide (tkN (t.data.toList.drop i) = 0) || ((decide (t[i].toNat < 32) || decide (t[i].toNat = 127)) && !decide (t[i].toNat = 9) && !ln)) = bd := ⟨_, rfl⟩
  have HBD := hid hbd
  have HBB := hid (show badB many (t.data.toList.drop i) ↔ bd = true by
    rw [← hbd]
    unfold badB
    rw [HLN.out, B0.out]
    simp [Bool.or_eq_true, Bool.and_eq_true, and_assoc])
  clear hbd
  go_upto_region 35 with fail
  go_cut [250] from 101 to 262 (fun v wx => v = .bool bd ∧ wx = w1)
  case first =>
    as_aux_lemma =>
      have hbd := HBD.out
      by_cases z0 : tkN (t.data.toList.drop i) = 0
      · have f0 : (((tkN (t.data.toList.drop i) : Nat) : Int) == 0) = true := by rw [z0]; rfl
        obtain rfl : bd = true := by rw [← hbd, decide_eq_true z0]; rfl
        clear hbd z0
        go_wp2_with fail
        go_meet
        exact ⟨rfl, rfl⟩
      · have f0 : (((tkN (t.data.toList.drop i) : Nat) : Int) == 0) = false := by rw [beq_eq_false_iff_ne]; omega
        rw [decide_eq_false z0, Bool.false_or] at hbd
        generalize tkN (t.data.toList.drop i) = n at *
        by_cases z1 : t[i].toNat < 32
        · have f1 : decide ((t[i].toNat : Int) < 32) = true := decide_eq_true (by omega)
          have f1p : (t[i].toNat : Int) < 32 := by omega
          rw [decide_eq_true z1, Bool.true_or, Bool.true_and] at hbd
          by_cases z3 : t[i].toNat = 9
          · have f3 : ((t[i].toNat : Int) != 9) = false := by rw [bne_eq_false_iff_eq]; omega
            have f3p : (t[i].toNat : Int) = 9 := by omega
            obtain rfl : bd = false := by rw [← hbd, decide_eq_true z3]; rfl
            clear hbd z0 z1 z3
            go_wp2_with fail
            go_meet
            exact ⟨rfl, rfl⟩
          · have f3 : ((t[i].toNat : Int) != 9) = true := by rw [bne_iff_ne]; omega
            have f3p : ¬ (t[i].toNat : Int) = 9 := by omega
            obtain rfl : bd = !ln := by rw [← hbd, decide_eq_false z3]; rfl
            clear hbd z0 z1 z3
            cases ln
            all_goals
              go_wp2_with fail
              go_meet
              exact ⟨rfl, rfl⟩
        · have f1 : decide ((t[i].toNat : Int) < 32) = false := decide_eq_false (by omega)
          have f1p : ¬ (t[i].toNat : Int) < 32 := by omega
          rw [decide_eq_false z1, Bool.false_or] at hbd
          by_cases z2 : t[i].toNat = 127
          · have f2 : ((t[i].toNat : Int) == 127) = true := by rw [beq_iff_eq]; omega
            have f2p : (t[i].toNat : Int) = 127 := by omega
            have f3 : ((t[i].toNat : Int) != 9) = true := by rw [bne_iff_ne]; omega
            have f3p : ¬ (t[i].toNat : Int) = 9 := by omega
            obtain rfl : bd = !ln := by rw [← hbd, decide_eq_true z2, decide_eq_false (by omega)]; rfl
            clear hbd z0 z1 z2
            cases ln
            all_goals
              go_wp2_with fail
              go_meet
              exact ⟨rfl, rfl⟩
          · have f2 : ((t[i].toNat : Int) == 127) = false := by rw [beq_eq_false_iff_ne]; omega
            have f2p : ¬ (t[i].toNat : Int) = 127 := by omega
            obtain rfl : bd = false := by rw [← hbd, decide_eq_false z2]; rfl
            clear hbd z0 z1 z2
            go_wp2_with fail
            go_meet
            exact ⟨rfl, rfl⟩
  case rest =>
  obtain ⟨rfl, hwc⟩ := hcut
  obtain rfl := hwc.symm
  obtain rfl : bd = false := by
    cases bd with
    | false => rfl
    | true => exact absurd (HBB.out.2 rfl) hbad
  obtain ⟨f', HN1, HN2⟩ := tu_plain (many := many) (acc := acc) HF.out HTL.out HNQ.out HQQ.out HB92.out hbad
  have HN3 := hid (HN1.symm.trans HRD.out)
  have HN4 := hid HN2
  have hn0 : 0 < tkN (t.data.toList.drop i) := by
    by_cases h : tkN (t.data.toList.drop i) = 0
    · exact absurd (Or.inl h) hbad
    · omega
  have HM2 := hid (show A ++ t.extract i (i + tkN (t.data.toList.drop i)) = mkS (acc ++ (t.data.toList.drop i).take (tkN (t.data.toList.drop i))) by rw [ext_mkS, HA.out, mkS_app])
  have HMS := hid (show (t.extract i (i + tkN (t.data.toList.drop i))).size = tkN (t.data.toList.drop i) by rw [ByteArray.size_extract]; omega)
  have hms' : (t.extract i (i + tkN (t.data.toList.drop i))).size ≤ 1000000 := by rw [HMS.out]; omega
  clear HN1 HN2 HBB HBD hbad hret
  generalize tkN (t.data.toList.drop i) = n at *
  go_wp2_with fail
  refine ⟨⟨rfl, rfl, rfl, rfl, rfl, rfl, i + n, f', acc ++ (t.data.toList.drop i).take n, A ++ t.extract i (i + n), ?_, rfl, ⟨by omega, by rw [ByteArray.size_append, HMS.out]; omega, HM2.out, HN3.out, HN4.out, HB01.out⟩⟩, ?_⟩
  · exact val_int (by omega)
  · show t.size - (intOf (.int .i64 _)).toNat < t.size - i
    simp [intOf]; omega
end Go.Proofs.YtikdggcdgdokiaaDoor
