/- The loop of the document's TUnquote: at a stroke. -/
import Derived.Test.YtikdggcdgdokiaaDoorEscT0
import Derived.Deep.CutRange
namespace Go.Proofs.YtikdggcdgdokiaaDoor
open Go.RowKit

set_option maxRecDepth 1000000 in
set_option maxHeartbeats 4000000 in
theorem tr_fold (many : Bool) (t : ByteArray) (a : Nat) (ha : a < t.size) (Q : Nat) (R : List UInt8 × Nat × Int) (w : World) (i f : Nat) (acc : List UInt8) (A : ByteArray) (c : Nat → Value) (Q0 : Exit → Act → World → Prop) (wr : World) (ht : t.size ≤ 1000000)
    (hQ : t[a].toNat = Q) (hqq : Q = 34 ∨ Q = 39) (hrel : TRel many t Q R w i f acc A wr) (hret : Hid (TRet R w Q0)) (hlt : i < t.size) (hesc : t[i].toNat = 92 ∧ t[a].toNat = 34) (hfd : 0 < fdM many (t.data.toList.drop i)) :
    Code.wp Tryd.prog ((Tryd.f13.body.bind firstLoop).getD .skip) (Exit.then (fun x w' => TI many t a ha Q R w x w' ∧ Tmu t x w' < t.size - i) Q0) ⟨#[.string t, .int .i64 (a : Int), c 2, c 3, c 4, c 5, c 6, .int .u8 (t[a].toNat : Int), .bool many, .int .i64 (i : Int), .string A, c 11, c 12, c 13, c 14, c 15, c 16, c 17, c 18, c 19, c 20, c 21, c 22, c 23, c 24, c 25, c 26, c 27, c 28, c 29, c 30, c 31, c 32, c 33, c 34, c 35, c 36, c 37, c 38, c 39, c 40, c 41, c 42, c 43, c 44, c 45, c 46, c 47, c 48, c 49, c 50, c 51, c 52, c 53, c 54, c 55, c 56, c 57, c 58, c 59, c 60, c 61, c 62, c 63, c 64, c 65, c 66, c 67, c 68, c 69, c 70, c 71, c 72, c 73, c 74, c 75, c 76, c 77, c 78, c 79, c 80, c 81, c 82, c 83, c 84, c 85, c 86, c 87, c 88, c 89, c 90, c 91, c 92, c 93, c 94, c 95, c 96, c 97, c 98, c 99, c 100, c 101, c 102, c 103, c 104, c 105, c 106, c 107, c 108, c 109, c 110, c 111, c 112, c 113, c 114, c 115, c 116, c 117, c 118, c 119, c 120, c 121, c 122, c 123, c 124, c 125, c 126, c 127, c 128, c 129, c 130, c 131, c 132, c 133, c 134, c 135, c 136, c 137, c 138, c 139, c 140, c 141, c 142, c 143, c 144, c 145, c 146, c 147, c 148, c 149, c 150, c 151, c 152, c 153, c 154, c 155, c 156, c 157, c 158, c 159, c 160, c 161, c 162, c 163, c 164, c 165, c 166, c 167, c 168, c 169, c 170, c 171, c 172, c 173, c 174, c 175, c 176, c 177, c 178, c 179, c 180, c 181, c 182, c 183, c 184, c 185, c 186, c 187, c 188, c 189, c 190, c 191, c 192, c 193, c 194, c 195, c 196, c 197, c 198, c 199, c 200, c 201, c 202, c 203, c 204, c 205, c 206, c 207, c 208, c 209, c 210, c 211, c 212, c 213, c 214, c 215, c 216, c 217, c 218, c 219, c 220, c 221, c 222, c 223, c 224, c 225, c 226, c 227, c 228, c 229, c 230, c 231, c 232, c 233, c 234, c 235, c 236, c 237, c 238, c 239, c 240, c 241, c 242, c 243, c 244, c 245, c 246, c 247, c 248, c 249, c 250, c 251, c 252, c 253, c 254, c 255, c 256, c 257, c 258, c 259, c 260, c 261, c 262, c 263, c 264], []⟩ wr := by
  have _u : True := (fun _ _ _ => trivial) ht hqq hret
  conv => arg 2; whnf
  have HZ := hid (size_list t)
  have HML := hid (show t.size ≤ maxLen from max_le ht)
  have B0 := hid (show bt (t.data.toList.drop i) 0 = t[i].toNat by rw [bt_drop]; exact bt_at t i hlt)
  have HTL := hid (show i < t.data.toList.length by rw [HZ.out]; exact hlt)
  have hit := hrel.le
  have hA := hrel.size
  have HA := hid hrel.text
  have HRD := hid hrel.run
  have HF := hid hrel.fuel
  have HB := hid hrel.bel
  have HQ := hid hQ
  have HQQ := hid hqq
  clear hrel hQ hqq
  have hlt2 : i < t.size := hlt
  have g92 : ((t[i].toNat : Int) == 92) = true := by rw [beq_iff_eq]; omega
  have g34 : ((t[a].toNat : Int) == 34) = true := by rw [beq_iff_eq]; omega
  have H34p := hid (show (t[a].toNat : Int) = 34 by omega)
  have H92p := hid (show (t[i].toNat : Int) = 92 by omega)
  have giq : ((t[i].toNat : Int) == (t[a].toNat : Int)) = false := by rw [beq_eq_false_iff_ne]; omega
  obtain rfl : Q = 34 := by rw [← HQ.out]; exact hesc.2
  have H92 := hid (show bt (t.data.toList.drop i) 0 = 92 by rw [B0.out]; exact hesc.1)
  have CF := hid (fun X => rfolded_any t i many X ht hlt)
  have hfl : i + fdM many (t.data.toList.drop i) ≤ t.size := by
    have h1 := fdN_le (t.data.toList.drop i)
    rw [List.length_drop, HZ.out] at h1
    unfold fdM; split <;> omega
  clear hesc
  obtain ⟨f', HN1, HN2⟩ := tu_fold (many := many) (acc := acc) HF.out HTL.out H92.out hfd
  have HN3 := hid (HN1.symm.trans HRD.out)
  have HN4 := hid HN2
  clear HN1 HN2 hret
  generalize fdM many (t.data.toList.drop i) = n at *
  go_wp2_with fail
  all_goals try (exact absurd H92p.out (by assumption))
  all_goals try (exact absurd H34p.out (by assumption))
  go_at_call 39
  refine (CF.out _).mono ?_
  rintro e w1 ⟨rfl, hw1⟩
  obtain rfl := hw1.symm
  go_wp2_with fail
  refine ⟨⟨rfl, rfl, rfl, rfl, rfl, rfl, i + n, f', acc, A, ?_, rfl, ⟨by omega, by omega, HA.out, HN3.out, HN4.out, HB.out⟩⟩, ?_⟩
  · exact val_int (by omega)
  · show t.size - (intOf (.int .i64 _)).toNat < t.size - i
    simp [intOf]; omega
set_option maxRecDepth 1000000 in
set_option maxHeartbeats 4000000 in
theorem tr_escbad (many : Bool) (t : ByteArray) (a : Nat) (ha : a < t.size) (Q : Nat) (R : List UInt8 × Nat × Int) (w : World) (i f : Nat) (acc : List UInt8) (A : ByteArray) (c : Nat → Value) (Q0 : Exit → Act → World → Prop) (wr : World) (ht : t.size ≤ 1000000)
    (hQ : t[a].toNat = Q) (hqq : Q = 34 ∨ Q = 39) (hrel : TRel many t Q R w i f acc A wr) (hret : Hid (TRet R w Q0)) (hlt : i < t.size) (hesc : t[i].toNat = 92 ∧ t[a].toNat = 34) (hfd : fdM many (t.data.toList.drop i) = 0) (hz : (escP true (t.data.toList.drop i)).2 = 0) :
    Code.wp Tryd.prog ((Tryd.f13.body.bind firstLoop).getD .skip) (Exit.then (fun x w' => TI many t a ha Q R w x w' ∧ Tmu t x w' < t.size - i) Q0) ⟨#[.string t, .int .i64 (a : Int), c 2, c 3, c 4, c 5, c 6, .int .u8 (t[a].toNat : Int), .bool many, .int .i64 (i : Int), .string A, c 11, c 12, c 13, c 14, c 15, c 16, c 17, c 18, c 19, c 20, c 21, c 22, c 23, c 24, c 25, c 26, c 27, c 28, c 29, c 30, c 31, c 32, c 33, c 34, c 35, c 36, c 37, c 38, c 39, c 40, c 41, c 42, c 43, c 44, c 45, c 46, c 47, c 48, c 49, c 50, c 51, c 52, c 53, c 54, c 55, c 56, c 57, c 58, c 59, c 60, c 61, c 62, c 63, c 64, c 65, c 66, c 67, c 68, c 69, c 70, c 71, c 72, c 73, c 74, c 75, c 76, c 77, c 78, c 79, c 80, c 81, c 82, c 83, c 84, c 85, c 86, c 87, c 88, c 89, c 90, c 91, c 92, c 93, c 94, c 95, c 96, c 97, c 98, c 99, c 100, c 101, c 102, c 103, c 104, c 105, c 106, c 107, c 108, c 109, c 110, c 111, c 112, c 113, c 114, c 115, c 116, c 117, c 118, c 119, c 120, c 121, c 122, c 123, c 124, c 125, c 126, c 127, c 128, c 129, c 130, c 131, c 132, c 133, c 134, c 135, c 136, c 137, c 138, c 139, c 140, c 141, c 142, c 143, c 144, c 145, c 146, c 147, c 148, c 149, c 150, c 151, c 152, c 153, c 154, c 155, c 156, c 157, c 158, c 159, c 160, c 161, c 162, c 163, c 164, c 165, c 166, c 167, c 168, c 169, c 170, c 171, c 172, c 173, c 174, c 175, c 176, c 177, c 178, c 179, c 180, c 181, c 182, c 183, c 184, c 185, c 186, c 187, c 188, c 189, c 190, c 191, c 192, c 193, c 194, c 195, c 196, c 197, c 198, c 199, c 200, c 201, c 202, c 203, c 204, c 205, c 206, c 207, c 208, c 209, c 210, c 211, c 212, c 213, c 214, c 215, c 216, c 217, c 218, c 219, c 220, c 221, c 222, c 223, c 224, c 225, c 226, c 227, c 228, c 229, c 230, c 231, c 232, c 233, c 234, c 235, c 236, c 237, c 238, c 239, c 240, c 241, c 242, c 243, c 244, c 245, c 246, c 247, c 248, c 249, c 250, c 251, c 252, c 253, c 254, c 255, c 256, c 257, c 258, c 259, c 260, c 261, c 262, c 263, c 264], []⟩ wr := by
  have _u : True := (fun _ _ _ => trivial) ht hqq hret
  conv => arg 2; whnf
  have HZ := hid (size_list t)
  have HML := hid (show t.size ≤ maxLen from max_le ht)
  have B0 := hid (show bt (t.data.toList.drop i) 0 = t[i].toNat by rw [bt_drop]; exact bt_at t i hlt)
  have HTL := hid (show i < t.data.toList.length by rw [HZ.out]; exact hlt)
  have hit := hrel.le
  have hA := hrel.size
  have HA := hid hrel.text
  have HRD := hid hrel.run
  have HF := hid hrel.fuel
  have HB := hid hrel.bel
  have HQ := hid hQ
  have HQQ := hid hqq
  clear hrel hQ hqq
  have hlt2 : i < t.size := hlt
  have g92 : ((t[i].toNat : Int) == 92) = true := by rw [beq_iff_eq]; omega
  have g34 : ((t[a].toNat : Int) == 34) = true := by rw [beq_iff_eq]; omega
  have H34p := hid (show (t[a].toNat : Int) = 34 by omega)
  have H92p := hid (show (t[i].toNat : Int) = 92 by omega)
  have giq : ((t[i].toNat : Int) == (t[a].toNat : Int)) = false := by rw [beq_eq_false_iff_ne]; omega
  obtain rfl : Q = 34 := by rw [← HQ.out]; exact hesc.2
  have H92 := hid (show bt (t.data.toList.drop i) 0 = 92 by rw [B0.out]; exact hesc.1)
  have CF := hid (fun X => rfolded_any t i many X ht hlt)
  have hfl : i + fdM many (t.data.toList.drop i) ≤ t.size := by
    have h1 := fdN_le (t.data.toList.drop i)
    rw [List.length_drop, HZ.out] at h1
    unfold fdM; split <;> omega
  clear hesc
  have CE := hid (fun X => rescape_any t i true X ht hlt)
  rw [hfd] at CF
  have HRR := hid (HRD.out.symm.trans (tu_escbad (many := many) (acc := acc) HF.out HTL.out H92.out hfd hz))
  rw [hz] at CE
  clear hz hfl hfd
  go_wp2_with fail
  all_goals try (exact absurd H92p.out (by assumption))
  all_goals try (exact absurd H34p.out (by assumption))
  go_at_call 39
  refine (CF.out _).mono ?_
  rintro e w1 ⟨rfl, hw1⟩
  obtain rfl := hw1.symm
  go_wp2_with fail
  go_at_call 37
  refine (CE.out _).mono ?_
  rintro e w2 ⟨rfl, hb2⟩
  go_wp2_with fail
  refine hret.out _ _ rfl ?_ (eonto HB.out hb2)
  rw [HRR.out]
  simp [results, Tryd.results13, go_sem, mkS]
set_option maxRecDepth 1000000 in
set_option maxHeartbeats 4000000 in
theorem tr_esc (many : Bool) (t : ByteArray) (a : Nat) (ha : a < t.size) (Q : Nat) (R : List UInt8 × Nat × Int) (w : World) (i f : Nat) (acc : List UInt8) (A : ByteArray) (c : Nat → Value) (Q0 : Exit → Act → World → Prop) (wr : World) (ht : t.size ≤ 1000000)
    (hQ : t[a].toNat = Q) (hqq : Q = 34 ∨ Q = 39) (hrel : TRel many t Q R w i f acc A wr) (hret : Hid (TRet R w Q0)) (hlt : i < t.size) (hesc : t[i].toNat = 92 ∧ t[a].toNat = 34) (hfd : fdM many (t.data.toList.drop i) = 0) (hz : 0 < (escP true (t.data.toList.drop i)).2) :
    Code.wp Tryd.prog ((Tryd.f13.body.bind firstLoop).getD .skip) (Exit.then (fun x w' => TI many t a ha Q R w x w' ∧ Tmu t x w' < t.size - i) Q0) ⟨#[.string t, .int .i64 (a : Int), c 2, c 3, c 4, c 5, c 6, .int .u8 (t[a].toNat : Int), .bool many, .int .i64 (i : Int), .string A, c 11, c 12, c 13, c 14, c 15, c 16, c 17, c 18, c 19, c 20, c 21, c 22, c 23, c 24, c 25, c 26, c 27, c 28, c 29, c 30, c 31, c 32, c 33, c 34, c 35, c 36, c 37, c 38, c 39, c 40, c 41, c 42, c 43, c 44, c 45, c 46, c 47, c 48, c 49, c 50, c 51, c 52, c 53, c 54, c 55, c 56, c 57, c 58, c 59, c 60, c 61, c 62, c 63, c 64, c 65, c 66, c 67, c 68, c 69, c 70, c 71, c 72, c 73, c 74, c 75, c 76, c 77, c 78, c 79, c 80, c 81, c 82, c 83, c 84, c 85, c 86, c 87, c 88, c 89, c 90, c 91, c 92, c 93, c 94, c 95, c 96, c 97, c 98, c 99, c 100, c 101, c 102, c 103, c 104, c 105, c 106, c 107, c 108, c 109, c 110, c 111, c 112, c 113, c 114, c 115, c 116, c 117, c 118, c 119, c 120, c 121, c 122, c 123, c 124, c 125, c 126, c 127, c 128, c 129, c 130, c 131, c 132, c 133, c 134, c 135, c 136, c 137, c 138, c 139, c 140, c 141, c 142, c 143, c 144, c 145, c 146, c 147, c 148, c 149, c 150, c 151, c 152, c 153, c 154, c 155, c 156, c 157, c 158, c 159, c 160, c 161, c 162, c 163, c 164, c 165, c 166, c 167, c 168, c 169, c 170, c 171, c 172, c 173, c 174, c 175, c 176, c 177, c 178, c 179, c 180, c 181, c 182, c 183, c 184, c 185, c 186, c 187, c 188, c 189, c 190, c 191, c 192, c 193, c 194, c 195, c 196, c 197, c 198, c 199, c 200, c 201, c 202, c 203, c 204, c 205, c 206, c 207, c 208, c 209, c 210, c 211, c 212, c 213, c 214, c 215, c 216, c 217, c 218, c 219, c 220, c 221, c 222, c 223, c 224, c 225, c 226, c 227, c 228, c 229, c 230, c 231, c 232, c 233, c 234, c 235, c 236, c 237, c 238, c 239, c 240, c 241, c 242, c 243, c 244, c 245, c 246, c 247, c 248, c 249, c 250, c 251, c 252, c 253, c 254, c 255, c 256, c 257, c 258, c 259, c 260, c 261, c 262, c 263, c 264], []⟩ wr := by
  have _u : True := (fun _ _ _ => trivial) ht hqq hret
  conv => arg 2; whnf
  have HZ := hid (size_list t)
  have HML := hid (show t.size ≤ maxLen from max_le ht)
  have B0 := hid (show bt (t.data.toList.drop i) 0 = t[i].toNat by rw [bt_drop]; exact bt_at t i hlt)
  have HTL := hid (show i < t.data.toList.length by rw [HZ.out]; exact hlt)
  have hit := hrel.le
  have hA := hrel.size
  have HA := hid hrel.text
  have HRD := hid hrel.run
  have HF := hid hrel.fuel
  have HB := hid hrel.bel
  have HQ := hid hQ
  have HQQ := hid hqq
  clear hrel hQ hqq
  have hlt2 : i < t.size := hlt
  have g92 : ((t[i].toNat : Int) == 92) = true := by rw [beq_iff_eq]; omega
  have g34 : ((t[a].toNat : Int) == 34) = true := by rw [beq_iff_eq]; omega
  have H34p := hid (show (t[a].toNat : Int) = 34 by omega)
  have H92p := hid (show (t[i].toNat : Int) = 92 by omega)
  have giq : ((t[i].toNat : Int) == (t[a].toNat : Int)) = false := by rw [beq_eq_false_iff_ne]; omega
  obtain rfl : Q = 34 := by rw [← HQ.out]; exact hesc.2
  have H92 := hid (show bt (t.data.toList.drop i) 0 = 92 by rw [B0.out]; exact hesc.1)
  have CF := hid (fun X => rfolded_any t i many X ht hlt)
  have hfl : i + fdM many (t.data.toList.drop i) ≤ t.size := by
    have h1 := fdN_le (t.data.toList.drop i)
    rw [List.length_drop, HZ.out] at h1
    unfold fdM; split <;> omega
  clear hesc
  have CE := hid (fun X => rescape_any t i true X ht hlt)
  rw [hfd] at CF
  obtain ⟨f', HN1, HN2⟩ := tu_esc (many := many) (acc := acc) HF.out HTL.out H92.out hfd hz
  have hfit := fits_esc true (t.data.toList.drop i)
  rw [List.length_drop, HZ.out] at hfit
  obtain ⟨x1, hx1⟩ : ∃ x, (escP true (t.data.toList.drop i)).1 = x := ⟨_, rfl⟩
  obtain ⟨x2, hx2⟩ : ∃ x, (escP true (t.data.toList.drop i)).2 = x := ⟨_, rfl⟩
  rw [hx1, hx2] at CE HN1 hfit
  rw [hx2] at HN2 hz
  have HN3 := hid (HN1.symm.trans HRD.out)
  have HN4 := hid HN2
  obtain ⟨fp1, fp2⟩ := hfit
  have hp0 : ((x2 : Int) == 0) = false := by rw [beq_eq_false_iff_ne]; omega
  have hp0p : ¬ (x2 : Int) = 0 := by omega
  obtain ⟨m, hm⟩ : ∃ m, mkS x1 = m := ⟨_, rfl⟩
  have hms : m.size ≤ x2 := by rw [← hm, mkS_size]; exact fp2
  have HM2 := hid (show A ++ m = mkS (acc ++ x1) by rw [← hm, HA.out, mkS_app])
  rw [hm] at CE
  clear HN1 HN2 hm hx1 hx2 hfd hret hfl
  go_wp2_with fail
  all_goals try (exact absurd H92p.out (by assumption))
  all_goals try (exact absurd H34p.out (by assumption))
  go_at_call 39
  refine (CF.out _).mono ?_
  rintro e w1 ⟨rfl, hw1⟩
  obtain rfl := hw1.symm
  go_wp2_with fail
  go_at_call 37
  refine (CE.out _).mono ?_
  rintro e w2 ⟨rfl, hb2⟩
  go_wp2_with fail
  refine ⟨⟨rfl, rfl, rfl, rfl, rfl, rfl, i + x2, f', acc ++ x1, A ++ m, ?_, rfl, ⟨by omega, by rw [ByteArray.size_append]; omega, HM2.out, HN3.out, HN4.out, eonto HB.out hb2⟩⟩, ?_⟩
  · exact val_int (by omega)
  · show t.size - (intOf (.int .i64 _)).toNat < t.size - i
    simp [intOf]; omega
end Go.Proofs.YtikdggcdgdokiaaDoor
