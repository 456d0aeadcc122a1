/- jlex.takeString, takeName, takeNumber, take: walked. -/
import Derived.Test.YtoamndiblckdlaaGreatDoorJxB
import Derived.Test.YtoamndiblckdlaaGreatDoorJxE
import Derived.Test.YtoamndiblckdlaaGreatDoorEscI
import Derived.Test.YtoamndiblckdlaaGreatDoorLexE
namespace Go.Proofs.YtoamndiblckdlaaGreatDoor
open Go.RowKit

/-- what take answers -/
def twV (t : ByteArray) (i : Nat) (x : LW) : Value :=
  if x.er = 0 then .tuple #[.agg #[.int .i64 (x.kd : Nat), .string (mkS x.tx), .int .i64 (i : Nat)], .int .i64 (x.nx : Nat), .agg #[.int .i64 0, .int .i64 0, .int .i64 0, .int .i64 0]]
  else .tuple #[.agg #[.int .i64 0, .string ⟨#[]⟩, .int .i64 0], .int .i64 0, faultV t (x.ea : Nat) (x.er : Nat)]
theorem ret_of {a b : Value} (h : a = b) : Ending.returned a = .returned b := by rw [h]
theorem tw_ok {t : ByteArray} {i : Nat} {x : LW} {k : Int} {m : ByteArray} {n : Int} (h : x.er = 0) (hk : k = (x.kd : Nat)) (hm : m = mkS x.tx) (hn : n = (x.nx : Nat)) :
    twV t i x = .tuple #[.agg #[.int .i64 k, .string m, .int .i64 (i : Nat)], .int .i64 n, .agg #[.int .i64 0, .int .i64 0, .int .i64 0, .int .i64 0]] := by
  unfold twV; rw [if_pos h, hk, hm, hn]
theorem tw_no {t : ByteArray} {i : Nat} {x : LW} {a e : Int} (h : ¬ x.er = 0) (ha : a = (x.ea : Nat)) (he : e = (x.er : Nat)) :
    twV t i x = .tuple #[.agg #[.int .i64 0, .string ⟨#[]⟩, .int .i64 0], .int .i64 0, faultV t a e] := by
  unfold twV; rw [if_neg h, ha, he]
theorem refuse_ex (t : ByteArray) (a x : Int) (w : World) (ht : t.size ≤ 1000000) :
    Calls Tryz.prog 33 #[.string t, .int .i64 a, .int .i64 x] w fun e w' => ∃ f1 f2 f3 : Int, Hid (faultV t a x = .agg #[.int .i64 x, .int .i64 f1, .int .i64 f2, .int .i64 f3]) ∧ e = .returned (.tuple #[.agg #[.int .i64 0, .string ⟨#[]⟩, .int .i64 0], .int .i64 0, .agg #[.int .i64 x, .int .i64 f1, .int .i64 f2, .int .i64 f3]]) ∧ Below w.heap.size w w' :=
  (refuse_any t a x w ht).mono fun _ _ ⟨he, hb⟩ => ⟨_, _, _, rfl, he, hb⟩
set_option maxRecDepth 100000 in
set_option maxHeartbeats 1000000 in
theorem tstr_any (t : ByteArray) (i : Nat) (w : World) (ht : t.size ≤ 1000000) :
    Calls Tryz.prog 30 #[.string t, .int .i64 (i : Int)] w fun e w' => e = .returned (twV t i (lwS t.data.toList i)) ∧ Below w.heap.size w w' := by
  have CU := hid (fun X => unq_any t (i : Int) X ht)
  have CR := hid (fun a x X => refuse_ex t a x X ht)
  have HS : Hid (lwS t.data.toList i = if 0 ≤ (unqJ t.data.toList i).2.2 then ⟨0, [], 0, 4, (unqJ t.data.toList i).2.2.toNat⟩ else if 4096 < (unqJ t.data.toList i).1.length then ⟨0, [], 0, 2, i⟩ else ⟨2, (unqJ t.data.toList i).1, (unqJ t.data.toList i).2.1, 0, 0⟩) := rfl
  obtain ⟨⟨q1, q2, q3⟩, hQ⟩ : ∃ Q, unqJ t.data.toList (i : Int) = Q := ⟨_, rfl⟩
  rw [hQ] at CU HS
  clear hQ
  simp only at CU HS
  obtain ⟨L, hL⟩ : ∃ L, lwS t.data.toList i = L := ⟨_, rfl⟩
  rw [hL] at HS ⊢
  clear hL
  obtain ⟨m, hm⟩ : ∃ m, mkS q1 = m := ⟨_, rfl⟩
  have HM := hid (show m = mkS q1 from hm.symm)
  have hms : m.size = q1.length := by rw [← hm, mkS_size]
  rw [hm] at CU
  clear hm
  by_cases h0 : 0 ≤ q3
  · have HE := hid (HS.out.trans (if_pos h0))
    have HF := hid (show twV t i L = .tuple #[.agg #[.int .i64 0, .string ⟨#[]⟩, .int .i64 0], .int .i64 0, faultV t q3 4] from tw_no (by rw [HE.out]; simp) (by rw [HE.out]; simp only; omega) (by rw [HE.out]; rfl))
    go_enter Tryz.func30, Tryz.ntmps30
    go_wp2_with fail
    go_at_call 46
    refine (CU.out _).mono ?_
    rintro e w1 ⟨rfl, hb1⟩
    have HB1 : Hid (Below (Tryz.pwW w).heap.size (Tryz.pwW w) w1) := hb1
    clear hb1
    go_wp2_with fail
    go_at_call 33
    refine (CR.out _ _ _).mono ?_
    rintro e w9 ⟨f1, f2, f3, HV, rfl, hb9⟩
    have HB9 : Hid (Below (Tryz.pwW w).heap.size (Tryz.pwW w) w9) := onto HB1.out hb9
    clear hb9
    obtain ⟨⟨a0, a1, a2, a3⟩, ⟨b0, b1, b2, b3, b4⟩, hz9⟩ := Tryz.pw_keeps HB9.out
    go_wp2_with fail
    refine bodyPost_ret (v := .tuple #[.agg #[.int .i64 0, .string ⟨#[]⟩, .int .i64 0], .int .i64 0, .agg #[.int .i64 4, .int .i64 f1, .int .i64 f2, .int .i64 f3]]) (by simp [results, Tryz.results30, go_sem, a0, a1, a2, b0, b1, b2, b3]) rfl ⟨ret_of (by rw [HF.out, HV.out]), ?_⟩
    exact set7 (onto (Tryz.pw_bel w) HB9.out) (Nat.le_refl _) (Nat.le_succ _)
  · have h0' : q3 < 0 := by omega
    by_cases h4 : 4096 < q1.length
    · have HE := hid (HS.out.trans ((if_neg h0).trans (if_pos h4)))
      have HF := hid (show twV t i L = .tuple #[.agg #[.int .i64 0, .string ⟨#[]⟩, .int .i64 0], .int .i64 0, faultV t (i : Int) 2] from tw_no (by rw [HE.out]; simp) (by rw [HE.out]) (by rw [HE.out]; rfl))
      have h4' : 4096 < m.size := by omega
      clear hms h4
      go_enter Tryz.func30, Tryz.ntmps30
      go_wp2_with fail
      go_at_call 46
      refine (CU.out _).mono ?_
      rintro e w1 ⟨rfl, hb1⟩
      have HB1 : Hid (Below (Tryz.pwW w).heap.size (Tryz.pwW w) w1) := hb1
      clear hb1
      go_wp2_with fail
      go_at_call 33
      refine (CR.out _ _ _).mono ?_
      rintro e w9 ⟨f1, f2, f3, HV, rfl, hb9⟩
      have HB9 : Hid (Below (Tryz.pwW w).heap.size (Tryz.pwW w) w9) := onto HB1.out hb9
      clear hb9
      obtain ⟨⟨a0, a1, a2, a3⟩, ⟨b0, b1, b2, b3, b4⟩, hz9⟩ := Tryz.pw_keeps HB9.out
      go_wp2_with fail
      refine bodyPost_ret (v := .tuple #[.agg #[.int .i64 0, .string ⟨#[]⟩, .int .i64 0], .int .i64 0, .agg #[.int .i64 2, .int .i64 f1, .int .i64 f2, .int .i64 f3]]) (by simp [results, Tryz.results30, go_sem, a0, a1, a2, b0, b1, b2, b3]) rfl ⟨ret_of (by rw [HF.out, HV.out]), ?_⟩
      exact set7 (onto (Tryz.pw_bel w) HB9.out) (Nat.le_refl _) (Nat.le_succ _)
    · have HE := hid (HS.out.trans ((if_neg h0).trans (if_neg h4)))
      have HF := hid (show twV t i L = .tuple #[.agg #[.int .i64 2, .string m, .int .i64 (i : Nat)], .int .i64 (q2 : Nat), .agg #[.int .i64 0, .int .i64 0, .int .i64 0, .int .i64 0]] from tw_ok (by rw [HE.out]) (by rw [HE.out]; rfl) (by rw [HE.out]; exact HM.out) (by rw [HE.out]))
      have h4' : m.size ≤ 4096 := by omega
      clear hms h4
      go_enter Tryz.func30, Tryz.ntmps30
      go_wp2_with fail
      go_at_call 46
      refine (CU.out _).mono ?_
      rintro e w1 ⟨rfl, hb1⟩
      have HB1 : Hid (Below (Tryz.pwW w).heap.size (Tryz.pwW w) w1) := hb1
      clear hb1
      obtain ⟨⟨a0, a1, a2, a3⟩, ⟨b0, b1, b2, b3, b4⟩, hz9⟩ := Tryz.pw_keeps HB1.out
      go_wp2_with fail
      refine bodyPost_ret (v := .tuple #[.agg #[.int .i64 2, .string m, .int .i64 (i : Nat)], .int .i64 (q2 : Nat), .agg #[.int .i64 0, .int .i64 0, .int .i64 0, .int .i64 0]]) (by simp [results, Tryz.results30, go_sem, a0, a1, a2, b0, b1, b2, b3]) rfl ⟨ret_of (by rw [HF.out]), ?_⟩
      exact set7 (onto (Tryz.pw_bel w) HB1.out) (Nat.le_refl _) (Nat.le_succ _)
end Go.Proofs.YtoamndiblckdlaaGreatDoor
