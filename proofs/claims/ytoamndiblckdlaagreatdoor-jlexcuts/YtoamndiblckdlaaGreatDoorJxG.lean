/- jlex.takeName, takeNumber, take: walked. -/
import Derived.Test.YtoamndiblckdlaaGreatDoorJxF
namespace Go.Proofs.YtoamndiblckdlaaGreatDoor
open Go.RowKit

theorem jcut_list (t : ByteArray) (i n : Nat) : (t.extract i (i + n)).data.toList = (t.data.toList.drop i).take n := by
  have h := drop_ext t i (i + n)
  rwa [Nat.add_sub_cancel_left] at h
set_option maxRecDepth 100000 in
set_option maxHeartbeats 1000000 in
theorem tname_any (t : ByteArray) (i : Nat) (w : World) (ht : t.size ≤ 1000000) (hi : i ≤ t.size) :
    Calls Tryz.prog 31 #[.string t, .int .i64 (i : Int)] w fun e w' => e = .returned (twV t i (lwL t.data.toList i)) ∧ Below w.heap.size w w' := by
  have CE := hid (fun X => rowEnd_lc t i X ht hi)
  have CR := hid (fun a x X => refuse_ex t a x X ht)
  have HL : Hid (lwL t.data.toList i = if litB ((t.data.toList.drop i).take (run lowC (t.data.toList.drop i))) = true then ⟨4, (t.data.toList.drop i).take (run lowC (t.data.toList.drop i)), i + run lowC (t.data.toList.drop i), 0, 0⟩ else ⟨0, [], 0, 4, i⟩) := rfl
  have hn := run_le lowC (t.data.toList.drop i)
  rw [List.length_drop, size_list] at hn
  obtain ⟨n, hnn⟩ : ∃ n, run lowC (t.data.toList.drop i) = n := ⟨_, rfl⟩
  rw [hnn] at CE HL hn
  clear hnn
  have HC := hid (jcut_list t i n)
  have CP := hid (fun X => piece_any t i (i + n) 4 X ht (by omega) (by omega))
  obtain ⟨P, hP⟩ : ∃ P, (t.data.toList.drop i).take n = P := ⟨_, rfl⟩
  obtain ⟨m, hm⟩ : ∃ m, t.extract i (i + n) = m := ⟨_, rfl⟩
  rw [hP] at HL HC
  rw [hm] at HC CP
  have HM := hid hm
  clear hP
  have HMS := hid (mkS_of m P HC.out)
  have HT := hid (show m.toList = P by rw [ByteArray.toList_eq]; exact HC.out)
  obtain ⟨L, hL⟩ : ∃ L, lwL t.data.toList i = L := ⟨_, rfl⟩
  rw [hL] at HL ⊢
  clear hL
  have hin : i + n ≤ t.size := by omega
  cases hl : litB P with
  | true =>
    have HE := hid (HL.out.trans (if_pos hl))
    have HF := hid (show twV t i L = .tuple #[.agg #[.int .i64 4, .string m, .int .i64 (i : Nat)], .int .i64 ((i + n : Nat) : Int), .agg #[.int .i64 0, .int .i64 0, .int .i64 0, .int .i64 0]] from tw_ok (by rw [HE.out]) (by rw [HE.out]; rfl) (by rw [HE.out]; exact HMS.out) (by rw [HE.out]))
    have hc : m.toList = [116, 114, 117, 101] ∨ (¬ m.toList = [116, 114, 117, 101] ∧ m.toList = [102, 97, 108, 115, 101]) ∨ (¬ m.toList = [116, 114, 117, 101] ∧ ¬ m.toList = [102, 97, 108, 115, 101] ∧ m.toList = [110, 117, 108, 108]) := by
      rw [HT.out]
      have h := of_decide_eq_true hl
      rcases h with h | h | h <;> subst h <;> decide
    clear hl
    rcases hc with g1 | ⟨g1, g2⟩ | ⟨g1, g2, g3⟩
    all_goals
      go_enter Tryz.func31, Tryz.ntmps31
      go_wp2_with fail
      go_at_call 15
      refine (CE.out _).mono ?_
      rintro e w1 ⟨rfl, hw1⟩
      obtain rfl := hw1.symm
      clear hw1
      go_wp2_with fail
      go_at_call 29
      refine (CP.out _).mono ?_
      rintro e w9 ⟨rfl, hb9⟩
      have HB9 : Hid (Below (Tryz.pwW w).heap.size (Tryz.pwW w) w9) := hb9
      clear hb9
      obtain ⟨⟨a0, a1, a2, a3⟩, ⟨b0, b1, b2, b3, b4⟩, hz9⟩ := Tryz.pw_keeps HB9.out
      go_wp2_with fail
      refine bodyPost_ret (v := .tuple #[.agg #[.int .i64 4, .string m, .int .i64 (i : Nat)], .int .i64 ((i + n : Nat) : Int), .agg #[.int .i64 0, .int .i64 0, .int .i64 0, .int .i64 0]]) (by simp [results, Tryz.results31, go_sem, a0, a1, a2, b0, b1, b2, b3]) rfl ⟨ret_of (by rw [HF.out]), ?_⟩
      exact set7 (onto (Tryz.pw_bel w) HB9.out) (Nat.le_refl _) (Nat.le_succ _)
  | false =>
    have HE := hid (HL.out.trans (if_neg (by rw [hl]; decide)))
    have HF := hid (show twV t i L = .tuple #[.agg #[.int .i64 0, .string ⟨#[]⟩, .int .i64 0], .int .i64 0, faultV t (i : Int) 4] from tw_no (by rw [HE.out]; simp) (by rw [HE.out]) (by rw [HE.out]; rfl))
    have hc : ¬ m.toList = [116, 114, 117, 101] ∧ ¬ m.toList = [102, 97, 108, 115, 101] ∧ ¬ m.toList = [110, 117, 108, 108] := by
      rw [HT.out]
      have h := of_decide_eq_false hl
      exact ⟨fun e => h (.inl e), fun e => h (.inr (.inl e)), fun e => h (.inr (.inr e))⟩
    obtain ⟨g1, g2, g3⟩ := hc
    have e1 : (m.toList == [116, 114, 117, 101]) = false := by rw [beq_eq_false_iff_ne]; exact g1
    have e2 : (m.toList == [102, 97, 108, 115, 101]) = false := by rw [beq_eq_false_iff_ne]; exact g2
    have e3 : (m.toList == [110, 117, 108, 108]) = false := by rw [beq_eq_false_iff_ne]; exact g3
    clear hl g1 g2 g3
    go_enter Tryz.func31, Tryz.ntmps31
    go_wp2_with fail
    go_at_call 15
    refine (CE.out _).mono ?_
    rintro e w1 ⟨rfl, hw1⟩
    obtain rfl := hw1.symm
    clear hw1
    go_wp2_with fail
    go_at_call 33
    refine (CR.out _ _ _).mono ?_
    rintro e w9 ⟨f1, f2, f3, HV, rfl, hb9⟩
    have HB9 : Hid (Below (Tryz.pwW w).heap.size (Tryz.pwW w) w9) := hb9
    clear hb9
    obtain ⟨⟨a0, a1, a2, a3⟩, ⟨b0, b1, b2, b3, b4⟩, hz9⟩ := Tryz.pw_keeps HB9.out
    go_wp2_with fail
    refine bodyPost_ret (v := .tuple #[.agg #[.int .i64 0, .string ⟨#[]⟩, .int .i64 0], .int .i64 0, .agg #[.int .i64 4, .int .i64 f1, .int .i64 f2, .int .i64 f3]]) (by simp [results, Tryz.results31, go_sem, a0, a1, a2, b0, b1, b2, b3]) rfl ⟨ret_of (by rw [HF.out, HV.out]), ?_⟩
    exact set7 (onto (Tryz.pw_bel w) HB9.out) (Nat.le_refl _) (Nat.le_succ _)
/-- what a number's row is, by why it is none -/
theorem lwN_ne (T : List UInt8) (i : Nat) (P : List UInt8) (hP : (T.drop i).take (run numC (T.drop i)) = P) :
    (neI P = 0 ∧ lwN T i = ⟨3, P, i + run numC (T.drop i), 0, 0⟩) ∨ (neI P ≠ 0 ∧ 0 ≤ neI P ∧ lwN T i = ⟨0, [], 0, (neI P).toNat, i⟩) := by
  have hl : P.length = run numC (T.drop i) := by
    rw [← hP, List.length_take]; exact Nat.min_eq_left (run_le _ _)
  unfold lwN neI
  rw [hP, hl]
  by_cases h4 : 400 < run numC (T.drop i)
  · rw [if_pos h4, if_pos h4]; right; exact ⟨by decide, by decide, rfl⟩
  · rw [if_neg h4, if_neg h4]
    have e : numB P = (pOk P && pwOk (pP P) && decide (P.length ≤ 400)) := rfl
    rw [e, hl, decide_eq_true (show run numC (T.drop i) ≤ 400 by omega), Bool.and_true]
    cases h1 : pOk P with
    | false => right; rw [Bool.false_and]; exact ⟨by decide, by decide, rfl⟩
    | true =>
      rw [Bool.true_and]
      cases h2 : pwOk (pP P) with
      | false => right; exact ⟨by decide, by decide, rfl⟩
      | true => left; exact ⟨by decide, rfl⟩
theorem numC_lt {b : UInt8} (h : numC b = true) : b.toNat < 128 := by
  unfold numC numS at h
  rw [Bool.or_eq_true] at h
  rcases h with h | h <;> (have := of_decide_eq_true h; omega)
theorem jrun_all (p : UInt8 → Bool) (l : List UInt8) : ∀ b ∈ l.take (run p l), p b = true := by
  intro b hb
  have : l.take (run p l) = l.takeWhile p := (List.prefix_iff_eq_take.1 (List.takeWhile_prefix p)).symm
  rw [this] at hb
  exact List.all_eq_true.1 (List.all_takeWhile (p := p) (l := l)) b hb
set_option maxRecDepth 100000 in
set_option maxHeartbeats 1000000 in
theorem tnum_any (t : ByteArray) (i : Nat) (w : World) (ht : t.size ≤ 1000000) (hi : i ≤ t.size) (hg : GlobU w) :
    Calls Tryz.prog 32 #[.string t, .int .i64 (i : Int)] w fun e w' => e = .returned (twV t i (lwN t.data.toList i)) ∧ Below w.heap.size w w' := by
  have HG := hid (hg.on (Tryz.pw_bel w))
  have CE := hid (fun X => rowEnd_nc t i X ht hi)
  have CR := hid (fun a x X => refuse_ex t a x X ht)
  have HL := hid (fun P h => lwN_ne t.data.toList i P h)
  have HA := hid (jrun_all numC (t.data.toList.drop i))
  have hn := run_le numC (t.data.toList.drop i)
  rw [List.length_drop, size_list] at hn
  obtain ⟨n, hnn⟩ : ∃ n, run numC (t.data.toList.drop i) = n := ⟨_, rfl⟩
  rw [hnn] at CE HL hn HA
  clear hnn
  have HC := hid (jcut_list t i n)
  have CP := hid (fun X => piece_any t i (i + n) 3 X ht (by omega) (by omega))
  have CN := hid (fun X h => nerr_any (t.extract i (i + n)) X (by simp; omega) (fun b hb => by rw [HC.out] at hb; exact numC_lt (HA.out b hb)) h)
  rw [HC.out] at CN
  obtain ⟨P, hP⟩ : ∃ P, (t.data.toList.drop i).take n = P := ⟨_, rfl⟩
  obtain ⟨m, hm⟩ : ∃ m, t.extract i (i + n) = m := ⟨_, rfl⟩
  have hl := HL.out P hP
  rw [hP] at HC CN
  rw [hm] at HC CP CN
  have HM := hid hm
  clear hP HL HA
  have HMS := hid (mkS_of m P HC.out)
  obtain ⟨L, hL⟩ : ∃ L, lwN t.data.toList i = L := ⟨_, rfl⟩
  rw [hL] at hl ⊢
  clear hL
  obtain ⟨x, hx⟩ : ∃ x, neI P = x := ⟨_, rfl⟩
  rw [hx] at hl CN
  clear hx
  have hin : i + n ≤ t.size := by omega
  rcases hl with ⟨rfl, he⟩ | ⟨h0, h1, he⟩
  · have HE := hid he
    clear he
    have HF := hid (show twV t i L = .tuple #[.agg #[.int .i64 3, .string m, .int .i64 (i : Nat)], .int .i64 ((i + n : Nat) : Int), .agg #[.int .i64 0, .int .i64 0, .int .i64 0, .int .i64 0]] from tw_ok (by rw [HE.out]) (by rw [HE.out]; rfl) (by rw [HE.out]; exact HMS.out) (by rw [HE.out]))
    go_enter Tryz.func32, Tryz.ntmps32
    go_wp2_with fail
    go_at_call 15
    refine (CE.out _).mono ?_
    rintro e w1 ⟨rfl, hw1⟩
    obtain rfl := hw1.symm
    clear hw1
    go_wp2_with fail
    go_at_call 47
    refine (CN.out _ HG.out).mono ?_
    rintro e w2 ⟨rfl, hb2⟩
    have HB2 : Hid (Below (Tryz.pwW w).heap.size (Tryz.pwW w) w2) := hb2
    clear hb2
    go_wp2_with fail
    go_at_call 29
    refine (CP.out _).mono ?_
    rintro e w9 ⟨rfl, hb9⟩
    have HB9 : Hid (Below (Tryz.pwW w).heap.size (Tryz.pwW w) w9) := onto HB2.out hb9
    clear hb9
    obtain ⟨⟨a0, a1, a2, a3⟩, ⟨b0, b1, b2, b3, b4⟩, hz9⟩ := Tryz.pw_keeps HB9.out
    go_wp2_with fail
    refine bodyPost_ret (v := .tuple #[.agg #[.int .i64 3, .string m, .int .i64 (i : Nat)], .int .i64 ((i + n : Nat) : Int), .agg #[.int .i64 0, .int .i64 0, .int .i64 0, .int .i64 0]]) (by simp [results, Tryz.results32, go_sem, a0, a1, a2, b0, b1, b2, b3]) rfl ⟨ret_of (by rw [HF.out]), ?_⟩
    exact set7 (onto (Tryz.pw_bel w) HB9.out) (Nat.le_refl _) (Nat.le_succ _)
  · have HE := hid he
    clear he
    have HF := hid (show twV t i L = .tuple #[.agg #[.int .i64 0, .string ⟨#[]⟩, .int .i64 0], .int .i64 0, faultV t (i : Int) x] from tw_no (by rw [HE.out]; simp only; omega) (by rw [HE.out]) (by rw [HE.out]; simp only; omega))
    have hx0 : (x != 0) = true := by rw [bne_iff_ne]; exact h0
    have hx1 : (x == 0) = false := by rw [beq_eq_false_iff_ne]; exact h0
    go_enter Tryz.func32, Tryz.ntmps32
    go_wp2_with fail
    go_at_call 15
    refine (CE.out _).mono ?_
    rintro e w1 ⟨rfl, hw1⟩
    obtain rfl := hw1.symm
    clear hw1
    go_wp2_with fail
    go_at_call 47
    refine (CN.out _ HG.out).mono ?_
    rintro e w2 ⟨rfl, hb2⟩
    have HB2 : Hid (Below (Tryz.pwW w).heap.size (Tryz.pwW w) w2) := hb2
    clear hb2
    go_wp2_with fail
    go_at_call 33
    refine (CR.out _ _ _).mono ?_
    rintro e w9 ⟨f1, f2, f3, HV, rfl, hb9⟩
    have HB9 : Hid (Below (Tryz.pwW w).heap.size (Tryz.pwW w) w9) := onto HB2.out hb9
    clear hb9
    obtain ⟨⟨a0, a1, a2, a3⟩, ⟨b0, b1, b2, b3, b4⟩, hz9⟩ := Tryz.pw_keeps HB9.out
    go_wp2_with fail
    refine bodyPost_ret (v := .tuple #[.agg #[.int .i64 0, .string ⟨#[]⟩, .int .i64 0], .int .i64 0, .agg #[.int .i64 x, .int .i64 f1, .int .i64 f2, .int .i64 f3]]) (by simp [results, Tryz.results32, go_sem, a0, a1, a2, b0, b1, b2, b3]) rfl ⟨ret_of (by rw [HF.out, HV.out]), ?_⟩
    exact set7 (onto (Tryz.pw_bel w) HB9.out) (Nat.le_refl _) (Nat.le_succ _)
end Go.Proofs.YtoamndiblckdlaaGreatDoor
