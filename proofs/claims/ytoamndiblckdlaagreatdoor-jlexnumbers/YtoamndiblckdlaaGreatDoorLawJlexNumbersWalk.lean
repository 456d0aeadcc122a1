/- The statement JlexNumbers: walked. -/
import Derived.Test.YtoamndiblckdlaaGreatDoorLawJlexKnownWalk
import Derived.Test.YtoamndiblckdlaaGreatDoorMathLexE
namespace Go.Proofs.YtoamndiblckdlaaGreatDoor
open Go.RowKit

/-- a byte that may stand at a place of such a row -/
def nuB (j : Nat) (b : UInt8) : Bool := numS b || (decide (b.toNat = 101) && decide (0 < j))
theorem nuB_C {j : Nat} {b : UInt8} (h : nuB j b = true) : numC b = true := by
  unfold nuB at h; unfold numC
  rw [Bool.or_eq_true] at h ⊢
  rcases h with h | h
  · exact .inl h
  · rw [Bool.and_eq_true] at h; exact .inr h.1
theorem nuB_cases (j : Nat) (b : UInt8) : (nuB j b = true ∧ ((48 ≤ b.toNat ∧ b.toNat ≤ 57) ∨ b.toNat = 43 ∨ b.toNat = 45 ∨ b.toNat = 46 ∨ b.toNat = 69 ∨ (b.toNat = 101 ∧ 0 < j))) ∨ (nuB j b = false ∧ (b.toNat < 48 ∨ 57 < b.toNat) ∧ b.toNat ≠ 43 ∧ b.toNat ≠ 45 ∧ b.toNat ≠ 46 ∧ b.toNat ≠ 69 ∧ (b.toNat ≠ 101 ∨ j = 0)) := by
  cases h : nuB j b with
  | true =>
    left; refine ⟨rfl, ?_⟩
    unfold nuB numS at h
    rw [Bool.or_eq_true, Bool.and_eq_true] at h
    simp only [decide_eq_true_eq] at h
    omega
  | false =>
    right; refine ⟨rfl, ?_⟩
    unfold nuB numS at h
    rw [Bool.or_eq_false_iff, Bool.and_eq_false_iff] at h
    simp only [decide_eq_false_iff_not] at h
    omega
theorem three_list (s : ByteArray) : ((⟨#[32]⟩ ++ s) ++ ⟨#[32]⟩ : ByteArray).data.toList = 32 :: (s.data.toList ++ [32]) := by
  rw [add_list, add_list]; rfl
theorem three_size (s : ByteArray) : ((⟨#[32]⟩ ++ s) ++ ⟨#[32]⟩ : ByteArray).size = s.size + 2 := by
  rw [add_size, add_size]; show 1 + s.size + 1 = _; omega
set_option maxRecDepth 100000 in
set_option maxHeartbeats 4000000 in
theorem Tryz.jlexNumbers_walk (s : ByteArray) (_w0 : s.size ≤ maxLen) (w : World) (hg : GlobU w) :
    Calls Tryz.prog 7 #[.string s] w fun e w' => e = .returned (.bool true) ∧ Below w.heap.size w w' := by
  have HG := hid hg
  clear hg
  have HM := hid _w0
  unfold maxLen at _w0
  have CA := hid (fun X h => Tryz.awake_of Tryz.jhas X h)
  by_cases h1 : s.size < 1
  · go_enter Tryz.func7, Tryz.ntmps7
    go_wp2_with (go_at_call 8; go_must (refine (CA.out _ HG.out).mono ?_; rintro e w1 ⟨rfl, hb1⟩))
    go_ret
    exact ⟨rfl, hb1⟩
  by_cases h2 : 390 < s.size
  · go_enter Tryz.func7, Tryz.ntmps7
    go_wp2_with (go_at_call 8; go_must (refine (CA.out _ HG.out).mono ?_; rintro e w1 ⟨rfl, hb1⟩))
    go_ret
    exact ⟨rfl, hb1⟩
  have CF := hid (fun X => form_any s X HM.out)
  go_enter Tryz.func7, Tryz.ntmps7
  go_wp2_with (go_at_call 8; go_must (refine (CA.out _ HG.out).mono ?_; rintro e w1 ⟨rfl, hb1⟩))
  have HB1 := hid hb1
  clear hb1
  go_loop [3] (fun i => ∃ j : Nat, j ≤ s.size ∧ i = .int .i64 j ∧ Hid (∀ k (h : k < s.size), k < j → nuB k s[k] = true)) (fun i => s.size - (intOf i).toNat)
  case atStart => exact ⟨0, Nat.zero_le _, rfl, fun k _ h => absurd h (by omega)⟩
  case round =>
    obtain ⟨j, hj, rfl, HJ⟩ := hrel
    by_cases hlt : j < s.size
    · have hb := s[j].toNat_lt
      rcases nuB_cases j s[j] with ⟨hn, hc⟩ | ⟨hn, hc⟩
      · have HJ2 := hid (show ∀ k (h : k < s.size), k < j + 1 → nuB k s[k] = true from fun k hk h => by
          by_cases hkj : k = j
          · subst hkj; exact hn
          · exact HJ.out k hk (by omega))
        clear hn HJ
        have hlt2 : j < s.size := hlt
        obtain ⟨n, hnn⟩ : ∃ n, s[j].toNat = n := ⟨_, rfl⟩
        have hi : ((s[j].toNat : Nat) : Int) = (n : Int) := by rw [hnn]
        rw [hnn] at hc hb
        clear hnn
        rcases hc with ⟨g1, g2⟩ | rfl | rfl | rfl | rfl | ⟨rfl, g1⟩
        all_goals
          go_wp2_with fail
          go_round
          case rel => exact ⟨j + 1, by omega, val_int (by omega), HJ2.out⟩
          case measure => simp [intOf]; omega
      · clear HJ hn
        have hlt2 : j < s.size := hlt
        obtain ⟨n, hnn⟩ : ∃ n, s[j].toNat = n := ⟨_, rfl⟩
        have hi : ((s[j].toNat : Nat) : Int) = (n : Int) := by rw [hnn]
        rw [hnn] at hc hb
        clear hnn
        obtain ⟨g0, g1, g2, g3, g4, g5⟩ := hc
        have t1 : ((n : Int) == 43) = false := by rw [beq_eq_false_iff_ne]; omega
        have t2 : ((n : Int) == 45) = false := by rw [beq_eq_false_iff_ne]; omega
        have t3 : ((n : Int) == 46) = false := by rw [beq_eq_false_iff_ne]; omega
        have t4 : ((n : Int) == 69) = false := by rw [beq_eq_false_iff_ne]; omega
        have g6 : ((n : Int) == 101) = false ∨ (((n : Int) == 101) = true ∧ j = 0) := by rw [beq_eq_false_iff_ne, beq_iff_eq]; omega
        clear g1 g2 g3 g4 g5
        have g7 : decide ((48 : Int) ≤ (n : Int)) = false ∨ (decide ((48 : Int) ≤ (n : Int)) = true ∧ decide ((n : Int) ≤ 57) = false) := by
          simp only [decide_eq_false_iff_not, decide_eq_true_eq]; omega
        clear g0
        rcases g7 with g7 | ⟨g7, g8⟩ <;> rcases g6 with g6 | ⟨g6, rfl⟩
        all_goals
          go_wp2_with fail
          go_ret
          exact ⟨rfl, HB1.out⟩
    · have hjs : j = s.size := by omega
      obtain ⟨s0, S', hS⟩ : ∃ s0 S', s.data.toList = s0 :: S' := ⟨s[0], _, list_of s (by omega)⟩
      have hall : ∀ b ∈ s.data.toList, numC b = true := by
        intro b hb
        obtain ⟨k, hk, rfl⟩ := List.getElem_of_mem hb
        rw [size_list] at hk
        exact nuB_C (HJ.out k hk (by omega))
      have h0 : numS s0 = true := by
        have h5 := HJ.out 0 (by omega) (by omega)
        have h6 : s0 = s[0] := by
          have h7 := list_of s (by omega)
          rw [hS] at h7; exact (List.cons.inj h7).1
        rw [← h6] at h5
        unfold nuB at h5; simpa using h5
      obtain ⟨c1, c2, c3⟩ := cut_num s.data.toList s0 S' hS (by rw [size_list]; omega) hall h0
      clear hall h0 HJ
      rw [← three_list] at c1 c2 c3
      have hz := three_size s
      obtain ⟨T, hT⟩ : ∃ T, ((⟨#[32]⟩ ++ s) ++ ⟨#[32]⟩ : ByteArray) = T := ⟨_, rfl⟩
      rw [hT] at c1 c2 c3 hz
      have HT := hid hT
      clear hT hS
      have HMS := hid (mkS_of s s.data.toList rfl)
      cases hp : pOk s.data.toList with
      | false =>
        have C := hid (fun X h => Tryz.jerr_of Tryz.jhas T 4 1 (c1 hp) (by decide) X (by omega) h)
        rw [hp] at CF
        have hcl : clN T.size ((1 : Nat) : Int) = 1 := by unfold clN; omega
        rw [hcl] at C
        clear c1 c2 c3 hcl
        go_wp2_with fail
        go_at_call 9
        rw [HT.out]
        refine (C.out _ (HG.out.on HB1.out)).mono ?_
        rintro e w2 ⟨v, f1, f2, f3, rfl, HF1, hb2⟩
        obtain rfl := HF1.out
        have HB2 := hid (lonto HB1.out hb2)
        clear hb2 HF1
        go_wp2_with fail
        go_at_call 12
        refine (CF.out _).mono ?_
        rintro e w3 ⟨rfl, hw3⟩
        obtain rfl := hw3.symm
        clear hw3
        go_wp2_with fail
        go_ret
        exact ⟨rfl, lalloc HB2.out _⟩
      | true =>
        cases hw : pwOk (pP s.data.toList) with
        | false =>
          have C := hid (fun X h => Tryz.jerr_of Tryz.jhas T 6 1 (c2 hp hw) (by decide) X (by omega) h)
          rw [hp, hw] at CF
          have hcl : clN T.size ((1 : Nat) : Int) = 1 := by unfold clN; omega
          rw [hcl] at C
          clear c1 c2 c3 hcl
          go_wp2_with fail
          go_at_call 9
          rw [HT.out]
          refine (C.out _ (HG.out.on HB1.out)).mono ?_
          rintro e w2 ⟨v, f1, f2, f3, rfl, HF1, hb2⟩
          obtain rfl := HF1.out
          have HB2 := hid (lonto HB1.out hb2)
          clear hb2 HF1
          go_wp2_with fail
          go_at_call 12
          refine (CF.out _).mono ?_
          rintro e w3 ⟨rfl, hw3⟩
          obtain rfl := hw3.symm
          clear hw3
          go_wp2_with fail
          go_ret
          exact ⟨rfl, lalloc HB2.out _⟩
        | true =>
          have C := hid (fun X h => Tryz.jhas T X (by omega) h)
          unfold Tryz.JPost at C
          rw [c3 hp hw] at C
          have ej : jfV T ([⟨3, s.data.toList, 1⟩, ⟨0, [], s.data.toList.length + 2⟩], 0, 0) = .agg #[.int .i64 0, .int .i64 0, .int .i64 0, .int .i64 0] := rfl
          rw [ej] at C
          rw [hp, hw] at CF
          clear c1 c2 c3 ej
          go_wp2_with fail
          go_at_call 9
          rw [HT.out]
          refine (C.out _ (HG.out.on HB1.out)).mono ?_
          rintro e w2 ⟨v, rfl, hw2, hb2⟩
          have HB2 := hid (lonto HB1.out hb2)
          clear hb2
          obtain ⟨o, a, c, rfl, k2, k3, k4, k5⟩ := hw2.onto (lalloc (Below.refl _ _) (.cells #[.int .i64 0, .int .i64 0, .int .i64 0, .int .i64 0] 26))
          obtain rfl := k4 (by simp)
          obtain ⟨p0, p1, p2⟩ := k5 0 _ rfl
          clear k4 k5 hw2
          simp only [List.length_cons, List.length_nil] at k2
          rw [← HMS.out] at p1
          have e0 : a.add (0 * 3) = a := by simp [Addr.add]
          rw [e0] at p0 p1 p2
          clear e0
          go_wp2_with fail
          go_at_call 12
          refine (CF.out _).mono ?_
          rintro e w3 ⟨rfl, hw3⟩
          obtain rfl := hw3.symm
          clear hw3
          go_wp2_with fail
          go_ret
          exact ⟨rfl, lalloc HB2.out _⟩
end Go.Proofs.YtoamndiblckdlaaGreatDoor
