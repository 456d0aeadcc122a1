/- The document's reading of stamps. Walked. -/
import Derived.Test.YtiaepihdfbahaaaGreatDoorARtE
namespace Go.Proofs.YtiaepihdfbahaaaGreatDoor
open Go.RowKit

/-- a zone's six bytes -/
def zo6 (l : List UInt8) : Bool := decide (l.length = 6) && decide (bt l 0 = 43 ∨ bt l 0 = 45) && tw l 1 24 && decide (bt l 3 = 58) && tw l 4 60
def dzB (l : List UInt8) : Bool := decide (l = [] ∨ l = [90] ∨ l = [122]) || zo6 l
/-- a time, and a zone behind it or none -/
def dtB (l : List UInt8) : Bool := decide (ckN l ≠ 0) && dzB (l.drop (ckN l))
def dxB (l : List UInt8) : Bool := decide (10 < l.length) && dayB (l.take 10) && decide (bt l 10 = 84 ∨ bt l 10 = 116 ∨ bt l 10 = 32)
/-- a stamp, as the document's reckoning has it -/
def dsB (l : List UInt8) : Bool := dayB l || (decide (l ≠ []) && decide (ckN l = l.length)) || (dxB l && dtB (l.drop 11))
set_option maxRecDepth 100000 in
set_option maxHeartbeats 8000000 in
theorem rstamp_any (s : ByteArray) (w : World) (hs : s.size ≤ 1000000) :
    Calls Tryz.prog 68 #[.string s] w fun e w' => e = .returned (.bool (dsB s.data.toList)) ∧ Below w.heap.size w w' := by
  obtain ⟨T, hT⟩ : ∃ T, s.data.toList = T := ⟨_, rfl⟩
  have HT := hid hT
  have hTl : T.length = s.size := by rw [← hT, size_list]
  have CD := hid (fun X => rday_any s X)
  have CK := hid (fun X => rclock_any s X hs)
  have hck := ckN_le T
  rw [hT] at CD CK ⊢
  have HE := hid (empty_is s)
  rw [hT] at HE
  obtain ⟨R, hR⟩ : ∃ R, dsB T = R := ⟨_, rfl⟩
  rw [hR]
  unfold dsB at hR
  have HR := hid hR.symm
  clear hR hT
  cases hday : dayB T with
  | true =>
    rw [hday] at CD HR
    have HX := hid (show R = true by rw [HR.out]; simp)
    clear hday HE CK
    go_enter Tryz.func68, Tryz.ntmps68
    go_wp2_with (go_at_call 105; go_must (refine (CD.out _).mono ?_; rintro e w1 ⟨rfl, hb1⟩))
    go_ret
    exact ⟨by rw [HX.out]; rfl, hb1⟩
  | false =>
    rw [hday, Bool.false_or] at HR
    rw [hday] at CD
    clear hday
    by_cases h0 : s.size = 0
    · have e1 : s.toList.isEmpty = true := toList_none s h0
      have e2 : (s.toList == []) = true := by simp [List.isEmpty_iff.1 e1]
      have e3 : (s.toList != []) = false := by rw [bne, e2]; rfl
      have hTn : T = [] := List.eq_nil_of_length_eq_zero (by omega)
      have HX := hid (show R = false by rw [HR.out, hTn]; rfl)
      have z11 : (s.size : Int) < 11 := by omega
      clear h0 hTn HE CK
      go_enter Tryz.func68, Tryz.ntmps68
      go_wp2_with (go_at_call 105; go_must (refine (CD.out _).mono ?_; rintro e w1 ⟨rfl, hb1⟩))
      go_ret
      exact ⟨by rw [HX.out]; rfl, hb1⟩
    have e1 : s.toList.isEmpty = false := toList_some s (by omega)
    have e2 : (s.toList == []) = false := by rw [beq_eq_false_iff_ne]; intro e; rw [e] at e1; simp at e1
    have e3 : (s.toList != []) = true := by rw [bne, e2]; rfl
    have hTn : T ≠ [] := by intro e; rw [e] at hTl; simp at hTl; omega
    rw [decide_eq_true hTn, Bool.true_and] at HR
    clear HE
    by_cases hfull : ckN T = T.length
    · have HX := hid (show R = true by rw [HR.out, decide_eq_true hfull]; rfl)
      obtain ⟨kn, hkn⟩ : ∃ k, ckN T = k := ⟨_, rfl⟩
      rw [hkn] at CK
      have hq : ((kn : Int) == (s.size : Int)) = true := by rw [beq_iff_eq]; omega
      clear h0 hTn hfull hkn hck
      go_enter Tryz.func68, Tryz.ntmps68
      go_wp2_with (first
        | (go_at_call 105; go_must (refine (CD.out _).mono ?_; rintro e w1 ⟨rfl, hb1⟩))
        | (go_at_call 106; go_must (refine (CK.out _).mono ?_; rintro e w2 ⟨rfl, hb2⟩)))
      go_ret
      exact ⟨by rw [HX.out]; rfl, eonto hb1 hb2⟩
    rw [decide_eq_false hfull, Bool.false_or] at HR
    obtain ⟨kn, hkn⟩ : ∃ k, ckN T = k := ⟨_, rfl⟩
    rw [hkn] at CK
    have hq : ((kn : Int) == (s.size : Int)) = false := by rw [beq_eq_false_iff_ne]; omega
    clear h0 hTn hfull hkn hck
    go_enter Tryz.func68, Tryz.ntmps68
    go_upto_region 5 with (first
        | (go_at_call 105; go_must (refine (CD.out _).mono ?_; rintro e w1 ⟨rfl, hb1⟩))
        | (go_at_call 106; go_must (refine (CK.out _).mono ?_; rintro e w2 ⟨rfl, hb2⟩)))
    have HB2 := hid (eonto hb1 hb2)
    clear hb1 hb2 CD CK e1 e2 e3 hq
    go_cut [38] (fun v wx => v = .bool (!(dxB T)) ∧ Hid (Below w.heap.size w wx))
    case first => as_aux_lemma =>
      by_cases h11 : 10 < T.length
      rotate_left
      · have z : (s.size : Int) < 11 := by omega
        have HX := hid (show dxB T = false by unfold dxB; rw [decide_eq_false h11]; rfl)
        clear h11
        go_wp2_with fail
        go_meet
        exact ⟨by rw [HX.out]; rfl, HB2⟩
      have z : ¬ (s.size : Int) < 11 := by omega
      have hx10 : 10 < s.size := by omega
      have CX := hid (fun X => rday_any (s.extract 0 10) X)
      rw [take_list, HT.out] at CX
      cases hd : dayB (T.take 10) with
      | false =>
        rw [hd] at CX
        have HX := hid (show dxB T = false by unfold dxB; rw [hd]; simp)
        clear h11 hd
        go_wp2_with (go_at_call 105; go_must (refine (CX.out _).mono ?_; rintro e w3 ⟨rfl, hb3⟩))
        go_meet
        exact ⟨by rw [HX.out]; rfl, hid (eonto HB2.out hb3)⟩
      | true =>
        rw [hd] at CX
        have hb10 := bt_at s 10 hx10
        rw [HT.out] at hb10
        have HXX : Hid (dxB T = decide (s[10].toNat = 84 ∨ s[10].toNat = 116 ∨ s[10].toNat = 32)) := hid (by unfold dxB; rw [hd, decide_eq_true h11, hb10]; rfl)
        generalize dxB T = DX at *
        have hlt10 := s[10].toNat_lt
        obtain ⟨A, hA⟩ : ∃ A : Int, (s[10].toNat : Int) = A := ⟨_, rfl⟩
        have hcase : (A = 84 ∧ DX = true) ∨ (A ≠ 84 ∧ A = 116 ∧ DX = true) ∨ (A ≠ 84 ∧ A ≠ 116 ∧ A = 32 ∧ DX = true) ∨ (A ≠ 84 ∧ A ≠ 116 ∧ A ≠ 32 ∧ DX = false) := by
          rw [HXX.out]
          simp only [decide_eq_true_eq, decide_eq_false_iff_not]
          omega
        clear h11 hd hb10 HXX
        rcases hcase with ⟨k1, rfl⟩ | ⟨k1, k2, rfl⟩ | ⟨k1, k2, k3, rfl⟩ | ⟨k1, k2, k3, rfl⟩
        · have q84 : (A != 84) = false := by rw [bne_eq_false_iff_eq]; exact k1
          clear k1
          go_wp2_with (go_at_call 105; go_must (refine (CX.out _).mono ?_; rintro e w3 ⟨rfl, hb3⟩))
          go_meet
          exact ⟨rfl, hid (eonto HB2.out hb3)⟩
        · have q84 : (A != 84) = true := by rw [bne_iff_ne]; exact k1
          have q116 : (A != 116) = false := by rw [bne_eq_false_iff_eq]; exact k2
          clear k1 k2
          go_wp2_with (go_at_call 105; go_must (refine (CX.out _).mono ?_; rintro e w3 ⟨rfl, hb3⟩))
          go_meet
          exact ⟨rfl, hid (eonto HB2.out hb3)⟩
        · have q84 : (A != 84) = true := by rw [bne_iff_ne]; exact k1
          have q116 : (A != 116) = true := by rw [bne_iff_ne]; exact k2
          have q32 : (A != 32) = false := by rw [bne_eq_false_iff_eq]; exact k3
          clear k1 k2 k3
          go_wp2_with (go_at_call 105; go_must (refine (CX.out _).mono ?_; rintro e w3 ⟨rfl, hb3⟩))
          go_meet
          exact ⟨rfl, hid (eonto HB2.out hb3)⟩
        · have q84 : (A != 84) = true := by rw [bne_iff_ne]; exact k1
          have q116 : (A != 116) = true := by rw [bne_iff_ne]; exact k2
          have q32 : (A != 32) = true := by rw [bne_iff_ne]; exact k3
          clear k1 k2 k3
          go_wp2_with (go_at_call 105; go_must (refine (CX.out _).mono ?_; rintro e w3 ⟨rfl, hb3⟩))
          go_meet
          exact ⟨rfl, hid (eonto HB2.out hb3)⟩
    case rest =>
    obtain ⟨rfl, HB3⟩ := hcut
    clear HB2
    cases hdx : dxB T with
    | false =>
      rw [hdx, Bool.false_and] at HR
      have HX := hid HR.out
      rw [Bool.not_false]
      clear hdx HR
      go_wp2_with fail
      go_ret
      exact ⟨by rw [HX.out]; rfl, HB3.out⟩
    | true =>
      rw [hdx, Bool.true_and] at HR
      rw [Bool.not_true]
      have h11 : 10 < T.length := by
        unfold dxB at hdx
        simp only [Bool.and_eq_true, decide_eq_true_eq] at hdx
        exact hdx.1.1
      obtain ⟨U, hU⟩ : ∃ U, T.drop 11 = U := ⟨_, rfl⟩
      rw [hU] at HR
      obtain ⟨u, hu⟩ : ∃ u, s.extract 11 s.size = u := ⟨_, rfl⟩
      have HU := hid hu
      have hul : u.data.toList = U := by rw [← hu, drop_list, HT.out, hU]
      have husz : u.size ≤ 1000000 := by rw [← hu, ByteArray.size_extract]; omega
      have hUl : U.length = u.size := by rw [← hul, size_list]
      have CK := hid (fun X => rclock_any u X husz)
      rw [hul] at CK
      have hck := ckN_le U
      have h11z : (11 : Int) ≤ (s.size : Int) := by omega
      have h11n : 11 ≤ s.size := by omega
      unfold dtB at HR
      obtain ⟨n, hn⟩ : ∃ n, ckN U = n := ⟨_, rfl⟩
      rw [hn] at HR CK hck
      clear hdx h11 hU hu hn
      go_upto_region 8 with fail
      rw [HU.out]
      by_cases hn0 : n = 0
      · have hnz : ((n : Int) == 0) = true := by rw [hn0]; rfl
        have HX := hid (show R = false by rw [HR.out, decide_eq_false (by omega)]; rfl)
        clear hn0
        go_wp2_with (go_at_call 106; go_must (refine (CK.out _).mono ?_; rintro e w4 ⟨rfl, hb4⟩))
        go_ret
        exact ⟨by rw [HX.out]; rfl, eonto HB3.out hb4⟩
      have hnz : ((n : Int) == 0) = false := by rw [beq_eq_false_iff_ne]; omega
      rw [decide_eq_true hn0, Bool.true_and] at HR
      obtain ⟨z, hz⟩ : ∃ z, u.extract n u.size = z := ⟨_, rfl⟩
      have HZ := hid hz
      obtain ⟨Z, hZ⟩ : ∃ Z, U.drop n = Z := ⟨_, rfl⟩
      have hzl : z.data.toList = Z := by rw [← hz, drop_list, hul, hZ]
      rw [hZ] at HR
      have hns : n ≤ u.size := by omega
      have hnsz : (n : Int) ≤ (u.size : Int) := by omega
      clear hn0 hz hZ
      go_upto_region 12 with (go_at_call 106; go_must (refine (CK.out _).mono ?_; rintro e w4 ⟨rfl, hb4⟩))
      have HB4 := hid (eonto HB3.out hb4)
      clear hb4 CK HB3
      rw [HZ.out]
      unfold dzB at HR
      have hzs : Z.length = z.size := by rw [← hzl, size_list]
      have hzt : z.toList = Z := by rw [Lib.toList_data, hzl]
      have HZL := hid hzl
      have hcase : Z = [] ∨ Z = [90] ∨ Z = [122] ∨ (Z ≠ [] ∧ Z ≠ [90] ∧ Z ≠ [122]) := by
        by_cases a1 : Z = []
        · exact Or.inl a1
        by_cases a2 : Z = [90]
        · exact Or.inr (Or.inl a2)
        by_cases a3 : Z = [122]
        · exact Or.inr (Or.inr (Or.inl a3))
        exact Or.inr (Or.inr (Or.inr ⟨a1, a2, a3⟩))
      clear hzl
      rcases hcase with hc | hc | hc | ⟨hc1, hc2, hc3⟩
      · have t0 : (z.toList == []) = true := by rw [hzt, hc]; rfl
        have t1 : z.toList.isEmpty = true := by rw [hzt, hc]; rfl
        have HX := hid (show R = true by rw [HR.out, decide_eq_true (Or.inl hc)]; rfl)
        clear hc hzt hzs
        go_wp2_with fail
        go_ret
        exact ⟨by rw [HX.out]; rfl, HB4.out⟩
      · have t0 : (z.toList == []) = false := by rw [hzt, hc]; rfl
        have t1 : z.toList.isEmpty = false := by rw [hzt, hc]; rfl
        have t2 : (z.toList == [90]) = true := by rw [hzt, hc]; rfl
        have HX := hid (show R = true by rw [HR.out, decide_eq_true (Or.inr (Or.inl hc))]; rfl)
        clear hc hzt hzs
        go_wp2_with fail
        go_ret
        exact ⟨by rw [HX.out]; rfl, HB4.out⟩
      · have t0 : (z.toList == []) = false := by rw [hzt, hc]; rfl
        have t1 : z.toList.isEmpty = false := by rw [hzt, hc]; rfl
        have t2 : (z.toList == [90]) = false := by rw [hzt, hc]; rfl
        have t3 : (z.toList == [122]) = true := by rw [hzt, hc]; rfl
        have HX := hid (show R = true by rw [HR.out, decide_eq_true (Or.inr (Or.inr hc))]; rfl)
        clear hc hzt hzs
        go_wp2_with fail
        go_ret
        exact ⟨by rw [HX.out]; rfl, HB4.out⟩
      rw [decide_eq_false (by rintro (h | h | h); exact hc1 h; exact hc2 h; exact hc3 h), Bool.false_or] at HR
      have t0 : (z.toList == []) = false := by rw [hzt]; exact beq_eq_false_iff_ne.2 hc1
      have t1 : z.toList.isEmpty = false := by rw [hzt]; cases Z with | nil => exact absurd rfl hc1 | cons a b => rfl
      have t2 : (z.toList == [90]) = false := by rw [hzt]; exact beq_eq_false_iff_ne.2 hc2
      have t3 : (z.toList == [122]) = false := by rw [hzt]; exact beq_eq_false_iff_ne.2 hc3
      clear hc1 hc2 hc3 hzt
      unfold zo6 at HR
      by_cases h6 : z.size = 6
      rotate_left
      · have z6 : ((z.size : Int) == 6) = false := by rw [beq_eq_false_iff_ne]; omega
        have HX := hid (show R = false by rw [HR.out, decide_eq_false (p := Z.length = 6) (by omega)]; rfl)
        clear h6 hzs
        go_wp2_with fail
        go_ret
        exact ⟨by rw [HX.out]; rfl, HB4.out⟩
      have z6 : ((z.size : Int) == 6) = true := by rw [beq_iff_eq]; omega
      have hx0 : 0 < z.size := by omega
      have hx3 : 3 < z.size := by omega
      have b0 := bt_at z 0 hx0
      have b3 := bt_at z 3 hx3
      rw [HZL.out] at b0 b3
      rw [decide_eq_true (p := Z.length = 6) (by omega), Bool.true_and, b0, b3] at HR
      have K1 : Hid (∀ X, Calls Tryz.prog 107 #[.string (z.extract 1 3), .int .i64 24] X fun e w' => e = .returned (.bool (tw Z 1 24)) ∧ Below X.heap.size X w') := hid (fun X => by
        have h := two_of z 1 24 X (by omega)
        rw [HZL.out] at h; exact h)
      have K2 : Hid (∀ X, Calls Tryz.prog 107 #[.string (z.extract 4 z.size), .int .i64 60] X fun e w' => e = .returned (.bool (tw Z 4 60)) ∧ Below X.heap.size X w') := hid (fun X => by
        have h := two_of z 4 60 X (by omega)
        rw [HZL.out, show z.extract 4 (4 + 2) = z.extract 4 z.size by rw [h6]] at h; exact h)
      have hzsz : (4 : Int) ≤ (z.size : Int) := by omega
      have hz4 : 4 ≤ z.size := by omega
      have hz3 : 3 ≤ z.size := by omega
      clear b0 b3 hzs
      obtain ⟨A, hA⟩ : ∃ A : Int, (z[0].toNat : Int) = A := ⟨_, rfl⟩
      obtain ⟨B, hB⟩ : ∃ B : Int, (z[3].toNat : Int) = B := ⟨_, rfl⟩
      have hsg : (A = 43 ∧ decide (z[0].toNat = 43 ∨ z[0].toNat = 45) = true) ∨ (A ≠ 43 ∧ A = 45 ∧ decide (z[0].toNat = 43 ∨ z[0].toNat = 45) = true) ∨ (A ≠ 43 ∧ A ≠ 45 ∧ decide (z[0].toNat = 43 ∨ z[0].toNat = 45) = false) := by
        simp only [decide_eq_true_eq, decide_eq_false_iff_not]; omega
      have hcl : (B = 58 ∧ decide (z[3].toNat = 58) = true) ∨ (B ≠ 58 ∧ decide (z[3].toNat = 58) = false) := by
        simp only [decide_eq_true_eq, decide_eq_false_iff_not]; omega
      generalize decide (z[0].toNat = 43 ∨ z[0].toNat = 45) = SG at *
      generalize decide (z[3].toNat = 58) = CL at *
      obtain ⟨P1, hP1⟩ : ∃ P, tw Z 1 24 = P := ⟨_, rfl⟩
      obtain ⟨P2, hP2⟩ : ∃ P, tw Z 4 60 = P := ⟨_, rfl⟩
      rw [hP1] at K1 HR
      rw [hP2] at K2 HR
      clear hP1 hP2 h6
      rcases hsg with ⟨k1, rfl⟩ | ⟨k1, k2, rfl⟩ | ⟨k1, k2, rfl⟩
      rotate_right
      · have s1 : (A == 43) = false := by rw [beq_eq_false_iff_ne]; exact k1
        have s2 : (A == 45) = false := by rw [beq_eq_false_iff_ne]; exact k2
        have HX := hid (show R = false by rw [HR.out]; rfl)
        clear k1 k2 hcl HR
        go_wp2_with fail
        go_ret
        exact ⟨by rw [HX.out]; rfl, HB4.out⟩
      · have s1 : (A == 43) = true := by rw [beq_iff_eq]; exact k1
        clear k1
        cases P1 with
        | false =>
          have HX := hid (show R = false by rw [HR.out]; simp)
          clear hcl HR
          go_wp2_with (go_at_call 107; go_must (first | ((with_reducible refine (K1.out _).mono ?_); rintro e w5 ⟨rfl, hb5⟩) | ((with_reducible refine (K2.out _).mono ?_); rintro e w6 ⟨rfl, hb6⟩)))
          go_ret
          exact ⟨by rw [HX.out]; rfl, eonto HB4.out hb5⟩
        | true =>
          rcases hcl with ⟨k3, rfl⟩ | ⟨k3, rfl⟩
          rotate_left
          · have c3 : (B == 58) = false := by rw [beq_eq_false_iff_ne]; exact k3
            have HX := hid (show R = false by rw [HR.out]; simp)
            clear k3 HR
            go_wp2_with (go_at_call 107; go_must (first | ((with_reducible refine (K1.out _).mono ?_); rintro e w5 ⟨rfl, hb5⟩) | ((with_reducible refine (K2.out _).mono ?_); rintro e w6 ⟨rfl, hb6⟩)))
            go_ret
            exact ⟨by rw [HX.out]; rfl, eonto HB4.out hb5⟩
          · have c3 : (B == 58) = true := by rw [beq_iff_eq]; exact k3
            have HX := hid (show R = P2 by rw [HR.out]; simp)
            clear k3 HR
            go_wp2_with (go_at_call 107; go_must (first | ((with_reducible refine (K1.out _).mono ?_); rintro e w5 ⟨rfl, hb5⟩) | ((with_reducible refine (K2.out _).mono ?_); rintro e w6 ⟨rfl, hb6⟩)))
            go_ret
            exact ⟨by rw [HX.out]; rfl, eonto (eonto HB4.out hb5) hb6⟩
      · have s1 : (A == 43) = false := by rw [beq_eq_false_iff_ne]; exact k1
        have s2 : (A == 45) = true := by rw [beq_iff_eq]; exact k2
        clear k1 k2
        cases P1 with
        | false =>
          have HX := hid (show R = false by rw [HR.out]; simp)
          clear hcl HR
          go_wp2_with (go_at_call 107; go_must (first | ((with_reducible refine (K1.out _).mono ?_); rintro e w5 ⟨rfl, hb5⟩) | ((with_reducible refine (K2.out _).mono ?_); rintro e w6 ⟨rfl, hb6⟩)))
          go_ret
          exact ⟨by rw [HX.out]; rfl, eonto HB4.out hb5⟩
        | true =>
          rcases hcl with ⟨k3, rfl⟩ | ⟨k3, rfl⟩
          rotate_left
          · have c3 : (B == 58) = false := by rw [beq_eq_false_iff_ne]; exact k3
            have HX := hid (show R = false by rw [HR.out]; simp)
            clear k3 HR
            go_wp2_with (go_at_call 107; go_must (first | ((with_reducible refine (K1.out _).mono ?_); rintro e w5 ⟨rfl, hb5⟩) | ((with_reducible refine (K2.out _).mono ?_); rintro e w6 ⟨rfl, hb6⟩)))
            go_ret
            exact ⟨by rw [HX.out]; rfl, eonto HB4.out hb5⟩
          · have c3 : (B == 58) = true := by rw [beq_iff_eq]; exact k3
            have HX := hid (show R = P2 by rw [HR.out]; simp)
            clear k3 HR
            go_wp2_with (go_at_call 107; go_must (first | ((with_reducible refine (K1.out _).mono ?_); rintro e w5 ⟨rfl, hb5⟩) | ((with_reducible refine (K2.out _).mono ?_); rintro e w6 ⟨rfl, hb6⟩)))
            go_ret
            exact ⟨by rw [HX.out]; rfl, eonto (eonto HB4.out hb5) hb6⟩
end Go.Proofs.YtiaepihdfbahaaaGreatDoor
