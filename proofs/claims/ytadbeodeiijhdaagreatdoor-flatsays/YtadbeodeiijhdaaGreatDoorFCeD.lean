/- The document's CellText, walked. -/
import Derived.Test.YtadbeodeiijhdaaGreatDoorFCeB
import Derived.Test.YtadbeodeiijhdaaGreatDoorFCeC
import Derived.Test.YtadbeodeiijhdaaGreatDoorFRefVal8
namespace Go.Proofs.YtadbeodeiijhdaaGreatDoor
open Go.RowKit

theorem cel_other {l : List UInt8} (h0 : ¬ l = []) (h3 : ¬ l.head? = some 64) (h4 : ¬ l.head? = some 39) (h : cplB l = false) : (celT l).2 = 0 ∧ ¬ (celT l).1.kd = 4 := by
  cases hw : cwdT l with
  | some T =>
    rw [cel_word hw]
    refine ⟨rfl, ?_⟩
    rcases cwd_is hw with ⟨-, e⟩ | ⟨-, e⟩ | ⟨-, e⟩ | ⟨-, e⟩ | ⟨-, e⟩ <;> (rw [e]; simp [zeroT, leafT, VT.kd])
  | none =>
    cases hn : numB l with
    | true =>
      rw [cel_num hn]
      refine ⟨rfl, ?_⟩
      unfold cnmT
      split <;> simp [leafT, VT.kd]
    | false => rw [cpl_of h0 hw hn h3 h4] at h; cases h
theorem cst_no {l : List UInt8} (h : cplB l = false) : cstL l = 39 :: l := by unfold cstL; rw [h]; rfl
theorem cst_yes {l : List UInt8} (h : cplB l = true) : cstL l = l := by unfold cstL; rw [h]; rfl
set_option maxRecDepth 100000 in
set_option maxHeartbeats 4000000 in
theorem dtext_str (s : ByteArray) (pX pY : Option Addr) (cX cY : Nat) (w : World) (ht : teI s = 0)
    (CG : Hid (∀ X, Below w.heap.size w X → Calls Tryz.prog 12 #[.agg #[.int .i64 4, .int .i64 0, .string s, .slice pX 0 cX, .slice pY 0 cY]] X fun e w' => e = .returned (.bool true) ∧ Below X.heap.size X w')) :
    Calls Tryz.prog 43 #[.agg #[.int .i64 4, .int .i64 0, .string s, .slice pX 0 cX, .slice pY 0 cY]] w fun e w' => e = .returned (.tuple #[.string (mkS (cstL s.data.toList)), .bool true]) ∧ Below w.heap.size w w' := by
  have hz := teI_size ht
  have CB := hid (fun X (hX : X = w.alloc (.cells #[.int .i64 4, .int .i64 0, .string s, .slice pX 0 cX, .slice pY 0 cY] 26)) => cebox_of hX)
  have CC := hid (fun X => dcell_any s X (by omega))
  have hms : mkS s.data.toList = s := (mkS_of s _ rfl).symm
  have HNO : Hid (cplB s.data.toList = false → mkS (cstL s.data.toList) = (⟨#[39]⟩ : ByteArray) ++ s) := hid (fun h => by
    rw [cst_no h, show (39 : UInt8) :: s.data.toList = [39] ++ s.data.toList from rfl, ← ce_app, hms]; rfl)
  have HYES : Hid (cplB s.data.toList = true → mkS (cstL s.data.toList) = s ∧ celT s.data.toList = (leafT 4 0 s, 0)) := hid (fun h => by
    refine ⟨by rw [cst_yes h, hms], ?_⟩
    rw [cel_plain h, hms, str_r ht, ht])
  have HOT := hid (fun h0 h3 h4 (h : cplB s.data.toList = false) => cel_other (l := s.data.toList) h0 h3 h4 h)
  have HPT := hid (fun (h : cplB s.data.toList = true) => cpl_parts h)
  obtain ⟨R, hR⟩ : ∃ R, mkS (cstL s.data.toList) = R := ⟨_, rfl⟩
  rw [hR] at HNO HYES ⊢
  generalize cplB s.data.toList = pl at HNO HYES HOT HPT
  clear hR hms ht
  by_cases h0 : s.data.toList = []
  · have e0 : s.toList.isEmpty = true := emp_yes _ h0
    have hpl : pl = false := by
      cases pl with
      | false => rfl
      | true => exact absurd h0 (HPT.out rfl).1
    have HR := hid (HNO.out hpl)
    clear HNO HYES HOT HPT CC h0
    go_enter Tryz.func43, Tryz.ntmps43
    go_upto_region 1 with fail
    refine cewp_gen ?_
    intro W hW
    obtain ⟨g0, g1, g2, g3, g4, hbW⟩ := CB.out W hW
    have HBW := hid hbW
    clear hW hbW CB
    go_wp2_with fail
    go_at_call 12
    refine (CG.out _ HBW.out).mono ?_
    rintro e w1 ⟨rfl, hb1⟩
    have g0 := keepCell hb1 g0
    have g1 := keepCell hb1 g1
    have g2 := keepCell hb1 g2
    have g3 := keepCell hb1 g3
    have g4 := keepCell hb1 g4
    have HB1 := hid (vonto HBW.out hb1)
    clear hb1 CG HBW
    go_wp2_with fail
    go_ret2
    exact ⟨by rw [HR.out]; rfl, HB1.out⟩
  have e0 : s.toList.isEmpty = false := emp_no _ h0
  have hpos : 0 < s.size := by
    rcases Nat.eq_zero_or_pos s.size with h | h
    · exact absurd (List.eq_nil_of_length_eq_zero (by rw [size_list, h])) h0
    · exact h
  have hbn := s[0].toNat_lt
  by_cases h39 : s[0].toNat = 39
  · have b3 : ((s[0].toNat : Int) == 39) = true := by rw [beq_iff_eq]; omega
    have b3' : (s[0].toNat : Int) = 39 := by omega
    have hpl : pl = false := by
      cases pl with
      | false => rfl
      | true => exact absurd ((head_at s hpos 39).2 h39) (HPT.out rfl).2.2.2.2
    have HR := hid (HNO.out hpl)
    clear HNO HYES HOT HPT CC h0 h39
    go_enter Tryz.func43, Tryz.ntmps43
    go_upto_region 1 with fail
    refine cewp_gen ?_
    intro W hW
    obtain ⟨g0, g1, g2, g3, g4, hbW⟩ := CB.out W hW
    have HBW := hid hbW
    clear hW hbW CB
    go_wp2_with fail
    go_at_call 12
    refine (CG.out _ HBW.out).mono ?_
    rintro e w1 ⟨rfl, hb1⟩
    have g0 := keepCell hb1 g0
    have g1 := keepCell hb1 g1
    have g2 := keepCell hb1 g2
    have g3 := keepCell hb1 g3
    have g4 := keepCell hb1 g4
    have HB1 := hid (vonto HBW.out hb1)
    clear hb1 CG HBW
    go_wp2_with fail
    go_ret2
    exact ⟨by rw [HR.out]; rfl, HB1.out⟩
  have b3 : ((s[0].toNat : Int) == 39) = false := by rw [beq_eq_false_iff_ne]; omega
  have b3' : ¬ (s[0].toNat : Int) = 39 := by omega
  by_cases h64 : s[0].toNat = 64
  · have b4 : ((s[0].toNat : Int) == 64) = true := by rw [beq_iff_eq]; omega
    have b4' : (s[0].toNat : Int) = 64 := by omega
    have hpl : pl = false := by
      cases pl with
      | false => rfl
      | true => exact absurd ((head_at s hpos 64).2 h64) (HPT.out rfl).2.2.2.1
    have HR := hid (HNO.out hpl)
    clear HNO HYES HOT HPT CC h0 h39 h64
    go_enter Tryz.func43, Tryz.ntmps43
    go_upto_region 1 with fail
    refine cewp_gen ?_
    intro W hW
    obtain ⟨g0, g1, g2, g3, g4, hbW⟩ := CB.out W hW
    have HBW := hid hbW
    clear hW hbW CB
    go_wp2_with fail
    go_at_call 12
    refine (CG.out _ HBW.out).mono ?_
    rintro e w1 ⟨rfl, hb1⟩
    have g0 := keepCell hb1 g0
    have g1 := keepCell hb1 g1
    have g2 := keepCell hb1 g2
    have g3 := keepCell hb1 g3
    have g4 := keepCell hb1 g4
    have HB1 := hid (vonto HBW.out hb1)
    clear hb1 CG HBW
    go_wp2_with fail
    go_ret2
    exact ⟨by rw [HR.out]; rfl, HB1.out⟩
  have b4 : ((s[0].toNat : Int) == 64) = false := by rw [beq_eq_false_iff_ne]; omega
  have b4' : ¬ (s[0].toNat : Int) = 64 := by omega
  have HO2 := hid (HOT.out h0 (fun h => h64 ((head_at s hpos 64).1 h)) (fun h => h39 ((head_at s hpos 39).1 h)))
  clear HOT HPT h0 h39 h64
  generalize celT s.data.toList = cr at CC HYES HO2
  obtain ⟨T, er⟩ := cr
  obtain ⟨tk, tn, ts, h1, h2, h3⟩ : ∃ k n t, T.kd = k ∧ T.nm = n ∧ T.st = t := ⟨_, _, _, rfl, rfl, rfl⟩
  simp only [vv] at CC
  simp only [h1] at HO2
  rw [h1, h2, h3] at CC
  cases pl with
  | true =>
    obtain ⟨hRs, hE⟩ := HYES.out rfl
    have hE1 : T = leafT 4 0 s := congrArg Prod.fst hE
    have hE2 : er = 0 := congrArg Prod.snd hE
    have hk : tk = 4 := by rw [← h1, hE1]; rfl
    have ht : ts = s := by rw [← h3, hE1]; rfl
    subst hE2
    rw [hk, ht] at CC
    have HR := hid hRs
    have qs : (s.toList == s.toList) = true := beq_self_eq_true _
    clear HNO HYES HO2 h1 h2 h3 hE hE1 hRs
    go_enter Tryz.func43, Tryz.ntmps43
    go_upto_region 1 with fail
    refine cewp_gen ?_
    intro W hW
    obtain ⟨g0, g1, g2, g3, g4, hbW⟩ := CB.out W hW
    have HBW := hid hbW
    clear hW hbW CB
    go_wp2_with fail
    go_at_call 12
    refine (CG.out _ HBW.out).mono ?_
    rintro e w1 ⟨rfl, hb1⟩
    have g0 := keepCell hb1 g0
    have g1 := keepCell hb1 g1
    have g2 := keepCell hb1 g2
    have g3 := keepCell hb1 g3
    have g4 := keepCell hb1 g4
    have HB1 := hid (vonto HBW.out hb1)
    clear hb1 CG HBW
    go_wp2_with fail
    go_at_call 54
    refine (CC.out _).mono ?_
    rintro e w2 ⟨rfl, hb2⟩
    have g2 := keepCell hb2 g2
    have HB2 := hid (vonto HB1.out hb2)
    clear hb2 CC HB1
    go_upto_region 23 with fail
    refine cewp_gen ?_
    intro W hW
    obtain ⟨v0, v1, v2, v3, v4, hbW⟩ := cebox_of hW
    have g2 := keepCell hbW g2
    have HBW := hid (vonto HB2.out hbW)
    clear hW hbW HB2
    go_wp2_with fail
    go_ret2
    exact ⟨by rw [HR.out]; rfl, HBW.out⟩
  | false =>
    have HR := hid (HNO.out rfl)
    obtain ⟨hE2, hk⟩ := HO2.out rfl
    have hE2 : er = 0 := hE2
    subst hE2
    have qk : (tk != 4) = true := by simpa using hk
    clear HNO HYES HO2 h1 h2 h3
    go_enter Tryz.func43, Tryz.ntmps43
    go_upto_region 1 with fail
    refine cewp_gen ?_
    intro W hW
    obtain ⟨g0, g1, g2, g3, g4, hbW⟩ := CB.out W hW
    have HBW := hid hbW
    clear hW hbW CB
    go_wp2_with fail
    go_at_call 12
    refine (CG.out _ HBW.out).mono ?_
    rintro e w1 ⟨rfl, hb1⟩
    have g0 := keepCell hb1 g0
    have g1 := keepCell hb1 g1
    have g2 := keepCell hb1 g2
    have g3 := keepCell hb1 g3
    have g4 := keepCell hb1 g4
    have HB1 := hid (vonto HBW.out hb1)
    clear hb1 CG HBW
    go_wp2_with fail
    go_at_call 54
    refine (CC.out _).mono ?_
    rintro e w2 ⟨rfl, hb2⟩
    have g2 := keepCell hb2 g2
    have HB2 := hid (vonto HB1.out hb2)
    clear hb2 CC HB1
    go_upto_region 23 with fail
    refine cewp_gen ?_
    intro W hW
    obtain ⟨v0, v1, v2, v3, v4, hbW⟩ := cebox_of hW
    have g2 := keepCell hbW g2
    have HBW := hid (vonto HB2.out hbW)
    clear hW hbW HB2
    go_wp2_with fail
    go_ret2
    exact ⟨by rw [HR.out]; rfl, HBW.out⟩
set_option maxRecDepth 100000 in
set_option maxHeartbeats 4000000 in
theorem dtext_any (T : VT) (x y : Value) (w : World) (hT : HV w T x y) :
    Calls Tryz.prog 43 #[vv T x y] w fun e w' => e = .returned (.tuple #[.string (if celB T = true then mkS (celW T) else ⟨#[]⟩), .bool (celB T)]) ∧ Below w.heap.size w w' := by
  have CG0 := hid (fun X (hX : Below w.heap.size w X) => rvalue_any T _ _ X (hT.onto hX))
  cases hT with
  | mk a b f g p q hk hn hs hL hM hK cL cK cM rL rM =>
  rename_i k n s L K V
  obtain ⟨oL, capL, rfl, hL1, hL2, hL3⟩ := hL
  obtain ⟨oM, capM, rfl, hM1, hM2, hM3⟩ := hM
  have hn2 : -9223372036854775808 ≤ n ∧ n < 9223372036854775808 := by
    have := hn
    simp [Lit.wf, IntKind.min, IntKind.max, IntKind.signed, IntKind.bits] at this
    omega
  have CG := CG0
  have CB := hid (fun X (hX : X = w.alloc (.cells #[.int .i64 k, .int .i64 n, .string s, .slice oL L.length capL, .slice oM V.length capM] 26)) => cebox_of hX)
  simp only [vv, VT.kd, VT.nm, VT.st] at CG ⊢
  have HR : Hid (celB (.mk k n s L K V) = (decide (L.length = 0) && decide (V.length = 0) && mayB 0 1 (.mk k n s L K V))) := hid (by
    unfold celB
    simp only [VT.ls, VT.vs]
    cases L <;> cases V <;> simp)
  have HND : Hid (celB (.mk k n s L K V) = true → nodeB (leafT k n s) = true) := hid (fun hb => by
    obtain ⟨h1, h2⟩ := leaf_of hb (by exact hK)
    have h1 : VT.mk k n s L K V = leafT k n s := h1
    exact h1 ▸ h2)
  unfold maxLen at hL2 hM2
  have HCW : Hid (celW (.mk k n s L K V) = celS k n s) := hid rfl
  rw [HCW.out]
  have CT := hid (fun X => text_any n X hn2.1 hn2.2)
  have HSZ : Hid (mayB 0 1 (.mk k n s L K V) = true → L.length + V.length ≤ 4096) := hid (fun h => by
    have h1 := (good_sz h).1
    rw [sz_both] at h1
    simp only [VT.ls, VT.vs] at h1
    have h2 := len_szL L
    have h3 := len_szL V
    omega)
  generalize celB (.mk k n s L K V) = R at HR HND ⊢
  generalize mayB 0 1 (.mk k n s L K V) = q at CG HR HSZ
  generalize L.length = nL at *
  generalize V.length = nM at *
  clear CG0 HCW hk hn hs cL cK cM rL rM hK hL3 hM3 hn2
  cases q with
  | false =>
    have HR1 : R = false := by rw [HR.out, Bool.and_false]
    subst HR1
    clear HR HND CT
    go_enter Tryz.func43, Tryz.ntmps43
    go_upto_region 1 with fail
    refine cewp_gen ?_
    intro W hW
    obtain ⟨g0, g1, g2, g3, g4, hbW⟩ := CB.out W hW
    have HBW := hid hbW
    clear hW hbW CB
    go_wp2_with fail
    go_at_call 12
    refine (CG.out _ HBW.out).mono ?_
    rintro e w1 ⟨rfl, hb1⟩
    have g0 := keepCell hb1 g0
    have g1 := keepCell hb1 g1
    have g2 := keepCell hb1 g2
    have g3 := keepCell hb1 g3
    have g4 := keepCell hb1 g4
    have HB1 := hid (vonto HBW.out hb1)
    clear hb1 CG HBW
    go_wp2_with fail
    go_ret2
    exact ⟨rfl, HB1.out⟩
  | true =>
  by_cases hz : nL + nM = 0
  · obtain ⟨h1, h2⟩ : nL = 0 ∧ nM = 0 := by omega
    subst h1 h2
    have HR1 : R = true := by rw [HR.out]; rfl
    subst HR1
    have hm := HND.out rfl
    rw [if_pos rfl]
    clear HR HND
    unfold nodeB nodeC at hm
    simp only [leafT, VT.kd, VT.nm, VT.st, VT.ls, VT.ks, VT.vs] at hm
    by_cases k0 : k = 0
    · subst k0
      simp at hm
      clear hm CT
      go_enter Tryz.func43, Tryz.ntmps43
      go_upto_region 1 with fail
      refine cewp_gen ?_
      intro W hW
      obtain ⟨g0, g1, g2, g3, g4, hbW⟩ := CB.out W hW
      have HBW := hid hbW
      clear hW hbW CB
      go_wp2_with fail
      go_at_call 12
      refine (CG.out _ HBW.out).mono ?_
      rintro e w1 ⟨rfl, hb1⟩
      have g0 := keepCell hb1 g0
      have g1 := keepCell hb1 g1
      have g2 := keepCell hb1 g2
      have g3 := keepCell hb1 g3
      have g4 := keepCell hb1 g4
      have HB1 := hid (vonto HBW.out hb1)
      clear hb1 CG HBW
      go_wp2_with fail
      go_ret2
      exact ⟨rfl, HB1.out⟩
    by_cases k1 : k = 1
    · subst k1
      simp at hm
      obtain ⟨h3, h4⟩ := hm
      clear h4 CT
      rcases h3 with rfl | rfl
      · go_enter Tryz.func43, Tryz.ntmps43
        go_upto_region 1 with fail
        refine cewp_gen ?_
        intro W hW
        obtain ⟨g0, g1, g2, g3, g4, hbW⟩ := CB.out W hW
        have HBW := hid hbW
        clear hW hbW CB
        go_wp2_with fail
        go_at_call 12
        refine (CG.out _ HBW.out).mono ?_
        rintro e w1 ⟨rfl, hb1⟩
        have g0 := keepCell hb1 g0
        have g1 := keepCell hb1 g1
        have g2 := keepCell hb1 g2
        have g3 := keepCell hb1 g3
        have g4 := keepCell hb1 g4
        have HB1 := hid (vonto HBW.out hb1)
        clear hb1 CG HBW
        go_wp2_with fail
        go_ret2
        exact ⟨rfl, HB1.out⟩
      · go_enter Tryz.func43, Tryz.ntmps43
        go_upto_region 1 with fail
        refine cewp_gen ?_
        intro W hW
        obtain ⟨g0, g1, g2, g3, g4, hbW⟩ := CB.out W hW
        have HBW := hid hbW
        clear hW hbW CB
        go_wp2_with fail
        go_at_call 12
        refine (CG.out _ HBW.out).mono ?_
        rintro e w1 ⟨rfl, hb1⟩
        have g0 := keepCell hb1 g0
        have g1 := keepCell hb1 g1
        have g2 := keepCell hb1 g2
        have g3 := keepCell hb1 g3
        have g4 := keepCell hb1 g4
        have HB1 := hid (vonto HBW.out hb1)
        clear hb1 CG HBW
        go_wp2_with fail
        go_ret2
        exact ⟨rfl, HB1.out⟩
    by_cases k2 : k = 2
    · subst k2
      clear hm
      go_enter Tryz.func43, Tryz.ntmps43
      go_upto_region 1 with fail
      refine cewp_gen ?_
      intro W hW
      obtain ⟨g0, g1, g2, g3, g4, hbW⟩ := CB.out W hW
      have HBW := hid hbW
      clear hW hbW CB
      go_wp2_with fail
      go_at_call 12
      refine (CG.out _ HBW.out).mono ?_
      rintro e w1 ⟨rfl, hb1⟩
      have g0 := keepCell hb1 g0
      have g1 := keepCell hb1 g1
      have g2 := keepCell hb1 g2
      have g3 := keepCell hb1 g3
      have g4 := keepCell hb1 g4
      have HB1 := hid (vonto HBW.out hb1)
      clear hb1 CG HBW
      go_wp2_with fail
      go_at_call 28
      refine (CT.out _).mono ?_
      rintro e w2 ⟨rfl, hb2⟩
      have HB2 := hid (vonto HB1.out hb2)
      clear hb2 CT
      go_wp2_with fail
      go_ret2
      exact ⟨rfl, HB2.out⟩
    by_cases k3 : k = 3
    · subst k3
      have HE : Hid (mkS (celS 3 n s) = s) := hid (by rw [show celS 3 n s = s.data.toList from rfl]; exact (mkS_of s _ rfl).symm)
      clear hm CT
      go_enter Tryz.func43, Tryz.ntmps43
      go_upto_region 1 with fail
      refine cewp_gen ?_
      intro W hW
      obtain ⟨g0, g1, g2, g3, g4, hbW⟩ := CB.out W hW
      have HBW := hid hbW
      clear hW hbW CB
      go_wp2_with fail
      go_at_call 12
      refine (CG.out _ HBW.out).mono ?_
      rintro e w1 ⟨rfl, hb1⟩
      have g0 := keepCell hb1 g0
      have g1 := keepCell hb1 g1
      have g2 := keepCell hb1 g2
      have g3 := keepCell hb1 g3
      have g4 := keepCell hb1 g4
      have HB1 := hid (vonto HBW.out hb1)
      clear hb1 CG HBW
      go_wp2_with fail
      go_ret2
      exact ⟨by rw [HE.out]; rfl, HB1.out⟩
    by_cases k5 : k = 5
    · subst k5
      clear hm CT
      go_enter Tryz.func43, Tryz.ntmps43
      go_upto_region 1 with fail
      refine cewp_gen ?_
      intro W hW
      obtain ⟨g0, g1, g2, g3, g4, hbW⟩ := CB.out W hW
      have HBW := hid hbW
      clear hW hbW CB
      go_wp2_with fail
      go_at_call 12
      refine (CG.out _ HBW.out).mono ?_
      rintro e w1 ⟨rfl, hb1⟩
      have g0 := keepCell hb1 g0
      have g1 := keepCell hb1 g1
      have g2 := keepCell hb1 g2
      have g3 := keepCell hb1 g3
      have g4 := keepCell hb1 g4
      have HB1 := hid (vonto HBW.out hb1)
      clear hb1 CG HBW
      go_wp2_with fail
      go_ret2
      exact ⟨rfl, HB1.out⟩
    by_cases k6 : k = 6
    · subst k6
      clear hm CT
      go_enter Tryz.func43, Tryz.ntmps43
      go_upto_region 1 with fail
      refine cewp_gen ?_
      intro W hW
      obtain ⟨g0, g1, g2, g3, g4, hbW⟩ := CB.out W hW
      have HBW := hid hbW
      clear hW hbW CB
      go_wp2_with fail
      go_at_call 12
      refine (CG.out _ HBW.out).mono ?_
      rintro e w1 ⟨rfl, hb1⟩
      have g0 := keepCell hb1 g0
      have g1 := keepCell hb1 g1
      have g2 := keepCell hb1 g2
      have g3 := keepCell hb1 g3
      have g4 := keepCell hb1 g4
      have HB1 := hid (vonto HBW.out hb1)
      clear hb1 CG HBW
      go_wp2_with fail
      go_ret2
      exact ⟨rfl, HB1.out⟩
    by_cases k7 : k = 7
    · subst k7
      simp at hm
      obtain ⟨h3, h4⟩ := hm
      subst h3
      have hz7 : s.size ≤ 64 := by
        unfold stampB at h4
        simp only [Bool.and_eq_true, decide_eq_true_eq] at h4
        exact h4.1.2
      have HE : Hid (mkS (celS 7 0 s) = (⟨#[64]⟩ : ByteArray) ++ s) := hid (by
        rw [show celS 7 0 s = [64] ++ s.data.toList from rfl, ← ce_app, ← mkS_of s _ rfl]; rfl)
      clear h4 CT
      go_enter Tryz.func43, Tryz.ntmps43
      go_upto_region 1 with fail
      refine cewp_gen ?_
      intro W hW
      obtain ⟨g0, g1, g2, g3, g4, hbW⟩ := CB.out W hW
      have HBW := hid hbW
      clear hW hbW CB
      go_wp2_with fail
      go_at_call 12
      refine (CG.out _ HBW.out).mono ?_
      rintro e w1 ⟨rfl, hb1⟩
      have g0 := keepCell hb1 g0
      have g1 := keepCell hb1 g1
      have g2 := keepCell hb1 g2
      have g3 := keepCell hb1 g3
      have g4 := keepCell hb1 g4
      have HB1 := hid (vonto HBW.out hb1)
      clear hb1 CG HBW
      go_wp2_with fail
      go_ret2
      exact ⟨by rw [HE.out]; rfl, HB1.out⟩
    by_cases k4 : k = 4
    · subst k4
      simp at hm
      obtain ⟨h3, h4⟩ := hm
      subst h3
      exact dtext_str s oL oM capL capM w h4 CG
    · simp [k0, k1, k2, k3, k4, k5, k6, k7] at hm
  · have hsz := HSZ.out rfl
    have hp : 0 < nL + nM := by omega
    have hp1 : (0 : Int) < (nL : Int) + (nM : Int) := by omega
    have hw1 : IntKind.i64.wrap ((nL : Int) + (nM : Int)) = (nL : Int) + (nM : Int) := wraps_i64 _ (by omega) (by omega)
    have HR1 : R = false := by
      rw [HR.out]
      by_cases h1 : nL = 0
      · rw [decide_eq_false (p := nM = 0) (by omega)]; simp
      · rw [decide_eq_false h1]; rfl
    subst HR1
    clear HR HND CT
    go_enter Tryz.func43, Tryz.ntmps43
    go_upto_region 1 with fail
    refine cewp_gen ?_
    intro W hW
    obtain ⟨g0, g1, g2, g3, g4, hbW⟩ := CB.out W hW
    have HBW := hid hbW
    clear hW hbW CB
    go_wp2_with fail
    go_at_call 12
    refine (CG.out _ HBW.out).mono ?_
    rintro e w1 ⟨rfl, hb1⟩
    have g0 := keepCell hb1 g0
    have g1 := keepCell hb1 g1
    have g2 := keepCell hb1 g2
    have g3 := keepCell hb1 g3
    have g4 := keepCell hb1 g4
    have HB1 := hid (vonto HBW.out hb1)
    clear hb1 CG HBW
    go_wp2_with fail
    go_ret2
    exact ⟨rfl, HB1.out⟩
end Go.Proofs.YtadbeodeiijhdaaGreatDoor
