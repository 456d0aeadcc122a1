/- The document's Number, walked whole. -/
import Derived.Test.YtlapefhnbbcmmaaGreatDoorXRtL
import Derived.Test.YtlapefhnbbcmmaaGreatDoorXRtM
import Derived.Test.YtlapefhnbbcmmaaGreatDoorXRtN
import Derived.Test.YtlapefhnbbcmmaaGreatDoorXRtOa
import Derived.Test.YtlapefhnbbcmmaaGreatDoorXRtOc
import Derived.Test.YtlapefhnbbcmmaaGreatDoorXRtOe
import Derived.Test.YtlapefhnbbcmmaaGreatDoorXRtOf
import Derived.Test.YtlapefhnbbcmmaaGreatDoorXRtP
import Derived.Test.YtlapefhnbbcmmaaGreatDoorXMathDn5
import Derived.Test.YtlapefhnbbcmmaaGreatDoorXRefDec
namespace Go.Proofs.YtlapefhnbbcmmaaGreatDoor
open Go.RowKit

/-- a number's reading as the document's values -/
def nqV (q : NQ) : Value := .tuple #[.agg #[.int .i64 q.1, .int .i64 q.2.1, .string (mkS q.2.2.1), nilS, nilS], .int .i64 q.2.2.2]
theorem nq_ite (c : Bool) (x y : NQ) : nqV (if c = true then x else y) = if c = true then nqV x else nqV y := by cases c <;> rfl
def sgV (l : List UInt8) : Int := if sgA l = true then ((bt l 0 : Nat) : Int) else 0
theorem napp (a b : ByteArray) : (a ++ b).data.toList = a.data.toList ++ b.data.toList := by simp
theorem rn_uns (s : ByteArray) (hs : s.size ≤ 1000000) (X : World) : Calls Tryz.prog 36 #[.string s] X fun e w' => e = .returned (.tuple #[.string (mkS (unS s.data.toList)), .int .u8 (sgV s.data.toList)]) ∧ Below X.heap.size X w' := by
  refine (runsigned_any s X hs).mono ?_
  rintro e w' ⟨rfl, hb⟩
  refine ⟨?_, hb⟩
  unfold sgV unS
  by_cases h : sgA s.data.toList = true
  · rw [if_pos h, if_pos h, if_pos h, show s.extract 1 s.size = mkS (s.data.toList.drop 1) from mkS_of _ _ (by rw [part_list, List.take_of_length_le (by rw [size_list]; exact Nat.le_refl _)])]
  · rw [if_neg h, if_neg h, if_neg h, ← self_str]
theorem rn_split (s O : ByteArray) (hs : s.size ≤ 1000000) (hO : O.size ≤ 1000000) (X : World) : Calls Tryz.prog 39 #[.string s, .string O] X fun e w' => e = .returned (.tuple #[.string (mkS (s.data.toList.take (run (nofD O.data.toList) s.data.toList))), .string (mkS (s.data.toList.drop (run (nofD O.data.toList) s.data.toList + 1))), .bool (decide (run (nofD O.data.toList) s.data.toList < s.data.toList.length))]) ∧ Below X.heap.size X w' := by
  refine (rsplit_any s O X hs hO (run (nofD O.data.toList) s.data.toList) rfl).mono ?_
  rintro e w' ⟨rfl, hb⟩
  refine ⟨?_, hb⟩
  have hz : s.data.toList.length = s.size := size_list s
  generalize run (nofD O.data.toList) s.data.toList = n
  by_cases h : n < s.size
  · rw [if_pos h, decide_eq_true (by omega), show s.extract 0 n = mkS (s.data.toList.take n) from mkS_of _ _ (by rw [part_list]; rfl), show s.extract (n + 1) s.size = mkS (s.data.toList.drop (n + 1)) from mkS_of _ _ (by rw [part_list, List.take_of_length_le (by omega)])]
  · rw [if_neg h, decide_eq_false (by omega), List.take_of_length_le (by omega), List.drop_eq_nil_of_le (by omega), ← self_str]; rfl
theorem rn_clean (l : List UInt8) (base : Nat) (hl : l.length ≤ 1000000) (X : World) : Calls Tryz.prog 37 #[.string (mkS l), .int .i64 (base : Int)] X fun e w' => e = .returned (.tuple #[.string (mkS (clnD base l)), .bool (dgs base l)]) ∧ w' = X := by
  have := rclean_any (mkS l) base X (by rw [mkS_size]; exact hl)
  rw [mkS_list] at this
  exact this
theorem nqE {X : ByteArray} {T : List UInt8} (h : X.data.toList = T) : Ending.returned (if numB X.data.toList = true then .tuple #[.agg #[.int .i64 3, .int .i64 0, .string X, nilS, nilS], .int .i64 0] else .tuple #[.agg #[.int .i64 0, .int .i64 0, .string ⟨#[]⟩, nilS, nilS], .int .i64 6]) = .returned (nqV (dnN T)) := by
  obtain rfl : X = mkS T := mkS_of X T h
  unfold dnN
  rw [mkS_list, nq_ite]; rfl
theorem eB_is (l : List UInt8) : eB l = eBD l := rfl
theorem sg_zero (l : List UInt8) : (sgV l != 0) = sgA l := by
  unfold sgV
  cases h : sgA l with
  | true =>
    rw [if_pos rfl]
    unfold sgA at h; rw [decide_eq_true_iff] at h
    rw [bne_iff_ne.2 (by omega)]
  | false => rw [if_neg (by decide)]; rfl
theorem sg_minus (l : List UInt8) : (sgV l == 45) = decide (bt l 0 = 45) := by
  unfold sgV
  by_cases h45 : bt l 0 = 45
  · have h : sgA l = true := by unfold sgA; rw [decide_eq_true (Or.inr h45)]
    rw [if_pos h, h45, decide_eq_true rfl]; rfl
  · rw [decide_eq_false h45, beq_eq_false_iff_ne]
    by_cases h : sgA l = true
    · rw [if_pos h]; omega
    · rw [if_neg h]; decide
theorem b_at (l : List UInt8) (k : Nat) (h : k < (mkS l).size) : (mkS l)[k].toNat = bt l k := by
  rw [← bt_at (mkS l) k h, mkS_list]
theorem rn_int (t : ByteArray) (ht : t.size ≤ 2000000) (X : World) : Calls Tryz.prog 40 #[.string t] X fun e w' => e = .returned (.tuple #[.int .i64 (intV t.data.toList), .bool (intB t.data.toList)]) ∧ w' = X := int_any t X (by unfold maxLen; omega)
theorem rn_num (t : ByteArray) (ht : t.size ≤ 9000000) (X : World) : Calls Tryz.prog 41 #[.string t] X fun e w' => e = .returned (.bool (numB t.data.toList)) ∧ w' = X := number_any t X (by unfold maxLen; omega)
set_option maxHeartbeats 4000000 in
/-- with a base said -/
theorem rn_base (s : ByteArray) (w : World) (hs : s.size ≤ 1000000) (q1 : ((mkS (unS s.data.toList)).toList == [105, 110, 102]) = false) (q2 : ((mkS (unS s.data.toList)).toList == [110, 97, 110]) = false) (hp : dPre (unS s.data.toList)) :
    Calls Tryz.prog 11 #[.string s] w fun e w' => e = .returned (nqV (if dgs (dBase (unS s.data.toList)) ((unS s.data.toList).drop 2) = false ∨ sgA s.data.toList = true then badQ else intQ (psV (dBase (unS s.data.toList)) (clnS ((unS s.data.toList).drop 2))))) ∧ Below w.heap.size w w' := by
  have CU := hid (rn_uns s hs)
  have hlen : (unS s.data.toList).length ≤ s.size := by rw [← size_list]; exact uns_le _
  have hsz := sg_zero s.data.toList
  generalize s.data.toList = L at *
  generalize unS L = B at *
  obtain ⟨h1, h2, h3⟩ := hp
  have z2 : 2 < (mkS B).size := by rw [mkS_size]; exact h1
  have hx : (mkS B).extract 2 (mkS B).size = mkS (B.drop 2) := mkS_of _ _ (by rw [part_list, mkS_list, mkS_size, List.take_of_length_le (Nat.le_refl _)])
  have hd : (B.drop 2).length ≤ 1000000 := by rw [List.length_drop]; omega
  have k0 : (mkS B)[0].toNat = 48 := by rw [b_at]; exact h2
  generalize sgV L = sv at *
  generalize sgA L = sg at *
  have key : ∀ base : Nat, dgs base (B.drop 2) = true → 2 ≤ base → base ≤ 16 → ∀ X, Calls Tryz.prog 38 #[.string (mkS (clnD base (B.drop 2))), .int .i64 (base : Int)] X fun e w' => e = .returned (bsD base (clnS (B.drop 2))) ∧ w' = X := fun base hg hb1 hb2 X => by
    have hc : clnD base (B.drop 2) = clnS (B.drop 2) := by unfold clnD; rw [if_pos hg]
    rw [hc]
    have := rbased_any (mkS (clnS (B.drop 2))) base X (by rw [mkS_size]; have := cln_le (B.drop 2); omega) hb1 hb2 (by
      rw [mkS_list]
      intro b hb
      unfold clnS at hb
      obtain ⟨m1, m2⟩ := List.mem_filter.1 hb
      rcases cd_chars _ (B.drop 2) false (dgs_iff.1 hg).2 b m1 with k | k
      · unfold dgB at k; rw [Bool.and_eq_true] at k; exact k.1
      · unfold noS at m2; simp [k] at m2)
    rw [mkS_list] at this
    exact this
  rcases h3 with h3 | h3 | h3
  · have hB : dBase B = 16 := by unfold dBase; rw [if_pos h3]
    rw [hB]
    have k1 : (mkS B)[1].toNat = 120 := by rw [b_at]; exact h3
    have CC := hid (fun X => rn_clean (B.drop 2) 16 hd X)
    rw [← hx] at CC
    cases hg : dgs 16 (B.drop 2) with
    | false =>
      rw [hg] at CC
      rw [if_pos (Or.inl rfl)]
      exact rnB16n s _ _ _ w CU CC q1 q2 z2 k0 k1
    | true =>
      rw [hg] at CC
      cases sg with
      | true =>
        rw [if_pos (Or.inr rfl)]
        exact rnB16s s _ _ _ w CU CC q1 q2 z2 k0 k1 (bne_iff_ne.1 hsz)
      | false =>
        have hs0 : sv = 0 := by simpa using hsz
        rw [if_neg (by rintro (k | k); cases k; cases k)]
        have CB := hid (key 16 hg (by decide) (by decide))
        unfold bsD at CB
        unfold psV
        by_cases hr : pvB 16 (clnS (B.drop 2)) < 9223372036854775808
        · rw [if_pos hr] at CB
          rw [if_pos hr]
          exact rnB16f s _ _ _ _ w CU CC CB q1 q2 z2 k0 k1 hs0
        · rw [if_neg hr] at CB
          rw [if_neg hr]
          exact rnB16r s _ _ _ _ w CU CC CB q1 q2 z2 k0 k1 hs0
  · have hB : dBase B = 8 := by unfold dBase; rw [if_neg (show ¬ bt B 1 = 120 by omega), if_pos h3]
    rw [hB]
    have k1 : (mkS B)[1].toNat = 111 := by rw [b_at]; exact h3
    have CC := hid (fun X => rn_clean (B.drop 2) 8 hd X)
    rw [← hx] at CC
    cases hg : dgs 8 (B.drop 2) with
    | false =>
      rw [hg] at CC
      rw [if_pos (Or.inl rfl)]
      exact rnB8n s _ _ _ w CU CC q1 q2 z2 k0 k1
    | true =>
      rw [hg] at CC
      cases sg with
      | true =>
        rw [if_pos (Or.inr rfl)]
        exact rnB8s s _ _ _ w CU CC q1 q2 z2 k0 k1 (bne_iff_ne.1 hsz)
      | false =>
        have hs0 : sv = 0 := by simpa using hsz
        rw [if_neg (by rintro (k | k); cases k; cases k)]
        have CB := hid (key 8 hg (by decide) (by decide))
        unfold bsD at CB
        unfold psV
        by_cases hr : pvB 8 (clnS (B.drop 2)) < 9223372036854775808
        · rw [if_pos hr] at CB
          rw [if_pos hr]
          exact rnB8f s _ _ _ _ w CU CC CB q1 q2 z2 k0 k1 hs0
        · rw [if_neg hr] at CB
          rw [if_neg hr]
          exact rnB8r s _ _ _ _ w CU CC CB q1 q2 z2 k0 k1 hs0
  · have hB : dBase B = 2 := by unfold dBase; rw [if_neg (show ¬ bt B 1 = 120 by omega), if_neg (show ¬ bt B 1 = 111 by omega)]
    rw [hB]
    have k1 : (mkS B)[1].toNat = 98 := by rw [b_at]; exact h3
    have CC := hid (fun X => rn_clean (B.drop 2) 2 hd X)
    rw [← hx] at CC
    cases hg : dgs 2 (B.drop 2) with
    | false =>
      rw [hg] at CC
      rw [if_pos (Or.inl rfl)]
      exact rnB2n s _ _ _ w CU CC q1 q2 z2 k0 k1
    | true =>
      rw [hg] at CC
      cases sg with
      | true =>
        rw [if_pos (Or.inr rfl)]
        exact rnB2s s _ _ _ w CU CC q1 q2 z2 k0 k1 (bne_iff_ne.1 hsz)
      | false =>
        have hs0 : sv = 0 := by simpa using hsz
        rw [if_neg (by rintro (k | k); cases k; cases k)]
        have CB := hid (key 2 hg (by decide) (by decide))
        unfold bsD at CB
        unfold psV
        by_cases hr : pvB 2 (clnS (B.drop 2)) < 9223372036854775808
        · rw [if_pos hr] at CB
          rw [if_pos hr]
          exact rnB2f s _ _ _ _ w CU CC CB q1 q2 z2 k0 k1 hs0
        · rw [if_neg hr] at CB
          rw [if_neg hr]
          exact rnB2r s _ _ _ _ w CU CC CB q1 q2 z2 k0 k1 hs0
set_option maxHeartbeats 4000000 in
/-- without a base -/
theorem rn_dec (s : ByteArray) (w : World) (hs : s.size ≤ 1000000) (q1 : ((mkS (unS s.data.toList)).toList == [105, 110, 102]) = false) (q2 : ((mkS (unS s.data.toList)).toList == [110, 97, 110]) = false) (hp : ¬ dPre (unS s.data.toList)) :
    Calls Tryz.prog 11 #[.string s] w fun e w' => e = .returned (nqV (dnE s.data.toList (unS s.data.toList))) ∧ Below w.heap.size w w' := by
  have CU := hid (rn_uns s hs)
  have hlen : (unS s.data.toList).length ≤ s.size := by rw [← size_list]; exact uns_le _
  have hmin := sg_minus s.data.toList
  generalize s.data.toList = L at *
  generalize unS L = B at *
  generalize hsv : sgV L = sv at *
  clear hsv
  have hBz : (mkS B).size ≤ 1000000 := by rw [mkS_size]; omega
  have HNB : Hid (∀ h : 2 < (mkS B).size, ¬ ((mkS B)[0].toNat = 48 ∧ ((mkS B)[1].toNat = 120 ∨ (mkS B)[1].toNat = 111 ∨ (mkS B)[1].toNat = 98))) := hid (fun h k => hp ⟨by rw [mkS_size] at h; exact h, by rw [b_at, b_at] at k; exact k⟩)
  have CE := hid (fun X => rn_split (mkS B) ⟨#[101, 69]⟩ hBz (by decide) X)
  rw [mkS_list, show (⟨#[101, 69]⟩ : ByteArray).data.toList = [101, 69] from rfl] at CE
  have hmp : dPw B = true → (mkS (dM B)).size + (mkS (dP B)).size + 1 = (mkS B).size := fun h => by
    unfold dPw at h; rw [decide_eq_true_iff] at h
    unfold dM dP
    rw [mkS_size, mkS_size, mkS_size, List.length_take, List.length_drop]; omega
  have hm : (mkS (dM B)).size ≤ 1000000 := by unfold dM; rw [mkS_size, List.length_take]; omega
  have hpz : (mkS (dP B)).size ≤ 1000000 := by unfold dP; rw [mkS_size, List.length_drop]; omega
  change Hid (∀ X, Calls _ _ _ X fun e w' => e = .returned (.tuple #[.string (mkS (dM B)), .string (mkS (dP B)), .bool (dPw B)]) ∧ _) at CE
  have CD := hid (fun X => rn_split (mkS (dM B)) ⟨#[46]⟩ hm (by decide) X)
  rw [mkS_list, show (⟨#[46]⟩ : ByteArray).data.toList = [46] from rfl] at CD
  change Hid (∀ X, Calls _ _ _ X fun e w' => e = .returned (.tuple #[.string (mkS (dW (dM B))), .string (mkS (dF (dM B))), .bool (dDt (dM B))]) ∧ _) at CD
  have CQ := hid (rn_uns (mkS (dP B)) hpz)
  rw [mkS_list] at CQ
  unfold dnE
  have hTx : dTx L B = (dT0 L (dW (dM B)) ++ (if dDt (dM B) = true then 46 :: clnS (dF (dM B)) else [])) ++ (if dPw B = true then eBD (B.take ((dM B).length + (dP B).length)) :: ((if sgA (dP B) = true then (dP B).take 1 else []) ++ clnS (unS (dP B))) else []) := rfl
  generalize hT : dTx L B = T at *
  clear hT
  generalize hmm : dM B = m at *
  generalize hpp : dP B = p at *
  generalize dPw B = pw at *
  clear hpp
  have hWl : (dW m).length ≤ 1000000 := by unfold dW; rw [List.length_take]; rw [mkS_size] at hm; omega
  have hFl : (dF m).length ≤ 1000000 := by unfold dF; rw [List.length_drop]; rw [mkS_size] at hm; omega
  have hql : (unS p).length ≤ 1000000 := by have := uns_le p; rw [mkS_size] at hpz; omega
  generalize dW m = W at *
  generalize dF m = F at *
  generalize dDt m = dt at *
  have CW := hid (fun X => rn_clean W 10 hWl X)
  have CF := hid (fun X => rn_clean F 10 hFl X)
  have CP := hid (fun X => rn_clean (unS p) 10 hql X)
  have hWz : (mkS (clnD 10 W)).size ≤ 1000000 := by rw [mkS_size]; unfold clnD; split; have := cln_le W; omega; simp
  cases hw : dgs 10 W with
  | false =>
    rw [hw] at CW
    rw [if_pos (Or.inl rfl)]
    exact rnW s _ _ _ _ _ _ _ _ _ w CU CE CD CW q1 q2 HNB
  | true =>
  rw [hw] at CW
  have eW : clnD 10 W = clnS W := by unfold clnD; rw [if_pos hw]
  rw [eW] at CW hWz
  by_cases hz : 1 < (clnS W).length ∧ bt (clnS W) 0 = 48
  · rw [if_pos (Or.inr hz)]
    have z1 : 1 < (mkS (clnS W)).size := by rw [mkS_size]; exact hz.1
    exact rnZ s _ _ _ _ _ _ _ _ _ w CU CE CD CW q1 q2 HNB hWz z1 (by rw [b_at]; exact hz.2)
  rw [if_neg (by rintro (k | k); cases k; exact hz k)]
  have HLZ : Hid (∀ h : 1 < (mkS (clnS W)).size, ¬ (mkS (clnS W))[0].toNat = 48) := hid (fun h k => hz ⟨by rw [mkS_size] at h; exact h, by rw [b_at] at k; exact k⟩)
  have hFz : (mkS (clnD 10 F)).size ≤ 1000000 := by rw [mkS_size]; unfold clnD; split; have := cln_le F; omega; simp
  have hQz : (mkS (clnD 10 (unS p))).size ≤ 1000000 := by rw [mkS_size]; unfold clnD; split; have := cln_le (unS p); omega; simp
  have hwd := hw
  clear hw hp hz
  by_cases h45 : bt L 0 = 45
  · have gs : (sv == 45) = true := by rw [hmin, decide_eq_true h45]
    have e0 : (⟨#[45]⟩ ++ mkS (clnS W)) = mkS (dT0 L W) := mkS_of _ _ (by unfold dT0; rw [if_pos h45]; simp only [napp, mkS_list])
    have z0 : (⟨#[45]⟩ ++ mkS (clnS W)).size ≤ 1000001 := by rw [ByteArray.size_append]; have : (⟨#[45]⟩ : ByteArray).size = 1 := rfl; omega
    cases dt with
    | false =>
      cases pw with
      | false =>
        rw [if_pos ⟨rfl, rfl⟩]
        by_cases hy : dT0 L W = [45, 48]
        · rw [if_pos hy]
          have gy : ((⟨#[45]⟩ ++ mkS (clnS W)).toList == [45, 48]) = true := by rw [e0, Lib.toList_data, mkS_list, hy]; rfl
          have CI := hid (rn_int ⟨#[48]⟩ (by decide))
          refine (rnImy s _ _ _ _ _ _ _ _ _ w CU CE CD CW CI q1 q2 HNB hWz HLZ gs gy).mono ?_
          rintro e w' ⟨rfl, hb⟩
          refine ⟨?_, hb⟩
          unfold dnI
          rw [nq_ite]; rfl
        · rw [if_neg hy]
          have gy : ((⟨#[45]⟩ ++ mkS (clnS W)).toList == [45, 48]) = false := by rw [e0, Lib.toList_data, mkS_list]; exact beq_eq_false_iff_ne.2 hy
          have CI := hid (rn_int (⟨#[45]⟩ ++ mkS (clnS W)) (by omega))
          refine (rnIm s _ _ _ _ _ _ _ _ _ w CU CE CD CW CI q1 q2 HNB hWz HLZ gs gy).mono ?_
          rintro e w' ⟨rfl, hb⟩
          refine ⟨?_, hb⟩
          rw [e0, mkS_list]
          unfold dnI
          rw [nq_ite]; rfl
      | true =>
        rw [if_neg (by rintro ⟨-, k⟩; cases k), if_neg (by rintro ⟨k, -⟩; cases k)]
        cases hq : dgs 10 (unS p) with
        | false =>
          rw [hq] at CP
          rw [if_pos ⟨rfl, rfl⟩]
          exact rnQmo s _ _ _ _ _ _ _ _ _ _ w CU CE CD CW CQ CP q1 q2 HNB hWz HLZ gs
        | true =>
          rw [hq] at CP
          rw [if_neg (by rintro ⟨-, k⟩; cases k)]
          have eQ : clnD 10 (unS p) = clnS (unS p) := by unfold clnD; rw [if_pos hq]
          rw [eQ] at CP
          have zQ : (mkS (clnS (unS p))).size ≤ 1000000 := by rw [← eQ]; exact hQz
          have hmp2 := hmp rfl
          have gm := sg_zero p
          cases hsp : sgA p with
          | true =>
            rw [hsp] at gm
            have zp : 1 ≤ (mkS p).size := by rw [mkS_size]; cases p with | nil => unfold sgA at hsp; rw [bt_nil] at hsp; exact absurd hsp (by decide) | cons a t => simp
            refine (rnPmos s _ _ _ _ _ _ _ _ _ _ _ _ w CU CE CD CW CQ CP (hid (rn_num _ ?zz1)) q1 q2 HNB hWz HLZ gs zQ hm hpz hmp2 (hid rfl) (by rw [mkS_size]; rfl) gm zp).mono ?_
            rotate_left
            · rintro e w' ⟨rfl, hb⟩
              refine ⟨nqE ?_, hb⟩
              rw [hTx, hsp]
              unfold dT0
              simp [mkS_list, mkS_size, eB_is, h45]
            · simp only [ByteArray.size_append, mkS_size, ByteArray.size_extract]
              rw [mkS_size] at hWz zQ
              have c45 : (⟨#[45]⟩ : ByteArray).size = 1 := rfl
              have c46 : (⟨#[46]⟩ : ByteArray).size = 1 := rfl
              simp only [List.length_cons, List.length_nil]
              omega
          | false =>
            rw [hsp] at gm
            refine (rnPmou s _ _ _ _ _ _ _ _ _ _ _ _ w CU CE CD CW CQ CP (hid (rn_num _ ?zz2)) q1 q2 HNB hWz HLZ gs zQ hm hpz hmp2 (hid rfl) (by rw [mkS_size]; rfl) gm).mono ?_
            rotate_left
            · rintro e w' ⟨rfl, hb⟩
              refine ⟨nqE ?_, hb⟩
              rw [hTx, hsp]
              unfold dT0
              simp [mkS_list, mkS_size, eB_is, h45]
            · simp only [ByteArray.size_append, mkS_size]
              rw [mkS_size] at hWz zQ
              have c45 : (⟨#[45]⟩ : ByteArray).size = 1 := rfl
              have c46 : (⟨#[46]⟩ : ByteArray).size = 1 := rfl
              simp only [List.length_cons, List.length_nil]
              omega
    | true =>
      rw [if_neg (by rintro ⟨k, -⟩; cases k)]
      cases hf : dgs 10 F with
      | false =>
        rw [hf] at CF
        rw [if_pos ⟨rfl, rfl⟩]
        exact rnFm s _ _ _ _ _ _ _ _ _ w CU CE CD CW CF q1 q2 HNB hWz HLZ gs
      | true =>
        rw [hf] at CF
        rw [if_neg (by rintro ⟨-, k⟩; cases k)]
        have eF : clnD 10 F = clnS F := by unfold clnD; rw [if_pos hf]
        have hFz0 := hFz
        rw [eF] at CF hFz
        have zF := hFz
        cases pw with
        | false =>
          rw [if_neg (by rintro ⟨k, -⟩; cases k)]
          refine (rnDm s _ _ _ _ _ _ _ _ _ w CU CE CD CW CF (hid (rn_num _ ?zz3)) q1 q2 HNB hWz HLZ gs hFz).mono ?_
          rotate_left
          · rintro e w' ⟨rfl, hb⟩
            refine ⟨nqE ?_, hb⟩
            rw [hTx]
            unfold dT0
            simp [mkS_list, h45]
          · simp only [ByteArray.size_append, mkS_size]
            rw [mkS_size] at hWz hFz
            have c45 : (⟨#[45]⟩ : ByteArray).size = 1 := rfl
            have c46 : (⟨#[46]⟩ : ByteArray).size = 1 := rfl
            omega
        | true =>
          cases hq : dgs 10 (unS p) with
          | false =>
            rw [hq] at CP
            rw [if_pos ⟨rfl, rfl⟩]
            exact rnQmd s _ _ _ _ _ _ _ _ _ _ _ w CU CE CD CW CF CQ CP q1 q2 HNB hWz HLZ gs hFz
          | true =>
            rw [hq] at CP
            rw [if_neg (by rintro ⟨-, k⟩; cases k)]
            have eQ : clnD 10 (unS p) = clnS (unS p) := by unfold clnD; rw [if_pos hq]
            rw [eQ] at CP
            have zQ : (mkS (clnS (unS p))).size ≤ 1000000 := by rw [← eQ]; exact hQz
            have hmp2 := hmp rfl
            have gm := sg_zero p
            cases hsp : sgA p with
            | true =>
              rw [hsp] at gm
              have zp : 1 ≤ (mkS p).size := by rw [mkS_size]; cases p with | nil => unfold sgA at hsp; rw [bt_nil] at hsp; exact absurd hsp (by decide) | cons a t => simp
              refine (rnPmds s _ _ _ _ _ _ _ _ _ _ _ _ _ _ w CU CE CD CW CF CQ CP (hid (rn_num _ ?zz4)) q1 q2 HNB hWz HLZ gs zF zQ hm hpz hmp2 (hid rfl) (by rw [mkS_size]; rfl) gm zp rfl).mono ?_
              rotate_left
              · rintro e w' ⟨rfl, hb⟩
                refine ⟨nqE ?_, hb⟩
                rw [hTx, hsp]
                unfold dT0
                simp [mkS_list, mkS_size, eB_is, h45]
              · simp only [ByteArray.size_append, mkS_size, ByteArray.size_extract]
                rw [mkS_size] at hWz zQ zF
                have c45 : (⟨#[45]⟩ : ByteArray).size = 1 := rfl
                have c46 : (⟨#[46]⟩ : ByteArray).size = 1 := rfl
                simp only [List.length_cons, List.length_nil]
                omega
            | false =>
              rw [hsp] at gm
              refine (rnPmdu s _ _ _ _ _ _ _ _ _ _ _ _ _ _ w CU CE CD CW CF CQ CP (hid (rn_num _ ?zz5)) q1 q2 HNB hWz HLZ gs zF zQ hm hpz hmp2 (hid rfl) (by rw [mkS_size]; rfl) gm rfl).mono ?_
              rotate_left
              · rintro e w' ⟨rfl, hb⟩
                refine ⟨nqE ?_, hb⟩
                rw [hTx, hsp]
                unfold dT0
                simp [mkS_list, mkS_size, eB_is, h45]
              · simp only [ByteArray.size_append, mkS_size]
                rw [mkS_size] at hWz zQ zF
                have c45 : (⟨#[45]⟩ : ByteArray).size = 1 := rfl
                have c46 : (⟨#[46]⟩ : ByteArray).size = 1 := rfl
                simp only [List.length_cons, List.length_nil]
                omega
  · have gs : (sv == 45) = false := by rw [hmin, decide_eq_false h45]
    have e0 : (mkS (clnS W)) = mkS (dT0 L W) := mkS_of _ _ (by unfold dT0; rw [if_neg h45]; simp only [mkS_list, List.nil_append])
    have z0 : (mkS (clnS W)).size ≤ 1000001 := by omega
    cases dt with
    | false =>
      cases pw with
      | false =>
        rw [if_pos ⟨rfl, rfl⟩]
        have hy : ¬ dT0 L W = [45, 48] := fun e => by
          have h1 := cln_dig (w := W) hwd
          unfold dT0 at e
          rw [if_neg h45, List.nil_append] at e
          rw [e] at h1; exact absurd h1 (by decide)
        rw [if_neg hy]
        have gy : ((mkS (clnS W)).toList == [45, 48]) = false := by rw [e0, Lib.toList_data, mkS_list]; exact beq_eq_false_iff_ne.2 hy
        have CI := hid (rn_int (mkS (clnS W)) (by omega))
        refine (rnIn s _ _ _ _ _ _ _ _ _ w CU CE CD CW CI q1 q2 HNB hWz HLZ gs gy).mono ?_
        rintro e w' ⟨rfl, hb⟩
        refine ⟨?_, hb⟩
        rw [e0, mkS_list]
        unfold dnI
        rw [nq_ite]; rfl
      | true =>
        rw [if_neg (by rintro ⟨-, k⟩; cases k), if_neg (by rintro ⟨k, -⟩; cases k)]
        cases hq : dgs 10 (unS p) with
        | false =>
          rw [hq] at CP
          rw [if_pos ⟨rfl, rfl⟩]
          exact rnQno s _ _ _ _ _ _ _ _ _ _ w CU CE CD CW CQ CP q1 q2 HNB hWz HLZ gs
        | true =>
          rw [hq] at CP
          rw [if_neg (by rintro ⟨-, k⟩; cases k)]
          have eQ : clnD 10 (unS p) = clnS (unS p) := by unfold clnD; rw [if_pos hq]
          rw [eQ] at CP
          have zQ : (mkS (clnS (unS p))).size ≤ 1000000 := by rw [← eQ]; exact hQz
          have hmp2 := hmp rfl
          have gm := sg_zero p
          cases hsp : sgA p with
          | true =>
            rw [hsp] at gm
            have zp : 1 ≤ (mkS p).size := by rw [mkS_size]; cases p with | nil => unfold sgA at hsp; rw [bt_nil] at hsp; exact absurd hsp (by decide) | cons a t => simp
            refine (rnPnos s _ _ _ _ _ _ _ _ _ _ _ _ w CU CE CD CW CQ CP (hid (rn_num _ ?zz6)) q1 q2 HNB hWz HLZ gs zQ hm hpz hmp2 (hid rfl) (by rw [mkS_size]; rfl) gm zp).mono ?_
            rotate_left
            · rintro e w' ⟨rfl, hb⟩
              refine ⟨nqE ?_, hb⟩
              rw [hTx, hsp]
              unfold dT0
              simp [mkS_list, mkS_size, eB_is, h45]
            · simp only [ByteArray.size_append, mkS_size, ByteArray.size_extract]
              rw [mkS_size] at hWz zQ
              have c45 : (⟨#[45]⟩ : ByteArray).size = 1 := rfl
              have c46 : (⟨#[46]⟩ : ByteArray).size = 1 := rfl
              simp only [List.length_cons, List.length_nil]
              omega
          | false =>
            rw [hsp] at gm
            refine (rnPnou s _ _ _ _ _ _ _ _ _ _ _ _ w CU CE CD CW CQ CP (hid (rn_num _ ?zz7)) q1 q2 HNB hWz HLZ gs zQ hm hpz hmp2 (hid rfl) (by rw [mkS_size]; rfl) gm).mono ?_
            rotate_left
            · rintro e w' ⟨rfl, hb⟩
              refine ⟨nqE ?_, hb⟩
              rw [hTx, hsp]
              unfold dT0
              simp [mkS_list, mkS_size, eB_is, h45]
            · simp only [ByteArray.size_append, mkS_size]
              rw [mkS_size] at hWz zQ
              have c45 : (⟨#[45]⟩ : ByteArray).size = 1 := rfl
              have c46 : (⟨#[46]⟩ : ByteArray).size = 1 := rfl
              simp only [List.length_cons, List.length_nil]
              omega
    | true =>
      rw [if_neg (by rintro ⟨k, -⟩; cases k)]
      cases hf : dgs 10 F with
      | false =>
        rw [hf] at CF
        rw [if_pos ⟨rfl, rfl⟩]
        exact rnFn s _ _ _ _ _ _ _ _ _ w CU CE CD CW CF q1 q2 HNB hWz HLZ gs
      | true =>
        rw [hf] at CF
        rw [if_neg (by rintro ⟨-, k⟩; cases k)]
        have eF : clnD 10 F = clnS F := by unfold clnD; rw [if_pos hf]
        have hFz0 := hFz
        rw [eF] at CF hFz
        have zF := hFz
        cases pw with
        | false =>
          rw [if_neg (by rintro ⟨k, -⟩; cases k)]
          refine (rnDn s _ _ _ _ _ _ _ _ _ w CU CE CD CW CF (hid (rn_num _ ?zz8)) q1 q2 HNB hWz HLZ gs hFz).mono ?_
          rotate_left
          · rintro e w' ⟨rfl, hb⟩
            refine ⟨nqE ?_, hb⟩
            rw [hTx]
            unfold dT0
            simp [mkS_list, h45]
          · simp only [ByteArray.size_append, mkS_size]
            rw [mkS_size] at hWz hFz
            have c45 : (⟨#[45]⟩ : ByteArray).size = 1 := rfl
            have c46 : (⟨#[46]⟩ : ByteArray).size = 1 := rfl
            omega
        | true =>
          cases hq : dgs 10 (unS p) with
          | false =>
            rw [hq] at CP
            rw [if_pos ⟨rfl, rfl⟩]
            exact rnQnd s _ _ _ _ _ _ _ _ _ _ _ w CU CE CD CW CF CQ CP q1 q2 HNB hWz HLZ gs hFz
          | true =>
            rw [hq] at CP
            rw [if_neg (by rintro ⟨-, k⟩; cases k)]
            have eQ : clnD 10 (unS p) = clnS (unS p) := by unfold clnD; rw [if_pos hq]
            rw [eQ] at CP
            have zQ : (mkS (clnS (unS p))).size ≤ 1000000 := by rw [← eQ]; exact hQz
            have hmp2 := hmp rfl
            have gm := sg_zero p
            cases hsp : sgA p with
            | true =>
              rw [hsp] at gm
              have zp : 1 ≤ (mkS p).size := by rw [mkS_size]; cases p with | nil => unfold sgA at hsp; rw [bt_nil] at hsp; exact absurd hsp (by decide) | cons a t => simp
              refine (rnPnds s _ _ _ _ _ _ _ _ _ _ _ _ _ w CU CE CD CW CF CQ CP (hid (rn_num _ ?zz9)) q1 q2 HNB hWz HLZ gs zF zQ hm hpz hmp2 (hid rfl) (by rw [mkS_size]; rfl) gm zp).mono ?_
              rotate_left
              · rintro e w' ⟨rfl, hb⟩
                refine ⟨nqE ?_, hb⟩
                rw [hTx, hsp]
                unfold dT0
                simp [mkS_list, mkS_size, eB_is, h45]
              · simp only [ByteArray.size_append, mkS_size, ByteArray.size_extract]
                rw [mkS_size] at hWz zQ zF
                have c45 : (⟨#[45]⟩ : ByteArray).size = 1 := rfl
                have c46 : (⟨#[46]⟩ : ByteArray).size = 1 := rfl
                simp only [List.length_cons, List.length_nil]
                omega
            | false =>
              rw [hsp] at gm
              refine (rnPndu s _ _ _ _ _ _ _ _ _ _ _ _ _ w CU CE CD CW CF CQ CP (hid (rn_num _ ?zz10)) q1 q2 HNB hWz HLZ gs zF zQ hm hpz hmp2 (hid rfl) (by rw [mkS_size]; rfl) gm).mono ?_
              rotate_left
              · rintro e w' ⟨rfl, hb⟩
                refine ⟨nqE ?_, hb⟩
                rw [hTx, hsp]
                unfold dT0
                simp [mkS_list, mkS_size, eB_is, h45]
              · simp only [ByteArray.size_append, mkS_size]
                rw [mkS_size] at hWz zQ zF
                have c45 : (⟨#[45]⟩ : ByteArray).size = 1 := rfl
                have c46 : (⟨#[46]⟩ : ByteArray).size = 1 := rfl
                simp only [List.length_cons, List.length_nil]
                omega
theorem rnumber_any (s : ByteArray) (w : World) (hs : s.size ≤ 1000000) :
    Calls Tryz.prog 11 #[.string s] w fun e w' => e = .returned (nqV (dnQ s.data.toList)) ∧ Below w.heap.size w w' := by
  have hl : (mkS (unS s.data.toList)).toList = unS s.data.toList := by rw [Lib.toList_data, mkS_list]
  unfold dnQ
  by_cases hi : infB (unS s.data.toList) = true
  · rw [if_pos hi]
    have CU := hid (rn_uns s hs)
    unfold infB at hi
    rw [decide_eq_true_iff] at hi
    have := rnA s (mkS (unS s.data.toList)) (sgV s.data.toList) w CU _ _ rfl rfl (by
      rw [hl]
      rcases hi with h | h
      · left; rw [h]; rfl
      · right; rw [h]; exact ⟨rfl, rfl⟩)
    refine this.mono ?_
    rintro e w' ⟨rfl, hb⟩
    refine ⟨?_, hb⟩
    unfold nqV
    rw [← self_str]
  rw [if_neg hi]
  unfold infB at hi
  rw [decide_eq_true_iff] at hi
  have q1 : ((mkS (unS s.data.toList)).toList == [105, 110, 102]) = false := by rw [hl]; exact beq_eq_false_iff_ne.2 (fun e => hi (Or.inl e))
  have q2 : ((mkS (unS s.data.toList)).toList == [110, 97, 110]) = false := by rw [hl]; exact beq_eq_false_iff_ne.2 (fun e => hi (Or.inr e))
  by_cases hp : dPre (unS s.data.toList)
  · rw [if_pos hp]
    exact rn_base s w hs q1 q2 hp
  · rw [if_neg hp]
    exact rn_dec s w hs q1 q2 hp
end Go.Proofs.YtlapefhnbbcmmaaGreatDoor
