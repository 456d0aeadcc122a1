/- tlex.decimalKind: walked. -/
import Derived.Test.YtiaepihdfbahaaaGreatDoorATlF
namespace Go.Proofs.YtiaepihdfbahaaaGreatDoor
open Go.RowKit

theorem tp1 (l : List UInt8) (c : UInt8) : Lib.trimPrefix l [c] = if bt l 0 = c.toNat then l.drop 1 else l := by
  unfold Lib.trimPrefix; rw [hp1]
  by_cases h : bt l 0 = c.toNat
  · rw [decide_eq_true h, if_pos rfl, if_pos h]; rfl
  · rw [decide_eq_false h, if_neg (by decide), if_neg h]
theorem tcutp_any (s : ByteArray) (c : UInt8) (w : World) :
    Calls Tryz.prog 125 #[.string s, .string ⟨#[c]⟩] w fun e w' => e = .returned (.tuple #[.string (mkS (if bt s.data.toList 0 = c.toNat then s.data.toList.drop 1 else s.data.toList)), .bool (decide (bt s.data.toList 0 = c.toNat))]) ∧ w' = w := by
  have := Tryz.strings_CutPrefix s ⟨#[c]⟩ w
  rw [show (⟨#[c]⟩ : ByteArray).data.toList = [c] from rfl, tp1, hp1] at this
  exact this
theorem bt_take {l : List UInt8} {n k : Nat} (h : k < n) : bt (l.take n) k = bt l k := by
  unfold bt; rw [List.getElem?_take]; simp [h]
set_option maxRecDepth 100000 in
set_option maxHeartbeats 4000000 in
theorem tkind_any (s : ByteArray) (w : World) (hs : s.size ≤ 1000000) :
    Calls Tryz.prog 100 #[.string s] w fun e w' => e = .returned (.int .i64 (kdN s.data.toList : Nat)) ∧ Below w.heap.size w w' := by
  have CC := hid (fun X => tcut_ten s X hs)
  have hcl := cdN_le (dgB 10) false s.data.toList
  have HR : Hid (kdN s.data.toList = if cdN (dgB 10) false s.data.toList = 0 ∨ (1 < cdN (dgB 10) false s.data.toList ∧ bt s.data.toList 0 = 48) then 0
    else if s.data.toList.drop (cdN (dgB 10) false s.data.toList) = [] then 2
    else if kdF (s.data.toList.drop (cdN (dgB 10) false s.data.toList)) = true then 0
    else if kdR (s.data.toList.drop (cdN (dgB 10) false s.data.toList)) ≠ [] ∧ pwB (kdR (s.data.toList.drop (cdN (dgB 10) false s.data.toList))) = false then 0 else 3) := rfl
  obtain ⟨R, hR⟩ : ∃ R, kdN s.data.toList = R := ⟨_, rfl⟩
  rw [hR] at HR ⊢
  clear hR
  generalize cdN (dgB 10) false s.data.toList = n at *
  have hx1 : (mkS (s.data.toList.take n)).size = n := by rw [mkS_size, List.length_take]; omega
  have hx2 := mkS_empty (s.data.toList.take n)
  rw [take_nil hcl] at hx2
  have hx3 : Hid (∀ h : 0 < (mkS (s.data.toList.take n)).size, (mkS (s.data.toList.take n))[0].toNat = bt s.data.toList 0) := fun h => by
    rw [← bt_at _ 0 h, mkS_list, bt_take (by omega)]
  have hrl : (s.data.toList.drop n).length ≤ 1000000 := by rw [List.length_drop, size_list]; omega
  generalize mkS (s.data.toList.take n) = x at *
  generalize s.data.toList.drop n = r at *
  generalize bt s.data.toList 0 = b0 at *
  have CP := hid (fun X => tcutp_any (mkS r) 46 X)
  rw [mkS_list, show (46 : UInt8).toNat = 46 from rfl] at CP
  have hr2 := mkS_empty r
  have CW := hid (fun X (h : 0 < (mkS r).size) => tpower_any (mkS r) X (by rw [mkS_size]; exact hrl) h)
  rw [mkS_list] at CW
  have CF := hid (fun X => tcut_ten (mkS (r.drop 1)) X (by rw [mkS_size, List.length_drop]; omega))
  rw [mkS_list] at CF
  have HX := hid hx1
  have hnx : n ≤ x.size := by omega
  have hnx2 : x.size ≤ n := by omega
  clear hx1
  by_cases h1 : n = 0
  · have e1 : x.toList.isEmpty = true := by rw [hx2, decide_eq_true h1]
    rw [if_pos (Or.inl h1)] at HR
    clear hx2 h1 HX hx3
    go_enter Tryz.func100, Tryz.ntmps100
    go_wp2_with (go_at_call 126; go_must (refine (CC.out _).mono ?_; rintro e w1 ⟨rfl, hb1⟩))
    go_ret
    exact ⟨ret_int (by rw [HR.out]; rfl), hb1⟩
  · have e1 : x.toList.isEmpty = false := by rw [hx2, decide_eq_false h1]
    have h0 : 0 < x.size := by omega
    have x0 := hx3.out h0
    have hb0 := x[0].toNat_lt
    have hlt2 : 0 < x.size := h0
    clear hx2 hx3 HX
    by_cases h2 : 1 < n ∧ b0 = 48
    · have g : ((x[0].toNat : Int) == 48) = true := by rw [beq_iff_eq]; omega
      have g1 : 1 < x.size := by omega
      rw [if_pos (Or.inr h2)] at HR
      clear h2 x0 h1
      go_enter Tryz.func100, Tryz.ntmps100
      go_wp2_with (go_at_call 126; go_must (refine (CC.out _).mono ?_; rintro e w1 ⟨rfl, hb1⟩))
      go_ret
      exact ⟨ret_int (by rw [HR.out]; rfl), hb1⟩
    · rw [if_neg (by rintro (k | k); exact h1 k; exact h2 k)] at HR
      have HG : Hid (1 < x.size → ((x[0].toNat : Int) == 48) = false) := fun h => by rw [beq_eq_false_iff_ne]; intro k; exact h2 ⟨by omega, by omega⟩
      have hry : (mkS r).size = r.length := mkS_size r
      clear h2 x0 h1
      by_cases h3 : r = []
      · have e2 : (mkS r).toList.isEmpty = true := by rw [hr2, decide_eq_true h3]
        rw [if_pos h3] at HR
        clear hr2 h3 hry CP CW
        generalize mkS r = y at *
        rcases Nat.lt_or_ge 1 x.size with h11 | h11
        all_goals
          try have g := HG.out h11
          clear HG
          go_enter Tryz.func100, Tryz.ntmps100
          go_wp2_with (go_at_call 126; go_must (refine (CC.out _).mono ?_; rintro e w1 ⟨rfl, hb1⟩))
          go_ret
          exact ⟨ret_int (by rw [HR.out]; rfl), hb1⟩
      · have e2 : (mkS r).toList.isEmpty = false := by rw [hr2, decide_eq_false h3]
        have h0r : 0 < (mkS r).size := by rw [hry]; exact List.length_pos_iff.2 h3
        rw [if_neg h3] at HR
        by_cases hd : bt r 0 = 46
        · rw [if_pos hd, decide_eq_true hd] at CP
          have hKF : kdF r = decide (cdN (dgB 10) false (r.drop 1) = 0) := by unfold kdF; simp [hd]
          have hKR : kdR r = (r.drop 1).drop (cdN (dgB 10) false (r.drop 1)) := by unfold kdR; rw [if_pos hd]
          rw [hKF, hKR] at HR
          have hfl := cdN_le (dgB 10) false (r.drop 1)
          have hdl : (r.drop 1).length ≤ 1000000 := by rw [List.length_drop]; omega
          clear hKF hKR CW hr2
          generalize r.drop 1 = f at *
          generalize cdN (dgB 10) false f = m at *
          have ef := mkS_empty (f.take m)
          rw [take_nil hfl] at ef
          have hml : (f.drop m).length ≤ 1000000 := by rw [List.length_drop]; omega
          generalize mkS (f.take m) = fx at *
          have CW := hid (fun X (h : 0 < (mkS (f.drop m)).size) => tpower_any (mkS (f.drop m)) X (by rw [mkS_size]; exact hml) h)
          rw [mkS_list] at CW
          have em := mkS_empty (f.drop m)
          have hmy : (mkS (f.drop m)).size = (f.drop m).length := mkS_size _
          generalize mkS f = fb at *
          generalize f.drop m = g2 at *
          generalize mkS r = y at *
          by_cases hm0 : m = 0
          · have ef2 : fx.toList.isEmpty = true := by rw [ef, decide_eq_true hm0]
            rw [if_pos (decide_eq_true hm0)] at HR
            clear ef hm0 hd CW em hmy
            rcases Nat.lt_or_ge 1 x.size with h11 | h11
            all_goals
              try have g := HG.out h11
              clear HG
              go_enter Tryz.func100, Tryz.ntmps100
              go_wp2_with (first
                | (go_at_call 126; go_must (first | ((with_reducible refine (CC.out _).mono ?_); rintro e w1 ⟨rfl, hb1⟩) | ((with_reducible refine (CF.out _).mono ?_); rintro e w2 ⟨rfl, hb2⟩)))
                | (go_at_call 125; go_must (refine (CP.out _).mono ?_; rintro e w1 ⟨rfl, hw⟩; obtain rfl := hw.symm)))
              go_ret
              exact ⟨ret_int (by rw [HR.out]; rfl), eonto hb1 hb2⟩
          · have ef2 : fx.toList.isEmpty = false := by rw [ef, decide_eq_false hm0]
            rw [if_neg (by rw [decide_eq_false hm0]; decide)] at HR
            clear ef hm0 hd
            by_cases hg2 : g2 = []
            · have em2 : (mkS g2).toList.isEmpty = true := by rw [em, decide_eq_true hg2]
              rw [if_neg (fun k => k.1 hg2)] at HR
              clear em hg2 CW hmy
              generalize mkS g2 = yy at *
              rcases Nat.lt_or_ge 1 x.size with h11 | h11
              all_goals
                try have g := HG.out h11
                clear HG
                go_enter Tryz.func100, Tryz.ntmps100
                go_wp2_with (first
                  | (go_at_call 126; go_must (first | ((with_reducible refine (CC.out _).mono ?_); rintro e w1 ⟨rfl, hb1⟩) | ((with_reducible refine (CF.out _).mono ?_); rintro e w2 ⟨rfl, hb2⟩)))
                  | (go_at_call 125; go_must (refine (CP.out _).mono ?_; rintro e w1 ⟨rfl, hw⟩; obtain rfl := hw.symm)))
                go_ret
                exact ⟨ret_int (by rw [HR.out]; rfl), eonto hb1 hb2⟩
            · have em2 : (mkS g2).toList.isEmpty = false := by rw [em, decide_eq_false hg2]
              have CW2 := hid (fun X => CW.out X (by rw [hmy]; exact List.length_pos_iff.2 hg2))
              clear em CW hmy
              generalize mkS g2 = yy at *
              cases hpw : pwB g2 with
              | true =>
                rw [if_neg (fun k => by rw [hpw] at k; exact absurd k.2 (by decide))] at HR
                rw [hpw] at CW2
                clear hpw hg2
                rcases Nat.lt_or_ge 1 x.size with h11 | h11
                all_goals
                  try have g := HG.out h11
                  clear HG
                  go_enter Tryz.func100, Tryz.ntmps100
                  go_wp2_with (first
                    | (go_at_call 126; go_must (first | ((with_reducible refine (CC.out _).mono ?_); rintro e w1 ⟨rfl, hb1⟩) | ((with_reducible refine (CF.out _).mono ?_); rintro e w2 ⟨rfl, hb2⟩)))
                    | (go_at_call 125; go_must (refine (CP.out _).mono ?_; rintro e w1 ⟨rfl, hw⟩; obtain rfl := hw.symm))
                    | (go_at_call 130; go_must (refine (CW2.out _).mono ?_; rintro e w3 ⟨rfl, hb3⟩)))
                  go_ret
                  exact ⟨ret_int (by rw [HR.out]; rfl), eonto (eonto hb1 hb2) hb3⟩
              | false =>
                rw [if_pos ⟨hg2, hpw⟩] at HR
                rw [hpw] at CW2
                clear hpw hg2
                rcases Nat.lt_or_ge 1 x.size with h11 | h11
                all_goals
                  try have g := HG.out h11
                  clear HG
                  go_enter Tryz.func100, Tryz.ntmps100
                  go_wp2_with (first
                    | (go_at_call 126; go_must (first | ((with_reducible refine (CC.out _).mono ?_); rintro e w1 ⟨rfl, hb1⟩) | ((with_reducible refine (CF.out _).mono ?_); rintro e w2 ⟨rfl, hb2⟩)))
                    | (go_at_call 125; go_must (refine (CP.out _).mono ?_; rintro e w1 ⟨rfl, hw⟩; obtain rfl := hw.symm))
                    | (go_at_call 130; go_must (refine (CW2.out _).mono ?_; rintro e w3 ⟨rfl, hb3⟩)))
                  go_ret
                  exact ⟨ret_int (by rw [HR.out]; rfl), eonto (eonto hb1 hb2) hb3⟩
        · rw [if_neg hd, decide_eq_false hd] at CP
          have hKF : kdF r = false := by unfold kdF; simp [hd]
          have hKR : kdR r = r := by unfold kdR; rw [if_neg hd]
          rw [hKF, hKR, if_neg (by decide)] at HR
          have CW2 := hid (fun X => CW.out X h0r)
          clear hKF hKR CF hr2 hd CW hry
          generalize mkS r = y at *
          cases hpw : pwB r with
          | true =>
            rw [if_neg (fun k => by rw [hpw] at k; exact absurd k.2 (by decide))] at HR
            rw [hpw] at CW2
            clear hpw h3
            rcases Nat.lt_or_ge 1 x.size with h11 | h11
            all_goals
              try have g := HG.out h11
              clear HG
              go_enter Tryz.func100, Tryz.ntmps100
              go_wp2_with (first
                | (go_at_call 126; go_must (refine (CC.out _).mono ?_; rintro e w1 ⟨rfl, hb1⟩))
                | (go_at_call 125; go_must (refine (CP.out _).mono ?_; rintro e w1 ⟨rfl, hw⟩; obtain rfl := hw.symm))
                | (go_at_call 130; go_must (refine (CW2.out _).mono ?_; rintro e w3 ⟨rfl, hb3⟩)))
              go_ret
              exact ⟨ret_int (by rw [HR.out]; rfl), eonto hb1 hb3⟩
          | false =>
            rw [if_pos ⟨h3, hpw⟩] at HR
            rw [hpw] at CW2
            clear hpw h3
            rcases Nat.lt_or_ge 1 x.size with h11 | h11
            all_goals
              try have g := HG.out h11
              clear HG
              go_enter Tryz.func100, Tryz.ntmps100
              go_wp2_with (first
                | (go_at_call 126; go_must (refine (CC.out _).mono ?_; rintro e w1 ⟨rfl, hb1⟩))
                | (go_at_call 125; go_must (refine (CP.out _).mono ?_; rintro e w1 ⟨rfl, hw⟩; obtain rfl := hw.symm))
                | (go_at_call 130; go_must (refine (CW2.out _).mono ?_; rintro e w3 ⟨rfl, hb3⟩)))
              go_ret
              exact ⟨ret_int (by rw [HR.out]; rfl), eonto hb1 hb3⟩
end Go.Proofs.YtiaepihdfbahaaaGreatDoor
