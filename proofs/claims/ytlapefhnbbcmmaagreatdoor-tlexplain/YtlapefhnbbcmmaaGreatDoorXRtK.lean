/- The document's reading of numbers: split, unsigned. Walked. -/
import Derived.Test.YtlapefhnbbcmmaaGreatDoorXRtH
import Derived.Test.YtlapefhnbbcmmaaGreatDoorXTlK
/- The document's reading of numbers: based. Walked. -/
/- The document's Number, walked: each way by itself. -/
namespace Go.Proofs.YtlapefhnbbcmmaaGreatDoor
open Go.RowKit

/-- none of some bytes -/
def nof (O : List UInt8) (b : UInt8) : Bool := O.all fun c => decide (b.toNat ≠ c.toNat)
theorem nof_from (O : ByteArray) (j : Nat) (h : j < O.size) (b : UInt8) : nof (O.data.toList.drop j) b = (decide (b.toNat ≠ O[j].toNat) && nof (O.data.toList.drop (j + 1)) b) := by
  rw [rdrop_at O j h]; rfl
set_option maxRecDepth 100000 in
set_option maxHeartbeats 4000000 in
theorem rsplit_any (s O : ByteArray) (w : World) (hs : s.size ≤ 1000000) (hO : O.size ≤ 1000000) (n : Nat) (hn : run (nof O.data.toList) s.data.toList = n) :
    Calls Tryz.prog 39 #[.string s, .string O] w fun e w' => e = .returned (if n < s.size then .tuple #[.string (s.extract 0 n), .string (s.extract (n + 1) s.size), .bool true] else .tuple #[.string s, .string ⟨#[]⟩, .bool false]) ∧ Below w.heap.size w w' := by
  have HRS := hid (fun i (h : i < s.size) => run_step (p := nof O.data.toList) s i h)
  have HNF := hid (fun j (h : j < O.size) b => nof_from O j h b)
  have hRN : run (nof O.data.toList) (s.data.toList.drop s.size) = 0 := by rw [List.drop_eq_nil_of_le (by rw [size_list]; exact Nat.le_refl _)]; rfl
  have HRN := hid hRN
  have HN0 : Hid (∀ b, nof (O.data.toList.drop O.size) b = true) := hid (fun b => by rw [List.drop_eq_nil_of_le (by rw [size_list]; exact Nat.le_refl _)]; rfl)
  have HN := hid hn
  clear hRN hn
  obtain ⟨Q, hQ⟩ : ∃ Q, (if n < s.size then Value.tuple #[.string (s.extract 0 n), .string (s.extract (n + 1) s.size), .bool true] else .tuple #[.string s, .string ⟨#[]⟩, .bool false]) = Q := ⟨_, rfl⟩
  rw [hQ]
  have HQ1 : Hid (n < s.size → Q = .tuple #[.string (s.extract 0 n), .string (s.extract (n + 1) s.size), .bool true]) := hid (fun h => by rw [← hQ, if_pos h])
  have HQ0 : Hid (n = s.size → Q = .tuple #[.string s, .string ⟨#[]⟩, .bool false]) := hid (fun h => by rw [← hQ, if_neg (by omega)])
  clear hQ
  go_enter Tryz.func39, Tryz.ntmps39
  go_wp2_with fail
  go_loopg [7, 8] s.size (fun gk i _ wr => ∃ k : Nat, k ≤ s.size ∧ s.size ≤ k + gk ∧ i = .int .i64 (k : Int) ∧ Hid (n = k + run (nof O.data.toList) (s.data.toList.drop k)) ∧ Hid (Below w.heap.size w wr))
  case atStart => exact ⟨0, Nat.zero_le _, by omega, rfl, hid (by rw [← HN.out]; simp), hid (Below.refl _ _)⟩
  case round =>
    obtain ⟨k, hk, hgk, rfl, HK, HBk⟩ := hrel
    clear HN
    by_cases hlt : k < s.size
    · have hltz : (k : Int) < (s.size : Int) := by omega
      have HST := hid (HRS.out k hlt)
      generalize wr = wo at *
      generalize gk = G at *
      obtain ⟨G', rfl⟩ : ∃ G', G = G' + 1 := ⟨G - 1, by omega⟩
      go_wp2_with fail
      go_loopg [8] O.size (fun gk i wr => ∃ j : Nat, j ≤ O.size ∧ O.size ≤ j + gk ∧ i = .int .i64 (j : Int) ∧ Hid (nof O.data.toList s[k] = nof (O.data.toList.drop j) s[k]) ∧ Hid (Below w.heap.size w wr))
      case atStart => exact ⟨0, Nat.zero_le _, by omega, rfl, hid (by simp), HBk⟩
      case round =>
        obtain ⟨j, hj, hgj, rfl, HJ, HBj⟩ := hrel
        by_cases hjt : j < O.size
        · have hjtz : (j : Int) < (O.size : Int) := by omega
          obtain ⟨g', rfl⟩ : ∃ g', gk = g' + 1 := ⟨gk - 1, by omega⟩
          have hnf := HNF.out j hjt s[k]
          by_cases he : s[k].toNat = O[j].toNat
          · have q : ((s[k].toNat : Int) == (O[j].toNat : Int)) = true := by rw [he, beq_iff_eq]
            have hno : nof O.data.toList s[k] = false := by rw [HJ.out, hnf, decide_eq_false (fun h => h he)]; rfl
            have hnk : n = k := by rw [HK.out, HST.out, hno]; rfl
            have hQ9 := HQ1.out (by omega)
            rw [hnk] at hQ9
            have HQ := hid hQ9
            clear hnf he hno hQ9 hnk
            go_wp2_with fail
            go_quiet (fail)
            have HB5 := hid (eonto HBj.out (tdrew_below wr nq))
            generalize wr.drewN nq = w5 at HB5 ⊢
            go_wp2_with fail
            go_quiet (fail)
            have HB6 := hid (eonto HB5.out (tdrew_below w5 nq))
            generalize w5.drewN nq = w6 at HB6 ⊢
            go_wp2_with fail
            go_ret3
            exact ⟨by rw [HQ.out]; rfl, HB6.out⟩
          · have q : ((s[k].toNat : Int) == (O[j].toNat : Int)) = false := by rw [beq_eq_false_iff_ne]; omega
            rw [decide_eq_true he, Bool.true_and] at hnf
            have HNX := hid hnf
            clear hnf he
            go_wp2_with fail
            go_quiet (fail)
            have HB5 := hid (eonto HBj.out (tdrew_below wr nq))
            generalize wr.drewN nq = w5 at HB5 ⊢
            go_wp2_with fail
            go_roundg g'
            case measure => omega
            case rel => exact ⟨j + 1, hjt, by omega, by go_num, hid (by rw [HJ.out]; exact HNX.out), HB5⟩
        · have hjtz : ¬ (j : Int) < (O.size : Int) := by omega
          obtain rfl : j = O.size := by omega
          have hno : nof O.data.toList s[k] = true := by rw [HJ.out]; exact HN0.out _
          have HX := hid (show n = k + 1 + run (nof O.data.toList) (s.data.toList.drop (k + 1)) by rw [HK.out, HST.out, if_pos hno]; omega)
          clear hno HJ
          go_wp2_with fail
          go_roundg G'
          case measure => omega
          case rel => exact ⟨k + 1, hlt, by omega, by go_num, hid HX.out, HBj⟩
    · have hltz : ¬ (k : Int) < (s.size : Int) := by omega
      obtain rfl : k = s.size := by omega
      have HX := hid (HQ0.out (by rw [HK.out, HRN.out]; rfl))
      clear hlt
      go_wp2_with fail
      go_ret3
      exact ⟨by rw [HX.out]; rfl, HBk.out⟩
set_option maxRecDepth 100000 in
set_option maxHeartbeats 4000000 in
theorem runsigned_any (s : ByteArray) (w : World) (hs : s.size ≤ 1000000) :
    Calls Tryz.prog 36 #[.string s] w fun e w' => e = .returned (if sgA s.data.toList = true then .tuple #[.string (s.extract 1 s.size), .int .u8 ((bt s.data.toList 0 : Nat) : Int)] else .tuple #[.string s, .int .u8 0]) ∧ Below w.heap.size w w' := by
  by_cases h0 : s.size = 0
  · have hT : s.data.toList = [] := List.length_eq_zero_iff.1 (by rw [size_list]; exact h0)
    have hsl : s.toList = [] := by rw [Lib.toList_data, hT]
    have e3 : s.toList.isEmpty = true := by rw [hsl]; rfl
    rw [hT, if_neg (by decide)]
    go_enter Tryz.func36, Tryz.ntmps36
    go_wp2_with fail
    go_ret2
    exact ⟨rfl, Below.refl _ _⟩
  · have hp : 0 < s.size := by omega
    have hp1 : (1 : Int) ≤ (s.size : Int) := by omega
    have hsl : s.toList ≠ [] := by
      intro e
      rw [Lib.toList_data] at e
      have := size_list s
      rw [e] at this
      exact h0 this.symm
    have e3 : s.toList.isEmpty = false := by rw [List.isEmpty_eq_false_iff]; exact hsl
    have hb := bt_at s 0 hp
    have hsg : sgA s.data.toList = decide (s[0].toNat = 43 ∨ s[0].toNat = 45) := by unfold sgA; rw [hb]
    rw [hsg, hb]
    have hcase : s[0].toNat = 43 ∨ (¬ s[0].toNat = 43 ∧ s[0].toNat = 45) ∨ (¬ s[0].toNat = 43 ∧ ¬ s[0].toNat = 45) := by omega
    clear hb hsg
    rcases hcase with h1 | ⟨h1, h2⟩ | ⟨h1, h2⟩
    · rw [if_pos (by rw [h1]; rfl)]
      have q1 : ((s[0].toNat : Int) == 43) = true := by rw [h1]; rfl
      clear h1
      go_enter Tryz.func36, Tryz.ntmps36
      go_wp2_with fail
      go_quiet (fail)
      have HB5 := hid (tdrew_below w nq)
      generalize w.drewN nq = w5 at HB5 ⊢
      go_wp2_with fail
      go_ret2
      exact ⟨rfl, HB5.out⟩
    · rw [if_pos (decide_eq_true (Or.inr h2))]
      have q1 : ((s[0].toNat : Int) == 43) = false := by rw [beq_eq_false_iff_ne]; omega
      have q2 : ((s[0].toNat : Int) == 45) = true := by rw [h2]; rfl
      clear h1 h2
      go_enter Tryz.func36, Tryz.ntmps36
      go_wp2_with fail
      go_quiet (fail)
      have HB5 := hid (tdrew_below w nq)
      generalize w.drewN nq = w5 at HB5 ⊢
      go_wp2_with fail
      go_ret2
      exact ⟨rfl, HB5.out⟩
    · rw [if_neg (by rw [decide_eq_false (by omega)]; decide)]
      have q1 : ((s[0].toNat : Int) == 43) = false := by rw [beq_eq_false_iff_ne]; omega
      have q2 : ((s[0].toNat : Int) == 45) = false := by rw [beq_eq_false_iff_ne]; omega
      clear h1 h2
      go_enter Tryz.func36, Tryz.ntmps36
      go_wp2_with fail
      go_ret2
      exact ⟨rfl, Below.refl _ _⟩
end Go.Proofs.YtlapefhnbbcmmaaGreatDoor
namespace Go.Proofs.YtlapefhnbbcmmaaGreatDoor
open Go.RowKit

theorem pv_mono {base : Nat} (hb : 1 ≤ base) : ∀ (l : List UInt8) (v : Nat), v ≤ l.foldl (fun v b => base * v + hxV b) v
  | [], v => Nat.le_refl _
  | b :: l, v => by
    rw [List.foldl_cons]
    refine Nat.le_trans ?_ (pv_mono hb l _)
    exact Nat.le_trans (Nat.le_mul_of_pos_left v hb) (Nat.le_add_right _ _)
/-- what based answers -/
def bsD (base : Nat) (l : List UInt8) : Value := if pvB base l < 9223372036854775808 then .tuple #[.int .i64 (pvB base l : Int), .bool true] else .tuple #[.int .i64 0, .bool false]
set_option maxRecDepth 100000 in
set_option maxHeartbeats 4000000 in
theorem rbased_any (d : ByteArray) (base : Nat) (w : World) (hd : d.size ≤ 1000000) (h1 : 2 ≤ base) (h2 : base ≤ 16) (hall : ∀ b ∈ d.data.toList, hxI b = true) :
    Calls Tryz.prog 38 #[.string d, .int .i64 (base : Int)] w fun e w' => e = .returned (bsD base d.data.toList) ∧ w' = w := by
  obtain ⟨T, hT⟩ : ∃ T, d.data.toList = T := ⟨_, rfl⟩
  have hTl : T.length = d.size := by rw [← hT, size_list]
  have HH : Hid (∀ i (h : i < d.size) X, Calls Tryz.prog 73 #[.string (d.extract i (i + 1))] X fun e w' => e = .returned (.tuple #[.int .i64 (hxV d[i] : Int), .bool true]) ∧ w' = X) := hid (fun i h X => by
    have := rhex1 d i h X
    have hi : hxI d[i] = true := hall _ (by rw [← Array.mem_def]; exact Array.getElem_mem h)
    rw [hi, if_pos rfl] at this
    exact this)
  have HV16 : Hid (∀ i (h : i < d.size), hxV d[i] < 16) := hid (fun i h => hxV_lt (hall _ (by rw [← Array.mem_def]; exact Array.getElem_mem h)))
  have HRD := hid (fun i (h : i < d.size) => rdrop_at d i h)
  rw [hT] at HRD ⊢
  obtain ⟨P, hP⟩ : ∃ P, pvB base T = P := ⟨_, rfl⟩
  obtain ⟨Q, hQ⟩ : ∃ Q, bsD base T = Q := ⟨_, rfl⟩
  rw [hQ]
  have HQ1 : Hid (P < 9223372036854775808 → Q = .tuple #[.int .i64 (P : Int), .bool true]) := hid (fun h => by rw [← hQ, bsD, hP, if_pos h])
  have HQ0 : Hid (9223372036854775808 ≤ P → Q = .tuple #[.int .i64 0, .bool false]) := hid (fun h => by rw [← hQ, bsD, hP, if_neg (by omega)])
  have HP0 : Hid (P = T.foldl (fun v b => base * v + hxV b) 0) := hid hP.symm
  clear hQ hP hall hT
  go_enter Tryz.func38, Tryz.ntmps38
  go_wp2_with fail
  go_loop [6, 7, 8, 9] (fun v i _ _ => ∃ (k V : Nat), k ≤ d.size ∧ V < 9223372036854775808 ∧ i = .int .i64 (k : Int) ∧ v = .int .i64 (V : Int) ∧ Hid (P = (T.drop k).foldl (fun v b => base * v + hxV b) V)) (fun _ i _ _ => d.size - (intOf i).toNat)
  case atStart => exact ⟨0, 0, Nat.zero_le _, by omega, rfl, rfl, hid HP0.out⟩
  case round =>
    obtain ⟨k, V, hk, hV, rfl, rfl, HP⟩ := hrel
    clear HP0
    by_cases hlt : k < d.size
    · have hltz : (k : Int) < (d.size : Int) := by omega
      rw [HRD.out k hlt, List.foldl_cons] at HP
      have C := hid (fun X => HH.out k hlt X)
      have hx := HV16.out k hlt
      obtain ⟨x, hxx⟩ : ∃ x, hxV d[k] = x := ⟨_, rfl⟩
      rw [hxx] at C HP hx
      clear hxx
      have hw1 : IntKind.i64.wrap (9223372036854775807 - (x : Int)) = 9223372036854775807 - (x : Int) := by rw [IntKind.wrap_i64]; omega
      have hq9 : (9223372036854775807 - (x : Int)).tdiv (base : Int) = (((9223372036854775807 - x) / base : Nat) : Int) := by
        rw [show (9223372036854775807 - (x : Int)) = ((9223372036854775807 - x : Nat) : Int) by omega]; exact (Int.ofNat_tdiv _ _).symm
      have hbz : ((base : Int) == 0) = false := by rw [beq_eq_false_iff_ne]; omega
      obtain ⟨q, hq⟩ : ∃ q, (9223372036854775807 - x) / base = q := ⟨_, rfl⟩
      rw [hq] at hq9
      have hqw : IntKind.i64.wrap ((q : Nat) : Int) = (q : Int) := by
        have : q ≤ 9223372036854775807 - x := by rw [← hq]; exact Nat.div_le_self _ _
        rw [IntKind.wrap_i64]; omega
      by_cases hov : q < V
      · have hovz : (q : Int) < (V : Int) := by omega
        have HX := hid (HQ0.out (by
          rw [HP.out]
          refine Nat.le_trans ?_ (pv_mono (by omega) _ _)
          have h3 := (Nat.div_lt_iff_lt_mul (show 0 < base by omega)).1 (show (9223372036854775807 - x) / base < V by rw [hq]; exact hov)
          rw [Nat.mul_comm] at h3
          omega))
        clear hov hq
        go_wp2_with (go_at_call 73; go_must (refine (C.out _).mono ?_; rintro e w1 ⟨rfl, hw1⟩; obtain rfl := hw1.symm))
        go_ret2
        exact ⟨by rw [HX.out]; rfl, rfl⟩
      · have hovz : ¬ (q : Int) < (V : Int) := by omega
        have hnv : base * V + x < 9223372036854775808 := by
          have h3 := (Nat.le_div_iff_mul_le (show 0 < base by omega)).1 (show V ≤ (9223372036854775807 - x) / base by rw [hq]; omega)
          rw [Nat.mul_comm] at h3
          omega
        have hbV : ((base * V : Nat) : Int) = (base : Int) * (V : Int) := Int.natCast_mul _ _
        obtain ⟨B, hB⟩ : ∃ B, base * V = B := ⟨_, rfl⟩
        rw [hB] at hbV hnv HP
        have hm1 : IntKind.i64.wrap ((base : Int) * (V : Int)) = (B : Int) := by rw [← hbV, IntKind.wrap_i64]; omega
        have hm2 : IntKind.i64.wrap ((B : Int) + (x : Int)) = ((B + x : Nat) : Int) := by rw [IntKind.wrap_i64]; omega
        clear hov hq hB
        go_wp2_with (go_at_call 73; go_must (refine (C.out _).mono ?_; rintro e w1 ⟨rfl, hw1⟩; obtain rfl := hw1.symm))
        go_round
        case rel => exact ⟨k + 1, B + x, hlt, hnv, by go_num, by rw [Int.natCast_add, hbV], hid HP.out⟩
        case measure => simp [intOf]; omega
    · have hltz : ¬ (k : Int) < (d.size : Int) := by omega
      obtain rfl : k = d.size := by omega
      have hPV : P = V := by rw [HP.out, List.drop_eq_nil_of_le (by omega)]; rfl
      have HX := hid (HQ1.out (by omega))
      subst hPV
      clear hlt
      go_wp2_with fail
      go_ret2
      exact ⟨by rw [HX.out]; rfl, rfl⟩
end Go.Proofs.YtlapefhnbbcmmaaGreatDoor
namespace Go.Proofs.YtlapefhnbbcmmaaGreatDoor
open Go.RowKit

set_option maxRecDepth 100000 in
set_option maxHeartbeats 4000000 in
theorem rnA (s b : ByteArray) (sv : Int) (w : World) (CU : Hid (∀ X, Calls Tryz.prog 36 #[.string s] X fun e w' => e = .returned (.tuple #[.string b, .int .u8 sv]) ∧ Below X.heap.size X w'))
    (d1 d2 : Bool) (q1 : (b.toList == [105, 110, 102]) = d1) (q2 : (b.toList == [110, 97, 110]) = d2) (hd : d1 = true ∨ (d1 = false ∧ d2 = true)) :
    Calls Tryz.prog 11 #[.string s] w fun e w' => e = .returned (.tuple #[.agg #[.int .i64 7, .int .i64 0, .string s, nilS, nilS], .int .i64 0]) ∧ Below w.heap.size w w' := by
  rcases hd with rfl | ⟨rfl, rfl⟩
  all_goals
    go_enter Tryz.func11, Tryz.ntmps11
    go_wp2_with fail
    go_at_call 36
    refine (CU.out _).mono ?_
    rintro e w2 ⟨rfl, hb2⟩
    have R0 := hid (box_row hb2)
    have HB2 := hid (vonto (valloc_bel (Below.refl w.heap.size w) _) hb2)
    clear hb2
    obtain ⟨u0, e0⟩ := R0.out.cell (o := 0) (by decide)
    obtain ⟨u1, e1⟩ := R0.out.cell (o := 1) (by decide)
    obtain ⟨u2, e2⟩ := R0.out.cell (o := 2) (by decide)
    obtain ⟨u3, e3⟩ := R0.out.cell (o := 3) (by decide)
    obtain ⟨u4, e4⟩ := R0.out.cell (o := 4) (by decide)
    have z0 := R0.out.frozen
    go_wp2_with fail
    refine bodyPost_ret (v := .tuple #[.agg #[.int .i64 7, .int .i64 0, .string s, nilS, nilS], .int .i64 0]) (by simp [results, Tryz.results11, go_sem, e0, e1, e2, e3, e4]) rfl ⟨rfl, ?_⟩
    repeat (first | exact HB2.out | (refine vset_bel ?_ (by simp)))
end Go.Proofs.YtlapefhnbbcmmaaGreatDoor
