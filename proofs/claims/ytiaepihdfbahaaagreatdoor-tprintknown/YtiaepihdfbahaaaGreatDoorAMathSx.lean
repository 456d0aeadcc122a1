/- The document's reading of numbers: split, unsigned. Walked. -/
import Derived.Test.YtiaepihdfbahaaaGreatDoorARtH
import Derived.Test.YtiaepihdfbahaaaGreatDoorAEscRQ2
import Derived.Test.YtiaepihdfbahaaaGreatDoorATpA
import Derived.Test.YtiaepihdfbahaaaGreatDoorARtF
/- The document's writer of TOML: a key; stamps and numbers that TOML has. -/
/- Days and times written in digits: plain mathematics. -/
namespace Go.Proofs.YtiaepihdfbahaaaGreatDoor
open Go.RowKit

/-- none of some bytes -/
def nof (O : List UInt8) (b : UInt8) : Bool := O.all fun c => decide (b.toNat ≠ c.toNat)
theorem nof_from (O : ByteArray) (j : Nat) (h : j < O.size) (b : UInt8) : nof (O.data.toList.drop j) b = (decide (b.toNat ≠ O[j].toNat) && nof (O.data.toList.drop (j + 1)) b) := by
  rw [rdrop_at O j h]; rfl
set_option maxRecDepth 100000 in
set_option maxHeartbeats 4000000 in
theorem rsplit_any (s O : ByteArray) (w : World) (hs : s.size ≤ 1000000) (hO : O.size ≤ 1000000) (n : Nat) (hn : run (nof O.data.toList) s.data.toList = n) :
    Calls Tryz.prog 69 #[.string s, .string O] w fun e w' => e = .returned (if n < s.size then .tuple #[.string (s.extract 0 n), .string (s.extract (n + 1) s.size), .bool true] else .tuple #[.string s, .string ⟨#[]⟩, .bool false]) ∧ Below w.heap.size w w' := by
  have HRS := hid (fun i (h : i < s.size) => run_step (p := nof O.data.toList) s i h)
  have HNF := hid (fun j (h : j < O.size) b => nof_from O j h b)
  have hRN : run (nof O.data.toList) (s.data.toList.drop s.size) = 0 := by rw [List.drop_eq_nil_of_le (by rw [size_list]; exact Nat.le_refl _)]; rfl
  have HRN := hid hRN
  have HN0 : Hid (∀ b, nof (O.data.toList.drop O.size) b = true) := hid (fun b => by rw [List.drop_eq_nil_of_le (by rw [size_list]; exact Nat.le_refl _)]; rfl)
  have HN := hid hn
  clear hRN hn
  obtain ⟨Q, hQ⟩ : ∃ Q, (if n < s.size then Value.tuple #[.string (s.extract 0 n), .string (s.extract (n + 1) s.size), .bool true] else .tuple #[.string s, .string ⟨#[]⟩, .bool false]) = Q := ⟨_, rfl⟩
  rw [hQ]
  have HQ1 : Hid (n < s.size → Q = .tuple #[.string (s.extract 0 n), .string (s.extract (n + 1) s.size), .bool true]) := hid (fun h => by rw [← hQ, if_pos h])
  have HQ0 : Hid (n = s.size → Q = .tuple #[.string s, .string ⟨#[]⟩, .bool false]) := hid (fun h => by rw [← hQ, if_neg (by omega)])
  clear hQ
  go_enter Tryz.func69, Tryz.ntmps69
  go_wp2_with fail
  go_loopg [7, 8] s.size (fun gk i _ wr => ∃ k : Nat, k ≤ s.size ∧ s.size ≤ k + gk ∧ i = .int .i64 (k : Int) ∧ Hid (n = k + run (nof O.data.toList) (s.data.toList.drop k)) ∧ Hid (Below w.heap.size w wr))
  case atStart => exact ⟨0, Nat.zero_le _, by omega, rfl, hid (by rw [← HN.out]; simp), hid (Below.refl _ _)⟩
  case round =>
    obtain ⟨k, hk, hgk, rfl, HK, HBk⟩ := hrel
    clear HN
    by_cases hlt : k < s.size
    · have hltz : (k : Int) < (s.size : Int) := by omega
      have HST := hid (HRS.out k hlt)
      generalize wr = wo at *
      generalize gk = G at *
      obtain ⟨G', rfl⟩ : ∃ G', G = G' + 1 := ⟨G - 1, by omega⟩
      go_wp2_with fail
      go_loopg [8] O.size (fun gk i wr => ∃ j : Nat, j ≤ O.size ∧ O.size ≤ j + gk ∧ i = .int .i64 (j : Int) ∧ Hid (nof O.data.toList s[k] = nof (O.data.toList.drop j) s[k]) ∧ Hid (Below w.heap.size w wr))
      case atStart => exact ⟨0, Nat.zero_le _, by omega, rfl, hid (by simp), HBk⟩
      case round =>
        obtain ⟨j, hj, hgj, rfl, HJ, HBj⟩ := hrel
        by_cases hjt : j < O.size
        · have hjtz : (j : Int) < (O.size : Int) := by omega
          obtain ⟨g', rfl⟩ : ∃ g', gk = g' + 1 := ⟨gk - 1, by omega⟩
          have hnf := HNF.out j hjt s[k]
          by_cases he : s[k].toNat = O[j].toNat
          · have q : ((s[k].toNat : Int) == (O[j].toNat : Int)) = true := by rw [he, beq_iff_eq]
            have hno : nof O.data.toList s[k] = false := by rw [HJ.out, hnf, decide_eq_false (fun h => h he)]; rfl
            have hnk : n = k := by rw [HK.out, HST.out, hno]; rfl
            have hQ9 := HQ1.out (by omega)
            rw [hnk] at hQ9
            have HQ := hid hQ9
            clear hnf he hno hQ9 hnk
            go_wp2_with fail
            go_quiet (fail)
            have HB5 := hid (eonto HBj.out (tdrew_below wr nq))
            generalize wr.drewN nq = w5 at HB5 ⊢
            go_wp2_with fail
            go_quiet (fail)
            have HB6 := hid (eonto HB5.out (tdrew_below w5 nq))
            generalize w5.drewN nq = w6 at HB6 ⊢
            go_wp2_with fail
            go_ret3
            exact ⟨by rw [HQ.out]; rfl, HB6.out⟩
          · have q : ((s[k].toNat : Int) == (O[j].toNat : Int)) = false := by rw [beq_eq_false_iff_ne]; omega
            rw [decide_eq_true he, Bool.true_and] at hnf
            have HNX := hid hnf
            clear hnf he
            go_wp2_with fail
            go_quiet (fail)
            have HB5 := hid (eonto HBj.out (tdrew_below wr nq))
            generalize wr.drewN nq = w5 at HB5 ⊢
            go_wp2_with fail
            go_roundg g'
            case measure => omega
            case rel => exact ⟨j + 1, hjt, by omega, by go_num, hid (by rw [HJ.out]; exact HNX.out), HB5⟩
        · have hjtz : ¬ (j : Int) < (O.size : Int) := by omega
          obtain rfl : j = O.size := by omega
          have hno : nof O.data.toList s[k] = true := by rw [HJ.out]; exact HN0.out _
          have HX := hid (show n = k + 1 + run (nof O.data.toList) (s.data.toList.drop (k + 1)) by rw [HK.out, HST.out, if_pos hno]; omega)
          clear hno HJ
          go_wp2_with fail
          go_roundg G'
          case measure => omega
          case rel => exact ⟨k + 1, hlt, by omega, by go_num, hid HX.out, HBj⟩
    · have hltz : ¬ (k : Int) < (s.size : Int) := by omega
      obtain rfl : k = s.size := by omega
      have HX := hid (HQ0.out (by rw [HK.out, HRN.out]; rfl))
      clear hlt
      go_wp2_with fail
      go_ret3
      exact ⟨by rw [HX.out]; rfl, HBk.out⟩
set_option maxRecDepth 100000 in
set_option maxHeartbeats 4000000 in
theorem runsigned_any (s : ByteArray) (w : World) (hs : s.size ≤ 1000000) :
    Calls Tryz.prog 67 #[.string s] w fun e w' => e = .returned (if sgA s.data.toList = true then .tuple #[.string (s.extract 1 s.size), .int .u8 ((bt s.data.toList 0 : Nat) : Int)] else .tuple #[.string s, .int .u8 0]) ∧ Below w.heap.size w w' := by
  by_cases h0 : s.size = 0
  · have hT : s.data.toList = [] := List.length_eq_zero_iff.1 (by rw [size_list]; exact h0)
    have hsl : s.toList = [] := by rw [Lib.toList_data, hT]
    have e3 : s.toList.isEmpty = true := by rw [hsl]; rfl
    rw [hT, if_neg (by decide)]
    go_enter Tryz.func67, Tryz.ntmps67
    go_wp2_with fail
    go_ret2
    exact ⟨rfl, Below.refl _ _⟩
  · have hp : 0 < s.size := by omega
    have hp1 : (1 : Int) ≤ (s.size : Int) := by omega
    have hsl : s.toList ≠ [] := by
      intro e
      rw [Lib.toList_data] at e
      have := size_list s
      rw [e] at this
      exact h0 this.symm
    have e3 : s.toList.isEmpty = false := by rw [List.isEmpty_eq_false_iff]; exact hsl
    have hb := bt_at s 0 hp
    have hsg : sgA s.data.toList = decide (s[0].toNat = 43 ∨ s[0].toNat = 45) := by unfold sgA; rw [hb]
    rw [hsg, hb]
    have hcase : s[0].toNat = 43 ∨ (¬ s[0].toNat = 43 ∧ s[0].toNat = 45) ∨ (¬ s[0].toNat = 43 ∧ ¬ s[0].toNat = 45) := by omega
    clear hb hsg
    rcases hcase with h1 | ⟨h1, h2⟩ | ⟨h1, h2⟩
    · rw [if_pos (by rw [h1]; rfl)]
      have q1 : ((s[0].toNat : Int) == 43) = true := by rw [h1]; rfl
      clear h1
      go_enter Tryz.func67, Tryz.ntmps67
      go_wp2_with fail
      go_quiet (fail)
      have HB5 := hid (tdrew_below w nq)
      generalize w.drewN nq = w5 at HB5 ⊢
      go_wp2_with fail
      go_ret2
      exact ⟨rfl, HB5.out⟩
    · rw [if_pos (decide_eq_true (Or.inr h2))]
      have q1 : ((s[0].toNat : Int) == 43) = false := by rw [beq_eq_false_iff_ne]; omega
      have q2 : ((s[0].toNat : Int) == 45) = true := by rw [h2]; rfl
      clear h1 h2
      go_enter Tryz.func67, Tryz.ntmps67
      go_wp2_with fail
      go_quiet (fail)
      have HB5 := hid (tdrew_below w nq)
      generalize w.drewN nq = w5 at HB5 ⊢
      go_wp2_with fail
      go_ret2
      exact ⟨rfl, HB5.out⟩
    · rw [if_neg (by rw [decide_eq_false (by omega)]; decide)]
      have q1 : ((s[0].toNat : Int) == 43) = false := by rw [beq_eq_false_iff_ne]; omega
      have q2 : ((s[0].toNat : Int) == 45) = false := by rw [beq_eq_false_iff_ne]; omega
      clear h1 h2
      go_enter Tryz.func67, Tryz.ntmps67
      go_wp2_with fail
      go_ret2
      exact ⟨rfl, Below.refl _ _⟩
end Go.Proofs.YtiaepihdfbahaaaGreatDoor
namespace Go.Proofs.YtiaepihdfbahaaaGreatDoor
open Go.RowKit

set_option maxRecDepth 100000 in
set_option maxHeartbeats 1000000 in
theorem rpkey_any (s : ByteArray) (w : World) (hs : s.size ≤ 100000) :
    Calls Tryz.prog 14 #[.string s] w fun e w' => e = .returned (.string (mkS (pkB s.data.toList))) ∧ Below w.heap.size w w' := by
  have CB := hid (fun X => rbare_any s X (by unfold maxLen; omega))
  have CQ := hid (fun X => rquote_any true s X hs)
  have hp : pkB s.data.toList = if brB s.data.toList = true then s.data.toList else qtA true s.data.toList := rfl
  cases hb : brB s.data.toList with
  | true =>
    rw [hb] at CB
    have HP : Hid (mkS (pkB s.data.toList) = s) := hid (by rw [hp, hb]; exact (mkS_of s _ rfl).symm)
    clear hp hb CQ
    go_enter Tryz.func14, Tryz.ntmps14
    go_wp2_with (go_at_call 26; go_must (refine (CB.out _).mono ?_; rintro e w1 ⟨rfl, hw1⟩; obtain rfl := hw1.symm))
    go_ret
    exact ⟨by rw [HP.out]; rfl, Below.refl _ _⟩
  | false =>
    rw [hb] at CB
    have HP : Hid (mkS (pkB s.data.toList) = mkS (qtA true s.data.toList)) := hid (by rw [hp, hb]; rfl)
    clear hp hb
    go_enter Tryz.func14, Tryz.ntmps14
    go_wp2_with (first
      | (go_at_call 26; go_must (refine (CB.out _).mono ?_; rintro e w1 ⟨rfl, hw1⟩; obtain rfl := hw1.symm))
      | (go_at_call 27; go_must (refine (CQ.out _).mono ?_; rintro e w2 ⟨rfl, hb2⟩)))
    go_ret
    exact ⟨by rw [HP.out]; rfl, hb2⟩
set_option maxRecDepth 100000 in
set_option maxHeartbeats 1000000 in
theorem rpfloat_any (s : ByteArray) (w : World) (hs : s.size ≤ 1000000) :
    Calls Tryz.prog 42 #[.string s] w fun e w' => e = .returned (.bool (decide (run (nof [46, 101, 69]) s.data.toList < s.size))) ∧ Below w.heap.size w w' := by
  have CS := hid (fun X => rsplit_any s ⟨#[46, 101, 69]⟩ X hs (by decide) (run (nof [46, 101, 69]) s.data.toList) rfl)
  generalize run (nof [46, 101, 69]) s.data.toList = n at *
  by_cases h : n < s.size
  · rw [if_pos h] at CS
    rw [decide_eq_true h]
    clear h
    go_enter Tryz.func42, Tryz.ntmps42
    go_wp2_with (go_at_call 69; go_must (refine (CS.out _).mono ?_; rintro e w1 ⟨rfl, hb1⟩))
    go_ret
    exact ⟨rfl, hb1⟩
  · rw [if_neg h] at CS
    rw [decide_eq_false h]
    clear h
    go_enter Tryz.func42, Tryz.ntmps42
    go_wp2_with (go_at_call 69; go_must (refine (CS.out _).mono ?_; rintro e w1 ⟨rfl, hb1⟩))
    go_ret
    exact ⟨rfl, hb1⟩
end Go.Proofs.YtiaepihdfbahaaaGreatDoor
namespace Go.Proofs.YtiaepihdfbahaaaGreatDoor

def D2 (a b : UInt8) : Nat := (a.toNat - 48) * 10 + (b.toNat - 48)
theorem dg58 {a : UInt8} (h : dgI a = true) : neB 58 a = true := by unfold dgI at h; unfold neB; simp at h ⊢; omega
theorem dg46 {a : UInt8} (h : dgI a = true) : neB 46 a = true := by unfold dgI at h; unfold neB; simp at h ⊢; omega
theorem dg_get {a : UInt8} (h : dgI a = true) : 48 ≤ a.toNat ∧ a.toNat ≤ 57 := by unfold dgI at h; simpa using h
theorem dg2_c (a b : UInt8) (l : List UInt8) : dg2 (a :: b :: l) 0 = D2 a b := rfl
theorem tw_two {a b : UInt8} (ha : dgI a = true) (hb : dgI b = true) (n : Nat) : twoB [a, b] n = decide (D2 a b < n) := by
  unfold twoB is2
  rw [dg_at, dg_up, dg_at, ha, hb, dg2_c]; rfl
theorem spl_c {c b : UInt8} {l h : List UInt8} {t : List (List UInt8)} (hb : neB c b = true) (e : spl c l = h :: t) : spl c (b :: l) = (b :: h) :: t := by rw [spl, if_pos hb, e]
theorem spl_x (c : UInt8) (l : List UInt8) : spl c (c :: l) = [] :: spl c l := by rw [spl, neB_self, if_neg (by decide)]
theorem spl_2 {a b : UInt8} {l : List UInt8} (ha : dgI a = true) (hb : dgI b = true) : spl 58 (a :: b :: 58 :: l) = [a, b] :: spl 58 l := spl_c (dg58 ha) (spl_c (dg58 hb) (spl_x 58 l))
theorem spl_e {a b : UInt8} (ha : dgI a = true) (hb : dgI b = true) : spl 58 [a, b] = [[a, b]] := spl_c (dg58 ha) (spl_c (dg58 hb) rfl)
theorem ck3 {a b c d e f : UInt8} (ha : dgI a = true) (hb : dgI b = true) (hc : dgI c = true) (hd : dgI d = true) (he : dgI e = true) (hf : dgI f = true) : ckS (spl 58 [a, b, 58, c, d, 58, e, f]) [24, 60, 61] = (decide (D2 a b < 24) && (decide (D2 c d < 60) && decide (D2 e f < 61))) := by
  rw [spl_2 ha hb, spl_2 hc hd, spl_e he hf, ckS, ckS, ckS, ckS, tw_two ha hb, tw_two hc hd, tw_two he hf, Bool.and_true]
theorem run46 {l m : List UInt8} (h : ∀ x ∈ l, neB 46 x = true) : run (neB 46) (l ++ m) = l.length + run (neB 46) m := by
  induction l with
  | nil => simp
  | cons b l ih =>
    rw [List.cons_append, run_cpos (h b (List.mem_cons_self ..)), ih (fun x hx => h x (List.mem_cons_of_mem _ hx)), List.length_cons]; omega
theorem tm_plain {l : List UInt8} (h : ∀ x ∈ l, neB 46 x = true) : tmB l = ckS (spl 58 l) [24, 60, 61] := by
  have e : run (neB 46) l = l.length := run_full h
  unfold tmB ckH ckD
  rw [e, List.take_of_length_le (Nat.le_refl _), decide_eq_false (Nat.lt_irrefl _)]; simp
/-- the parts of a clock -/
theorem six {a b c d e f : UInt8} (ha : dgI a = true) (hb : dgI b = true) (hc : dgI c = true) (hd : dgI d = true) (he : dgI e = true) (hf : dgI f = true) : ∀ x ∈ [a, b, 58, c, d, 58, e, f], neB 46 x = true := by
  intro x hx
  simp only [List.mem_cons, List.not_mem_nil, or_false] at hx
  rcases hx with rfl | rfl | rfl | rfl | rfl | rfl | rfl | rfl
  · exact dg46 ha
  · exact dg46 hb
  · decide
  · exact dg46 hc
  · exact dg46 hd
  · decide
  · exact dg46 he
  · exact dg46 hf
end Go.Proofs.YtiaepihdfbahaaaGreatDoor
