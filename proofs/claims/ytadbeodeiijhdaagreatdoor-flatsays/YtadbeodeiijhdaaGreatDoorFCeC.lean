/- The document's cells, walked: Number, Cell. -/
import Derived.Test.YtadbeodeiijhdaaGreatDoorFCeA
import Derived.Test.YtadbeodeiijhdaaGreatDoorFRefVal5
import Derived.Test.YtadbeodeiijhdaaGreatDoorFRef5B
namespace Go.Proofs.YtadbeodeiijhdaaGreatDoor
open Go.RowKit

set_option maxRecDepth 100000 in
set_option maxHeartbeats 1000000 in
theorem cenum8 (s : ByteArray) (w : World) (hs : s.size ≤ maxLen) :
    Calls Tryz.prog 87 #[.string s] w fun e w' => e = .returned (vv (cnmT s.data.toList) (.slice none 0 0) (.slice none 0 0)) ∧ Below w.heap.size w w' := by
  have CI := hid (fun X => int_any s X hs)
  have HS := hid (mkS_of s _ rfl)
  cases hi : intB s.data.toList with
  | true =>
    have HN := hid (show cnmT s.data.toList = leafT 2 (intV s.data.toList) ⟨#[]⟩ by unfold cnmT; rw [hi]; rfl)
    rw [hi] at CI
    clear hi
    generalize intV s.data.toList = iv at CI HN
    go_enter Tryz.func87, Tryz.ntmps87
    go_wp2_with (go_at_call 59; go_must (refine (CI.out _).mono ?_; rintro e w1 ⟨rfl, hw1⟩; obtain rfl := hw1.symm))
    exact bodyPost_ret (v := vv (leafT 2 iv ⟨#[]⟩) (.slice none 0 0) (.slice none 0 0)) (by simp [results, Tryz.results87, go_sem, vv, leafT, VT.kd, VT.nm, VT.st]) rfl ⟨by rw [HN.out], valloc_bel (Below.refl _ _) _⟩
  | false =>
    have HN := hid (show cnmT s.data.toList = leafT 3 0 s by unfold cnmT; rw [hi, ← HS.out]; rfl)
    rw [hi] at CI
    clear hi
    go_enter Tryz.func87, Tryz.ntmps87
    go_wp2_with (go_at_call 59; go_must (refine (CI.out _).mono ?_; rintro e w1 ⟨rfl, hw1⟩; obtain rfl := hw1.symm))
    exact bodyPost_ret (v := vv (leafT 3 0 s) (.slice none 0 0) (.slice none 0 0)) (by simp [results, Tryz.results87, go_sem, vv, leafT, VT.kd, VT.nm, VT.st]) rfl ⟨by rw [HN.out], valloc_bel (Below.refl _ _) _⟩
theorem te_rv (s : ByteArray) : teI s = if rvI s.data.toList < 0 then (if 4096 < s.size then 2 else 0) else 3 := by
  unfold teI
  by_cases h : pos s.data.toList (vlk s.data.toList) = s.size
  · have h1 : (-1 : Int) < 0 := by decide
    rw [if_pos h, rv_yes _ (by rw [size_list]; exact h), if_pos h1]
  · rw [if_neg h, rv_no _ (by rw [size_list]; exact h), if_neg (by omega)]
theorem head_at (s : ByteArray) (h : 0 < s.size) (c : UInt8) : s.data.toList.head? = some c ↔ s[0].toNat = c.toNat := by
  rw [first_rest s h]
  simp [UInt8.toNat_inj]
set_option maxRecDepth 100000 in
set_option maxHeartbeats 4000000 in
theorem dcell_str (s st : ByteArray) (w : World) (hs : s.size ≤ 1000000) (hst : st.size ≤ 1000000) (e0 : s.toList.isEmpty = false) (h0 : 0 < s.size)
    (q1 : (s.toList == [110, 117, 108, 108]) = false) (q2 : (s.toList == [116, 114, 117, 101]) = false) (q3 : (s.toList == [102, 97, 108, 115, 101]) = false) (q4 : (s.toList == [91, 93]) = false) (q5 : (s.toList == [123, 125]) = false)
    (CG : Hid (∀ X, Calls Tryz.prog 60 #[.string s] X fun e w' => e = .returned (.bool false) ∧ w' = X)) (h4 : ¬ s[0].toNat = 64) (hq : Hid (st = if s[0].toNat = 39 then s.extract 1 s.size else s)) :
    Calls Tryz.prog 54 #[.string s] w fun e w' => e = .returned (.tuple #[vv (strR st) (.slice none 0 0) (.slice none 0 0), .int .i64 (teI st)]) ∧ Below w.heap.size w w' := by
  have CV := hid (fun X => rvalid_any st X (by unfold maxLen; omega))
  have HTE := hid (te_rv st)
  have hsr : strR st = if teI st = 0 then leafT 4 0 st else zeroT := rfl
  rw [hsr]
  clear hsr
  have hbn := s[0].toNat_lt
  have b4 : ((s[0].toNat : Int) == 64) = false := by rw [beq_eq_false_iff_ne]; omega
  have b4' : ¬ (s[0].toNat : Int) = 64 := by omega
  generalize rvI st.data.toList = rv at CV HTE
  generalize teI st = er at HTE ⊢
  by_cases h39 : s[0].toNat = 39
  · have b3 : ((s[0].toNat : Int) == 39) = true := by rw [beq_iff_eq]; omega
    have b3' : (s[0].toNat : Int) = 39 := by omega
    have hq := hq.out
    rw [if_pos h39] at hq
    subst hq
    by_cases hv : rv < 0
    · have hv2 : ¬ (0 : Int) ≤ rv := by omega
      by_cases hz : 4096 < (s.extract 1 s.size).size
      · have hz2 : (4096 : Int) < ((s.size - 1 : Nat) : Int) := by simp at hz; omega
        have HE : Hid (er = 2) := hid (by rw [HTE.out, if_pos hv, if_pos hz])
        rw [HE.out, if_neg (by decide)]
        simp only [vv, zeroT, VT.kd, VT.nm, VT.st]
        clear HTE HE
        go_enter Tryz.func54, Tryz.ntmps54
        go_wp2_with fail
        go_at_call 60
        refine (CG.out _).mono ?_
        rintro e wn ⟨rfl, hwn⟩
        obtain rfl := hwn.symm
        go_wp2_with fail
        go_at_call 88
        refine (CV.out _).mono ?_
        rintro e w1 ⟨rfl, hb1⟩
        have R0 := hid (box_row hb1)
        have HB1 := hid (vonto (valloc_bel (Below.refl w.heap.size w) _) hb1)
        clear hb1 CV CG
        obtain ⟨u0, e0⟩ := R0.out.cell (o := 0) (by decide)
        obtain ⟨u1, e1⟩ := R0.out.cell (o := 1) (by decide)
        obtain ⟨u2, e2⟩ := R0.out.cell (o := 2) (by decide)
        obtain ⟨u3, e3⟩ := R0.out.cell (o := 3) (by decide)
        obtain ⟨u4, e4⟩ := R0.out.cell (o := 4) (by decide)
        have z0 := R0.out.frozen
        go_wp2_with fail
        refine bodyPost_ret (v := .tuple #[.agg #[.int .i64 0, .int .i64 0, .string ⟨#[]⟩, .slice none 0 0, .slice none 0 0], .int .i64 2]) (by simp [results, Tryz.results54, go_sem, e0, e1, e2, e3, e4]) rfl ⟨rfl, ?_⟩
        repeat (first | exact HB1.out | (refine vset_bel ?_ (by simp)))
      · have hz2 : ¬ (4096 : Int) < ((s.size - 1 : Nat) : Int) := by simp at hz; omega
        have HE : Hid (er = 0) := hid (by rw [HTE.out, if_pos hv, if_neg hz])
        rw [HE.out, if_pos rfl]
        simp only [vv, leafT, VT.kd, VT.nm, VT.st]
        clear HTE HE
        go_enter Tryz.func54, Tryz.ntmps54
        go_wp2_with fail
        go_at_call 60
        refine (CG.out _).mono ?_
        rintro e wn ⟨rfl, hwn⟩
        obtain rfl := hwn.symm
        go_wp2_with fail
        go_at_call 88
        refine (CV.out _).mono ?_
        rintro e w1 ⟨rfl, hb1⟩
        have R0 := hid (box_row hb1)
        have HB1 := hid (vonto (valloc_bel (Below.refl w.heap.size w) _) hb1)
        clear hb1 CV CG
        obtain ⟨u0, e0⟩ := R0.out.cell (o := 0) (by decide)
        obtain ⟨u1, e1⟩ := R0.out.cell (o := 1) (by decide)
        obtain ⟨u2, e2⟩ := R0.out.cell (o := 2) (by decide)
        obtain ⟨u3, e3⟩ := R0.out.cell (o := 3) (by decide)
        obtain ⟨u4, e4⟩ := R0.out.cell (o := 4) (by decide)
        have z0 := R0.out.frozen
        go_wp2_with fail
        refine bodyPost_ret (v := .tuple #[.agg #[.int .i64 4, .int .i64 0, .string (s.extract 1 s.size), .slice none 0 0, .slice none 0 0], .int .i64 0]) (by simp [results, Tryz.results54, go_sem, e0, e1, e2, e3, e4]) rfl ⟨rfl, ?_⟩
        repeat (first | exact HB1.out | (refine vset_bel ?_ (by simp)))
    · have hv2 : (0 : Int) ≤ rv := by omega
      have HE : Hid (er = 3) := hid (by rw [HTE.out, if_neg hv])
      rw [HE.out, if_neg (by decide)]
      simp only [vv, zeroT, VT.kd, VT.nm, VT.st]
      clear HTE HE
      go_enter Tryz.func54, Tryz.ntmps54
      go_wp2_with fail
      go_at_call 60
      refine (CG.out _).mono ?_
      rintro e wn ⟨rfl, hwn⟩
      obtain rfl := hwn.symm
      go_wp2_with fail
      go_at_call 88
      refine (CV.out _).mono ?_
      rintro e w1 ⟨rfl, hb1⟩
      have R0 := hid (box_row hb1)
      have HB1 := hid (vonto (valloc_bel (Below.refl w.heap.size w) _) hb1)
      clear hb1 CV CG
      obtain ⟨u0, e0⟩ := R0.out.cell (o := 0) (by decide)
      obtain ⟨u1, e1⟩ := R0.out.cell (o := 1) (by decide)
      obtain ⟨u2, e2⟩ := R0.out.cell (o := 2) (by decide)
      obtain ⟨u3, e3⟩ := R0.out.cell (o := 3) (by decide)
      obtain ⟨u4, e4⟩ := R0.out.cell (o := 4) (by decide)
      have z0 := R0.out.frozen
      go_wp2_with fail
      refine bodyPost_ret (v := .tuple #[.agg #[.int .i64 0, .int .i64 0, .string ⟨#[]⟩, .slice none 0 0, .slice none 0 0], .int .i64 3]) (by simp [results, Tryz.results54, go_sem, e0, e1, e2, e3, e4]) rfl ⟨rfl, ?_⟩
      repeat (first | exact HB1.out | (refine vset_bel ?_ (by simp)))
  · have b3 : ((s[0].toNat : Int) == 39) = false := by rw [beq_eq_false_iff_ne]; omega
    have b3' : ¬ (s[0].toNat : Int) = 39 := by omega
    have hq := hq.out
    rw [if_neg h39] at hq
    have hq := hq.symm
    subst hq
    by_cases hv : rv < 0
    · have hv2 : ¬ (0 : Int) ≤ rv := by omega
      by_cases hz : 4096 < s.size
      · have hz2 : (4096 : Int) < (s.size : Int) := by omega
        have HE : Hid (er = 2) := hid (by rw [HTE.out, if_pos hv, if_pos hz])
        rw [HE.out, if_neg (by decide)]
        simp only [vv, zeroT, VT.kd, VT.nm, VT.st]
        clear HTE HE
        go_enter Tryz.func54, Tryz.ntmps54
        go_wp2_with fail
        go_at_call 60
        refine (CG.out _).mono ?_
        rintro e wn ⟨rfl, hwn⟩
        obtain rfl := hwn.symm
        go_wp2_with fail
        go_at_call 88
        refine (CV.out _).mono ?_
        rintro e w1 ⟨rfl, hb1⟩
        have R0 := hid (box_row hb1)
        have HB1 := hid (vonto (valloc_bel (Below.refl w.heap.size w) _) hb1)
        clear hb1 CV CG
        obtain ⟨u0, e0⟩ := R0.out.cell (o := 0) (by decide)
        obtain ⟨u1, e1⟩ := R0.out.cell (o := 1) (by decide)
        obtain ⟨u2, e2⟩ := R0.out.cell (o := 2) (by decide)
        obtain ⟨u3, e3⟩ := R0.out.cell (o := 3) (by decide)
        obtain ⟨u4, e4⟩ := R0.out.cell (o := 4) (by decide)
        have z0 := R0.out.frozen
        go_wp2_with fail
        refine bodyPost_ret (v := .tuple #[.agg #[.int .i64 0, .int .i64 0, .string ⟨#[]⟩, .slice none 0 0, .slice none 0 0], .int .i64 2]) (by simp [results, Tryz.results54, go_sem, e0, e1, e2, e3, e4]) rfl ⟨rfl, ?_⟩
        repeat (first | exact HB1.out | (refine vset_bel ?_ (by simp)))
      · have hz2 : ¬ (4096 : Int) < (s.size : Int) := by omega
        have HE : Hid (er = 0) := hid (by rw [HTE.out, if_pos hv, if_neg hz])
        rw [HE.out, if_pos rfl]
        simp only [vv, leafT, VT.kd, VT.nm, VT.st]
        clear HTE HE
        go_enter Tryz.func54, Tryz.ntmps54
        go_wp2_with fail
        go_at_call 60
        refine (CG.out _).mono ?_
        rintro e wn ⟨rfl, hwn⟩
        obtain rfl := hwn.symm
        go_wp2_with fail
        go_at_call 88
        refine (CV.out _).mono ?_
        rintro e w1 ⟨rfl, hb1⟩
        have R0 := hid (box_row hb1)
        have HB1 := hid (vonto (valloc_bel (Below.refl w.heap.size w) _) hb1)
        clear hb1 CV CG
        obtain ⟨u0, e0⟩ := R0.out.cell (o := 0) (by decide)
        obtain ⟨u1, e1⟩ := R0.out.cell (o := 1) (by decide)
        obtain ⟨u2, e2⟩ := R0.out.cell (o := 2) (by decide)
        obtain ⟨u3, e3⟩ := R0.out.cell (o := 3) (by decide)
        obtain ⟨u4, e4⟩ := R0.out.cell (o := 4) (by decide)
        have z0 := R0.out.frozen
        go_wp2_with fail
        refine bodyPost_ret (v := .tuple #[.agg #[.int .i64 4, .int .i64 0, .string s, .slice none 0 0, .slice none 0 0], .int .i64 0]) (by simp [results, Tryz.results54, go_sem, e0, e1, e2, e3, e4]) rfl ⟨rfl, ?_⟩
        repeat (first | exact HB1.out | (refine vset_bel ?_ (by simp)))
    · have hv2 : (0 : Int) ≤ rv := by omega
      have HE : Hid (er = 3) := hid (by rw [HTE.out, if_neg hv])
      rw [HE.out, if_neg (by decide)]
      simp only [vv, zeroT, VT.kd, VT.nm, VT.st]
      clear HTE HE
      go_enter Tryz.func54, Tryz.ntmps54
      go_wp2_with fail
      go_at_call 60
      refine (CG.out _).mono ?_
      rintro e wn ⟨rfl, hwn⟩
      obtain rfl := hwn.symm
      go_wp2_with fail
      go_at_call 88
      refine (CV.out _).mono ?_
      rintro e w1 ⟨rfl, hb1⟩
      have R0 := hid (box_row hb1)
      have HB1 := hid (vonto (valloc_bel (Below.refl w.heap.size w) _) hb1)
      clear hb1 CV CG
      obtain ⟨u0, e0⟩ := R0.out.cell (o := 0) (by decide)
      obtain ⟨u1, e1⟩ := R0.out.cell (o := 1) (by decide)
      obtain ⟨u2, e2⟩ := R0.out.cell (o := 2) (by decide)
      obtain ⟨u3, e3⟩ := R0.out.cell (o := 3) (by decide)
      obtain ⟨u4, e4⟩ := R0.out.cell (o := 4) (by decide)
      have z0 := R0.out.frozen
      go_wp2_with fail
      refine bodyPost_ret (v := .tuple #[.agg #[.int .i64 0, .int .i64 0, .string ⟨#[]⟩, .slice none 0 0, .slice none 0 0], .int .i64 3]) (by simp [results, Tryz.results54, go_sem, e0, e1, e2, e3, e4]) rfl ⟨rfl, ?_⟩
      repeat (first | exact HB1.out | (refine vset_bel ?_ (by simp)))
set_option maxRecDepth 100000 in
set_option maxHeartbeats 4000000 in
theorem dcell_any (s : ByteArray) (w : World) (hs : s.size ≤ 1000000) :
    Calls Tryz.prog 54 #[.string s] w fun e w' => e = .returned (.tuple #[vv (celT s.data.toList).1 (.slice none 0 0) (.slice none 0 0), .int .i64 (celT s.data.toList).2]) ∧ Below w.heap.size w w' := by
  have HSS := hid hs
  have q1 := str_eq s _ rfl [110, 117, 108, 108]
  have q2 := str_eq s _ rfl [116, 114, 117, 101]
  have q3 := str_eq s _ rfl [102, 97, 108, 115, 101]
  have q4 := str_eq s _ rfl [91, 93]
  have q5 := str_eq s _ rfl [123, 125]
  have CG := hid (fun X => number_any s X (by unfold maxLen; omega))
  by_cases h0 : s.data.toList = []
  · have e0 : s.toList.isEmpty = true := emp_yes _ h0
    have hR : celT s.data.toList = (zeroT, 9) := by rw [h0]; rfl
    rw [hR]
    simp only [vv, zeroT, VT.kd, VT.nm, VT.st]
    clear q1 q2 q3 q4 q5 CG hR
    go_enter Tryz.func54, Tryz.ntmps54
    go_wp2_with fail
    refine bodyPost_ret (v := .tuple #[.agg #[.int .i64 0, .int .i64 0, .string ⟨#[]⟩, .slice none 0 0, .slice none 0 0], .int .i64 9]) (by simp [results, Tryz.results54, go_sem]) rfl ⟨rfl, ?_⟩
    repeat (first | exact Below.refl _ _ | apply valloc_bel | (refine vset_bel ?_ (by simp)))
  have e0 : s.toList.isEmpty = false := emp_no _ h0
  by_cases h1 : s.data.toList = [110, 117, 108, 108]
  · have hR : celT s.data.toList = (leafT 0 0 ⟨#[]⟩, 0) := by rw [h1]; rfl
    rw [hR]
    rw [decide_eq_true h1] at q1
    simp only [vv, leafT, VT.kd, VT.nm, VT.st]
    clear q2 q3 q4 q5 CG hR h1
    go_enter Tryz.func54, Tryz.ntmps54
    go_wp2_with fail
    refine bodyPost_ret (v := .tuple #[.agg #[.int .i64 0, .int .i64 0, .string ⟨#[]⟩, .slice none 0 0, .slice none 0 0], .int .i64 0]) (by simp [results, Tryz.results54, go_sem]) rfl ⟨rfl, ?_⟩
    repeat (first | exact Below.refl _ _ | apply valloc_bel | (refine vset_bel ?_ (by simp)))
  rw [decide_eq_false h1] at q1
  by_cases h2 : s.data.toList = [116, 114, 117, 101]
  · have hR : celT s.data.toList = (leafT 1 1 ⟨#[]⟩, 0) := by rw [h2]; rfl
    rw [hR]
    rw [decide_eq_true h2] at q2
    simp only [vv, leafT, VT.kd, VT.nm, VT.st]
    clear q3 q4 q5 CG hR h2
    go_enter Tryz.func54, Tryz.ntmps54
    go_wp2_with fail
    refine bodyPost_ret (v := .tuple #[.agg #[.int .i64 1, .int .i64 1, .string ⟨#[]⟩, .slice none 0 0, .slice none 0 0], .int .i64 0]) (by simp [results, Tryz.results54, go_sem]) rfl ⟨rfl, ?_⟩
    repeat (first | exact Below.refl _ _ | apply valloc_bel | (refine vset_bel ?_ (by simp)))
  rw [decide_eq_false h2] at q2
  by_cases h3 : s.data.toList = [102, 97, 108, 115, 101]
  · have hR : celT s.data.toList = (leafT 1 0 ⟨#[]⟩, 0) := by rw [h3]; rfl
    rw [hR]
    rw [decide_eq_true h3] at q3
    simp only [vv, leafT, VT.kd, VT.nm, VT.st]
    clear q4 q5 CG hR h3
    go_enter Tryz.func54, Tryz.ntmps54
    go_wp2_with fail
    refine bodyPost_ret (v := .tuple #[.agg #[.int .i64 1, .int .i64 0, .string ⟨#[]⟩, .slice none 0 0, .slice none 0 0], .int .i64 0]) (by simp [results, Tryz.results54, go_sem]) rfl ⟨rfl, ?_⟩
    repeat (first | exact Below.refl _ _ | apply valloc_bel | (refine vset_bel ?_ (by simp)))
  rw [decide_eq_false h3] at q3
  by_cases h4 : s.data.toList = [91, 93]
  · have hR : celT s.data.toList = (leafT 5 0 ⟨#[]⟩, 0) := by rw [h4]; rfl
    rw [hR]
    rw [decide_eq_true h4] at q4
    simp only [vv, leafT, VT.kd, VT.nm, VT.st]
    clear q5 CG hR h4
    go_enter Tryz.func54, Tryz.ntmps54
    go_wp2_with fail
    refine bodyPost_ret (v := .tuple #[.agg #[.int .i64 5, .int .i64 0, .string ⟨#[]⟩, .slice none 0 0, .slice none 0 0], .int .i64 0]) (by simp [results, Tryz.results54, go_sem]) rfl ⟨rfl, ?_⟩
    repeat (first | exact Below.refl _ _ | apply valloc_bel | (refine vset_bel ?_ (by simp)))
  rw [decide_eq_false h4] at q4
  by_cases h5 : s.data.toList = [123, 125]
  · have hR : celT s.data.toList = (leafT 6 0 ⟨#[]⟩, 0) := by rw [h5]; rfl
    rw [hR]
    rw [decide_eq_true h5] at q5
    simp only [vv, leafT, VT.kd, VT.nm, VT.st]
    clear  CG hR h5
    go_enter Tryz.func54, Tryz.ntmps54
    go_wp2_with fail
    refine bodyPost_ret (v := .tuple #[.agg #[.int .i64 6, .int .i64 0, .string ⟨#[]⟩, .slice none 0 0, .slice none 0 0], .int .i64 0]) (by simp [results, Tryz.results54, go_sem]) rfl ⟨rfl, ?_⟩
    repeat (first | exact Below.refl _ _ | apply valloc_bel | (refine vset_bel ?_ (by simp)))
  rw [decide_eq_false h5] at q5
  have hw : cwdT s.data.toList = none := by unfold cwdT; rw [if_neg h1, if_neg h2, if_neg h3, if_neg h4, if_neg h5]
  rw [cel_none h0 hw]
  have hpos : 0 < s.size := by
    rcases Nat.eq_zero_or_pos s.size with h | h
    · exact absurd (List.eq_nil_of_length_eq_zero (by rw [size_list, h])) h0
    · exact h
  clear h1 h2 h3 h4 h5 hw
  cases hn : numB s.data.toList with
  | true =>
    rw [if_pos rfl]
    rw [hn] at CG
    have CN := hid (fun X => cenum8 s X (by unfold maxLen; omega))
    obtain ⟨k, n, t, hk, -⟩ := cnm_leaf (n := 1000000) s.data.toList (Nat.le_refl _) (by have := size_list s; omega)
    rw [hk] at CN ⊢
    simp only [vv, leafT, VT.kd, VT.nm, VT.st] at CN ⊢
    clear hk hn h0
    go_enter Tryz.func54, Tryz.ntmps54
    go_wp2_with fail
    go_at_call 60
    refine (CG.out _).mono ?_
    rintro e wn ⟨rfl, hwn⟩
    obtain rfl := hwn.symm
    go_wp2_with fail
    go_at_call 87
    refine (CN.out _).mono ?_
    rintro e w1 ⟨rfl, hb1⟩
    have R0 := hid (box_row hb1)
    have HB1 := hid (vonto (valloc_bel (Below.refl w.heap.size w) _) hb1)
    clear hb1 CN CG
    obtain ⟨u0, e0⟩ := R0.out.cell (o := 0) (by decide)
    obtain ⟨u1, e1⟩ := R0.out.cell (o := 1) (by decide)
    obtain ⟨u2, e2⟩ := R0.out.cell (o := 2) (by decide)
    obtain ⟨u3, e3⟩ := R0.out.cell (o := 3) (by decide)
    obtain ⟨u4, e4⟩ := R0.out.cell (o := 4) (by decide)
    have z0 := R0.out.frozen
    go_wp2_with fail
    refine bodyPost_ret (v := .tuple #[.agg #[.int .i64 k, .int .i64 n, .string t, .slice none 0 0, .slice none 0 0], .int .i64 0]) (by simp [results, Tryz.results54, go_sem, e0, e1, e2, e3, e4]) rfl ⟨rfl, ?_⟩
    repeat (first | exact HB1.out | (refine vset_bel ?_ (by simp)))
  | false =>
    rw [if_neg (by decide)]
    rw [hn] at CG
    clear hn
    have hext : mkS s.data.toList.tail = s.extract 1 s.size := (mkS_of _ _ (by rw [drop_list, List.drop_one])).symm
    have hbn := s[0].toNat_lt
    by_cases h64 : s[0].toNat = 64
    · rw [if_pos ((head_at s hpos 64).2 h64), hext]
      have CS := hid (fun X => stamp_any (s.extract 1 s.size) X (by simp; unfold maxLen; omega))
      have b4 : ((s[0].toNat : Int) == 64) = true := by rw [beq_iff_eq]; omega
      have b4' : (s[0].toNat : Int) = 64 := by omega
      cases hsb : stampB (s.extract 1 s.size) with
      | true =>
        rw [hsb] at CS
        rw [if_pos rfl]
        simp only [vv, leafT, VT.kd, VT.nm, VT.st]
        clear hsb h0 hext
        go_enter Tryz.func54, Tryz.ntmps54
        go_wp2_with fail
        go_at_call 60
        refine (CG.out _).mono ?_
        rintro e wn ⟨rfl, hwn⟩
        obtain rfl := hwn.symm
        go_wp2_with fail
        go_at_call 61
        refine (CS.out _).mono ?_
        rintro e wn ⟨rfl, hwn⟩
        obtain rfl := hwn.symm
        go_wp2_with fail
        refine bodyPost_ret (v := .tuple #[.agg #[.int .i64 7, .int .i64 0, .string (s.extract 1 s.size), .slice none 0 0, .slice none 0 0], .int .i64 0]) (by simp [results, Tryz.results54, go_sem]) rfl ⟨rfl, ?_⟩
        repeat (first | exact Below.refl _ _ | apply valloc_bel | (refine vset_bel ?_ (by simp)))
      | false =>
        rw [hsb] at CS
        rw [if_neg (by decide)]
        simp only [vv, zeroT, VT.kd, VT.nm, VT.st]
        clear hsb h0 hext
        go_enter Tryz.func54, Tryz.ntmps54
        go_wp2_with fail
        go_at_call 60
        refine (CG.out _).mono ?_
        rintro e wn ⟨rfl, hwn⟩
        obtain rfl := hwn.symm
        go_wp2_with fail
        go_at_call 61
        refine (CS.out _).mono ?_
        rintro e wn ⟨rfl, hwn⟩
        obtain rfl := hwn.symm
        go_wp2_with fail
        refine bodyPost_ret (v := .tuple #[.agg #[.int .i64 0, .int .i64 0, .string ⟨#[]⟩, .slice none 0 0, .slice none 0 0], .int .i64 4]) (by simp [results, Tryz.results54, go_sem]) rfl ⟨rfl, ?_⟩
        repeat (first | exact Below.refl _ _ | apply valloc_bel | (refine vset_bel ?_ (by simp)))
    · rw [if_neg (fun h => h64 ((head_at s hpos 64).1 h))]
      have hE : (if s.data.toList.head? = some 39 then (strR (mkS s.data.toList.tail), teI (mkS s.data.toList.tail)) else (strR (mkS s.data.toList), teI (mkS s.data.toList))) = (strR (if s[0].toNat = 39 then s.extract 1 s.size else s), teI (if s[0].toNat = 39 then s.extract 1 s.size else s)) := by
        by_cases h39 : s[0].toNat = 39
        · rw [if_pos ((head_at s hpos 39).2 h39), if_pos h39, hext]
        · rw [if_neg (fun h => h39 ((head_at s hpos 39).1 h)), if_neg h39, ← mkS_of s _ rfl]
      rw [hE]
      refine dcell_str s _ w hs ?_ e0 hpos q1 q2 q3 q4 q5 CG h64 rfl
      split
      · simp; omega
      · exact hs
end Go.Proofs.YtadbeodeiijhdaaGreatDoor
