import Derived.Test.YtbeolgnognhfpaaGreatDoorMathLexL
import Derived.Test.YtbeolgnognhfpaaGreatDoorJrOne
import Derived.Test.YtbeolgnognhfpaaGreatDoorL8Says
/- Plain mathematics: a number's text is one word of JSON, and one value. -/
/- The statement JreadNumbers: walked. -/
namespace Go.Proofs.YtbeolgnognhfpaaGreatDoor
open Go.RowKit

theorem isD_S {b : UInt8} (h : isD b = true) : numS b = true := by
  unfold isD at h
  unfold numS
  simp only [decide_eq_true_eq, Bool.and_eq_true] at h ⊢
  omega
theorem getD_head {l : List UInt8} {n : Nat} (h : (l.getD 0 0).toNat = n) (hn : n ≠ 0) : ∃ b r, l = b :: r ∧ b.toNat = n := by
  cases l with
  | nil => exact absurd h.symm (by simpa using hn)
  | cons b r => exact ⟨b, r, rfl, by simpa using h⟩
theorem runN_all {l : List UInt8} (h : runN l = l.length) : ∀ b ∈ l, isD b = true := by
  unfold runN at h
  have he : l.takeWhile isD = l := (List.takeWhile_prefix isD).eq_of_length h
  intro b hb
  rw [← he] at hb
  exact List.all_eq_true.1 List.all_takeWhile b hb
theorem numS_C {b : UInt8} (h : numS b = true) : numC b = true := num_sc h
theorem num_at {b : UInt8} (h : b.toNat = 43 ∨ b.toNat = 45 ∨ b.toNat = 46 ∨ b.toNat = 69 ∨ b.toNat = 101) : numC b = true := by
  unfold numC numS
  rw [Bool.or_eq_true]
  simp only [decide_eq_true_eq]
  omega
/-- a number's text: its bytes, and its first -/
theorem num_bytes {l : List UInt8} (h : pOk l = true) : (∀ b ∈ l, numC b = true) ∧ ∃ s0 S', l = s0 :: S' ∧ numS s0 = true := by
  unfold pOk at h
  rw [Bool.and_eq_true, Bool.and_eq_true] at h
  obtain ⟨⟨hW, hF⟩, hE⟩ := h
  have hS : ∀ b ∈ pS l, numC b = true := by
    unfold pEok at hE
    rw [Bool.or_eq_true, decide_eq_true_eq] at hE
    rcases hE with hE | hE
    · rw [hE]; intro b hb; simp at hb
    · rw [Bool.and_eq_true, Bool.and_eq_true, decide_eq_true_eq] at hE
      obtain ⟨⟨h1, -⟩, h3⟩ := hE
      unfold pE at h1
      rw [Bool.or_eq_true, decide_eq_true_eq, decide_eq_true_eq] at h1
      have hd := runN_all h3
      obtain ⟨e, r, hs, he⟩ : ∃ e r, pS l = e :: r ∧ (e.toNat = 101 ∨ e.toNat = 69) := by
        rcases h1 with h1 | h1
        · obtain ⟨e, r, k1, k2⟩ := getD_head h1 (by decide); exact ⟨e, r, k1, Or.inl k2⟩
        · obtain ⟨e, r, k1, k2⟩ := getD_head h1 (by decide); exact ⟨e, r, k1, Or.inr k2⟩
      have hp : pP l = r := by unfold pP; rw [hs]; rfl
      rw [hp] at hd
      rw [hs]
      intro b hb
      rcases List.mem_cons.1 hb with rfl | hb
      · exact num_at (by omega)
      · unfold pD at hd
        split at hd
        · rename_i hsg
          unfold pSg at hsg
          rw [Bool.or_eq_true, decide_eq_true_eq, decide_eq_true_eq] at hsg
          obtain ⟨g, r2, k1, k2⟩ : ∃ g r2, r = g :: r2 ∧ (g.toNat = 43 ∨ g.toNat = 45) := by
            rcases hsg with h1 | h1
            · obtain ⟨e, r, k1, k2⟩ := getD_head h1 (by decide); exact ⟨e, r, k1, Or.inl k2⟩
            · obtain ⟨e, r, k1, k2⟩ := getD_head h1 (by decide); exact ⟨e, r, k1, Or.inr k2⟩
          subst k1
          rcases List.mem_cons.1 hb with rfl | hb
          · exact num_at (by omega)
          · exact numS_C (isD_S (hd b hb))
        · exact numS_C (isD_S (hd b hb))
  have hR : ∀ b ∈ pR l, numC b = true := by
    by_cases hdot : pDot l = true
    · have hh := hdot
      unfold pDot at hh
      rw [decide_eq_true_eq] at hh
      obtain ⟨g, r, k1, k2⟩ := getD_head hh (by decide)
      rw [k1]
      intro b hb
      rcases List.mem_cons.1 hb with rfl | hb
      · exact num_at (by omega)
      · rw [← List.takeWhile_append_dropWhile (p := isD) (l := r)] at hb
        rcases List.mem_append.1 hb with hb | hb
        · exact numS_C (isD_S (List.all_eq_true.1 List.all_takeWhile b hb))
        · refine hS b ?_
          unfold pS
          rw [if_pos hdot, k1]; exact hb
    · intro b hb
      refine hS b ?_
      unfold pS
      rw [if_neg hdot]; exact hb
  have hU : ∀ b ∈ pU l, numC b = true := by
    intro b hb
    rw [← List.takeWhile_append_dropWhile (p := isD) (l := pU l)] at hb
    rcases List.mem_append.1 hb with hb | hb
    · exact numS_C (isD_S (List.all_eq_true.1 List.all_takeWhile b hb))
    · exact hR b hb
  have hWn : pW l ≠ [] := by
    unfold pWok at hW
    rw [Bool.and_eq_true] at hW
    simpa using hW.1
  by_cases hn : pNeg l = true
  · have hh := hn
    unfold pNeg at hh
    rw [decide_eq_true_eq] at hh
    obtain ⟨g, r, k1, k2⟩ := getD_head hh (by decide)
    have hur : pU l = r := by unfold pU; rw [if_pos hn, k1]; rfl
    refine ⟨?_, g, r, k1, ?_⟩
    · rw [k1]
      intro b hb
      rcases List.mem_cons.1 hb with rfl | hb
      · exact num_at (by omega)
      · exact hU b (by rw [hur]; exact hb)
    · unfold numS; exact decide_eq_true (by omega)
  · have hul : pU l = l := by unfold pU; rw [if_neg hn]
    refine ⟨fun b hb => hU b (by rw [hul]; exact hb), ?_⟩
    unfold pW at hWn
    rw [hul] at hWn
    cases l with
    | nil => exact absurd rfl hWn
    | cons a r =>
      refine ⟨a, r, rfl, ?_⟩
      rw [List.takeWhile_cons] at hWn
      split at hWn
      · rename_i ha; exact isD_S ha
      · exact absurd rfl hWn
theorem run_self {p : UInt8 → Bool} {l : List UInt8} (h : ∀ x ∈ l, p x = true) : run p l = l.length := by
  unfold run
  induction l with
  | nil => rfl
  | cons a r ih => rw [List.takeWhile_cons, if_pos (h a (List.mem_cons_self ..)), List.length_cons, List.length_cons, ih (fun x hx => h x (List.mem_cons_of_mem _ hx))]
/-- a number's text alone -/
theorem cut_number {S : List UInt8} (h : numB S = true) (hl : S.length ≤ 390) : cutA S = ([⟨3, S, 0⟩, ⟨0, [], S.length⟩], 0, 0) := by
  unfold numB at h
  rw [Bool.and_eq_true, Bool.and_eq_true] at h
  obtain ⟨⟨hp, hw⟩, -⟩ := h
  obtain ⟨hall, s0, S', hS, h0⟩ := num_bytes hp
  have hrv : rvI S = -1 := ascii_rv S (fun b hb => numC_lt (hall b hb))
  have hc := cut_of_lx (T := S) (by omega) (by omega)
  have e2 : S[0]? = some s0 := by rw [hS]; rfl
  have hbl : blB s0 = false := by
    unfold numS at h0; have := of_decide_eq_true h0
    unfold blB; exact decide_eq_false (by omega)
  have hsg : sgnB s0 = false := by
    unfold numS at h0; have := of_decide_eq_true h0
    unfold sgnB; exact decide_eq_false (by omega)
  have hq : s0.toNat ≠ 34 := by unfold numS at h0; have := of_decide_eq_true h0; omega
  have hw1 : lw S 0 = lwN S 0 := lw_nm e2 hbl hsg hq h0
  have hr : run numC (S.drop 0) = S.length := by rw [List.drop_zero]; exact run_self hall
  have hP : (S.drop 0).take (run numC (S.drop 0)) = S := by rw [hr, List.drop_zero]; exact List.take_length
  have hlw : lw S 0 = ⟨3, S, S.length, 0, 0⟩ := by
    rw [hw1]; unfold lwN; rw [hP, hr, if_neg (by omega), if_neg (by rw [hp]; decide), if_neg (by rw [hw]; decide), Nat.zero_add]
  have hpos : 0 < S.length := by rw [hS]; simp
  rw [hc, lx, if_neg (by omega), if_neg (by rw [hlw]; simp), if_neg (by rw [hlw]; simp), hlw]
  obtain ⟨k, hk⟩ : ∃ k, S.length = k + 1 := ⟨S.length - 1, by omega⟩
  simp only
  rw [show lx S S.length S.length ([] ++ [⟨3, S, 0⟩]) = lx S (k + 1) S.length ([] ++ [⟨3, S, 0⟩]) by rw [← hk], lx, if_pos (Nat.le_refl _)]
  rfl
theorem jrA_number {S : List UInt8} (h : numB S = true) (hl : S.length ≤ 390) : jrA S = .ok (numT S) 1 [⟨0, [], S.length⟩] := by
  unfold jrA
  rw [cut_number h hl]
  simp [jrV]
end Go.Proofs.YtbeolgnognhfpaaGreatDoor
namespace Go.Proofs.YtbeolgnognhfpaaGreatDoor
open Go.RowKit

set_option maxRecDepth 100000 in
set_option maxHeartbeats 4000000 in
theorem Tryz.jreadNumbers_walk (s : ByteArray) (_w0 : s.size ≤ maxLen) (w : World) (hgs : Globs w) :
    Calls Tryz.prog 9 #[.string s] w fun e w' => e = .returned (.bool true) ∧ Below w.heap.size w w' := by
  obtain ⟨hg, hu⟩ := hgs
  have CA := hid (awake8 w hg hu)
  have CN := hid (fun X => number_any s X _w0)
  have CI := hid (fun X => int_any s X _w0)
  unfold maxLen at _w0
  by_cases h1 : 390 < s.size
  · clear hg hu
    go_enter Tryz.func9, Tryz.ntmps9
    go_wp2_with fail
    go_at_call 17
    refine CA.out.mono ?_
    rintro e w1 ⟨rfl, hb1⟩
    go_wp2_with fail
    go_ret
    exact ⟨rfl, hb1⟩
  cases hn : numB s.data.toList with
  | false =>
    rw [hn] at CN
    clear hg hu hn
    go_enter Tryz.func9, Tryz.ntmps9
    go_wp2_with fail
    go_at_call 17
    refine CA.out.mono ?_
    rintro e w1 ⟨rfl, hb1⟩
    go_wp2_with fail
    go_at_call 29
    refine (CN.out _).mono ?_
    rintro e w2 ⟨rfl, hw2⟩
    obtain rfl := hw2.symm
    go_wp2_with fail
    go_ret
    exact ⟨rfl, hb1⟩
  | true =>
    rw [hn] at CN
    have CP := hid (fun X (hX : Below w.heap.size w X) => jparse_any s X (by omega) (hg.on hX) (hu.on hX))
    rw [jrA_number hn (by rw [size_list]; omega)] at CP
    clear hg hu hn
    have HMK := hid (mkS_of s _ rfl)
    cases hi : intB s.data.toList with
    | true =>
      rw [hi] at CI
      have hT : numT s.data.toList = leafT 2 (intV s.data.toList) ⟨#[]⟩ := by unfold numT; rw [hi]; rfl
      rw [hT] at CP
      generalize intV s.data.toList = iv at CI CP
      clear hT hi
      go_enter Tryz.func9, Tryz.ntmps9
      go_wp2_with fail
      go_at_call 17
      refine CA.out.mono ?_
      rintro e w1 ⟨rfl, hb1⟩
      go_wp2_with fail
      go_at_call 29
      refine (CN.out _).mono ?_
      rintro e w2 ⟨rfl, hw2⟩
      obtain rfl := hw2.symm
      go_wp2_with fail
      go_at_call 18
      refine (CP.out _ hb1).mono ?_
      rintro e w3 ⟨o, n, c, o', n', c', rfl, hs3, hb3⟩
      have HB3 := hid (valloc_bel (valloc_bel (vonto hb1 hb3) (.cells #[.int .i64 2, .int .i64 iv, .string ⟨#[]⟩, .slice o n c, .slice o' n' c'] 27)) (.cells #[.int .i64 0, .int .i64 0, .int .i64 0, .int .i64 0] 30))
      clear hb1 hb3 hs3 CP CA
      simp only [vv, leafT, VT.kd, VT.nm, VT.st]
      go_wp2_with fail
      go_at_call 30
      refine (CI.out _).mono ?_
      rintro e w4 ⟨rfl, hw4⟩
      obtain rfl := hw4.symm
      go_wp2_with fail
      go_ret
      exact ⟨rfl, HB3.out⟩
    | false =>
      rw [hi] at CI
      have hT : numT s.data.toList = leafT 3 0 s := by unfold numT; rw [hi, ← HMK.out]; rfl
      rw [hT] at CP
      generalize intV s.data.toList = iv at CI
      clear hT hi
      go_enter Tryz.func9, Tryz.ntmps9
      go_wp2_with fail
      go_at_call 17
      refine CA.out.mono ?_
      rintro e w1 ⟨rfl, hb1⟩
      go_wp2_with fail
      go_at_call 29
      refine (CN.out _).mono ?_
      rintro e w2 ⟨rfl, hw2⟩
      obtain rfl := hw2.symm
      go_wp2_with fail
      go_at_call 18
      refine (CP.out _ hb1).mono ?_
      rintro e w3 ⟨o, n, c, o', n', c', rfl, hs3, hb3⟩
      have HB3 := hid (valloc_bel (valloc_bel (vonto hb1 hb3) (.cells #[.int .i64 3, .int .i64 0, .string s, .slice o n c, .slice o' n' c'] 27)) (.cells #[.int .i64 0, .int .i64 0, .int .i64 0, .int .i64 0] 30))
      clear hb1 hb3 hs3 CP CA
      simp only [vv, leafT, VT.kd, VT.nm, VT.st]
      go_wp2_with fail
      go_at_call 30
      refine (CI.out _).mono ?_
      rintro e w4 ⟨rfl, hw4⟩
      obtain rfl := hw4.symm
      go_wp2_with fail
      go_ret
      exact ⟨rfl, HB3.out⟩
end Go.Proofs.YtbeolgnognhfpaaGreatDoor
