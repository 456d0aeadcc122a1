/- Package dec, walked: read. -/
import Derived.Test.YtnpojefcibfgkabGreatDoorDecB
namespace Go.Proofs.YtnpojefcibfgkabGreatDoor
open Go.RowKit

theorem alloc_bel {w a : World} (h : Below w.heap.size w a) (o : Obj) : Below w.heap.size w (a.alloc o) := h.alloc h.size _
theorem set_bel {w a : World} {ad : Addr} {v : Value} (h : Below w.heap.size w a) (hb : w.heap.size ≤ ad.block) : Below w.heap.size w (a.setCell ad v) := h.setCell hb v
/-- what read answers -/
def rdA (l : List UInt8) : Value := .agg #[.int .i64 (rdS l), .string (mkS (rdD l)), .int .i64 (rdT l)]
def rdV (l : List UInt8) : Value := .tuple #[rdA l, .bool (numB l)]
theorem rdV_no (l : List UInt8) (h : numB l = false) : rdV l = .tuple #[noV, .bool false] := by
  unfold rdV rdA rdS rdD rdT; rw [h]; rfl
theorem rdA_yes (l : List UInt8) (h : numB l = true) : rdA l = plV (pNeg l) (pW l) (pF l) (rpV (pS l)) := by
  have hr : rpV (pS l) = pwV (pP l) := by
    have h1 := num_split l; rw [h] at h1
    have h2 : rpB (pS l) = true := by
      cases hb : rpB (pS l) with
      | true => rfl
      | false => rw [hb, Bool.and_false] at h1; cases h1
    unfold rpV; rw [if_pos h2]; rfl
  unfold rdA rdS rdD rdT; rw [if_pos h, if_pos h, if_pos h]
  unfold plV
  by_cases e : lst (pW l ++ pF l) = []
  · obtain ⟨h1, h2, h3⟩ := sc_zero l e
    rw [if_pos e, h3, h1, h2]; rfl
  · obtain ⟨h1, h2, h3⟩ := sc_some l e
    rw [if_neg e, h3, h1, h2, hr]
    rw [show ((pW l).length : Int) - 1 + pwV (pP l) - lz (pW l ++ pF l) = pwV (pP l) + (pW l).length - 1 - lz (pW l ++ pF l) by omega]
theorem num_no (l : List UInt8) (h : ¬ l.length ≤ 400 ∨ pWok l = false ∨ pFok l = false ∨ rpB (pS l) = false) : rdV l = .tuple #[noV, .bool false] := by
  refine rdV_no l ?_
  rw [num_split]
  rcases h with h | h | h | h
  · rw [decide_eq_false h]; rfl
  · rw [h]; simp
  · rw [h]; simp
  · rw [h]; simp
set_option maxRecDepth 100000 in
set_option maxHeartbeats 1000000 in
theorem read_any (s : ByteArray) (w : World) (hs : s.size ≤ maxLen) :
    Calls Tryz.prog 38 #[.string s] w fun e w' => e = .returned (rdV s.data.toList) ∧ Below w.heap.size w w' := by
  unfold maxLen at hs
  obtain ⟨l, hl⟩ : ∃ l, s.data.toList = l := ⟨_, rfl⟩
  have HL := hid hl
  have HZ := hid (show l.length = s.size by rw [← hl, size_list])
  rw [HL.out]
  clear hl
  by_cases h4 : s.size > 400
  · have HN := hid (num_no l (Or.inl (by rw [HZ.out]; omega)))
    go_enter Tryz.func38, Tryz.ntmps38
    go_wp2_with fail
    refine bodyPost_ret (v := .tuple #[noV, .bool false]) (by simp [results, Tryz.results38, go_sem, noV]) rfl ⟨?_, ?_⟩
    · rw [HN.out]
    · repeat (first | exact Below.refl _ _ | apply below_drewN | apply alloc_bel | refine set_bel (a := _) ?_ (Nat.le_refl w.heap.size))
  obtain ⟨u, hu⟩ : ∃ u, mkS (pU l) = u := ⟨_, rfl⟩
  obtain ⟨x, hx⟩ : ∃ u, mkS (pW l) = u := ⟨_, rfl⟩
  obtain ⟨y, hy⟩ : ∃ u, mkS (pR l) = u := ⟨_, rfl⟩
  obtain ⟨y1, hy1⟩ : ∃ u, mkS (if pDot l then (pR l).drop 1 else pR l) = u := ⟨_, rfl⟩
  obtain ⟨f, hf⟩ : ∃ u, mkS (pF l) = u := ⟨_, rfl⟩
  obtain ⟨z, hz⟩ : ∃ u, mkS (pS l) = u := ⟨_, rfl⟩
  have HX := hid (show x.data.toList = pW l by rw [← hx, mkS_list])
  have HY := hid (show y.data.toList = pR l by rw [← hy, mkS_list])
  have HF := hid (show f.data.toList = pF l by rw [← hf, mkS_list])
  have HS := hid (show z.data.toList = pS l by rw [← hz, mkS_list])
  have hbs : u.size ≤ 1000 ∧ y1.size ≤ 1000 ∧ x.size ≤ 400 ∧ f.size ≤ 400 ∧ z.size ≤ 1000 := by
    have h1 := pU_le l
    have h2 := congrArg List.length (pWR l)
    have h3 := parts_len l
    rw [List.length_append] at h2
    have h5 : l.length ≤ 400 := by rw [HZ.out]; omega
    have e1 : u.size = (pU l).length := by rw [← hu, mkS_size]
    have e2 : y1.size ≤ (pR l).length := by rw [← hy1, mkS_size]; split <;> simp
    have e3 : x.size = (pW l).length := by rw [← hx, mkS_size]
    have e4 : f.size = (pF l).length := by rw [← hf, mkS_size]
    have e5 : z.size ≤ (pR l).length := by
      rw [← hz, mkS_size]; unfold pS; split
      · have := (List.dropWhile_sublist isD (l := (pR l).drop 1)).length_le
        simp at this ⊢; omega
      · omega
    omega
  have cn : ∀ w, Calls Tryz.prog 47 #[.string s, .string ⟨#[45]⟩] w fun e w' => e = .returned (.tuple #[.string u, .bool (pNeg l)]) ∧ w' = w := fun w => by
    have := cutp_any s 45 w; rw [HL.out, (cut_neg l).1, (cut_neg l).2, hu] at this; exact this
  have cw : ∀ w, Calls Tryz.prog 48 #[.string u] w fun e w' => e = .returned (.tuple #[.string x, .string y]) ∧ ∃ n, w' = w.drewN n := fun w => by
    have := cutd_any u w (max_small hbs.1)
    rw [show u.data.toList = pU l by rw [← hu, mkS_list], show (pU l).takeWhile isD = pW l from rfl, show (pU l).dropWhile isD = pR l from rfl, hx, hy] at this; exact this
  have cd : ∀ w, Calls Tryz.prog 47 #[.string y, .string ⟨#[46]⟩] w fun e w' => e = .returned (.tuple #[.string y1, .bool (pDot l)]) ∧ w' = w := fun w => by
    have := cutp_any y 46 w; rw [HY.out, (cut_dot l).1, (cut_dot l).2, hy1] at this; exact this
  have cf : pDot l = true → ∀ w, Calls Tryz.prog 48 #[.string y1] w fun e w' => e = .returned (.tuple #[.string f, .string z]) ∧ ∃ n, w' = w.drewN n := fun hD w => by
    have := cutd_any y1 w (max_small hbs.2.1)
    rw [show y1.data.toList = (pR l).drop 1 by rw [← hy1, mkS_list, if_pos hD], show ((pR l).drop 1).takeWhile isD = pF l by unfold pF; rw [if_pos hD], show ((pR l).drop 1).dropWhile isD = pS l by unfold pS; rw [if_pos hD], hf, hz] at this; exact this
  have cp : ∀ w, Calls Tryz.prog 49 #[.string z] w fun e w' => e = .returned (.tuple #[.int .i64 (rpV (pS l)), .bool (rpB (pS l))]) ∧ ((∃ n, w' = w.drewN n) ∨ ∃ o n, w' = (w.alloc o).drewN n) := fun w => by
    have := readp_any z w hbs.2.2.2.2; rw [HS.out] at this; exact this
  have cl : ∀ w, Calls Tryz.prog 50 #[.bool (pNeg l), .string x, .string f, .int .i64 (rpV (pS l))] w fun e w' => e = .returned (plV (pNeg l) (pW l) (pF l) (rpV (pS l))) ∧ ((∃ o, w' = w.alloc o) ∨ ∃ o u, w' = (w.alloc o).alloc u) := fun w => by
    have := plain_any (pNeg l) x f (rpV (pS l)) w hbs.2.2.1 hbs.2.2.2.1 (rpV_bd _); rw [HX.out, HF.out] at this; exact this
  have HFE := hid (show pDot l = false → f = ⟨#[]⟩ ∧ z = y by
    intro hD; constructor
    · rw [← hf]; unfold pF; rw [hD]; rfl
    · rw [← hz, ← hy]; unfold pS; rw [hD]; rfl)
  clear hu hx hy hy1 hf hz
  go_enter Tryz.func38, Tryz.ntmps38
  go_upto_region 5 with (first
    | (go_at_call 47; go_must (refine (cn _).mono ?_; rintro e w' ⟨rfl, hw⟩; obtain rfl := hw.symm))
    | (go_at_call 48; go_must (refine (cw _).mono ?_; rintro e w' ⟨rfl, n, rfl⟩)))
  go_cut [37] from 12 (fun v wx => v = .bool (!pWok l) ∧ wx = (w.alloc (Obj.cells #[.int .i64 0, .string ⟨#[]⟩, .int .i64 0] 64)).drewN n)
  case first =>
    by_cases he : x.data.toList = []
    · have h1 := emp_yes x he
      have H := hid (show pWok l = false by unfold pWok; rw [← HX.out, he]; rfl)
      clear he
      go_wp2_with fail
      go_meet
      exact ⟨by rw [H.out]; rfl, rfl⟩
    · have h1 := emp_no x he
      have h0 := emp_size x he
      have E := hid (getD_at x 0 h0)
      have HE := hid he
      have HXS := hid (size_list x)
      clear he
      by_cases h2 : 1 < x.size
      · by_cases hm : x[0].toNat = 48
        · have h2 : ((x[0].toNat : Int) == 48) = true := byte_is _ _ hm
          have H := hid (show pWok l = false by unfold pWok; rw [← HX.out, E.out, hm, HXS.out]; simp; omega)
          clear hm
          go_wp2_with fail
          go_meet
          exact ⟨by rw [H.out]; rfl, rfl⟩
        · have h2 : ((x[0].toNat : Int) == 48) = false := byte_not _ _ hm
          have H := hid (show pWok l = true by unfold pWok; rw [← HX.out, E.out]; simp [hm]; simpa using HE.out)
          clear hm
          go_wp2_with fail
          go_meet
          exact ⟨by rw [H.out]; rfl, rfl⟩
      · have H := hid (show pWok l = true by unfold pWok; rw [← HX.out, HXS.out]; simp [h2]; simpa using HE.out)
        go_wp2_with fail
        go_meet
        exact ⟨by rw [H.out]; rfl, rfl⟩
  case rest =>
  obtain ⟨rfl, rfl⟩ := hcut
  cases hW : pWok l with
  | false =>
    go_wp2_with fail
    refine bodyPost_ret (v := .tuple #[noV, .bool false]) (by simp [results, Tryz.results38, go_sem, noV]) rfl ⟨?_, ?_⟩
    · rw [num_no l (Or.inr (Or.inl hW))]
    · repeat (first | exact Below.refl _ _ | apply below_drewN | apply alloc_bel | refine set_bel (a := _) ?_ (Nat.le_refl w.heap.size))
  | true =>
  go_upto_if 44 with (go_at_call 47; go_must (refine (cd _).mono ?_; rintro e w' ⟨rfl, hw⟩; obtain rfl := hw.symm))
  go_cut [4, 7, 9] from 12 (fun v g b wx => v = .string z ∧ g = .string f ∧ b = .bool (pDot l) ∧ Hid (pFok l = true) ∧ ∃ n, wx = (w.alloc (Obj.cells #[.int .i64 0, .string ⟨#[]⟩, .int .i64 0] 64)).drewN n)
  case first =>
    cases hD : pDot l with
    | false =>
      obtain ⟨h1, h2⟩ := HFE.out hD
      have H3 := hid (show pFok l = true by unfold pFok; rw [hD]; rfl)
      have H1 := hid h1
      have H2 := hid h2
      clear h1 h2
      go_wp2_with fail
      go_meet
      exact ⟨by rw [H2.out], by rw [H1.out], by rw [hD], H3, _, rfl⟩
    | true =>
      have cf := cf hD
      by_cases he : f.data.toList = []
      · have h2 := emp_yes f he
        have H := hid (show pFok l = false by unfold pFok; rw [hD, ← HF.out, he]; rfl)
        clear he
        go_wp2_with (go_at_call 48; go_must (refine (cf _).mono ?_; rintro e w' ⟨rfl, n, rfl⟩))
        refine bodyPost_ret (v := .tuple #[noV, .bool false]) (by simp [results, Tryz.results38, go_sem, noV]) rfl ⟨?_, ?_⟩
        · rw [num_no l (Or.inr (Or.inr (Or.inl H.out)))]
        · repeat (first | exact Below.refl _ _ | apply below_drewN | apply alloc_bel | refine set_bel (a := _) ?_ (Nat.le_refl w.heap.size))
      · have h2 := emp_no f he
        have H := hid (show pFok l = true by unfold pFok; rw [hD, ← HF.out]; simp; simpa using he)
        clear he
        go_wp2_with (go_at_call 48; go_must (refine (cf _).mono ?_; rintro e w' ⟨rfl, n, rfl⟩))
        go_meet
        exact ⟨rfl, rfl, by rw [hD], H, _, rfl⟩
  case rest =>
  obtain ⟨rfl, rfl, rfl, HO, k, rfl⟩ := hcut
  cases hB : rpB (pS l) with
  | false =>
    have HB := hid (num_no l (Or.inr (Or.inr (Or.inr hB))))
    rw [hB] at cp
    go_wp2_with (go_at_call 49; go_must (refine (cp _).mono ?_; rintro e w' ⟨rfl, ⟨m, rfl⟩ | ⟨o, m, rfl⟩⟩))
    all_goals
      refine bodyPost_ret (v := .tuple #[noV, .bool false]) (by simp [results, Tryz.results38, go_sem, noV]) rfl ⟨?_, ?_⟩
      · rw [HB.out]
      · repeat (first | exact Below.refl _ _ | apply below_drewN | apply alloc_bel | refine set_bel (a := _) ?_ (Nat.le_refl w.heap.size))
  | true =>
    have hN : numB l = true := by rw [num_split, hW, HO.out, hB, HZ.out, decide_eq_true (by omega)]; rfl
    have HN := hid hN
    rw [hB] at cp
    rw [← rdA_yes l hN] at cl
    unfold rdA at cl
    clear hN
    go_wp2_with (first
      | (go_at_call 49; go_must (refine (cp _).mono ?_; rintro e w' ⟨rfl, ⟨m, rfl⟩ | ⟨o, m, rfl⟩⟩))
      | (go_at_call 50; go_must (refine (cl _).mono ?_; rintro e w' ⟨rfl, ⟨o1, rfl⟩ | ⟨o1, o2, rfl⟩⟩)))
    all_goals
      refine bodyPost_ret (v := .tuple #[rdA l, .bool true]) (by simp [results, Tryz.results38, go_sem, rdA]) rfl ⟨?_, ?_⟩
      · unfold rdV; rw [HN.out]
      · repeat (first | exact Below.refl _ _ | apply below_drewN | apply alloc_bel | refine set_bel (a := _) ?_ (Nat.le_refl w.heap.size))
end Go.Proofs.YtnpojefcibfgkabGreatDoor
