/- Plain mathematics of JSON's words: a text with blanks about each word. -/
import Derived.Test.YtoamndiblckdlaaGreatDoorMathLexB
namespace Go.Proofs.YtoamndiblckdlaaGreatDoor
open Go.RowKit

/-- the text with blanks about each word -/
def blS (T : List UInt8) : List Wd → List UInt8
  | [] => []
  | x :: r => match r with
    | [] => []
    | y :: _ => [32, 10] ++ ((T.drop x.at_).take (y.at_ - x.at_) ++ ([9, 13] ++ blS T r))
theorem blS_one (T : List UInt8) (x : Wd) : blS T [x] = [] := rfl
theorem blS_two (T : List UInt8) (x y : Wd) (r : List Wd) : blS T (x :: y :: r) = [32, 10] ++ ((T.drop x.at_).take (y.at_ - x.at_) ++ ([9, 13] ++ blS T (y :: r))) := rfl
theorem Wds.some {T : List UInt8} {i : Nat} {ws : List Wd} (h : Wds T i ws) : ∃ y r, ws = y :: r ∧ i ≤ y.at_ ∧ y.at_ ≤ T.length ∧ (∀ k (h : k < T.length), i ≤ k → k < y.at_ → blB T[k] = true) ∧ (∀ b, T[y.at_]? = some b → blB b = false) := by
  cases h with
  | stop _ h1 h2 => exact ⟨_, _, rfl, h1, Nat.le_refl _, fun k hk hp _ => h2 k hk hp, fun b hb => by rw [List.getElem?_eq_none (Nat.le_refl _)] at hb; cases hb⟩
  | word _ j h1 h2 h3 h4 h5 ws r => exact ⟨_, _, rfl, h1, Nat.le_of_lt h2, h3, fun b hb => by rw [at_q h2] at hb; injection hb with hb; rw [← hb]; exact h4⟩
theorem Wds.count {T : List UInt8} {i : Nat} {ws : List Wd} (h : Wds T i ws) : i + ws.length ≤ T.length + 1 := by
  induction h with
  | stop i h1 h2 => simp; omega
  | word i j h1 h2 h3 h4 h5 ws r ih =>
    have := (lw_good (at_q h2) h4 h5).2.1
    rw [List.length_cons]; omega
theorem Wds.size {T : List UInt8} {i : Nat} {ws : List Wd} (h : Wds T i ws) : ∀ x r, ws = x :: r → x.at_ + (blS T ws).length + 4 ≤ T.length + 4 * ws.length := by
  induction h with
  | stop i h1 h2 =>
    intro x r e
    injection e with e1 e2; subst e1 e2
    rw [blS_one]; simp
  | word i j h1 h2 h3 h4 h5 ws r ih =>
    intro x r2 e
    injection e with e1 e2; subst e1 e2
    obtain ⟨y, t, rfl, g1, g2, -, -⟩ := r.some
    have ih2 := ih y t rfl
    rw [blS_two]
    simp only [List.length_append, List.length_cons, List.length_nil, List.length_take, List.length_drop] at ih2 ⊢
    have := (lw_good (at_q h2) h4 h5).2.1
    omega
theorem Wds.blanks {T : List UInt8} {ws : List Wd} : ∀ (n i : Nat), i + n ≤ T.length → (∀ k (h : k < T.length), i ≤ k → k < i + n → blB T[k] = true) → Wds T (i + n) ws → Wds T i ws
  | 0, i, _, _, r => r
  | n + 1, i, hl, hb, r => by
    refine Wds.blank (by omega) (hb i (by omega) (Nat.le_refl _) (by omega)) (Wds.blanks n (i + 1) (by omega) (fun k h h1 h2 => hb k h (by omega) (by omega)) ?_)
    rw [show i + 1 + n = i + (n + 1) by omega]; exact r
theorem wds_lx {T : List UInt8} {i : Nat} {ws : List Wd} (h : Wds T i ws) : ∀ (f : Nat) (acc : List Wd), T.length < i + f → lx T f i acc = (acc ++ ws, 0, 0) := by
  induction h with
  | stop i h1 h2 =>
    intro f acc hf
    obtain ⟨f', r1, r2, r3, -⟩ := lx_row (T := T) (acc := acc) (T.length - i) i f (by omega) hf
    have hr : run blB (T.drop i) = T.length - i := by
      refine run_is _ (by rw [List.length_drop]; exact Nat.le_refl _) (fun k hk _ => ?_) (fun hh => by rw [List.length_drop] at hh; omega)
      rw [List.getElem_drop]; exact h2 _ _ (by omega)
    rw [r1, hr, show i + (T.length - i) = T.length by omega]
    rw [hr] at r2
    exact lx_end (by omega) (Nat.le_refl _) (Nat.le_refl _)
  | word i j h1 h2 h3 h4 h5 ws r ih =>
    intro f acc hf
    obtain ⟨f', r1, r2, r3, -⟩ := lx_row (T := T) (acc := acc) (T.length - i) i f (by omega) hf
    have hr : run blB (T.drop i) = j - i := by
      refine run_is _ (by rw [List.length_drop]; omega) (fun k hk hkn => ?_) (fun hh => ?_)
      · rw [List.getElem_drop]; exact h3 _ _ (by omega) (by omega)
      · rw [List.getElem_drop]
        have e : i + (j - i) = j := by omega
        simp only [e]; exact h4
    rw [hr, show i + (j - i) = j by omega] at r1 r2
    obtain ⟨g1, g2, g3⟩ := lw_good (at_q h2) h4 h5
    obtain ⟨f2, r5, r6⟩ := lx_word (acc := acc) r2 h2 h5 g1 g2
    rw [r1, r5, ih _ _ r6, List.append_assoc]; rfl
/-- the same kinds and texts -/
def sameW (a b : List Wd) : Prop := a.map (fun x => (x.kd, x.tx)) = b.map (fun x => (x.kd, x.tx))
theorem app_at {A B : List UInt8} {k : Nat} : (A ++ B)[A.length + k]? = B[k]? := by
  rw [List.getElem?_append_right (by omega), Nat.add_sub_cancel_left]
theorem app_get {A B : List UInt8} {k : Nat} (h : k < (A ++ B).length) (hk : A.length ≤ k) (h2 : k - A.length < B.length) : (A ++ B)[k] = B[k - A.length] := by
  rw [List.getElem_append_right hk]
/-- blanks about each word change nothing but places -/
theorem blS_wds {T : List UInt8} {i : Nat} {ws : List Wd} (h : Wds T i ws) : ∀ A : List UInt8, ∃ ws', Wds (A ++ blS T ws) A.length ws' ∧ sameW ws ws' := by
  induction h with
  | stop i h1 h2 =>
    intro A
    refine ⟨[⟨0, [], (A ++ blS T [⟨0, [], T.length⟩]).length⟩], .stop _ ?_ (fun k hk hp => ?_), rfl⟩
    · rw [blS_one]; simp
    · rw [blS_one] at hk; simp at hk; omega
  | word i j h1 h2 h3 h4 h5 ws r ih =>
    intro A
    obtain ⟨y, t, rfl, g1, g2, g3, g4⟩ := r.some
    obtain ⟨k1, k2, k3⟩ := lw_good (at_q h2) h4 h5
    rw [blS_two]
    simp only
    have hCl : ((T.drop j).take (y.at_ - j)).length = y.at_ - j := by rw [List.length_take, List.length_drop]; omega
    have hCg : ∀ k, k < y.at_ - j → ((T.drop j).take (y.at_ - j))[k]? = T[j + k]? := fun k hk => by
      rw [List.getElem?_take, if_pos hk, List.getElem?_drop]
    obtain ⟨C, hC⟩ : ∃ C, (T.drop j).take (y.at_ - j) = C := ⟨_, rfl⟩
    rw [hC] at hCl hCg ⊢
    obtain ⟨U, hU⟩ : ∃ U, blS T (y :: t) = U := ⟨_, rfl⟩
    rw [hU] at ih ⊢
    obtain ⟨ws', w1, w2⟩ := ih (A ++ ([32, 10] ++ (C ++ [9, 13])))
    have hN : A ++ ([32, 10] ++ (C ++ [9, 13])) ++ U = A ++ ([32, 10] ++ (C ++ ([9, 13] ++ U))) := by simp
    rw [hN] at w1
    obtain ⟨N, hNN⟩ : ∃ N, A ++ ([32, 10] ++ (C ++ ([9, 13] ++ U))) = N := ⟨_, rfl⟩
    rw [hNN] at w1 ⊢
    have hl : (A ++ ([32, 10] ++ (C ++ [9, 13]))).length = A.length + 4 + (y.at_ - j) := by
      simp only [List.length_append, List.length_cons, List.length_nil]; omega
    rw [hl] at w1
    have hNl : A.length + 4 + (y.at_ - j) ≤ N.length := by
      rw [← hNN]; simp only [List.length_append, List.length_cons, List.length_nil]; omega
    have n0 : N[A.length]? = some 32 := by
      have := app_at (A := A) (B := [32, 10] ++ (C ++ ([9, 13] ++ U))) (k := 0); rw [hNN] at this; exact this
    have n1 : N[A.length + 1]? = some 10 := by
      have := app_at (A := A) (B := [32, 10] ++ (C ++ ([9, 13] ++ U))) (k := 1); rw [hNN] at this; exact this
    have nC : ∀ k, N[A.length + 2 + k]? = (C ++ ([9, 13] ++ U))[k]? := fun k => by
      have := app_at (A := A) (B := [32, 10] ++ (C ++ ([9, 13] ++ U))) (k := 2 + k); rw [hNN] at this
      rw [show A.length + 2 + k = A.length + (2 + k) by omega, this]
      exact app_at (A := [32, 10]) (B := C ++ ([9, 13] ++ U)) (k := k)
    have nD : ∀ k, k < y.at_ - j → N[A.length + 2 + k]? = T[j + k]? := fun k hk => by
      rw [nC, List.getElem?_append_left (by omega)]; exact hCg k hk
    have n9 : N[A.length + 2 + (y.at_ - j)]? = some 9 := by
      rw [nC, ← hCl]; exact app_at (A := C) (B := [9, 13] ++ U) (k := 0)
    have n13 : N[A.length + 2 + (y.at_ - j + 1)]? = some 13 := by
      rw [nC, ← hCl]; exact app_at (A := C) (B := [9, 13] ++ U) (k := 1)
    have hnx : (lw T j).nx - j ≤ y.at_ - j := by omega
    -- what follows the word in the new text is a blank
    have hfol : ∃ c, N[A.length + 2 + ((lw T j).nx - j)]? = some c ∧ blB c = true := by
      by_cases he : (lw T j).nx = y.at_
      · rw [he]; exact ⟨9, n9, by decide⟩
      · have hlt : (lw T j).nx < T.length := by omega
        refine ⟨T[(lw T j).nx], ?_, g3 _ hlt (Nat.le_refl _) (by omega)⟩
        rw [nD _ (by omega), show j + ((lw T j).nx - j) = (lw T j).nx by omega]; exact at_q hlt
    obtain ⟨c, hc1, hc2⟩ := hfol
    have hloc := lw_local (T := T) (N := N) (j := j) (q := A.length + 2) h2 h4 h5 (fun k hk => (nD k (by omega)).symm) hc1 hc2
    have hq : A.length + 2 < N.length := by
      have := nD 0 (by omega); simp only [Nat.add_zero] at this; rw [at_q h2] at this
      exact (List.getElem?_eq_some_iff.1 this).1
    have hq2 : N[A.length + 2] = T[j] := by
      have := nD 0 (by omega); simp only [Nat.add_zero] at this; rw [at_q h2] at this
      exact (List.getElem?_eq_some_iff.1 this).2
    have key : Wds N A.length (⟨(lw N (A.length + 2)).kd, (lw N (A.length + 2)).tx, A.length + 2⟩ :: ws') := by
      refine .word A.length (A.length + 2) (by omega) hq (fun k hk hk1 hk2 => ?_) (by rw [hq2]; exact h4) (by rw [hloc]) ws' ?_
      · by_cases e : k = A.length
        · subst e; rw [(List.getElem?_eq_some_iff.1 n0).2]; decide
        · obtain rfl : k = A.length + 1 := by omega
          rw [(List.getElem?_eq_some_iff.1 n1).2]; decide
      · rw [hloc]
        simp only
        refine Wds.blanks (y.at_ - (lw T j).nx + 2) _ (by omega) (fun k hk hk1 hk2 => ?_) ?_
        · obtain ⟨d, rfl⟩ : ∃ d, k = A.length + 2 + d := ⟨k - (A.length + 2), by omega⟩
          by_cases e1 : d < y.at_ - j
          · have := nD d e1
            have hd : j + d < T.length := by omega
            rw [at_q hd] at this
            rw [(List.getElem?_eq_some_iff.1 this).2]
            exact g3 _ hd (by omega) (by omega)
          · by_cases e2 : d = y.at_ - j
            · subst e2; rw [(List.getElem?_eq_some_iff.1 n9).2]; decide
            · obtain rfl : d = y.at_ - j + 1 := by omega
              rw [(List.getElem?_eq_some_iff.1 n13).2]; decide
        · rw [show A.length + 2 + ((lw T j).nx - j) + (y.at_ - (lw T j).nx + 2) = A.length + 4 + (y.at_ - j) by omega]; exact w1
    rw [hloc] at key
    refine ⟨_, key, ?_⟩
    unfold sameW at w2 ⊢
    simp only [List.map_cons] at w2 ⊢
    rw [w2]
/-- a word's first byte stands alone -/
theorem first_ascii {T : List UInt8} {j : Nat} (hj : j < T.length) (hbl : blB T[j] = false) (he : (lw T j).er = 0) : T[j].toNat < 128 := by
  cases hsg : sgnB T[j] with
  | true => unfold sgnB at hsg; have := of_decide_eq_true hsg; omega
  | false =>
    by_cases hq : T[j].toNat = 34
    · omega
    · cases hn : numS T[j] with
      | true => unfold numS at hn; have := of_decide_eq_true hn; omega
      | false =>
        have e := lw_lt (at_q hj) hbl hsg hq hn
        cases hlo : lowC T[j] with
        | true => unfold lowC at hlo; have := of_decide_eq_true hlo; omega
        | false =>
          rw [e] at he
          unfold lwL at he
          have hr : run lowC (T.drop j) = 0 := by
            refine run_is 0 (Nat.zero_le _) (fun k _ hk => absurd hk (by omega)) (fun hl => ?_)
            rw [List.getElem_drop]; exact hlo
          rw [hr, List.take_zero, if_neg (by decide)] at he
          simp at he
theorem vl_from {T : List UInt8} {j : Nat} (hj : j < T.length) (hb : T[j].toNat < 128) (h : Vl T) : Vl (T.take j) ∧ Vl (T.drop j) := by
  have e : T = T.take j ++ T[j] :: T.drop (j + 1) := by rw [← List.drop_eq_getElem_cons hj, List.take_append_drop]
  rw [e] at h
  have := Vl.split _ _ _ _ (Nat.le_refl _) hb h
  rw [List.drop_eq_getElem_cons hj]; exact this
theorem blS_vl {T : List UInt8} (hV : Vl T) {i : Nat} {ws : List Wd} (h : Wds T i ws) : Vl (blS T ws) := by
  induction h with
  | stop i h1 h2 => exact .nil
  | word i j h1 h2 h3 h4 h5 ws r ih =>
    have hlast : ∀ y t, ws = y :: t → Vl (T.drop j) → Vl ((T.drop j).take (y.at_ - j)) := by
      intro y t hy hd
      subst hy
      have k2 := (lw_good (at_q h2) h4 h5).2.1
      cases r with
      | stop _ g1 g2 =>
        simp only
        rw [List.take_of_length_le (by rw [List.length_drop]; exact Nat.le_refl _)]; exact hd
      | word _ j2 g1 g2 g3 g4 g5 _ r2 =>
        simp only
        have hj2 : j2 - j < (T.drop j).length := by rw [List.length_drop]; omega
        have hb := first_ascii g2 g4 g5
        have hb2 : ((T.drop j)[j2 - j]).toNat < 128 := by
          rw [List.getElem_drop]
          have e : j + (j2 - j) = j2 := by omega
          simp only [e]; exact hb
        exact (vl_from hj2 hb2 hd).1
    obtain ⟨y, t, rfl, g1, g2, g3, g4⟩ := r.some
    rw [blS_two]
    have hd := (vl_from h2 (first_ascii h2 h4 h5) hV).2
    exact (vl_ascii (by decide)).app ((hlast y t rfl hd).app ((vl_ascii (by decide)).app ih))
/-- the text with blanks about its words is cut into the same -/
theorem cut_blanks {T : List UInt8} (h : (cutA T).2.1 = 0) (hl : T.length ≤ 1500) : ∃ ws', cutA (blS T (cutA T).1) = (ws', 0, 0) ∧ sameW (cutA T).1 ws' ∧ (blS T (cutA T).1).length ≤ 7500 := by
  have hw := cut_wds h
  have hV : Vl T := by
    rw [vl_rv]
    unfold cutA at h
    rw [if_neg (by omega)] at h
    by_cases h2 : 0 ≤ rvI T
    · rw [if_pos h2] at h; simp at h
    · omega
  obtain ⟨ws, hws⟩ : ∃ ws, (cutA T).1 = ws := ⟨_, rfl⟩
  rw [hws] at hw ⊢
  obtain ⟨ws', w1, w2⟩ := blS_wds hw []
  rw [List.nil_append] at w1
  have w3 : Wds (blS T ws) 0 ws' := w1
  have hc := hw.count
  obtain ⟨y, t, hy, -⟩ := hw.some
  have hz := hw.size y t hy
  have hu : (blS T ws).length ≤ 7500 := by omega
  refine ⟨ws', ?_, w2, hu⟩
  rw [cut_of_lx (by omega) (vl_rv.1 (blS_vl hV hw))]
  rw [wds_lx w3 _ _ (by omega), List.nil_append]
end Go.Proofs.YtoamndiblckdlaaGreatDoor
