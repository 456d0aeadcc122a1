import Derived.Test.YtbeolgnognhfpaaGreatDoorJxTwo
import Derived.Test.YtbeolgnognhfpaaGreatDoorMathJ
/- Plain mathematics of JSON's words: a number alone between blanks. -/
/- Plain mathematics of JSON's words: where they stand, one behind the other. -/
/- Plain mathematics of JSON's words: blanks between words change nothing but places. -/
namespace Go.Proofs.YtbeolgnognhfpaaGreatDoor
open Go.RowKit

theorem ascii_vld (l : List UInt8) (h : ∀ b ∈ l, b.toNat < 128) : ∀ j < cnt l, tkN (l.drop (pos l j)) ≠ 0 := by
  intro j hj
  have hp := (cnt_has l).2 j hj
  rw [List.drop_eq_getElem_cons hp, (tk_n1 (h _ (List.getElem_mem _))).1]
  decide
theorem ascii_rv (l : List UInt8) (h : ∀ b ∈ l, b.toNat < 128) : rvI l = -1 := rv_yes l (vld_mk l (ascii_vld l h))
theorem run_app {p : UInt8 → Bool} {l m : List UInt8} {b : UInt8} (h : ∀ x ∈ l, p x = true) (hb : p b = false) : run p (l ++ b :: m) = l.length := by
  unfold run
  rw [List.takeWhile_append_of_pos h, List.takeWhile_cons, if_neg (by simp [hb]), List.append_nil]
theorem cut_of_lx {T : List UInt8} (h1 : T.length ≤ 65536) (h2 : rvI T < 0) : cutA T = lx T (T.length + 1) 0 [] := by
  unfold cutA; rw [if_neg (by omega), if_neg (by omega)]
theorem cut_num (S : List UInt8) (s0 : UInt8) (S' : List UInt8) (hS : S = s0 :: S') (h2 : S.length ≤ 390) (hall : ∀ b ∈ S, numC b = true) (h0 : numS s0 = true) :
    (pOk S = false → cutA (32 :: (S ++ [32])) = ([], 4, 1)) ∧ (pOk S = true → pwOk (pP S) = false → cutA (32 :: (S ++ [32])) = ([], 6, 1)) ∧ (pOk S = true → pwOk (pP S) = true → cutA (32 :: (S ++ [32])) = ([⟨3, S, 1⟩, ⟨0, [], S.length + 2⟩], 0, 0)) := by
  obtain ⟨T, hT⟩ : ∃ T, 32 :: (S ++ [32]) = T := ⟨_, rfl⟩
  rw [hT]
  have hl : T.length = S.length + 2 := by rw [← hT]; simp
  have hrv : rvI T = -1 := ascii_rv T (by
    rw [← hT]; intro b hb
    simp only [List.mem_cons, List.mem_append, List.not_mem_nil, or_false] at hb
    rcases hb with rfl | hb | rfl
    · decide
    · exact numC_lt (hall b hb)
    · decide)
  have e1 : T[0]? = some 32 := by rw [← hT]; rfl
  have e2 : T[1]? = some s0 := by rw [← hT, hS]; rfl
  have e3 : T.drop 1 = S ++ [32] := by rw [← hT]; rfl
  have e4 : T[S.length + 1]? = some 32 := by
    rw [← hT, List.getElem?_cons_succ, List.getElem?_append_right (Nat.le_refl _)]; simp
  have hr : run numC (T.drop 1) = S.length := by rw [e3]; exact run_app hall (by decide)
  have hw0 : lw T 0 = ⟨9, [], 1, 0, 0⟩ := lw_bl e1 (by decide)
  have hbl : blB s0 = false := by
    unfold numS at h0; have := of_decide_eq_true h0
    unfold blB; exact decide_eq_false (by omega)
  have hsg : sgnB s0 = false := by
    unfold numS at h0; have := of_decide_eq_true h0
    unfold sgnB; exact decide_eq_false (by omega)
  have hq : s0.toNat ≠ 34 := by unfold numS at h0; have := of_decide_eq_true h0; omega
  have hw1 : lw T 1 = lwN T 1 := lw_nm e2 hbl hsg hq h0
  have hw2 : lw T (S.length + 1) = ⟨9, [], S.length + 1 + 1, 0, 0⟩ := lw_bl e4 (by decide)
  have hP : (T.drop 1).take (run numC (T.drop 1)) = S := by rw [hr, e3]; exact List.take_left
  have hc := cut_of_lx (T := T) (by omega) (by omega)
  obtain ⟨f1, r1, r2⟩ := lx_blank (T := T) (f := T.length + 1) (i := 0) (acc := []) (by omega) (by omega) (by rw [hw0]) (by rw [hw0]) (by rw [hw0]; decide)
  rw [hw0] at r1 r2
  simp only at r1 r2
  have hlw : lw T 1 = if pOk S = false then ⟨0, [], 0, 4, 1⟩ else if pwOk (pP S) = false then ⟨0, [], 0, 6, 1⟩ else ⟨3, S, 1 + S.length, 0, 0⟩ := by
    rw [hw1]; unfold lwN; rw [hP, hr, if_neg (by omega)]
  refine ⟨fun h => ?_, fun h g => ?_, fun h g => ?_⟩
  · rw [if_pos h] at hlw
    rw [hc, r1, lx_bad r2 (by omega) (by rw [hlw]; decide), hlw]
  · rw [if_neg (by rw [h]; decide), if_pos g] at hlw
    rw [hc, r1, lx_bad r2 (by omega) (by rw [hlw]; decide), hlw]
  · rw [if_neg (by rw [h]; decide), if_neg (by rw [g]; decide)] at hlw
    obtain ⟨f2, r3, r4⟩ := lx_word (T := T) (f := f1) (i := 1) (acc := []) r2 (by omega) (by rw [hlw]) (by rw [hlw]; simp) (by rw [hlw]; simp only; rw [hS, List.length_cons]; omega)
    rw [hlw] at r3 r4
    simp only at r3 r4
    rw [Nat.add_comm 1 S.length] at r3 r4
    obtain ⟨f3, r5, r6⟩ := lx_blank (T := T) (f := f2) (i := S.length + 1) (acc := [⟨3, S, 1⟩]) (by omega) (by omega) (by rw [hw2]) (by rw [hw2]) (by rw [hw2]; simp only; omega)
    rw [hw2] at r5 r6
    simp only at r5 r6
    rw [hc, r1, r3]
    simp only [List.nil_append]
    rw [r5, lx_end (by omega) (by omega) (by omega), hl]; rfl
end Go.Proofs.YtbeolgnognhfpaaGreatDoor
namespace Go.Proofs.YtbeolgnognhfpaaGreatDoor
open Go.RowKit

/-- the way to a string's closing sign, byte by byte, two at a stroke -/
inductive Sc (T : List UInt8) : Nat → Nat → Prop
  | stop (p : Nat) (h : T[p]? = some 34) : Sc T p p
  | plain (p q : Nat) (b : UInt8) (h : T[p]? = some b) (h1 : b.toNat ≠ 34) (h2 : b.toNat ≠ 92) (r : Sc T (p + 1) q) : Sc T p q
  | stroke (p q : Nat) (h : T[p]? = some 92) (h2 : p + 1 < T.length) (r : Sc T (p + 2) q) : Sc T p q
theorem Sc.plains {T : List UInt8} {q : Nat} : ∀ (n p : Nat), (∀ k, p ≤ k → k < p + n → ∃ b, T[k]? = some b ∧ b.toNat ≠ 34 ∧ b.toNat ≠ 92) → Sc T (p + n) q → Sc T p q
  | 0, p, _, r => r
  | n + 1, p, h, r => by
    obtain ⟨b, hb, h1, h2⟩ := h p (Nat.le_refl _) (by omega)
    exact .plain p q b hb h1 h2 (Sc.plains n (p + 1) (fun k hk hk2 => h k (by omega) (by omega)) (by rw [show p + 1 + n = p + (n + 1) by omega]; exact r))
theorem bt_get {l : List UInt8} {k n : Nat} (h : bt l k = n) (hn : n < 256) : ∃ b, l[k]? = some b ∧ b.toNat = n := by
  have hk := bt_lt (l := l) (k := k) (by omega)
  refine ⟨l[k], List.getElem?_eq_getElem hk, ?_⟩
  rw [bt_some (List.getElem?_eq_getElem hk)] at h; exact h
theorem bt_is {l : List UInt8} {k : Nat} {c : UInt8} (h : bt l k = c.toNat) : l[k]? = some c := by
  obtain ⟨b, hb, he⟩ := bt_get h c.toNat_lt
  rw [hb, UInt8.toNat_inj.1 he]
theorem hx_not {b : UInt8} (h : hxI b = true) : b.toNat ≠ 34 ∧ b.toNat ≠ 92 := by
  unfold hxI at h; simp at h; omega
theorem cdI_hex {l : List UInt8} {k n : Nat} (h : 0 ≤ cdI l k n) : k + n ≤ l.length ∧ ∀ j, j < n → ∃ b, l[k + j]? = some b ∧ b.toNat ≠ 34 ∧ b.toNat ≠ 92 := by
  unfold cdI at h
  by_cases hc : k + n ≤ l.length ∧ hexB ((l.drop k).take n) = true
  · refine ⟨hc.1, fun j hj => ?_⟩
    have h1 : k + j < l.length := by omega
    refine ⟨l[k + j], List.getElem?_eq_getElem h1, hx_not ?_⟩
    have h2 := hc.2
    unfold hexB at h2
    rw [Bool.and_eq_true, List.all_eq_true] at h2
    refine h2.2 _ ?_
    have h3 : j < ((l.drop k).take n).length := by rw [List.length_take, List.length_drop]; omega
    have : ((l.drop k).take n)[j] = l[k + j] := by rw [List.getElem_take, List.getElem_drop]
    rw [← this]; exact List.getElem_mem _
  · rw [if_neg hc] at h; omega
theorem drop_q {T : List UInt8} {p k : Nat} : (T.drop p)[k]? = T[p + k]? := by rw [List.getElem?_drop]
/-- a piece of a string is passed -/
theorem js_sc {T : List UInt8} {p q : Nat} (h0 : bt (T.drop p) 0 ≠ 34) (hn : 0 < (jsP (T.drop p)).2) (r : Sc T (p + (jsP (T.drop p)).2) q) : Sc T p q := by
  unfold jsP at hn r
  by_cases h1 : bt (T.drop p) 0 = 92
  · rw [if_pos h1] at hn r
    have e0 : T[p]? = some 92 := by have := bt_is (c := 92) h1; rw [drop_q] at this; exact this
    unfold escP at hn r
    by_cases h2 : nmV false (bt (T.drop p) 1) < 256
    · rw [if_pos h2] at r
      have h3 : bt (T.drop p) 1 < 256 := by
        rcases Nat.lt_or_ge (bt (T.drop p) 1) 256 with h | h
        · exact h
        · unfold nmV at h2
          repeat' split at h2
          all_goals omega
      have h4 := bt_lt h3
      rw [List.length_drop] at h4
      exact .stroke p q e0 (by omega) r
    · rw [if_neg h2] at hn r
      rw [if_neg (by simp)] at hn r
      by_cases h3 : bt (T.drop p) 1 = 117
      · rw [if_pos h3] at hn r
        have h4 := bt_lt (l := T.drop p) (k := 1) (by omega)
        rw [List.length_drop] at h4
        refine .stroke p q e0 (by omega) ?_
        unfold escU at hn r
        by_cases h5 : 0 ≤ cdI (T.drop p) 2 4 ∧ goodB (cdI (T.drop p) 2 4) = true
        · rw [if_pos h5] at r
          obtain ⟨h6, h7⟩ := cdI_hex h5.1
          refine Sc.plains 4 (p + 2) (fun k hk hk2 => ?_) r
          obtain ⟨b, hb, hb1⟩ := h7 (k - (p + 2)) (by omega)
          rw [drop_q, show p + (2 + (k - (p + 2))) = k by omega] at hb
          exact ⟨b, hb, hb1⟩
        · rw [if_neg h5] at hn r
          by_cases h6 : false = false ∧ 55296 ≤ cdI (T.drop p) 2 4 ∧ cdI (T.drop p) 2 4 < 56320 ∧ bt (T.drop p) 6 = 92 ∧ bt (T.drop p) 7 = 117 ∧ 56320 ≤ cdI (T.drop p) 8 4 ∧ cdI (T.drop p) 8 4 < 57344
          · rw [if_pos h6] at r
            obtain ⟨-, g1, -, g2, -, g3, -⟩ := h6
            obtain ⟨-, h7⟩ := cdI_hex (l := T.drop p) (k := 2) (n := 4) (by omega)
            obtain ⟨h9, h8⟩ := cdI_hex (l := T.drop p) (k := 8) (n := 4) (by omega)
            rw [List.length_drop] at h9
            refine Sc.plains 4 (p + 2) (fun k hk hk2 => ?_) (.stroke (p + 2 + 4) q ?_ (by omega) (Sc.plains 4 (p + 2 + 4 + 2) (fun k hk hk2 => ?_) r))
            · obtain ⟨b, hb, hb1⟩ := h7 (k - (p + 2)) (by omega)
              rw [drop_q, show p + (2 + (k - (p + 2))) = k by omega] at hb
              exact ⟨b, hb, hb1⟩
            · have := bt_is (c := 92) g2; rw [drop_q] at this; exact this
            · obtain ⟨b, hb, hb1⟩ := h8 (k - (p + 8)) (by omega)
              rw [drop_q, show p + (8 + (k - (p + 8))) = k by omega] at hb
              exact ⟨b, hb, hb1⟩
          · rw [if_neg h6] at hn; simp at hn
      · rw [if_neg h3] at hn; simp at hn
  · rw [if_neg h1] at hn r
    by_cases h2 : bt (T.drop p) 0 < 32
    · rw [if_pos h2] at hn; simp at hn
    · rw [if_neg h2] at hn r
      unfold plP at hn r
      simp only at hn r
      refine Sc.plains _ p (fun k hk hk2 => ?_) r
      have hl := tkN_le (T.drop p)
      rw [List.length_drop] at hl
      by_cases hkp : k = p
      · subst hkp
        have hlt : k < T.length := by omega
        refine ⟨T[k], List.getElem?_eq_getElem hlt, ?_, ?_⟩
        · intro e; apply h0; rw [bt_drop]; rw [Nat.add_zero, bt_some (List.getElem?_eq_getElem hlt)]; exact e
        · intro e; apply h1; rw [bt_drop]; rw [Nat.add_zero, bt_some (List.getElem?_eq_getElem hlt)]; exact e
      · have hlt : k < T.length := by omega
        refine ⟨T[k], List.getElem?_eq_getElem hlt, ?_⟩
        have hp : p < T.length := by omega
        have hd := List.drop_eq_getElem_cons hp
        rw [hd] at hn hk2
        rw [tkN_c] at hn hk2
        by_cases ho : tkOk T[p] (T.drop (p + 1)) = true
        · rw [if_pos ho] at hn hk2
          unfold tkOk at ho
          rw [Bool.and_eq_true, Bool.and_eq_true, List.all_eq_true] at ho
          have hc := ho.1.2 T[k] (by
            have h5 : k - (p + 1) < ((T.drop (p + 1)).take (begN T[p].toNat - 1)).length := by rw [List.length_take, List.length_drop]; omega
            have : ((T.drop (p + 1)).take (begN T[p].toNat - 1))[k - (p + 1)] = T[k] := by
              rw [List.getElem_take, List.getElem_drop]; congr 1; omega
            rw [← this]; exact List.getElem_mem _)
          have := cont_bd hc
          omega
        · rw [if_neg ho] at hn; omega
theorem sc_rd {T : List UInt8} : ∀ (f p : Nat) (acc o : List UInt8) (nx : Nat), rd (oE 34) jsP T f p acc = (o, nx, -1) → ∃ q, nx = q + 1 ∧ Sc T p q
  | 0, p, acc, o, nx, h => by rw [rd] at h; injection h with _ h; injection h with _ h; omega
  | f + 1, p, acc, o, nx, h => by
    rw [rd] at h
    by_cases h1 : T.length ≤ p
    · rw [if_pos h1] at h; injection h with _ h; injection h with _ h; omega
    · rw [if_neg h1] at h
      by_cases h2 : bt (T.drop p) 0 = 34
      · have e : oE 34 (T.drop p) = ([], 1) := by unfold oE; rw [if_pos h2]
        rw [e, if_pos (by decide)] at h
        injection h with _ h; injection h with h _
        exact ⟨p, h.symm, .stop p (by have := bt_is (c := 34) h2; rw [drop_q] at this; exact this)⟩
      · have e : oE 34 (T.drop p) = ([], 0) := by unfold oE; rw [if_neg h2]
        rw [e, if_neg (by decide)] at h
        by_cases h3 : (jsP (T.drop p)).2 = 0
        · rw [if_pos h3] at h; injection h with _ h; injection h with _ h; omega
        · rw [if_neg h3] at h
          obtain ⟨q, hq, r⟩ := sc_rd f _ _ _ _ h
          exact ⟨q, hq, js_sc h2 (by omega) r⟩
theorem rd_third {E P : List UInt8 → List UInt8 × Nat} {T : List UInt8} : ∀ f i acc, (rd E P T f i acc).2.2 = -1 ∨ 0 ≤ (rd E P T f i acc).2.2
  | 0, i, acc => by rw [rd]; right; simp only; omega
  | f + 1, i, acc => by
    rw [rd]
    split
    · right; simp only; omega
    · split
      · left; rfl
      · split
        · right; simp only; omega
        · exact rd_third f _ _
/-- words that stand one behind the other, blanks between -/
inductive Wds (T : List UInt8) : Nat → List Wd → Prop
  | stop (i : Nat) (hi : i ≤ T.length) (hb : ∀ k (h : k < T.length), i ≤ k → blB T[k] = true) : Wds T i [⟨0, [], T.length⟩]
  | word (i j : Nat) (hij : i ≤ j) (hj : j < T.length) (hb : ∀ k (h : k < T.length), i ≤ k → k < j → blB T[k] = true) (hn : blB T[j] = false) (he : (lw T j).er = 0) (ws : List Wd) (r : Wds T (lw T j).nx ws) : Wds T i (⟨(lw T j).kd, (lw T j).tx, j⟩ :: ws)
theorem Wds.blank {T : List UInt8} {i : Nat} {ws : List Wd} (hi : i < T.length) (hb : blB T[i] = true) (r : Wds T (i + 1) ws) : Wds T i ws := by
  cases r with
  | stop _ h1 h2 => exact .stop i (by omega) (fun k h hk => by
      by_cases e : k = i
      · subst e; exact hb
      · exact h2 k h (by omega))
  | word _ j h1 h2 h3 h4 h5 ws r => exact .word i j (by omega) h2 (fun k h hk hk2 => by
      by_cases e : k = i
      · subst e; exact hb
      · exact h3 k h (by omega) hk2) h4 h5 ws r
theorem lx_wds {T : List UInt8} : ∀ (f i : Nat) (acc R : List Wd) (x : Nat), i ≤ T.length → lx T f i acc = (R, 0, x) → ∃ ws, R = acc ++ ws ∧ Wds T i ws
  | 0, i, acc, R, x, _, h => by rw [lx] at h; injection h with _ h; injection h with h _; cases h
  | f + 1, i, acc, R, x, hi, h => by
    rw [lx] at h
    by_cases h1 : T.length ≤ i
    · rw [if_pos h1] at h
      injection h with h _
      exact ⟨_, h.symm, .stop i hi (fun k hk hik => by omega)⟩
    · rw [if_neg h1] at h
      have hlt : i < T.length := by omega
      by_cases h2 : (lw T i).er ≠ 0
      · rw [if_pos h2] at h
        injection h with _ h; injection h with h _
        exact absurd h h2
      · rw [if_neg h2] at h
        have h2' : (lw T i).er = 0 := by omega
        cases hb : blB T[i] with
        | true =>
          have e := lw_bl (at_q hlt) hb
          rw [e] at h
          simp only [if_true] at h
          obtain ⟨ws, hw, r⟩ := lx_wds f _ _ _ _ (by omega) h
          exact ⟨ws, hw, Wds.blank hlt hb r⟩
        | false =>
          obtain ⟨g1, g2, g3⟩ := lw_good (at_q hlt) hb h2'
          rw [if_neg g1] at h
          obtain ⟨ws, hw, r⟩ := lx_wds f _ _ _ _ g3 h
          refine ⟨_, ?_, .word i i (Nat.le_refl _) hlt (fun k _ a b => by omega) hb h2' ws r⟩
          rw [hw, List.append_assoc]; rfl
theorem cut_wds {T : List UInt8} (h : (cutA T).2.1 = 0) : Wds T 0 (cutA T).1 := by
  unfold cutA at h ⊢
  by_cases h1 : 65536 < T.length
  · rw [if_pos h1] at h; simp at h
  · rw [if_neg h1] at h ⊢
    by_cases h2 : 0 ≤ rvI T
    · rw [if_pos h2] at h; simp at h
    · rw [if_neg h2] at h ⊢
      obtain ⟨⟨R, e, x⟩, hR⟩ : ∃ R, lx T (T.length + 1) 0 [] = R := ⟨_, rfl⟩
      rw [hR] at h ⊢
      simp only at h ⊢
      subst h
      obtain ⟨ws, hw, r⟩ := lx_wds _ _ _ _ _ (Nat.zero_le _) hR
      rw [List.nil_append] at hw
      rw [hw]; exact r
/-- a word that is no string says just what stands there -/
theorem lw_says {T : List UInt8} {i : Nat} {b : UInt8} (hT : T[i]? = some b) (hbl : blB b = false) (he : (lw T i).er = 0) :
    ((lw T i).kd = 2 ∧ b = 34 ∧ ∃ q, (lw T i).nx = q + 1 ∧ Sc T (i + 1) q) ∨ ((lw T i).kd ≠ 2 ∧ (lw T i).nx = i + (lw T i).tx.length ∧ (T.drop i).take (lw T i).tx.length = (lw T i).tx) := by
  have hi : i < T.length := (List.getElem?_eq_some_iff.1 hT).1
  have hTb : T[i] = b := (List.getElem?_eq_some_iff.1 hT).2
  cases hsg : sgnB b with
  | true =>
    right; rw [lw_sg hT hbl hsg]
    refine ⟨by simp, by simp, ?_⟩
    simp only [List.length_cons, List.length_nil]
    rw [List.drop_eq_getElem_cons hi, hTb]; rfl
  | false =>
    by_cases hq : b.toNat = 34
    · left
      have e := lw_qt hT hbl hsg hq
      rw [e] at he ⊢
      unfold lwS at he ⊢
      by_cases h0 : 0 ≤ (unqJ T i).2.2
      · rw [if_pos h0] at he; simp at he
      · rw [if_neg h0] at he ⊢
        by_cases h4 : 4096 < (unqJ T i).1.length
        · rw [if_pos h4] at he; simp at he
        · rw [if_neg h4]
          refine ⟨rfl, UInt8.toNat_inj.1 hq, ?_⟩
          simp only
          have hb : bt T (i : Int).toNat = 34 := by rw [Int.toNat_natCast, bt_some hT, hq]
          have hu : unqJ T i = rdA (oE 34) jsP T (i + 1) := by
            unfold unqJ; rw [if_pos ⟨by omega, hb⟩, Int.toNat_natCast]
          rw [hu] at h0 ⊢
          unfold rdA at h0 ⊢
          obtain ⟨⟨o, nx, x⟩, hR⟩ : ∃ R, rd (oE 34) jsP T (T.length + 1) (i + 1) [] = R := ⟨_, rfl⟩
          rw [hR] at h0 ⊢
          simp only at h0 ⊢
          have hx : x = -1 := by
            have := rd_third (E := oE 34) (P := jsP) (T := T) (T.length + 1) (i + 1) []
            rw [hR] at this
            simp only at this
            omega
          subst hx
          exact sc_rd _ _ _ _ _ hR
    · right
      cases hn : numS b with
      | true =>
        have e := lw_nm hT hbl hsg hq hn
        rw [e] at he ⊢
        rcases lwN_ne T i _ rfl with ⟨-, h1⟩ | ⟨h0, h1, h2⟩
        · rw [h1]
          have hl : ((T.drop i).take (run numC (T.drop i))).length = run numC (T.drop i) := by
            rw [List.length_take]; exact Nat.min_eq_left (run_le _ _)
          refine ⟨by simp, ?_, ?_⟩ <;> simp only [hl]
        · rw [h2] at he; simp only at he; omega
      | false =>
        have e := lw_lt hT hbl hsg hq hn
        rw [e] at he ⊢
        unfold lwL at he ⊢
        cases hl : litB ((T.drop i).take (run lowC (T.drop i))) with
        | false => rw [hl] at he; simp at he
        | true =>
          rw [if_pos rfl]
          have hl : ((T.drop i).take (run lowC (T.drop i))).length = run lowC (T.drop i) := by
            rw [List.length_take]; exact Nat.min_eq_left (run_le _ _)
          refine ⟨by simp, ?_, ?_⟩ <;> simp only [hl]
end Go.Proofs.YtbeolgnognhfpaaGreatDoor
namespace Go.Proofs.YtbeolgnognhfpaaGreatDoor
open Go.RowKit

/-- what is left from a place on: words, or nothing at the text's end -/
def StW (T : List UInt8) (p : Nat) (l : List Wd) : Prop := (l = [] ∧ p = T.length) ∨ Wds T p l
theorem st_step {T : List UInt8} {p : Nat} {x : Wd} {r : List Wd} (h : StW T p (x :: r)) :
    p ≤ x.at_ ∧ x.at_ ≤ T.length ∧ (∀ k (h : k < T.length), p ≤ k → k < x.at_ → blB T[k] = true) ∧
      ((x.kd = 2 ∧ T[x.at_]? = some 34 ∧ ∃ q, Sc T (x.at_ + 1) q ∧ StW T (q + 1) r) ∨ (x.kd ≠ 2 ∧ x.at_ + x.tx.length ≤ T.length ∧ (T.drop x.at_).take x.tx.length = x.tx ∧ StW T (x.at_ + x.tx.length) r)) := by
  rcases h with ⟨h, -⟩ | h
  · cases h
  · cases h with
    | stop _ h1 h2 => exact ⟨h1, Nat.le_refl _, fun k hk hp _ => h2 k hk hp, .inr ⟨by simp, by simp, by simp, .inl ⟨rfl, by simp⟩⟩⟩
    | word _ j h1 h2 h3 h4 h5 _ h6 =>
      refine ⟨h1, Nat.le_of_lt h2, h3, ?_⟩
      obtain ⟨g1, g2, g3⟩ := lw_good (at_q h2) h4 h5
      rcases lw_says (at_q h2) h4 h5 with ⟨k1, k2, q, k3, k4⟩ | ⟨k1, k2, k3⟩
      · rw [k3] at h6
        exact .inl ⟨k1, by rw [at_q h2, k2], q, k4, .inr h6⟩
      · rw [k2] at h6 g3
        exact .inr ⟨k1, g3, k3, .inr h6⟩
theorem Sc.lt {T : List UInt8} {p q : Nat} (h : Sc T p q) : p ≤ q ∧ q < T.length := by
  induction h with
  | stop p h => exact ⟨Nat.le_refl _, (List.getElem?_eq_some_iff.1 h).1⟩
  | plain p q b h h1 h2 r ih => omega
  | stroke p q h h2 r ih => omega
theorem Sc.ways {T : List UInt8} {p q : Nat} (h : Sc T p q) : (p = q ∧ T[p]? = some 34) ∨ (∃ b, T[p]? = some b ∧ b.toNat ≠ 34 ∧ b.toNat ≠ 92 ∧ Sc T (p + 1) q) ∨ (T[p]? = some 92 ∧ p + 1 < T.length ∧ Sc T (p + 2) q) := by
  cases h with
  | stop _ h => exact .inl ⟨rfl, h⟩
  | plain _ _ b h h1 h2 r => exact .inr (.inl ⟨b, h, h1, h2, r⟩)
  | stroke _ _ h h2 r => exact .inr (.inr ⟨h, h2, r⟩)
end Go.Proofs.YtbeolgnognhfpaaGreatDoor
namespace Go.Proofs.YtbeolgnognhfpaaGreatDoor
open Go.RowKit

/-- a text of letters alone -/
inductive Vl : List UInt8 → Prop
  | nil : Vl []
  | cons (l : List UInt8) (h : tkN l ≠ 0) (r : Vl (l.drop (tkN l))) : Vl l
theorem pos_shift (l : List UInt8) : ∀ k, pos l (k + 1) = stp l + pos (l.drop (stp l)) k
  | 0 => by simp [pos]
  | k + 1 => by
    have ih := pos_shift l k
    have e : pos l (k + 1 + 1) = pos l (k + 1) + stp (l.drop (pos l (k + 1))) := rfl
    have e2 : pos (l.drop (stp l)) (k + 1) = pos (l.drop (stp l)) k + stp ((l.drop (stp l)).drop (pos (l.drop (stp l)) k)) := rfl
    rw [e, e2, ih, List.drop_drop]; omega
theorem lt_cnt {l : List UInt8} {j : Nat} : j < cnt l ↔ pos l j < l.length := ⟨fun h => (cnt_has l).2 j h, fun h => below_cnt l j h⟩
theorem stp_tk {l : List UInt8} (h : tkN l ≠ 0) : stp l = tkN l := by unfold stp; omega
theorem vl_of : ∀ (n : Nat) (l : List UInt8), l.length ≤ n → (∀ j < cnt l, tkN (l.drop (pos l j)) ≠ 0) → Vl l
  | 0, l, hl, _ => by
    have h0 : l = [] := List.eq_nil_of_length_eq_zero (by omega)
    subst h0; exact .nil
  | n + 1, l, hl, h => by
    rcases Nat.eq_zero_or_pos l.length with h0 | h0
    · have h1 : l = [] := List.eq_nil_of_length_eq_zero h0
      subst h1; exact .nil
    · have h1 : tkN l ≠ 0 := by have := h 0 (lt_cnt.2 h0); simpa [pos] using this
      refine .cons l h1 (vl_of n _ (by rw [List.length_drop]; omega) (fun j hj => ?_))
      have h2 := pos_shift l j
      rw [stp_tk h1] at h2
      have h3 := lt_cnt.1 hj
      rw [List.length_drop] at h3
      have h4 := h (j + 1) (lt_cnt.2 (by omega))
      rw [h2] at h4
      rw [List.drop_drop]; exact h4
theorem Vl.vld {l : List UInt8} (h : Vl l) : ∀ j < cnt l, tkN (l.drop (pos l j)) ≠ 0 := by
  induction h with
  | nil => intro j hj; have := lt_cnt.1 hj; simp at this
  | cons l h r ih =>
    intro j hj
    cases j with
    | zero => simpa [pos] using h
    | succ j =>
      have h2 := pos_shift l j
      rw [stp_tk h] at h2
      have h3 := lt_cnt.1 hj
      have h4 := ih j (lt_cnt.2 (by rw [List.length_drop]; omega))
      rw [List.drop_drop] at h4
      rw [h2]; exact h4
theorem vl_rv {l : List UInt8} : Vl l ↔ rvI l < 0 := by
  constructor
  · intro h; rw [rv_yes l (vld_mk l h.vld)]; decide
  · intro h
    have hp : pos l (vlk l) = l.length := by
      rcases Nat.lt_or_ge (pos l (vlk l)) l.length with h1 | h1
      · rw [rv_no l (by omega)] at h; omega
      · have := vlk_in l; omega
    exact vl_of l.length l (Nat.le_refl _) (vld_of l hp)
theorem Vl.app {l m : List UInt8} (h : Vl l) (g : Vl m) : Vl (l ++ m) := by
  induction h with
  | nil => exact g
  | cons l h r ih =>
    have e := tkN_more l m h
    refine .cons _ (by rw [e]; exact h) ?_
    rw [e, List.drop_append_of_le_length (tkN_le l)]; exact ih
theorem vl_ascii {l : List UInt8} (h : ∀ b ∈ l, b.toNat < 128) : Vl l := vl_of l.length l (Nat.le_refl _) (ascii_vld l h)
theorem take_eq_get {α : Type} {l m : List α} {n k : Nat} (h : l.take n = m.take n) (hk : k < n) : l[k]? = m[k]? := by
  have := congrArg (·[k]?) h
  simpa [List.getElem?_take, hk] using this
theorem get_take_eq {α : Type} {l m : List α} {n : Nat} (h : ∀ k, k < n → l[k]? = m[k]?) : l.take n = m.take n := by
  apply List.ext_getElem?
  intro k
  rw [List.getElem?_take, List.getElem?_take]
  split
  · exact h k ‹_›
  · rfl
theorem len_of_take {α : Type} {l m : List α} {n : Nat} (h : l.take n = m.take n) (hl : n ≤ l.length) : n ≤ m.length := by
  have := congrArg List.length h
  rw [List.length_take, List.length_take] at this; omega
/-- a letter hangs on its own bytes alone -/
theorem tk_local {l m : List UInt8} (h : tkN l ≠ 0) (ht : l.take (tkN l) = m.take (tkN l)) : tkN m = tkN l := by
  have h1 := tkN_le l
  have hm := len_of_take ht h1
  have e : m = l.take (tkN l) ++ m.drop (tkN l) := by rw [ht, List.take_append_drop]
  have e2 : tkN (l.take (tkN l)) = tkN l := by
    rcases l with _ | ⟨a, t⟩
    · rfl
    · have hc := tkN_c a t
      by_cases ho : tkOk a t = true
      · rw [if_pos ho] at hc
        rw [hc]
        rw [hc] at h h1
        obtain ⟨k, hk⟩ : ∃ k, begN a.toNat = k + 1 := ⟨begN a.toNat - 1, by omega⟩
        rw [hk, List.take_succ_cons, tkN_c]
        have ho2 : tkOk a (t.take k) = true := by
          unfold tkOk at ho ⊢
          rw [hk] at ho ⊢
          simp only [Nat.add_sub_cancel] at ho ⊢
          rw [List.length_cons] at h1
          rw [List.take_take, Nat.min_self, List.length_take, Nat.min_eq_left (by omega), decide_eq_true (show k + 1 ≠ 0 ∧ k + 1 ≤ k + 1 by omega)]
          rw [decide_eq_true (show k + 1 ≠ 0 ∧ k + 1 ≤ t.length + 1 by omega)] at ho
          exact ho
        rw [if_pos ho2, hk]
      · rw [if_neg ho] at hc; exact absurd hc h
  rw [e, tkN_more _ _ (by rw [e2]; exact h), e2]
theorem Vl.split : ∀ (n : Nat) (X : List UInt8) (b : UInt8) (Y : List UInt8), X.length ≤ n → b.toNat < 128 → Vl (X ++ b :: Y) → Vl X ∧ Vl (b :: Y)
  | n, [], b, Y, _, _, h => ⟨.nil, h⟩
  | 0, a :: X, b, Y, hl, _, _ => by simp at hl
  | n + 1, a :: X, b, Y, hl, hb, h => by
    generalize hZ : (a :: X) ++ b :: Y = Z at h
    cases h with
    | nil => simp at hZ
    | cons _ h r =>
      subst hZ
      have hle : tkN ((a :: X) ++ b :: Y) ≤ (a :: X).length := by
        rcases Nat.lt_or_ge (a :: X).length (tkN ((a :: X) ++ b :: Y)) with hlt | hge
        · exfalso
          have hc : tkN ((a :: X) ++ b :: Y) = if tkOk a (X ++ b :: Y) = true then begN a.toNat else 0 := tkN_c a (X ++ b :: Y)
          by_cases ho : tkOk a (X ++ b :: Y) = true
          · rw [if_pos ho] at hc
            unfold tkOk at ho
            rw [Bool.and_eq_true, Bool.and_eq_true, List.all_eq_true] at ho
            rw [hc, List.length_cons] at hlt
            have := ho.1.2 b (List.mem_of_getElem? (i := X.length) (by
              rw [List.getElem?_take, if_pos (by omega), List.getElem?_append_right (Nat.le_refl _)]; simp))
            have := cont_bd this
            omega
          · rw [if_neg ho] at hc; exact h hc
        · exact hge
      rw [List.drop_append_of_le_length hle] at r
      obtain ⟨r1, r2⟩ := Vl.split n _ b Y (by rw [List.length_drop, List.length_cons]; rw [List.length_cons] at hl; omega) hb r
      have e : tkN (a :: X) = tkN ((a :: X) ++ b :: Y) := tk_local (l := (a :: X) ++ b :: Y) (m := a :: X) h (by rw [List.take_append_of_le_length hle])
      exact ⟨.cons _ (by rw [e]; exact h) (by rw [e]; exact r1), r2⟩
theorem bt_same {l m : List UInt8} {n k : Nat} (h : l.take n = m.take n) (hk : k < n) : bt m k = bt l k := by
  unfold bt; rw [take_eq_get h hk]
theorem cdI_same {l m : List UInt8} {n k c : Nat} (h : l.take n = m.take n) (hl : n ≤ l.length) (hk : k + c ≤ n) : cdI m k c = cdI l k c := by
  have hm := len_of_take h hl
  have e : (m.drop k).take c = (l.drop k).take c := get_take_eq (fun j hj => by
    rw [List.getElem?_drop, List.getElem?_drop, take_eq_get h (show k + j < n by omega)])
  unfold cdI
  rw [e]
  by_cases hc : hexB ((l.drop k).take c) = true
  · rw [if_pos ⟨by omega, hc⟩, if_pos ⟨by omega, hc⟩]
  · rw [if_neg (fun h => hc h.2), if_neg (fun h => hc h.2)]
theorem esc_local {l m : List UInt8} (hn : 0 < (escP false l).2) (hl : (escP false l).2 ≤ l.length) (h : l.take (escP false l).2 = m.take (escP false l).2) : escP false m = escP false l := by
  by_cases h2 : nmV false (bt l 1) < 256
  · have e : escP false l = ([UInt8.ofNat (nmV false (bt l 1))], 2) := by unfold escP; rw [if_pos h2]
    rw [e] at h ⊢
    simp only at h
    have b1 := bt_same h (show 1 < 2 by decide)
    unfold escP; rw [b1, if_pos h2]
  · by_cases h3 : bt l 1 = 117
    · have e : escP false l = escU false l 4 := by unfold escP; rw [if_neg h2, if_neg (by simp), if_pos h3]
      have em : bt m 1 = bt l 1 → escP false m = escU false m 4 := fun hb => by unfold escP; rw [hb, if_neg h2, if_neg (by simp), if_pos h3]
      rw [e] at hn hl h ⊢
      by_cases h5 : 0 ≤ cdI l 2 4 ∧ goodB (cdI l 2 4) = true
      · have e2 : escU false l 4 = (ltr (cdI l 2 4), 2 + 4) := by unfold escU; rw [if_pos h5]
        rw [e2] at hl h ⊢
        simp only at hl h
        have c1 := cdI_same h hl (show 2 + 4 ≤ 2 + 4 by decide)
        rw [em (bt_same h (show 1 < 2 + 4 by decide))]
        unfold escU; rw [c1, if_pos h5]
      · by_cases h6 : false = false ∧ 55296 ≤ cdI l 2 4 ∧ cdI l 2 4 < 56320 ∧ bt l 6 = 92 ∧ bt l 7 = 117 ∧ 56320 ≤ cdI l 8 4 ∧ cdI l 8 4 < 57344
        · have e2 : escU false l 4 = (ltr (65536 + (cdI l 2 4 - 55296) * 1024 + cdI l 8 4 - 56320), 12) := by unfold escU; rw [if_neg h5, if_pos h6]
          rw [e2] at hl h ⊢
          simp only at hl h
          have c1 := cdI_same h hl (show 2 + 4 ≤ 12 by decide)
          have c2 := cdI_same h hl (show 8 + 4 ≤ 12 by decide)
          rw [em (bt_same h (show 1 < 12 by decide))]
          unfold escU; rw [c1, c2, bt_same h (show 6 < 12 by decide), bt_same h (show 7 < 12 by decide), if_neg h5, if_pos h6]
        · have e2 : escU false l 4 = ([], 0) := by unfold escU; rw [if_neg h5, if_neg h6]
          rw [e2] at hn; simp at hn
    · have e : escP false l = ([], 0) := by unfold escP; rw [if_neg h2, if_neg (by simp), if_neg h3]
      rw [e] at hn; simp at hn
/-- a piece of a string hangs on its own bytes alone -/
theorem js_local {l m : List UInt8} (hn : 0 < (jsP l).2) (hl : (jsP l).2 ≤ l.length) (h : l.take (jsP l).2 = m.take (jsP l).2) : jsP m = jsP l := by
  have b0 := bt_same h hn
  by_cases h1 : bt l 0 = 92
  · have e : jsP l = escP false l := by unfold jsP; rw [if_pos h1]
    have em : jsP m = escP false m := by unfold jsP; rw [b0, if_pos h1]
    rw [e] at hn hl h ⊢
    rw [em]; exact esc_local hn hl h
  · by_cases h2 : bt l 0 < 32
    · have e : jsP l = ([], 0) := by unfold jsP; rw [if_neg h1, if_pos h2]
      rw [e] at hn; simp at hn
    · have e : jsP l = plP l := by unfold jsP; rw [if_neg h1, if_neg h2]
      have em : jsP m = plP m := by unfold jsP; rw [b0, if_neg h1, if_neg h2]
      rw [e] at hn hl h ⊢
      rw [em]
      unfold plP at hn hl h ⊢
      simp only at hn hl h ⊢
      rw [tk_local (by omega) h, h]
theorem rd_ahead {T : List UInt8} : ∀ (f p : Nat) (acc o : List UInt8) (nx : Nat), rd (oE 34) jsP T f p acc = (o, nx, -1) → p < nx ∧ nx ≤ T.length := by
  intro f p acc o nx h
  have := rd_in (E := oE 34) (P := jsP) (T := T) (fun l hl => by unfold oE; split <;> simp only <;> omega) (fun l => (fits_js l).1) f p acc (by rw [h]; show (-1 : Int) < 0; decide)
  rw [h] at this; exact this
/-- a string that is read hangs on its own bytes alone -/
theorem rd_local {T N : List UInt8} : ∀ (f p : Nat) (acc o : List UInt8) (nx : Nat), rd (oE 34) jsP T f p acc = (o, nx, -1) → ∀ (q g : Nat), (∀ k, k < nx - p → T[p + k]? = N[q + k]?) → N.length < q + g → rd (oE 34) jsP N g q acc = (o, q + (nx - p), -1)
  | 0, p, acc, o, nx, h, q, g, _, _ => by rw [rd] at h; injection h with _ h; injection h with _ h; omega
  | f + 1, p, acc, o, nx, h, q, g, hs, hg => by
    obtain ⟨ha, hb⟩ := rd_ahead _ _ _ _ _ h
    have e0 := hs 0 (by omega)
    rw [Nat.add_zero, Nat.add_zero] at e0
    have hp : p < T.length := by omega
    have hq : q < N.length := by rw [at_q hp] at e0; exact (List.getElem?_eq_some_iff.1 e0.symm).1
    have eb : bt (N.drop q) 0 = bt (T.drop p) 0 := by rw [bt_drop, bt_drop, Nat.add_zero, Nat.add_zero]; unfold bt; rw [e0]
    cases g with
    | zero => omega
    | succ g =>
      rw [rd] at h ⊢
      rw [if_neg (by omega)] at h
      rw [if_neg (by omega)]
      by_cases h2 : bt (T.drop p) 0 = 34
      · have e : oE 34 (T.drop p) = ([], 1) := by unfold oE; rw [if_pos h2]
        have e' : oE 34 (N.drop q) = ([], 1) := by unfold oE; rw [eb, if_pos h2]
        rw [e, if_pos (by decide)] at h
        rw [e', if_pos (by decide)]
        injection h with h5 h; injection h with h6 _
        simp only at h5 h6 ⊢
        rw [h5, show q + 1 = q + (nx - p) by omega]
      · have e : oE 34 (T.drop p) = ([], 0) := by unfold oE; rw [if_neg h2]
        have e' : oE 34 (N.drop q) = ([], 0) := by unfold oE; rw [eb, if_neg h2]
        rw [e, if_neg (by decide)] at h
        rw [e', if_neg (by decide)]
        by_cases h3 : (jsP (T.drop p)).2 = 0
        · rw [if_pos h3] at h; injection h with _ h; injection h with _ h; omega
        · rw [if_neg h3] at h
          obtain ⟨ha2, -⟩ := rd_ahead _ _ _ _ _ h
          have hj : jsP (N.drop q) = jsP (T.drop p) := js_local (by omega) (fits_js _).1 (get_take_eq (fun k hk => by
            rw [List.getElem?_drop, List.getElem?_drop]; exact hs k (by omega)))
          rw [hj, if_neg h3]
          rw [rd_local f _ _ _ _ h (q + (jsP (T.drop p)).2) g (fun k hk => by
            have := hs ((jsP (T.drop p)).2 + k) (by omega)
            rw [← Nat.add_assoc, ← Nat.add_assoc] at this; exact this) (by omega)]
          congr 2; omega
theorem run_local {p : UInt8 → Bool} {l m : List UInt8} {c : UInt8} (h : l.take (run p l) = m.take (run p l)) (hc : m[run p l]? = some c) (hp : p c = false) : run p m = run p l := by
  obtain ⟨hlt, hcc⟩ := List.getElem?_eq_some_iff.1 hc
  refine run_is _ (by omega) (fun k hk hkn => ?_) (fun hh => by rw [hcc]; exact hp)
  have e := take_eq_get h hkn
  rw [List.getElem?_eq_getElem hk] at e
  have hkl : k < l.length := (List.getElem?_eq_some_iff.1 e).1
  rw [List.getElem?_eq_getElem hkl] at e
  injection e with e
  have := jrun_all p l l[k] (by
    have h5 : k < (l.take (run p l)).length := by rw [List.length_take]; have := run_le p l; omega
    have : (l.take (run p l))[k] = l[k] := List.getElem_take
    rw [← this]; exact List.getElem_mem _)
  rw [← e]; exact this
theorem bl_numC {c : UInt8} (h : blB c = true) : numC c = false ∧ lowC c = false := by
  unfold blB at h; have := of_decide_eq_true h
  unfold numC numS lowC
  constructor
  · rw [Bool.or_eq_false_iff]; exact ⟨decide_eq_false (by omega), decide_eq_false (by omega)⟩
  · exact decide_eq_false (by omega)
/-- a word hangs on its own bytes alone, if a blank follows -/
theorem lw_local {T N : List UInt8} {j q : Nat} {c : UInt8} (hj : j < T.length) (hbl : blB T[j] = false) (he : (lw T j).er = 0) (hs : ∀ k, k < (lw T j).nx - j → T[j + k]? = N[q + k]?) (hc : N[q + ((lw T j).nx - j)]? = some c) (hcb : blB c = true) :
    lw N q = ⟨(lw T j).kd, (lw T j).tx, q + ((lw T j).nx - j), 0, 0⟩ := by
  obtain ⟨g1, g2, g3⟩ := lw_good (at_q hj) hbl he
  have e0 := hs 0 (by omega)
  rw [Nat.add_zero, Nat.add_zero, at_q hj] at e0
  have hN := e0.symm
  have hq : q < N.length := (List.getElem?_eq_some_iff.1 hN).1
  obtain ⟨n1, n2⟩ := bl_numC hcb
  cases hsg : sgnB T[j] with
  | true =>
    have e := lw_sg (at_q hj) hbl hsg
    rw [e] at hs hc ⊢
    rw [lw_sg hN hbl hsg]
    simp only; congr 1; omega
  | false =>
    by_cases hqt : T[j].toNat = 34
    · have e := lw_qt (at_q hj) hbl hsg hqt
      rw [lw_qt hN hbl hsg hqt]
      rw [e] at he hs hc g2 ⊢
      unfold lwS at he hs hc g2 ⊢
      have hu : unqJ T j = rdA (oE 34) jsP T (j + 1) := by
        unfold unqJ; rw [if_pos ⟨by omega, by rw [Int.toNat_natCast, bt_some (at_q hj), hqt]⟩, Int.toNat_natCast]
      have hu2 : unqJ N q = rdA (oE 34) jsP N (q + 1) := by
        unfold unqJ; rw [if_pos ⟨by omega, by rw [Int.toNat_natCast, bt_some hN, hqt]⟩, Int.toNat_natCast]
      rw [hu] at he hs hc g2 ⊢
      rw [hu2]
      unfold rdA at he hs hc g2 ⊢
      obtain ⟨⟨o, nx, x⟩, hR⟩ : ∃ R, rd (oE 34) jsP T (T.length + 1) (j + 1) [] = R := ⟨_, rfl⟩
      have h3 := rd_third (E := oE 34) (P := jsP) (T := T) (T.length + 1) (j + 1) []
      rw [hR] at he hs hc g2 h3 ⊢
      simp only at he hs hc g2 h3 ⊢
      by_cases h0 : 0 ≤ x
      · rw [if_pos h0] at he; simp at he
      · obtain rfl : x = -1 := by omega
        rw [if_neg h0] at he hs hc g2 ⊢
        by_cases h4 : 4096 < o.length
        · rw [if_pos h4] at he; simp at he
        · rw [if_neg h4] at hs hc g2 ⊢
          simp only at hs hc g2 ⊢
          have hr := rd_local _ _ _ _ _ hR (q + 1) (N.length + 1) (fun k hk => by
            have := hs (k + 1) (by omega)
            rw [show j + (k + 1) = j + 1 + k by omega, show q + (k + 1) = q + 1 + k by omega] at this; exact this) (by omega)
          rw [hr]
          simp only
          rw [if_neg (by decide), if_neg h4]
          congr 1; have := (rd_ahead _ _ _ _ _ hR).1; omega
    · cases hn : numS T[j] with
      | true =>
        have e := lw_nm (at_q hj) hbl hsg hqt hn
        rw [lw_nm hN hbl hsg hqt hn]
        rw [e] at he hs hc ⊢
        rcases lwN_ne T j _ rfl with ⟨k0, h1⟩ | ⟨h0, h1, h2⟩
        · rw [h1] at hs hc ⊢
          simp only [Nat.add_sub_cancel_left] at hs hc ⊢
          have hrun : run numC (N.drop q) = run numC (T.drop j) := run_local (c := c) (get_take_eq (fun k hk => by
            rw [List.getElem?_drop, List.getElem?_drop]; exact hs k hk)) (by rw [List.getElem?_drop]; exact hc) n1
          have hP : (N.drop q).take (run numC (N.drop q)) = (T.drop j).take (run numC (T.drop j)) := by
            rw [hrun]; exact get_take_eq (fun k hk => by rw [List.getElem?_drop, List.getElem?_drop]; exact (hs k hk).symm)
          rcases lwN_ne N q _ hP with ⟨-, h3⟩ | ⟨h3, -, -⟩
          · rw [h3, hrun]
          · exact absurd k0 h3
        · rw [h2] at he; simp only at he; omega
      | false =>
        have e := lw_lt (at_q hj) hbl hsg hqt hn
        rw [lw_lt hN hbl hsg hqt hn]
        rw [e] at he hs hc ⊢
        unfold lwL at he hs hc ⊢
        cases hl : litB ((T.drop j).take (run lowC (T.drop j))) with
        | false => rw [hl] at he; simp at he
        | true =>
          rw [hl] at hs hc
          simp only [if_true, Nat.add_sub_cancel_left] at hs hc ⊢
          have hrun : run lowC (N.drop q) = run lowC (T.drop j) := run_local (c := c) (get_take_eq (fun k hk => by
            rw [List.getElem?_drop, List.getElem?_drop]; exact hs k hk)) (by rw [List.getElem?_drop]; exact hc) n2
          have hP : (N.drop q).take (run lowC (N.drop q)) = (T.drop j).take (run lowC (T.drop j)) := by
            rw [hrun]; exact get_take_eq (fun k hk => by rw [List.getElem?_drop, List.getElem?_drop]; exact (hs k hk).symm)
          rw [hP, hl, if_pos rfl, hrun]
end Go.Proofs.YtbeolgnognhfpaaGreatDoor
