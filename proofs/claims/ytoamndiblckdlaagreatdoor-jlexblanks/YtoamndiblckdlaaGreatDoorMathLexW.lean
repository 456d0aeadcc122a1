/- Plain mathematics of JSON's words: where they stand, one behind the other. -/
import Derived.Test.YtoamndiblckdlaaGreatDoorJxTwo
namespace Go.Proofs.YtoamndiblckdlaaGreatDoor
open Go.RowKit

/-- the way to a string's closing sign, byte by byte, two at a stroke -/
inductive Sc (T : List UInt8) : Nat → Nat → Prop
  | stop (p : Nat) (h : T[p]? = some 34) : Sc T p p
  | plain (p q : Nat) (b : UInt8) (h : T[p]? = some b) (h1 : b.toNat ≠ 34) (h2 : b.toNat ≠ 92) (r : Sc T (p + 1) q) : Sc T p q
  | stroke (p q : Nat) (h : T[p]? = some 92) (h2 : p + 1 < T.length) (r : Sc T (p + 2) q) : Sc T p q
theorem Sc.plains {T : List UInt8} {q : Nat} : ∀ (n p : Nat), (∀ k, p ≤ k → k < p + n → ∃ b, T[k]? = some b ∧ b.toNat ≠ 34 ∧ b.toNat ≠ 92) → Sc T (p + n) q → Sc T p q
  | 0, p, _, r => r
  | n + 1, p, h, r => by
    obtain ⟨b, hb, h1, h2⟩ := h p (Nat.le_refl _) (by omega)
    exact .plain p q b hb h1 h2 (Sc.plains n (p + 1) (fun k hk hk2 => h k (by omega) (by omega)) (by rw [show p + 1 + n = p + (n + 1) by omega]; exact r))
theorem bt_get {l : List UInt8} {k n : Nat} (h : bt l k = n) (hn : n < 256) : ∃ b, l[k]? = some b ∧ b.toNat = n := by
  have hk := bt_lt (l := l) (k := k) (by omega)
  refine ⟨l[k], List.getElem?_eq_getElem hk, ?_⟩
  rw [bt_some (List.getElem?_eq_getElem hk)] at h; exact h
theorem bt_is {l : List UInt8} {k : Nat} {c : UInt8} (h : bt l k = c.toNat) : l[k]? = some c := by
  obtain ⟨b, hb, he⟩ := bt_get h c.toNat_lt
  rw [hb, UInt8.toNat_inj.1 he]
theorem hx_not {b : UInt8} (h : hxI b = true) : b.toNat ≠ 34 ∧ b.toNat ≠ 92 := by
  unfold hxI at h; simp at h; omega
theorem cdI_hex {l : List UInt8} {k n : Nat} (h : 0 ≤ cdI l k n) : k + n ≤ l.length ∧ ∀ j, j < n → ∃ b, l[k + j]? = some b ∧ b.toNat ≠ 34 ∧ b.toNat ≠ 92 := by
  unfold cdI at h
  by_cases hc : k + n ≤ l.length ∧ hexB ((l.drop k).take n) = true
  · refine ⟨hc.1, fun j hj => ?_⟩
    have h1 : k + j < l.length := by omega
    refine ⟨l[k + j], List.getElem?_eq_getElem h1, hx_not ?_⟩
    have h2 := hc.2
    unfold hexB at h2
    rw [Bool.and_eq_true, List.all_eq_true] at h2
    refine h2.2 _ ?_
    have h3 : j < ((l.drop k).take n).length := by rw [List.length_take, List.length_drop]; omega
    have : ((l.drop k).take n)[j] = l[k + j] := by rw [List.getElem_take, List.getElem_drop]
    rw [← this]; exact List.getElem_mem _
  · rw [if_neg hc] at h; omega
theorem drop_q {T : List UInt8} {p k : Nat} : (T.drop p)[k]? = T[p + k]? := by rw [List.getElem?_drop]
/-- a piece of a string is passed -/
theorem js_sc {T : List UInt8} {p q : Nat} (h0 : bt (T.drop p) 0 ≠ 34) (hn : 0 < (jsP (T.drop p)).2) (r : Sc T (p + (jsP (T.drop p)).2) q) : Sc T p q := by
  unfold jsP at hn r
  by_cases h1 : bt (T.drop p) 0 = 92
  · rw [if_pos h1] at hn r
    have e0 : T[p]? = some 92 := by have := bt_is (c := 92) h1; rw [drop_q] at this; exact this
    unfold escP at hn r
    by_cases h2 : nmV false (bt (T.drop p) 1) < 256
    · rw [if_pos h2] at r
      have h3 : bt (T.drop p) 1 < 256 := by
        rcases Nat.lt_or_ge (bt (T.drop p) 1) 256 with h | h
        · exact h
        · unfold nmV at h2
          repeat' split at h2
          all_goals omega
      have h4 := bt_lt h3
      rw [List.length_drop] at h4
      exact .stroke p q e0 (by omega) r
    · rw [if_neg h2] at hn r
      rw [if_neg (by simp)] at hn r
      by_cases h3 : bt (T.drop p) 1 = 117
      · rw [if_pos h3] at hn r
        have h4 := bt_lt (l := T.drop p) (k := 1) (by omega)
        rw [List.length_drop] at h4
        refine .stroke p q e0 (by omega) ?_
        unfold escU at hn r
        by_cases h5 : 0 ≤ cdI (T.drop p) 2 4 ∧ goodB (cdI (T.drop p) 2 4) = true
        · rw [if_pos h5] at r
          obtain ⟨h6, h7⟩ := cdI_hex h5.1
          refine Sc.plains 4 (p + 2) (fun k hk hk2 => ?_) r
          obtain ⟨b, hb, hb1⟩ := h7 (k - (p + 2)) (by omega)
          rw [drop_q, show p + (2 + (k - (p + 2))) = k by omega] at hb
          exact ⟨b, hb, hb1⟩
        · rw [if_neg h5] at hn r
          by_cases h6 : false = false ∧ 55296 ≤ cdI (T.drop p) 2 4 ∧ cdI (T.drop p) 2 4 < 56320 ∧ bt (T.drop p) 6 = 92 ∧ bt (T.drop p) 7 = 117 ∧ 56320 ≤ cdI (T.drop p) 8 4 ∧ cdI (T.drop p) 8 4 < 57344
          · rw [if_pos h6] at r
            obtain ⟨-, g1, -, g2, -, g3, -⟩ := h6
            obtain ⟨-, h7⟩ := cdI_hex (l := T.drop p) (k := 2) (n := 4) (by omega)
            obtain ⟨h9, h8⟩ := cdI_hex (l := T.drop p) (k := 8) (n := 4) (by omega)
            rw [List.length_drop] at h9
            refine Sc.plains 4 (p + 2) (fun k hk hk2 => ?_) (.stroke (p + 2 + 4) q ?_ (by omega) (Sc.plains 4 (p + 2 + 4 + 2) (fun k hk hk2 => ?_) r))
            · obtain ⟨b, hb, hb1⟩ := h7 (k - (p + 2)) (by omega)
              rw [drop_q, show p + (2 + (k - (p + 2))) = k by omega] at hb
              exact ⟨b, hb, hb1⟩
            · have := bt_is (c := 92) g2; rw [drop_q] at this; exact this
            · obtain ⟨b, hb, hb1⟩ := h8 (k - (p + 8)) (by omega)
              rw [drop_q, show p + (8 + (k - (p + 8))) = k by omega] at hb
              exact ⟨b, hb, hb1⟩
          · rw [if_neg h6] at hn; simp at hn
      · rw [if_neg h3] at hn; simp at hn
  · rw [if_neg h1] at hn r
    by_cases h2 : bt (T.drop p) 0 < 32
    · rw [if_pos h2] at hn; simp at hn
    · rw [if_neg h2] at hn r
      unfold plP at hn r
      simp only at hn r
      refine Sc.plains _ p (fun k hk hk2 => ?_) r
      have hl := tkN_le (T.drop p)
      rw [List.length_drop] at hl
      by_cases hkp : k = p
      · subst hkp
        have hlt : k < T.length := by omega
        refine ⟨T[k], List.getElem?_eq_getElem hlt, ?_, ?_⟩
        · intro e; apply h0; rw [bt_drop]; rw [Nat.add_zero, bt_some (List.getElem?_eq_getElem hlt)]; exact e
        · intro e; apply h1; rw [bt_drop]; rw [Nat.add_zero, bt_some (List.getElem?_eq_getElem hlt)]; exact e
      · have hlt : k < T.length := by omega
        refine ⟨T[k], List.getElem?_eq_getElem hlt, ?_⟩
        have hp : p < T.length := by omega
        have hd := List.drop_eq_getElem_cons hp
        rw [hd] at hn hk2
        rw [tkN_c] at hn hk2
        by_cases ho : tkOk T[p] (T.drop (p + 1)) = true
        · rw [if_pos ho] at hn hk2
          unfold tkOk at ho
          rw [Bool.and_eq_true, Bool.and_eq_true, List.all_eq_true] at ho
          have hc := ho.1.2 T[k] (by
            have h5 : k - (p + 1) < ((T.drop (p + 1)).take (begN T[p].toNat - 1)).length := by rw [List.length_take, List.length_drop]; omega
            have : ((T.drop (p + 1)).take (begN T[p].toNat - 1))[k - (p + 1)] = T[k] := by
              rw [List.getElem_take, List.getElem_drop]; congr 1; omega
            rw [← this]; exact List.getElem_mem _)
          have := cont_bd hc
          omega
        · rw [if_neg ho] at hn; omega
theorem sc_rd {T : List UInt8} : ∀ (f p : Nat) (acc o : List UInt8) (nx : Nat), rd (oE 34) jsP T f p acc = (o, nx, -1) → ∃ q, nx = q + 1 ∧ Sc T p q
  | 0, p, acc, o, nx, h => by rw [rd] at h; injection h with _ h; injection h with _ h; omega
  | f + 1, p, acc, o, nx, h => by
    rw [rd] at h
    by_cases h1 : T.length ≤ p
    · rw [if_pos h1] at h; injection h with _ h; injection h with _ h; omega
    · rw [if_neg h1] at h
      by_cases h2 : bt (T.drop p) 0 = 34
      · have e : oE 34 (T.drop p) = ([], 1) := by unfold oE; rw [if_pos h2]
        rw [e, if_pos (by decide)] at h
        injection h with _ h; injection h with h _
        exact ⟨p, h.symm, .stop p (by have := bt_is (c := 34) h2; rw [drop_q] at this; exact this)⟩
      · have e : oE 34 (T.drop p) = ([], 0) := by unfold oE; rw [if_neg h2]
        rw [e, if_neg (by decide)] at h
        by_cases h3 : (jsP (T.drop p)).2 = 0
        · rw [if_pos h3] at h; injection h with _ h; injection h with _ h; omega
        · rw [if_neg h3] at h
          obtain ⟨q, hq, r⟩ := sc_rd f _ _ _ _ h
          exact ⟨q, hq, js_sc h2 (by omega) r⟩
theorem rd_third {E P : List UInt8 → List UInt8 × Nat} {T : List UInt8} : ∀ f i acc, (rd E P T f i acc).2.2 = -1 ∨ 0 ≤ (rd E P T f i acc).2.2
  | 0, i, acc => by rw [rd]; right; simp only; omega
  | f + 1, i, acc => by
    rw [rd]
    split
    · right; simp only; omega
    · split
      · left; rfl
      · split
        · right; simp only; omega
        · exact rd_third f _ _
/-- words that stand one behind the other, blanks between -/
inductive Wds (T : List UInt8) : Nat → List Wd → Prop
  | stop (i : Nat) (hi : i ≤ T.length) (hb : ∀ k (h : k < T.length), i ≤ k → blB T[k] = true) : Wds T i [⟨0, [], T.length⟩]
  | word (i j : Nat) (hij : i ≤ j) (hj : j < T.length) (hb : ∀ k (h : k < T.length), i ≤ k → k < j → blB T[k] = true) (hn : blB T[j] = false) (he : (lw T j).er = 0) (ws : List Wd) (r : Wds T (lw T j).nx ws) : Wds T i (⟨(lw T j).kd, (lw T j).tx, j⟩ :: ws)
theorem Wds.blank {T : List UInt8} {i : Nat} {ws : List Wd} (hi : i < T.length) (hb : blB T[i] = true) (r : Wds T (i + 1) ws) : Wds T i ws := by
  cases r with
  | stop _ h1 h2 => exact .stop i (by omega) (fun k h hk => by
      by_cases e : k = i
      · subst e; exact hb
      · exact h2 k h (by omega))
  | word _ j h1 h2 h3 h4 h5 ws r => exact .word i j (by omega) h2 (fun k h hk hk2 => by
      by_cases e : k = i
      · subst e; exact hb
      · exact h3 k h (by omega) hk2) h4 h5 ws r
theorem lx_wds {T : List UInt8} : ∀ (f i : Nat) (acc R : List Wd) (x : Nat), i ≤ T.length → lx T f i acc = (R, 0, x) → ∃ ws, R = acc ++ ws ∧ Wds T i ws
  | 0, i, acc, R, x, _, h => by rw [lx] at h; injection h with _ h; injection h with h _; cases h
  | f + 1, i, acc, R, x, hi, h => by
    rw [lx] at h
    by_cases h1 : T.length ≤ i
    · rw [if_pos h1] at h
      injection h with h _
      exact ⟨_, h.symm, .stop i hi (fun k hk hik => by omega)⟩
    · rw [if_neg h1] at h
      have hlt : i < T.length := by omega
      by_cases h2 : (lw T i).er ≠ 0
      · rw [if_pos h2] at h
        injection h with _ h; injection h with h _
        exact absurd h h2
      · rw [if_neg h2] at h
        have h2' : (lw T i).er = 0 := by omega
        cases hb : blB T[i] with
        | true =>
          have e := lw_bl (at_q hlt) hb
          rw [e] at h
          simp only [if_true] at h
          obtain ⟨ws, hw, r⟩ := lx_wds f _ _ _ _ (by omega) h
          exact ⟨ws, hw, Wds.blank hlt hb r⟩
        | false =>
          obtain ⟨g1, g2, g3⟩ := lw_good (at_q hlt) hb h2'
          rw [if_neg g1] at h
          obtain ⟨ws, hw, r⟩ := lx_wds f _ _ _ _ g3 h
          refine ⟨_, ?_, .word i i (Nat.le_refl _) hlt (fun k _ a b => by omega) hb h2' ws r⟩
          rw [hw, List.append_assoc]; rfl
theorem cut_wds {T : List UInt8} (h : (cutA T).2.1 = 0) : Wds T 0 (cutA T).1 := by
  unfold cutA at h ⊢
  by_cases h1 : 65536 < T.length
  · rw [if_pos h1] at h; simp at h
  · rw [if_neg h1] at h ⊢
    by_cases h2 : 0 ≤ rvI T
    · rw [if_pos h2] at h; simp at h
    · rw [if_neg h2] at h ⊢
      obtain ⟨⟨R, e, x⟩, hR⟩ : ∃ R, lx T (T.length + 1) 0 [] = R := ⟨_, rfl⟩
      rw [hR] at h ⊢
      simp only at h ⊢
      subst h
      obtain ⟨ws, hw, r⟩ := lx_wds _ _ _ _ _ (Nat.zero_le _) hR
      rw [List.nil_append] at hw
      rw [hw]; exact r
/-- a word that is no string says just what stands there -/
theorem lw_says {T : List UInt8} {i : Nat} {b : UInt8} (hT : T[i]? = some b) (hbl : blB b = false) (he : (lw T i).er = 0) :
    ((lw T i).kd = 2 ∧ b = 34 ∧ ∃ q, (lw T i).nx = q + 1 ∧ Sc T (i + 1) q) ∨ ((lw T i).kd ≠ 2 ∧ (lw T i).nx = i + (lw T i).tx.length ∧ (T.drop i).take (lw T i).tx.length = (lw T i).tx) := by
  have hi : i < T.length := (List.getElem?_eq_some_iff.1 hT).1
  have hTb : T[i] = b := (List.getElem?_eq_some_iff.1 hT).2
  cases hsg : sgnB b with
  | true =>
    right; rw [lw_sg hT hbl hsg]
    refine ⟨by simp, by simp, ?_⟩
    simp only [List.length_cons, List.length_nil]
    rw [List.drop_eq_getElem_cons hi, hTb]; rfl
  | false =>
    by_cases hq : b.toNat = 34
    · left
      have e := lw_qt hT hbl hsg hq
      rw [e] at he ⊢
      unfold lwS at he ⊢
      by_cases h0 : 0 ≤ (unqJ T i).2.2
      · rw [if_pos h0] at he; simp at he
      · rw [if_neg h0] at he ⊢
        by_cases h4 : 4096 < (unqJ T i).1.length
        · rw [if_pos h4] at he; simp at he
        · rw [if_neg h4]
          refine ⟨rfl, UInt8.toNat_inj.1 hq, ?_⟩
          simp only
          have hb : bt T (i : Int).toNat = 34 := by rw [Int.toNat_natCast, bt_some hT, hq]
          have hu : unqJ T i = rdA (oE 34) jsP T (i + 1) := by
            unfold unqJ; rw [if_pos ⟨by omega, hb⟩, Int.toNat_natCast]
          rw [hu] at h0 ⊢
          unfold rdA at h0 ⊢
          obtain ⟨⟨o, nx, x⟩, hR⟩ : ∃ R, rd (oE 34) jsP T (T.length + 1) (i + 1) [] = R := ⟨_, rfl⟩
          rw [hR] at h0 ⊢
          simp only at h0 ⊢
          have hx : x = -1 := by
            have := rd_third (E := oE 34) (P := jsP) (T := T) (T.length + 1) (i + 1) []
            rw [hR] at this
            simp only at this
            omega
          subst hx
          exact sc_rd _ _ _ _ _ hR
    · right
      cases hn : numS b with
      | true =>
        have e := lw_nm hT hbl hsg hq hn
        rw [e] at he ⊢
        rcases lwN_ne T i _ rfl with ⟨-, h1⟩ | ⟨h0, h1, h2⟩
        · rw [h1]
          have hl : ((T.drop i).take (run numC (T.drop i))).length = run numC (T.drop i) := by
            rw [List.length_take]; exact Nat.min_eq_left (run_le _ _)
          refine ⟨by simp, ?_, ?_⟩ <;> simp only [hl]
        · rw [h2] at he; simp only at he; omega
      | false =>
        have e := lw_lt hT hbl hsg hq hn
        rw [e] at he ⊢
        unfold lwL at he ⊢
        cases hl : litB ((T.drop i).take (run lowC (T.drop i))) with
        | false => rw [hl] at he; simp at he
        | true =>
          rw [if_pos rfl]
          have hl : ((T.drop i).take (run lowC (T.drop i))).length = run lowC (T.drop i) := by
            rw [List.length_take]; exact Nat.min_eq_left (run_le _ _)
          refine ⟨by simp, ?_, ?_⟩ <;> simp only [hl]
end Go.Proofs.YtoamndiblckdlaaGreatDoor
namespace Go.Proofs.YtoamndiblckdlaaGreatDoor
open Go.RowKit

/-- what is left from a place on: words, or nothing at the text's end -/
def StW (T : List UInt8) (p : Nat) (l : List Wd) : Prop := (l = [] ∧ p = T.length) ∨ Wds T p l
theorem st_step {T : List UInt8} {p : Nat} {x : Wd} {r : List Wd} (h : StW T p (x :: r)) :
    p ≤ x.at_ ∧ x.at_ ≤ T.length ∧ (∀ k (h : k < T.length), p ≤ k → k < x.at_ → blB T[k] = true) ∧
      ((x.kd = 2 ∧ T[x.at_]? = some 34 ∧ ∃ q, Sc T (x.at_ + 1) q ∧ StW T (q + 1) r) ∨ (x.kd ≠ 2 ∧ x.at_ + x.tx.length ≤ T.length ∧ (T.drop x.at_).take x.tx.length = x.tx ∧ StW T (x.at_ + x.tx.length) r)) := by
  rcases h with ⟨h, -⟩ | h
  · cases h
  · cases h with
    | stop _ h1 h2 => exact ⟨h1, Nat.le_refl _, fun k hk hp _ => h2 k hk hp, .inr ⟨by simp, by simp, by simp, .inl ⟨rfl, by simp⟩⟩⟩
    | word _ j h1 h2 h3 h4 h5 _ h6 =>
      refine ⟨h1, Nat.le_of_lt h2, h3, ?_⟩
      obtain ⟨g1, g2, g3⟩ := lw_good (at_q h2) h4 h5
      rcases lw_says (at_q h2) h4 h5 with ⟨k1, k2, q, k3, k4⟩ | ⟨k1, k2, k3⟩
      · rw [k3] at h6
        exact .inl ⟨k1, by rw [at_q h2, k2], q, k4, .inr h6⟩
      · rw [k2] at h6 g3
        exact .inr ⟨k1, g3, k3, .inr h6⟩
theorem Sc.lt {T : List UInt8} {p q : Nat} (h : Sc T p q) : p ≤ q ∧ q < T.length := by
  induction h with
  | stop p h => exact ⟨Nat.le_refl _, (List.getElem?_eq_some_iff.1 h).1⟩
  | plain p q b h h1 h2 r ih => omega
  | stroke p q h h2 r ih => omega
theorem Sc.ways {T : List UInt8} {p q : Nat} (h : Sc T p q) : (p = q ∧ T[p]? = some 34) ∨ (∃ b, T[p]? = some b ∧ b.toNat ≠ 34 ∧ b.toNat ≠ 92 ∧ Sc T (p + 1) q) ∨ (T[p]? = some 92 ∧ p + 1 < T.length ∧ Sc T (p + 2) q) := by
  cases h with
  | stop _ h => exact .inl ⟨rfl, h⟩
  | plain _ _ b h h1 h2 r => exact .inr (.inl ⟨b, h, h1, h2, r⟩)
  | stroke _ _ h h2 r => exact .inr (.inr ⟨h, h2, r⟩)
end Go.Proofs.YtoamndiblckdlaaGreatDoor
