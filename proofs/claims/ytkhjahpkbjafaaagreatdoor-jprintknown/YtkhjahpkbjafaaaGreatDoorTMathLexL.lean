
import Derived.Test.YtkhjahpkbjafaaaGreatDoorTJxTwo
import Derived.Test.YtkhjahpkbjafaaaGreatDoorTMathJ
/- Plain mathematics of JSON's words: a number alone between blanks. -/
/- Plain mathematics of JSON's words: where they stand, one behind the other. -/
/- Plain mathematics of JSON's words: blanks between words change nothing but places. -/
namespace Go.Proofs.YtkhjahpkbjafaaaGreatDoor
open Go.RowKit

theorem ascii_vld (l : List UInt8) (h : ∀ b ∈ l, b.toNat < 128) : ∀ j < cnt l, tkN (l.drop (pos l j)) ≠ 0 := by
  intro j hj
  have hp := (cnt_has l).2 j hj
  rw [List.drop_eq_getElem_cons hp, (tk_n1 (h _ (List.getElem_mem _))).1]
  decide
theorem run_app {p : UInt8 → Bool} {l m : List UInt8} {b : UInt8} (h : ∀ x ∈ l, p x = true) (hb : p b = false) : run p (l ++ b :: m) = l.length := by
  unfold run
  rw [List.takeWhile_append_of_pos h, List.takeWhile_cons, if_neg (by simp [hb]), List.append_nil]
end Go.Proofs.YtkhjahpkbjafaaaGreatDoor
namespace Go.Proofs.YtkhjahpkbjafaaaGreatDoor
open Go.RowKit

/-- the way to a string's closing sign, byte by byte, two at a stroke -/
inductive Sc (T : List UInt8) : Nat → Nat → Prop
  | stop (p : Nat) (h : T[p]? = some 34) : Sc T p p
  | plain (p q : Nat) (b : UInt8) (h : T[p]? = some b) (h1 : b.toNat ≠ 34) (h2 : b.toNat ≠ 92) (r : Sc T (p + 1) q) : Sc T p q
  | stroke (p q : Nat) (h : T[p]? = some 92) (h2 : p + 1 < T.length) (r : Sc T (p + 2) q) : Sc T p q
/-- words that stand one behind the other, blanks between -/
inductive Wds (T : List UInt8) : Nat → List Wd → Prop
  | stop (i : Nat) (hi : i ≤ T.length) (hb : ∀ k (h : k < T.length), i ≤ k → blB T[k] = true) : Wds T i [⟨0, [], T.length⟩]
  | word (i j : Nat) (hij : i ≤ j) (hj : j < T.length) (hb : ∀ k (h : k < T.length), i ≤ k → k < j → blB T[k] = true) (hn : blB T[j] = false) (he : (lw T j).er = 0) (ws : List Wd) (r : Wds T (lw T j).nx ws) : Wds T i (⟨(lw T j).kd, (lw T j).tx, j⟩ :: ws)
theorem Wds.blank {T : List UInt8} {i : Nat} {ws : List Wd} (hi : i < T.length) (hb : blB T[i] = true) (r : Wds T (i + 1) ws) : Wds T i ws := by
  cases r with
  | stop _ h1 h2 => exact .stop i (by omega) (fun k h hk => by
      by_cases e : k = i
      · subst e; exact hb
      · exact h2 k h (by omega))
  | word _ j h1 h2 h3 h4 h5 ws r => exact .word i j (by omega) h2 (fun k h hk hk2 => by
      by_cases e : k = i
      · subst e; exact hb
      · exact h3 k h (by omega) hk2) h4 h5 ws r
end Go.Proofs.YtkhjahpkbjafaaaGreatDoor
namespace Go.Proofs.YtkhjahpkbjafaaaGreatDoor
open Go.RowKit

/-- what is left from a place on: words, or nothing at the text's end -/
def StW (T : List UInt8) (p : Nat) (l : List Wd) : Prop := (l = [] ∧ p = T.length) ∨ Wds T p l
theorem Sc.lt {T : List UInt8} {p q : Nat} (h : Sc T p q) : p ≤ q ∧ q < T.length := by
  induction h with
  | stop p h => exact ⟨Nat.le_refl _, (List.getElem?_eq_some_iff.1 h).1⟩
  | plain p q b h h1 h2 r ih => omega
  | stroke p q h h2 r ih => omega
end Go.Proofs.YtkhjahpkbjafaaaGreatDoor
namespace Go.Proofs.YtkhjahpkbjafaaaGreatDoor
open Go.RowKit

/-- a text of letters alone -/
inductive Vl : List UInt8 → Prop
  | nil : Vl []
  | cons (l : List UInt8) (h : tkN l ≠ 0) (r : Vl (l.drop (tkN l))) : Vl l
theorem pos_shift (l : List UInt8) : ∀ k, pos l (k + 1) = stp l + pos (l.drop (stp l)) k
  | 0 => by simp [pos]
  | k + 1 => by
    have ih := pos_shift l k
    have e : pos l (k + 1 + 1) = pos l (k + 1) + stp (l.drop (pos l (k + 1))) := rfl
    have e2 : pos (l.drop (stp l)) (k + 1) = pos (l.drop (stp l)) k + stp ((l.drop (stp l)).drop (pos (l.drop (stp l)) k)) := rfl
    rw [e, e2, ih, List.drop_drop]; omega
theorem lt_cnt {l : List UInt8} {j : Nat} : j < cnt l ↔ pos l j < l.length := ⟨fun h => (cnt_has l).2 j h, fun h => below_cnt l j h⟩
theorem stp_tk {l : List UInt8} (h : tkN l ≠ 0) : stp l = tkN l := by unfold stp; omega
theorem vl_of : ∀ (n : Nat) (l : List UInt8), l.length ≤ n → (∀ j < cnt l, tkN (l.drop (pos l j)) ≠ 0) → Vl l
  | 0, l, hl, _ => by
    have h0 : l = [] := List.eq_nil_of_length_eq_zero (by omega)
    subst h0; exact .nil
  | n + 1, l, hl, h => by
    rcases Nat.eq_zero_or_pos l.length with h0 | h0
    · have h1 : l = [] := List.eq_nil_of_length_eq_zero h0
      subst h1; exact .nil
    · have h1 : tkN l ≠ 0 := by have := h 0 (lt_cnt.2 h0); simpa [pos] using this
      refine .cons l h1 (vl_of n _ (by rw [List.length_drop]; omega) (fun j hj => ?_))
      have h2 := pos_shift l j
      rw [stp_tk h1] at h2
      have h3 := lt_cnt.1 hj
      rw [List.length_drop] at h3
      have h4 := h (j + 1) (lt_cnt.2 (by omega))
      rw [h2] at h4
      rw [List.drop_drop]; exact h4
theorem Vl.vld {l : List UInt8} (h : Vl l) : ∀ j < cnt l, tkN (l.drop (pos l j)) ≠ 0 := by
  induction h with
  | nil => intro j hj; have := lt_cnt.1 hj; simp at this
  | cons l h r ih =>
    intro j hj
    cases j with
    | zero => simpa [pos] using h
    | succ j =>
      have h2 := pos_shift l j
      rw [stp_tk h] at h2
      have h3 := lt_cnt.1 hj
      have h4 := ih j (lt_cnt.2 (by rw [List.length_drop]; omega))
      rw [List.drop_drop] at h4
      rw [h2]; exact h4
theorem vl_rv {l : List UInt8} : Vl l ↔ rvI l < 0 := by
  constructor
  · intro h; rw [rv_yes l (vld_mk l h.vld)]; decide
  · intro h
    have hp : pos l (vlk l) = l.length := by
      rcases Nat.lt_or_ge (pos l (vlk l)) l.length with h1 | h1
      · rw [rv_no l (by omega)] at h; omega
      · have := vlk_in l; omega
    exact vl_of l.length l (Nat.le_refl _) (vld_of l hp)
theorem Vl.app {l m : List UInt8} (h : Vl l) (g : Vl m) : Vl (l ++ m) := by
  induction h with
  | nil => exact g
  | cons l h r ih =>
    have e := tkN_more l m h
    refine .cons _ (by rw [e]; exact h) ?_
    rw [e, List.drop_append_of_le_length (tkN_le l)]; exact ih
theorem vl_ascii {l : List UInt8} (h : ∀ b ∈ l, b.toNat < 128) : Vl l := vl_of l.length l (Nat.le_refl _) (ascii_vld l h)
theorem len_of_take {α : Type} {l m : List α} {n : Nat} (h : l.take n = m.take n) (hl : n ≤ l.length) : n ≤ m.length := by
  have := congrArg List.length h
  rw [List.length_take, List.length_take] at this; omega
/-- a letter hangs on its own bytes alone -/
theorem tk_local {l m : List UInt8} (h : tkN l ≠ 0) (ht : l.take (tkN l) = m.take (tkN l)) : tkN m = tkN l := by
  have h1 := tkN_le l
  have hm := len_of_take ht h1
  have e : m = l.take (tkN l) ++ m.drop (tkN l) := by rw [ht, List.take_append_drop]
  have e2 : tkN (l.take (tkN l)) = tkN l := by
    rcases l with _ | ⟨a, t⟩
    · rfl
    · have hc := tkN_c a t
      by_cases ho : tkOk a t = true
      · rw [if_pos ho] at hc
        rw [hc]
        rw [hc] at h h1
        obtain ⟨k, hk⟩ : ∃ k, begN a.toNat = k + 1 := ⟨begN a.toNat - 1, by omega⟩
        rw [hk, List.take_succ_cons, tkN_c]
        have ho2 : tkOk a (t.take k) = true := by
          unfold tkOk at ho ⊢
          rw [hk] at ho ⊢
          simp only [Nat.add_sub_cancel] at ho ⊢
          rw [List.length_cons] at h1
          rw [List.take_take, Nat.min_self, List.length_take, Nat.min_eq_left (by omega), decide_eq_true (show k + 1 ≠ 0 ∧ k + 1 ≤ k + 1 by omega)]
          rw [decide_eq_true (show k + 1 ≠ 0 ∧ k + 1 ≤ t.length + 1 by omega)] at ho
          exact ho
        rw [if_pos ho2, hk]
      · rw [if_neg ho] at hc; exact absurd hc h
  rw [e, tkN_more _ _ (by rw [e2]; exact h), e2]
theorem Vl.split : ∀ (n : Nat) (X : List UInt8) (b : UInt8) (Y : List UInt8), X.length ≤ n → b.toNat < 128 → Vl (X ++ b :: Y) → Vl X ∧ Vl (b :: Y)
  | n, [], b, Y, _, _, h => ⟨.nil, h⟩
  | 0, a :: X, b, Y, hl, _, _ => by simp at hl
  | n + 1, a :: X, b, Y, hl, hb, h => by
    generalize hZ : (a :: X) ++ b :: Y = Z at h
    cases h with
    | nil => simp at hZ
    | cons _ h r =>
      subst hZ
      have hle : tkN ((a :: X) ++ b :: Y) ≤ (a :: X).length := by
        rcases Nat.lt_or_ge (a :: X).length (tkN ((a :: X) ++ b :: Y)) with hlt | hge
        · exfalso
          have hc : tkN ((a :: X) ++ b :: Y) = if tkOk a (X ++ b :: Y) = true then begN a.toNat else 0 := tkN_c a (X ++ b :: Y)
          by_cases ho : tkOk a (X ++ b :: Y) = true
          · rw [if_pos ho] at hc
            unfold tkOk at ho
            rw [Bool.and_eq_true, Bool.and_eq_true, List.all_eq_true] at ho
            rw [hc, List.length_cons] at hlt
            have := ho.1.2 b (List.mem_of_getElem? (i := X.length) (by
              rw [List.getElem?_take, if_pos (by omega), List.getElem?_append_right (Nat.le_refl _)]; simp))
            have := cont_bd this
            omega
          · rw [if_neg ho] at hc; exact h hc
        · exact hge
      rw [List.drop_append_of_le_length hle] at r
      obtain ⟨r1, r2⟩ := Vl.split n _ b Y (by rw [List.length_drop, List.length_cons]; rw [List.length_cons] at hl; omega) hb r
      have e : tkN (a :: X) = tkN ((a :: X) ++ b :: Y) := tk_local (l := (a :: X) ++ b :: Y) (m := a :: X) h (by rw [List.take_append_of_le_length hle])
      exact ⟨.cons _ (by rw [e]; exact h) (by rw [e]; exact r1), r2⟩
end Go.Proofs.YtkhjahpkbjafaaaGreatDoor
