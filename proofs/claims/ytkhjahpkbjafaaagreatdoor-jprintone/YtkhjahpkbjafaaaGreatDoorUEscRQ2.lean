/- Plain mathematics of JSON's words: a text with blanks about each word. -/
import Derived.Test.YtkhjahpkbjafaaaGreatDoorUJxTwo
import Derived.Test.YtkhjahpkbjafaaaGreatDoorUPlaceAll
import Derived.Test.YtkhjahpkbjafaaaGreatDoorUEscDoc
import Derived.Test.YtkhjahpkbjafaaaGreatDoorUEscK
import Derived.BigRegion
/- The document's own hex4 and Quote of chapter 6: walked. -/
/- How the document's reading of a TOML string goes, said by the pieces. -/
/- The document's own Quote of chapter 6: walked. -/
/- Plain mathematics of JSON's words: a number alone between blanks. -/
/- Plain mathematics of JSON's words: where they stand, one behind the other. -/
/- Plain mathematics of JSON's words: blanks between words change nothing but places. -/
namespace Go.Proofs.YtkhjahpkbjafaaaGreatDoor
open Go.RowKit

theorem ascii_vld (l : List UInt8) (h : ∀ b ∈ l, b.toNat < 128) : ∀ j < cnt l, tkN (l.drop (pos l j)) ≠ 0 := by
  intro j hj
  have hp := (cnt_has l).2 j hj
  rw [List.drop_eq_getElem_cons hp, (tk_n1 (h _ (List.getElem_mem _))).1]
  decide
theorem run_app {p : UInt8 → Bool} {l m : List UInt8} {b : UInt8} (h : ∀ x ∈ l, p x = true) (hb : p b = false) : run p (l ++ b :: m) = l.length := by
  unfold run
  rw [List.takeWhile_append_of_pos h, List.takeWhile_cons, if_neg (by simp [hb]), List.append_nil]
end Go.Proofs.YtkhjahpkbjafaaaGreatDoor
namespace Go.Proofs.YtkhjahpkbjafaaaGreatDoor
open Go.RowKit

/-- the way to a string's closing sign, byte by byte, two at a stroke -/
inductive Sc (T : List UInt8) : Nat → Nat → Prop
  | stop (p : Nat) (h : T[p]? = some 34) : Sc T p p
  | plain (p q : Nat) (b : UInt8) (h : T[p]? = some b) (h1 : b.toNat ≠ 34) (h2 : b.toNat ≠ 92) (r : Sc T (p + 1) q) : Sc T p q
  | stroke (p q : Nat) (h : T[p]? = some 92) (h2 : p + 1 < T.length) (r : Sc T (p + 2) q) : Sc T p q
theorem rd_third {E P : List UInt8 → List UInt8 × Nat} {T : List UInt8} : ∀ f i acc, (rd E P T f i acc).2.2 = -1 ∨ 0 ≤ (rd E P T f i acc).2.2
  | 0, i, acc => by rw [rd]; right; simp only; omega
  | f + 1, i, acc => by
    rw [rd]
    split
    · right; simp only; omega
    · split
      · left; rfl
      · split
        · right; simp only; omega
        · exact rd_third f _ _
/-- words that stand one behind the other, blanks between -/
inductive Wds (T : List UInt8) : Nat → List Wd → Prop
  | stop (i : Nat) (hi : i ≤ T.length) (hb : ∀ k (h : k < T.length), i ≤ k → blB T[k] = true) : Wds T i [⟨0, [], T.length⟩]
  | word (i j : Nat) (hij : i ≤ j) (hj : j < T.length) (hb : ∀ k (h : k < T.length), i ≤ k → k < j → blB T[k] = true) (hn : blB T[j] = false) (he : (lw T j).er = 0) (ws : List Wd) (r : Wds T (lw T j).nx ws) : Wds T i (⟨(lw T j).kd, (lw T j).tx, j⟩ :: ws)
theorem Wds.blank {T : List UInt8} {i : Nat} {ws : List Wd} (hi : i < T.length) (hb : blB T[i] = true) (r : Wds T (i + 1) ws) : Wds T i ws := by
  cases r with
  | stop _ h1 h2 => exact .stop i (by omega) (fun k h hk => by
      by_cases e : k = i
      · subst e; exact hb
      · exact h2 k h (by omega))
  | word _ j h1 h2 h3 h4 h5 ws r => exact .word i j (by omega) h2 (fun k h hk hk2 => by
      by_cases e : k = i
      · subst e; exact hb
      · exact h3 k h (by omega) hk2) h4 h5 ws r
end Go.Proofs.YtkhjahpkbjafaaaGreatDoor
namespace Go.Proofs.YtkhjahpkbjafaaaGreatDoor
open Go.RowKit

/-- what is left from a place on: words, or nothing at the text's end -/
def StW (T : List UInt8) (p : Nat) (l : List Wd) : Prop := (l = [] ∧ p = T.length) ∨ Wds T p l
theorem Sc.lt {T : List UInt8} {p q : Nat} (h : Sc T p q) : p ≤ q ∧ q < T.length := by
  induction h with
  | stop p h => exact ⟨Nat.le_refl _, (List.getElem?_eq_some_iff.1 h).1⟩
  | plain p q b h h1 h2 r ih => omega
  | stroke p q h h2 r ih => omega
end Go.Proofs.YtkhjahpkbjafaaaGreatDoor
namespace Go.Proofs.YtkhjahpkbjafaaaGreatDoor
open Go.RowKit

/-- a text of letters alone -/
inductive Vl : List UInt8 → Prop
  | nil : Vl []
  | cons (l : List UInt8) (h : tkN l ≠ 0) (r : Vl (l.drop (tkN l))) : Vl l
theorem pos_shift (l : List UInt8) : ∀ k, pos l (k + 1) = stp l + pos (l.drop (stp l)) k
  | 0 => by simp [pos]
  | k + 1 => by
    have ih := pos_shift l k
    have e : pos l (k + 1 + 1) = pos l (k + 1) + stp (l.drop (pos l (k + 1))) := rfl
    have e2 : pos (l.drop (stp l)) (k + 1) = pos (l.drop (stp l)) k + stp ((l.drop (stp l)).drop (pos (l.drop (stp l)) k)) := rfl
    rw [e, e2, ih, List.drop_drop]; omega
theorem lt_cnt {l : List UInt8} {j : Nat} : j < cnt l ↔ pos l j < l.length := ⟨fun h => (cnt_has l).2 j h, fun h => below_cnt l j h⟩
theorem stp_tk {l : List UInt8} (h : tkN l ≠ 0) : stp l = tkN l := by unfold stp; omega
theorem vl_of : ∀ (n : Nat) (l : List UInt8), l.length ≤ n → (∀ j < cnt l, tkN (l.drop (pos l j)) ≠ 0) → Vl l
  | 0, l, hl, _ => by
    have h0 : l = [] := List.eq_nil_of_length_eq_zero (by omega)
    subst h0; exact .nil
  | n + 1, l, hl, h => by
    rcases Nat.eq_zero_or_pos l.length with h0 | h0
    · have h1 : l = [] := List.eq_nil_of_length_eq_zero h0
      subst h1; exact .nil
    · have h1 : tkN l ≠ 0 := by have := h 0 (lt_cnt.2 h0); simpa [pos] using this
      refine .cons l h1 (vl_of n _ (by rw [List.length_drop]; omega) (fun j hj => ?_))
      have h2 := pos_shift l j
      rw [stp_tk h1] at h2
      have h3 := lt_cnt.1 hj
      rw [List.length_drop] at h3
      have h4 := h (j + 1) (lt_cnt.2 (by omega))
      rw [h2] at h4
      rw [List.drop_drop]; exact h4
theorem Vl.vld {l : List UInt8} (h : Vl l) : ∀ j < cnt l, tkN (l.drop (pos l j)) ≠ 0 := by
  induction h with
  | nil => intro j hj; have := lt_cnt.1 hj; simp at this
  | cons l h r ih =>
    intro j hj
    cases j with
    | zero => simpa [pos] using h
    | succ j =>
      have h2 := pos_shift l j
      rw [stp_tk h] at h2
      have h3 := lt_cnt.1 hj
      have h4 := ih j (lt_cnt.2 (by rw [List.length_drop]; omega))
      rw [List.drop_drop] at h4
      rw [h2]; exact h4
theorem vl_rv {l : List UInt8} : Vl l ↔ rvI l < 0 := by
  constructor
  · intro h; rw [rv_yes l (vld_mk l h.vld)]; decide
  · intro h
    have hp : pos l (vlk l) = l.length := by
      rcases Nat.lt_or_ge (pos l (vlk l)) l.length with h1 | h1
      · rw [rv_no l (by omega)] at h; omega
      · have := vlk_in l; omega
    exact vl_of l.length l (Nat.le_refl _) (vld_of l hp)
theorem Vl.app {l m : List UInt8} (h : Vl l) (g : Vl m) : Vl (l ++ m) := by
  induction h with
  | nil => exact g
  | cons l h r ih =>
    have e := tkN_more l m h
    refine .cons _ (by rw [e]; exact h) ?_
    rw [e, List.drop_append_of_le_length (tkN_le l)]; exact ih
theorem vl_ascii {l : List UInt8} (h : ∀ b ∈ l, b.toNat < 128) : Vl l := vl_of l.length l (Nat.le_refl _) (ascii_vld l h)
theorem len_of_take {α : Type} {l m : List α} {n : Nat} (h : l.take n = m.take n) (hl : n ≤ l.length) : n ≤ m.length := by
  have := congrArg List.length h
  rw [List.length_take, List.length_take] at this; omega
/-- a letter hangs on its own bytes alone -/
theorem tk_local {l m : List UInt8} (h : tkN l ≠ 0) (ht : l.take (tkN l) = m.take (tkN l)) : tkN m = tkN l := by
  have h1 := tkN_le l
  have hm := len_of_take ht h1
  have e : m = l.take (tkN l) ++ m.drop (tkN l) := by rw [ht, List.take_append_drop]
  have e2 : tkN (l.take (tkN l)) = tkN l := by
    rcases l with _ | ⟨a, t⟩
    · rfl
    · have hc := tkN_c a t
      by_cases ho : tkOk a t = true
      · rw [if_pos ho] at hc
        rw [hc]
        rw [hc] at h h1
        obtain ⟨k, hk⟩ : ∃ k, begN a.toNat = k + 1 := ⟨begN a.toNat - 1, by omega⟩
        rw [hk, List.take_succ_cons, tkN_c]
        have ho2 : tkOk a (t.take k) = true := by
          unfold tkOk at ho ⊢
          rw [hk] at ho ⊢
          simp only [Nat.add_sub_cancel] at ho ⊢
          rw [List.length_cons] at h1
          rw [List.take_take, Nat.min_self, List.length_take, Nat.min_eq_left (by omega), decide_eq_true (show k + 1 ≠ 0 ∧ k + 1 ≤ k + 1 by omega)]
          rw [decide_eq_true (show k + 1 ≠ 0 ∧ k + 1 ≤ t.length + 1 by omega)] at ho
          exact ho
        rw [if_pos ho2, hk]
      · rw [if_neg ho] at hc; exact absurd hc h
  rw [e, tkN_more _ _ (by rw [e2]; exact h), e2]
theorem Vl.split : ∀ (n : Nat) (X : List UInt8) (b : UInt8) (Y : List UInt8), X.length ≤ n → b.toNat < 128 → Vl (X ++ b :: Y) → Vl X ∧ Vl (b :: Y)
  | n, [], b, Y, _, _, h => ⟨.nil, h⟩
  | 0, a :: X, b, Y, hl, _, _ => by simp at hl
  | n + 1, a :: X, b, Y, hl, hb, h => by
    generalize hZ : (a :: X) ++ b :: Y = Z at h
    cases h with
    | nil => simp at hZ
    | cons _ h r =>
      subst hZ
      have hle : tkN ((a :: X) ++ b :: Y) ≤ (a :: X).length := by
        rcases Nat.lt_or_ge (a :: X).length (tkN ((a :: X) ++ b :: Y)) with hlt | hge
        · exfalso
          have hc : tkN ((a :: X) ++ b :: Y) = if tkOk a (X ++ b :: Y) = true then begN a.toNat else 0 := tkN_c a (X ++ b :: Y)
          by_cases ho : tkOk a (X ++ b :: Y) = true
          · rw [if_pos ho] at hc
            unfold tkOk at ho
            rw [Bool.and_eq_true, Bool.and_eq_true, List.all_eq_true] at ho
            rw [hc, List.length_cons] at hlt
            have := ho.1.2 b (List.mem_of_getElem? (i := X.length) (by
              rw [List.getElem?_take, if_pos (by omega), List.getElem?_append_right (Nat.le_refl _)]; simp))
            have := cont_bd this
            omega
          · rw [if_neg ho] at hc; exact h hc
        · exact hge
      rw [List.drop_append_of_le_length hle] at r
      obtain ⟨r1, r2⟩ := Vl.split n _ b Y (by rw [List.length_drop, List.length_cons]; rw [List.length_cons] at hl; omega) hb r
      have e : tkN (a :: X) = tkN ((a :: X) ++ b :: Y) := tk_local (l := (a :: X) ++ b :: Y) (m := a :: X) h (by rw [List.take_append_of_le_length hle])
      exact ⟨.cons _ (by rw [e]; exact h) (by rw [e]; exact r1), r2⟩
end Go.Proofs.YtkhjahpkbjafaaaGreatDoor
namespace Go.Proofs.YtkhjahpkbjafaaaGreatDoor
open Go.RowKit

/-- the text with blanks about each word -/
def blS (T : List UInt8) : List Wd → List UInt8
  | [] => []
  | x :: r => match r with
    | [] => []
    | y :: _ => [32, 10] ++ ((T.drop x.at_).take (y.at_ - x.at_) ++ ([9, 13] ++ blS T r))
theorem blS_one (T : List UInt8) (x : Wd) : blS T [x] = [] := rfl
theorem blS_two (T : List UInt8) (x y : Wd) (r : List Wd) : blS T (x :: y :: r) = [32, 10] ++ ((T.drop x.at_).take (y.at_ - x.at_) ++ ([9, 13] ++ blS T (y :: r))) := rfl
theorem Wds.some {T : List UInt8} {i : Nat} {ws : List Wd} (h : Wds T i ws) : ∃ y r, ws = y :: r ∧ i ≤ y.at_ ∧ y.at_ ≤ T.length ∧ (∀ k (h : k < T.length), i ≤ k → k < y.at_ → blB T[k] = true) ∧ (∀ b, T[y.at_]? = some b → blB b = false) := by
  cases h with
  | stop _ h1 h2 => exact ⟨_, _, rfl, h1, Nat.le_refl _, fun k hk hp _ => h2 k hk hp, fun b hb => by rw [List.getElem?_eq_none (Nat.le_refl _)] at hb; cases hb⟩
  | word _ j h1 h2 h3 h4 h5 ws r => exact ⟨_, _, rfl, h1, Nat.le_of_lt h2, h3, fun b hb => by rw [at_q h2] at hb; injection hb with hb; rw [← hb]; exact h4⟩
theorem Wds.count {T : List UInt8} {i : Nat} {ws : List Wd} (h : Wds T i ws) : i + ws.length ≤ T.length + 1 := by
  induction h with
  | stop i h1 h2 => simp; omega
  | word i j h1 h2 h3 h4 h5 ws r ih =>
    have := (lw_good (at_q h2) h4 h5).2.1
    rw [List.length_cons]; omega
theorem Wds.size {T : List UInt8} {i : Nat} {ws : List Wd} (h : Wds T i ws) : ∀ x r, ws = x :: r → x.at_ + (blS T ws).length + 4 ≤ T.length + 4 * ws.length := by
  induction h with
  | stop i h1 h2 =>
    intro x r e
    injection e with e1 e2; subst e1 e2
    rw [blS_one]; simp
  | word i j h1 h2 h3 h4 h5 ws r ih =>
    intro x r2 e
    injection e with e1 e2; subst e1 e2
    obtain ⟨y, t, rfl, g1, g2, -, -⟩ := r.some
    have ih2 := ih y t rfl
    rw [blS_two]
    simp only [List.length_append, List.length_cons, List.length_nil, List.length_take, List.length_drop] at ih2 ⊢
    have := (lw_good (at_q h2) h4 h5).2.1
    omega
theorem Wds.blanks {T : List UInt8} {ws : List Wd} : ∀ (n i : Nat), i + n ≤ T.length → (∀ k (h : k < T.length), i ≤ k → k < i + n → blB T[k] = true) → Wds T (i + n) ws → Wds T i ws
  | 0, i, _, _, r => r
  | n + 1, i, hl, hb, r => by
    refine Wds.blank (by omega) (hb i (by omega) (Nat.le_refl _) (by omega)) (Wds.blanks n (i + 1) (by omega) (fun k h h1 h2 => hb k h (by omega) (by omega)) ?_)
    rw [show i + 1 + n = i + (n + 1) by omega]; exact r
theorem wds_lx {T : List UInt8} {i : Nat} {ws : List Wd} (h : Wds T i ws) : ∀ (f : Nat) (acc : List Wd), T.length < i + f → lx T f i acc = (acc ++ ws, 0, 0) := by
  induction h with
  | stop i h1 h2 =>
    intro f acc hf
    obtain ⟨f', r1, r2, r3, -⟩ := lx_row (T := T) (acc := acc) (T.length - i) i f (by omega) hf
    have hr : run blB (T.drop i) = T.length - i := by
      refine run_is _ (by rw [List.length_drop]; exact Nat.le_refl _) (fun k hk _ => ?_) (fun hh => by rw [List.length_drop] at hh; omega)
      rw [List.getElem_drop]; exact h2 _ _ (by omega)
    rw [r1, hr, show i + (T.length - i) = T.length by omega]
    rw [hr] at r2
    exact lx_end (by omega) (Nat.le_refl _) (Nat.le_refl _)
  | word i j h1 h2 h3 h4 h5 ws r ih =>
    intro f acc hf
    obtain ⟨f', r1, r2, r3, -⟩ := lx_row (T := T) (acc := acc) (T.length - i) i f (by omega) hf
    have hr : run blB (T.drop i) = j - i := by
      refine run_is _ (by rw [List.length_drop]; omega) (fun k hk hkn => ?_) (fun hh => ?_)
      · rw [List.getElem_drop]; exact h3 _ _ (by omega) (by omega)
      · rw [List.getElem_drop]
        have e : i + (j - i) = j := by omega
        simp only [e]; exact h4
    rw [hr, show i + (j - i) = j by omega] at r1 r2
    obtain ⟨g1, g2, g3⟩ := lw_good (at_q h2) h4 h5
    obtain ⟨f2, r5, r6⟩ := lx_word (acc := acc) r2 h2 h5 g1 g2
    rw [r1, r5, ih _ _ r6, List.append_assoc]; rfl
/-- the same kinds and texts -/
def sameW (a b : List Wd) : Prop := a.map (fun x => (x.kd, x.tx)) = b.map (fun x => (x.kd, x.tx))
end Go.Proofs.YtkhjahpkbjafaaaGreatDoor
namespace Go.Proofs.YtkhjahpkbjafaaaGreatDoor
open Go.RowKit

theorem strOfNums_data' (xs : List Int) : (strOfNums xs).data.toList = xs.map fun n => UInt8.ofNat n.toNat := by unfold strOfNums; simp
end Go.Proofs.YtkhjahpkbjafaaaGreatDoor
namespace Go.Proofs.YtkhjahpkbjafaaaGreatDoor
open Go.RowKit

def EE (many : Bool) (q : Nat) (l : List UInt8) : List UInt8 × Nat := if many = true then mE q l else oE q l
def PP (many : Bool) (q : Nat) (l : List UInt8) : List UInt8 × Nat :=
  if bt l 0 = 92 ∧ q = 34 then (if many = true ∧ 0 < fdN l then ([], fdN l) else escP true l)
  else if many = true ∧ 0 < lnE l then (l.take (lnE l), lnE l) else opP l
def tStart (many : Bool) (T : List UInt8) (a : Nat) : Nat := if many = true then a + 3 + lnE (T.drop (a + 3)) else a + 1
theorem tk_ascii {l : List UInt8} (h : bt l 0 < 128) : tkN l = 1 := by
  cases l with
  | nil => rw [bt_nil] at h; omega
  | cons a t =>
    rw [bt_cons] at h
    have hb : begN a.toNat = 1 := by unfold begN; rw [if_pos h]
    have hr : begR a.toNat = a.toNat := by unfold begR; rw [if_pos h]
    have hk : tkOk a t = true := by
      unfold tkOk
      rw [hb, hr]
      simp only [Nat.sub_self, List.take_zero, fol, List.foldl_nil]
      unfold goodN wdN
      rw [if_pos h]
      simp; omega
    simp only [tkN, hk, if_true, hb]
section
variable {many : Bool} {q : Nat} {T : List UInt8} {f i : Nat} {acc : List UInt8}
/-- a letter as it is, or a line's end, or what is wrong -/
def lineB (many : Bool) (l : List UInt8) : Bool := many && decide (0 < lnE l)
def badB (many : Bool) (l : List UInt8) : Prop := tkN l = 0 ∨ ((bt l 0 < 32 ∨ bt l 0 = 127) ∧ bt l 0 ≠ 9 ∧ lineB many l = false)
end
end Go.Proofs.YtkhjahpkbjafaaaGreatDoor
namespace Go.Proofs.YtkhjahpkbjafaaaGreatDoor
open Go.RowKit

/-- a letter, cut out, is the same letter -/
theorem tk_cut (l : List UInt8) (h : 0 < l.length) : tkN (l.take (stp l)) = tkN l := by
  cases l with
  | nil => simp at h
  | cons a t =>
    by_cases hk : tkOk a t = true
    · have hn : tkN (a :: t) = begN a.toNat := by simp only [tkN, hk, if_true]
      have h1 := hk
      unfold tkOk at h1
      simp only [Bool.and_eq_true, decide_eq_true_eq] at h1
      obtain ⟨⟨⟨g1, g2⟩, g3⟩, g4, g5⟩ := h1
      have hs : stp (a :: t) = begN a.toNat := by unfold stp; rw [hn]; omega
      obtain ⟨m, hm⟩ : ∃ m, begN a.toNat = m + 1 := ⟨begN a.toNat - 1, by omega⟩
      rw [hn, hs]
      have e : (a :: t).take (begN a.toNat) = a :: t.take (begN a.toNat - 1) := by rw [hm]; rfl
      rw [e]
      have hk2 : tkOk a (t.take (begN a.toNat - 1)) = true := by
        unfold tkOk
        rw [List.take_take, Nat.min_self, g3, g4, decide_eq_true g5, List.length_take, decide_eq_true (show begN a.toNat ≠ 0 ∧ begN a.toNat ≤ min (begN a.toNat - 1) t.length + 1 by omega)]; rfl
      simp only [tkN, hk2, if_true]
    · have hk' : tkOk a t = false := by simpa using hk
      have hn : tkN (a :: t) = 0 := by simp only [tkN, hk']; rfl
      have hs : stp (a :: t) = 1 := by unfold stp; rw [hn]; rfl
      rw [hn, hs]
      show tkN [a] = 0
      by_cases ha : a.toNat < 128
      · have := tk_ascii (l := a :: t) (by rw [bt_cons]; exact ha)
        omega
      · have h2 : tkOk a [] = false := by
          unfold tkOk
          have : ¬ (begN a.toNat ≠ 0 ∧ begN a.toNat ≤ ([] : List UInt8).length + 1) := by
            unfold begN
            rw [if_neg ha]
            (repeat' split) <;> simp
          rw [decide_eq_false this]; rfl
        simp only [tkN, h2]; rfl
theorem qst_small {toml : Bool} {l : List UInt8} (h0 : tkN l ≠ 0) (h1 : bt l 0 < 128) (h : ¬ (bt l 0 = 127 ∧ toml = false)) : qst toml l = qbB (bt l 0) := by
  unfold qst; rw [if_neg h0, if_neg]; rw [tk_ascii h1]; rintro (h2 | h2)
  · omega
  · exact h h2
theorem qst_as {toml : Bool} {l : List UInt8} (h0 : tkN l ≠ 0) (h : 1 < tkN l ∨ bt l 0 = 127 ∧ toml = false) : qst toml l = l.take (tkN l) := by
  unfold qst; rw [if_neg h0, if_pos h]
end Go.Proofs.YtkhjahpkbjafaaaGreatDoor
