/- Plain mathematics of JSON's words: blanks between words change nothing but places. -/
import Derived.Test.YtoamndiblckdlaaGreatDoorMathLexE
import Derived.Test.YtoamndiblckdlaaGreatDoorMathLexW
namespace Go.Proofs.YtoamndiblckdlaaGreatDoor
open Go.RowKit

/-- a text of letters alone -/
inductive Vl : List UInt8 → Prop
  | nil : Vl []
  | cons (l : List UInt8) (h : tkN l ≠ 0) (r : Vl (l.drop (tkN l))) : Vl l
theorem pos_shift (l : List UInt8) : ∀ k, pos l (k + 1) = stp l + pos (l.drop (stp l)) k
  | 0 => by simp [pos]
  | k + 1 => by
    have ih := pos_shift l k
    have e : pos l (k + 1 + 1) = pos l (k + 1) + stp (l.drop (pos l (k + 1))) := rfl
    have e2 : pos (l.drop (stp l)) (k + 1) = pos (l.drop (stp l)) k + stp ((l.drop (stp l)).drop (pos (l.drop (stp l)) k)) := rfl
    rw [e, e2, ih, List.drop_drop]; omega
theorem lt_cnt {l : List UInt8} {j : Nat} : j < cnt l ↔ pos l j < l.length := ⟨fun h => (cnt_has l).2 j h, fun h => below_cnt l j h⟩
theorem stp_tk {l : List UInt8} (h : tkN l ≠ 0) : stp l = tkN l := by unfold stp; omega
theorem vl_of : ∀ (n : Nat) (l : List UInt8), l.length ≤ n → (∀ j < cnt l, tkN (l.drop (pos l j)) ≠ 0) → Vl l
  | 0, l, hl, _ => by
    have h0 : l = [] := List.eq_nil_of_length_eq_zero (by omega)
    subst h0; exact .nil
  | n + 1, l, hl, h => by
    rcases Nat.eq_zero_or_pos l.length with h0 | h0
    · have h1 : l = [] := List.eq_nil_of_length_eq_zero h0
      subst h1; exact .nil
    · have h1 : tkN l ≠ 0 := by have := h 0 (lt_cnt.2 h0); simpa [pos] using this
      refine .cons l h1 (vl_of n _ (by rw [List.length_drop]; omega) (fun j hj => ?_))
      have h2 := pos_shift l j
      rw [stp_tk h1] at h2
      have h3 := lt_cnt.1 hj
      rw [List.length_drop] at h3
      have h4 := h (j + 1) (lt_cnt.2 (by omega))
      rw [h2] at h4
      rw [List.drop_drop]; exact h4
theorem Vl.vld {l : List UInt8} (h : Vl l) : ∀ j < cnt l, tkN (l.drop (pos l j)) ≠ 0 := by
  induction h with
  | nil => intro j hj; have := lt_cnt.1 hj; simp at this
  | cons l h r ih =>
    intro j hj
    cases j with
    | zero => simpa [pos] using h
    | succ j =>
      have h2 := pos_shift l j
      rw [stp_tk h] at h2
      have h3 := lt_cnt.1 hj
      have h4 := ih j (lt_cnt.2 (by rw [List.length_drop]; omega))
      rw [List.drop_drop] at h4
      rw [h2]; exact h4
theorem vl_rv {l : List UInt8} : Vl l ↔ rvI l < 0 := by
  constructor
  · intro h; rw [rv_yes l (vld_mk l h.vld)]; decide
  · intro h
    have hp : pos l (vlk l) = l.length := by
      rcases Nat.lt_or_ge (pos l (vlk l)) l.length with h1 | h1
      · rw [rv_no l (by omega)] at h; omega
      · have := vlk_in l; omega
    exact vl_of l.length l (Nat.le_refl _) (vld_of l hp)
theorem Vl.app {l m : List UInt8} (h : Vl l) (g : Vl m) : Vl (l ++ m) := by
  induction h with
  | nil => exact g
  | cons l h r ih =>
    have e := tkN_more l m h
    refine .cons _ (by rw [e]; exact h) ?_
    rw [e, List.drop_append_of_le_length (tkN_le l)]; exact ih
theorem vl_ascii {l : List UInt8} (h : ∀ b ∈ l, b.toNat < 128) : Vl l := vl_of l.length l (Nat.le_refl _) (ascii_vld l h)
theorem take_eq_get {α : Type} {l m : List α} {n k : Nat} (h : l.take n = m.take n) (hk : k < n) : l[k]? = m[k]? := by
  have := congrArg (·[k]?) h
  simpa [List.getElem?_take, hk] using this
theorem get_take_eq {α : Type} {l m : List α} {n : Nat} (h : ∀ k, k < n → l[k]? = m[k]?) : l.take n = m.take n := by
  apply List.ext_getElem?
  intro k
  rw [List.getElem?_take, List.getElem?_take]
  split
  · exact h k ‹_›
  · rfl
theorem len_of_take {α : Type} {l m : List α} {n : Nat} (h : l.take n = m.take n) (hl : n ≤ l.length) : n ≤ m.length := by
  have := congrArg List.length h
  rw [List.length_take, List.length_take] at this; omega
/-- a letter hangs on its own bytes alone -/
theorem tk_local {l m : List UInt8} (h : tkN l ≠ 0) (ht : l.take (tkN l) = m.take (tkN l)) : tkN m = tkN l := by
  have h1 := tkN_le l
  have hm := len_of_take ht h1
  have e : m = l.take (tkN l) ++ m.drop (tkN l) := by rw [ht, List.take_append_drop]
  have e2 : tkN (l.take (tkN l)) = tkN l := by
    rcases l with _ | ⟨a, t⟩
    · rfl
    · have hc := tkN_c a t
      by_cases ho : tkOk a t = true
      · rw [if_pos ho] at hc
        rw [hc]
        rw [hc] at h h1
        obtain ⟨k, hk⟩ : ∃ k, begN a.toNat = k + 1 := ⟨begN a.toNat - 1, by omega⟩
        rw [hk, List.take_succ_cons, tkN_c]
        have ho2 : tkOk a (t.take k) = true := by
          unfold tkOk at ho ⊢
          rw [hk] at ho ⊢
          simp only [Nat.add_sub_cancel] at ho ⊢
          rw [List.length_cons] at h1
          rw [List.take_take, Nat.min_self, List.length_take, Nat.min_eq_left (by omega), decide_eq_true (show k + 1 ≠ 0 ∧ k + 1 ≤ k + 1 by omega)]
          rw [decide_eq_true (show k + 1 ≠ 0 ∧ k + 1 ≤ t.length + 1 by omega)] at ho
          exact ho
        rw [if_pos ho2, hk]
      · rw [if_neg ho] at hc; exact absurd hc h
  rw [e, tkN_more _ _ (by rw [e2]; exact h), e2]
theorem Vl.split : ∀ (n : Nat) (X : List UInt8) (b : UInt8) (Y : List UInt8), X.length ≤ n → b.toNat < 128 → Vl (X ++ b :: Y) → Vl X ∧ Vl (b :: Y)
  | n, [], b, Y, _, _, h => ⟨.nil, h⟩
  | 0, a :: X, b, Y, hl, _, _ => by simp at hl
  | n + 1, a :: X, b, Y, hl, hb, h => by
    generalize hZ : (a :: X) ++ b :: Y = Z at h
    cases h with
    | nil => simp at hZ
    | cons _ h r =>
      subst hZ
      have hle : tkN ((a :: X) ++ b :: Y) ≤ (a :: X).length := by
        rcases Nat.lt_or_ge (a :: X).length (tkN ((a :: X) ++ b :: Y)) with hlt | hge
        · exfalso
          have hc : tkN ((a :: X) ++ b :: Y) = if tkOk a (X ++ b :: Y) = true then begN a.toNat else 0 := tkN_c a (X ++ b :: Y)
          by_cases ho : tkOk a (X ++ b :: Y) = true
          · rw [if_pos ho] at hc
            unfold tkOk at ho
            rw [Bool.and_eq_true, Bool.and_eq_true, List.all_eq_true] at ho
            rw [hc, List.length_cons] at hlt
            have := ho.1.2 b (List.mem_of_getElem? (i := X.length) (by
              rw [List.getElem?_take, if_pos (by omega), List.getElem?_append_right (Nat.le_refl _)]; simp))
            have := cont_bd this
            omega
          · rw [if_neg ho] at hc; exact h hc
        · exact hge
      rw [List.drop_append_of_le_length hle] at r
      obtain ⟨r1, r2⟩ := Vl.split n _ b Y (by rw [List.length_drop, List.length_cons]; rw [List.length_cons] at hl; omega) hb r
      have e : tkN (a :: X) = tkN ((a :: X) ++ b :: Y) := tk_local (l := (a :: X) ++ b :: Y) (m := a :: X) h (by rw [List.take_append_of_le_length hle])
      exact ⟨.cons _ (by rw [e]; exact h) (by rw [e]; exact r1), r2⟩
theorem bt_same {l m : List UInt8} {n k : Nat} (h : l.take n = m.take n) (hk : k < n) : bt m k = bt l k := by
  unfold bt; rw [take_eq_get h hk]
theorem cdI_same {l m : List UInt8} {n k c : Nat} (h : l.take n = m.take n) (hl : n ≤ l.length) (hk : k + c ≤ n) : cdI m k c = cdI l k c := by
  have hm := len_of_take h hl
  have e : (m.drop k).take c = (l.drop k).take c := get_take_eq (fun j hj => by
    rw [List.getElem?_drop, List.getElem?_drop, take_eq_get h (show k + j < n by omega)])
  unfold cdI
  rw [e]
  by_cases hc : hexB ((l.drop k).take c) = true
  · rw [if_pos ⟨by omega, hc⟩, if_pos ⟨by omega, hc⟩]
  · rw [if_neg (fun h => hc h.2), if_neg (fun h => hc h.2)]
theorem esc_local {l m : List UInt8} (hn : 0 < (escP false l).2) (hl : (escP false l).2 ≤ l.length) (h : l.take (escP false l).2 = m.take (escP false l).2) : escP false m = escP false l := by
  by_cases h2 : nmV false (bt l 1) < 256
  · have e : escP false l = ([UInt8.ofNat (nmV false (bt l 1))], 2) := by unfold escP; rw [if_pos h2]
    rw [e] at h ⊢
    simp only at h
    have b1 := bt_same h (show 1 < 2 by decide)
    unfold escP; rw [b1, if_pos h2]
  · by_cases h3 : bt l 1 = 117
    · have e : escP false l = escU false l 4 := by unfold escP; rw [if_neg h2, if_neg (by simp), if_pos h3]
      have em : bt m 1 = bt l 1 → escP false m = escU false m 4 := fun hb => by unfold escP; rw [hb, if_neg h2, if_neg (by simp), if_pos h3]
      rw [e] at hn hl h ⊢
      by_cases h5 : 0 ≤ cdI l 2 4 ∧ goodB (cdI l 2 4) = true
      · have e2 : escU false l 4 = (ltr (cdI l 2 4), 2 + 4) := by unfold escU; rw [if_pos h5]
        rw [e2] at hl h ⊢
        simp only at hl h
        have c1 := cdI_same h hl (show 2 + 4 ≤ 2 + 4 by decide)
        rw [em (bt_same h (show 1 < 2 + 4 by decide))]
        unfold escU; rw [c1, if_pos h5]
      · by_cases h6 : false = false ∧ 55296 ≤ cdI l 2 4 ∧ cdI l 2 4 < 56320 ∧ bt l 6 = 92 ∧ bt l 7 = 117 ∧ 56320 ≤ cdI l 8 4 ∧ cdI l 8 4 < 57344
        · have e2 : escU false l 4 = (ltr (65536 + (cdI l 2 4 - 55296) * 1024 + cdI l 8 4 - 56320), 12) := by unfold escU; rw [if_neg h5, if_pos h6]
          rw [e2] at hl h ⊢
          simp only at hl h
          have c1 := cdI_same h hl (show 2 + 4 ≤ 12 by decide)
          have c2 := cdI_same h hl (show 8 + 4 ≤ 12 by decide)
          rw [em (bt_same h (show 1 < 12 by decide))]
          unfold escU; rw [c1, c2, bt_same h (show 6 < 12 by decide), bt_same h (show 7 < 12 by decide), if_neg h5, if_pos h6]
        · have e2 : escU false l 4 = ([], 0) := by unfold escU; rw [if_neg h5, if_neg h6]
          rw [e2] at hn; simp at hn
    · have e : escP false l = ([], 0) := by unfold escP; rw [if_neg h2, if_neg (by simp), if_neg h3]
      rw [e] at hn; simp at hn
/-- a piece of a string hangs on its own bytes alone -/
theorem js_local {l m : List UInt8} (hn : 0 < (jsP l).2) (hl : (jsP l).2 ≤ l.length) (h : l.take (jsP l).2 = m.take (jsP l).2) : jsP m = jsP l := by
  have b0 := bt_same h hn
  by_cases h1 : bt l 0 = 92
  · have e : jsP l = escP false l := by unfold jsP; rw [if_pos h1]
    have em : jsP m = escP false m := by unfold jsP; rw [b0, if_pos h1]
    rw [e] at hn hl h ⊢
    rw [em]; exact esc_local hn hl h
  · by_cases h2 : bt l 0 < 32
    · have e : jsP l = ([], 0) := by unfold jsP; rw [if_neg h1, if_pos h2]
      rw [e] at hn; simp at hn
    · have e : jsP l = plP l := by unfold jsP; rw [if_neg h1, if_neg h2]
      have em : jsP m = plP m := by unfold jsP; rw [b0, if_neg h1, if_neg h2]
      rw [e] at hn hl h ⊢
      rw [em]
      unfold plP at hn hl h ⊢
      simp only at hn hl h ⊢
      rw [tk_local (by omega) h, h]
theorem rd_ahead {T : List UInt8} : ∀ (f p : Nat) (acc o : List UInt8) (nx : Nat), rd (oE 34) jsP T f p acc = (o, nx, -1) → p < nx ∧ nx ≤ T.length := by
  intro f p acc o nx h
  have := rd_in (E := oE 34) (P := jsP) (T := T) (fun l hl => by unfold oE; split <;> simp only <;> omega) (fun l => (fits_js l).1) f p acc (by rw [h]; show (-1 : Int) < 0; decide)
  rw [h] at this; exact this
/-- a string that is read hangs on its own bytes alone -/
theorem rd_local {T N : List UInt8} : ∀ (f p : Nat) (acc o : List UInt8) (nx : Nat), rd (oE 34) jsP T f p acc = (o, nx, -1) → ∀ (q g : Nat), (∀ k, k < nx - p → T[p + k]? = N[q + k]?) → N.length < q + g → rd (oE 34) jsP N g q acc = (o, q + (nx - p), -1)
  | 0, p, acc, o, nx, h, q, g, _, _ => by rw [rd] at h; injection h with _ h; injection h with _ h; omega
  | f + 1, p, acc, o, nx, h, q, g, hs, hg => by
    obtain ⟨ha, hb⟩ := rd_ahead _ _ _ _ _ h
    have e0 := hs 0 (by omega)
    rw [Nat.add_zero, Nat.add_zero] at e0
    have hp : p < T.length := by omega
    have hq : q < N.length := by rw [at_q hp] at e0; exact (List.getElem?_eq_some_iff.1 e0.symm).1
    have eb : bt (N.drop q) 0 = bt (T.drop p) 0 := by rw [bt_drop, bt_drop, Nat.add_zero, Nat.add_zero]; unfold bt; rw [e0]
    cases g with
    | zero => omega
    | succ g =>
      rw [rd] at h ⊢
      rw [if_neg (by omega)] at h
      rw [if_neg (by omega)]
      by_cases h2 : bt (T.drop p) 0 = 34
      · have e : oE 34 (T.drop p) = ([], 1) := by unfold oE; rw [if_pos h2]
        have e' : oE 34 (N.drop q) = ([], 1) := by unfold oE; rw [eb, if_pos h2]
        rw [e, if_pos (by decide)] at h
        rw [e', if_pos (by decide)]
        injection h with h5 h; injection h with h6 _
        simp only at h5 h6 ⊢
        rw [h5, show q + 1 = q + (nx - p) by omega]
      · have e : oE 34 (T.drop p) = ([], 0) := by unfold oE; rw [if_neg h2]
        have e' : oE 34 (N.drop q) = ([], 0) := by unfold oE; rw [eb, if_neg h2]
        rw [e, if_neg (by decide)] at h
        rw [e', if_neg (by decide)]
        by_cases h3 : (jsP (T.drop p)).2 = 0
        · rw [if_pos h3] at h; injection h with _ h; injection h with _ h; omega
        · rw [if_neg h3] at h
          obtain ⟨ha2, -⟩ := rd_ahead _ _ _ _ _ h
          have hj : jsP (N.drop q) = jsP (T.drop p) := js_local (by omega) (fits_js _).1 (get_take_eq (fun k hk => by
            rw [List.getElem?_drop, List.getElem?_drop]; exact hs k (by omega)))
          rw [hj, if_neg h3]
          rw [rd_local f _ _ _ _ h (q + (jsP (T.drop p)).2) g (fun k hk => by
            have := hs ((jsP (T.drop p)).2 + k) (by omega)
            rw [← Nat.add_assoc, ← Nat.add_assoc] at this; exact this) (by omega)]
          congr 2; omega
theorem run_local {p : UInt8 → Bool} {l m : List UInt8} {c : UInt8} (h : l.take (run p l) = m.take (run p l)) (hc : m[run p l]? = some c) (hp : p c = false) : run p m = run p l := by
  obtain ⟨hlt, hcc⟩ := List.getElem?_eq_some_iff.1 hc
  refine run_is _ (by omega) (fun k hk hkn => ?_) (fun hh => by rw [hcc]; exact hp)
  have e := take_eq_get h hkn
  rw [List.getElem?_eq_getElem hk] at e
  have hkl : k < l.length := (List.getElem?_eq_some_iff.1 e).1
  rw [List.getElem?_eq_getElem hkl] at e
  injection e with e
  have := jrun_all p l l[k] (by
    have h5 : k < (l.take (run p l)).length := by rw [List.length_take]; have := run_le p l; omega
    have : (l.take (run p l))[k] = l[k] := List.getElem_take
    rw [← this]; exact List.getElem_mem _)
  rw [← e]; exact this
theorem bl_numC {c : UInt8} (h : blB c = true) : numC c = false ∧ lowC c = false := by
  unfold blB at h; have := of_decide_eq_true h
  unfold numC numS lowC
  constructor
  · rw [Bool.or_eq_false_iff]; exact ⟨decide_eq_false (by omega), decide_eq_false (by omega)⟩
  · exact decide_eq_false (by omega)
/-- a word hangs on its own bytes alone, if a blank follows -/
theorem lw_local {T N : List UInt8} {j q : Nat} {c : UInt8} (hj : j < T.length) (hbl : blB T[j] = false) (he : (lw T j).er = 0) (hs : ∀ k, k < (lw T j).nx - j → T[j + k]? = N[q + k]?) (hc : N[q + ((lw T j).nx - j)]? = some c) (hcb : blB c = true) :
    lw N q = ⟨(lw T j).kd, (lw T j).tx, q + ((lw T j).nx - j), 0, 0⟩ := by
  obtain ⟨g1, g2, g3⟩ := lw_good (at_q hj) hbl he
  have e0 := hs 0 (by omega)
  rw [Nat.add_zero, Nat.add_zero, at_q hj] at e0
  have hN := e0.symm
  have hq : q < N.length := (List.getElem?_eq_some_iff.1 hN).1
  obtain ⟨n1, n2⟩ := bl_numC hcb
  cases hsg : sgnB T[j] with
  | true =>
    have e := lw_sg (at_q hj) hbl hsg
    rw [e] at hs hc ⊢
    rw [lw_sg hN hbl hsg]
    simp only; congr 1; omega
  | false =>
    by_cases hqt : T[j].toNat = 34
    · have e := lw_qt (at_q hj) hbl hsg hqt
      rw [lw_qt hN hbl hsg hqt]
      rw [e] at he hs hc g2 ⊢
      unfold lwS at he hs hc g2 ⊢
      have hu : unqJ T j = rdA (oE 34) jsP T (j + 1) := by
        unfold unqJ; rw [if_pos ⟨by omega, by rw [Int.toNat_natCast, bt_some (at_q hj), hqt]⟩, Int.toNat_natCast]
      have hu2 : unqJ N q = rdA (oE 34) jsP N (q + 1) := by
        unfold unqJ; rw [if_pos ⟨by omega, by rw [Int.toNat_natCast, bt_some hN, hqt]⟩, Int.toNat_natCast]
      rw [hu] at he hs hc g2 ⊢
      rw [hu2]
      unfold rdA at he hs hc g2 ⊢
      obtain ⟨⟨o, nx, x⟩, hR⟩ : ∃ R, rd (oE 34) jsP T (T.length + 1) (j + 1) [] = R := ⟨_, rfl⟩
      have h3 := rd_third (E := oE 34) (P := jsP) (T := T) (T.length + 1) (j + 1) []
      rw [hR] at he hs hc g2 h3 ⊢
      simp only at he hs hc g2 h3 ⊢
      by_cases h0 : 0 ≤ x
      · rw [if_pos h0] at he; simp at he
      · obtain rfl : x = -1 := by omega
        rw [if_neg h0] at he hs hc g2 ⊢
        by_cases h4 : 4096 < o.length
        · rw [if_pos h4] at he; simp at he
        · rw [if_neg h4] at hs hc g2 ⊢
          simp only at hs hc g2 ⊢
          have hr := rd_local _ _ _ _ _ hR (q + 1) (N.length + 1) (fun k hk => by
            have := hs (k + 1) (by omega)
            rw [show j + (k + 1) = j + 1 + k by omega, show q + (k + 1) = q + 1 + k by omega] at this; exact this) (by omega)
          rw [hr]
          simp only
          rw [if_neg (by decide), if_neg h4]
          congr 1; have := (rd_ahead _ _ _ _ _ hR).1; omega
    · cases hn : numS T[j] with
      | true =>
        have e := lw_nm (at_q hj) hbl hsg hqt hn
        rw [lw_nm hN hbl hsg hqt hn]
        rw [e] at he hs hc ⊢
        rcases lwN_ne T j _ rfl with ⟨k0, h1⟩ | ⟨h0, h1, h2⟩
        · rw [h1] at hs hc ⊢
          simp only [Nat.add_sub_cancel_left] at hs hc ⊢
          have hrun : run numC (N.drop q) = run numC (T.drop j) := run_local (c := c) (get_take_eq (fun k hk => by
            rw [List.getElem?_drop, List.getElem?_drop]; exact hs k hk)) (by rw [List.getElem?_drop]; exact hc) n1
          have hP : (N.drop q).take (run numC (N.drop q)) = (T.drop j).take (run numC (T.drop j)) := by
            rw [hrun]; exact get_take_eq (fun k hk => by rw [List.getElem?_drop, List.getElem?_drop]; exact (hs k hk).symm)
          rcases lwN_ne N q _ hP with ⟨-, h3⟩ | ⟨h3, -, -⟩
          · rw [h3, hrun]
          · exact absurd k0 h3
        · rw [h2] at he; simp only at he; omega
      | false =>
        have e := lw_lt (at_q hj) hbl hsg hqt hn
        rw [lw_lt hN hbl hsg hqt hn]
        rw [e] at he hs hc ⊢
        unfold lwL at he hs hc ⊢
        cases hl : litB ((T.drop j).take (run lowC (T.drop j))) with
        | false => rw [hl] at he; simp at he
        | true =>
          rw [hl] at hs hc
          simp only [if_true, Nat.add_sub_cancel_left] at hs hc ⊢
          have hrun : run lowC (N.drop q) = run lowC (T.drop j) := run_local (c := c) (get_take_eq (fun k hk => by
            rw [List.getElem?_drop, List.getElem?_drop]; exact hs k hk)) (by rw [List.getElem?_drop]; exact hc) n2
          have hP : (N.drop q).take (run lowC (N.drop q)) = (T.drop j).take (run lowC (T.drop j)) := by
            rw [hrun]; exact get_take_eq (fun k hk => by rw [List.getElem?_drop, List.getElem?_drop]; exact (hs k hk).symm)
          rw [hP, hl, if_pos rfl, hrun]
end Go.Proofs.YtoamndiblckdlaaGreatDoor
