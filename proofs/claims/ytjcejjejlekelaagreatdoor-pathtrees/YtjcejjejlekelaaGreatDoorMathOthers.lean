/- Plain mathematics of trees and all their paths: each leads to a node; what is set at one stays out of the others' way. -/
import Derived.Test.YtjcejjejlekelaaGreatDoorMathSteps
import Derived.Test.YtjcejjejlekelaaGreatDoorPathEvery
import Derived.Test.YtjcejjejlekelaaGreatDoorPathZ8
import Derived.Test.YtjcejjejlekelaaGreatDoorPathDel
import Derived.Test.YtjcejjejlekelaaGreatDoorVPlain
import Derived.Test.YtjcejjejlekelaaGreatDoorVSameT
namespace Go.Proofs.YtjcejjejlekelaaGreatDoor
open Go.RowKit

mutual
/-- as many keys as values, all the way down -/
def wfT : VT → Prop
  | .mk _ _ _ L K V => K.length = V.length ∧ wfL L ∧ wfL V
def wfL : List VT → Prop
  | [] => True
  | t :: r => wfT t ∧ wfL r
end
theorem wfT_eq (T : VT) : wfT T ↔ (T.ks.length = T.vs.length ∧ wfL T.ls ∧ wfL T.vs) := by cases T; rw [wfT]; rfl
theorem wfL_get : ∀ (L : List VT), wfL L ↔ ∀ (i : Nat) (t : VT), L[i]? = some t → wfT t
  | [] => by simp [wfL]
  | a :: r => by
    simp only [wfL]
    rw [wfL_get r]
    constructor
    · rintro ⟨h1, h2⟩ i t hi
      cases i with
      | zero => simp at hi; subst hi; exact h1
      | succ i => simp at hi; exact h2 i t hi
    · intro g
      exact ⟨g 0 a rfl, fun i t hi => g (i + 1) t (by simpa using hi)⟩
theorem hv_wfT {w : World} : ∀ (N : Nat) {T : VT} {x y : Value}, szT T ≤ N → HV w T x y → wfT T
  | 0, T, x, y, hN, h => by have := szT_pos T; omega
  | N + 1, T, x, y, hN, h => by
    obtain ⟨a, b, f, g, p, q, oL, oM, cL, cM, -, -, -, -, -, -, hK, -, -, -, -, -, -, rL, rM, -⟩ := h.parts
    rw [wfT_eq]
    refine ⟨hK, (wfL_get _).2 fun i t ht => ?_, (wfL_get _).2 fun i t ht => ?_⟩
    · have := szT_ls T i t ht
      exact hv_wfT N (by omega) (rL i t ht)
    · have := szT_vs T i t ht
      exact hv_wfT N (by omega) (rM i t ht)
/-- keys all different -/
def Apart (K : List ByteArray) : Prop := ∀ (i j : Nat) (c : ByteArray), K[i]? = some c → K[j]? = some c → i = j
theorem keys_lt {K : List ByteArray} (h : keysB K = true) : ∀ (d i : Nat) (a b : ByteArray), K[i]? = some a → K[i + d + 1]? = some b → ltB a.data.toList b.data.toList = true := by
  unfold keysB at h
  rw [decide_eq_true_eq] at h
  intro d
  induction d with
  | zero =>
    intro i a b ha hb
    have := (h (i + 1) (lt_of_some hb)).2 (by omega)
    rw [Nat.add_sub_cancel, getD_some ha, getD_some hb] at this
    exact this
  | succ d ih =>
    intro i a b ha hb
    have hl : i + d + 1 < K.length := by have := lt_of_some hb; omega
    have h1 := ih i a K[i + d + 1] ha (List.getElem?_eq_getElem hl)
    have h2 := (h (i + (d + 1) + 1) (lt_of_some hb)).2 (by omega)
    rw [Nat.add_sub_cancel, getD_some hb, getD_some (show K[i + (d + 1)]? = some K[i + d + 1] from List.getElem?_eq_getElem hl)] at h2
    exact ltB_trans _ _ _ h1 h2
theorem keys_apart {K : List ByteArray} (h : keysB K = true) : Apart K := by
  intro i j c hi hj
  rcases Nat.lt_trichotomy i j with hlt | rfl | hlt
  · have := keys_lt h (j - i - 1) i c c hi (by rw [show i + (j - i - 1) + 1 = j by omega]; exact hj)
    rw [ltB_irr] at this; cases this
  · rfl
  · have := keys_lt h (i - j - 1) j c c hj (by rw [show j + (i - j - 1) + 1 = i by omega]; exact hi)
    rw [ltB_irr] at this; cases this
theorem first_key {K : List ByteArray} (h : Apart K) {i : Nat} {c : ByteArray} (hc : K[i]? = some c) : firstI (keyIs c) K = some i := by
  refine firstI_at hc (by unfold keyIs; exact decide_eq_true rfl) (fun j d hj hd => ?_)
  unfold keyIs
  rw [decide_eq_false_iff_not]
  intro e
  have := ba_eq e
  subst this
  have := h j i d hd hc
  omega
/-- a tree whose maps' keys are apart -/
def Fair (T : VT) : Prop := T.kd = 6 → Apart T.ks
theorem plain_keys {T : VT} (h : plainT T = true) : Fair T := by
  intro h6
  rw [plainT_eq, Bool.and_eq_true, Bool.and_eq_true] at h
  have hn := h.1.1
  unfold nodeB nodeC at hn
  simp only [h6, show ¬ (6 : Int) = 0 by decide, show ¬ (6 : Int) = 1 by decide, show ¬ (6 : Int) = 2 by decide, show ¬ (6 : Int) = 3 by decide, show ¬ (6 : Int) = 4 by decide, show ¬ (6 : Int) = 7 by decide, show ¬ (6 : Int) = 5 by decide, if_false, if_true, Bool.and_eq_true] at hn
  exact keys_apart hn.2
theorem plain_ls {T : VT} (h : plainT T = true) {i : Nat} {t : VT} (ht : T.ls[i]? = some t) : plainT t = true := by
  rw [plainT_eq, Bool.and_eq_true, Bool.and_eq_true] at h
  exact (plainL_get _).1 h.1.2 i t ht
theorem plain_vs {T : VT} (h : plainT T = true) {i : Nat} {t : VT} (ht : T.vs[i]? = some t) : plainT t = true := by
  rw [plainT_eq, Bool.and_eq_true, Bool.and_eq_true] at h
  exact (plainL_get _).1 h.2 i t ht
theorem mem_allL : ∀ (r : List VT) (i : Nat) (p q : List PStep), q ∈ allL r i p → ∃ (j : Nat) (t : VT), r[j]? = some t ∧ q ∈ allT t (p ++ [plS (i + j)])
  | [], i, p, q, h => by simp [allL] at h
  | t :: r, i, p, q, h => by
    rw [allL, List.mem_append] at h
    rcases h with h | h
    · exact ⟨0, t, rfl, h⟩
    · obtain ⟨j, u, h1, h2⟩ := mem_allL r (i + 1) p q h
      exact ⟨j + 1, u, by simpa using h1, by rw [show i + (j + 1) = i + 1 + j by omega]; exact h2⟩
theorem mem_allM : ∀ (r : List VT) (K : List ByteArray) (p q : List PStep), K.length = r.length → q ∈ allM r K p → ∃ (j : Nat) (t : VT) (c : ByteArray), r[j]? = some t ∧ K[j]? = some c ∧ q ∈ allT t (p ++ [kyS c])
  | [], K, p, q, _, h => by simp [allM] at h
  | t :: r, [], p, q, hl, h => by simp at hl
  | t :: r, c :: K, p, q, hl, h => by
    rw [allM, List.mem_append] at h
    rcases h with h | h
    · exact ⟨0, t, c, rfl, rfl, h⟩
    · obtain ⟨j, u, d, h1, h2, h3⟩ := mem_allM r K p q (by simpa using hl) h
      exact ⟨j + 1, u, d, by simpa using h1, by simpa using h2, h3⟩
theorem idx_pl {T : VT} (h : T.kd = 5) {j : Nat} (hj : j < T.ls.length) : idxT T (plS j) = some j := by
  unfold idxT plS
  rw [if_pos rfl, if_pos ⟨h, by simp, by simpa using hj⟩]; simp
theorem idx_ky {T : VT} (h : T.kd = 6) (hf : Fair T) {j : Nat} {c : ByteArray} (hc : T.ks[j]? = some c) : idxT T (kyS c) = some j := by
  unfold idxT
  rw [if_neg (show ¬ (kyS c).place = true from Bool.false_ne_true), if_pos h]
  exact first_key (hf h) hc
theorem allT_eq (T : VT) (p : List PStep) : allT T p = p :: (if T.kd = 5 then allL T.ls 0 p else if T.kd = 6 then allM T.vs T.ks p else []) := by cases T; rw [allT]; rfl
/-- each of a tree's paths leads to a node -/
theorem all_get : ∀ (N : Nat) {T : VT}, szT T ≤ N → plainT T = true → wfT T → (T.ls.length ≤ 1000000000) → szT T ≤ 1000000000 → ∀ (p q : List PStep), q ∈ allT T p → ∃ r, q = p ++ r ∧ (∃ t, getP T r = some t) ∧ ∀ s ∈ r, Frm s
  | 0, T, hN, _, _, _, _, _, _, _ => by have := szT_pos T; omega
  | N + 1, T, hN, hp, hw, hl, hz, p, q, h => by
    rw [allT_eq, List.mem_cons] at h
    rcases h with rfl | h
    · exact ⟨[], by simp, ⟨T, rfl⟩, by simp⟩
    · have hwf := (wfT_eq T).1 hw
      split at h
      · rename_i h5
        obtain ⟨j, t, h1, h2⟩ := mem_allL _ _ _ _ h
        have hs := szT_ls T j t h1
        have hj := lt_of_some h1
        have hll := (szT_len t).1
        obtain ⟨r, e, ⟨u, hu⟩, hf⟩ := all_get N (T := t) (by omega) (plain_ls hp h1) ((wfL_get _).1 hwf.2.1 j t h1) (by omega) (by omega) _ _ h2
        rw [Nat.zero_add] at e
        refine ⟨plS j :: r, by rw [e]; simp, ⟨u, ?_⟩, ?_⟩
        · simp only [getP, idx_pl h5 hj, Option.bind_some]
          rw [show kidT T (plS j) j = some t by unfold kidT plS; rw [if_pos rfl]; exact h1]
          exact hu
        · intro s hs
          rcases List.mem_cons.1 hs with rfl | hs
          · exact Or.inl ⟨rfl, rfl, by simp [plS], by simp [plS]; omega⟩
          · exact hf s hs
      · split at h
        · rename_i h6
          obtain ⟨j, t, c, h1, hc, h2⟩ := mem_allM _ _ _ _ hwf.1 h
          have hs := szT_vs T j t h1
          have hll := (szT_len t).1
          obtain ⟨r, e, ⟨u, hu⟩, hf⟩ := all_get N (T := t) (by omega) (plain_vs hp h1) ((wfL_get _).1 hwf.2.2 j t h1) (by omega) (by omega) _ _ h2
          refine ⟨kyS c :: r, by rw [e]; simp, ⟨u, ?_⟩, ?_⟩
          · simp only [getP, idx_ky h6 (plain_keys hp) hc, Option.bind_some]
            rw [show kidT T (kyS c) j = some t by unfold kidT; rw [if_neg (show ¬ (kyS c).place = true from Bool.false_ne_true)]; exact h1]
            exact hu
          · intro s hs
            rcases List.mem_cons.1 hs with rfl | hs
            · exact Or.inr ⟨rfl, rfl⟩
            · exact hf s hs
        · simp at h
/-- behind the first, the root's own, no path is empty -/
theorem all_ne {T : VT} (hw : T.ks.length = T.vs.length) {k : Nat} {q : List PStep} (hk : 1 ≤ k) (h : (allT T [])[k]? = some q) (hg : ∀ (t : VT) (p q : List PStep), q ∈ allT t p → ∃ r, q = p ++ r) : q ≠ [] := by
  rw [allT_eq] at h
  obtain ⟨m, rfl⟩ : ∃ m, k = m + 1 := ⟨k - 1, by omega⟩
  rw [List.getElem?_cons_succ] at h
  have hm := List.mem_of_getElem? h
  split at hm
  · obtain ⟨j, t, -, h2⟩ := mem_allL _ _ _ _ hm
    obtain ⟨r, e⟩ := hg _ _ _ h2
    rw [e]; simp
  · split at hm
    · obtain ⟨j, t, c, -, -, h2⟩ := mem_allM _ _ _ _ hw hm
      obtain ⟨r, e⟩ := hg _ _ _ h2
      rw [e]; simp
    · simp at hm
theorem allT_pre : ∀ (N : Nat) (T : VT), szT T ≤ N → ∀ (p q : List PStep), q ∈ allT T p → ∃ r, q = p ++ r
  | 0, T, hN, _, _, _ => by have := szT_pos T; omega
  | N + 1, T, hN, p, q, h => by
    rw [allT_eq, List.mem_cons] at h
    rcases h with rfl | h
    · exact ⟨[], by simp⟩
    · split at h
      · obtain ⟨j, t, h1, h2⟩ := mem_allL _ _ _ _ h
        have hs := szT_ls T j t h1
        obtain ⟨r, e⟩ := allT_pre N t (by omega) _ _ h2
        exact ⟨plS (0 + j) :: r, by rw [e]; simp⟩
      · split at h
        · have : ∀ (r : List VT) (K : List ByteArray), q ∈ allM r K p → ∃ (j : Nat) (t : VT) (c : ByteArray), r[j]? = some t ∧ q ∈ allT t (p ++ [kyS c]) := by
            intro r
            induction r with
            | nil => intro K h; simp [allM] at h
            | cons t r ih =>
              intro K h
              rw [allM, List.mem_append] at h
              rcases h with h | h
              · exact ⟨0, t, _, rfl, h⟩
              · obtain ⟨j, u, c, h1, h2⟩ := ih _ h
                exact ⟨j + 1, u, c, by simpa using h1, h2⟩
          obtain ⟨j, t, c, h1, h2⟩ := this _ _ h
          have hs := szT_vs T j t h1
          obtain ⟨r, e⟩ := allT_pre N t (by omega) _ _ h2
          exact ⟨kyS c :: r, by rw [e]; simp⟩
        · simp at h
/-! A part put into another's place. -/
theorem rep_len (T : VT) (s : PStep) (i : Nat) (t : VT) : (repT T s i t).ls.length = T.ls.length := by
  cases T; unfold repT; simp only; split
  · simp only [VT.ls, List.length_set]
  · rfl
theorem rep_idx (T : VT) (s : PStep) (i : Nat) (t : VT) (u : PStep) : idxT (repT T s i t) u = idxT T u := by
  obtain ⟨h1, -, -, h4⟩ := repT_kd T s i t
  unfold idxT
  simp only [h1, h4, rep_len]
theorem rep_kid_same {T t u : VT} {s : PStep} {i : Nat} (h : kidT T s i = some u) : kidT (repT T s i t) s i = some t := by
  cases T with
  | mk k n st L K V =>
    unfold kidT repT at *
    simp only [VT.ls, VT.vs] at *
    by_cases hp : s.place = true
    · rw [if_pos hp] at h ⊢; rw [if_pos hp]
      simp only
      rw [List.getElem?_set, if_pos rfl, if_pos (lt_of_some h)]
    · rw [if_neg hp] at h ⊢; rw [if_neg hp]
      simp only
      rw [List.getElem?_set, if_pos rfl, if_pos (lt_of_some h)]
theorem rep_kid_other {T t : VT} {s u : PStep} {i j : Nat} (h : s.place ≠ u.place ∨ i ≠ j) : kidT (repT T s i t) u j = kidT T u j := by
  cases T with
  | mk k n st L K V =>
    unfold kidT repT
    simp only
    by_cases hp : s.place = true <;> by_cases hq : u.place = true
    · have hij : i ≠ j := by rcases h with h | h; · exact absurd (hp.trans hq.symm) h
                             · exact h
      rw [if_pos hp, if_pos hq, if_pos hq]; simp only [VT.ls]; rw [List.getElem?_set, if_neg hij]
    · rw [if_pos hp, if_neg hq, if_neg hq]; rfl
    · rw [if_neg hp, if_pos hq, if_pos hq]; rfl
    · have hij : i ≠ j := by
        rcases h with h | h
        · simp only [Bool.not_eq_true] at hp hq; exact absurd (hp.trans hq.symm) h
        · exact h
      rw [if_neg hp, if_neg hq, if_neg hq]; simp only [VT.vs]; rw [List.getElem?_set, if_neg hij]
theorem idx_apart {T : VT} {s u : PStep} {i j : Nat} (hs : Frm s) (hu : Frm u) (hne : s ≠ u) (h1 : idxT T s = some i) (h2 : idxT T u = some j) : s.place ≠ u.place ∨ i ≠ j := by
  obtain ⟨ks, ns, ps⟩ := s
  obtain ⟨ku, nu, pu⟩ := u
  unfold idxT at h1 h2
  unfold Frm at hs hu
  cases ps <;> cases pu <;> simp only [Bool.false_eq_true, false_and, true_and, if_true, if_false, false_or, or_false, reduceCtorEq] at hs hu h1 h2 ⊢
  · subst hs hu
    split at h1
    · rename_i h6
      rw [if_pos h6] at h2
      right
      rintro rfl
      obtain ⟨-, c, hc, e1⟩ := firstI_lt h1
      obtain ⟨-, d, hd, e2⟩ := firstI_lt h2
      rw [hc] at hd; injection hd with hd; subst hd
      unfold keyIs at e1 e2
      rw [decide_eq_true_eq] at e1 e2
      exact hne (by rw [ba_eq (e1.symm.trans e2)])
    · cases h1
  · left; decide
  · left; decide
  · obtain ⟨rfl, a1, -⟩ := hs
    obtain ⟨rfl, a2, -⟩ := hu
    split at h1
    · split at h2
      · right
        rintro rfl
        injection h1 with h1
        injection h2 with h2
        exact hne (by rw [show ns = nu by omega])
      · cases h2
    · cases h1
theorem get_head {T v : VT} {s : PStep} {r : List PStep} (h : getP T (s :: r) = some v) : ∃ i t, idxT T s = some i ∧ kidT T s i = some t ∧ getP t r = some v := by
  simp only [getP] at h
  cases h1 : idxT T s with
  | none => simp [h1] at h
  | some i =>
    cases h2 : kidT T s i with
    | none => simp [h1, h2] at h
    | some t => simp [h1, h2] at h; exact ⟨i, t, rfl, h2, h⟩
theorem get_repl : ∀ (r : List PStep) (T v X : VT), getP T r = some v → getP (replP T r X) r = some X
  | [], T, v, X, _ => rfl
  | s :: r, T, v, X, h => by
    obtain ⟨i, t, h1, h2, h3⟩ := get_head h
    simp only [replP, h1, h2]
    simp only [getP, rep_idx, h1, Option.bind_some, rep_kid_same h2]
    exact get_repl r t v X h3
theorem get_apart : ∀ (r q : List PStep) (T v X : VT), (∀ s ∈ r, Frm s) → (∀ s ∈ q, Frm s) → getP T r = some v → ¬ r <+: q → ¬ q <+: r → getP (replP T r X) q = getP T q
  | [], q, T, v, X, _, _, _, h, _ => absurd (List.nil_prefix) h
  | s :: r, [], T, v, X, _, _, _, _, h => absurd (List.nil_prefix) h
  | s :: r, u :: q, T, v, X, hs, hu, hg, h1, h2 => by
    obtain ⟨i, t, g1, g2, g3⟩ := get_head hg
    simp only [replP, g1, g2]
    by_cases e : s = u
    · subst e
      simp only [getP, rep_idx, g1, Option.bind_some, rep_kid_same g2, g2]
      refine get_apart r q t v X (fun a ha => hs a (by simp [ha])) (fun a ha => hu a (by simp [ha])) g3 (fun hp => h1 ?_) (fun hp => h2 ?_)
      · obtain ⟨z, rfl⟩ := hp; exact ⟨z, rfl⟩
      · obtain ⟨z, rfl⟩ := hp; exact ⟨z, rfl⟩
    · simp only [getP, rep_idx]
      cases hj : idxT T u with
      | none => rfl
      | some j => simp only [Option.bind_some]; rw [rep_kid_other (idx_apart (hs s (by simp)) (hu u (by simp)) e g1 hj)]
theorem getP_last {T v : VT} {p : List PStep} {s : PStep} (h : getP T (p ++ [s]) = some v) : ∃ U i, getP T p = some U ∧ idxT U s = some i ∧ kidT U s i = some v := by
  rw [getP_snoc] at h
  cases h1 : getP T p with
  | none => simp [h1] at h
  | some U =>
    cases h2 : idxT U s with
    | none => simp [h1, h2] at h
    | some i => simp [h1, h2] at h; exact ⟨U, i, rfl, h2, h⟩
/-- set where something stands -/
theorem set_there {T v : VT} {p : List PStep} (x : VT) (h : getP T p = some v) : setP T p x = some (replP T p x) := by
  rcases List.eq_nil_or_concat p with rfl | ⟨r, s, rfl⟩
  · rfl
  · rw [List.concat_eq_append] at h ⊢
    obtain ⟨U, i, h1, h2, h3⟩ := getP_last h
    unfold setP putT
    simp only [List.getLast?_concat, List.dropLast_concat, h1, h2, Option.map_some]
    rw [replP_snoc r T U s i x v h1 h2 h3]
theorem set_get {T v : VT} {p : List PStep} (x : VT) (h : getP T p = some v) : getP (replP T p x) p = some x := get_repl p T v x h
theorem drop_there {T v : VT} {p : List PStep} {s : PStep} (h : getP T (p ++ [s]) = some v) : ∃ U i, getP T p = some U ∧ idxT U s = some i ∧ dropP T (p ++ [s]) = some (replP T p (delT U s i)) := by
  obtain ⟨U, i, h1, h2, h3⟩ := getP_last h
  refine ⟨U, i, h1, h2, ?_⟩
  unfold dropP
  simp only [List.getLast?_concat, List.dropLast_concat, h1, h2]
theorem get_fair : ∀ (r : List PStep) (T U : VT), plainT T = true → getP T r = some U → plainT U = true
  | [], T, U, h, hg => by simp only [getP] at hg; injection hg with hg; subst hg; exact h
  | s :: r, T, U, h, hg => by
    obtain ⟨i, t, h1, h2, h3⟩ := get_head hg
    refine get_fair r t U ?_ h3
    unfold kidT at h2
    split at h2
    · exact plain_ls h h2
    · exact plain_vs h h2
theorem erase_gone {K : List ByteArray} (h : Apart K) {i : Nat} {c : ByteArray} (hi : firstI (keyIs c) K = some i) : firstI (keyIs c) (K.eraseIdx i) = none := by
  obtain ⟨-, d, hd, e⟩ := firstI_lt hi
  unfold keyIs at e
  rw [decide_eq_true_eq] at e
  obtain rfl := ba_eq e
  refine firstI_no (fun j u hu => ?_)
  unfold keyIs
  rw [decide_eq_false_iff_not]
  intro e2
  obtain rfl := ba_eq e2
  rw [List.getElem?_eraseIdx] at hu
  split at hu
  · have := h j i u hu hd; omega
  · have := h (j + 1) i u hu hd; omega
/-- what was set, and then dropped, at a key is gone -/
theorem dropped_gone {T x v : VT} {p : List PStep} {s : PStep} (hT : plainT T = true) (h : getP T (p ++ [s]) = some v) (hs : s.place = false) :
    ∃ Y, dropP (replP T (p ++ [s]) x) (p ++ [s]) = some Y ∧ getP Y (p ++ [s]) = none := by
  obtain ⟨U, i, h1, h2, h3⟩ := getP_last h
  have hf := plain_keys (get_fair p T U hT h1)
  have hw := set_get x h
  obtain ⟨U', i', g1, g2, g3⟩ := drop_there hw
  refine ⟨_, g3, ?_⟩
  rw [getP_snoc, get_repl p _ _ _ g1, Option.bind_some]
  have e1 : getP (replP T (p ++ [s]) x) p = some (repT U s i x) := by rw [replP_snoc p T U s i x v h1 h2 h3]; exact get_repl p T U _ h1
  rw [g1] at e1
  injection e1 with e1
  subst e1
  rw [rep_idx, h2] at g2
  injection g2 with g2
  subst g2
  have : idxT (delT (repT U s i x) s i) s = none := by
    have hn : ¬ s.place = true := by rw [hs]; decide
    obtain ⟨k1, -, -, k4⟩ := repT_kd U s i x
    have d1 : ∀ R : VT, (delT R s i).kd = R.kd ∧ (delT R s i).ks = R.ks.eraseIdx i := fun R => by
      cases R; unfold delT; simp only [if_neg hn]; exact ⟨rfl, rfl⟩
    unfold idxT at h2 ⊢
    rw [if_neg hn] at h2 ⊢
    simp only [(d1 _).1, (d1 _).2, k1, k4]
    by_cases h6 : U.kd = 6
    · rw [if_pos h6] at h2 ⊢
      exact erase_gone (hf h6) h2
    · rw [if_neg h6]
  rw [this]; rfl
theorem dropped_some {T x v : VT} {p : List PStep} {s : PStep} (h : getP T (p ++ [s]) = some v) : ∃ Y, dropP (replP T (p ++ [s]) x) (p ++ [s]) = some Y := by
  obtain ⟨U', i', g1, g2, g3⟩ := drop_there (set_get x h)
  exact ⟨_, g3⟩
theorem szL_set : ∀ (L : List VT) (i : Nat) (t u : VT), L[i]? = some t → szL (L.set i u) + szT t = szL L + szT u
  | [], i, t, u, h => by simp at h
  | a :: r, 0, t, u, h => by simp at h; subst h; simp only [List.set_cons_zero, szL]; omega
  | a :: r, i + 1, t, u, h => by
    have := szL_set r i t u (by simpa using h)
    simp only [List.set_cons_succ, szL]; omega
theorem szT_rep {T t u : VT} {s : PStep} {i : Nat} (h : kidT T s i = some t) : szT (repT T s i u) + szT t = szT T + szT u := by
  cases T with
  | mk k n st L K V =>
    unfold kidT at h
    unfold repT
    simp only [VT.ls, VT.vs] at h ⊢
    by_cases hp : s.place = true
    · rw [if_pos hp] at h ⊢
      have := szL_set L i t u h
      simp only [szT]; omega
    · rw [if_neg hp] at h ⊢
      have := szL_set V i t u h
      simp only [szT]; omega
theorem sz_repl : ∀ (r : List PStep) (T v X : VT), getP T r = some v → szT (replP T r X) + szT v = szT T + szT X
  | [], T, v, X, h => by simp only [getP] at h; injection h with h; subst h; simp only [replP]; omega
  | s :: r, T, v, X, h => by
    obtain ⟨i, t, h1, h2, h3⟩ := get_head h
    simp only [replP, h1, h2]
    have := szT_rep (u := replP t r X) h2
    have := sz_repl r t v X h3
    omega
theorem szL_erase : ∀ (L : List VT) (i : Nat), szL (L.eraseIdx i) ≤ szL L
  | [], i => by simp
  | a :: r, 0 => by simp only [List.eraseIdx_cons_zero, szL]; omega
  | a :: r, i + 1 => by
    have := szL_erase r i
    simp only [List.eraseIdx_cons_succ, szL]; omega
theorem szT_del (T : VT) (s : PStep) (i : Nat) : szT (delT T s i) ≤ szT T := by
  cases T with
  | mk k n st L K V =>
    have h1 := szL_erase L i
    have h2 := szL_erase V i
    unfold delT
    simp only
    split <;> (simp only [szT]; omega)
theorem sz_drop {T Y : VT} {p : List PStep} (h : dropP T p = some Y) : szT Y ≤ szT T := by
  rcases List.eq_nil_or_concat p with rfl | ⟨r, s, rfl⟩
  · simp [dropP] at h
  · rw [List.concat_eq_append] at h
    unfold dropP at h
    simp only [List.getLast?_concat, List.dropLast_concat] at h
    cases h1 : getP T r with
    | none => simp [h1] at h
    | some U =>
      cases h2 : idxT U s with
      | none => simp [h1, h2] at h
      | some i =>
        simp only [h1, h2] at h
        injection h with h
        subst h
        have := sz_repl r T U (delT U s i) h1
        have := szT_del U s i
        omega
end Go.Proofs.YtjcejjejlekelaaGreatDoor
