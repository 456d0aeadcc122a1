
import Derived.Test.YtadbeodeiijhdaaGreatDoorKMathUe
import Derived.Test.YtadbeodeiijhdaaGreatDoorKPathEvery
import Derived.Test.YtadbeodeiijhdaaGreatDoorKShelf3
/- Plain mathematics: how many nodes a tree has that has these leaves, and how deep it is; what the laws want of Build. -/
namespace Go.Proofs.YtadbeodeiijhdaaGreatDoor
open Go.RowKit

theorem get_kid {T t : VT} {s : PStep} {r : List PStep} (h : getP T (s :: r) = some t) : ∃ u, ((∃ i : Nat, T.ls[i]? = some u) ∨ ∃ i : Nat, T.vs[i]? = some u) ∧ getP u r = some t := by
  rw [getP_cons] at h
  cases hi : idxT T s with
  | none => rw [hi] at h; cases h
  | some i =>
    rw [hi, Option.bind_some] at h
    cases hk : kidT T s i with
    | none => rw [hk] at h; cases h
    | some u =>
      rw [hk, Option.bind_some] at h
      refine ⟨u, ?_, h⟩
      unfold kidT at hk
      split at hk
      · exact .inl ⟨i, hk⟩
      · exact .inr ⟨i, hk⟩
theorem get_deep : ∀ (q : List PStep) (T t : VT), getP T q = some t → q.length + 1 ≤ hgT T
  | [], T, t, _ => hgT_pos T
  | s :: q, T, t, h => by
    obtain ⟨u, hu, hr⟩ := get_kid h
    have h1 := get_deep q u t hr
    have h2 := hg_ls T
    have h3 : hgT u + 1 ≤ hgT T := by
      rcases hu with ⟨i, hi⟩ | ⟨i, hi⟩
      · have := (hgL_get T.ls _).1 (Nat.le_refl _) i u hi; omega
      · have := (hgL_get T.vs _).1 (Nat.le_refl _) i u hi; omega
    simp only [List.length_cons]; omega
theorem firstI_some {p : ByteArray → Bool} : ∀ {K : List ByteArray} {j : Nat}, firstI p K = some j → ∃ c, K[j]? = some c ∧ p c = true
  | [], j, h => by cases h
  | a :: K, j, h => by
    unfold firstI at h
    by_cases ha : p a = true
    · rw [if_pos ha] at h; injection h with h; subst h; exact ⟨a, rfl, ha⟩
    · rw [if_neg ha] at h
      obtain ⟨i, hi, rfl⟩ := Option.map_eq_some_iff.1 h
      obtain ⟨c, h1, h2⟩ := firstI_some hi
      exact ⟨c, by simpa using h1, h2⟩
theorem in_allL (p x : List PStep) : ∀ (L : List VT) (j i : Nat) (u : VT), L[i]? = some u → x ∈ allT u (p ++ [plS (j + i)]) → x ∈ allL L j p
  | [], j, i, u, h, _ => by simp at h
  | t :: L, j, 0, u, h, hx => by
    simp at h; subst h
    unfold allL
    exact List.mem_append_left _ (by simpa using hx)
  | t :: L, j, i + 1, u, h, hx => by
    unfold allL
    exact List.mem_append_right _ (in_allL p x L (j + 1) i u (by simpa using h) (by rw [show j + 1 + i = j + (i + 1) by omega]; exact hx))
theorem in_allM (p x : List PStep) : ∀ (V : List VT) (K : List ByteArray) (i : Nat) (u : VT) (c : ByteArray), V[i]? = some u → K[i]? = some c → x ∈ allT u (p ++ [kyS c]) → x ∈ allM V K p
  | [], K, i, u, c, h, _, _ => by simp at h
  | t :: V, [], i, u, c, _, h, _ => by simp at h
  | t :: V, k :: K, 0, u, c, h, hk, hx => by
    simp at h hk; subst h hk
    unfold allM
    exact List.mem_append_left _ (by simpa using hx)
  | t :: V, k :: K, i + 1, u, c, h, hk, hx => by
    unfold allM
    exact List.mem_append_right _ (in_allM p x V K i u c (by simpa using h) (by simpa using hk) hx)
theorem get_all : ∀ (r : List PStep) (T t : VT) (p : List PStep), AllCn r → getP T r = some t → p ++ r ∈ allT T p
  | [], T, t, p, _, _ => by rw [allT_at, List.append_nil]; exact List.mem_cons_self
  | s :: r, T, t, p, hr, h => by
    rw [allT_at]
    refine List.mem_cons_of_mem _ ?_
    obtain ⟨k, n, st, L, K, V⟩ := T
    show p ++ s :: r ∈ (if k = 5 then allL L 0 p else if k = 6 then allM V K p else [])
    rcases hr.tail.1.cases with ⟨i, rfl⟩ | ⟨c, rfl⟩
    · by_cases hk : k = 5
      · subst hk
        rw [if_pos rfl]
        rw [get_lpl] at h
        cases hi : L[i]? with
        | none => rw [hi] at h; cases h
        | some u =>
          rw [hi, Option.bind_some] at h
          have := get_all r u t (p ++ [lpl i]) hr.tail.2 h
          rw [List.append_assoc] at this
          exact in_allL p _ L 0 i u hi (by rw [Nat.zero_add]; exact this)
      · rw [get_lpl_no hk] at h; cases h
    · by_cases hk : k = 6
      · subst hk
        rw [if_neg (by decide), if_pos rfl]
        rw [getP_cons, idx_lky] at h
        cases hf : firstI (keyIs c) K with
        | none => rw [hf] at h; cases h
        | some j =>
          obtain ⟨c', h1, h2⟩ := firstI_some hf
          unfold keyIs at h2
          have e2 : c' = c := ba_eq (by simpa using h2)
          subst e2
          rw [hf, Option.bind_some] at h
          have e3 : kidT (.mk 6 n st L K V) (lky c') j = V[j]? := by unfold kidT; rw [if_neg (lky_pl c')]; rfl
          rw [e3] at h
          cases hv : V[j]? with
          | none => rw [hv] at h; cases h
          | some u =>
            rw [hv, Option.bind_some] at h
            have := get_all r u t (p ++ [lky c']) hr.tail.2 h
            rw [List.append_assoc] at this
            exact in_allM p _ V K j u c' hv h1 this
      · rw [get_lky_no hk] at h; cases h
theorem AllCn.pre {q r : List PStep} (h : AllCn (q ++ r)) : AllCn q := fun s hs => h s (List.mem_append_left _ hs)
/-- a tree with these leaves has all their paths' nodes -/
theorem tree_many {l : Lvs} {T : VT} (h : TreeOf l T) (hc : ∀ e ∈ l, AllCn e.1) {X : List (List PStep)} (hn : X.Nodup) (hX : ∀ q ∈ X, ∃ e ∈ l, ∃ r, e.1 = q ++ r) : X.length ≤ szT T := by
  have hs : X ⊆ allT T [] := fun q hq => by
    obtain ⟨e, he, r, hr⟩ := hX q hq
    have hce := hc e he
    have h1 := ((h.2 e.1 e.2 hce).2 he).1
    rw [hr, getP_app] at h1
    cases hg : getP T q with
    | none => rw [hg] at h1; cases h1
    | some t =>
      have := get_all q T t [] (by rw [hr] at hce; exact hce.pre) hg
      simpa using this
  exact Nat.le_trans (List.Nodup.length_le_of_subset hn hs) (allT_len T [])
theorem tree_deep {l : Lvs} {T : VT} (h : TreeOf l T) (hc : ∀ e ∈ l, AllCn e.1) {e : List PStep × VT} (he : e ∈ l) : e.1.length + 1 ≤ hgT T := get_deep _ _ _ ((h.2 e.1 e.2 (hc e he)).2 he).1
/-- too many nodes, or too deep -/
theorem no_tree {l : Lvs} (hc : ∀ e ∈ l, AllCn e.1) {X : List (List PStep)} (hn : X.Nodup) (hX : ∀ q ∈ X, ∃ e ∈ l, ∃ r, e.1 = q ++ r) (hbad : 4096 < X.length ∨ ∃ e ∈ l, 32 < e.1.length + 1) : ¬ ∃ T, TreeOf l T ∧ mayB 0 1 T = true := by
  rintro ⟨T, h1, h2⟩
  obtain ⟨h3, h4, -⟩ := good_sz h2
  rcases hbad with h5 | ⟨e, he, h5⟩
  · have := tree_many h1 hc hn hX; omega
  · have := tree_deep h1 hc he; omega
end Go.Proofs.YtadbeodeiijhdaaGreatDoor
