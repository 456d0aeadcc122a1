/- Plain mathematics: parts with a comma between; how great what is read can be. -/
import Derived.Test.YtbeolgnognhfpaaGreatDoorMathRead
import Derived.Test.YtbeolgnognhfpaaGreatDoorVMap
namespace Go.Proofs.YtbeolgnognhfpaaGreatDoor
open Go.RowKit

/-- what reading a part, or parts, ends in -/
inductive Sd (σ : Type) where
  | ok (s : σ) (n : Nat) (ws : List Wd)
  | bad (er at_ : Nat)
section
variable {σ : Type} (c : UInt8) (S : Nat → σ → Nat → List Wd → Sd σ)
def ptM : Nat → σ → Nat → List Wd → Sd σ
  | 0, _, _, _ => .bad 4 0
  | f + 1, s, n, ws => match S f s n ws with
    | .bad e a => .bad e a
    | .ok s' m q => if isM c q = true then .ok s' m q.tail else if isM 44 q = true then ptM f s' m q.tail else .bad 4 (atW q)
/-- behind a part -/
def ptL (f : Nat) (s : σ) (m : Nat) (q : List Wd) : Sd σ := if isM c q = true then .ok s m q.tail else if isM 44 q = true then ptM c S f s m q.tail else .bad 4 (atW q)
theorem ptM_bad {f : Nat} {s : σ} {n : Nat} {ws : List Wd} {e a : Nat} (h : S f s n ws = .bad e a) : ptM c S (f + 1) s n ws = .bad e a := by rw [ptM, h]
theorem ptM_ok {f : Nat} {s s' : σ} {n m : Nat} {ws q : List Wd} (h : S f s n ws = .ok s' m q) : ptM c S (f + 1) s n ws = ptL c S f s' m q := by rw [ptM, h]; rfl
end
def Sd.rd {σ : Type} (g : σ → VT) : Sd σ → Rd
  | .ok s n ws => .ok (g s) n ws
  | .bad e a => .bad e a
/-- a part of a list -/
def stL (d f : Nat) (s : List VT) (n : Nat) (ws : List Wd) : Sd (List VT) := match jrV f (d + 1) n ws with
  | .bad e a => .bad e a
  | .ok t m q => .ok (s ++ [t]) m q
/-- a part of a map -/
def stP (d f : Nat) (s : List (ByteArray × VT)) (n : Nat) : List Wd → Sd (List (ByteArray × VT))
  | [] => .bad 4 0
  | x :: r =>
    if ¬ x.kd = 2 then .bad 4 x.at_
    else if (findK (mkS x.tx) (s.map (·.1)) (s.map (·.2))).isSome = true then .bad 5 x.at_
    else if ¬ isM 58 r = true then .bad 4 (atW r)
    else match jrV f (d + 1) n r.tail with
      | .bad e a => .bad e a
      | .ok t m q => .ok (insP (mkS x.tx) t false s) m q
theorem isM_two {a c : UInt8} {q : List Wd} (h : a ≠ c) (ha : isM a q = true) : isM c q = false := by
  cases q with
  | nil => rfl
  | cons x r =>
    simp only [isM, decide_eq_true_eq] at ha
    simp only [isM, decide_eq_false_iff_not]
    intro hc
    rw [ha.2] at hc
    simp only [List.cons.injEq, and_true] at hc
    exact h hc.2
theorem jrL_pt (d : Nat) : ∀ (f n : Nat) (acc : List VT) (ws : List Wd), jrL f d n acc ws = (ptM 93 (stL d) f acc n ws).rd listT
  | 0, n, acc, ws => by rw [jrL, ptM]; rfl
  | f + 1, n, acc, ws => by
    rw [jrL, ptM]
    unfold stL
    cases hv : jrV f (d + 1) n ws with
    | bad e a => rfl
    | ok t m q =>
      simp only
      by_cases h44 : isM 44 q = true
      · rw [if_pos h44, if_neg (by rw [isM_two (by decide) h44]; decide), if_pos h44]
        exact jrL_pt d f m (acc ++ [t]) q.tail
      · rw [if_neg h44]
        by_cases h93 : isM 93 q = true
        · rw [if_pos h93, if_pos h93]; rfl
        · rw [if_neg h93, if_neg h93, if_neg h44]; rfl
theorem jrP_pt (d : Nat) : ∀ (f n : Nat) (acc : List (ByteArray × VT)) (ws : List Wd), jrP f d n acc ws = (ptM 125 (stP d) f acc n ws).rd mapT
  | 0, n, acc, ws => by rw [jrP, ptM]; rfl
  | f + 1, n, acc, [] => by rw [jrP, ptM]; rfl
  | f + 1, n, acc, x :: r => by
    rw [jrP, ptM]
    unfold stP
    dsimp only
    by_cases h0 : ¬ x.kd = 2
    · rw [if_pos h0, if_pos h0]; rfl
    rw [if_neg h0, if_neg h0]
    by_cases h1 : (findK (mkS x.tx) (acc.map (·.1)) (acc.map (·.2))).isSome = true
    · rw [if_pos h1, if_pos h1]; rfl
    rw [if_neg h1, if_neg h1]
    by_cases h2 : ¬ isM 58 r = true
    · rw [if_pos h2, if_pos h2]; rfl
    rw [if_neg h2, if_neg h2]
    cases hv : jrV f (d + 1) n r.tail with
    | bad e a => rfl
    | ok t m q =>
      simp only
      by_cases h44 : isM 44 q = true
      · rw [if_pos h44, if_neg (by rw [isM_two (by decide) h44]; decide), if_pos h44]
        exact jrP_pt d f m _ q.tail
      · rw [if_neg h44]
        by_cases h93 : isM 125 q = true
        · rw [if_pos h93, if_pos h93]; rfl
        · rw [if_neg h93, if_neg h93, if_neg h44]; rfl
theorem szL_app : ∀ (L M : List VT), szL (L ++ M) = szL L + szL M
  | [], M => by simp [szL]
  | t :: L, M => by rw [List.cons_append, szL, szL, szL_app L M]; omega
theorem szL_map_ins (k : ByteArray) (t : VT) : ∀ (d : Bool) (P : List (ByteArray × VT)), szL ((insP k t d P).map (·.2)) ≤ szL (P.map (·.2)) + (if d then 0 else szT t)
  | d, [] => by cases d <;> simp [insP, szL]
  | d, a :: r => by
    have ih := szL_map_ins k t (d || !(ltB a.1.data.toList k.data.toList)) r
    rw [insP, List.map_append, List.map_append, szL_app, szL_app, List.map_cons, szL]
    have h1 : szL ((if a.1.data.toList = k.data.toList then [] else [a]).map (·.2)) ≤ szT a.2 := by
      split <;> simp [szL]
    cases d with
    | true =>
      simp only [Bool.true_or, if_true, Bool.not_true, Bool.false_and, Bool.false_eq_true, if_false, List.map_nil, szL] at ih ⊢
      omega
    | false =>
      cases hl : ltB a.1.data.toList k.data.toList with
      | true =>
        rw [hl] at ih
        simp only [Bool.not_true, Bool.or_false, Bool.false_eq_true, if_false, Bool.and_false, List.map_nil, szL] at ih ⊢
        omega
      | false =>
        rw [hl] at ih
        simp only [Bool.not_false, Bool.or_true, if_true, Bool.and_self, List.map_cons, List.map_nil, szL, Bool.false_eq_true, if_false] at ih ⊢
        omega
/-- a value has no more nodes than were begun for it -/
theorem jr_sz : ∀ f : Nat, (∀ d n ws t m q, jrV f d n ws = .ok t m q → szT t + n ≤ m) ∧
    (∀ d n acc ws t m q, jrL f d n acc ws = .ok t m q → szT t + n ≤ m + 1 + szL acc) ∧
    (∀ d n acc ws t m q, jrP f d n acc ws = .ok t m q → szT t + n ≤ m + 1 + szL (acc.map (·.2)))
  | 0 => ⟨fun d n ws t m q h => (by rw [jrV] at h; cases h), fun d n acc ws t m q h => (by rw [jrL] at h; cases h), fun d n acc ws t m q h => (by rw [jrP] at h; cases h)⟩
  | f + 1 => by
    obtain ⟨ihV, ihL, ihP⟩ := jr_sz f
    have lf : ∀ k n s, szT (leafT k n s) = 1 := fun k n s => by simp [leafT, szT, szL]
    refine ⟨fun d n ws t m q h => ?_, fun d n acc ws t m q h => ?_, fun d n acc ws t m q h => ?_⟩
    · cases ws with
      | nil => rw [jrV] at h; cases h
      | cons x r =>
        rw [jrV] at h
        split at h
        · cases h
        · split at h
          · cases h
          · split at h
            · injection h with e1 e2 e3; subst e1 e2; rw [lf]; omega
            · split at h
              · injection h with e1 e2 e3; subst e1 e2; unfold numT; split <;> rw [lf] <;> omega
              · split at h
                · injection h with e1 e2 e3; subst e1 e2; unfold litT; (repeat' split) <;> rw [lf] <;> omega
                · split at h
                  · split at h
                    · injection h with e1 e2 e3; subst e1 e2; simp [listT, szT, szL]; omega
                    · have := ihL _ _ _ _ _ _ _ h; simp only [szL] at this; omega
                  · split at h
                    · injection h with e1 e2 e3; subst e1 e2; simp [mapT, szT, szL]; omega
                    · have := ihP _ _ _ _ _ _ _ h; simp only [List.map_nil, szL] at this; omega
    · rw [jrL] at h
      cases hv : jrV f (d + 1) n ws with
      | bad e a => rw [hv] at h; cases h
      | ok t' m' q' =>
        rw [hv] at h
        simp only at h
        have h2 := ihV _ _ _ _ _ _ hv
        have h3 : szL (acc ++ [t']) = szL acc + szT t' := by rw [szL_app]; simp [szL]
        split at h
        · have := ihL _ _ _ _ _ _ _ h; omega
        · split at h
          · injection h with e1 e2 e3; subst e1 e2
            simp only [listT, szT, szL]
            omega
          · cases h
    · cases ws with
      | nil => rw [jrP] at h; cases h
      | cons x r =>
        rw [jrP] at h
        split at h
        · cases h
        · split at h
          · cases h
          · split at h
            · cases h
            · cases hv : jrV f (d + 1) n r.tail with
              | bad e a => rw [hv] at h; cases h
              | ok t' m' q' =>
                rw [hv] at h
                simp only at h
                have h2 := ihV _ _ _ _ _ _ hv
                have h3 := szL_map_ins (mkS x.tx) t' false acc
                simp only [Bool.false_eq_true, if_false] at h3
                split at h
                · have := ihP _ _ _ _ _ _ _ h; omega
                · split at h
                  · injection h with e1 e2 e3; subst e1 e2
                    simp only [mapT, szT, szL]
                    omega
                  · cases h
end Go.Proofs.YtbeolgnognhfpaaGreatDoor
