/- Plain mathematics: a value out of words of JSON, or the first fault. -/
import Derived.Test.YtkhjahpkbjafaaaGreatDoorULexDoc
import Derived.Test.YtkhjahpkbjafaaaGreatDoorURefMake
namespace Go.Proofs.YtkhjahpkbjafaaaGreatDoor
open Go.RowKit

/-- a value, how many nodes have begun, the words behind it; or an error and where -/
inductive Rd where
  | ok (t : VT) (n : Nat) (ws : List Wd)
  | bad (er at_ : Nat)
/-- where the word ahead stands -/
def atW : List Wd → Nat
  | [] => 0
  | x :: _ => x.at_
/-- is the word ahead this mark? -/
def isM (c : UInt8) : List Wd → Bool
  | [] => false
  | x :: _ => decide (x.kd = 1 ∧ x.tx = [c])
def numT (s : List UInt8) : VT := if intB s = true then leafT 2 (intV s) ⟨#[]⟩ else leafT 3 0 (mkS s)
def litT (s : List UInt8) : VT := if s = [116, 114, 117, 101] then leafT 1 1 ⟨#[]⟩ else if s = [102, 97, 108, 115, 101] then leafT 1 0 ⟨#[]⟩ else leafT 0 0 ⟨#[]⟩
def listT (L : List VT) : VT := .mk 5 0 ⟨#[]⟩ L [] []
def mapT (P : List (ByteArray × VT)) : VT := .mk 6 0 ⟨#[]⟩ [] (P.map (·.1)) (P.map (·.2))
mutual
/-- one value, so deep, with so many nodes ahead of it -/
def jrV : Nat → Nat → Nat → List Wd → Rd
  | 0, _, _, _ => .bad 4 0
  | _ + 1, _, _, [] => .bad 4 0
  | f + 1, d, n, x :: r =>
    if x.kd = 0 ∨ (x.kd = 1 ∧ x.tx ≠ [123] ∧ x.tx ≠ [91]) then .bad 4 x.at_
    else if 32 < d ∨ 4096 < n + 1 then .bad 2 x.at_
    else if x.kd = 2 then .ok (leafT 4 0 (mkS x.tx)) (n + 1) r
    else if x.kd = 3 then .ok (numT x.tx) (n + 1) r
    else if x.kd = 4 then .ok (litT x.tx) (n + 1) r
    else if x.tx = [91] then (if isM 93 r = true then .ok (listT []) (n + 1) r.tail else jrL f d (n + 1) [] r)
    else (if isM 125 r = true then .ok (mapT []) (n + 1) r.tail else jrP f d (n + 1) [] r)
/-- a list's parts, those ahead of it read -/
def jrL : Nat → Nat → Nat → List VT → List Wd → Rd
  | 0, _, _, _, _ => .bad 4 0
  | f + 1, d, n, acc, ws =>
    match jrV f (d + 1) n ws with
    | .bad e a => .bad e a
    | .ok t m q =>
      if isM 44 q = true then jrL f d m (acc ++ [t]) q.tail
      else if isM 93 q = true then .ok (listT (acc ++ [t])) m q.tail
      else .bad 4 (atW q)
/-- a map's pairs, those ahead of them read, in the order of their keys -/
def jrP : Nat → Nat → Nat → List (ByteArray × VT) → List Wd → Rd
  | 0, _, _, _, _ => .bad 4 0
  | _ + 1, _, _, _, [] => .bad 4 0
  | f + 1, d, n, acc, x :: r =>
    if ¬ x.kd = 2 then .bad 4 x.at_
    else if (findK (mkS x.tx) (acc.map (·.1)) (acc.map (·.2))).isSome = true then .bad 5 x.at_
    else if ¬ isM 58 r = true then .bad 4 (atW r)
    else
      match jrV f (d + 1) n r.tail with
      | .bad e a => .bad e a
      | .ok t m q =>
        if isM 44 q = true then jrP f d m (insP (mkS x.tx) t false acc) q.tail
        else if isM 125 q = true then .ok (mapT (insP (mkS x.tx) t false acc)) m q.tail
        else .bad 4 (atW q)
end
/-- a whole text: one value, and nothing behind it -/
def jrA (T : List UInt8) : Rd :=
  if (cutA T).2.1 ≠ 0 then .bad (cutA T).2.1 (cutA T).2.2
  else match jrV (2 * (cutA T).1.length + 2) 1 0 (cutA T).1 with
    | .bad e a => .bad e a
    | .ok t m q => match q with
      | [] => .bad 4 0
      | y :: _ => if y.kd = 0 then .ok t m q else .bad 4 y.at_
/-- words that end in an end -/
def EndW (ws : List Wd) : Prop := ∃ q e, ws = q ++ [e] ∧ e.kd = 0 ∧ ∀ x ∈ q, ¬ x.kd = 0
theorem EndW.ne {ws : List Wd} (h : EndW ws) : ∃ x r, ws = x :: r := by
  obtain ⟨q, e, rfl, -, -⟩ := h
  cases q with
  | nil => exact ⟨e, [], rfl⟩
  | cons x q => exact ⟨x, q ++ [e], rfl⟩
theorem EndW.tail {x : Wd} {r : List Wd} (h : EndW (x :: r)) (hx : ¬ x.kd = 0) : EndW r := by
  obtain ⟨q, e, he, h1, h2⟩ := h
  cases q with
  | nil =>
    simp only [List.nil_append] at he
    injection he with h3 h4
    subst h3
    exact absurd h1 hx
  | cons y q =>
    simp only [List.cons_append] at he
    injection he with h3 h4
    exact ⟨q, e, h4, h1, fun z hz => h2 z (List.mem_cons_of_mem _ hz)⟩
theorem isM_tail {c : UInt8} {ws : List Wd} (h : EndW ws) (hm : isM c ws = true) : EndW ws.tail := by
  cases ws with
  | nil => exact absurd hm (by simp [isM])
  | cons x r =>
    simp only [isM, decide_eq_true_eq] at hm
    exact h.tail (by omega)
/-- what is read is a proper end of the words -/
theorem jr_ends : ∀ f : Nat, (∀ d n ws t m q, EndW ws → jrV f d n ws = .ok t m q → EndW q ∧ q.length < ws.length ∧ n < m ∧ m ≤ 4096) ∧
    (∀ d n acc ws t m q, EndW ws → jrL f d n acc ws = .ok t m q → EndW q ∧ q.length < ws.length ∧ n < m ∧ m ≤ 4096) ∧
    (∀ d n acc ws t m q, EndW ws → jrP f d n acc ws = .ok t m q → EndW q ∧ q.length < ws.length ∧ n < m ∧ m ≤ 4096)
  | 0 => ⟨fun d n ws t m q _ h => (by rw [jrV] at h; cases h), fun d n acc ws t m q _ h => (by rw [jrL] at h; cases h), fun d n acc ws t m q _ h => (by rw [jrP] at h; cases h)⟩
  | f + 1 => by
    obtain ⟨ihV, ihL, ihP⟩ := jr_ends f
    have tl : ∀ {c : UInt8} {q : List Wd}, isM c q = true → q.tail.length < q.length := by
      intro c q h
      cases q with
      | nil => simp [isM] at h
      | cons x r => simp
    refine ⟨fun d n ws t m q hw h => ?_, fun d n acc ws t m q hw h => ?_, fun d n acc ws t m q hw h => ?_⟩
    · cases ws with
      | nil => rw [jrV] at h; cases h
      | cons x r =>
        rw [jrV] at h
        split at h
        · cases h
        · rename_i h0
          have hr : EndW r := hw.tail (fun e => h0 (Or.inl e))
          split at h
          · cases h
          · rename_i h1
            have hb : n + 1 ≤ 4096 := by omega
            have hlen : (x :: r).length = r.length + 1 := rfl
            split at h
            · injection h with e1 e2 e3; subst e2 e3; exact ⟨hr, by omega, by omega, by omega⟩
            · split at h
              · injection h with e1 e2 e3; subst e2 e3; exact ⟨hr, by omega, by omega, by omega⟩
              · split at h
                · injection h with e1 e2 e3; subst e2 e3; exact ⟨hr, by omega, by omega, by omega⟩
                · split at h
                  · split at h
                    · rename_i hm
                      injection h with e1 e2 e3; subst e2 e3
                      have := tl hm
                      exact ⟨isM_tail hr hm, by omega, by omega, by omega⟩
                    · obtain ⟨h2, h3, h4, h5⟩ := ihL _ _ _ _ _ _ _ hr h
                      exact ⟨h2, by omega, by omega, h5⟩
                  · split at h
                    · rename_i hm
                      injection h with e1 e2 e3; subst e2 e3
                      have := tl hm
                      exact ⟨isM_tail hr hm, by omega, by omega, by omega⟩
                    · obtain ⟨h2, h3, h4, h5⟩ := ihP _ _ _ _ _ _ _ hr h
                      exact ⟨h2, by omega, by omega, h5⟩
    · rw [jrL] at h
      cases hv : jrV f (d + 1) n ws with
      | bad e a => rw [hv] at h; cases h
      | ok t' m' q' =>
        rw [hv] at h
        simp only at h
        obtain ⟨h2, h3, h4, h5⟩ := ihV _ _ _ _ _ _ hw hv
        split at h
        · rename_i hm
          have := tl hm
          obtain ⟨k2, k3, k4, k5⟩ := ihL _ _ _ _ _ _ _ (isM_tail h2 hm) h
          exact ⟨k2, by omega, by omega, k5⟩
        · split at h
          · rename_i hm
            have := tl hm
            injection h with e1 e2 e3; subst e2 e3
            exact ⟨isM_tail h2 hm, by omega, h4, h5⟩
          · cases h
    · cases ws with
      | nil => rw [jrP] at h; cases h
      | cons x r =>
        rw [jrP] at h
        split at h
        · cases h
        · rename_i h0
          have hr : EndW r := hw.tail (by omega)
          split at h
          · cases h
          · split at h
            · cases h
            · rename_i h58
              have h58' : isM 58 r = true := Classical.not_not.1 h58
              have t58 := tl h58'
              have hlen : (x :: r).length = r.length + 1 := rfl
              cases hv : jrV f (d + 1) n r.tail with
              | bad e a => rw [hv] at h; cases h
              | ok t' m' q' =>
                rw [hv] at h
                simp only at h
                obtain ⟨h2, h3, h4, h5⟩ := ihV _ _ _ _ _ _ (isM_tail hr h58') hv
                split at h
                · rename_i hm
                  have := tl hm
                  obtain ⟨k2, k3, k4, k5⟩ := ihP _ _ _ _ _ _ _ (isM_tail h2 hm) h
                  exact ⟨k2, by omega, by omega, k5⟩
                · split at h
                  · rename_i hm
                    have := tl hm
                    injection h with e1 e2 e3; subst e2 e3
                    exact ⟨isM_tail h2 hm, by omega, h4, h5⟩
                  · cases h
theorem tail_suf {q ws : List Wd} (h : q <:+ ws) : q.tail <:+ ws := (List.tail_suffix q).trans h
/-- what is left is an end of the words -/
theorem jr_suf : ∀ f : Nat, (∀ d n ws t m q, jrV f d n ws = .ok t m q → q <:+ ws) ∧ (∀ d n acc ws t m q, jrL f d n acc ws = .ok t m q → q <:+ ws) ∧ (∀ d n acc ws t m q, jrP f d n acc ws = .ok t m q → q <:+ ws)
  | 0 => ⟨fun d n ws t m q h => (by rw [jrV] at h; cases h), fun d n acc ws t m q h => (by rw [jrL] at h; cases h), fun d n acc ws t m q h => (by rw [jrP] at h; cases h)⟩
  | f + 1 => by
    obtain ⟨ihV, ihL, ihP⟩ := jr_suf f
    refine ⟨fun d n ws t m q h => ?_, fun d n acc ws t m q h => ?_, fun d n acc ws t m q h => ?_⟩
    · cases ws with
      | nil => rw [jrV] at h; cases h
      | cons x r =>
        have hs : r <:+ x :: r := List.suffix_cons x r
        rw [jrV] at h
        split at h
        · cases h
        · split at h
          · cases h
          · split at h
            · injection h with e1 e2 e3; subst e3; exact hs
            · split at h
              · injection h with e1 e2 e3; subst e3; exact hs
              · split at h
                · injection h with e1 e2 e3; subst e3; exact hs
                · split at h
                  · split at h
                    · injection h with e1 e2 e3; subst e3; exact tail_suf hs
                    · exact (ihL _ _ _ _ _ _ _ h).trans hs
                  · split at h
                    · injection h with e1 e2 e3; subst e3; exact tail_suf hs
                    · exact (ihP _ _ _ _ _ _ _ h).trans hs
    · rw [jrL] at h
      cases hv : jrV f (d + 1) n ws with
      | bad e a => rw [hv] at h; cases h
      | ok t' m' q' =>
        rw [hv] at h
        simp only at h
        have h2 := ihV _ _ _ _ _ _ hv
        split at h
        · exact (ihL _ _ _ _ _ _ _ h).trans (tail_suf h2)
        · split at h
          · injection h with e1 e2 e3; subst e3; exact tail_suf h2
          · cases h
    · cases ws with
      | nil => rw [jrP] at h; cases h
      | cons x r =>
        have hs : r <:+ x :: r := List.suffix_cons x r
        rw [jrP] at h
        split at h
        · cases h
        · split at h
          · cases h
          · split at h
            · cases h
            · cases hv : jrV f (d + 1) n r.tail with
              | bad e a => rw [hv] at h; cases h
              | ok t' m' q' =>
                rw [hv] at h
                simp only at h
                have h2 := (ihV _ _ _ _ _ _ hv).trans (tail_suf hs)
                split at h
                · exact (ihP _ _ _ _ _ _ _ h).trans (tail_suf h2)
                · split at h
                  · injection h with e1 e2 e3; subst e3; exact tail_suf h2
                  · cases h
end Go.Proofs.YtkhjahpkbjafaaaGreatDoor
