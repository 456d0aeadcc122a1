import Derived.Test.YtapclgjaalammaaMathCq
/- Rows ended by 10, by 13 10, the last one by neither. -/
namespace Go.Proofs.Ytapclgjaalammaa
open Go.RowKit

/-- a line's fields -/
def spl : List UInt8 → List (List UInt8)
  | [] => [[]]
  | c :: l => if c = 44 then [] :: spl l else match spl l with
    | [] => [[c]]
    | f :: fs => (c :: f) :: fs
theorem spl_no : ∀ p : List UInt8, (∀ x ∈ p, x ≠ 44) → spl p = [p]
  | [], _ => rfl
  | c :: p, h => by
    rw [spl, if_neg (h c (by simp)), spl_no p (fun x hx => h x (List.mem_cons_of_mem _ hx))]
theorem spl_at : ∀ (p r : List UInt8), (∀ x ∈ p, x ≠ 44) → spl (p ++ 44 :: r) = p :: spl r
  | [], r, _ => by
    show spl (44 :: r) = _
    rw [spl, if_pos rfl]
  | c :: p, r, h => by
    show spl (c :: (p ++ 44 :: r)) = _
    rw [spl, if_neg (h c (by simp)), spl_at p r (fun x hx => h x (List.mem_cons_of_mem _ hx))]
theorem spl_len : ∀ p : List UInt8, 1 ≤ (spl p).length ∧ (spl p).length ≤ p.length + 1
  | [] => by simp [spl]
  | c :: p => by
    have ih := spl_len p
    rw [spl]
    split
    · simp; omega
    · cases hs : spl p with
      | nil => rw [hs] at ih; simp at ih
      | cons f fs => rw [hs] at ih; simp at ih ⊢; omega
/-- a line: no end, no quote -/
def lineB (x : List UInt8) : Prop := x.length ≤ 50 ∧ ∀ c ∈ x, c ≠ 10 ∧ c ≠ 13 ∧ c ≠ 34
/-- what may stand behind a line -/
def tailB (R : List UInt8) : Prop := R = [] ∨ (∃ X, R = 10 :: X) ∨ ∃ X, R = 13 :: 10 :: X
theorem tail_facts {R : List UInt8} (h : tailB R) : R.head? ≠ some 44 ∧ endB R = true ∧ (R = [] ∨ ∃ c q, R = c :: q ∧ stopB c = true ∧ c ≠ 34) := by
  rcases h with rfl | ⟨X, rfl⟩ | ⟨X, rfl⟩
  · exact ⟨by simp, by simp [endB], Or.inl rfl⟩
  · exact ⟨by simp, by simp [endB, endN], Or.inr ⟨10, X, rfl, rfl, by decide⟩⟩
  · exact ⟨by simp, by simp [endB, endN], Or.inr ⟨13, 10 :: X, rfl, rfl, by decide⟩⟩
theorem split44 (l : List UInt8) (c : UInt8) : (∀ x ∈ l, x ≠ c) ∨ ∃ p r, l = p ++ c :: r ∧ ∀ x ∈ p, x ≠ c := by
  induction l with
  | nil => left; simp
  | cons a l ih =>
    by_cases h : a = c
    · right; exact ⟨[], l, by rw [h]; rfl, by simp⟩
    · rcases ih with h1 | ⟨p, r, rfl, h1⟩
      · left; intro x hx; rcases List.mem_cons.1 hx with rfl | hx; exact h; exact h1 x hx
      · right; exact ⟨a :: p, r, rfl, fun x hx => by rcases List.mem_cons.1 hx with rfl | hx; exact h; exact h1 x hx⟩
theorem stop_no {c : UInt8} (h : c ≠ 10 ∧ c ≠ 13 ∧ c ≠ 34) (h4 : c ≠ 44) : stopB c = false := by
  unfold stopB
  refine decide_eq_false ?_
  rintro (e | e | e | e)
  · exact h4 e
  · exact h.1 e
  · exact h.2.1 e
  · exact h.2.2 e
theorem crwS_line : ∀ (n : Nat) (x : List UInt8) (g : Nat) (fs : List (List UInt8)) (R : List UInt8), x.length ≤ n → lineB x → tailB R → fs.length + (spl x).length ≤ 64 → x.length < g → crwS fldP g fs (x ++ R) = .ok (fs ++ spl x) (R.drop (endN R))
  | n, x, 0, fs, R, _, _, _, _, h => absurd h (Nat.not_lt_zero _)
  | n, x, g + 1, fs, R, hn, hx, hR, hl, hg => by
    obtain ⟨t1, t2, t3⟩ := tail_facts hR
    have hs1 := (spl_len x).1
    rcases split44 x 44 with hno | ⟨p, r, rfl, hno⟩
    · have hf : fldP (x ++ R) = .ok x R := fldP_plain x R (fun c hc => stop_no (hx.2 c hc) (hno c hc)) t3 (by have := hx.1; omega)
      unfold crwS
      rw [if_neg (by omega), hf]
      simp only
      rw [crwL_s, if_neg t1, if_pos t2, spl_no x hno]
    · have hp : ∀ c ∈ p, stopB c = false := fun c hc => stop_no (hx.2 c (by simp [hc])) (hno c hc)
      have hll : p.length + 1 + r.length ≤ 50 := by have := hx.1; simp at this; omega
      have hf : fldP (p ++ 44 :: r ++ R) = .ok p (44 :: (r ++ R)) := by
        have := fldP_plain p (44 :: (r ++ R)) hp (Or.inr ⟨44, _, rfl, rfl, by decide⟩) (by omega)
        rw [← this]; simp
      rw [spl_at p r hno] at hl ⊢
      simp only [List.length_cons] at hl
      unfold crwS
      rw [if_neg (by omega), hf]
      simp only
      rw [crwL_s, if_pos (by simp)]
      simp only [List.tail_cons]
      simp only [List.length_append, List.length_cons] at hn hg
      cases n with
      | zero => omega
      | succ n =>
        rw [crwS_line n r g (fs ++ [p]) R (by omega) ⟨by omega, fun c hc => hx.2 c (by simp [hc])⟩ hR (by rw [List.length_append]; simp; omega) (by omega)]
        simp
theorem crwF_line (x R : List UInt8) (hx : lineB x) (hR : tailB R) : crwF fldP (x ++ R) = .ok (spl x) (R.drop (endN R)) := by
  have h1 := (spl_len x).2
  have h2 := hx.1
  rw [crwF_s fldP fldP_suf ((x ++ R).length + 1) _ (by omega), crwS_line x.length x _ [] R (Nat.le_refl _) hx hR (by simp; omega) (by rw [List.length_append]; omega)]
  simp
/-- lines, each with an end behind it -/
def ceT (e : List UInt8) : List (List UInt8) → List UInt8
  | [] => []
  | x :: r => x ++ (e ++ ceT e r)
/-- .. but for the last one -/
def ceZ : List (List UInt8) → List UInt8
  | [] => []
  | [x] => x
  | x :: y :: r => x ++ (10 :: ceZ (y :: r))
theorem ceZ_cut : ∀ ls : List (List UInt8), ls ≠ [] → ceT [10] ls = ceZ ls ++ [10]
  | [], h => absurd rfl h
  | [x], _ => by simp [ceT, ceZ]
  | x :: y :: r, _ => by
    have ih := ceZ_cut (y :: r) (by simp)
    rw [ceT, ih, ceZ]; simp
/-- what reading them ends in: the error's number, the rows -/
def ceE : List (List (List UInt8)) → List (List UInt8) → Nat × List (List (List UInt8))
  | rs, [] => (0, rs)
  | rs, x :: r => if rs.length = 513 then (2, []) else if 0 < rs.length ∧ (spl x).length ≠ (rs.headD []).length then (7, []) else ceE (rs ++ [spl x]) r
def ctrRows : CTR → List (List (List UInt8))
  | .ok rs => rs
  | .bad _ _ => []
def ctrE : CTR → Nat
  | .ok _ => 0
  | .bad er _ => er
theorem crdL_ce (e : List UInt8) (he : e = [10] ∨ e = [13, 10]) : ∀ (ls : List (List UInt8)) (g : Nat) (rs : List (List (List UInt8))), (∀ x ∈ ls, lineB x) → (ceT e ls).length < g → (ctrE (crdL fldP g rs (ceT e ls)), ctrRows (crdL fldP g rs (ceT e ls))) = ceE rs ls
  | ls, 0, rs, _, h => absurd h (Nat.not_lt_zero _)
  | [], g + 1, rs, _, _ => by
    rw [ceT, crdL_step, if_pos rfl]; rfl
  | x :: r, g + 1, rs, hx, hg => by
    have hel : 1 ≤ e.length := by rcases he with rfl | rfl <;> simp
    have hne : ceT e (x :: r) ≠ [] := by
      intro h
      have := congrArg List.length h
      rw [ceT, List.length_append, List.length_append, List.length_nil] at this
      omega
    have hlen : (ceT e (x :: r)).length = x.length + (e.length + (ceT e r).length) := by rw [ceT, List.length_append, List.length_append]
    have hR : tailB (e ++ ceT e r) := by rcases he with rfl | rfl; right; left; exact ⟨_, rfl⟩; right; right; exact ⟨_, rfl⟩
    have hdr : (e ++ ceT e r).drop (endN (e ++ ceT e r)) = ceT e r := by rcases he with rfl | rfl <;> simp [endN]
    rw [crdL_step, if_neg hne, ceE]
    by_cases h5 : rs.length = 513
    · rw [if_pos h5, if_pos h5]; rfl
    · rw [if_neg h5, if_neg h5]
      have hrow := crwF_line x (e ++ ceT e r) (hx x (by simp)) hR
      have e1 : ceT e (x :: r) = x ++ (e ++ ceT e r) := rfl
      rw [e1, hrow, hdr]
      simp only
      by_cases h7 : 0 < rs.length ∧ (spl x).length ≠ (rs.headD []).length
      · rw [if_pos h7, if_pos h7]; rfl
      · rw [if_neg h7, if_neg h7]
        exact crdL_ce e he r g _ (fun y hy => hx y (List.mem_cons_of_mem _ hy)) (by omega)
theorem crdL_cz : ∀ (ls : List (List UInt8)) (g : Nat) (rs : List (List (List UInt8))), ls ≠ [] → (∀ x ∈ ls, lineB x) → ls.getLast? ≠ some [] → (ceZ ls).length < g → (ctrE (crdL fldP g rs (ceZ ls)), ctrRows (crdL fldP g rs (ceZ ls))) = ceE rs ls
  | ls, 0, rs, _, _, _, h => absurd h (Nat.not_lt_zero _)
  | [], g + 1, rs, h, _, _, _ => absurd rfl h
  | [x], g + 1, rs, _, hx, hlast, hg => by
    have hxne : x ≠ [] := by intro h; exact hlast (by simp [h])
    have h0 : 0 < x.length := List.length_pos_iff.2 hxne
    rw [ceZ] at hg ⊢
    rw [crdL_step, if_neg hxne, ceE]
    by_cases h5 : rs.length = 513
    · rw [if_pos h5, if_pos h5]; rfl
    · rw [if_neg h5, if_neg h5]
      have hrow := crwF_line x [] (hx x (by simp)) (Or.inl rfl)
      rw [List.append_nil] at hrow
      rw [hrow]
      simp only
      by_cases h7 : 0 < rs.length ∧ (spl x).length ≠ (rs.headD []).length
      · rw [if_pos h7, if_pos h7]; rfl
      · rw [if_neg h7, if_neg h7]
        obtain ⟨g1, rfl⟩ : ∃ g1, g = g1 + 1 := ⟨g - 1, by omega⟩
        rw [show ([] : List UInt8).drop (endN []) = [] by simp, crdL_step, if_pos rfl]; rfl
  | x :: y :: r, g + 1, rs, _, hx, hlast, hg => by
    have hne : ceZ (x :: y :: r) ≠ [] := by
      intro h
      have := congrArg List.length h
      rw [ceZ, List.length_append] at this
      simp at this
    have hlen : (ceZ (x :: y :: r)).length = x.length + (1 + (ceZ (y :: r)).length) := by rw [ceZ, List.length_append]; simp; omega
    rw [crdL_step, if_neg hne, ceE]
    by_cases h5 : rs.length = 513
    · rw [if_pos h5, if_pos h5]; rfl
    · rw [if_neg h5, if_neg h5]
      have hrow := crwF_line x (10 :: ceZ (y :: r)) (hx x (by simp)) (Or.inr (Or.inl ⟨_, rfl⟩))
      have e1 : ceZ (x :: y :: r) = x ++ (10 :: ceZ (y :: r)) := rfl
      rw [e1, hrow, show (10 :: ceZ (y :: r)).drop (endN (10 :: ceZ (y :: r))) = ceZ (y :: r) by simp [endN]]
      simp only
      by_cases h7 : 0 < rs.length ∧ (spl x).length ≠ (rs.headD []).length
      · rw [if_pos h7, if_pos h7]; rfl
      · rw [if_neg h7, if_neg h7]
        exact crdL_cz (y :: r) g _ (by simp) (fun z hz => hx z (List.mem_cons_of_mem _ hz)) (by simpa using hlast) (by omega)
theorem vl_ceT (e : List UInt8) (he : e = [10] ∨ e = [13, 10]) : ∀ ls : List (List UInt8), VL (ceT e ls) ↔ ∀ x ∈ ls, VL x
  | [] => by simp [ceT, vl_nil]
  | x :: r => by
    have ih := vl_ceT e he r
    rw [ceT, vl_join (by rcases he with rfl | rfl <;> simp)]
    have h2 : VL (e ++ ceT e r) ↔ VL (ceT e r) := by
      rcases he with rfl | rfl
      · exact vl_ascii (by decide)
      · exact (vl_ascii (by decide)).trans (vl_ascii (by decide))
    rw [h2, ih]
    simp
theorem vl_ceZ (ls : List (List UInt8)) (h : ls ≠ []) : VL (ceZ ls) ↔ ∀ x ∈ ls, VL x := by
  rw [← vl_ceT [10] (Or.inl rfl), ceZ_cut ls h, vl_join (by simp)]
  have : VL [10] := (vl_ascii (by decide)).2 vl_nil
  simp [this]
theorem ce_len (e : List UInt8) (he : e.length ≤ 2) : ∀ ls : List (List UInt8), (∀ x ∈ ls, lineB x) → (ceT e ls).length ≤ 52 * ls.length
  | [], _ => by simp [ceT]
  | x :: r, h => by
    have ih := ce_len e he r (fun y hy => h y (List.mem_cons_of_mem _ hy))
    have h1 := (h x (by simp)).1
    rw [ceT, List.length_append, List.length_append]
    simp only [List.length_cons]; omega
/-- what each of the three texts is read as -/
def ceA (ls : List (List UInt8)) : Nat × List (List (List UInt8)) := if (∀ x ∈ ls, VL x) then ceE [] ls else (3, [])
theorem csv_ce (e : List UInt8) (he : e = [10] ∨ e = [13, 10]) (ls : List (List UInt8)) (hx : ∀ x ∈ ls, lineB x) (hl : ls.length ≤ 20) : (ctrE (csvR fldP (ceT e ls)), ctrRows (csvR fldP (ceT e ls))) = ceA ls := by
  have hlen := ce_len e (by rcases he with rfl | rfl <;> simp) ls hx
  unfold csvR ceA
  rw [if_neg (by omega)]
  have hv := vl_ceT e he ls
  by_cases h : ∀ x ∈ ls, VL x
  · have hv' : pos (ceT e ls) (vlk (ceT e ls)) = (ceT e ls).length := hv.2 h
    rw [if_pos hv', if_pos h]
    exact crdL_ce e he ls _ [] hx (by omega)
  · have hv' : ¬ pos (ceT e ls) (vlk (ceT e ls)) = (ceT e ls).length := fun k => h (hv.1 k)
    rw [if_neg hv', if_neg h]; rfl
theorem csv_cz (ls : List (List UInt8)) (hne : ls ≠ []) (hx : ∀ x ∈ ls, lineB x) (hl : ls.length ≤ 20) (hlast : ls.getLast? ≠ some []) : (ctrE (csvR fldP (ceZ ls)), ctrRows (csvR fldP (ceZ ls))) = ceA ls := by
  have hlen := ce_len [10] (by simp) ls hx
  rw [ceZ_cut ls hne, List.length_append] at hlen
  simp only [List.length_cons, List.length_nil] at hlen
  unfold csvR ceA
  rw [if_neg (by omega)]
  have hv := vl_ceZ ls hne
  by_cases h : ∀ x ∈ ls, VL x
  · have hv' : pos (ceZ ls) (vlk (ceZ ls)) = (ceZ ls).length := hv.2 h
    rw [if_pos hv', if_pos h]
    exact crdL_cz ls _ [] hne hx hlast (by omega)
  · have hv' : ¬ pos (ceZ ls) (vlk (ceZ ls)) = (ceZ ls).length := fun k => h (hv.1 k)
    rw [if_neg hv', if_neg h]; rfl
theorem ceT_snoc (e : List UInt8) (x : List UInt8) : ∀ ls : List (List UInt8), ceT e (ls ++ [x]) = ceT e ls ++ (x ++ e)
  | [] => by simp [ceT]
  | y :: r => by rw [List.cons_append, ceT, ceT_snoc e x r, ceT]; simp
end Go.Proofs.Ytapclgjaalammaa
