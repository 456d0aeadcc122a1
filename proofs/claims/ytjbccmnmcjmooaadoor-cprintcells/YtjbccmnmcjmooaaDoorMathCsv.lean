import Derived.Test.YtjbccmnmcjmooaaDoorMathUtf
/- Rows of CSV in plain mathematics. -/
namespace Go.Proofs.YtjbccmnmcjmooaaDoor

/-- how long the row's end is -/
def endN (l : List UInt8) : Nat := if l.head? = some 10 then 1 else if l.head? = some 13 ∧ l.tail.head? = some 10 then 2 else 0
/-- may a row end here? -/
def endB (l : List UInt8) : Bool := decide (l = [] ∨ 0 < endN l)
/-- a byte that ends a field without quotes, or may not be in it -/
def stopB (c : UInt8) : Bool := decide (c = 44 ∨ c = 10 ∨ c = 13 ∨ c = 34)
/-- a field's reading: what it says and what is behind it, or a fault ahead of so much -/
inductive CFR where
  | ok (s r : List UInt8)
  | bad (er : Nat) (r : List UInt8)
/-- behind a field's first quote -/
def qt : List UInt8 → List UInt8 → CFR
  | _, [] => .bad 4 []
  | acc, [c] => if c = 34 then .ok acc [] else .bad 4 []
  | acc, c :: d :: r => if c ≠ 34 then qt (acc ++ [c]) (d :: r) else if d = 34 then qt (acc ++ [34]) r else if d = 44 ∨ 0 < endN (d :: r) then .ok acc (d :: r) else .bad 4 (d :: r)
def cplS (l : List UInt8) : List UInt8 := l.takeWhile (fun c => !stopB c)
def cplR (l : List UInt8) : List UInt8 := l.dropWhile (fun c => !stopB c)
theorem pln_app (l : List UInt8) : cplS l ++ cplR l = l := List.takeWhile_append_dropWhile
/-- a field without a bound, as the program reads it -/
def fld0 (l : List UInt8) : CFR := if l.head? = some 34 then qt [] l.tail else if (cplR l).head? = some 34 then .bad 4 (cplR l) else .ok (cplS l) (cplR l)
def fldLim (l : List UInt8) : CFR → CFR
  | .ok s r => if 4096 < s.length then .bad 2 l else .ok s r
  | .bad e r => .bad e r
def fldP (l : List UInt8) : CFR := fldLim l (fld0 l)
/-- a field without a bound, as the document's reckoning reads it -/
def fld1 (l : List UInt8) : CFR := if l.head? = some 34 then qt [] l.tail else if (cplR l).head? = some 34 ∨ ((cplR l).head? = some 13 ∧ endN (cplR l) = 0) then .bad 4 (cplR l) else .ok (cplS l) (cplR l)
def fldD (l : List UInt8) : CFR := fldLim l (fld1 l)
inductive CRR where
  | ok (fs : List (List UInt8)) (r : List UInt8)
  | bad (er : Nat) (r : List UInt8)
/-- a row behind some fields -/
def crwL (F : List UInt8 → CFR) : Nat → List (List UInt8) → List UInt8 → CRR
  | 0, _, r => .bad 0 r
  | g + 1, fs, r => if r.head? = some 44 then (if fs.length = 64 then .bad 2 r.tail else match F r.tail with | .ok s q => crwL F g (fs ++ [s]) q | .bad e x => .bad e x)
    else if endB r = true then .ok fs (r.drop (endN r)) else .bad 4 r
def crwF (F : List UInt8 → CFR) (l : List UInt8) : CRR := match F l with
  | .ok s r => crwL F (r.length + 1) [s] r
  | .bad e x => .bad e x
inductive CTR where
  | ok (rs : List (List (List UInt8)))
  | bad (er : Nat) (r : List UInt8)
/-- rows behind some rows -/
def crdL (F : List UInt8 → CFR) : Nat → List (List (List UInt8)) → List UInt8 → CTR
  | 0, _, r => .bad 0 r
  | g + 1, rs, l => if l = [] then .ok rs else if rs.length = 513 then .bad 2 l else match crwF F l with
    | .bad e x => .bad e x
    | .ok fs r => if 0 < rs.length ∧ fs.length ≠ (rs.headD []).length then .bad 7 l else crdL F g (rs ++ [fs]) r

theorem endN_le (l : List UInt8) : endN l ≤ l.length := by
  unfold endN
  rcases l with _ | ⟨a, _ | ⟨b, r⟩⟩ <;> simp <;> split <;> (try split) <;> omega
theorem endN_two (l : List UInt8) : endN l ≤ 2 := by unfold endN; split; omega; split <;> omega

/-- what is behind is a tail -/
theorem qt_tail : ∀ (acc l : List UInt8), (∀ s r, qt acc l = .ok s r → ∃ p, l = p ++ r ∧ 1 ≤ p.length) ∧ (∀ e r, qt acc l = .bad e r → e = 4 ∧ ∃ p, l = p ++ r)
  | acc, [] => by simp [qt]
  | acc, [c] => by
    unfold qt
    by_cases h : c = 34
    · simp [h]
    · simp [h]
  | acc, c :: d :: r => by
    unfold qt
    by_cases h : c = 34
    · rw [if_neg (by simp [h])]
      by_cases hd : d = 34
      · rw [if_pos hd]
        obtain ⟨h1, h2⟩ := qt_tail (acc ++ [34]) r
        refine ⟨fun s q hq => ?_, fun e q hq => ?_⟩
        · obtain ⟨p, hp, _⟩ := h1 s q hq
          exact ⟨c :: d :: p, by rw [hp]; rfl, by simp⟩
        · obtain ⟨he, p, hp⟩ := h2 e q hq
          exact ⟨he, c :: d :: p, by rw [hp]; rfl⟩
      · rw [if_neg hd]
        split
        · refine ⟨fun s q hq => ?_, fun e q hq => by simp at hq⟩
          injection hq with _ hq; subst hq
          exact ⟨[c], rfl, by simp⟩
        · refine ⟨fun s q hq => by simp at hq, fun e q hq => ?_⟩
          injection hq with he hq; subst hq
          exact ⟨he.symm, [c], rfl⟩
    · rw [if_pos h]
      obtain ⟨h1, h2⟩ := qt_tail (acc ++ [c]) (d :: r)
      refine ⟨fun s q hq => ?_, fun e q hq => ?_⟩
      · obtain ⟨p, hp, _⟩ := h1 s q hq
        exact ⟨c :: p, by rw [hp]; rfl, by simp⟩
      · obtain ⟨he, p, hp⟩ := h2 e q hq
        exact ⟨he, c :: p, by rw [hp]; rfl⟩
/-- how long what is said is -/
theorem cqt_len : ∀ (acc l s r : List UInt8), qt acc l = .ok s r → s.length + r.length < acc.length + l.length
  | acc, [], s, r => by simp [qt]
  | acc, [c], s, r => by
    unfold qt
    split
    · intro h; injection h with h1 h2; subst h1 h2; simp
    · intro h; simp at h
  | acc, c :: d :: l, s, r => by
    unfold qt
    split
    · intro h
      have := cqt_len _ _ _ _ h
      simp at this ⊢; omega
    · split
      · intro h
        have := cqt_len _ _ _ _ h
        simp at this ⊢; omega
      · split
        · intro h; injection h with h1 h2; subst h1 h2; simp
        · intro h; simp at h
theorem qt_end : ∀ (acc l s r : List UInt8), qt acc l = .ok s r → r.head? = some 44 ∨ endB r = true
  | acc, [], s, r => by simp [qt]
  | acc, [c], s, r => by
    unfold qt
    split
    · intro h; injection h with h1 h2; subst h2; right; simp [endB]
    · intro h; simp at h
  | acc, c :: d :: l, s, r => by
    unfold qt
    split
    · exact qt_end _ _ _ _
    · split
      · exact qt_end _ _ _ _
      · split
        · next h => intro g; injection g with h1 h2; subst h2; rcases h with h | h; left; simp [h]; right; unfold endB; exact decide_eq_true (Or.inr h)
        · intro h; simp at h
/-- a piece without a quote -/
theorem qt_piece : ∀ (p acc r : List UInt8), (∀ c ∈ p, c ≠ 34) → qt acc (p ++ 34 :: r) = qt (acc ++ p) (34 :: r)
  | [], acc, r, _ => by simp
  | [c], acc, r, h => by
    have hc : c ≠ 34 := h c (by simp)
    show qt acc (c :: 34 :: r) = _
    rw [qt, if_pos hc]
  | c :: d :: p, acc, r, h => by
    have hc : c ≠ 34 := h c (by simp)
    show qt acc (c :: d :: (p ++ 34 :: r)) = _
    rw [qt, if_pos hc]
    have := qt_piece (d :: p) (acc ++ [c]) r (fun x hx => h x (List.mem_cons_of_mem _ hx))
    simp only [List.cons_append, List.append_assoc, List.nil_append] at this ⊢
    exact this
theorem qt_open : ∀ (p acc : List UInt8), (∀ c ∈ p, c ≠ 34) → qt acc p = .bad 4 []
  | [], acc, _ => rfl
  | [c], acc, h => by rw [qt, if_neg (h c (by simp))]
  | c :: d :: p, acc, h => by
    rw [qt, if_pos (h c (by simp))]
    exact qt_open (d :: p) _ (fun x hx => h x (List.mem_cons_of_mem _ hx))
theorem qt_two (acc r : List UInt8) : qt acc (34 :: 34 :: r) = qt (acc ++ [34]) r := by rw [qt]; simp
theorem qt_shut (acc r : List UInt8) (h : r.head? ≠ some 34) : qt acc (34 :: r) = if r.head? = some 44 ∨ endB r = true then .ok acc r else .bad 4 r := by
  rcases r with _ | ⟨d, r⟩
  · rw [qt]; simp [endB]
  · rw [qt]
    have hd : d ≠ 34 := by simpa using h
    simp only [ne_eq, not_true_eq_false, ite_false, hd, List.head?_cons, Option.some.injEq, endB, List.cons_ne_nil, false_or, decide_eq_true_eq]
theorem qt_byte (acc r : List UInt8) (c : UInt8) (h : c ≠ 34) : qt acc (c :: r) = qt (acc ++ [c]) r := by
  rcases r with _ | ⟨d, r⟩
  · simp [qt, h]
  · rw [qt, if_pos h]

theorem fld0_tail (l : List UInt8) : (∀ s r, fld0 l = .ok s r → ∃ p, l = p ++ r) ∧ (∀ e r, fld0 l = .bad e r → e = 4 ∧ ∃ p, l = p ++ r) := by
  unfold fld0
  split
  · next h =>
    obtain ⟨c, q, rfl⟩ : ∃ c q, l = c :: q := by cases l with | nil => simp at h | cons c q => exact ⟨c, q, rfl⟩
    obtain ⟨h1, h2⟩ := qt_tail [] q
    refine ⟨fun s r hr => ?_, fun e r hr => ?_⟩
    · obtain ⟨p, hp, _⟩ := h1 s r hr
      exact ⟨c :: p, by rw [hp]; rfl⟩
    · obtain ⟨he, p, hp⟩ := h2 e r hr
      exact ⟨he, c :: p, by rw [hp]; rfl⟩
  · split
    · refine ⟨fun s r hr => by simp at hr, fun e r hr => ?_⟩
      injection hr with h1 h2; subst h2
      exact ⟨h1.symm, cplS l, (pln_app l).symm⟩
    · refine ⟨fun s r hr => ?_, fun e r hr => by simp at hr⟩
      injection hr with h1 h2; subst h2
      exact ⟨cplS l, (pln_app l).symm⟩
theorem fldP_tail (l : List UInt8) : (∀ s r, fldP l = .ok s r → s.length ≤ 4096 ∧ ∃ p, l = p ++ r) ∧ (∀ e r, fldP l = .bad e r → (e = 4 ∨ e = 2) ∧ ∃ p, l = p ++ r) := by
  obtain ⟨h1, h2⟩ := fld0_tail l
  unfold fldP
  cases h : fld0 l with
  | bad e r =>
    refine ⟨fun s r hr => by simp [fldLim] at hr, fun e' r' hr => ?_⟩
    simp only [fldLim, CFR.bad.injEq] at hr
    obtain ⟨rfl, rfl⟩ := hr
    exact ⟨Or.inl (h2 _ _ h).1, (h2 _ _ h).2⟩
  | ok s r =>
    simp only [fldLim]
    split
    · refine ⟨fun s r hr => by simp at hr, fun e' r' hr => ?_⟩
      simp only [CFR.bad.injEq] at hr
      obtain ⟨rfl, rfl⟩ := hr
      exact ⟨Or.inr rfl, [], rfl⟩
    · next hl =>
      refine ⟨fun s' r' hr => ?_, fun e r hr => by simp at hr⟩
      simp only [CFR.ok.injEq] at hr
      obtain ⟨rfl, rfl⟩ := hr
      exact ⟨by omega, h1 _ _ h⟩
theorem fld1_tail (l : List UInt8) : (∀ s r, fld1 l = .ok s r → ∃ p, l = p ++ r) ∧ (∀ e r, fld1 l = .bad e r → e = 4 ∧ ∃ p, l = p ++ r) := by
  unfold fld1
  split
  · next h =>
    obtain ⟨c, q, rfl⟩ : ∃ c q, l = c :: q := by cases l with | nil => simp at h | cons c q => exact ⟨c, q, rfl⟩
    obtain ⟨h1, h2⟩ := qt_tail [] q
    refine ⟨fun s r hr => ?_, fun e r hr => ?_⟩
    · obtain ⟨p, hp, _⟩ := h1 s r hr
      exact ⟨c :: p, by rw [hp]; rfl⟩
    · obtain ⟨he, p, hp⟩ := h2 e r hr
      exact ⟨he, c :: p, by rw [hp]; rfl⟩
  · split
    · refine ⟨fun s r hr => by simp at hr, fun e r hr => ?_⟩
      injection hr with h1 h2; subst h2
      exact ⟨h1.symm, cplS l, (pln_app l).symm⟩
    · refine ⟨fun s r hr => ?_, fun e r hr => by simp at hr⟩
      injection hr with h1 h2; subst h2
      exact ⟨cplS l, (pln_app l).symm⟩
theorem cplR_head (l : List UInt8) : cplR l = [] ∨ ∃ c r, cplR l = c :: r ∧ stopB c = true := by
  unfold cplR
  induction l with
  | nil => left; rfl
  | cons a l ih =>
    rw [List.dropWhile_cons]
    split
    · exact ih
    · next h => right; exact ⟨a, l, rfl, by simpa using h⟩
theorem cplS_len (l : List UInt8) : (cplS l).length ≤ l.length := by
  have := congrArg List.length (pln_app l)
  simp only [List.length_append] at this
  omega
theorem fld0_len (l s r : List UInt8) (h : fld0 l = .ok s r) : s.length ≤ l.length := by
  unfold fld0 at h
  split at h
  · have := cqt_len _ _ _ _ h
    have : l.tail.length ≤ l.length := by simp
    simp at *; omega
  · split at h
    · simp at h
    · injection h with h1 h2; subst h1; exact cplS_len l
theorem fld1_len (l s r : List UInt8) (h : fld1 l = .ok s r) : s.length ≤ l.length := by
  unfold fld1 at h
  split at h
  · have := cqt_len _ _ _ _ h
    have : l.tail.length ≤ l.length := by simp
    simp at *; omega
  · split at h
    · simp at h
    · injection h with h1 h2; subst h1; exact cplS_len l
theorem fld1_end (l s r : List UInt8) (h : fld1 l = .ok s r) : r.head? = some 44 ∨ endB r = true := by
  unfold fld1 at h
  split at h
  · exact qt_end _ _ _ _ h
  · split at h
    · simp at h
    · next hn =>
      injection h with h1 h2; subst h2
      rcases cplR_head l with h0 | ⟨c, q, h0, hc⟩
      · rw [h0]; right; simp [endB]
      · rw [h0] at hn ⊢
        unfold stopB at hc
        have hc := of_decide_eq_true hc
        rcases hc with rfl | rfl | rfl | rfl
        · left; rfl
        · right; simp [endB, endN]
        · right
          have : ¬ endN (13 :: q) = 0 := fun h => hn (Or.inr ⟨rfl, h⟩)
          unfold endB; exact decide_eq_true (Or.inr (by omega))
        · exact absurd (Or.inl rfl) hn
/-- the document's reckoning and the program's: the same row -/
theorem fld_same (l : List UInt8) (hl : l.length ≤ 4096) : (∃ s r, fldD l = .ok s r ∧ fldP l = .ok s r ∧ (r.head? = some 44 ∨ endB r = true)) ∨ (∃ e r, fldD l = .bad e r ∧ fldP l = .bad e r) ∨ (∃ s r, fldD l = .bad 4 r ∧ fldP l = .ok s r ∧ r.head? ≠ some 44 ∧ endB r = false) := by
  have e1 : fldP l = fld0 l := by
    unfold fldP
    cases h : fld0 l with
    | bad e r => rfl
    | ok s r => have := fld0_len _ _ _ h; simp only [fldLim]; rw [if_neg (by omega)]
  have e2 : fldD l = fld1 l := by
    unfold fldD
    cases h : fld1 l with
    | bad e r => rfl
    | ok s r => have := fld1_len _ _ _ h; simp only [fldLim]; rw [if_neg (by omega)]
  rw [e1, e2]
  by_cases h34 : l.head? = some 34
  · have : fld0 l = fld1 l := by unfold fld0 fld1; rw [if_pos h34, if_pos h34]
    rw [this]
    cases h : fld1 l with
    | bad e r => right; left; exact ⟨e, r, rfl, rfl⟩
    | ok s r => left; exact ⟨s, r, rfl, rfl, fld1_end _ _ _ h⟩
  · by_cases hq : (cplR l).head? = some 34
    · right; left; exact ⟨4, cplR l, by unfold fld1; rw [if_neg h34, if_pos (Or.inl hq)], by unfold fld0; rw [if_neg h34, if_pos hq]⟩
    · by_cases h13 : (cplR l).head? = some 13 ∧ endN (cplR l) = 0
      · right; right
        refine ⟨cplS l, cplR l, by unfold fld1; rw [if_neg h34, if_pos (Or.inr h13)], by unfold fld0; rw [if_neg h34, if_neg hq], by rw [h13.1]; decide, ?_⟩
        unfold endB
        refine decide_eq_false ?_
        rintro (h | h)
        · rw [h] at h13; simp at h13
        · omega
      · left
        have hd : fld1 l = .ok (cplS l) (cplR l) := by unfold fld1; rw [if_neg h34, if_neg (fun h => h.elim hq h13)]
        exact ⟨cplS l, cplR l, hd, by unfold fld0; rw [if_neg h34, if_neg hq], fld1_end _ _ _ hd⟩
end Go.Proofs.YtjbccmnmcjmooaaDoor
