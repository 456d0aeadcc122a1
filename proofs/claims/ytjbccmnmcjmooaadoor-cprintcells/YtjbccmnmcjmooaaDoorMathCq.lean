import Derived.Test.YtjbccmnmcjmooaaDoorMathCsv4
import Derived.Test.YtjbccmnmcjmooaaDoorMathVl
/- A field between quotes, wherever it stands in its row. -/
namespace Go.Proofs.YtjbccmnmcjmooaaDoor
open Go.RowKit

/-- so many of a piece -/
def repB (x : List UInt8) : Nat → List UInt8
  | 0 => []
  | n + 1 => x ++ repB x n
theorem repB_len (x : List UInt8) : ∀ n, (repB x n).length = n * x.length
  | 0 => by simp [repB]
  | n + 1 => by rw [repB, List.length_append, repB_len x n, Nat.succ_mul]; omega
theorem repB_snoc (x : List UInt8) : ∀ n, repB x (n + 1) = repB x n ++ x
  | 0 => by simp [repB]
  | n + 1 => by
    have ih := repB_snoc x n
    show x ++ repB x (n + 1) = (x ++ repB x n) ++ x
    rw [ih, List.append_assoc]
theorem fldP_plain (s r : List UInt8) (hs : ∀ c ∈ s, stopB c = false) (hr : r = [] ∨ ∃ c q, r = c :: q ∧ stopB c = true ∧ c ≠ 34) (hl : s.length ≤ 4096) : fldP (s ++ r) = .ok s r := by
  have h1 : cplS (s ++ r) = s ∧ cplR (s ++ r) = r := by
    induction s with
    | nil =>
      rcases hr with rfl | ⟨c, q, rfl, hc, -⟩
      · exact ⟨rfl, rfl⟩
      · unfold cplS cplR
        simp only [List.nil_append]
        rw [List.takeWhile_cons, List.dropWhile_cons]; simp [hc]
    | cons a s ih =>
      obtain ⟨i1, i2⟩ := ih (fun c hc => hs c (List.mem_cons_of_mem _ hc)) (by simp only [List.length_cons] at hl; omega)
      have ha := hs a (by simp)
      unfold cplS at i1 ⊢
      unfold cplR at i2 ⊢
      simp only [List.cons_append]
      rw [List.takeWhile_cons, List.dropWhile_cons]
      simp [ha, i1, i2]
  have h2 : ¬ (s ++ r).head? = some 34 := by
    cases s with
    | nil =>
      rcases hr with rfl | ⟨c, q, rfl, -, hc⟩
      · simp
      · simp; exact hc
    | cons a s =>
      have ha := hs a (by simp)
      simp
      rintro rfl
      exact absurd ha (by decide)
  have h3 : ¬ r.head? = some 34 := by
    rcases hr with rfl | ⟨c, q, rfl, -, hc⟩
    · simp
    · simp; exact hc
  unfold fldP fld0
  rw [if_neg h2, h1.1, h1.2, if_neg h3]
  simp only [fldLim]
  rw [if_neg (by omega)]
theorem qt_dq : ∀ (s acc r : List UInt8), r.head? ≠ some 34 → (r.head? = some 44 ∨ endB r = true) → qt acc (dq s ++ 34 :: r) = .ok (acc ++ s) r
  | [], acc, r, h, h2 => by
    simp only [dq, List.nil_append, List.append_nil]
    rw [qt_shut acc r h, if_pos h2]
  | c :: s, acc, r, h, h2 => by
    by_cases hc : c = 34
    · simp only [dq, if_pos hc, List.cons_append]
      rw [qt_two, qt_dq s _ r h h2, hc]; simp
    · simp only [dq, if_neg hc, List.cons_append]
      rw [qt_byte _ _ _ hc, qt_dq s _ r h h2]; simp
theorem fldP_dq (s r : List UInt8) (h : r = [] ∨ ∃ q, r = 44 :: q) (hl : s.length ≤ 4096) : fldP (34 :: (dq s ++ 34 :: r)) = .ok s r := by
  unfold fldP fld0
  rw [if_pos (by simp)]
  simp only [List.tail_cons]
  rw [qt_dq s [] r (by rcases h with rfl | ⟨q, rfl⟩ <;> simp) (by rcases h with rfl | ⟨q, rfl⟩; right; simp [endB]; left; simp)]
  simp only [fldLim, List.nil_append]
  rw [if_neg (by omega)]
theorem crwS_x (g : Nat) (fs : List (List UInt8)) (X : List UInt8) (h : fs.length < 64) : crwS fldP (g + 1) fs (120 :: 44 :: X) = crwS fldP g (fs ++ [[120]]) X := by
  have hf : fldP (120 :: 44 :: X) = .ok [120] (44 :: X) := fldP_plain [120] (44 :: X) (by decide) (Or.inr ⟨44, X, rfl, rfl, by decide⟩) (by simp)
  unfold crwS
  rw [if_neg (by omega), hf]
  simp only
  rw [crwL_s, if_pos (by simp)]
  simp only [List.tail_cons]
  rfl
theorem crwS_xs : ∀ (b g : Nat) (fs : List (List UInt8)) (X : List UInt8), fs.length + b ≤ 64 → crwS fldP (g + b) fs (repB [120, 44] b ++ X) = crwS fldP g (fs ++ List.replicate b [120]) X
  | 0, g, fs, X, _ => by simp [repB]
  | b + 1, g, fs, X, h => by
    rw [repB, show g + (b + 1) = (g + b) + 1 by omega, List.append_assoc]
    show crwS fldP (g + b + 1) fs (120 :: 44 :: (repB [120, 44] b ++ X)) = _
    rw [crwS_x _ _ _ (by omega), crwS_xs b g _ X (by rw [List.length_append]; simp; omega), List.replicate_succ]
    simp
theorem crwL_ys : ∀ (d g : Nat) (fs : List (List UInt8)), fs.length + d ≤ 64 → crwL fldP (g + d + 1) fs (repB [44, 121] d) = .ok (fs ++ List.replicate d [121]) []
  | 0, g, fs, _ => by
    show crwL fldP (g + 0 + 1) fs [] = _
    rw [crwL_s, if_neg (by simp), if_pos (by simp [endB])]
    simp
  | d + 1, g, fs, h => by
    rw [repB]
    show crwL fldP (g + (d + 1) + 1) fs (44 :: 121 :: repB [44, 121] d) = _
    rw [crwL_s, if_pos (by simp)]
    simp only [List.tail_cons]
    have hf : fldP (121 :: repB [44, 121] d) = .ok [121] (repB [44, 121] d) := by
      refine fldP_plain [121] _ (by decide) ?_ (by simp)
      cases d with
      | zero => left; rfl
      | succ d => right; exact ⟨44, _, rfl, rfl, by decide⟩
    unfold crwS
    rw [if_neg (by omega), hf]
    simp only
    rw [show g + (d + 1) = g + d + 1 by omega, crwL_ys d g _ (by rw [List.length_append]; simp; omega), List.replicate_succ]
    simp
/-- the text -/
def cqT (s : List UInt8) (b d : Nat) : List UInt8 := repB [120, 44] b ++ (34 :: (dq s ++ 34 :: repB [44, 121] d))
theorem vl_rep (x : List UInt8) (hx : ∀ c ∈ x, c.toNat < 128) : ∀ (n : Nat) (X : List UInt8), VL (repB x n ++ X) ↔ VL X
  | 0, X => by simp [repB]
  | n + 1, X => by
    rw [repB, List.append_assoc]
    have key : ∀ (x : List UInt8) (Y : List UInt8), (∀ c ∈ x, c.toNat < 128) → (VL (x ++ Y) ↔ VL Y) := by
      intro x
      induction x with
      | nil => intro Y _; simp
      | cons a x ih =>
        intro Y h
        rw [List.cons_append, vlb_ascii (h a (by simp))]
        exact ih Y (fun c hc => h c (List.mem_cons_of_mem _ hc))
    rw [key x _ hx]
    exact vl_rep x hx n X
theorem vl_cq (s : List UInt8) (b d : Nat) : VL (cqT s b d) ↔ VL s := by
  unfold cqT
  rw [vl_rep _ (by decide), vlb_ascii (by decide), vl_join (by simp), vlb_ascii (by decide), vl_dq _ s (Nat.le_refl _)]
  have := vl_rep [44, 121] (by decide) d []
  rw [List.append_nil] at this
  rw [this]
  simp [vl_nil]
theorem dq_len : ∀ s : List UInt8, (dq s).length ≤ 2 * s.length
  | [] => by simp [dq]
  | c :: s => by
    have := dq_len s
    by_cases h : c = 34
    · simp [dq, h]; omega
    · simp [dq, h]; omega
theorem cq_len (s : List UInt8) (b d : Nat) (hs : s.length ≤ 300) (hb : b ≤ 5) (hd : d ≤ 5) : (cqT s b d).length ≤ 700 := by
  unfold cqT
  have := dq_len s
  simp only [List.length_append, List.length_cons, repB_len, List.length_nil]
  omega
theorem cq_ok (s : List UInt8) (b d : Nat) (hs : s.length ≤ 300) (hb : b ≤ 5) (hd : d ≤ 5) (hv : VL s) : csvR fldP (cqT s b d) = .ok [List.replicate b [120] ++ ([s] ++ List.replicate d [121])] := by
  have hl := cq_len s b d hs hb hd
  have hne : cqT s b d ≠ [] := by unfold cqT; simp
  have hrow : crwF fldP (cqT s b d) = .ok (List.replicate b [120] ++ ([s] ++ List.replicate d [121])) [] := by
    rw [crwF_s fldP fldP_suf ((cqT s b d).length + d + 1 + 1 + b) _ (by omega)]
    have e := crwS_xs b ((cqT s b d).length + d + 1 + 1) [] (34 :: (dq s ++ 34 :: repB [44, 121] d)) (by simp; omega)
    have e2 : cqT s b d = repB [120, 44] b ++ (34 :: (dq s ++ 34 :: repB [44, 121] d)) := rfl
    rw [← e2] at e
    rw [e]
    have hf := fldP_dq s (repB [44, 121] d) (by cases d with | zero => left; rfl | succ d => right; exact ⟨_, rfl⟩) (by omega)
    unfold crwS
    rw [if_neg (by simp; omega), hf]
    simp only
    have := crwL_ys d ((cqT s b d).length + 1) (List.replicate b [120] ++ [s]) (by simp; omega)
    rw [show (cqT s b d).length + d + 1 + 1 = (cqT s b d).length + 1 + d + 1 by omega, List.nil_append, this]
    simp
  unfold csvR
  have hv' : pos (cqT s b d) (vlk (cqT s b d)) = (cqT s b d).length := (vl_cq s b d).2 hv
  rw [if_neg (by omega), if_pos hv', crdL_step, if_neg hne, if_neg (by simp), hrow]
  simp only
  rw [if_neg (by simp)]
  obtain ⟨n, hn⟩ : ∃ n, (cqT s b d).length = n + 1 := ⟨(cqT s b d).length - 1, by have := List.length_pos_iff.2 hne; omega⟩
  rw [hn, crdL_step, if_pos rfl]
  simp
theorem cq_bad (s : List UInt8) (b d : Nat) (hs : s.length ≤ 300) (hb : b ≤ 5) (hd : d ≤ 5) (hv : ¬ VL s) : ∃ r, csvR fldP (cqT s b d) = .bad 3 r := by
  have hl := cq_len s b d hs hb hd
  have hv' : ¬ pos (cqT s b d) (vlk (cqT s b d)) = (cqT s b d).length := fun h => hv ((vl_cq s b d).1 h)
  unfold csvR
  rw [if_neg (by omega), if_neg hv']
  exact ⟨_, rfl⟩
end Go.Proofs.YtjbccmnmcjmooaaDoor
