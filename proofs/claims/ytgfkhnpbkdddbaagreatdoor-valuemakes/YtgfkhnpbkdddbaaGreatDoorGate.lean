/- A region that draws its order, of which a beginning has but one order. -/
import Derived.Test.YtgfkhnpbkdddbaaGreatDoorBase
import Derived.Deep.QuietTactic
import Derived.StillTail
import Derived.OrdersHeld
namespace Go.Proofs.YtgfkhnpbkdddbaaGreatDoor
open Go.RowKit

section
variable {P : Program} {md : Region.Mode} {C : World → Prop}
/-- one after the other up to n, and nothing else before -/
def rowOk (md : Region.Mode) (n k : Nat) (o : Oper) : Bool :=
  if k < n then o.after.all (fun e => !Region.binds md e || decide (e.on < k)) && (decide (k = 0) || o.after.any (fun e => Region.binds md e && decide (e.on + 1 = k)))
  else o.after.any (fun e => Region.binds md e && decide (n ≤ e.on + 1))
def rowL (md : Region.Mode) (n : Nat) : Nat → List Oper → Bool
  | _, [] => true
  | k, o :: r => rowOk md n k o && rowL md n (k + 1) r
theorem rowL_at {n : Nat} : ∀ (l : List Oper) (k i : Nat) (o : Oper), rowL md n k l = true → l[i]? = some o → rowOk md n (k + i) o = true
  | [], _, i, o, _, h => by simp at h
  | a :: r, k, 0, o, hB, h => by
    simp only [rowL, Bool.and_eq_true] at hB
    simp at h; subst h; exact hB.1
  | a :: r, k, i + 1, o, hB, h => by
    simp only [rowL, Bool.and_eq_true] at hB
    simp at h
    have := rowL_at r (k + 1) i o hB.2 h
    rw [show k + 1 + i = k + (i + 1) by omega] at this; exact this
/-- the first k have come up -/
def FirstK (listed : Array Bool) (m k : Nat) : Prop := listed.size = m ∧ ∀ j, j < m → listed[j]? = some (decide (j < k))
theorem FirstK.next {listed : Array Bool} {m k : Nat} (h : FirstK listed m k) : FirstK (listed.setIfInBounds k true) m (k + 1) := by
  refine ⟨by simpa using h.1, fun j hj => ?_⟩
  rw [Array.getElem?_setIfInBounds]
  split
  · next e => subst e; rw [if_pos (by rw [h.1]; exact hj)]; simp
  · next e => rw [h.2 j hj]; congr 1; rw [decide_eq_decide]; omega
theorem FirstK.unlisted {listed : Array Bool} {m k i : Nat} (h : FirstK listed m k) (hi : listed.getD i true = false) : k ≤ i := by
  rcases Nat.lt_or_ge i k with hk | hk
  · rcases Nat.lt_or_ge i m with hm | hm
    · have := h.2 i hm
      rw [decide_eq_true hk] at this
      simp [Array.getD_eq_getD_getElem?, this] at hi
    · simp [Array.getD_eq_getD_getElem?, Array.getElem?_eq_none (show listed.size ≤ i by rw [h.1]; exact hm)] at hi
  · exact hk
theorem FirstK.below {listed : Array Bool} {m k i : Nat} (h : FirstK listed m k) (hi : listed.getD i false = true) : i < k := by
  rcases Nat.lt_or_ge i m with hm | hm
  · have := h.2 i hm
    simp [Array.getD_eq_getD_getElem?, this] at hi
    exact hi
  · simp [Array.getD_eq_getD_getElem?, Array.getElem?_eq_none (show listed.size ≤ i by rw [h.1]; exact hm)] at hi
theorem FirstK.isIn {listed : Array Bool} {m k i : Nat} (h : FirstK listed m k) (hi : i < k) (hm : i < m) : listed.getD i false = true := by
  have := h.2 i hm
  simp [Array.getD_eq_getD_getElem?, this, hi]
theorem FirstK.out {listed : Array Bool} {m k : Nat} (h : FirstK listed m k) (hm : k < m) : listed.getD k true = false := by
  have := h.2 k hm
  simp [Array.getD_eq_getD_getElem?, this]
theorem row_only {l : List Oper} {n k i : Nat} {listed : Array Bool} (hB : rowL md n 0 l = true) (hf : FirstK listed l.length k) (hk : k < n) (hi : i ∈ Region.ready md l.toArray listed) : i = k := by
  obtain ⟨hun, o, ho, hall⟩ := mem_ready.1 hi
  have hki := hf.unlisted hun
  rw [List.getElem?_toArray] at ho
  have hc := rowL_at l 0 i o hB ho
  rw [Nat.zero_add] at hc
  apply Classical.byContradiction
  intro hne
  unfold rowOk at hc
  split at hc
  · simp only [Bool.and_eq_true, Bool.or_eq_true, decide_eq_true_eq] at hc
    rcases hc.2 with h0 | h0
    · omega
    · obtain ⟨e, he, hb⟩ := Array.any_eq_true'.1 h0
      simp only [Bool.and_eq_true, decide_eq_true_eq] at hb
      have := hf.below (hall e he hb.1)
      omega
  · obtain ⟨e, he, hb⟩ := Array.any_eq_true'.1 hc
    simp only [Bool.and_eq_true, decide_eq_true_eq] at hb
    have := hf.below (hall e he hb.1)
    omega
theorem row_ready {l : List Oper} {n k : Nat} {listed : Array Bool} (hB : rowL md n 0 l = true) (hf : FirstK listed l.length k) (hk : k < n) (hkl : k < l.length) : k ∈ Region.ready md l.toArray listed := by
  refine mem_ready.2 ⟨hf.out hkl, l[k], by rw [List.getElem?_toArray]; exact List.getElem?_eq_getElem hkl, fun e he hb => ?_⟩
  have hc := rowL_at l 0 k _ hB (List.getElem?_eq_getElem hkl)
  rw [Nat.zero_add] at hc
  unfold rowOk at hc
  rw [if_pos hk] at hc
  simp only [Bool.and_eq_true] at hc
  have := Array.all_eq_true'.1 hc.1 e he
  simp only [Bool.or_eq_true, Bool.not_eq_true', decide_eq_true_eq] at this
  rcases this with h | h
  · rw [hb] at h; cases h
  · exact hf.isIn h (by omega)
theorem wpAny_row {Q : Exit → Act → World → Prop} {n g : Nat} {l : List Oper} (hB : rowL md n 0 l = true) : ∀ (r : List Oper) (k : Nat) (listed : Array Bool) (a : Act) (w : World), (∀ j, j < r.length → r[j]? = l[k + j]?) → k + r.length = n → n ≤ l.length →
    FirstK listed l.length k → C w → wpQuiet P l.toArray C (fun a' => ∀ w' listed', C w' → FirstK listed' l.length n → wpAny P md l.toArray Q g listed' a' w') r a → wpAny P md l.toArray Q (r.length + g) listed a w
  | [], k, listed, a, w, _, hk, _, hf, hC, h => by
    have : k = n := by simpa using hk
    subst this
    rw [List.length_nil, Nat.zero_add]; exact h _ _ hC hf
  | o :: r, k, listed, a, w, hl, hk, hn, hf, hC, h => by
    have hkn : k < n := by simp only [List.length_cons] at hk; omega
    have h0 : l[k]? = some o := by simpa using (hl 0 (by simp)).symm
    rw [List.length_cons, show r.length + 1 + g = (r.length + g) + 1 by omega]
    refine ⟨fun h1 => ?_, fun i hi => ?_⟩
    · have := row_ready hB hf hkn (by omega)
      rw [h1] at this; cases this
    · obtain rfl := row_only hB hf hkn hi
      have hst : qOp P l.toArray C i (wpQuiet P l.toArray C (fun a' => ∀ w' listed', C w' → FirstK listed' l.length n → wpAny P md l.toArray Q g listed' a' w') r) a := by unfold qOp; simp only [List.getElem?_toArray, h0]; exact h
      exact wpOp_of_qOp hC (fun a' w' hw' h' => wpAny_row hB r (i + 1) _ a' w' (fun j hj => by have := hl (j + 1) (by simp; omega); simpa [Nat.add_assoc, Nat.add_comm 1 j] using this) (by simp only [List.length_cons] at hk; omega) hn hf.next hw' h') hst
theorem firstK_eq {listed : Array Bool} {n g : Nat} (h : FirstK listed (n + g) n) : listed = (List.replicate n true ++ List.replicate g false).toArray := by
  apply Array.ext_getElem?
  intro j
  show listed[j]? = (List.replicate n true ++ List.replicate g false).toArray[j]?
  rw [show (List.replicate n true ++ List.replicate g false).toArray[j]? = (List.replicate n true ++ List.replicate g false)[j]? from List.getElem?_toArray]
  rcases Nat.lt_or_ge j (n + g) with hj | hj
  · rw [h.2 j hj]
    rcases Nat.lt_or_ge j n with hn | hn
    · rw [List.getElem?_append_left (by simpa using hn), List.getElem?_replicate, if_pos hn, decide_eq_true hn]
    · rw [List.getElem?_append_right (by simpa using hn), List.getElem?_replicate, List.length_replicate, if_pos (by omega), decide_eq_false (by omega)]
  · rw [Array.getElem?_eq_none (by rw [h.1]; exact hj), List.getElem?_eq_none (by simpa using hj)]
theorem wp_region_row {id : Nat} {Q : Exit → Act → World → Prop} {a : Act} {w : World} {l : List Oper} (n g : Nat) (hm : P.follows .mixedOrders = true) (hg : l.length = n + g) (hB : rowL .any n 0 l = true) (hC : C { w with drawn := w.drawn + 1 })
    (h : wpQuiet P l.toArray C (fun a' => ∀ w', C w' → wpAny P .any l.toArray Q g (List.replicate n true ++ List.replicate g false).toArray a' w') (l.take n) a) : (Code.region id l.toArray true).wp P Q a w := by
  refine wp_region_any hm ?_
  have hn : (l.take n).length = n := by simp; omega
  have mono : ∀ (r : List Oper) (a : Act), wpQuiet P l.toArray C (fun a' => ∀ w', C w' → wpAny P .any l.toArray Q g (List.replicate n true ++ List.replicate g false).toArray a' w') r a → wpQuiet P l.toArray C (fun a' => ∀ w' listed', C w' → FirstK listed' l.length n → wpAny P .any l.toArray Q g listed' a' w') r a := by
    intro r
    induction r with
    | nil => intro a h w' listed' hw' hf; rw [hg] at hf; rw [firstK_eq hf]; exact h w' hw'
    | cons o r ih =>
      intro a h
      unfold wpQuiet at h ⊢
      split
      · rename_i hw; rw [if_pos hw] at h; exact Oper.quiet_mono (fun a h => ih a h) h
      · rename_i hw; rw [if_neg hw] at h; exact ih _ h
  have := wpAny_row (md := .any) (Q := Q) (g := g) hB (l.take n) 0 (Array.replicate l.length false) a _ (fun j hj => by
    rw [hn] at hj
    simp [hj]) (by simpa using hn) (by omega) ⟨by simp, fun j hj => by simp [hj]⟩ hC (mono _ _ h)
  rw [hn, ← hg] at this
  simpa using this
/-- from a point on all is quiet -/
theorem any_quiet {Q : Exit → Act → World → Prop} {a : Act} {w : World} {l : List Oper} {S : World → Prop} (k g : Nat) (listed : Array Bool) (hg : l.length = k + g) (hsel : Region.noSelect l.toArray = true) (hB : Region.lexFrom md l.toArray g k listed = true) (hC : C w) (hS : ∀ w, C w → S w)
    (h : wpQuiet P l.toArray C (fun a' => ∀ w', C w' → Q .normal a' w') (l.drop k) a) : wpAnyH P md l.toArray Q S g listed a w := by
  have hl : (l.drop k).length = g := by simp; omega
  have H := wpAnyQ_lex (C := C) (md := md) hsel (l.drop k) k listed a (fun j => by simp [List.getElem?_drop]) (by rw [hl]; exact hB) h
  rw [hl] at H
  have key : ∀ (fuel : Nat) (listed : Array Bool) (a : Act) (w : World), C w → wpAnyQ P md l.toArray C (fun a' => ∀ w', C w' → Q .normal a' w') fuel listed a → wpAnyH P md l.toArray Q S fuel listed a w := by
    intro fuel
    induction fuel with
    | zero => intro listed a w hw h; exact ⟨h.1, h.2 w hw⟩
    | succ f ih => intro listed a w hw h; exact ⟨fun h0 => h.1 h0 w hw, fun i hi => wpOp_of_qOp hw (fun a' w' hw' h' => ⟨hS w' hw', ih _ a' w' hw' h'⟩) (h.2 i hi)⟩
  exact key _ _ _ _ hC H
end
end Go.Proofs.YtgfkhnpbkdddbaaGreatDoor
