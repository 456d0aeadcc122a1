/- Words that a slice of one's own holds; a fault has no words. -/
import Derived.Test.YtoamndiblckdlaaGreatDoorLexF
namespace Go.Proofs.YtoamndiblckdlaaGreatDoor
open Go.RowKit

theorem wflat_at {α : Type} (f : α → List Value) (m : Nat) (hf : ∀ a, (f a).length = m) : ∀ (A : List α) (i c : Nat) (a : α), A[i]? = some a → c < m → (A.flatMap f)[i * m + c]? = (f a)[c]?
  | [], i, c, a, h, _ => by simp at h
  | b :: A, 0, c, a, h, hc => by
    simp at h; subst h
    rw [List.flatMap_cons, Nat.zero_mul, Nat.zero_add, List.getElem?_append_left (by rw [hf]; exact hc)]
  | b :: A, i + 1, c, a, h, hc => by
    simp at h
    rw [List.flatMap_cons, List.getElem?_append_right (by rw [hf, Nat.add_mul]; omega), hf, show (i + 1) * m + c - m = i * m + c by rw [Nat.add_mul]; omega]
    exact wflat_at f m hf A i c a h hc
theorem wadd_at (b i : Nat) : Addr.add ⟨b, 0, none⟩ i = ⟨b, i, none⟩ := by
  simp only [Addr.add, Nat.zero_add]; split
  · next h0 => rw [h0]
  · rfl
theorem own_inw {w : World} {base : Nat} {v : Value} {ws : List Wd} {ty : TypeId} (h : w.ownsRow base ty 3 v ws.length (ws.flatMap wc)) : InW w ws v := by
  have hc := h
  rcases hc with ⟨-, ⟨rfl, h0⟩ | ⟨g, cap, cur, rfl, -, -, hn, hcm, -, -⟩⟩
  · have : ws = [] := List.eq_nil_of_length_eq_zero h0
    subst this
    exact ⟨none, ⟨0, 0, none⟩, 0, rfl, Nat.le_refl _, Nat.zero_le _, fun h => absurd h (by simp), fun i s h => by simp at h⟩
  have key : ∀ (i : Nat) (s : Wd), ws[i]? = some s → ∀ (c : Nat) (u : Value), (wc s)[c]? = some u → w.cell? ⟨g, i * 3 + c, none⟩ = some u := by
    intro i s hs c u hu
    have hi := (List.getElem?_eq_some_iff.1 hs).1
    have hc : c < 3 := (List.getElem?_eq_some_iff.1 hu).1
    rw [h.cellAt (i * 3 + c) (by omega), wflat_at wc 3 (fun _ => rfl) ws i c s hs hc]
    exact hu
  refine ⟨some ⟨g, 0, none⟩, ⟨g, 0, none⟩, cap, rfl, hn, hcm, fun _ => rfl, fun i s hs => ?_⟩
  rw [wadd_at]
  exact ⟨key i s hs 0 _ rfl, key i s hs 1 _ rfl, key i s hs 2 _ rfl⟩
theorem lx_nil {T : List UInt8} : ∀ f i acc, (lx T f i acc).2.1 ≠ 0 → (lx T f i acc).1 = []
  | 0, i, acc, _ => rfl
  | f + 1, i, acc, h => by
    rw [lx] at h ⊢
    by_cases h1 : T.length ≤ i
    · rw [if_pos h1] at h; exact absurd rfl h
    · rw [if_neg h1] at h ⊢
      by_cases h2 : (lw T i).er ≠ 0
      · rw [if_pos h2]
      · rw [if_neg h2] at h ⊢
        by_cases h3 : (lw T i).kd = 9
        · rw [if_pos h3] at h ⊢; exact lx_nil f _ _ h
        · rw [if_neg h3] at h ⊢; exact lx_nil f _ _ h
theorem cutA_nil {T : List UInt8} (h : (cutA T).2.1 ≠ 0) : (cutA T).1 = [] := by
  unfold cutA at h ⊢
  split
  · rfl
  · next h1 =>
    rw [if_neg h1] at h
    split
    · rfl
    · next h2 => rw [if_neg h2] at h; exact lx_nil _ _ _ h
end Go.Proofs.YtoamndiblckdlaaGreatDoor
