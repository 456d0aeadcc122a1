/- Plain mathematics of paths: their order is one; what is written is read back. -/
import Derived.Test.YtjcgkihkjjaefaaGreatDoorOPathTwo
import Derived.Test.YtjcgkihkjjaefaaGreatDoorOPathDoc
import Derived.Test.YtjcgkihkjjaefaaGreatDoorOPathTree
namespace Go.Proofs.YtjcgkihkjjaefaaGreatDoor
open Go.RowKit

/-! The order. -/
theorem cb_val : ∀ a b : List UInt8, Lib.compareBytes a b = -1 ∨ Lib.compareBytes a b = 0 ∨ Lib.compareBytes a b = 1
  | [], [] => Or.inr (Or.inl rfl)
  | [], _ :: _ => Or.inl rfl
  | _ :: _, [] => Or.inr (Or.inr rfl)
  | a :: l, b :: m => by
    rw [Lib.compareBytes]
    split
    · exact Or.inl rfl
    · split
      · exact Or.inr (Or.inr rfl)
      · exact cb_val l m
theorem cb_anti : ∀ a b : List UInt8, Lib.compareBytes b a = -Lib.compareBytes a b
  | [], [] => rfl
  | [], _ :: _ => rfl
  | _ :: _, [] => rfl
  | a :: l, b :: m => by
    rw [Lib.compareBytes, Lib.compareBytes]
    by_cases h1 : a < b
    · rw [if_neg (fun h2 => UInt8.lt_asymm h1 h2), if_pos h1, if_pos h1]; rfl
    · by_cases h2 : b < a
      · rw [if_pos h2, if_neg h1, if_pos h2]
      · rw [if_neg h2, if_neg h1, if_neg h1, if_neg h2, cb_anti l m]
theorem cb_refl : ∀ a : List UInt8, Lib.compareBytes a a = 0
  | [] => rfl
  | a :: l => by
    have h : ¬ a < a := UInt8.lt_irrefl a
    rw [Lib.compareBytes, if_neg h, if_neg h, cb_refl l]
theorem cb_eq : ∀ a b : List UInt8, Lib.compareBytes a b = 0 → a = b
  | [], [], _ => rfl
  | [], _ :: _, h => by cases h
  | _ :: _, [], h => by cases h
  | a :: l, b :: m, h => by
    rw [Lib.compareBytes] at h
    by_cases h1 : a < b
    · rw [if_pos h1] at h; cases h
    · rw [if_neg h1] at h
      by_cases h2 : b < a
      · rw [if_pos h2] at h; cases h
      · rw [if_neg h2] at h
        have hab : a = b := UInt8.le_antisymm (by simpa using h2) (by simpa using h1)
        rw [cb_eq l m h, hab]
theorem cb_less : ∀ a b : List UInt8, (decide (Lib.compareBytes a b < 0)) = ltB a b
  | [], [] => rfl
  | [], _ :: _ => rfl
  | _ :: _, [] => rfl
  | a :: l, b :: m => by
    rw [ltB_cons, Lib.compareBytes]
    by_cases h1 : a < b
    · rw [if_pos h1, decide_eq_true h1]; rfl
    · rw [if_neg h1, decide_eq_false h1]
      by_cases h2 : b < a
      · have h3 : (a == b) = false := by rw [beq_eq_false_iff_ne]; rintro rfl; exact h1 h2
        rw [if_pos h2, h3]; rfl
      · have h3 : a = b := UInt8.le_antisymm (by simpa using h2) (by simpa using h1)
        rw [if_neg h2, cb_less l m, h3]; simp
theorem cb_lt {a b : List UInt8} : Lib.compareBytes a b = -1 ↔ ltB a b = true := by
  have h := cb_less a b
  rcases cb_val a b with e | e | e <;> rw [e] at h ⊢ <;> rw [← h] <;> decide
theorem cb_trans {a b c : List UInt8} {x : Int} (h1 : Lib.compareBytes a b = x) (h2 : Lib.compareBytes b c = x) : Lib.compareBytes a c = x := by
  rcases cb_val a b with e | e | e
  · have hx : x = -1 := by omega
    subst hx
    exact cb_lt.2 (ltB_trans _ _ _ (cb_lt.1 h1) (cb_lt.1 h2))
  · rw [cb_eq _ _ e]; exact h2
  · have hx : x = 1 := by omega
    subst hx
    have g1 : Lib.compareBytes b a = -1 := by rw [cb_anti, h1]
    have g2 : Lib.compareBytes c b = -1 := by rw [cb_anti, h2]
    rw [cb_anti, cb_lt.2 (ltB_trans _ _ _ (cb_lt.1 g2) (cb_lt.1 g1))]
    rfl
theorem cz_anti (a b : Int) : cmpZ b a = -cmpZ a b := by unfold cmpZ; split <;> split <;> (try split) <;> first | rfl | omega
theorem cz_eq {a b : Int} (h : cmpZ a b = 0) : a = b := by
  unfold cmpZ at h
  by_cases h1 : a < b
  · rw [if_pos h1] at h; cases h
  · rw [if_neg h1] at h
    by_cases h2 : b < a
    · rw [if_pos h2] at h; cases h
    · omega
theorem cz_refl (a : Int) : cmpZ a a = 0 := by unfold cmpZ; rw [if_neg (by omega), if_neg (by omega)]
theorem cz_trans {a b c x : Int} (h1 : cmpZ a b = x) (h2 : cmpZ b c = x) : cmpZ a c = x := by
  unfold cmpZ at *
  split at h1 <;> split at h2 <;> (try split at h1) <;> (try split at h2) <;> split <;> (try split) <;> omega
/-- a step of one of the two forms -/
def Frm (s : PStep) : Prop := (s.place = true ∧ s.key = ⟨#[]⟩ ∧ 0 ≤ s.at_ ∧ s.at_ ≤ 1000000000) ∨ (s.place = false ∧ s.at_ = 0)
theorem ba_nil {k : ByteArray} (h : k.toList.isEmpty = true) : k = ⟨#[]⟩ := by
  rw [Lib.toList_data, List.isEmpty_iff] at h
  rw [mkS_of k _ rfl, h]; rfl
theorem ba_eq {a b : ByteArray} (h : a.data.toList = b.data.toList) : a = b := by
  rw [mkS_of a _ rfl, mkS_of b _ rfl, h]
theorem cs_anti (a b : PStep) : cstep b a = -cstep a b := by
  obtain ⟨ka, na, pa⟩ := a
  obtain ⟨kb, nb, pb⟩ := b
  unfold cstep
  cases pa <;> cases pb <;> simp [cz_anti na nb, cb_anti ka.data.toList kb.data.toList]
theorem cs_eq {a b : PStep} (ha : Frm a) (hb : Frm b) (h : cstep a b = 0) : a = b := by
  obtain ⟨ka, na, pa⟩ := a
  obtain ⟨kb, nb, pb⟩ := b
  unfold cstep at h
  unfold Frm at ha hb
  cases pa <;> cases pb <;> simp at h ha hb
  · obtain rfl := ba_eq (cb_eq _ _ h); rw [ha, hb]
  · obtain ⟨rfl, -⟩ := ha; obtain ⟨rfl, -⟩ := hb; rw [cz_eq h]
theorem cs_refl (a : PStep) : cstep a a = 0 := by
  obtain ⟨ka, na, pa⟩ := a
  unfold cstep
  cases pa <;> simp [cz_refl, cb_refl]
theorem cs_trans {a b c : PStep} {x : Int} (h1 : cstep a b = x) (h2 : cstep b c = x) : cstep a c = x := by
  obtain ⟨ka, na, pa⟩ := a
  obtain ⟨kb, nb, pb⟩ := b
  obtain ⟨kc, nc, pc⟩ := c
  unfold cstep at *
  cases pa <;> cases pb <;> cases pc <;> simp at h1 h2 ⊢
  · exact cb_trans h1 h2
  · exact h2
  · omega
  · exact h1
  · exact h1
  · omega
  · exact h2
  · exact cz_trans h1 h2
theorem cp_anti : ∀ a b : List PStep, cmpP b a = -cmpP a b
  | [], [] => rfl
  | [], _ :: _ => rfl
  | _ :: _, [] => rfl
  | a :: p, b :: q => by
    rw [cmpP, cmpP, cs_anti a b]
    by_cases h : cstep a b = 0
    · rw [if_pos h, if_pos (by omega), cp_anti p q]
    · rw [if_neg h, if_neg (by omega)]
theorem cp_refl : ∀ a : List PStep, cmpP a a = 0
  | [] => rfl
  | a :: p => by rw [cmpP, if_pos (cs_refl a), cp_refl p]
theorem cp_eq : ∀ {a b : List PStep}, (∀ s ∈ a, Frm s) → (∀ s ∈ b, Frm s) → cmpP a b = 0 → a = b
  | [], [], _, _, _ => rfl
  | [], _ :: _, _, _, h => by cases h
  | _ :: _, [], _, _, h => by cases h
  | a :: p, b :: q, ha, hb, h => by
    rw [cmpP] at h
    by_cases hc : cstep a b = 0
    · rw [if_pos hc] at h
      rw [cs_eq (ha a (by simp)) (hb b (by simp)) hc, cp_eq (fun s hs => ha s (by simp [hs])) (fun s hs => hb s (by simp [hs])) h]
    · rw [if_neg hc] at h; exact absurd h hc
theorem cp_trans : ∀ {a b c : List PStep} {x : Int}, (∀ s ∈ a, Frm s) → (∀ s ∈ b, Frm s) → (∀ s ∈ c, Frm s) → cmpP a b = x → cmpP b c = x → cmpP a c = x
  | [], [], c, x, _, _, _, _, h2 => h2
  | [], b :: q, [], x, _, _, _, h1, h2 => by
    have e1 : (-1 : Int) = x := h1
    have e2 : (1 : Int) = x := h2
    omega
  | [], b :: q, c :: r, x, _, _, _, h1, h2 => h1
  | a :: p, [], [], x, _, _, _, h1, h2 => h1
  | a :: p, [], c :: r, x, _, _, _, h1, h2 => by
    have e1 : (1 : Int) = x := h1
    have e2 : (-1 : Int) = x := h2
    omega
  | a :: p, b :: q, [], x, _, _, _, h1, h2 => h2
  | a :: p, b :: q, c :: r, x, ha, hb, hc, h1, h2 => by
    rw [cmpP] at h1 h2 ⊢
    by_cases g1 : cstep a b = 0
    · obtain rfl := cs_eq (ha a (by simp)) (hb b (by simp)) g1
      rw [if_pos g1] at h1
      by_cases g2 : cstep a c = 0
      · rw [if_pos g2] at h2 ⊢
        exact cp_trans (fun s hs => ha s (by simp [hs])) (fun s hs => hb s (by simp [hs])) (fun s hs => hc s (by simp [hs])) h1 h2
      · rw [if_neg g2] at h2 ⊢; exact h2
    · rw [if_neg g1] at h1
      by_cases g2 : cstep b c = 0
      · obtain rfl := cs_eq (hb b (by simp)) (hc c (by simp)) g2
        rw [if_neg g1]; exact h1
      · rw [if_neg g2] at h2
        have := cs_trans h1 h2
        rw [if_neg (by omega)]; exact this

/-! Written, and read back. -/
end Go.Proofs.YtjcgkihkjjaefaaGreatDoor
/- Plain mathematics of columns: where a path belongs among sorted ones; a path laid among them. -/
namespace Go.Proofs.YtjcgkihkjjaefaaGreatDoor

/-- how many at the front are less than a path -/
def posC : List (List PStep) → List PStep → Nat
  | [], _ => 0
  | c :: r, p => if cmpP c p < 0 then posC r p + 1 else 0
theorem posC_le : ∀ (C : List (List PStep)) (p : List PStep), posC C p ≤ C.length
  | [], _ => Nat.zero_le _
  | c :: r, p => by
    have := posC_le r p
    simp only [posC, List.length_cons]
    split <;> omega
theorem posC_lt : ∀ (C : List (List PStep)) (p : List PStep) (i : Nat) (c : List PStep), i < posC C p → C[i]? = some c → cmpP c p < 0
  | [], _, i, _, h, _ => by simp [posC] at h
  | a :: r, p, i, c, h, hc => by
    simp only [posC] at h
    split at h
    · rename_i ha
      cases i with
      | zero => simp at hc; subst hc; exact ha
      | succ i => exact posC_lt r p i c (by omega) (by simpa using hc)
    · omega
theorem posC_ge : ∀ (C : List (List PStep)) (p : List PStep) (c : List PStep), C[posC C p]? = some c → 0 ≤ cmpP c p
  | [], _, _, h => by simp at h
  | a :: r, p, c, h => by
    by_cases ha : cmpP a p < 0
    · simp only [posC, if_pos ha] at h
      exact posC_ge r p c (by simpa using h)
    · simp only [posC, if_neg ha] at h
      simp at h
      subst h; omega
/-- what precedes the path stands ahead of what does not -/
def Mono (C : List (List PStep)) (p : List PStep) : Prop := ∀ (i j : Nat) (a b : List PStep), i ≤ j → C[i]? = some a → C[j]? = some b → cmpP b p < 0 → cmpP a p < 0
theorem posC_is {C : List (List PStep)} {p : List PStep} {k : Nat} (hk : k ≤ C.length) (h1 : ∀ i c, i < k → C[i]? = some c → cmpP c p < 0) (h2 : ∀ c, C[k]? = some c → 0 ≤ cmpP c p) : posC C p = k := by
  rcases Nat.lt_trichotomy (posC C p) k with h | h | h
  · exfalso
    have hl : posC C p < C.length := by omega
    have a1 := posC_ge C p _ (List.getElem?_eq_getElem hl)
    have a2 := h1 _ _ h (List.getElem?_eq_getElem hl)
    omega
  · exact h
  · exfalso
    have hl : k < C.length := by have := posC_le C p; omega
    have a1 := h2 _ (List.getElem?_eq_getElem hl)
    have a2 := posC_lt C p k _ h (List.getElem?_eq_getElem hl)
    omega
def hasC (C : List (List PStep)) (p : List PStep) : Bool := match C[posC C p]? with
  | some c => decide (cmpP c p = 0)
  | none => false
theorem hasC_some {C : List (List PStep)} {p c : List PStep} (h : C[posC C p]? = some c) : hasC C p = decide (cmpP c p = 0) := by unfold hasC; rw [h]
theorem hasC_none {C : List (List PStep)} {p : List PStep} (h : C[posC C p]? = none) : hasC C p = false := by unfold hasC; rw [h]
def putC (C : List (List PStep)) (p : List PStep) : List (List PStep) := if hasC C p = true then C else C.take (posC C p) ++ p :: C.drop (posC C p)
end Go.Proofs.YtjcgkihkjjaefaaGreatDoor
