/- Plain mathematics of paths: their order is one; what is written is read back. -/
import Derived.Test.YteimbjamnfkapaaGreatDoorCPathTwo
import Derived.Test.YteimbjamnfkapaaGreatDoorCPathDoc
import Derived.Test.YteimbjamnfkapaaGreatDoorCPathEvery
import Derived.Test.YteimbjamnfkapaaGreatDoorCShelf3
namespace Go.Proofs.YteimbjamnfkapaaGreatDoor
open Go.RowKit
/-! The order. -/
theorem cb_val : ∀ a b : List UInt8, Lib.compareBytes a b = -1 ∨ Lib.compareBytes a b = 0 ∨ Lib.compareBytes a b = 1
 | [], [] => Or.inr (Or.inl rfl)
 | [], _ :: _ => Or.inl rfl
 | _ :: _, [] => Or.inr (Or.inr rfl)
 | a :: l, b :: m => by
  rw [Lib.compareBytes]
  split
  ·exact Or.inl rfl
  ·split
   ·exact Or.inr (Or.inr rfl)
   ·exact cb_val l m
theorem cb_anti : ∀ a b : List UInt8, Lib.compareBytes b a = -Lib.compareBytes a b
 | [], [] => rfl
 | [], _ :: _ => rfl
 | _ :: _, [] => rfl
 | a :: l, b :: m => by
  rw [Lib.compareBytes, Lib.compareBytes]
  by_cases h1 : a < b
  ·rw [if_neg (fun h2 => UInt8.lt_asymm h1 h2), if_pos h1, if_pos h1]; rfl
  ·by_cases h2 : b < a
   ·rw [if_pos h2, if_neg h1, if_pos h2]
   ·rw [if_neg h2, if_neg h1, if_neg h1, if_neg h2, cb_anti l m]
theorem cb_refl : ∀ a : List UInt8, Lib.compareBytes a a = 0
 | [] => rfl
 | a :: l => by
  have h : ¬ a < a := UInt8.lt_irrefl a
  rw [Lib.compareBytes, if_neg h, if_neg h, cb_refl l]
theorem cb_eq : ∀ a b : List UInt8, Lib.compareBytes a b = 0 → a = b
 | [], [], _ => rfl
 | [], _ :: _, h => by cases h
 | _ :: _, [], h => by cases h
 | a :: l, b :: m, h => by
  rw [Lib.compareBytes] at h
  by_cases h1 : a < b
  ·rw [if_pos h1] at h; cases h
  ·rw [if_neg h1] at h
   by_cases h2 : b < a
   ·rw [if_pos h2] at h; cases h
   ·rw [if_neg h2] at h
    have hab : a = b := UInt8.le_antisymm (by simpa using h2) (by simpa using h1)
    rw [cb_eq l m h, hab]
theorem cb_less : ∀ a b : List UInt8, (decide (Lib.compareBytes a b < 0)) = ltB a b
 | [], [] => rfl
 | [], _ :: _ => rfl
 | _ :: _, [] => rfl
 | a :: l, b :: m => by
  rw [ltB_cons, Lib.compareBytes]
  by_cases h1 : a < b
  ·rw [if_pos h1, decide_eq_true h1]; rfl
  ·rw [if_neg h1, decide_eq_false h1]
   by_cases h2 : b < a
   ·have h3 : (a == b) = false := by rw [beq_eq_false_iff_ne]; rintro rfl; exact h1 h2
    rw [if_pos h2, h3]; rfl
   ·have h3 : a = b := UInt8.le_antisymm (by simpa using h2) (by simpa using h1)
    rw [if_neg h2, cb_less l m, h3]; simp
theorem cb_lt {a b : List UInt8} : Lib.compareBytes a b = -1 ↔ ltB a b = true := by
 have h := cb_less a b
 rcases cb_val a b with e | e | e <;> rw [e] at h ⊢ <;> rw [← h] <;> decide
theorem cb_trans {a b c : List UInt8} {x : Int} (h1 : Lib.compareBytes a b = x) (h2 : Lib.compareBytes b c = x) : Lib.compareBytes a c = x := by
 rcases cb_val a b with e | e | e
 ·have hx : x = -1 := by omega
  subst hx
  exact cb_lt.2 (ltB_trans _ _ _ (cb_lt.1 h1) (cb_lt.1 h2))
 ·rw [cb_eq _ _ e]; exact h2
 ·have hx : x = 1 := by omega
  subst hx
  have g1 : Lib.compareBytes b a = -1 := by rw [cb_anti, h1]
  have g2 : Lib.compareBytes c b = -1 := by rw [cb_anti, h2]
  rw [cb_anti, cb_lt.2 (ltB_trans _ _ _ (cb_lt.1 g2) (cb_lt.1 g1))]
  rfl
theorem cz_anti (a b : Int) : cmpZ b a = -cmpZ a b := by unfold cmpZ; split <;> split <;> (try split) <;> first | rfl | omega
theorem cz_eq {a b : Int} (h : cmpZ a b = 0) : a = b := by
 unfold cmpZ at h
 by_cases h1 : a < b
 ·rw [if_pos h1] at h; cases h
 ·rw [if_neg h1] at h
  by_cases h2 : b < a
  ·rw [if_pos h2] at h; cases h
  ·omega
theorem cz_refl (a : Int) : cmpZ a a = 0 := by unfold cmpZ; rw [if_neg (by omega), if_neg (by omega)]
theorem cz_trans {a b c x : Int} (h1 : cmpZ a b = x) (h2 : cmpZ b c = x) : cmpZ a c = x := by
 unfold cmpZ at *
 split at h1 <;> split at h2 <;> (try split at h1) <;> (try split at h2) <;> split <;> (try split) <;> omega
def Frm (s : PStep) : Prop := (s.place = true ∧ s.key = ⟨#[]⟩ ∧ 0 ≤ s.at_ ∧ s.at_ ≤ 1000000000) ∨ (s.place = false ∧ s.at_ = 0)
theorem ba_nil {k : ByteArray} (h : k.toList.isEmpty = true) : k = ⟨#[]⟩ := by
 rw [Lib.toList_data, List.isEmpty_iff] at h
 rw [mkS_of k _ rfl, h]; rfl
theorem ba_eq {a b : ByteArray} (h : a.data.toList = b.data.toList) : a = b := by
 rw [mkS_of a _ rfl, mkS_of b _ rfl, h]
theorem cs_anti (a b : PStep) : cstep b a = -cstep a b := by
 obtain ⟨ka, na, pa⟩ := a
 obtain ⟨kb, nb, pb⟩ := b
 unfold cstep
 cases pa <;> cases pb <;> simp [cz_anti na nb, cb_anti ka.data.toList kb.data.toList]
theorem cs_eq {a b : PStep} (ha : Frm a) (hb : Frm b) (h : cstep a b = 0) : a = b := by
 obtain ⟨ka, na, pa⟩ := a
 obtain ⟨kb, nb, pb⟩ := b
 unfold cstep at h
 unfold Frm at ha hb
 cases pa <;> cases pb <;> simp at h ha hb
 ·obtain rfl := ba_eq (cb_eq _ _ h); rw [ha, hb]
 ·obtain ⟨rfl, -⟩ := ha; obtain ⟨rfl, -⟩ := hb; rw [cz_eq h]
theorem cs_refl (a : PStep) : cstep a a = 0 := by
 obtain ⟨ka, na, pa⟩ := a
 unfold cstep
 cases pa <;> simp [cz_refl, cb_refl]
theorem cs_trans {a b c : PStep} {x : Int} (h1 : cstep a b = x) (h2 : cstep b c = x) : cstep a c = x := by
 obtain ⟨ka, na, pa⟩ := a
 obtain ⟨kb, nb, pb⟩ := b
 obtain ⟨kc, nc, pc⟩ := c
 unfold cstep at *
 cases pa <;> cases pb <;> cases pc <;> simp at h1 h2 ⊢
 ·exact cb_trans h1 h2
 ·exact h2
 ·omega
 ·exact h1
 ·exact h1
 ·omega
 ·exact h2
 ·exact cz_trans h1 h2
theorem cp_anti : ∀ a b : List PStep, cmpP b a = -cmpP a b
 | [], [] => rfl
 | [], _ :: _ => rfl
 | _ :: _, [] => rfl
 | a :: p, b :: q => by
  rw [cmpP, cmpP, cs_anti a b]
  by_cases h : cstep a b = 0
  ·rw [if_pos h, if_pos (by omega), cp_anti p q]
  ·rw [if_neg h, if_neg (by omega)]
theorem cp_refl : ∀ a : List PStep, cmpP a a = 0
 | [] => rfl
 | a :: p => by rw [cmpP, if_pos (cs_refl a), cp_refl p]
theorem cp_eq : ∀ {a b : List PStep}, (∀ s ∈ a, Frm s) → (∀ s ∈ b, Frm s) → cmpP a b = 0 → a = b
 | [], [], _, _, _ => rfl
 | [], _ :: _, _, _, h => by cases h
 | _ :: _, [], _, _, h => by cases h
 | a :: p, b :: q, ha, hb, h => by
  rw [cmpP] at h
  by_cases hc : cstep a b = 0
  ·rw [if_pos hc] at h
   rw [cs_eq (ha a (by simp)) (hb b (by simp)) hc, cp_eq (fun s hs => ha s (by simp [hs])) (fun s hs => hb s (by simp [hs])) h]
  ·rw [if_neg hc] at h; exact absurd h hc
theorem cp_trans : ∀ {a b c : List PStep} {x : Int}, (∀ s ∈ a, Frm s) → (∀ s ∈ b, Frm s) → (∀ s ∈ c, Frm s) → cmpP a b = x → cmpP b c = x → cmpP a c = x
 | [], [], c, x, _, _, _, _, h2 => h2
 | [], b :: q, [], x, _, _, _, h1, h2 => by
  have e1 : (-1 : Int) = x := h1
  have e2 : (1 : Int) = x := h2
  omega
 | [], b :: q, c :: r, x, _, _, _, h1, h2 => h1
 | a :: p, [], [], x, _, _, _, h1, h2 => h1
 | a :: p, [], c :: r, x, _, _, _, h1, h2 => by
  have e1 : (1 : Int) = x := h1
  have e2 : (-1 : Int) = x := h2
  omega
 | a :: p, b :: q, [], x, _, _, _, h1, h2 => h2
 | a :: p, b :: q, c :: r, x, ha, hb, hc, h1, h2 => by
  rw [cmpP] at h1 h2 ⊢
  by_cases g1 : cstep a b = 0
  ·obtain rfl := cs_eq (ha a (by simp)) (hb b (by simp)) g1
   rw [if_pos g1] at h1
   by_cases g2 : cstep a c = 0
   ·rw [if_pos g2] at h2 ⊢
    exact cp_trans (fun s hs => ha s (by simp [hs])) (fun s hs => hb s (by simp [hs])) (fun s hs => hc s (by simp [hs])) h1 h2
   ·rw [if_neg g2] at h2 ⊢; exact h2
  ·rw [if_neg g1] at h1
   by_cases g2 : cstep b c = 0
   ·obtain rfl := cs_eq (hb b (by simp)) (hc c (by simp)) g2
    rw [if_neg g1]; exact h1
   ·rw [if_neg g2] at h2
    have := cs_trans h1 h2
    rw [if_neg (by omega)]; exact this
/-! Written, and read back. -/
theorem idx_no {c : UInt8} : ∀ {a : List UInt8}, c ∉ a → Lib.index a [c] = -1
 | [], _ => rfl
 | b :: l, h => by
  have hb : ¬ c = b := fun e => h (by simp [e])
  rw [index_cons (by simp [List.isPrefixOf, hb]), idx_no (fun e => h (by simp [e]))]; rfl
theorem idx_at {c : UInt8} {b : List UInt8} : ∀ {a : List UInt8}, c ∉ a → Lib.index (a ++ c :: b) [c] = (a.length : Nat)
 | [], _ => by rw [List.nil_append, Lib.index, if_pos (by simp [List.isPrefixOf])]; rfl
 | d :: l, h => by
  have hb : ¬ c = d := fun e => h (by simp [e])
  have ih := idx_at (c := c) (b := b) (a := l) (fun e => h (by simp [e]))
  rw [List.cons_append, index_cons (by simp [List.isPrefixOf, hb]), ih, if_neg (by simp)]
  simp
theorem split_no {c : UInt8} {a : List UInt8} (h : c ∉ a) : Lib.split a [c] = [a] := by
 unfold Lib.split
 rw [Lib.count_miss (idx_no h)]; rfl
theorem split_at {c : UInt8} {a b : List UInt8} (h : c ∉ a) : Lib.split (a ++ c :: b) [c] = a :: Lib.split b [c] := by
 have hi := idx_at (b := b) h
 have hd : (a ++ c :: b).drop (a.length + 1) = b := by rw [List.drop_append, List.drop_eq_nil_of_le (by omega)]; simp
 unfold Lib.split
 rw [Lib.count_hit (by simp) hi, Nat.add_comm 1, Lib.splitK, hi, if_neg (by simp)]
 simp only [List.length_cons, List.length_nil, Nat.zero_add, Nat.add_zero, Int.toNat_natCast, hd]
 congr 1
 rw [List.take_append_of_le_length (Nat.le_refl _), List.take_length]
theorem pieces_text : ∀ (s : PStep) (p : List PStep), (∀ t ∈ s :: p, (47 : UInt8) ∉ stepT t) → piecesP (textP (s :: p)) = (s :: p).map stepT
 | s, [], h => by
  have : (textP [s]).drop 1 = stepT s := by simp [textP]
  unfold piecesP
  rw [this, split_no (h s (by simp))]; rfl
 | s, t :: p, h => by
  have ih := pieces_text t p (fun u hu => h u (by simp at hu ⊢; exact Or.inr hu))
  have e : (textP (s :: t :: p)).drop 1 = stepT s ++ 47 :: (textP (t :: p)).drop 1 := by simp [textP]
  unfold piecesP at ih ⊢
  rw [e, split_at (h s (by simp)), ih]; rfl
theorem dd_all (u : Nat) : ∀ b ∈ Lib.decDigits u, 48 ≤ b.toNat ∧ b.toNat ≤ 57 := by
 induction u using Nat.strongRecOn with
 | _ u ih =>
  intro b hb
  rw [Lib.decDigits] at hb
  have hk : ∀ d, d < 10 → (UInt8.ofNat (48 + d)).toNat = 48 + d := fun d hd => by simp; omega
  split at hb
  ·rename_i h
   simp only [List.mem_singleton] at hb
   subst hb; rw [hk u h]; omega
  ·rename_i h
   rw [List.mem_append] at hb
   rcases hb with hb | hb
   ·exact ih (u / 10) (by omega) b hb
   ·simp only [List.mem_singleton] at hb
    subst hb; rw [hk _ (by omega)]; omega
theorem dd_ne (u : Nat) : Lib.decDigits u ≠ [] := by
 rw [Lib.decDigits]; split <;> simp
theorem dd_head (u : Nat) (h : 1 ≤ u) : ¬ (Lib.decDigits u).getD 0 0 = 48 := by
 induction u using Nat.strongRecOn with
 | _ u ih =>
  rw [Lib.decDigits]
  split
  ·rename_i h1
   have hk : (UInt8.ofNat (48 + u)).toNat = 48 + u := by simp; omega
   intro e
   simp only [List.getD_cons_zero] at e
   rw [e] at hk
   have : (48 : UInt8).toNat = 48 := rfl
   omega
  ·rename_i h1
   have h2 := ih (u / 10) (by omega) (by omega)
   cases hc : Lib.decDigits (u / 10) with
   | nil => exact absurd hc (dd_ne _)
   | cons a l => rw [hc] at h2; simpa using h2
theorem dv_snoc (acc : Nat) (l : List UInt8) (c : UInt8) : dv acc (l ++ [c]) = dv acc l * 10 + (c.toNat - 48) := by
 unfold dv; rw [List.foldl_append]; rfl
theorem dd_dv (u : Nat) : dv 0 (Lib.decDigits u) = u := by
 induction u using Nat.strongRecOn with
 | _ u ih =>
  have hk : ∀ d, d < 10 → (UInt8.ofNat (48 + d)).toNat = 48 + d := fun d hd => by simp; omega
  rw [Lib.decDigits]
  split
  ·rename_i h
   rw [dv_cons, hk u h]; show 0 * 10 + (48 + u - 48) = u; omega
  ·rename_i h
   rw [dv_snoc, ih (u / 10) (by omega), hk _ (by omega)]; omega
theorem dd_dig (u : Nat) : digB (Lib.decDigits u) = true := by
 unfold digB
 have h1 : (Lib.decDigits u).isEmpty = false := by rw [List.isEmpty_eq_false_iff]; exact dd_ne u
 have h3 : (Lib.decDigits u).all (fun b => decide (48 ≤ b.toNat) && decide (b.toNat ≤ 57)) = true := by
  rw [List.all_eq_true]
  intro b hb
  have := dd_all u b hb
  simp [this.1, this.2]
 have h2 : (decide ((Lib.decDigits u).getD 0 0 = 48) && decide (1 < (Lib.decDigits u).length)) = false := by
  by_cases hu : 1 ≤ u
  ·rw [decide_eq_false (dd_head u hu)]; rfl
  ·have : u = 0 := by omega
   subst this
   rw [show Lib.decDigits 0 = [48] by rw [Lib.decDigits]; rfl]; rfl
 rw [h1, h2, h3]; rfl
theorem esc_no (k : List UInt8) : (47 : UInt8) ∉ esc k := by
 unfold esc
 rw [List.mem_flatMap]
 rintro ⟨b, -, hb⟩
 unfold escB at hb
 split at hb
 ·simp at hb
 ·split at hb
  ·simp at hb
  ·rename_i h; simp at hb; exact h hb.symm
theorem esc_same {k : List UInt8} (h : (126 : UInt8) ∉ esc k) : esc k = k := by
 unfold esc at h ⊢
 induction k with
 | nil => rfl
 | cons b l ih =>
  rw [List.flatMap_cons, List.mem_append] at h
  rw [List.flatMap_cons, ih (fun e => h (Or.inr e))]
  have hb : escB b = [b] := by
   unfold escB at h ⊢
   by_cases h1 : b = 126
   ·exfalso; apply h; left; rw [if_pos h1]; simp
   ·rw [if_neg h1] at h ⊢
    by_cases h2 : b = 47
    ·exfalso; apply h; left; rw [if_pos h2]; simp
    ·rw [if_neg h2]
  rw [hb]; rfl
theorem dig_no126 {l : List UInt8} (h : digB l = true) : (126 : UInt8) ∉ l := by
 unfold digB at h
 rw [Bool.and_eq_true] at h
 intro hm
 have := List.all_eq_true.1 h.2 _ hm
 revert this; decide
theorem esc_mark (k : List UInt8) : Lib.hasPrefix (esc k) [126, 107] = false := by
 cases k with
 | nil => rfl
 | cons b l =>
  unfold esc
  rw [List.flatMap_cons]
  unfold escB
  by_cases h1 : b = 126
  ·rw [if_pos h1]; simp [Lib.hasPrefix, List.isPrefixOf]
  ·rw [if_neg h1]
   by_cases h2 : b = 47
   ·rw [if_pos h2]; simp [Lib.hasPrefix, List.isPrefixOf]
   ·rw [if_neg h2]
    have h3 : ¬ (126 : UInt8) = b := fun e => h1 e.symm
    simp [Lib.hasPrefix, List.isPrefixOf, h3]
theorem key_no (k : List UInt8) : (47 : UInt8) ∉ keyT k := by
 unfold keyT
 split
 ·intro h
  rw [List.mem_append] at h
  rcases h with h | h
  ·revert h; decide
  ·exact esc_no k h
 ·exact esc_no k
theorem key_dig (k : List UInt8) : digB (keyT k) = false := by
 unfold keyT
 split
 ·cases hd : digB ([126, 107] ++ esc k) with
  | false => rfl
  | true => exact absurd (show (126 : UInt8) ∈ [126, 107] ++ esc k by simp) (dig_no126 hd)
 ·rename_i h
  cases hd : digB (esc k) with
  | false => rfl
  | true =>
   rw [esc_same (dig_no126 hd)] at hd
   exact absurd (show keyM k = true by unfold keyM; rw [hd]; rfl) h
theorem key_trim (k : List UInt8) : Lib.trimPrefix (keyT k) [126, 107] = esc k := by
 unfold keyT Lib.trimPrefix
 split
 ·rw [if_pos (by simp [Lib.hasPrefix, List.isPrefixOf])]; simp
 ·rw [if_neg (by rw [esc_mark]; decide)]
theorem step_no {s : PStep} (h : Frm s) : (47 : UInt8) ∉ stepT s := by
 unfold stepT
 rcases h with ⟨hp, -, h0, -⟩ | ⟨hp, -⟩
 ·rw [if_pos hp]
  obtain ⟨u, hu⟩ : ∃ u : Nat, s.at_ = u := ⟨s.at_.toNat, by omega⟩
  rw [hu, Lib.itoa_nonneg]
  intro hm
  have := dd_all u _ hm
  revert this; decide
 ·rw [if_neg (by rw [hp]; decide)]; exact key_no _
theorem step_back {s : PStep} (h : Frm s) : psOk (stepT s) = true ∧ psStep (stepT s) = s := by
 obtain ⟨key, a, pl⟩ := s
 rcases h with ⟨hp, hk, h0, h1⟩ | ⟨hp, ha⟩
 ·simp only at hp hk h0 h1
  subst hp hk
  obtain ⟨u, rfl⟩ : ∃ u : Nat, a = u := ⟨a.toNat, by omega⟩
  have e : stepT ⟨⟨#[]⟩, (u : Int), true⟩ = Lib.decDigits u := by unfold stepT; rw [if_pos rfl, Lib.itoa_nonneg]
  rw [e]
  unfold psOk psStep
  rw [if_pos (dd_dig u), if_pos (dd_dig u), dd_dv, if_pos (by omega)]
  exact ⟨decide_eq_true (by omega), rfl⟩
 ·simp only at hp ha
  subst hp ha
  have e : stepT ⟨key, 0, false⟩ = keyT key.data.toList := rfl
  have hb := unK_back _ (key_trim key.data.toList)
  rw [e]
  unfold psOk psStep
  rw [if_neg (by rw [key_dig]; decide), if_neg (by rw [key_dig]; decide), hb]
  exact ⟨decide_eq_true rfl, by rw [← mkS_of key _ rfl]⟩
theorem parse_text {p : List PStep} (h : ∀ s ∈ p, Frm s) : parseP (textP p) = some p := by
 cases p with
 | nil => rfl
 | cons s p =>
  have hne : ¬ textP (s :: p) = [] := by simp [textP]
  have h0 : (textP (s :: p)).getD 0 0 = 47 := by simp [textP]
  have hp := pieces_text s p (fun t ht => step_no (h t ht))
  unfold parseP
  rw [if_neg hne, if_neg (by rw [h0]; decide), hp, if_pos]
  ·rw [List.map_map]
   congr 1
   have : ∀ t ∈ s :: p, (psStep ∘ stepT) t = t := fun t ht => (step_back (h t ht)).2
   rw [List.map_congr_left this]; simp
  ·rw [List.all_map, List.all_eq_true]
   intro t ht
   exact (step_back (h t ht)).1
theorem getP_app : ∀ (p q : List PStep) (T : VT), getP T (p ++ q) = (getP T p).bind fun t => getP t q
 | [], q, T => rfl
 | a :: p, q, T => by
  simp only [List.cons_append, getP]
  cases h : (idxT T a).bind (kidT T a) with
  | none => rfl
  | some t => simp only; exact getP_app p q t
end Go.Proofs.YteimbjamnfkapaaGreatDoor
/- Plain mathematics of columns: where a path belongs among sorted ones; a path laid among them. -/
namespace Go.Proofs.YteimbjamnfkapaaGreatDoor
def posC : List (List PStep) → List PStep → Nat
 | [], _ => 0
 | c :: r, p => if cmpP c p < 0 then posC r p + 1 else 0
theorem posC_le : ∀ (C : List (List PStep)) (p : List PStep), posC C p ≤ C.length
 | [], _ => Nat.zero_le _
 | c :: r, p => by
  have := posC_le r p
  simp only [posC, List.length_cons]
  split <;> omega
theorem posC_lt : ∀ (C : List (List PStep)) (p : List PStep) (i : Nat) (c : List PStep), i < posC C p → C[i]? = some c → cmpP c p < 0
 | [], _, i, _, h, _ => by simp [posC] at h
 | a :: r, p, i, c, h, hc => by
  simp only [posC] at h
  split at h
  ·rename_i ha
   cases i with
   | zero => simp at hc; subst hc; exact ha
   | succ i => exact posC_lt r p i c (by omega) (by simpa using hc)
  ·omega
theorem posC_ge : ∀ (C : List (List PStep)) (p : List PStep) (c : List PStep), C[posC C p]? = some c → 0 ≤ cmpP c p
 | [], _, _, h => by simp at h
 | a :: r, p, c, h => by
  by_cases ha : cmpP a p < 0
  ·simp only [posC, if_pos ha] at h
   exact posC_ge r p c (by simpa using h)
  ·simp only [posC, if_neg ha] at h
   simp at h
   subst h; omega
def Mono (C : List (List PStep)) (p : List PStep) : Prop := ∀ (i j : Nat) (a b : List PStep), i ≤ j → C[i]? = some a → C[j]? = some b → cmpP b p < 0 → cmpP a p < 0
theorem posC_is {C : List (List PStep)} {p : List PStep} {k : Nat} (hk : k ≤ C.length) (h1 : ∀ i c, i < k → C[i]? = some c → cmpP c p < 0) (h2 : ∀ c, C[k]? = some c → 0 ≤ cmpP c p) : posC C p = k := by
 rcases Nat.lt_trichotomy (posC C p) k with h | h | h
 ·exfalso
  have hl : posC C p < C.length := by omega
  have a1 := posC_ge C p _ (List.getElem?_eq_getElem hl)
  have a2 := h1 _ _ h (List.getElem?_eq_getElem hl)
  omega
 ·exact h
 ·exfalso
  have hl : k < C.length := by have := posC_le C p; omega
  have a1 := h2 _ (List.getElem?_eq_getElem hl)
  have a2 := posC_lt C p k _ h (List.getElem?_eq_getElem hl)
  omega
def hasC (C : List (List PStep)) (p : List PStep) : Bool := match C[posC C p]? with
 | some c => decide (cmpP c p = 0)
 | none => false
theorem hasC_some {C : List (List PStep)} {p c : List PStep} (h : C[posC C p]? = some c) : hasC C p = decide (cmpP c p = 0) := by unfold hasC; rw [h]
theorem hasC_none {C : List (List PStep)} {p : List PStep} (h : C[posC C p]? = none) : hasC C p = false := by unfold hasC; rw [h]
def putC (C : List (List PStep)) (p : List PStep) : List (List PStep) := if hasC C p = true then C else C.take (posC C p) ++ p :: C.drop (posC C p)
end Go.Proofs.YteimbjamnfkapaaGreatDoor
/- Plain mathematics of columns: sorted, each once; all paths of all leaves. -/
namespace Go.Proofs.YteimbjamnfkapaaGreatDoor
theorem cz_val (a b : Int) : cmpZ a b = -1 ∨ cmpZ a b = 0 ∨ cmpZ a b = 1 := by unfold cmpZ; split <;> (try split) <;> simp
theorem cs_val (a b : PStep) : cstep a b = -1 ∨ cstep a b = 0 ∨ cstep a b = 1 := by
 unfold cstep
 split
 ·exact cz_val _ _
 ·split
  ·exact .inl rfl
  ·split
   ·exact .inr (.inr rfl)
   ·exact cb_val _ _
theorem cpV_val : ∀ a b : List PStep, cmpP a b = -1 ∨ cmpP a b = 0 ∨ cmpP a b = 1
 | [], [] => .inr (.inl rfl)
 | [], _ :: _ => .inl rfl
 | _ :: _, [] => .inr (.inr rfl)
 | a :: p, b :: q => by
  have h := cs_val a b
  have ih := cpV_val p q
  simp only [cmpP]
  split
  ·exact ih
  ·exact h
def FrmP (p : List PStep) : Prop := ∀ s ∈ p, Frm s
def Srt (C : List (List PStep)) : Prop := C.Pairwise (fun a b => cmpP a b = -1)
theorem srt_mono {C : List (List PStep)} {p : List PStep} (h : Srt C) (hC : ∀ c ∈ C, FrmP c) (hp : FrmP p) : Mono C p := by
 intro i j a b hij ha hb hlt
 rcases Nat.lt_or_ge i j with h1 | h1
 ·obtain ⟨hj, rfl⟩ := List.getElem?_eq_some_iff.1 hb
  obtain ⟨hi, rfl⟩ := List.getElem?_eq_some_iff.1 ha
  have hab := (List.pairwise_iff_getElem.1 h) i j hi hj h1
  have hbp : cmpP C[j] p = -1 := by rcases cpV_val C[j] p with h | h | h <;> omega
  have := cp_trans (hC _ (List.getElem_mem hi)) (hC _ (List.getElem_mem hj)) hp hab hbp
  omega
 ·have : i = j := by omega
  subst this
  rw [ha] at hb; cases hb; exact hlt
theorem put_len (C : List (List PStep)) (p : List PStep) : C.length ≤ (putC C p).length ∧ (putC C p).length ≤ C.length + 1 := by
 have := posC_le C p
 unfold putC
 split
 ·omega
 ·simp; omega
theorem hasC_mem {C : List (List PStep)} {p : List PStep} (hC : ∀ c ∈ C, FrmP c) (hp : FrmP p) (h : hasC C p = true) : p ∈ C := by
 unfold hasC at h
 split at h
 ·rename_i c hc
  have hm := List.mem_of_getElem? hc
  rw [decide_eq_true_iff] at h
  rw [← cp_eq (hC c hm) hp h]; exact hm
 ·cases h
theorem put_mem {C : List (List PStep)} {p q : List PStep} (hC : ∀ c ∈ C, FrmP c) (hp : FrmP p) : q ∈ putC C p ↔ q ∈ C ∨ q = p := by
 unfold putC
 split
 ·rename_i h
  have := hasC_mem hC hp h
  constructor
  ·exact .inl
  ·rintro (h | rfl)
   ·exact h
   ·exact this
 ·rw [List.mem_append, List.mem_cons]
  have : q ∈ C ↔ q ∈ C.take (posC C p) ∨ q ∈ C.drop (posC C p) := by rw [← List.mem_append, List.take_append_drop]
  rw [this]
  constructor
  ·rintro (h | h | h) <;> simp [h]
  ·rintro ((h | h) | h) <;> simp [h]
theorem put_frm {C : List (List PStep)} {p : List PStep} (hC : ∀ c ∈ C, FrmP c) (hp : FrmP p) : ∀ c ∈ putC C p, FrmP c := fun c hc => by
 rcases (put_mem hC hp).1 hc with h | rfl
 ·exact hC c h
 ·exact hp
theorem put_srt {C : List (List PStep)} {p : List PStep} (h : Srt C) (hC : ∀ c ∈ C, FrmP c) (hp : FrmP p) : Srt (putC C p) := by
 unfold putC
 split
 ·exact h
 ·rename_i hn
  unfold Srt at *
  have hlo : ∀ a ∈ C.take (posC C p), cmpP a p = -1 := fun a ha => by
   obtain ⟨i, hi⟩ := List.getElem?_of_mem ha
   rw [List.getElem?_take] at hi
   split at hi
   ·rename_i hlt
    have := posC_lt C p i a hlt hi
    rcases cpV_val a p with h | h | h <;> omega
   ·cases hi
  have hhi : ∀ b ∈ C.drop (posC C p), cmpP p b = -1 := fun b hb => by
   obtain ⟨k, hk⟩ : ∃ k, posC C p = k := ⟨_, rfl⟩
   obtain ⟨c, hc⟩ : ∃ c, C[k]? = some c := by
    cases hq : C[k]? with
    | some c => exact ⟨c, rfl⟩
    | none =>
     rw [List.getElem?_eq_none_iff] at hq
     rw [hk, List.drop_eq_nil_of_le hq] at hb; cases hb
   have h1 := posC_ge C p c (by rw [hk]; exact hc)
   have h2 : ¬ cmpP c p = 0 := fun e => hn (by rw [hasC_some (by rw [hk]; exact hc), e]; rfl)
   have h3 : cmpP c p = 1 := by rcases cpV_val c p with h | h | h <;> omega
   have h4 : cmpP p c = -1 := by rw [cp_anti, h3]
   obtain ⟨i, hi⟩ := List.getElem?_of_mem hb
   rw [List.getElem?_drop, hk] at hi
   by_cases e : i = 0
   ·subst e; rw [Nat.add_zero, hc] at hi; cases hi; exact h4
   ·obtain ⟨hj, rfl⟩ := List.getElem?_eq_some_iff.1 hi
    obtain ⟨hk', rfl⟩ := List.getElem?_eq_some_iff.1 hc
    have h5 := (List.pairwise_iff_getElem.1 h) k (k + i) hk' hj (by omega)
    exact cp_trans hp (hC _ (List.getElem_mem hk')) (hC _ (List.getElem_mem hj)) h4 h5
  rw [List.pairwise_append]
  refine ⟨h.sublist (List.take_sublist _ _), List.pairwise_cons.2 ⟨hhi, h.sublist (List.drop_sublist _ _)⟩, fun a ha b hb => ?_⟩
  rcases List.mem_cons.1 hb with rfl | hb
  ·exact hlo a ha
  ·exact cp_trans (hC a (List.mem_of_mem_take ha)) hp (hC b (List.mem_of_mem_drop hb)) (hlo a ha) (hhi b hb)
def colF (l : List (List PStep × VT)) (C : List (List PStep)) : List (List PStep) := l.foldl (fun C e => putC C e.1) C
def colA (X : List (List (List PStep × VT))) : List (List PStep) := colF X.flatten []
theorem colF_app (l m : List (List PStep × VT)) (C : List (List PStep)) : colF (l ++ m) C = colF m (colF l C) := List.foldl_append ..
theorem colF_one (e : List PStep × VT) (C : List (List PStep)) : colF [e] C = putC C e.1 := rfl
theorem colF_len : ∀ (l : List (List PStep × VT)) (C : List (List PStep)), C.length ≤ (colF l C).length
 | [], _ => Nat.le_refl _
 | e :: l, C => by
  have h1 := colF_len l (putC C e.1)
  have h2 := (put_len C e.1).1
  show C.length ≤ (colF l (putC C e.1)).length
  omega
structure Good3 (C : List (List PStep)) : Prop where
 s : Srt C
 f : ∀ c ∈ C, FrmP c
theorem Good3.put {C : List (List PStep)} (h : Good3 C) {p : List PStep} (hp : FrmP p) : Good3 (putC C p) := ⟨put_srt h.s h.f hp, put_frm h.f hp⟩
theorem Good3.nil : Good3 [] := ⟨List.Pairwise.nil, fun c h => by cases h⟩
theorem colF_good : ∀ (l : List (List PStep × VT)) (C : List (List PStep)), Good3 C → (∀ e ∈ l, FrmP e.1) → Good3 (colF l C)
 | [], _, h, _ => h
 | e :: l, C, h, hl => colF_good l (putC C e.1) (h.put (hl e (by simp))) (fun x hx => hl x (by simp [hx]))
theorem colF_mem : ∀ (l : List (List PStep × VT)) (C : List (List PStep)) (q : List PStep), Good3 C → (∀ e ∈ l, FrmP e.1) → (q ∈ colF l C ↔ q ∈ C ∨ ∃ e ∈ l, q = e.1)
 | [], C, q, _, _ => by simp [colF]
 | e :: l, C, q, h, hl => by
  show q ∈ colF l (putC C e.1) ↔ _
  rw [colF_mem l (putC C e.1) q (h.put (hl e (by simp))) (fun x hx => hl x (by simp [hx])), put_mem h.f (hl e (by simp))]
  simp only [List.mem_cons]
  constructor
  ·rintro ((h | h) | ⟨x, h1, h2⟩)
   ·exact .inl h
   ·exact .inr ⟨e, .inl rfl, h⟩
   ·exact .inr ⟨x, .inr h1, h2⟩
  ·rintro (h | ⟨x, rfl | h1, h2⟩)
   ·exact .inl (.inl h)
   ·exact .inl (.inr h2)
   ·exact .inr ⟨x, h1, h2⟩
theorem take_flat {α : Type} (X : List (List α)) (i : Nat) (l : List α) (h : X[i]? = some l) : (X.take (i + 1)).flatten = (X.take i).flatten ++ l := by
 rw [List.take_add_one, h, List.flatten_append]; simp
end Go.Proofs.YteimbjamnfkapaaGreatDoor
