import Derived.Test.YteimbjamnfkapaaGreatDoorGMathFh
import Derived.Test.YteimbjamnfkapaaGreatDoorGRefMake
import Derived.Test.YteimbjamnfkapaaGreatDoorGUnA
import Derived.Test.YteimbjamnfkapaaGreatDoorGUnC
/- Plain mathematics of leaves that make a tree: the tree is one. -/
namespace Go.Proofs.YteimbjamnfkapaaGreatDoor
open Go.RowKit
def Cn (s : PStep) : Prop := (s.place = true ∧ s.key = ⟨#[]⟩ ∧ 0 ≤ s.at_) ∨ (s.place = false ∧ s.at_ = 0)
theorem Cn.of {s : PStep} (h : Frm s) : Cn s := by
 rcases h with ⟨a, b, c, -⟩ | ⟨a, b⟩
 ·exact .inl ⟨a, b, c⟩
 ·exact .inr ⟨a, b⟩
theorem Cn.cases {s : PStep} (h : Cn s) : (∃ i : Nat, s = lpl i) ∨ ∃ c, s = lky c := by
 obtain ⟨k, a, p⟩ := s
 rcases h with ⟨h1, h2, h3⟩ | ⟨h1, h2⟩
 ·simp only at h1 h2 h3
  subst h1 h2
  exact .inl ⟨a.toNat, by unfold lpl; rw [Int.toNat_of_nonneg h3]⟩
 ·simp only at h1 h2
  subst h1 h2
  exact .inr ⟨k, rfl⟩
theorem cn_lpl (i : Nat) : Cn (lpl i) := .inl ⟨rfl, rfl, by unfold lpl; simp⟩
theorem cn_lky (c : ByteArray) : Cn (lky c) := .inr ⟨rfl, rfl⟩
def LeafAt (T : VT) (r : List PStep) (t : VT) : Prop := getP T r = some t ∧ t.ls = [] ∧ t.vs = []
inductive Nrm : VT → Prop
 | leaf {T : VT} (h1 : T.ls = []) (h2 : T.vs = []) : Nrm T
 | list {L : List VT} (h : L ≠ []) (hs : ∀ t ∈ L, Nrm t) : Nrm (.mk 5 0 ⟨#[]⟩ L [] [])
 | map {K : List ByteArray} {V : List VT} (h : V ≠ []) (hl : K.length = V.length) (hk : Strict K) (hs : ∀ t ∈ V, Nrm t) : Nrm (.mk 6 0 ⟨#[]⟩ [] K V)
theorem getP_cons (T : VT) (s : PStep) (p : List PStep) : getP T (s :: p) = ((idxT T s).bind (kidT T s)).bind fun t => getP t p := by
 simp only [getP]
 cases (idxT T s).bind (kidT T s) <;> rfl
theorem get_lpl (n : Int) (s : ByteArray) (L : List VT) (K : List ByteArray) (V : List VT) (i : Nat) (r : List PStep) : getP (.mk 5 n s L K V) (lpl i :: r) = (L[i]?).bind fun t => getP t r := by
 rw [getP_cons]
 by_cases h : i < L.length
 ·have e1 : idxT (.mk 5 n s L K V) (lpl i) = some i := by
   unfold idxT
   rw [if_pos (show (lpl i).place = true from rfl), if_pos ⟨rfl, Int.natCast_nonneg i, Int.ofNat_lt.2 h⟩]
   rfl
  have e2 : kidT (.mk 5 n s L K V) (lpl i) i = L[i]? := by unfold kidT; rw [if_pos (show (lpl i).place = true from rfl)]; rfl
  rw [e1, Option.bind_some, e2]
 ·have e1 : idxT (.mk 5 n s L K V) (lpl i) = none := by
   unfold idxT
   rw [if_pos (show (lpl i).place = true from rfl), if_neg (fun hh => h (Int.ofNat_lt.1 hh.2.2))]
  rw [e1, List.getElem?_eq_none (by omega)]
  rfl
theorem get_lpl_no {k : Int} (hk : ¬ k = 5) (n : Int) (s : ByteArray) (L : List VT) (K : List ByteArray) (V : List VT) (i : Nat) (r : List PStep) : getP (.mk k n s L K V) (lpl i :: r) = none := by
 have e1 : idxT (.mk k n s L K V) (lpl i) = none := by
  unfold idxT
  rw [if_pos (show (lpl i).place = true from rfl), if_neg (fun hh => hk hh.1)]
 rw [getP_cons, e1]; rfl
theorem lky_pl (c : ByteArray) : ¬ (lky c).place = true := fun h => Bool.noConfusion (show false = true from h)
theorem get_lky_no {k : Int} (hk : ¬ k = 6) (n : Int) (s : ByteArray) (L : List VT) (K : List ByteArray) (V : List VT) (c : ByteArray) (r : List PStep) : getP (.mk k n s L K V) (lky c :: r) = none := by
 have e1 : idxT (.mk k n s L K V) (lky c) = none := by
  unfold idxT
  rw [if_neg (lky_pl c), if_neg (show ¬ (VT.mk k n s L K V).kd = 6 from hk)]
 rw [getP_cons, e1]; rfl
theorem strict_ne {K : List ByteArray} (h : Strict K) {i j : Nat} {a : ByteArray} (hi : K[i]? = some a) (hj : K[j]? = some a) : i = j := by
 rcases Nat.lt_trichotomy i j with h1 | h1 | h1
 ·have := h i j a a h1 hi hj; rw [ltB_irr] at this; cases this
 ·exact h1
 ·have := h j i a a h1 hj hi; rw [ltB_irr] at this; cases this
theorem idx_lky (n : Int) (s : ByteArray) (L : List VT) (K : List ByteArray) (V : List VT) (c : ByteArray) : idxT (.mk 6 n s L K V) (lky c) = firstI (keyIs c) K := by
 unfold idxT
 rw [if_neg (lky_pl c), if_pos (show (VT.mk 6 n s L K V).kd = 6 from rfl)]
 rfl
theorem get_lky (n : Int) (s : ByteArray) (L : List VT) {K : List ByteArray} {V : List VT} (hK : Strict K) {j : Nat} {c : ByteArray} {t : VT} (hj : K[j]? = some c) (ht : V[j]? = some t) (r : List PStep) : getP (.mk 6 n s L K V) (lky c :: r) = getP t r := by
 have e1 : firstI (keyIs c) K = some j := firstI_at (j := j) (c := c) hj (by unfold keyIs; simp) (fun i d hi hd => by
  cases hh : keyIs c d with
  | false => rfl
  | true =>
   unfold keyIs at hh
   have e2 : d = c := ba_eq (by simpa using hh)
   subst e2
   have := strict_ne hK hd hj
   omega)
 have e2 : kidT (.mk 6 n s L K V) (lky c) j = some t := by unfold kidT; rw [if_neg (lky_pl c)]; exact ht
 rw [getP_cons, idx_lky, e1, Option.bind_some, e2]
 rfl
theorem get_lky_out (n : Int) (s : ByteArray) (L : List VT) {K : List ByteArray} {V : List VT} {c : ByteArray} (hc : c ∉ K) (r : List PStep) : getP (.mk 6 n s L K V) (lky c :: r) = none := by
 have e1 : firstI (keyIs c) K = none := firstI_no (fun i d hd => by
  cases hh : keyIs c d with
  | false => rfl
  | true =>
   unfold keyIs at hh
   have e2 : d = c := ba_eq (by simpa using hh)
   subst e2
   exact absurd (List.mem_of_getElem? hd) hc)
 rw [getP_cons, idx_lky, e1]
 rfl
theorem nrm_leaf {T : VT} (h : Nrm T) : ∃ r t, (∀ s ∈ r, Cn s) ∧ LeafAt T r t := by
 induction h with
 | @leaf T h1 h2 => exact ⟨[], T, fun s hs => by simp at hs, rfl, h1, h2⟩
 | @list L h hs ih =>
  obtain ⟨a, l, rfl⟩ := List.exists_cons_of_ne_nil h
  obtain ⟨r, t, h1, h2, h3⟩ := ih a (by simp)
  refine ⟨lpl 0 :: r, t, fun s hs => ?_, ?_, h3⟩
  ·rcases List.mem_cons.1 hs with hs | hs
   ·rw [hs]; exact cn_lpl 0
   ·exact h1 s hs
  ·rw [get_lpl]; exact h2
 | @map K V h hl hk hs ih =>
  obtain ⟨a, l, rfl⟩ := List.exists_cons_of_ne_nil h
  obtain ⟨r, t, h1, h2, h3⟩ := ih a (by simp)
  cases K with
  | nil => simp at hl
  | cons c K =>
   refine ⟨lky c :: r, t, fun s hs => ?_, ?_, h3⟩
   ·rcases List.mem_cons.1 hs with hs | hs
    ·rw [hs]; exact cn_lky c
    ·exact h1 s hs
   ·rw [get_lky 0 _ _ hk (j := 0) rfl rfl]; exact h2
theorem strict_tail {a : ByteArray} {K : List ByteArray} (h : Strict (a :: K)) : Strict K := fun i j x y hij hx hy => h (i + 1) (j + 1) x y (by omega) (by simpa using hx) (by simpa using hy)
theorem strict_uniq : ∀ {A B : List ByteArray}, Strict A → Strict B → (∀ q, q ∈ A ↔ q ∈ B) → A = B
 | [], [], _, _, _ => rfl
 | [], b :: B, _, _, h => absurd ((h b).2 (by simp)) (by simp)
 | a :: A, [], _, _, h => absurd ((h a).1 (by simp)) (by simp)
 | a :: A, b :: B, hA, hB, h => by
  have h1 := strict_head hA
  have h2 := strict_head hB
  have hab : a = b := by
   rcases List.mem_cons.1 ((h a).1 (by simp)) with e | e
   ·exact e
   ·rcases List.mem_cons.1 ((h b).2 (by simp)) with e' | e'
    ·exact e'.symm
    ·have := ltB_trans _ _ _ (h1 b e') (h2 a e)
     rw [ltB_irr] at this; cases this
  subst hab
  rw [strict_uniq (strict_tail hA) (strict_tail hB) (fun q => ⟨fun hq => by
   rcases List.mem_cons.1 ((h q).1 (by simp [hq])) with e | e
   ·subst e; have := h1 q hq; rw [ltB_irr] at this; cases this
   ·exact e, fun hq => by
   rcases List.mem_cons.1 ((h q).2 (by simp [hq])) with e | e
   ·subst e; have := h2 q hq; rw [ltB_irr] at this; cases this
   ·exact e⟩)]
def AllCn (r : List PStep) : Prop := ∀ s ∈ r, Cn s
theorem AllCn.cons {s : PStep} {r : List PStep} (h : Cn s) (hr : AllCn r) : AllCn (s :: r) := fun x hx => by
 rcases List.mem_cons.1 hx with hx | hx
 ·rw [hx]; exact h
 ·exact hr x hx
theorem nrm_one {T : VT} (h : Nrm T) : ∀ {T' : VT}, Nrm T' → (∀ r t, AllCn r → (LeafAt T r t ↔ LeafAt T' r t)) → T = T' := by
 induction h with
 | @leaf T h1 h2 =>
  intro T' h' hh
  have := (hh [] T (fun s hs => by simp at hs)).1 ⟨rfl, h1, h2⟩
  have e := this.1
  simp only [getP, Option.some.injEq] at e
  exact e.symm
 | @list L hL hs ih =>
  intro T' h' hh
  cases h' with
  | leaf h1 h2 =>
   have := (hh [] T' (fun s hs => by simp at hs)).2 ⟨rfl, h1, h2⟩
   have e := this.1
   simp only [getP, Option.some.injEq] at e
   subst e
   exact absurd h1 hL
  | @map K V hV hl hk hs' =>
   obtain ⟨a, l, rfl⟩ := List.exists_cons_of_ne_nil hV
   cases K with
   | nil => simp at hl
   | cons c K =>
    obtain ⟨r, t, h3, h4, h5⟩ := nrm_leaf (hs' a (by simp))
    have := (hh (lky c :: r) t (AllCn.cons (cn_lky c) h3)).2 ⟨by rw [get_lky 0 _ _ hk (j := 0) rfl rfl]; exact h4, h5⟩
    have e := this.1
    rw [get_lky_no (by decide)] at e
    cases e
  | @list L' hL' hs' =>
   have key : ∀ (i : Nat) (t t' : VT), L[i]? = some t → L'[i]? = some t' → t = t' := fun i t t' ht ht' => ih t (List.mem_of_getElem? ht) (hs' t' (List.mem_of_getElem? ht')) (fun r u hr => by
    have := hh (lpl i :: r) u (AllCn.cons (cn_lpl i) hr)
    unfold LeafAt at this ⊢
    rw [get_lpl, get_lpl, ht, ht'] at this
    exact this)
   have e : L = L' := by
    apply List.ext_getElem?
    intro i
    cases h1 : L[i]? with
    | some t =>
     cases h2 : L'[i]? with
     | some t' => rw [key i t t' h1 h2]
     | none =>
      obtain ⟨r, u, h3, h4, h5⟩ := nrm_leaf (hs t (List.mem_of_getElem? h1))
      have := (hh (lpl i :: r) u (AllCn.cons (cn_lpl i) h3)).1 ⟨by rw [get_lpl, h1]; exact h4, h5⟩
      have e := this.1
      rw [get_lpl, h2] at e; cases e
    | none =>
     cases h2 : L'[i]? with
     | none => rfl
     | some t' =>
      obtain ⟨r, u, h3, h4, h5⟩ := nrm_leaf (hs' t' (List.mem_of_getElem? h2))
      have := (hh (lpl i :: r) u (AllCn.cons (cn_lpl i) h3)).2 ⟨by rw [get_lpl, h2]; exact h4, h5⟩
      have e := this.1
      rw [get_lpl, h1] at e; cases e
   rw [e]
 | @map K V hV hl hk hs ih =>
  intro T' h' hh
  cases h' with
  | leaf h1 h2 =>
   have := (hh [] T' (fun s hs => by simp at hs)).2 ⟨rfl, h1, h2⟩
   have e := this.1
   simp only [getP, Option.some.injEq] at e
   subst e
   exact absurd h2 hV
  | @list L' hL' hs' =>
   obtain ⟨a, l, rfl⟩ := List.exists_cons_of_ne_nil hL'
   obtain ⟨r, t, h3, h4, h5⟩ := nrm_leaf (hs' a (by simp))
   have := (hh (lpl 0 :: r) t (AllCn.cons (cn_lpl 0) h3)).2 ⟨by rw [get_lpl]; exact h4, h5⟩
   have e := this.1
   rw [get_lpl_no (by decide)] at e
   cases e
  | @map K' V' hV' hl' hk' hs' =>
   have some_of : ∀ {K : List ByteArray} {V : List VT}, K.length = V.length → ∀ {j : Nat} {c : ByteArray}, K[j]? = some c → ∃ t, V[j]? = some t := fun hl j c hj => ⟨_, List.getElem?_eq_getElem (by have := lt_of_some hj; omega)⟩
   have e : K = K' := strict_uniq hk hk' (fun q => ⟨fun hq => by
    obtain ⟨j, hj⟩ := List.getElem?_of_mem hq
    obtain ⟨t, ht⟩ := some_of hl hj
    obtain ⟨r, u, h3, h4, h5⟩ := nrm_leaf (hs t (List.mem_of_getElem? ht))
    have := (hh (lky q :: r) u (AllCn.cons (cn_lky q) h3)).1 ⟨by rw [get_lky 0 _ _ hk hj ht]; exact h4, h5⟩
    by_cases hm : q ∈ K'
    ·exact hm
    ·have e := this.1
     rw [get_lky_out 0 _ _ hm] at e; exact absurd e (by simp), fun hq => by
    obtain ⟨j, hj⟩ := List.getElem?_of_mem hq
    obtain ⟨t, ht⟩ := some_of hl' hj
    obtain ⟨r, u, h3, h4, h5⟩ := nrm_leaf (hs' t (List.mem_of_getElem? ht))
    have := (hh (lky q :: r) u (AllCn.cons (cn_lky q) h3)).2 ⟨by rw [get_lky 0 _ _ hk' hj ht]; exact h4, h5⟩
    by_cases hm : q ∈ K
    ·exact hm
    ·have e := this.1
     rw [get_lky_out 0 _ _ hm] at e; cases e⟩)
   subst e
   have e2 : V = V' := by
    apply List.ext_getElem?
    intro i
    rcases Nat.lt_or_ge i K.length with hi | hi
    ·obtain ⟨c, hc⟩ : ∃ c, K[i]? = some c := ⟨_, List.getElem?_eq_getElem hi⟩
     obtain ⟨t, ht⟩ := some_of hl hc
     obtain ⟨t', ht'⟩ := some_of hl' hc
     rw [ht, ht', ih t (List.mem_of_getElem? ht) (hs' t' (List.mem_of_getElem? ht')) (fun r u hr => by
      have := hh (lky c :: r) u (AllCn.cons (cn_lky c) hr)
      unfold LeafAt at this ⊢
      rw [get_lky 0 _ _ hk hc ht, get_lky 0 _ _ hk' hc ht'] at this
      exact this)]
    ·rw [List.getElem?_eq_none (by omega), List.getElem?_eq_none (by omega)]
   rw [e2]
def TreeOf (l : List (List PStep × VT)) (T : VT) : Prop := Nrm T ∧ ∀ r t, AllCn r → (LeafAt T r t ↔ (r, t) ∈ l)
theorem TreeOf.one {l : List (List PStep × VT)} {T T' : VT} (h : TreeOf l T) (h' : TreeOf l T') : T = T' := nrm_one h.1 h'.1 (fun r t hr => (h.2 r t hr).trans (h'.2 r t hr).symm)
end Go.Proofs.YteimbjamnfkapaaGreatDoor
/- Plain mathematics of leaves that make a tree: what clashes; lists without a gap; what Build says. -/
namespace Go.Proofs.YteimbjamnfkapaaGreatDoor
open Go.RowKit
def kdP (p : List PStep) (j : Nat) : Int := match p[j]? with
 | none => 1
 | some s => if s.place = true then 2 else 3
def clP : List PStep → List PStep → Bool
 | a :: p, b :: q => if a.place = b.place then (if a = b then clP p q else false) else true
 | _, _ => true
theorem kd_val (p : List PStep) (j : Nat) : kdP p j = 1 ∨ kdP p j = 2 ∨ kdP p j = 3 := by
 unfold kdP
 split
 ·exact .inl rfl
 ·split
  ·exact .inr (.inl rfl)
  ·exact .inr (.inr rfl)
theorem kd_one {p : List PStep} {j : Nat} (h : kdP p j = 1) : p.length ≤ j := by
 unfold kdP at h
 split at h
 ·rename_i h1; exact List.getElem?_eq_none_iff.1 h1
 ·split at h <;> cases h
theorem kd_cons (a : PStep) (p : List PStep) (j : Nat) : kdP (a :: p) (j + 1) = kdP p j := by unfold kdP; rw [List.getElem?_cons_succ]
theorem clP_iff : ∀ (p q : List PStep), clP p q = true ↔ ∃ j, j ≤ p.length ∧ j ≤ q.length ∧ p.take j = q.take j ∧ (kdP p j ≠ kdP q j ∨ kdP p j = 1)
 | [], q => by
  refine ⟨fun _ => ⟨0, Nat.le_refl _, Nat.zero_le _, rfl, .inr rfl⟩, fun _ => by cases q <;> rfl⟩
 | a :: p, [] => by
  refine ⟨fun _ => ⟨0, Nat.zero_le _, Nat.le_refl _, rfl, .inl ?_⟩, fun _ => rfl⟩
  show (if a.place = true then (2 : Int) else 3) ≠ 1
  split <;> decide
 | a :: p, b :: q => by
  unfold clP
  by_cases h1 : a.place = b.place
  ·rw [if_pos h1]
   by_cases h2 : a = b
   ·rw [if_pos h2, clP_iff p q]
    subst h2
    constructor
    ·rintro ⟨j, h3, h4, h5, h6⟩
     exact ⟨j + 1, by simp; omega, by simp; omega, by simp [h5], by rw [kd_cons, kd_cons]; exact h6⟩
    ·rintro ⟨j, h3, h4, h5, h6⟩
     cases j with
     | zero =>
      exfalso
      have e : kdP (a :: p) 0 = kdP (a :: q) 0 := rfl
      rcases h6 with h6 | h6
      ·exact h6 e
      ·have := kd_one h6; simp at this
     | succ j =>
      rw [kd_cons, kd_cons] at h6
      simp at h3 h4 h5
      exact ⟨j, h3, h4, h5, h6⟩
   ·rw [if_neg h2]
    constructor
    ·intro h; cases h
    ·rintro ⟨j, h3, h4, h5, h6⟩
     cases j with
     | zero =>
      exfalso
      have e : kdP (a :: p) 0 = kdP (b :: q) 0 := by unfold kdP; simp [h1]
      rcases h6 with h6 | h6
      ·exact h6 e
      ·have := kd_one h6; simp at this
     | succ j => simp at h5; exact absurd h5.1 h2
  ·rw [if_neg h1]
   refine ⟨fun _ => ⟨0, Nat.zero_le _, Nat.zero_le _, rfl, .inl ?_⟩, fun _ => rfl⟩
   unfold kdP
   simp only [List.getElem?_cons_zero]
   cases ha : a.place <;> cases hb : b.place <;> simp [ha, hb] at h1 ⊢
def Full (A : List Nat) : Prop := ∀ a ∈ A, ∀ k, k < a → k ∈ A
theorem full_lt {A : List Nat} (h : Full A) : ∀ a ∈ A, a < A.length := fun a ha => by
 have h1 : (List.range (a + 1)) ⊆ A := fun k hk => by
  rw [List.mem_range] at hk
  rcases Nat.lt_or_ge k a with h2 | h2
  ·exact h a ha k h2
  ·have : k = a := by omega
   subst this; exact ha
 have := List.Nodup.length_le_of_subset List.nodup_range h1
 rw [List.length_range] at this
 omega
theorem lt_full {A : List Nat} (hn : A.Nodup) (h : ∀ a ∈ A, a < A.length) : ∀ k, k < A.length → k ∈ A := fun k hk => by
 by_cases hm : k ∈ A
 ·exact hm
 ·exfalso
  have h1 : (k :: A) ⊆ List.range A.length := fun x hx => by
   rw [List.mem_range]
   rcases List.mem_cons.1 hx with hx | hx
   ·rw [hx]; exact hk
   ·exact h x hx
  have := List.Nodup.length_le_of_subset (List.nodup_cons.2 ⟨hm, hn⟩) h1
  rw [List.length_range, List.length_cons] at this
  omega
theorem full_iff {A : List Nat} (hn : A.Nodup) : Full A ↔ ∀ a ∈ A, a < A.length := ⟨full_lt, fun h a ha k hk => lt_full hn h k (by have := h a ha; omega)⟩
abbrev Lvs := List (List PStep × VT)
def PlaceAt (l : Lvs) (q : List PStep) (a : Int) : Prop := ∃ e ∈ l, ∃ s, q ++ [s] <+: e.1 ∧ s.at_ = a
def WholeAt (l : Lvs) (q : List PStep) : Prop := ∀ a, PlaceAt l q a → ∀ k : Int, 0 ≤ k → k < a → PlaceAt l q k
def GapAt (l : Lvs) (i : Nat) : Prop := ∃ e, l[i]? = some e ∧ ∃ q s, q ++ [s] <+: e.1 ∧ s.place = true ∧ ¬ WholeAt l q
def partsB (T : VT) : Bool := !(T.ls.isEmpty && T.vs.isEmpty)
def badE (l : Lvs) (i : Nat) : Int := match l[i]? with
 | none => 0
 | some e => if partsB e.2 = true then 1 else if ((l.take i).any fun x => clP x.1 e.1) = true then 8 else 0
inductive BP (l : Lvs) : Int → Nat → VT → Prop
 | none (h : l = []) : BP l 1 0 zeroT
 | bad (i : Nat) (h1 : ∀ k, k < i → badE l k = 0) (h2 : badE l i ≠ 0) : BP l (badE l i) i zeroT
 | gap (i : Nat) (h0 : l ≠ []) (h1 : ∀ k, badE l k = 0) (h2 : ∀ k, k < i → ¬ GapAt l k) (h3 : GapAt l i) : BP l 8 i zeroT
 | great (h0 : l ≠ []) (h1 : ∀ k, badE l k = 0) (h2 : ∀ k, ¬ GapAt l k) (h3 : ¬ ∃ T, TreeOf l T ∧ mayB 0 1 T = true) : BP l 2 0 zeroT
 | ok (T : VT) (h0 : l ≠ []) (h1 : ∀ k, badE l k = 0) (h2 : ∀ k, ¬ GapAt l k) (h3 : TreeOf l T) (h4 : mayB 0 1 T = true) : BP l 0 0 T
theorem bad_nil {l : Lvs} (h : l = []) (i : Nat) : badE l i = 0 := by subst h; rfl
theorem BP.one {l : Lvs} {e e' : Int} {i i' : Nat} {T T' : VT} (h : BP l e i T) (h' : BP l e' i' T') : e = e' ∧ i = i' ∧ T = T' := by
 cases h with
 | none h =>
  cases h' with
  | none _ => exact ⟨rfl, rfl, rfl⟩
  | bad i h1 h2 => exact absurd (bad_nil h _) h2
  | gap i h0 _ _ _ => exact absurd h h0
  | great h0 _ _ _ => exact absurd h h0
  | ok T h0 _ _ _ _ => exact absurd h h0
 | bad i h1 h2 =>
  cases h' with
  | none h => exact absurd (bad_nil h _) h2
  | bad i' h1' h2' =>
   have : i = i' := by
    rcases Nat.lt_trichotomy i i' with h | h | h
    ·exact absurd (h1' i h) h2
    ·exact h
    ·exact absurd (h1 i' h) h2'
   subst this; exact ⟨rfl, rfl, rfl⟩
  | gap i h0 h1 _ _ => exact absurd (h1 _) h2
  | great h0 h1 _ _ => exact absurd (h1 _) h2
  | ok T h0 h1 _ _ _ => exact absurd (h1 _) h2
 | gap i h0 h1 h2 h3 =>
  cases h' with
  | none h => exact absurd h h0
  | bad i' _ h2' => exact absurd (h1 _) h2'
  | gap i' _ _ h2' h3' =>
   have : i = i' := by
    rcases Nat.lt_trichotomy i i' with h | h | h
    ·exact absurd h3 (h2' i h)
    ·exact h
    ·exact absurd h3' (h2 i' h)
   subst this; exact ⟨rfl, rfl, rfl⟩
  | great _ _ h2' _ => exact absurd h3 (h2' _)
  | ok T _ _ h2' _ _ => exact absurd h3 (h2' _)
 | great h0 h1 h2 h3 =>
  cases h' with
  | none h => exact absurd h h0
  | bad i' _ h2' => exact absurd (h1 _) h2'
  | gap i' _ _ _ h3' => exact absurd h3' (h2 _)
  | great _ _ _ _ => exact ⟨rfl, rfl, rfl⟩
  | ok T _ _ _ h3' h4' => exact absurd ⟨_, h3', h4'⟩ h3
 | ok _ h0 h1 h2 h3 h4 =>
  cases h' with
  | none h => exact absurd h h0
  | bad i' _ h2' => exact absurd (h1 _) h2'
  | gap i' _ _ _ h3' => exact absurd h3' (h2 _)
  | great _ _ _ h3' => exact absurd ⟨_, h3, h4⟩ h3'
  | ok T' _ _ _ h3' _ => exact ⟨rfl, rfl, h3.one h3'⟩
end Go.Proofs.YteimbjamnfkapaaGreatDoor
/- Plain mathematics of the tree that grows: what it holds of the paths that were laid. -/
namespace Go.Proofs.YteimbjamnfkapaaGreatDoor
open Go.RowKit
abbrev Evd := List (List PStep × Nat)
def Rch (x : List PStep × Nat) (q : List PStep) : Prop := ∃ j, j ≤ x.2 ∧ j ≤ x.1.length ∧ q = x.1.take j
def NodeOf (Ev : Evd) (q : List PStep) : Prop := q = [] ∨ ∃ x ∈ Ev, Rch x q
def KindOf (Ev : Evd) (q : List PStep) (k : Int) : Prop := ∃ x ∈ Ev, ∃ j, j < x.2 ∧ j ≤ x.1.length ∧ q = x.1.take j ∧ k = kdP x.1 j
structure Trw (Ev : Evd) (X : List (List PStep)) (N : List Nd) (M : List ((Nat × PStep) × Nat)) : Prop where
 len : X.length = N.length
 root : X[0]? = some []
 nd : X.Nodup
 mem : ∀ q, q ∈ X ↔ NodeOf Ev q
 st : ∀ (a : Nat) (n : Nd) (q : List PStep) (s : PStep), N[a]? = some n → X[a]? = some (q ++ [s]) → n.st = s
 ways : ∀ (a : Nat) (q : List PStep) (s : PStep) (b : Nat), X[a]? = some q → (mpF M (a, s) = some b ↔ X[b]? = some (q ++ [s]))
 ps : ∀ (a : Nat) (n : Nd) (q : List PStep), N[a]? = some n → X[a]? = some q → n.ps.Nodup ∧ ∀ b, b ∈ n.ps ↔ ∃ s, X[b]? = some (q ++ [s])
 sh0 : ∀ (a : Nat) (n : Nd) (q : List PStep), N[a]? = some n → X[a]? = some q → n.sh = 0 → ∀ k, ¬ KindOf Ev q k
 sh1 : ∀ (a : Nat) (n : Nd) (q : List PStep) (k : Int), N[a]? = some n → X[a]? = some q → KindOf Ev q k → n.sh = k
 sh2 : ∀ (a : Nat) (n : Nd) (q : List PStep), N[a]? = some n → X[a]? = some q → n.sh ≠ 0 → KindOf Ev q n.sh
 lf : ∀ (a : Nat) (n : Nd) (q : List PStep), N[a]? = some n → X[a]? = some q → (a = 0 ∧ n.lf = 0) ∨ (∃ x, Ev[n.lf]? = some x ∧ Rch x q ∧ ∀ (j : Nat) (y : List PStep × Nat), j < n.lf → Ev[j]? = some y → ¬ Rch y q)
 mono : ∀ (a b : Nat) (n n' : Nd), a ≤ b → N[a]? = some n → N[b]? = some n' → n.lf ≤ n'.lf
 lim : ∀ n ∈ N, n.lf ≤ Ev.length
 ml : M.length + 1 = N.length
 far : ∀ (a : Nat) (s : PStep) (b : Nat), N.length ≤ a → ¬ mpF M (a, s) = some b
theorem tk_inj {p q : List PStep} {i j : Nat} (h : p.take i = q.take j) (hi : i ≤ p.length) (hj : j ≤ q.length) : i = j := by
 have := congrArg List.length h
 rw [List.length_take, List.length_take] at this
 omega
theorem tk_more {p : List PStep} {d : Nat} {s : PStep} (h : p[d]? = some s) : p.take (d + 1) = p.take d ++ [s] := by rw [List.take_add_one, h]; rfl
theorem ix_inj {X : List (List PStep)} (h : X.Nodup) {a b : Nat} {q : List PStep} (ha : X[a]? = some q) (hb : X[b]? = some q) : a = b :=
 (List.getElem?_inj (lt_of_some ha) h).1 (ha.trans hb.symm)
theorem snoc_inj {q q' : List PStep} {s s' : PStep} (h : q ++ [s] = q' ++ [s']) : q = q' ∧ s = s' := by
 obtain ⟨h1, h2⟩ := List.append_inj' h rfl
 exact ⟨h1, by simpa using h2⟩
theorem Trw.up {Ev : Evd} {X : List (List PStep)} {N : List Nd} {M : List ((Nat × PStep) × Nat)} (h : Trw Ev X N M) {q : List PStep} {s : PStep} (hq : q ++ [s] ∈ X) : q ∈ X := by
 rcases (h.mem _).1 hq with h1 | ⟨x, hx, j, h1, h2, h3⟩
 ·simp at h1
 ·refine (h.mem _).2 (.inr ⟨x, hx, j - 1, by omega, by omega, ?_⟩)
  have e := congrArg List.length h3
  rw [List.length_append, List.length_take] at e
  simp at e
  have e2 := congrArg (List.take (j - 1)) h3
  rw [List.take_take, Nat.min_eq_left (by omega)] at e2
  rw [← e2, List.take_append_of_le_length (by omega), List.take_of_length_le (by omega)]
theorem tri_new (s : PStep) : Trw [] [[]] [⟨0, s, 0, []⟩] [] := by
 have h0 : ∀ {a : Nat} {n : Nd}, [(⟨0, s, 0, []⟩ : Nd)][a]? = some n → a = 0 ∧ n = ⟨0, s, 0, []⟩ := fun {a n} h => by
  cases a with
  | zero => simp at h; exact ⟨rfl, h.symm⟩
  | succ a => simp at h
 have hX : ∀ {a : Nat} {q : List PStep}, [([] : List PStep)][a]? = some q → a = 0 ∧ q = [] := fun {a q} h => by
  cases a with
  | zero => simp at h; exact ⟨rfl, h⟩
  | succ a => simp at h
 refine ⟨rfl, rfl, by simp, fun q => ?_, fun a n q s' _ h => ?_, fun a q s' b _ => ?_, fun a n q h1 _ => ?_, fun a n q _ _ _ k hk => ?_, fun a n q k _ _ hk => ?_, fun a n q h1 _ h2 => ?_, fun a n q h1 _ => ?_, fun a b n n' _ h1 h2 => ?_, fun n hn => ?_, rfl, fun a s b _ h => by cases h⟩
 ·unfold NodeOf; simp
 ·have := (hX h).2; simp at this
 ·constructor
  ·intro h; cases h
  ·intro h; have := (hX h).2; simp at this
 ·obtain ⟨-, rfl⟩ := h0 h1
  refine ⟨List.nodup_nil, fun b => ⟨fun h => (by simp at h), fun ⟨s', h⟩ => ?_⟩⟩
  have := (hX h).2; simp at this
 ·obtain ⟨x, hx, -⟩ := hk; simp at hx
 ·obtain ⟨x, hx, -⟩ := hk; simp at hx
 ·obtain ⟨-, rfl⟩ := h0 h1; exact absurd rfl h2
 ·obtain ⟨rfl, rfl⟩ := h0 h1; exact .inl ⟨rfl, rfl⟩
 ·obtain ⟨-, rfl⟩ := h0 h1
  obtain ⟨-, rfl⟩ := h0 h2
  exact Nat.le_refl _
 ·rw [List.mem_singleton.1 hn]; exact Nat.zero_le _
theorem Trw.start {Ev : Evd} {X : List (List PStep)} {N : List Nd} {M : List ((Nat × PStep) × Nat)} (h : Trw Ev X N M) (p : List PStep) : Trw (Ev ++ [(p, 0)]) X N M := by
 have hk : ∀ q k, KindOf (Ev ++ [(p, 0)]) q k ↔ KindOf Ev q k := fun q k => by
  constructor
  ·rintro ⟨x, hx, j, h1, h2⟩
   rcases List.mem_append.1 hx with hx | hx
   ·exact ⟨x, hx, j, h1, h2⟩
   ·rw [List.mem_singleton.1 hx] at h1; simp at h1
  ·rintro ⟨x, hx, h2⟩
   exact ⟨x, List.mem_append_left _ hx, h2⟩
 have hlen : ∀ n ∈ N, n.lf ≤ (Ev ++ [(p, 0)]).length := fun n hn => by have := h.lim n hn; simp; omega
 refine ⟨h.len, h.root, h.nd, fun q => ?_, h.st, h.ways, h.ps, fun a n q h1 h2 h3 k => by rw [hk]; exact h.sh0 a n q h1 h2 h3 k, fun a n q k h1 h2 h3 => h.sh1 a n q k h1 h2 ((hk q k).1 h3), fun a n q h1 h2 h3 => (hk q _).2 (h.sh2 a n q h1 h2 h3), fun a n q h1 h2 => ?_, h.mono, hlen, h.ml, h.far⟩
 ·rw [h.mem q]
  constructor
  ·rintro (h1 | ⟨x, hx, h1⟩)
   ·exact .inl h1
   ·exact .inr ⟨x, List.mem_append_left _ hx, h1⟩
  ·rintro (h1 | ⟨x, hx, j, h1, h2, h3⟩)
   ·exact .inl h1
   ·rcases List.mem_append.1 hx with hx | hx
    ·exact .inr ⟨x, hx, j, h1, h2, h3⟩
    ·rw [List.mem_singleton.1 hx] at h1 h3
     have : j = 0 := by simpa using h1
     subst this
     exact .inl h3
 ·rcases h.lf a n q h1 h2 with h3 | ⟨x, h3, h4, h5⟩
  ·exact .inl h3
  ·refine .inr ⟨x, ?_, h4, fun j y hj hy => ?_⟩
   ·rw [List.getElem?_append_left (lt_of_some h3)]; exact h3
   ·rw [List.getElem?_append_left (by have := lt_of_some h3; omega)] at hy
    exact h5 j y hj hy
theorem Trw.clash {Ev : Evd} {X : List (List PStep)} {N : List Nd} {M : List ((Nat × PStep) × Nat)} {p : List PStep} {d : Nat} (h : Trw (Ev ++ [(p, d)]) X N M) (hd : d ≤ p.length) {a : Nat} {n : Nd} (hn : N[a]? = some n) (hx : X[a]? = some (p.take d)) (h0 : n.sh ≠ 0) (hk : n.sh ≠ kdP p d ∨ kdP p d = 1) : ∃ x ∈ Ev, clP x.1 p = true := by
 obtain ⟨x, hxe, j, h1, h2, h3, h4⟩ := h.sh2 a n _ hn hx h0
 rcases List.mem_append.1 hxe with hxe | hxe
 ·have : d = j := tk_inj h3 hd h2
  subst this
  refine ⟨x, hxe, (clP_iff _ _).2 ⟨d, h2, hd, h3.symm, ?_⟩⟩
  rcases hk with hk | hk
  ·exact .inl (by rw [← h4]; exact hk)
  ·by_cases e : kdP x.1 d = 1
   ·exact .inr e
   ·exact .inl (by rw [hk]; exact e)
 ·have e := List.mem_singleton.1 hxe
  rw [e] at h1 h2 h3
  have : d = j := tk_inj h3 hd h2
  simp at h1
  omega
theorem kd_mid {p : List PStep} {d : Nat} {s : PStep} (h : p[d]? = some s) : kdP p d = if s.place = true then 2 else 3 := by unfold kdP; rw [h]
theorem kind_snoc {Ev : Evd} {p : List PStep} {d : Nat} (hd : d ≤ p.length) (q : List PStep) (k : Int) : KindOf (Ev ++ [(p, d + 1)]) q k ↔ KindOf (Ev ++ [(p, d)]) q k ∨ (q = p.take d ∧ k = kdP p d) := by
 constructor
 ·rintro ⟨x, hx, j, h1, h2, h3, h4⟩
  rcases List.mem_append.1 hx with hx | hx
  ·exact .inl ⟨x, List.mem_append_left _ hx, j, h1, h2, h3, h4⟩
  ·have e := List.mem_singleton.1 hx
   subst e
   simp only at h1 h2 h3 h4
   by_cases hj : j = d
   ·subst hj; exact .inr ⟨h3, h4⟩
   ·exact .inl ⟨(p, d), by simp, j, by show j < d; omega, h2, h3, h4⟩
 ·rintro (⟨x, hx, j, h1, h2, h3, h4⟩ | ⟨h3, h4⟩)
  ·rcases List.mem_append.1 hx with hx | hx
   ·exact ⟨x, List.mem_append_left _ hx, j, h1, h2, h3, h4⟩
   ·have e := List.mem_singleton.1 hx
    subst e
    exact ⟨(p, d + 1), by simp, j, by simp only at h1 ⊢; omega, h2, h3, h4⟩
  ·exact ⟨(p, d + 1), by simp, d, by simp, hd, h3, h4⟩
theorem node_snoc {Ev : Evd} {p : List PStep} {d : Nat} (q : List PStep) : NodeOf (Ev ++ [(p, d + 1)]) q ↔ NodeOf (Ev ++ [(p, d)]) q ∨ (d + 1 ≤ p.length ∧ q = p.take (d + 1)) := by
 constructor
 ·rintro (h | ⟨x, hx, j, h1, h2, h3⟩)
  ·exact .inl (.inl h)
  ·rcases List.mem_append.1 hx with hx | hx
   ·exact .inl (.inr ⟨x, List.mem_append_left _ hx, j, h1, h2, h3⟩)
   ·have e := List.mem_singleton.1 hx
    subst e
    simp only at h1 h2 h3
    by_cases hj : j = d + 1
    ·subst hj; exact .inr ⟨h2, h3⟩
    ·exact .inl (.inr ⟨(p, d), by simp, j, by show j ≤ d; omega, h2, h3⟩)
 ·rintro ((h | ⟨x, hx, j, h1, h2, h3⟩) | ⟨h2, h3⟩)
  ·exact .inl h
  ·rcases List.mem_append.1 hx with hx | hx
   ·exact .inr ⟨x, List.mem_append_left _ hx, j, h1, h2, h3⟩
   ·have e := List.mem_singleton.1 hx
    subst e
    exact .inr ⟨(p, d + 1), by simp, j, by simp only at h1 ⊢; omega, h2, h3⟩
  ·exact .inr ⟨(p, d + 1), by simp, d + 1, Nat.le_refl _, h2, h3⟩
theorem rch_snoc {p : List PStep} {d : Nat} {q : List PStep} (h : Rch (p, d) q) : Rch (p, d + 1) q := by
 obtain ⟨j, h1, h2, h3⟩ := h
 exact ⟨j, by simp only at h1 ⊢; omega, h2, h3⟩
theorem lf_snoc {Ev : Evd} {p q : List PStep} {d a : Nat} {k : Nat} (hk : k ≤ Ev.length) (_hq : ∃ j, j ≤ d ∧ j ≤ p.length ∧ q = p.take j ∨ True)
  (h : (a = 0 ∧ k = 0) ∨ (∃ x, (Ev ++ [(p, d)])[k]? = some x ∧ Rch x q ∧ ∀ (j : Nat) (y : List PStep × Nat), j < k → (Ev ++ [(p, d)])[j]? = some y → ¬ Rch y q)) :
  (a = 0 ∧ k = 0) ∨ (∃ x, (Ev ++ [(p, d + 1)])[k]? = some x ∧ Rch x q ∧ ∀ (j : Nat) (y : List PStep × Nat), j < k → (Ev ++ [(p, d + 1)])[j]? = some y → ¬ Rch y q) := by
 rcases h with h | ⟨x, h1, h2, h3⟩
 ·exact .inl h
 ·right
  have lo : ∀ j y, j < Ev.length → ((Ev ++ [(p, d + 1)])[j]? = some y ↔ (Ev ++ [(p, d)])[j]? = some y) := fun j y hj => by
   rw [List.getElem?_append_left hj, List.getElem?_append_left hj]
  rcases Nat.lt_or_ge k Ev.length with h4 | h4
  ·exact ⟨x, (lo k x h4).2 h1, h2, fun j y hj hy => h3 j y hj ((lo j y (by omega)).1 hy)⟩
  ·have e : k = Ev.length := by omega
   subst e
   rw [List.getElem?_append_right (Nat.le_refl _), Nat.sub_self] at h1
   simp at h1
   subst h1
   exact ⟨(p, d + 1), by simp, rch_snoc h2, fun j y hj hy => h3 j y hj ((lo j y hj).1 hy)⟩
theorem Trw.kinds {Ev : Evd} {X : List (List PStep)} {N : List Nd} {M : List ((Nat × PStep) × Nat)} {p : List PStep} {d : Nat} (h : Trw (Ev ++ [(p, d)]) X N M) (hd : d ≤ p.length) {a : Nat} {n : Nd} (hn : N[a]? = some n) (hx : X[a]? = some (p.take d)) (hs : n.sh = 0 ∨ n.sh = kdP p d) :
  (∀ (b : Nat) (m : Nd) (q : List PStep), (N.set a {n with sh := kdP p d})[b]? = some m → X[b]? = some q → (m.sh = 0 → ∀ k, ¬ KindOf (Ev ++ [(p, d + 1)]) q k) ∧ (∀ k, KindOf (Ev ++ [(p, d + 1)]) q k → m.sh = k) ∧ (m.sh ≠ 0 → KindOf (Ev ++ [(p, d + 1)]) q m.sh)) := by
 intro b m q hm hq
 have hk0 : kdP p d ≠ 0 := by rcases kd_val p d with e | e | e <;> rw [e] <;> decide
 rw [List.getElem?_set] at hm
 by_cases hab : a = b
 ·subst hab
  rw [if_pos rfl, if_pos (lt_of_some hn)] at hm
  injection hm with hm
  subst hm
  have eq : q = p.take d := by rw [hq] at hx; injection hx
  subst eq
  refine ⟨fun h0 => absurd h0 hk0, fun k hk => ?_, fun _ => (kind_snoc hd _ _).2 (.inr ⟨rfl, rfl⟩)⟩
  rcases (kind_snoc hd _ _).1 hk with h1 | ⟨-, h1⟩
  ·have h2 := h.sh1 a n _ k hn hx h1
   rcases hs with hs | hs
   ·exact absurd h1 (h.sh0 a n _ hn hx hs k)
   ·show kdP p d = k; rw [← hs, h2]
  ·exact h1.symm
 ·rw [if_neg hab] at hm
  have hne : q ≠ p.take d := fun e => by subst e; exact hab (ix_inj h.nd hx hq)
  refine ⟨fun h0 k hk => ?_, fun k hk => ?_, fun h0 => (kind_snoc hd _ _).2 (.inl (h.sh2 b m q hm hq h0))⟩
  ·rcases (kind_snoc hd _ _).1 hk with h1 | ⟨h1, -⟩
   ·exact h.sh0 b m q hm hq h0 k h1
   ·exact hne h1
  ·rcases (kind_snoc hd _ _).1 hk with h1 | ⟨h1, -⟩
   ·exact h.sh1 b m q k hm hq h1
   ·exact absurd h1 hne
theorem set_at {N : List Nd} {a : Nat} {n : Nd} (hn : N[a]? = some n) (n' : Nd) {b : Nat} {m : Nd} (h : (N.set a n')[b]? = some m) : (b = a ∧ m = n') ∨ (¬ b = a ∧ N[b]? = some m) := by
 rw [List.getElem?_set] at h
 by_cases hab : a = b
 ·subst hab
  rw [if_pos rfl, if_pos (lt_of_some hn)] at h
  injection h with h
  exact .inl ⟨rfl, h.symm⟩
 ·rw [if_neg hab] at h
  exact .inr ⟨fun e => hab e.symm, h⟩
theorem Trw.keep {Ev : Evd} {X : List (List PStep)} {N : List Nd} {M : List ((Nat × PStep) × Nat)} {p : List PStep} {d : Nat} (h : Trw (Ev ++ [(p, d)]) X N M) (hd : d ≤ p.length) {a : Nat} {n : Nd} (hn : N[a]? = some n) (hx : X[a]? = some (p.take d)) (hs : n.sh = 0 ∨ n.sh = kdP p d) (hnode : d + 1 ≤ p.length → p.take (d + 1) ∈ X) :
  Trw (Ev ++ [(p, d + 1)]) X (N.set a {n with sh := kdP p d}) M := by
 have hkk := h.kinds hd hn hx hs
 have old : ∀ {c : Nat} {m : Nd}, (N.set a {n with sh := kdP p d})[c]? = some m → ∃ m', N[c]? = some m' ∧ m'.st = m.st ∧ m'.ps = m.ps ∧ m'.lf = m.lf := fun {c m} hm => by
  rcases set_at hn _ hm with ⟨rfl, rfl⟩ | ⟨-, hm⟩
  ·exact ⟨n, hn, rfl, rfl, rfl⟩
  ·exact ⟨m, hm, rfl, rfl, rfl⟩
 have hlim : ∀ {c : Nat} {m : Nd}, N[c]? = some m → m.lf ≤ Ev.length := fun {c m} hm => by
  obtain ⟨q, hq⟩ : ∃ q, X[c]? = some q := ⟨_, List.getElem?_eq_getElem (by rw [h.len]; exact lt_of_some hm)⟩
  rcases h.lf c m q hm hq with ⟨-, e⟩ | ⟨x, e, -⟩
  ·omega
  ·have := lt_of_some e; simp at this; omega
 refine ⟨by rw [List.length_set]; exact h.len, h.root, h.nd, fun q => ?_, fun c m q s' hm hq => ?_, h.ways, fun c m q hm hq => ?_, fun c m q h1 h2 => (hkk c m q h1 h2).1, fun c m q k h1 h2 h3 => (hkk c m q h1 h2).2.1 k h3, fun c m q h1 h2 => (hkk c m q h1 h2).2.2, fun c m q hm hq => ?_, fun c c' m m' hc hm hm' => ?_, fun m hm => ?_, by rw [List.length_set]; exact h.ml, fun c s' b hc => h.far c s' b (by rw [List.length_set] at hc; exact hc)⟩
 ·rw [h.mem q, node_snoc]
  constructor
  ·exact fun h1 => .inl h1
  ·rintro (h1 | ⟨h2, h1⟩)
   ·exact h1
   ·rw [← h.mem q, h1]; exact hnode h2
 ·obtain ⟨m', h1, h2, -⟩ := old hm
  rw [← h2]; exact h.st c m' q s' h1 hq
 ·obtain ⟨m', h1, -, h2, -⟩ := old hm
  rw [← h2]; exact h.ps c m' q h1 hq
 ·obtain ⟨m', h1, -, -, h2⟩ := old hm
  rw [← h2]
  exact lf_snoc (hlim h1) ⟨0, .inr trivial⟩ (h.lf c m' q h1 hq)
 ·obtain ⟨m1, h1, -, -, h2⟩ := old hm
  obtain ⟨m2, h3, -, -, h4⟩ := old hm'
  rw [← h2, ← h4]; exact h.mono c c' m1 m2 hc h1 h3
 ·obtain ⟨c, hc⟩ := List.getElem?_of_mem hm
  obtain ⟨m', h1, -, -, h2⟩ := old hc
  have := h.lim m' (List.mem_of_getElem? h1)
  rw [← h2]; simp at this ⊢; exact this
theorem Trw.step_old {Ev : Evd} {X : List (List PStep)} {N : List Nd} {M : List ((Nat × PStep) × Nat)} {p : List PStep} {d : Nat} (h : Trw (Ev ++ [(p, d)]) X N M) {s : PStep} (hp : p[d]? = some s) {a : Nat} {n : Nd} (hn : N[a]? = some n) (hx : X[a]? = some (p.take d)) (hs : n.sh = 0 ∨ n.sh = kdP p d) {b : Nat} (hb : mpF M (a, s) = some b) :
  Trw (Ev ++ [(p, d + 1)]) X (N.set a {n with sh := kdP p d}) M ∧ X[b]? = some (p.take (d + 1)) := by
 have hd := lt_of_some hp
 have hxb : X[b]? = some (p.take (d + 1)) := by rw [tk_more hp]; exact (h.ways a _ s b hx).1 hb
 exact ⟨h.keep (by omega) hn hx hs (fun _ => List.mem_of_getElem? hxb), hxb⟩
theorem Trw.done {Ev : Evd} {X : List (List PStep)} {N : List Nd} {M : List ((Nat × PStep) × Nat)} {p : List PStep} (h : Trw (Ev ++ [(p, p.length)]) X N M) {a : Nat} {n : Nd} (hn : N[a]? = some n) (hx : X[a]? = some p) (hs : n.sh = 0) :
  Trw (Ev ++ [(p, p.length + 1)]) X (N.set a {n with sh := 1}) M ∧ ∀ x ∈ Ev, x.2 = x.1.length + 1 → clP x.1 p = false := by
 have e1 : kdP p p.length = 1 := by unfold kdP; rw [List.getElem?_eq_none (Nat.le_refl _)]
 have hx' : X[a]? = some (p.take p.length) := by rw [List.take_length]; exact hx
 have hT := h.keep (Nat.le_refl _) hn hx' (.inl hs) (fun h => by omega)
 rw [e1] at hT
 refine ⟨hT, fun x hxe hx2 => ?_⟩
 cases hc : clP x.1 p with
 | false => rfl
 | true =>
  exfalso
  obtain ⟨j, h1, h2, h3, h4⟩ := (clP_iff _ _).1 hc
  have hm : p.take j ∈ X := (hT.mem _).2 (.inr ⟨(p, p.length + 1), by simp, j, by simp only; omega, h2, rfl⟩)
  obtain ⟨c, hcx⟩ := List.getElem?_of_mem hm
  obtain ⟨m, hm'⟩ : ∃ m, (N.set a {n with sh := 1})[c]? = some m := ⟨_, List.getElem?_eq_getElem (by rw [← hT.len]; exact lt_of_some hcx)⟩
  have k1 := hT.sh1 c m _ (kdP x.1 j) hm' hcx ⟨x, by simp [hxe], j, by omega, h1, h3.symm, rfl⟩
  have k2 := hT.sh1 c m _ (kdP p j) hm' hcx ⟨(p, p.length + 1), by simp, j, by simp only; omega, h2, rfl, rfl⟩
  rcases h4 with h4 | h4
  ·exact h4 (by rw [← k1, k2])
  ·have hp1 : kdP p j = 1 := by rw [← k2, k1, h4]
   have := kd_one hp1
   have ej : j = p.length := by omega
   subst ej
   have := kd_one h4
   have ek : x.1.length = p.length := by omega
   rw [List.take_length, ← ek, List.take_length] at h3
   have := h.sh0 a n p hn hx hs 1
   exact this ⟨x, by simp [hxe], x.1.length, by omega, Nat.le_refl _, by rw [List.take_length]; exact h3.symm, by rw [ek]; exact h4.symm⟩
theorem Trw.step_new {Ev : Evd} {X : List (List PStep)} {N : List Nd} {M : List ((Nat × PStep) × Nat)} {p : List PStep} {d : Nat} (h : Trw (Ev ++ [(p, d)]) X N M) {s : PStep} (hp : p[d]? = some s) {a : Nat} {n : Nd} (hn : N[a]? = some n) (hx : X[a]? = some (p.take d)) (hs : n.sh = 0 ∨ n.sh = kdP p d) (hb : mpF M (a, s) = none) :
  Trw (Ev ++ [(p, d + 1)]) (X ++ [p.take (d + 1)]) ((N.set a ⟨kdP p d, n.st, n.lf, n.ps ++ [N.length]⟩) ++ [⟨0, s, Ev.length, []⟩]) (((a, s), N.length) :: M) ∧ (X ++ [p.take (d + 1)])[N.length]? = some (p.take (d + 1)) := by
 have hd := lt_of_some hp
 have ha := lt_of_some hn
 have hout : p.take (d + 1) ∉ X := fun hm => by
  obtain ⟨b, hb'⟩ := List.getElem?_of_mem hm
  rw [tk_more hp] at hb'
  have := (h.ways a _ s b hx).2 hb'
  rw [hb] at this; cases this
 have hkk := h.kinds (by omega) hn hx hs
 have hnode : ¬ NodeOf (Ev ++ [(p, d)]) (p.take (d + 1)) := fun hm => hout ((h.mem _).2 hm)
 have hnok : ∀ k, ¬ KindOf (Ev ++ [(p, d + 1)]) (p.take (d + 1)) k := fun k hk => by
  rcases (kind_snoc (by omega) _ _).1 hk with ⟨x, hx', j, h1, h2, h3, -⟩ | ⟨h3, -⟩
  ·exact hnode (.inr ⟨x, hx', j, by omega, h2, h3⟩)
  ·have := tk_inj h3 (by omega) (by omega); omega
 have oldX : ∀ {c : Nat} {q : List PStep}, (X ++ [p.take (d + 1)])[c]? = some q → (c < N.length ∧ X[c]? = some q) ∨ (c = N.length ∧ q = p.take (d + 1)) := fun {c q} hq => by
  rcases Nat.lt_or_ge c X.length with h1 | h1
  ·rw [List.getElem?_append_left h1] at hq
   exact .inl ⟨by rw [← h.len]; exact h1, hq⟩
  ·rw [List.getElem?_append_right h1] at hq
   cases hz : c - X.length with
   | zero => rw [hz] at hq; simp at hq; exact .inr ⟨by rw [← h.len]; omega, hq.symm⟩
   | succ k => rw [hz] at hq; simp at hq
 have newX : ∀ {c : Nat} {q : List PStep}, X[c]? = some q → (X ++ [p.take (d + 1)])[c]? = some q := fun {c q} hq => by rw [List.getElem?_append_left (lt_of_some hq)]; exact hq
 have lastX : (X ++ [p.take (d + 1)])[N.length]? = some (p.take (d + 1)) := by rw [← h.len]; simp
 have oldN : ∀ {c : Nat} {m : Nd}, ((N.set a ⟨kdP p d, n.st, n.lf, n.ps ++ [N.length]⟩) ++ [⟨0, s, Ev.length, []⟩])[c]? = some m → (c < N.length ∧ ∃ m', N[c]? = some m' ∧ m'.st = m.st ∧ m'.lf = m.lf ∧ (N.set a {n with sh := kdP p d})[c]? = some ⟨m.sh, m'.st, m'.lf, m'.ps⟩ ∧ ((c = a ∧ m.ps = m'.ps ++ [N.length]) ∨ (¬ c = a ∧ m.ps = m'.ps))) ∨ (c = N.length ∧ m = ⟨0, s, Ev.length, []⟩) := fun {c m} hm => by
  rcases Nat.lt_or_ge c N.length with h1 | h1
  ·rw [List.getElem?_append_left (by rw [List.length_set]; exact h1)] at hm
   rcases set_at hn _ hm with ⟨rfl, rfl⟩ | ⟨hca, hm⟩
   ·refine .inl ⟨h1, n, hn, rfl, rfl, ?_, .inl ⟨rfl, rfl⟩⟩
    rw [List.getElem?_set, if_pos rfl, if_pos h1]
   ·refine .inl ⟨h1, m, hm, rfl, rfl, ?_, .inr ⟨hca, rfl⟩⟩
    rw [List.getElem?_set, if_neg (fun e => hca e.symm)]; exact hm
  ·rw [List.getElem?_append_right (by rw [List.length_set]; exact h1), List.length_set] at hm
   cases hz : c - N.length with
   | zero => rw [hz] at hm; simp at hm; exact .inr ⟨by omega, hm.symm⟩
   | succ k => rw [hz] at hm; simp at hm
 have hlim : ∀ {c : Nat} {m : Nd}, N[c]? = some m → m.lf ≤ Ev.length := fun {c m} hm => by
  obtain ⟨q, hq⟩ : ∃ q, X[c]? = some q := ⟨_, List.getElem?_eq_getElem (by rw [h.len]; exact lt_of_some hm)⟩
  rcases h.lf c m q hm hq with ⟨-, e⟩ | ⟨x, e, -⟩
  ·omega
  ·have := lt_of_some e; simp at this; omega
 have hroot : 0 < X.length := lt_of_some h.root
 refine ⟨⟨by simp [h.len], newX h.root, ?_, fun q => ?_, fun c m q s' hm hq => ?_, fun c q s' b hq => ?_, fun c m q hm hq => ?_, fun c m q hm hq h0 k => ?_, fun c m q k hm hq hk => ?_, fun c m q hm hq h0 => ?_, fun c m q hm hq => ?_, fun c c' m m' hc hm hm' => ?_, fun m hm => ?_, by simp [h.ml], fun c s' b hc => ?_⟩, lastX⟩
 ·rw [List.nodup_append]
  exact ⟨h.nd, by simp, fun x hx y hy e => by rw [List.mem_singleton.1 hy] at e; subst e; exact hout hx⟩
 ·rw [List.mem_append, h.mem q, List.mem_singleton, node_snoc]
  constructor
  ·rintro (h1 | h1)
   ·exact .inl h1
   ·exact .inr ⟨by omega, h1⟩
  ·rintro (h1 | ⟨-, h1⟩)
   ·exact .inl h1
   ·exact .inr h1
 ·rcases oldN hm with ⟨hc, m', h1, h2, -⟩ | ⟨rfl, rfl⟩
  ·rcases oldX hq with ⟨-, hq⟩ | ⟨e, -⟩
   ·rw [← h2]; exact h.st c m' q s' h1 hq
   ·omega
  ·rcases oldX hq with ⟨e, -⟩ | ⟨-, hq⟩
   ·omega
   ·rw [tk_more hp] at hq
    exact (snoc_inj hq).2.symm
 ·-- ways
  show (if (a, s) = (c, s') then some N.length else mpF M (c, s')) = some b ↔ _
  rcases oldX hq with ⟨hc, hq⟩ | ⟨rfl, rfl⟩
  ·by_cases e : (a, s) = (c, s')
   ·rw [if_pos e]
    injection e with e1 e2
    subst e1 e2
    have eq : q = p.take d := by rw [hq] at hx; injection hx
    subst eq
    rw [← tk_more hp]
    constructor
    ·intro hb'; injection hb' with hb'; subst hb'; exact lastX
    ·intro hb'
     rcases oldX hb' with ⟨-, h1⟩ | ⟨h1, -⟩
     ·exact absurd (List.mem_of_getElem? h1) hout
     ·rw [h1]
   ·rw [if_neg e, h.ways c q s' b hq]
    constructor
    ·exact fun h1 => newX h1
    ·intro h1
     rcases oldX h1 with ⟨-, h1⟩ | ⟨-, h1⟩
     ·exact h1
     ·exfalso
      rw [tk_more hp] at h1
      obtain ⟨e1, e2⟩ := snoc_inj h1
      subst e1 e2
      exact e (by rw [ix_inj h.nd hx hq])
  ·rw [if_neg (fun e => by injection e with e1; omega)]
   constructor
   ·intro h1
    exfalso
    -- no way from a node that was not there
    have : mpF M (N.length, s') = none := by
     cases hz : mpF M (N.length, s') with
     | none => rfl
     | some z => exact absurd hz (h.far N.length s' z (Nat.le_refl _))
    rw [this] at h1; cases h1
   ·intro h1
    exfalso
    rcases oldX h1 with ⟨-, h1⟩ | ⟨-, h1⟩
    ·obtain ⟨r, h2⟩ : ∃ r, p.take (d + 1) = r := ⟨_, rfl⟩
     exact hout (h.up (List.mem_of_getElem? h1))
    ·have := congrArg List.length h1
     simp at this
 ·-- parts
  rcases oldN hm with ⟨hc, m', h1, -, -, -, h2⟩ | ⟨rfl, rfl⟩
  ·rcases oldX hq with ⟨-, hq⟩ | ⟨e, -⟩
   ·obtain ⟨h3, h4⟩ := h.ps c m' q h1 hq
    rcases h2 with ⟨rfl, h2⟩ | ⟨hca, h2⟩
    ·rw [h2]
     have eq : q = p.take d := by rw [hq] at hx; injection hx
     subst eq
     refine ⟨?_, fun b => ?_⟩
     ·rw [List.nodup_append]
      refine ⟨h3, by simp, fun x hx' y hy e => ?_⟩
      rw [List.mem_singleton.1 hy] at e
      subst e
      obtain ⟨s', h5⟩ := (h4 N.length).1 hx'
      have := lt_of_some h5
      rw [h.len] at this; omega
     ·rw [List.mem_append, h4 b, List.mem_singleton]
      constructor
      ·rintro (⟨s', h5⟩ | rfl)
       ·exact ⟨s', newX h5⟩
       ·exact ⟨s, by rw [← tk_more hp]; exact lastX⟩
      ·rintro ⟨s', h5⟩
       rcases oldX h5 with ⟨-, h5⟩ | ⟨h5, -⟩
       ·exact .inl ⟨s', h5⟩
       ·exact .inr h5
    ·rw [h2]
     refine ⟨h3, fun b => ?_⟩
     rw [h4 b]
     constructor
     ·rintro ⟨s', h5⟩; exact ⟨s', newX h5⟩
     ·rintro ⟨s', h5⟩
      rcases oldX h5 with ⟨-, h5⟩ | ⟨-, h5⟩
      ·exact ⟨s', h5⟩
      ·exfalso
       rw [tk_more hp] at h5
       obtain ⟨e1, -⟩ := snoc_inj h5
       subst e1
       exact hca (ix_inj h.nd hq hx)
   ·omega
  ·rcases oldX hq with ⟨e, -⟩ | ⟨-, rfl⟩
   ·omega
   ·refine ⟨List.nodup_nil, fun b => ⟨fun h => (by simp at h), ?_⟩⟩
    rintro ⟨s', h5⟩
    exfalso
    rcases oldX h5 with ⟨-, h5⟩ | ⟨-, h5⟩
    ·exact hout (h.up (List.mem_of_getElem? h5))
    ·have := congrArg List.length h5
     simp at this
 ·rcases oldN hm with ⟨hc, m', h1, -, -, h2, -⟩ | ⟨rfl, rfl⟩
  ·rcases oldX hq with ⟨-, hq⟩ | ⟨e, -⟩
   ·exact (hkk c _ q h2 hq).1 h0 k
   ·omega
  ·rcases oldX hq with ⟨e, -⟩ | ⟨-, rfl⟩
   ·omega
   ·exact hnok k
 ·rcases oldN hm with ⟨hc, m', h1, -, -, h2, -⟩ | ⟨rfl, rfl⟩
  ·rcases oldX hq with ⟨-, hq⟩ | ⟨e, -⟩
   ·exact (hkk c _ q h2 hq).2.1 k hk
   ·omega
  ·rcases oldX hq with ⟨e, -⟩ | ⟨-, rfl⟩
   ·omega
   ·exact absurd hk (hnok k)
 ·rcases oldN hm with ⟨hc, m', h1, -, -, h2, -⟩ | ⟨rfl, rfl⟩
  ·rcases oldX hq with ⟨-, hq⟩ | ⟨e, -⟩
   ·exact (hkk c _ q h2 hq).2.2 h0
   ·omega
  ·exact absurd rfl h0
 ·rcases oldN hm with ⟨hc, m', h1, -, h2, -⟩ | ⟨rfl, rfl⟩
  ·rcases oldX hq with ⟨-, hq⟩ | ⟨e, -⟩
   ·rw [← h2]
    exact lf_snoc (hlim h1) ⟨0, .inr trivial⟩ (h.lf c m' q h1 hq)
   ·omega
  ·rcases oldX hq with ⟨e, -⟩ | ⟨-, rfl⟩
   ·omega
   ·refine .inr ⟨(p, d + 1), by simp, ⟨d + 1, Nat.le_refl _, (by show d + 1 ≤ p.length; omega), rfl⟩, fun j y hj hy hr => ?_⟩
    rw [List.getElem?_append_left hj] at hy
    exact hnode (.inr ⟨y, List.mem_append_left _ (List.mem_of_getElem? hy), hr⟩)
 ·rcases oldN hm with ⟨hc1, m1, h1, -, h2, -⟩ | ⟨rfl, rfl⟩
  ·rcases oldN hm' with ⟨hc2, m2, h3, -, h4, -⟩ | ⟨rfl, rfl⟩
   ·rw [← h2, ← h4]; exact h.mono c c' m1 m2 hc h1 h3
   ·rw [← h2]; exact hlim h1
  ·rcases oldN hm' with ⟨hc2, m2, h3, -, h4, -⟩ | ⟨rfl, rfl⟩
   ·omega
   ·exact Nat.le_refl _
 ·obtain ⟨c, hc⟩ := List.getElem?_of_mem hm
  rcases oldN hc with ⟨hc1, m1, h1, -, h2, -⟩ | ⟨rfl, rfl⟩
  ·rw [← h2]; have := hlim h1; simp; omega
  ·simp
 ·simp at hc
  show ¬ (if (a, s) = (c, s') then some N.length else mpF M (c, s')) = some b
  rw [if_neg (fun e => by injection e with e1; omega)]
  exact h.far c s' b (by omega)
end Go.Proofs.YteimbjamnfkapaaGreatDoor
/- unflat: a leaf's way laid. -/
namespace Go.Proofs.YteimbjamnfkapaaGreatDoor
open Go.RowKit Go.Maps
theorem Kp.bel {B : Nat} {W0 w w' : World} (h : Kp B w w') (h0 : W0.heap.size = B) (hb : Below B W0 w) : Below B W0 w' := h W0 h0 hb
theorem stp_of {w W : World} {a b c : Value} (h : W = w.alloc (.cells #[a, b, c] 78)) : W.cell? ⟨w.heap.size, 0, none⟩ = some a ∧ W.cell? ⟨w.heap.size, 1, none⟩ = some b ∧ W.cell? ⟨w.heap.size, 2, none⟩ = some c ∧ Below w.heap.size w W := by
 subst h
 exact ⟨by simp, by simp, by simp, valloc_bel (Below.refl _ _) _⟩
theorem hol_kd {p : List PStep} {d : Nat} {s : PStep} (h : p[d]? = some s) : hol s = kdP p d := (kd_mid h).symm
structure TT (B : Nat) (w : World) (tb m : Nat) (Ev : Evd) (X : List (List PStep)) (g c : Nat) (E : List NE) (M : Ways) : Prop where
 tm : TM B w tb m (.slice (some ⟨g, 0, none⟩) E.length c) E M
 tri : Trw Ev X (E.map NE.d) M
 cap : E.length ≤ c
theorem TT.sh {B : Nat} {w : World} {tb m g c : Nat} {Ev : Evd} {X : List (List PStep)} {E : List NE} {M : Ways} (h : TT B w tb m Ev X g c E M) {a : Nat} {e : NE} (he : E[a]? = some e) : 0 ≤ e.d.sh ∧ e.d.sh ≤ 3 := by
 have hn : (E.map NE.d)[a]? = some e.d := by rw [List.getElem?_map, he]; rfl
 obtain ⟨q, hq⟩ : ∃ q, X[a]? = some q := ⟨_, List.getElem?_eq_getElem (by rw [h.tri.len]; exact lt_of_some hn)⟩
 by_cases h0 : e.d.sh = 0
 ·omega
 ·obtain ⟨x, -, j, -, -, -, hk⟩ := h.tri.sh2 a e.d q hn hq h0
  rcases kd_val x.1 j with e1 | e1 | e1 <;> rw [hk, e1] <;> decide
theorem map_set {E : List NE} {a : Nat} (e : NE) : (E.set a e).map NE.d = (E.map NE.d).set a e.d := by
 rw [List.map_set]
theorem TT.ps {B : Nat} {w : World} {tb m g c : Nat} {Ev : Evd} {X : List (List PStep)} {E : List NE} {M : Ways} (h : TT B w tb m Ev X g c E M) {a : Nat} {e : NE} (he : E[a]? = some e) : e.d.ps.length ≤ E.length := by
 have hn : (E.map NE.d)[a]? = some e.d := by rw [List.getElem?_map, he]; rfl
 obtain ⟨q, hq⟩ : ∃ q, X[a]? = some q := ⟨_, List.getElem?_eq_getElem (by rw [h.tri.len]; exact lt_of_some hn)⟩
 obtain ⟨h1, h2⟩ := h.tri.ps a e.d q hn hq
 have h3 : e.d.ps ⊆ List.range E.length := fun b hb => by
  obtain ⟨s, h4⟩ := (h2 b).1 hb
  have := lt_of_some h4
  rw [h.tri.len, List.length_map] at this
  rw [List.mem_range]; exact this
 have := List.Nodup.length_le_of_subset h1 h3
 rwa [List.length_range] at this
theorem part_tt (B : Nat) (w : World) (tb m : Nat) (Ev : Evd) (X : List (List PStep)) (g c : Nat) (E : List NE) (M : Ways) (p : List PStep) (d : Nat) (s : PStep) (hp : p[d]? = some s) (a : Nat) (e : NE) (he : E[a]? = some e) (hx : X[a]? = some (p.take d)) (hT : Trw (Ev ++ [(p, d)]) X (E.map NE.d) M) (hs : e.d.sh = 0 ∨ e.d.sh = kdP p d)
  (h : TM B w tb m (.slice (some ⟨g, 0, none⟩) E.length c) (E.set a ⟨{e.d with sh := kdP p d}, e.u⟩) M) (hc : E.length ≤ c) (hpsl : e.d.ps.length ≤ E.length) (hok : OkS s) (hcn : Cn s) (hl : E.length ≤ 9000000) (lf : Nat) (hlf : lf = Ev.length) (hlb : lf ≤ 9000000) :
  Calls Tryz.prog 92 #[.pointer (some ⟨tb, 0, none⟩), .int .i64 (a : Int), pv s, .int .i64 (lf : Int)] w fun r w' => Kp B w w' ∧ ∃ (b : Nat) (X' : List (List PStep)) (g' c' : Nat) (E' : List NE) (M' : Ways), r = .returned (.int .i64 (b : Int)) ∧ TT B w' tb m (Ev ++ [(p, d + 1)]) X' g' c' E' M' ∧ X'[b]? = some (p.take (d + 1)) ∧ E'.length ≤ E.length + 1 ∧ b < E'.length ∧ (∀ k, k < w.heap.size → Off tb m g E k → w'.heap[k]? = w.heap[k]? ∧ Off tb m g' E' k) ∧ w.heap.size ≤ w'.heap.size := by
 have hem : (E.map NE.d)[a]? = some e.d := by rw [List.getElem?_map, he]; rfl
 obtain ⟨E1, hE1⟩ : ∃ E1, E.set a ⟨{e.d with sh := kdP p d}, e.u⟩ = E1 := ⟨_, rfl⟩
 have hl1 : E1.length = E.length := by rw [← hE1, List.length_set]
 have he1 : E1[a]? = some ⟨{e.d with sh := kdP p d}, e.u⟩ := by rw [← hE1, List.getElem?_set_self (lt_of_some he)]
 rw [hE1, ← hl1] at h
 have hml : M.length ≤ 10000000 := by have := hT.ml; rw [List.length_map] at this; omega
 have hgw : ¬ g = w.heap.size := fun e0 => by have := (h.ns.lt g rfl).2; omega
 have hoff : ∀ k, Off tb m g E k → Off tb m g E1 k := fun k hk => ⟨hk.1, hk.2.1, hk.2.2.1, fun e' he' => by
  rw [← hE1] at he'
  rcases List.mem_or_eq_of_mem_set he' with he' | rfl
  ·exact hk.2.2.2 e' he'
  ·exact hk.2.2.2 e (List.mem_of_getElem? he)⟩
 have hmap : E1.map NE.d = (E.map NE.d).set a {e.d with sh := kdP p d} := by rw [← hE1, map_set]
 cases hf : mpF M (a, s) with
 | some b =>
  obtain ⟨h1, h2⟩ := hT.step_old hp hem hx hs hf
  rw [← hmap] at h1
  have fin : ∀ (r : Ending) (w' : World), (r = .returned (.int .i64 (b : Int)) ∧ TM B w' tb m (.slice (some ⟨g, 0, none⟩) E1.length c) E1 M ∧ Kp B w w' ∧ Below w.heap.size w w') → Kp B w w' ∧ ∃ (b : Nat) (X' : List (List PStep)) (g' c' : Nat) (E' : List NE) (M' : Ways), r = .returned (.int .i64 (b : Int)) ∧ TT B w' tb m (Ev ++ [(p, d + 1)]) X' g' c' E' M' ∧ X'[b]? = some (p.take (d + 1)) ∧ E'.length ≤ E.length + 1 ∧ b < E'.length ∧ (∀ k, k < w.heap.size → Off tb m g E k → w'.heap[k]? = w.heap[k]? ∧ Off tb m g' E' k) ∧ w.heap.size ≤ w'.heap.size := by
   rintro r w' ⟨h3, h4, h5, h6⟩
   exact ⟨h5, b, X, g, c, E1, M, h3, ⟨h4, h1, by omega⟩, h2, by omega, by have := lt_of_some h2; rw [h1.len, List.length_map] at this; exact this, fun k hk ho => ⟨h6.block k hk, hoff k ho⟩, h6.size⟩
  cases hpl : s.place with
  | true =>
   have hno : s.key = ⟨#[]⟩ := by rcases hcn with h | h; exact h.2.1; rw [hpl] at h; cases h.1
   exact (part_oldP B w tb m g c E1 M h a _ he1 s lf hok hpl hno (by omega) (by omega) hml (by show e.d.ps.length ≤ _; omega) (by omega) b hf).mono fin
  | false =>
   have hno : s.at_ = 0 := by rcases hcn with h | h; rw [hpl] at h; cases h.1; exact h.2
   exact (part_oldK B w tb m g c E1 M h a _ he1 s lf hok hpl hno (by omega) (by omega) hml (by show e.d.ps.length ≤ _; omega) (by omega) b hf).mono fin
 | none =>
  obtain ⟨h1, h2⟩ := hT.step_new hp hem hx hs hf
  rw [List.length_map] at h1 h2
  have fin : ∀ (r : Ending) (w' : World), (r = .returned (.int .i64 (E1.length : Int)) ∧ PartNew B w tb m g E1 M a ⟨{e.d with sh := kdP p d}, e.u⟩ s lf w') → Kp B w w' ∧ ∃ (b : Nat) (X' : List (List PStep)) (g' c' : Nat) (E' : List NE) (M' : Ways), r = .returned (.int .i64 (b : Int)) ∧ TT B w' tb m (Ev ++ [(p, d + 1)]) X' g' c' E' M' ∧ X'[b]? = some (p.take (d + 1)) ∧ E'.length ≤ E.length + 1 ∧ b < E'.length ∧ (∀ k, k < w.heap.size → Off tb m g E k → w'.heap[k]? = w.heap[k]? ∧ Off tb m g' E' k) ∧ w.heap.size ≤ w'.heap.size := by
   rintro r w' ⟨h3, g', c', u', h4, h5, h6, h8, h7⟩
   obtain ⟨E2, hE2⟩ : ∃ E2, (E1.set a ⟨{({e.d with sh := kdP p d} : Nd) with ps := e.d.ps ++ [E1.length]}, u'⟩) ++ [⟨⟨0, s, lf, []⟩, .slice none 0 0⟩] = E2 := ⟨_, rfl⟩
   have hl2 : E2.length = E1.length + 1 := by rw [← hE2]; simp
   rw [hE2, ← hl2] at h4
   rw [hE2] at h7
   refine ⟨h6, E1.length, X ++ [p.take (d + 1)], g', c', E2, _, h3, ⟨h4, ?_, by omega⟩, by rw [hl1]; exact h2, by omega, by omega, fun k hk ho => h7 k hk (hoff k ho), h8⟩
   have e3 : E2.map NE.d = ((E.map NE.d).set a ⟨kdP p d, e.d.st, e.d.lf, e.d.ps ++ [E.length]⟩) ++ [⟨0, s, Ev.length, []⟩] := by
    rw [← hE2, List.map_append, map_set, hmap, List.set_set, hl1, hlf]; rfl
   rw [e3, hl1]; exact h1
  cases hpl : s.place with
  | true =>
   have hno : s.key = ⟨#[]⟩ := by rcases hcn with h | h; exact h.2.1; rw [hpl] at h; cases h.1
   exact (part_newP B w tb m g c E1 M h a _ he1 s lf hok hpl hno (by omega) (by omega) hml (by show e.d.ps.length ≤ _; omega) (by omega) hf hgw).mono fin
  | false =>
   have hno : s.at_ = 0 := by rcases hcn with h | h; rw [hpl] at h; cases h.1; exact h.2
   exact (part_newK B w tb m g c E1 M h a _ he1 s lf hok hpl hno (by omega) (by omega) hml (by show e.d.ps.length ≤ _; omega) (by omega) hf hgw).mono fin
def LayP (B : Nat) (W0 w : World) (tb m : Nat) (g0 : Nat) (E0 : List NE) (Ev : Evd) (p : List PStep) (n : Nat) (r : Ending) (w' : World) : Prop :=
 Below B W0 w' ∧ (((∃ x ∈ Ev, clP x.1 p = true) ∧ r = .returned (.bool false)) ∨ ((∀ x ∈ Ev, clP x.1 p = false) ∧ r = .returned (.bool true) ∧ ∃ X g c E M, TT B w' tb m (Ev ++ [(p, p.length + 1)]) X g c E M ∧ E.length ≤ n + p.length ∧ 0 < E.length ∧ ∀ k, k < w.heap.size → Off tb m g0 E0 k → w'.heap[k]? = w.heap[k]?))
set_option maxRecDepth 100000 in
set_option maxHeartbeats 4000000 in
theorem lay_any (B : Nat) (W0 w : World) (h0 : W0.heap.size = B) (hb0 : Below B W0 w) (tb m : Nat) (Ev : Evd) (X : List (List PStep)) (g c : Nat) (E : List NE) (M : Ways) (h : TT B w tb m Ev X g c E M) (p : List PStep) (pv' : Value) (hp : InP W0 p pv') (hok : ∀ s ∈ p, OkS s) (hcn : ∀ s ∈ p, Cn s) (hbd : E.length + p.length ≤ 9000000) (hev : ∀ x ∈ Ev, x.2 = x.1.length + 1) (lf : Nat) (hlf : lf = Ev.length) (hlb : lf ≤ 9000000) (hE0 : 0 < E.length) :
  Calls Tryz.prog 49 #[.pointer (some ⟨tb, 0, none⟩), pv', .int .i64 (lf : Int)] w (LayP B W0 w tb m g E Ev p E.length) := by
 obtain ⟨ap, ⟨op, cp, rfl, hp1, hp2, hp3⟩, hpc⟩ := hp
 have HPC := hid hpc
 have HP3 := hid hp3
 have HT := hid h
 have HOK := hid hok
 have HCN := hid hcn
 have HEV := hid hev
 have HLF := hid hlf
 have HB0 := hid hb0
 obtain ⟨g0, hg0⟩ : ∃ n, g = n := ⟨_, rfl⟩
 obtain ⟨E0, hEE⟩ : ∃ n, E = n := ⟨_, rfl⟩
 have HG0 := hid hg0
 have HEE := hid hEE
 obtain ⟨n0, hn0⟩ : ∃ n, E.length = n := ⟨_, rfl⟩
 rw [hn0] at hbd hE0 ⊢
 rw [show LayP B W0 w tb m g E Ev p n0 = LayP B W0 w tb m g0 E0 Ev p n0 by rw [hg0, hEE]]
 have HN0 := hid hn0
 obtain ⟨np, hnp⟩ : ∃ n, p.length = n := ⟨_, rfl⟩
 rw [hnp] at hbd hp1 hp3 ⊢
 have HNP := hid hnp
 have H0 := hid h0
 clear h hok hcn hev hlf hb0 hp3 hpc hn0 hnp h0 hg0 hEE
 go_enter Tryz.func49, Tryz.ntmps49
 go_wp2_with fail
 go_loopw [7, 13] (fun av i wr => ∃ (d a : Nat) (X : List (List PStep)) (g c : Nat) (E : List NE) (M : Ways), i = .int .i64 d ∧ av = .int .i64 a ∧ d ≤ np ∧ Hid (TT B wr tb m (Ev ++ [(p, d)]) X g c E M) ∧ Hid (X[a]? = some (p.take d)) ∧ Hid (Below B W0 wr) ∧ Hid (E.length ≤ n0 + d) ∧ a < E.length ∧ Hid (∀ k, k < w.heap.size → Off tb m g0 E0 k → wr.heap[k]? = w.heap[k]? ∧ Off tb m g E k) ∧ Hid (w.heap.size ≤ wr.heap.size)) (fun _ i _ => np - (intOf i).toNat)
 case atStart => exact ⟨0, 0, X, g, c, E, M, rfl, rfl, Nat.zero_le _, hid ⟨HT.out.tm, HT.out.tri.start p, HT.out.cap⟩, hid (by rw [List.take_zero]; exact HT.out.tri.root), HB0, hid (by rw [HN0.out]; omega), by rw [HN0.out]; omega, hid (fun k _ hk => ⟨rfl, by rw [HG0.out, HEE.out]; exact hk⟩), hid (Nat.le_refl _)⟩
 case round =>
  clear HT HB0
  obtain ⟨d, a, X, g, c, E, M, rfl, rfl, hd, HT, HX, HB, HL, ha, HOF, HWS⟩ := hrel
  have hEl : E.length ≤ 9000000 := by have := HL.out; omega
  have hcE := HT.out.cap
  obtain ⟨e, he⟩ : ∃ e, E[a]? = some e := ⟨E[a], List.getElem?_eq_getElem ha⟩
  have HE := hid he
  have hem : (E.map NE.d)[a]? = some e.d := by rw [List.getElem?_map, he]; rfl
  have HEM := hid hem
  clear hem he
  by_cases hlt : d < np
  ·obtain ⟨s, hs⟩ : ∃ s, p[d]? = some s := ⟨p[d]'(by rw [HNP.out]; exact hlt), List.getElem?_eq_getElem _⟩
   have hsm := List.mem_of_getElem? hs
   have hso := HOK.out s hsm
   have hsc := HCN.out s hsm
   obtain ⟨c0, c1, c2, c3⟩ := HPC.out d s hs
   have hbb : Below W0.heap.size W0 wr := by have := HB.out; rwa [← H0.out] at this
   have c0 := keepCell hbb c0
   have c1 := keepCell hbb c1
   have c2 := keepCell hbb c2
   obtain rfl := HP3.out (by rw [HNP.out]; omega)
   have HS := hid hs
   have HSO := hid hso
   have HSC := hid hsc
   have HDB := hid (show d ≤ p.length by rw [HNP.out]; omega)
   clear hs hsm hso hsc hbb
   go_upto_region 5 with fail
   refine cewp_gen ?_
   intro W hW
   obtain ⟨b0, b1, b2, hbW⟩ := stp_of hW
   have HT1 := hid (HT.out.tm.onto hbW)
   have HB1 := hid ((Kp.of (B := B) hbW).bel H0.out HB.out)
   have HH := hid (holds_any B W tb m g c E M HT1.out a e HE.out s (by omega) hcE (HT.out.sh HE.out))
   have HBW := hid hbW
   clear hW hbW c0 c1 c2
   unfold pv at HH
   go_wp2_with fail
   go_at_call 91
   refine HH.out.mono ?_
   rintro r w1 ⟨rfl, hT2, hK2, hfar, hsz1⟩
   have HSZ := hid hsz1
   clear hsz1
   have hgl := (HT.out.tm.ns.lt g rfl).2
   have HFAR := hid hfar
   have hne : ¬ wr.heap.size = g := by omega
   have c0 := (World.cell?_of_block (a := ⟨wr.heap.size, 0, none⟩) (hfar wr.heap.size (World.block_lt_of_cell? W ⟨wr.heap.size, 0, none⟩ b0) hne)).trans b0
   have c1 := (World.cell?_of_block (a := ⟨wr.heap.size, 1, none⟩) (hfar wr.heap.size (World.block_lt_of_cell? W ⟨wr.heap.size, 0, none⟩ b0) hne)).trans b1
   have c2 := (World.cell?_of_block (a := ⟨wr.heap.size, 2, none⟩) (hfar wr.heap.size (World.block_lt_of_cell? W ⟨wr.heap.size, 0, none⟩ b0) hne)).trans b2
   clear b0 b1 b2 hfar hgl hne
   have HB2 := hid (hK2.bel H0.out HB1.out)
   have HKD := hid (hol_kd HS.out)
   by_cases hcl : nsh e.d.sh s = hol s
   ·have hdec : decide (nsh e.d.sh s = hol s) = true := decide_eq_true hcl
    have HSH := hid (show e.d.sh = 0 ∨ e.d.sh = kdP p d by
     unfold nsh at hcl
     by_cases h0 : e.d.sh = 0
     ·exact .inl h0
     ·rw [if_neg h0] at hcl
      exact .inr (hcl.trans HKD.out))
    rw [hcl, HKD.out] at hT2
    rw [hdec]
    have HT2 := hid hT2
    have HP := hid (part_tt B w1 tb m Ev X g c E M p d s HS.out a e HE.out HX.out HT.out.tri HSH.out HT2.out hcE (HT.out.ps HE.out) HSO.out HSC.out hEl lf HLF.out hlb)
    clear hdec hcl hT2
    unfold pv at HP
    go_wp2_with fail
    go_at_call 92
    refine HP.out.mono ?_
    rintro r w2 ⟨hK3, b, X', g', c', E', M', rfl, hTT, hX', hE', hb', hof', hsz'⟩
    have HOF2 := hid (show ∀ k, k < w.heap.size → Off tb m g0 E0 k → w2.heap[k]? = w.heap[k]? ∧ Off tb m g' E' k from fun k hk ho => by
     obtain ⟨f1, f2⟩ := HOF.out k hk ho
     have s1 := HWS.out
     have s2 := HBW.out.size
     have s3 := HSZ.out
     have e1 := (HFAR.out k (by omega) f2.2.2.1).trans (HBW.out.block k (by omega))
     obtain ⟨f3, f4⟩ := hof' k (by omega) f2
     exact ⟨f3.trans (e1.trans f1), f4⟩)
    have HWS2 := hid (show w.heap.size ≤ w2.heap.size from by have s1 := HWS.out; have s2 := HBW.out.size; have s3 := HSZ.out; have s4 := hsz'; omega)
    have HB3 := hid (hK3.bel H0.out HB2.out)
    have HTT := hid hTT
    have HX2 := hid hX'
    have HL2 := hid (show E'.length ≤ n0 + (d + 1) by have := HL.out; omega)
    have HBL := hid hb'
    clear hK3 hTT hX' hE' hb' hof' hsz' c0 c1 c2
    go_wp2_with fail
    go_roundw
    case rel => exact ⟨d + 1, b, X', g', c', E', M', val_int (by omega), rfl, hlt, HTT, HX2, HB3, HL2, HBL.out, HOF2, HWS2⟩
    case measure => simp [intOf]; omega
   ·have hdec : decide (nsh e.d.sh s = hol s) = false := decide_eq_false hcl
    rw [hdec]
    have HCL := hid (show ∃ x ∈ Ev, clP x.1 p = true from by
     have h0 : e.d.sh ≠ 0 := fun h0 => hcl (by unfold nsh; rw [if_pos h0])
     refine HT.out.tri.clash HDB.out HEM.out HX.out h0 (.inl fun h1 => hcl ?_)
     unfold nsh
     rw [if_neg h0, h1, HKD.out])
    clear hdec hcl hT2
    go_wp2_with fail
    go_ret
    exact ⟨HB2.out, .inl ⟨HCL.out, rfl⟩⟩
  ·have hdn : d = np := by omega
   subst hdn
   have HXP := hid (show X[a]? = some p by have := HX.out; rw [← HNP.out, List.take_length] at this; exact this)
   have HTP := hid (show Trw (Ev ++ [(p, p.length)]) X (E.map NE.d) M by have := HT.out.tri; rw [← HNP.out] at this; exact this)
   obtain ⟨q, hq⟩ : ∃ k, e.d.sh = k := ⟨_, rfl⟩
   have hsh := HT.out.sh HE.out
   rw [hq] at hsh
   have HQ := hid hq
   obtain ⟨q0, -, -⟩ := HT.out.tm.cells
   have q1 := HT.out.tm.at_ HE.out 0 _ rfl
   rw [hq, Nat.add_zero] at q1
   have qf : wr.frozen? ⟨g, a * 6, none⟩ = false := HT.out.tm.ns.frozenAt (a * 6)
   have HTW := hid (HT.out.tm)
   clear hq
   by_cases h0 : q = 0
   ·subst h0
    obtain ⟨hT3, hK3⟩ := HTW.out.set HE.out 1
    have hdone := HTP.out.done HEM.out HXP.out HQ.out
    have HDN := hid (show ∀ x ∈ Ev, clP x.1 p = false from fun x hx => hdone.2 x hx (HEV.out x hx))
    have HT4 := hid (show TT B (wr.setCell ⟨g, a * 6, none⟩ (.int .i64 1)) tb m (Ev ++ [(p, p.length + 1)]) X g c (E.set a ⟨{e.d with sh := 1}, e.u⟩) M from
     ⟨by rw [List.length_set]; exact hT3, by rw [map_set]; exact hdone.1, by rw [List.length_set]; exact hcE⟩)
    have HB4 := hid (hK3.bel H0.out HB.out)
    have HL4 := hid (show (E.set a ⟨{e.d with sh := 1}, e.u⟩).length ≤ n0 + p.length ∧ 0 < (E.set a ⟨{e.d with sh := 1}, e.u⟩).length by rw [List.length_set, HNP.out]; have := HL.out; omega)
    clear hT3 hK3 hdone
    go_wp2_with fail
    go_ret
    exact ⟨HB4.out, .inr ⟨HDN.out, rfl, X, g, c, _, M, HT4.out, HL4.out.1, HL4.out.2, fun k hk ho => ((set_grownW wr g (a * 6) _).block k (by have := HWS.out; omega) (fun e0 => (HOF.out k hk ho).2.2.2.1 (by injection e0))).trans (HOF.out k hk ho).1⟩⟩
   ·have HCL := hid (show ∃ x ∈ Ev, clP x.1 p = true from HTP.out.clash (Nat.le_refl _) HEM.out (by rw [List.take_length]; exact HXP.out) (by rw [HQ.out]; exact h0) (.inr (by unfold kdP; rw [List.getElem?_eq_none (Nat.le_refl _)])))
    have t0 : (q != 0) = true := by simpa using h0
    clear h0
    go_wp2_with fail
    go_ret
    exact ⟨HB.out, .inl ⟨HCL.out, rfl⟩⟩
end Go.Proofs.YteimbjamnfkapaaGreatDoor
/- Plain mathematics of the tree that has grown: its nodes' trees, its gaps. -/
namespace Go.Proofs.YteimbjamnfkapaaGreatDoor
open Go.RowKit
def SubOf (l : Lvs) (q : List PStep) (T : VT) : Prop := Nrm T ∧ ∀ r t, AllCn r → (LeafAt T r t ↔ (q ++ r, t) ∈ l)
theorem sub_tree {l : Lvs} {T : VT} (h : SubOf l [] T) : TreeOf l T := ⟨h.1, fun r t hr => by have := h.2 r t hr; simpa using this⟩
theorem AllCn.tail {s : PStep} {r : List PStep} (h : AllCn (s :: r)) : Cn s ∧ AllCn r := ⟨h s (by simp), fun x hx => h x (by simp [hx])⟩
theorem bare_get {k n : Int} {s : ByteArray} {K : List ByteArray} {x : PStep} {r : List PStep} (hx : Cn x) : getP (.mk k n s [] K []) (x :: r) = none := by
 rcases hx.cases with ⟨i, rfl⟩ | ⟨c, rfl⟩
 ·by_cases hk : k = 5
  ·subst hk; rw [get_lpl]; rfl
  ·exact get_lpl_no hk _ _ _ _ _ _ _
 ·by_cases hk : k = 6
  ·subst hk
   rw [getP_cons, idx_lky]
   cases firstI (keyIs c) K with
   | none => rfl
   | some j =>
    have e2 : kidT (.mk 6 n s [] K []) (lky c) j = none := by unfold kidT; rw [if_neg (lky_pl c)]; rfl
    rw [Option.bind_some, e2]; rfl
  ·exact get_lky_no hk _ _ _ _ _ _ _
theorem sub_leaf {l : Lvs} {q : List PStep} {T : VT} (h1 : T.ls = []) (h2 : T.vs = []) (hin : (q, T) ∈ l) (hone : ∀ r t, AllCn r → (q ++ r, t) ∈ l → r = [] ∧ t = T) : SubOf l q T := by
 refine ⟨.leaf h1 h2, fun r t hr => ⟨?_, fun h => ?_⟩⟩
 ·rintro ⟨h3, -⟩
  cases r with
  | nil =>
   simp only [getP, Option.some.injEq] at h3
   subst h3; simpa using hin
  | cons x r =>
   exfalso
   obtain ⟨k, n, s, L, K, V⟩ := T
   simp only [VT.ls, VT.vs] at h1 h2
   subst h1 h2
   rw [bare_get hr.tail.1] at h3
   cases h3
 ·obtain ⟨rfl, rfl⟩ := hone r t hr h
  exact ⟨rfl, h1, h2⟩
theorem sub_list {l : Lvs} {q : List PStep} {L : List VT} (hL : L ≠ []) (hk : ∀ (i : Nat) (t : VT), L[i]? = some t → SubOf l (q ++ [lpl i]) t) (hall : ∀ r t, AllCn r → (q ++ r, t) ∈ l → ∃ i r', r = lpl i :: r' ∧ i < L.length) : SubOf l q (.mk 5 0 ⟨#[]⟩ L [] []) := by
 refine ⟨.list hL (fun t ht => ?_), fun r t hr => ⟨?_, fun h => ?_⟩⟩
 ·obtain ⟨i, hi⟩ := List.getElem?_of_mem ht
  exact (hk i t hi).1
 ·rintro ⟨h3, h4, h5⟩
  cases r with
  | nil =>
   simp only [getP, Option.some.injEq] at h3
   subst h3
   exact absurd h4 hL
  | cons x r =>
   rcases hr.tail.1.cases with ⟨i, rfl⟩ | ⟨c, rfl⟩
   ·rw [get_lpl] at h3
    cases hi : L[i]? with
    | none => rw [hi] at h3; cases h3
    | some u =>
     rw [hi] at h3
     have := ((hk i u hi).2 r t hr.tail.2).1 ⟨h3, h4, h5⟩
     simpa using this
   ·rw [get_lky_no (by decide)] at h3; cases h3
 ·obtain ⟨i, r', rfl, hi⟩ := hall r t hr h
  have hu : L[i]? = some L[i] := List.getElem?_eq_getElem hi
  have h1 := ((hk i _ hu).2 r' t hr.tail.2).2 (by simpa using h)
  exact ⟨by rw [get_lpl, hu]; exact h1.1, h1.2⟩
theorem sub_map {l : Lvs} {q : List PStep} {K : List ByteArray} {V : List VT} (hV : V ≠ []) (hlen : K.length = V.length) (hs : Strict K) (hk : ∀ (j : Nat) (c : ByteArray) (t : VT), K[j]? = some c → V[j]? = some t → SubOf l (q ++ [lky c]) t) (hall : ∀ r t, AllCn r → (q ++ r, t) ∈ l → ∃ c r', r = lky c :: r' ∧ c ∈ K) : SubOf l q (.mk 6 0 ⟨#[]⟩ [] K V) := by
 have kof : ∀ (j : Nat) (t : VT), V[j]? = some t → ∃ c, K[j]? = some c := fun j t hj => ⟨_, List.getElem?_eq_getElem (by have := lt_of_some hj; omega)⟩
 refine ⟨.map hV hlen hs (fun t ht => ?_), fun r t hr => ⟨?_, fun h => ?_⟩⟩
 ·obtain ⟨i, hi⟩ := List.getElem?_of_mem ht
  obtain ⟨c, hc⟩ := kof i t hi
  exact (hk i c t hc hi).1
 ·rintro ⟨h3, h4, h5⟩
  cases r with
  | nil =>
   simp only [getP, Option.some.injEq] at h3
   subst h3
   exact absurd h5 hV
  | cons x r =>
   rcases hr.tail.1.cases with ⟨i, rfl⟩ | ⟨c, rfl⟩
   ·rw [get_lpl_no (by decide)] at h3; cases h3
   ·by_cases hc : c ∈ K
    ·obtain ⟨j, hj⟩ := List.getElem?_of_mem hc
     have hv : V[j]? = some (V[j]'(by have := lt_of_some hj; omega)) := List.getElem?_eq_getElem _
     rw [get_lky 0 _ _ hs hj hv] at h3
     have := ((hk j c _ hj hv).2 r t hr.tail.2).1 ⟨h3, h4, h5⟩
     simpa using this
    ·rw [get_lky_out 0 _ _ hc] at h3; cases h3
 ·obtain ⟨c, r', rfl, hc⟩ := hall r t hr h
  obtain ⟨j, hj⟩ := List.getElem?_of_mem hc
  have hv : V[j]? = some (V[j]'(by have := lt_of_some hj; omega)) := List.getElem?_eq_getElem _
  have h1 := ((hk j c _ hj hv).2 r' t hr.tail.2).2 (by simpa using h)
  exact ⟨by rw [get_lky 0 _ _ hs hj hv]; exact h1.1, h1.2⟩
def evL (l : Lvs) : Evd := l.map fun e => (e.1, e.1.length + 1)
theorem evL_at {l : Lvs} {j : Nat} {x : List PStep × Nat} (h : (evL l)[j]? = some x) : ∃ e, l[j]? = some e ∧ x = (e.1, e.1.length + 1) := by
 unfold evL at h
 rw [List.getElem?_map] at h
 obtain ⟨e, he, rfl⟩ := Option.map_eq_some_iff.1 h
 exact ⟨e, he, rfl⟩
theorem evL_mem {l : Lvs} {x : List PStep × Nat} (h : x ∈ evL l) : ∃ e ∈ l, x = (e.1, e.1.length + 1) := by
 obtain ⟨e, he, rfl⟩ := List.mem_map.1 h
 exact ⟨e, he, rfl⟩
theorem evL_in {l : Lvs} {e : List PStep × VT} (h : e ∈ l) : (e.1, e.1.length + 1) ∈ evL l := List.mem_map.2 ⟨e, h, rfl⟩
theorem tk_app (q r : List PStep) : (q ++ r).take q.length = q := by simp
def kdR : List PStep → Int | [] => 1 | s :: _ => if s.place = true then 2 else 3
theorem kd_app (q r : List PStep) : kdP (q ++ r) q.length = kdR r := by
 unfold kdP
 rw [List.getElem?_append_right (Nat.le_refl _), Nat.sub_self]
 cases r with
 | nil => rfl
 | cons s r => rfl
def Fine (l : Lvs) : Prop := ∀ k, badE l k = 0
theorem Fine.bare {l : Lvs} (h : Fine l) {e : List PStep × VT} (he : e ∈ l) : e.2.ls = [] ∧ e.2.vs = [] := by
 obtain ⟨i, hi⟩ := List.getElem?_of_mem he
 have := h i
 unfold badE at this
 rw [hi] at this
 simp only at this
 by_cases hp : partsB e.2 = true
 ·rw [if_pos hp] at this; cases this
 ·unfold partsB at hp
  simp at hp
  exact hp
theorem Fine.apart {l : Lvs} (h : Fine l) {i j : Nat} {e e' : List PStep × VT} (hi : l[i]? = some e) (hj : l[j]? = some e') (hij : i < j) : clP e.1 e'.1 = false := by
 have := h j
 unfold badE at this
 rw [hj] at this
 simp only at this
 by_cases hp : partsB e'.2 = true
 ·rw [if_pos hp] at this; cases this
 ·rw [if_neg hp] at this
  cases hc : clP e.1 e'.1 with
  | false => rfl
  | true =>
   rw [if_pos (List.any_eq_true.2 ⟨e, by
    rw [List.mem_iff_getElem?]
    exact ⟨i, by rw [List.getElem?_take, if_pos hij]; exact hi⟩, hc⟩)] at this
   cases this
theorem clP_comm (p q : List PStep) : clP p q = clP q p := by
 have key : ∀ p q : List PStep, clP p q = true → clP q p = true := fun p q h => by
  obtain ⟨j, h1, h2, h3, h4⟩ := (clP_iff _ _).1 h
  refine (clP_iff _ _).2 ⟨j, h2, h1, h3.symm, ?_⟩
  rcases h4 with h4 | h4
  ·exact .inl (fun e => h4 e.symm)
  ·by_cases e : kdP q j = 1
   ·exact .inr e
   ·exact .inl (by rw [h4]; exact e)
 cases h1 : clP p q <;> cases h2 : clP q p
 ·rfl
 ·rw [key _ _ h2] at h1; cases h1
 ·rw [key _ _ h1] at h2; cases h2
 ·rfl
theorem Fine.pre {l : Lvs} (h : Fine l) {e e' : List PStep × VT} (he : e ∈ l) (he' : e' ∈ l) {r : List PStep} (hr : e'.1 = e.1 ++ r) : r = [] ∧ e' = e := by
 obtain ⟨i, hi⟩ := List.getElem?_of_mem he
 obtain ⟨j, hj⟩ := List.getElem?_of_mem he'
 have hcl : clP e.1 e'.1 = true := (clP_iff _ _).2 ⟨e.1.length, Nat.le_refl _, by rw [hr]; simp, by rw [hr]; simp, by
  right
  unfold kdP; rw [List.getElem?_eq_none (Nat.le_refl _)]⟩
 rcases Nat.lt_trichotomy i j with h1 | h1 | h1
 ·rw [h.apart hi hj h1] at hcl; cases hcl
 ·subst h1
  rw [hi] at hj; injection hj with hj
  subst hj
  have := congrArg List.length hr
  simp at this
  exact ⟨this, rfl⟩
 ·rw [clP_comm, h.apart hj hi h1] at hcl; cases hcl
structure Grown (l : Lvs) (X : List (List PStep)) (N : List Nd) (M : List ((Nat × PStep) × Nat)) : Prop where
 tri : Trw (evL l) X N M
 ne : l ≠ []
 fine : Fine l
 cn : ∀ e ∈ l, AllCn e.1
theorem Grown.kind {l : Lvs} {X : List (List PStep)} {N : List Nd} {M : List ((Nat × PStep) × Nat)} (h : Grown l X N M) {a : Nat} {n : Nd} {q : List PStep} (hn : N[a]? = some n) (hq : X[a]? = some q) {e : List PStep × VT} (he : e ∈ l) {r : List PStep} (hr : e.1 = q ++ r) : n.sh = kdR r := by
 rw [← kd_app q r, ← hr]
 refine h.tri.sh1 a n q _ hn hq ⟨_, evL_in he, q.length, ?_, ?_, ?_, rfl⟩
 ·simp only; rw [hr]; simp; omega
 ·simp only; rw [hr]; simp
 ·simp only; rw [hr, tk_app]
theorem Grown.any_ {l : Lvs} {X : List (List PStep)} {N : List Nd} {M : List ((Nat × PStep) × Nat)} (h : Grown l X N M) {q : List PStep} (hq : q ∈ X) : ∃ e ∈ l, ∃ r, e.1 = q ++ r := by
 rcases (h.tri.mem q).1 hq with rfl | ⟨x, hx, j, h1, h2, rfl⟩
 ·obtain ⟨e, t, rfl⟩ := List.exists_cons_of_ne_nil h.ne
  exact ⟨e, by simp, e.1, rfl⟩
 ·obtain ⟨e, he, rfl⟩ := evL_mem hx
  exact ⟨e, he, e.1.drop j, (List.take_append_drop j e.1).symm⟩
theorem Grown.node {l : Lvs} {X : List (List PStep)} {N : List Nd} {M : List ((Nat × PStep) × Nat)} (h : Grown l X N M) {e : List PStep × VT} (he : e ∈ l) {q r : List PStep} (hr : e.1 = q ++ r) : q ∈ X :=
 (h.tri.mem q).2 (.inr ⟨_, evL_in he, q.length, by simp only; rw [hr]; simp; omega, by simp only; rw [hr]; simp, by simp only; rw [hr, tk_app]⟩)
theorem Grown.ix_ {l : Lvs} {X : List (List PStep)} {N : List Nd} {M : List ((Nat × PStep) × Nat)} (h : Grown l X N M) {q : List PStep} (hq : q ∈ X) : ∃ (a : Nat) (n : Nd), X[a]? = some q ∧ N[a]? = some n := by
 obtain ⟨a, ha⟩ := List.getElem?_of_mem hq
 exact ⟨a, _, ha, List.getElem?_eq_getElem (by rw [← h.tri.len]; exact lt_of_some ha)⟩
theorem Grown.leaf {l : Lvs} {X : List (List PStep)} {N : List Nd} {M : List ((Nat × PStep) × Nat)} (h : Grown l X N M) {a : Nat} {n : Nd} {q : List PStep} (hn : N[a]? = some n) (hq : X[a]? = some q) (hs : n.sh = 1) : ∃ e, l[n.lf]? = some e ∧ e.1 = q := by
 rcases h.tri.lf a n q hn hq with ⟨rfl, h0⟩ | ⟨x, hx, ⟨j, h1, h2, rfl⟩, -⟩
 ·have : q = [] := by have := h.tri.root; rw [hq] at this; injection this
  subst this
  obtain ⟨e, t, rfl⟩ := List.exists_cons_of_ne_nil h.ne
  refine ⟨e, by rw [h0]; rfl, ?_⟩
  have := h.kind hn hq (e := e) (by simp) (r := e.1) rfl
  rw [hs] at this
  cases he : e.1 with
  | nil => rfl
  | cons s r => rw [he] at this; simp only [kdR] at this; split at this <;> cases this
 ·obtain ⟨e, he, rfl⟩ := evL_at hx
  refine ⟨e, he, ?_⟩
  simp only at h2 hq ⊢
  have := h.kind hn hq (List.mem_of_getElem? he) (r := e.1.drop j) (List.take_append_drop j e.1).symm
  rw [hs] at this
  cases hd : e.1.drop j with
  | nil =>
   have h5 := List.take_append_drop j e.1
   rw [hd, List.append_nil] at h5
   exact h5.symm
  | cons s r => rw [hd] at this; simp only [kdR] at this; split at this <;> cases this
theorem Grown.leaf_sub {l : Lvs} {X : List (List PStep)} {N : List Nd} {M : List ((Nat × PStep) × Nat)} (h : Grown l X N M) {a : Nat} {n : Nd} {q : List PStep} (hn : N[a]? = some n) (hq : X[a]? = some q) (hs : n.sh = 1) {e : List PStep × VT} (he : l[n.lf]? = some e) : SubOf l q e.2 := by
 obtain ⟨e', he', hq'⟩ := h.leaf hn hq hs
 rw [he] at he'; injection he' with he'; subst he'
 have hm := List.mem_of_getElem? he
 obtain ⟨h1, h2⟩ := h.fine.bare hm
 refine sub_leaf h1 h2 (by rw [← hq']; exact hm) (fun r t hr ht => ?_)
 obtain ⟨h3, h4⟩ := h.fine.pre hm ht (r := r) (by rw [hq'])
 exact ⟨h3, by rw [← h4]⟩
theorem Grown.part {l : Lvs} {X : List (List PStep)} {N : List Nd} {M : List ((Nat × PStep) × Nat)} (h : Grown l X N M) {a : Nat} {n : Nd} {q : List PStep} (hn : N[a]? = some n) (hq : X[a]? = some q) {b : Nat} (hb : b ∈ n.ps) : ∃ nb, N[b]? = some nb ∧ X[b]? = some (q ++ [nb.st]) ∧ Cn nb.st ∧ nb.st.place = decide (n.sh = 2) ∧ n.sh ≠ 1 := by
 obtain ⟨s, hs⟩ := ((h.tri.ps a n q hn hq).2 b).1 hb
 obtain ⟨nb, hnb⟩ : ∃ nb, N[b]? = some nb := ⟨_, List.getElem?_eq_getElem (by rw [← h.tri.len]; exact lt_of_some hs)⟩
 have hst := h.tri.st b nb q s hnb hs
 obtain ⟨e, he, r, hr⟩ := h.any_ (List.mem_of_getElem? hs)
 have hk := h.kind hn hq he (r := s :: r) (by rw [hr]; simp)
 simp only [kdR] at hk
 subst hst
 refine ⟨nb, hnb, hs, h.cn e he _ (by rw [hr]; simp), ?_, ?_⟩
 ·rw [hk]; cases nb.st.place <;> rfl
 ·rw [hk]; split <;> decide
theorem Grown.has {l : Lvs} {X : List (List PStep)} {N : List Nd} {M : List ((Nat × PStep) × Nat)} (h : Grown l X N M) {a : Nat} {n : Nd} {q : List PStep} (hn : N[a]? = some n) (hq : X[a]? = some q) {e : List PStep × VT} (he : e ∈ l) {s : PStep} {r : List PStep} (hr : e.1 = q ++ s :: r) : ∃ b ∈ n.ps, ∃ nb, N[b]? = some nb ∧ X[b]? = some (q ++ [s]) ∧ nb.st = s := by
 have hx : q ++ [s] ∈ X := h.node he (r := r) (by rw [hr]; simp)
 obtain ⟨b, nb, h1, h2⟩ := h.ix_ hx
 exact ⟨b, ((h.tri.ps a n q hn hq).2 b).2 ⟨s, h1⟩, nb, h2, h1, h.tri.st b nb q s h2 h1⟩
theorem Grown.ps_ne {l : Lvs} {X : List (List PStep)} {N : List Nd} {M : List ((Nat × PStep) × Nat)} (h : Grown l X N M) {a : Nat} {n : Nd} {q : List PStep} (hn : N[a]? = some n) (hq : X[a]? = some q) (hs : n.sh ≠ 1) : n.ps ≠ [] := by
 obtain ⟨e, he, r, hr⟩ := h.any_ (List.mem_of_getElem? hq)
 cases r with
 | nil => exact absurd (h.kind hn hq he hr) hs
 | cons s r =>
  obtain ⟨b, hb, -⟩ := h.has hn hq he hr
  intro e0; rw [e0] at hb; simp at hb
theorem Grown.sh {l : Lvs} {X : List (List PStep)} {N : List Nd} {M : List ((Nat × PStep) × Nat)} (h : Grown l X N M) {a : Nat} {n : Nd} {q : List PStep} (hn : N[a]? = some n) (hq : X[a]? = some q) : n.sh = 1 ∨ n.sh = 2 ∨ n.sh = 3 := by
 obtain ⟨e, he, r, hr⟩ := h.any_ (List.mem_of_getElem? hq)
 rw [h.kind hn hq he hr]
 cases r with
 | nil => exact .inl rfl
 | cons s r => simp only [kdR]; split; exact .inr (.inl rfl); exact .inr (.inr rfl)
def plN (N : List Nd) (b : Nat) : Nat := ((N[b]?).map fun n => n.st.at_.toNat).getD 0
theorem Grown.place {l : Lvs} {X : List (List PStep)} {N : List Nd} {M : List ((Nat × PStep) × Nat)} (h : Grown l X N M) {a : Nat} {n : Nd} {q : List PStep} (hn : N[a]? = some n) (hq : X[a]? = some q) (hs : n.sh = 2) {b : Nat} (hb : b ∈ n.ps) : ∃ nb, N[b]? = some nb ∧ X[b]? = some (q ++ [lpl (plN N b)]) ∧ nb.st = lpl (plN N b) := by
 obtain ⟨nb, h1, h2, h3, h4, -⟩ := h.part hn hq hb
 rw [hs] at h4
 rcases h3.cases with ⟨i, hi⟩ | ⟨c, hc⟩
 ·have : plN N b = i := by unfold plN; rw [h1]; simp [hi, lpl]
  rw [this]
  exact ⟨nb, h1, by rw [← hi]; exact h2, hi⟩
 ·rw [hc] at h4; cases h4
theorem lpl_inj {i j : Nat} (h : lpl i = lpl j) : i = j := by
 unfold lpl at h
 injection h with h1 h2
 omega
theorem Grown.pl_nodup {l : Lvs} {X : List (List PStep)} {N : List Nd} {M : List ((Nat × PStep) × Nat)} (h : Grown l X N M) {a : Nat} {n : Nd} {q : List PStep} (hn : N[a]? = some n) (hq : X[a]? = some q) (hs : n.sh = 2) : (n.ps.map (plN N)).Nodup := by
 have h1 := (h.tri.ps a n q hn hq).1
 have key : ∀ L : List Nat, L.Nodup → (∀ b ∈ L, b ∈ n.ps) → (L.map (plN N)).Nodup := fun L => by
  induction L with
  | nil => intro _ _; exact List.nodup_nil
  | cons b L ih =>
   intro h2 h3
   rw [List.map_cons, List.nodup_cons]
   obtain ⟨h4, h5⟩ := List.nodup_cons.1 h2
   refine ⟨fun hm => ?_, ih h5 (fun c hc => h3 c (by simp [hc]))⟩
   obtain ⟨c, hc, e⟩ := List.mem_map.1 hm
   obtain ⟨nb, -, h6, -⟩ := h.place hn hq hs (h3 b (by simp))
   obtain ⟨nc, -, h7, -⟩ := h.place hn hq hs (h3 c (by simp [hc]))
   rw [e] at h7
   have := ix_inj h.tri.nd h6 h7
   subst this
   exact h4 hc
 exact key n.ps h1 (fun _ h => h)
theorem Grown.whole {l : Lvs} {X : List (List PStep)} {N : List Nd} {M : List ((Nat × PStep) × Nat)} (h : Grown l X N M) {a : Nat} {n : Nd} {q : List PStep} (hn : N[a]? = some n) (hq : X[a]? = some q) (hs : n.sh = 2) : (∀ b ∈ n.ps, plN N b < n.ps.length) ↔ WholeAt l q := by
 have hpl : ∀ x : Int, PlaceAt l q x ↔ ∃ b ∈ n.ps, ((plN N b : Nat) : Int) = x := fun x => by
  constructor
  ·rintro ⟨e, he, s, ⟨r, hr⟩, rfl⟩
   obtain ⟨b, hb, nb, h1, h2, h3⟩ := h.has hn hq he (s := s) (r := r) (by rw [← hr]; simp)
   obtain ⟨nb', h1', -, h3'⟩ := h.place hn hq hs hb
   rw [h1] at h1'; injection h1' with h1'; subst h1'
   exact ⟨b, hb, by rw [← h3, h3']; rfl⟩
  ·rintro ⟨b, hb, rfl⟩
   obtain ⟨nb, h1, h2, h3⟩ := h.place hn hq hs hb
   obtain ⟨e, he, r, hr⟩ := h.any_ (List.mem_of_getElem? h2)
   exact ⟨e, he, _, ⟨r, hr.symm⟩, rfl⟩
 have hF := full_iff (h.pl_nodup hn hq hs)
 rw [List.length_map] at hF
 constructor
 ·intro h1 x hx k hk0 hk
  obtain ⟨b, hb, rfl⟩ := (hpl x).1 hx
  have h2 := hF.2 (fun y hy => by
   obtain ⟨c, hc, rfl⟩ := List.mem_map.1 hy
   exact h1 c hc)
  have := h2 (plN N b) (List.mem_map.2 ⟨b, hb, rfl⟩) k.toNat (by omega)
  obtain ⟨c, hc, hck⟩ := List.mem_map.1 this
  exact (hpl k).2 ⟨c, hc, by omega⟩
 ·intro h1 b hb
  refine hF.1 (fun y hy k hk => ?_) _ (List.mem_map.2 ⟨b, hb, rfl⟩)
  obtain ⟨c, hc, rfl⟩ := List.mem_map.1 hy
  obtain ⟨c', hc', e⟩ := (hpl (k : Int)).1 (h1 _ ((hpl _).2 ⟨c, hc, rfl⟩) k (by omega) (by omega))
  exact List.mem_map.2 ⟨c', hc', by omega⟩
def Well (N : List Nd) (n : Nd) : Prop := n.sh = 2 → ∀ b ∈ n.ps, plN N b < n.ps.length
theorem Grown.no_gap {l : Lvs} {X : List (List PStep)} {N : List Nd} {M : List ((Nat × PStep) × Nat)} (h : Grown l X N M) (hw : ∀ n ∈ N, Well N n) (k : Nat) : ¬ GapAt l k := by
 rintro ⟨e, he, q, s, ⟨r, hr⟩, hp, hg⟩
 have hm := List.mem_of_getElem? he
 obtain ⟨a, n, h1, h2⟩ := h.ix_ (h.node hm (q := q) (r := s :: r) (by rw [← hr]; simp))
 have hk := h.kind h2 h1 hm (r := s :: r) (by rw [← hr]; simp)
 simp only [kdR, hp, if_true] at hk
 exact hg ((h.whole h2 h1 hk).1 (hw n (List.mem_of_getElem? h2) hk))
theorem Grown.gap {l : Lvs} {X : List (List PStep)} {N : List Nd} {M : List ((Nat × PStep) × Nat)} (h : Grown l X N M) {a : Nat} {n : Nd} (hn : N[a]? = some n) (hw : ∀ (c : Nat) (m : Nd), c < a → N[c]? = some m → Well N m) (hb : ¬ Well N n) : GapAt l n.lf ∧ ∀ k, k < n.lf → ¬ GapAt l k := by
 obtain ⟨q, hq⟩ : ∃ q, X[a]? = some q := ⟨_, List.getElem?_eq_getElem (by rw [h.tri.len]; exact lt_of_some hn)⟩
 have hs : n.sh = 2 := by
  by_cases e : n.sh = 2
  ·exact e
  ·exact absurd (fun h0 => absurd h0 e) hb
 have hnw : ¬ WholeAt l q := fun hwh => hb (fun _ => (h.whole hn hq hs).2 hwh)
 refine ⟨?_, fun k hk => ?_⟩
 ·have fin : ∀ (e : List PStep × VT) (r : List PStep), l[n.lf]? = some e → e.1 = q ++ r → GapAt l n.lf := fun e r he hr => by
   have hkk := h.kind hn hq (List.mem_of_getElem? he) hr
   rw [hs] at hkk
   cases r with
   | nil => cases hkk
   | cons s r =>
    refine ⟨e, he, q, s, ⟨r, by rw [hr]; simp⟩, ?_, hnw⟩
    simp only [kdR] at hkk
    cases hp : s.place with
    | true => rfl
    | false => rw [hp] at hkk; simp at hkk
  rcases h.tri.lf a n q hn hq with ⟨rfl, h0⟩ | ⟨x, hx, ⟨j, h1, h2, h3⟩, -⟩
  ·have : q = [] := by have := h.tri.root; rw [hq] at this; injection this
   subst this
   obtain ⟨e, t, hl⟩ := List.exists_cons_of_ne_nil h.ne
   exact fin e e.1 (by rw [h0, hl]; rfl) rfl
  ·obtain ⟨e, he, rfl⟩ := evL_at hx
   exact fin e (e.1.drop j) he (by rw [h3]; exact (List.take_append_drop j e.1).symm)
 ·rintro ⟨e, he, q', s, ⟨r, hr⟩, hp, hg⟩
  have hm := List.mem_of_getElem? he
  obtain ⟨c, m, h1, h2⟩ := h.ix_ (h.node hm (q := q') (r := s :: r) (by rw [← hr]; simp))
  have hkk := h.kind h2 h1 hm (r := s :: r) (by rw [← hr]; simp)
  simp only [kdR, hp, if_true] at hkk
  have hnm : ¬ Well N m := fun hwm => hg ((h.whole h2 h1 hkk).1 (hwm hkk))
  have hca : a ≤ c := by
   rcases Nat.lt_or_ge c a with h3 | h3
   ·exact absurd (hw c m h3 h2) hnm
   ·exact h3
  have hmono := h.tri.mono a c n m hca hn h2
  rcases h.tri.lf c m q' h2 h1 with ⟨-, h0⟩ | ⟨x, hx, -, h3⟩
  ·omega
  ·have hy : (evL l)[k]? = some (e.1, e.1.length + 1) := by unfold evL; rw [List.getElem?_map, he]; rfl
   exact h3 k _ (by omega) hy ⟨q'.length, by simp only; rw [← hr]; simp; omega, by simp only; rw [← hr]; simp, by simp only; rw [← hr]; simp⟩
end Go.Proofs.YteimbjamnfkapaaGreatDoor
