/- Trees that may be: the mathematics of it. -/
import Derived.Test.YtjcgkihkjjaefaaGreatDoorHVNode
import Derived.Test.YtjcgkihkjjaefaaGreatDoorHVBase
import Derived.Test.YtjcgkihkjjaefaaGreatDoorHPathOne
import Derived.Test.YtjcgkihkjjaefaaGreatDoorHMathFc
import Derived.Shelf.SlicesE.Clone
import Derived.Test.YtjcgkihkjjaefaaGreatDoorHPathDoc
import Derived.Test.YtjcgkihkjjaefaaGreatDoorHPathTree
import Derived.Test.YtjcgkihkjjaefaaGreatDoorHPathTwo
import Derived.Deep.RegionHeld
import Derived.Test.YtjcgkihkjjaefaaGreatDoorHVSameT
namespace Go.Proofs.YtjcgkihkjjaefaaGreatDoor
open Go.RowKit

mutual
/-- a tree may be, whatever its size -/
def plainT : VT → Bool
  | .mk k n s L K V => nodeB (.mk k n s L K V) && plainL L && plainL V
def plainL : List VT → Bool
  | [] => true
  | t :: r => plainT t && plainL r
end
theorem plainT_eq (T : VT) : plainT T = (nodeB T && plainL T.ls && plainL T.vs) := by cases T; rw [plainT]; rfl
theorem plainL_get : ∀ (L : List VT), plainL L = true ↔ ∀ (i : Nat) (t : VT), L[i]? = some t → plainT t = true
  | [] => by simp [plainL]
  | a :: r => by
    simp only [plainL, Bool.and_eq_true]
    rw [plainL_get r]
    constructor
    · rintro ⟨h1, h2⟩ i t hi
      cases i with
      | zero => simp at hi; subst hi; exact h1
      | succ i => simp at hi; exact h2 i t hi
    · intro g
      exact ⟨g 0 a rfl, fun i t hi => g (i + 1) t (by simpa using hi)⟩
theorem hgL_get : ∀ (L : List VT) (m : Nat), hgL L ≤ m ↔ ∀ (i : Nat) (t : VT), L[i]? = some t → hgT t ≤ m
  | [], m => by simp [hgL]
  | a :: r, m => by
    simp only [hgL, Nat.max_le]
    rw [hgL_get r m]
    constructor
    · rintro ⟨h1, h2⟩ i t hi
      cases i with
      | zero => simp at hi; subst hi; exact h1
      | succ i => simp at hi; exact h2 i t hi
    · intro g
      exact ⟨g 0 a rfl, fun i t hi => g (i + 1) t (by simpa using hi)⟩
/-- a tree may be, with so many nodes ahead of it, so deep below the top -/
def mayB (c d : Int) (T : VT) : Bool := decide (c + szT T ≤ 4096 ∧ d + hgT T ≤ 33) && plainT T
theorem good_node {c d : Int} {T : VT} (h : mayB c d T = true) : c + 1 ≤ 4096 ∧ d ≤ 32 ∧ nodeB T = true := by
  unfold mayB at h
  simp only [Bool.and_eq_true, decide_eq_true_eq] at h
  have h1 := szT_pos T; have h2 := hgT_pos T
  have h3 := h.2
  rw [plainT_eq] at h3
  simp only [Bool.and_eq_true] at h3
  exact ⟨by omega, by omega, h3.1.1⟩
theorem hg_ls (T : VT) : hgL T.ls + 1 ≤ hgT T ∧ hgL T.vs + 1 ≤ hgT T := by cases T; simp only [hgT, VT.ls, VT.vs]; omega
theorem sz_both (T : VT) : szT T = 1 + szL T.ls + szL T.vs := by cases T; simp only [szT, VT.ls, VT.vs]
theorem hg_both (T : VT) : hgT T = 1 + max (hgL T.ls) (hgL T.vs) := by cases T; simp only [hgT, VT.ls, VT.vs]
theorem good_ls {c d : Int} {T : VT} (h : mayB c d T = true) (i : Nat) (t : VT) (ht : T.ls[i]? = some t) : mayB (c + 1 + szL (T.ls.take i)) (d + 1) t = true := by
  unfold mayB at *
  simp only [Bool.and_eq_true, decide_eq_true_eq] at *
  have h3 := h.2
  rw [plainT_eq] at h3
  simp only [Bool.and_eq_true] at h3
  have h4 := szL_take_succ T.ls i t ht
  have h5 := szL_take_le T.ls (i + 1)
  have h6 := (hgL_get T.ls _).1 (Nat.le_refl _) i t ht
  have h7 := hg_ls T
  have h8 := sz_both T
  exact ⟨⟨by omega, by omega⟩, (plainL_get _).1 h3.1.2 i t ht⟩
theorem good_vs {c d : Int} {T : VT} (h : mayB c d T = true) (i : Nat) (t : VT) (ht : T.vs[i]? = some t) : mayB (c + 1 + szL T.ls + szL (T.vs.take i)) (d + 1) t = true := by
  unfold mayB at *
  simp only [Bool.and_eq_true, decide_eq_true_eq] at *
  have h3 := h.2
  rw [plainT_eq] at h3
  simp only [Bool.and_eq_true] at h3
  have h4 := szL_take_succ T.vs i t ht
  have h5 := szL_take_le T.vs (i + 1)
  have h6 := (hgL_get T.vs _).1 (Nat.le_refl _) i t ht
  have h7 := hg_ls T
  have h8 := sz_both T
  exact ⟨⟨by omega, by omega⟩, (plainL_get _).1 h3.2 i t ht⟩
theorem good_sz {c d : Int} {T : VT} (h : mayB c d T = true) : c + szT T ≤ 4096 ∧ d + hgT T ≤ 33 ∧ plainT T = true := by
  unfold mayB at h
  simp only [Bool.and_eq_true, decide_eq_true_eq] at h
  exact ⟨h.1.1, h.1.2, h.2⟩
theorem good_all {c d : Int} {T : VT} (hd : d ≤ 32) (hc : c + 1 + szL T.ls + szL T.vs ≤ 4096) (hn : nodeB T = true) (h1 : ∀ (i : Nat) (t : VT), T.ls[i]? = some t → d + 1 + hgT t ≤ 33 ∧ plainT t = true) (h2 : ∀ (i : Nat) (t : VT), T.vs[i]? = some t → d + 1 + hgT t ≤ 33 ∧ plainT t = true) : mayB c d T = true := by
  unfold mayB
  have h8 := sz_both T
  have h9 := hg_both T
  have g1 := (hgL_get T.ls (32 - d).toNat).2 (fun i t h => by have := (h1 i t h).1; omega)
  have g2 := (hgL_get T.vs (32 - d).toNat).2 (fun i t h => by have := (h2 i t h).1; omega)
  rw [plainT_eq, hn, (plainL_get _).2 (fun i t h => (h1 i t h).2), (plainL_get _).2 (fun i t h => (h2 i t h).2), decide_eq_true (by constructor <;> omega)]
  rfl
end Go.Proofs.YtjcgkihkjjaefaaGreatDoor
/- Plain mathematics of leaves: the parts of a tree that have no parts, with their paths. -/
namespace Go.Proofs.YtjcgkihkjjaefaaGreatDoor

def lpl (i : Nat) : PStep := ⟨⟨#[]⟩, i, true⟩
def lky (c : ByteArray) : PStep := ⟨c, 0, false⟩
mutual
def lfT : VT → List PStep → List (List PStep × VT)
  | .mk k n s L K V, p => if k = 5 ∧ 0 < L.length then lfL L 0 p else if k = 6 ∧ 0 < V.length then lfM V K p else [(p, .mk k n s L K V)]
def lfL : List VT → Nat → List PStep → List (List PStep × VT)
  | [], _, _ => []
  | t :: r, i, p => lfT t (p ++ [lpl i]) ++ lfL r (i + 1) p
def lfM : List VT → List ByteArray → List PStep → List (List PStep × VT)
  | [], _, _ => []
  | t :: r, K, p => lfT t (p ++ [lky (K.headD ⟨#[]⟩)]) ++ lfM r K.tail p
end
theorem lfT_at (T : VT) (p : List PStep) : lfT T p = if T.kd = 5 ∧ 0 < T.ls.length then lfL T.ls 0 p else if T.kd = 6 ∧ 0 < T.vs.length then lfM T.vs T.ks p else [(p, T)] := by
  cases T with
  | mk k n s L K V => rw [lfT]; rfl
theorem lfL_snoc (t : VT) (p : List PStep) : ∀ (A : List VT) (i : Nat), lfL (A ++ [t]) i p = lfL A i p ++ lfT t (p ++ [lpl (i + A.length)])
  | [], i => by simp [lfL]
  | a :: A, i => by
    show lfT a _ ++ lfL (A ++ [t]) (i + 1) p = _
    rw [lfL_snoc t p A (i + 1)]
    show _ = (lfT a _ ++ lfL A (i + 1) p) ++ _
    rw [List.append_assoc, List.length_cons, show i + 1 + A.length = i + (A.length + 1) by omega]
theorem lfM_snoc (t : VT) (p : List PStep) : ∀ (A : List VT) (K : List ByteArray) (c : ByteArray), K[A.length]? = some c → lfM (A ++ [t]) K p = lfM A K p ++ lfT t (p ++ [lky c])
  | [], K, c, h => by
    cases K with
    | nil => simp at h
    | cons d K => simp at h; subst h; simp [lfM]
  | a :: A, K, c, h => by
    show lfT a _ ++ lfM (A ++ [t]) K.tail p = _
    rw [lfM_snoc t p A K.tail c (by cases K with | nil => simp at h | cons d K => simpa using h)]
    show _ = (lfT a _ ++ lfM A K.tail p) ++ _
    rw [List.append_assoc]
mutual
theorem lfT_len : ∀ (T : VT) (p : List PStep), (lfT T p).length ≤ szT T
  | .mk k _ _ L K V, p => by
    have h1 := lfL_len L 0 p
    have h2 := lfM_len V K p
    simp only [lfT, szT]
    split
    · omega
    · split
      · omega
      · simp only [List.length_cons, List.length_nil]; omega
theorem lfL_len : ∀ (L : List VT) (i : Nat) (p : List PStep), (lfL L i p).length ≤ szL L
  | [], _, _ => Nat.zero_le _
  | t :: r, i, p => by
    have h1 := lfT_len t (p ++ [lpl i])
    have h2 := lfL_len r (i + 1) p
    simp only [lfL, szL, List.length_append]; omega
theorem lfM_len : ∀ (V : List VT) (K : List ByteArray) (p : List PStep), (lfM V K p).length ≤ szL V
  | [], _, _ => Nat.zero_le _
  | t :: r, K, p => by
    have h1 := lfT_len t (p ++ [lky (K.headD ⟨#[]⟩)])
    have h2 := lfM_len r K.tail p
    simp only [lfM, szL, List.length_append]; omega
end
theorem ndc_len {T : VT} (h : nodeB T = true) : (T.kd = 5 ∨ T.ls = []) ∧ (T.kd = 6 ∨ T.vs = []) := by
  cases T with
  | mk k n s L K V =>
  show (k = 5 ∨ L = []) ∧ (k = 6 ∨ V = [])
  change nodeC k n (n == 0) s.toList.isEmpty ((L.length : Int) == 0) ((V.length : Int) == 0) (numB s.data.toList && !intB s.data.toList) (teI s == 0) (stampB s) (keysB K) = true at h
  unfold nodeC at h
  by_cases h5 : k = 5
  · refine ⟨Or.inl h5, Or.inr ?_⟩
    subst h5
    rw [if_neg (by decide), if_neg (by decide), if_neg (by decide), if_neg (by decide), if_neg (by decide), if_neg (by decide), if_pos rfl] at h
    simp only [Bool.and_eq_true, beq_iff_eq] at h
    exact List.eq_nil_of_length_eq_zero (by omega)
  · by_cases h6 : k = 6
    · refine ⟨Or.inr ?_, Or.inl h6⟩
      subst h6
      rw [if_neg (by decide), if_neg (by decide), if_neg (by decide), if_neg (by decide), if_neg (by decide), if_neg (by decide), if_neg (by decide), if_pos rfl] at h
      simp only [Bool.and_eq_true, beq_iff_eq] at h
      exact List.eq_nil_of_length_eq_zero (by omega)
    · have key : ((L.length : Int) == 0) = true ∧ ((V.length : Int) == 0) = true := by
        rw [if_neg h5, if_neg h6] at h
        repeat' (split at h)
        all_goals first
          | (simp only [Bool.and_eq_true] at h; exact ⟨h.1.2, h.2⟩)
          | (cases h)
      rw [beq_iff_eq, beq_iff_eq] at key
      exact ⟨Or.inr (List.eq_nil_of_length_eq_zero (by omega)), Or.inr (List.eq_nil_of_length_eq_zero (by omega))⟩
theorem leaf_bare {T : VT} (h : plainT T = true) (h1 : ¬ (T.kd = 5 ∧ 0 < T.ls.length)) (h2 : ¬ (T.kd = 6 ∧ 0 < T.vs.length)) : T.ls = [] ∧ T.vs = [] := by
  rw [plainT_eq] at h
  simp only [Bool.and_eq_true] at h
  obtain ⟨a, b⟩ := ndc_len h.1.1
  refine ⟨?_, ?_⟩
  · rcases a with a | a
    · exact List.eq_nil_of_length_eq_zero (by omega)
    · exact a
  · rcases b with b | b
    · exact List.eq_nil_of_length_eq_zero (by omega)
    · exact b
end Go.Proofs.YtjcgkihkjjaefaaGreatDoor
/- Plain mathematics of columns: sorted, each once; all paths of all leaves. -/
namespace Go.Proofs.YtjcgkihkjjaefaaGreatDoor

theorem cz_val (a b : Int) : cmpZ a b = -1 ∨ cmpZ a b = 0 ∨ cmpZ a b = 1 := by unfold cmpZ; split <;> (try split) <;> simp
theorem cs_val (a b : PStep) : cstep a b = -1 ∨ cstep a b = 0 ∨ cstep a b = 1 := by
  unfold cstep
  split
  · exact cz_val _ _
  · split
    · exact .inl rfl
    · split
      · exact .inr (.inr rfl)
      · exact cb_val _ _
theorem cpV_val : ∀ a b : List PStep, cmpP a b = -1 ∨ cmpP a b = 0 ∨ cmpP a b = 1
  | [], [] => .inr (.inl rfl)
  | [], _ :: _ => .inl rfl
  | _ :: _, [] => .inr (.inr rfl)
  | a :: p, b :: q => by
    have h := cs_val a b
    have ih := cpV_val p q
    simp only [cmpP]
    split
    · exact ih
    · exact h
/-- paths of the form that a tree's have -/
def FrmP (p : List PStep) : Prop := ∀ s ∈ p, Frm s
def Srt (C : List (List PStep)) : Prop := C.Pairwise (fun a b => cmpP a b = -1)
theorem srt_mono {C : List (List PStep)} {p : List PStep} (h : Srt C) (hC : ∀ c ∈ C, FrmP c) (hp : FrmP p) : Mono C p := by
  intro i j a b hij ha hb hlt
  rcases Nat.lt_or_ge i j with h1 | h1
  · obtain ⟨hj, rfl⟩ := List.getElem?_eq_some_iff.1 hb
    obtain ⟨hi, rfl⟩ := List.getElem?_eq_some_iff.1 ha
    have hab := (List.pairwise_iff_getElem.1 h) i j hi hj h1
    have hbp : cmpP C[j] p = -1 := by rcases cpV_val C[j] p with h | h | h <;> omega
    have := cp_trans (hC _ (List.getElem_mem hi)) (hC _ (List.getElem_mem hj)) hp hab hbp
    omega
  · have : i = j := by omega
    subst this
    rw [ha] at hb; cases hb; exact hlt
theorem put_len (C : List (List PStep)) (p : List PStep) : C.length ≤ (putC C p).length ∧ (putC C p).length ≤ C.length + 1 := by
  have := posC_le C p
  unfold putC
  split
  · omega
  · simp; omega
theorem hasC_mem {C : List (List PStep)} {p : List PStep} (hC : ∀ c ∈ C, FrmP c) (hp : FrmP p) (h : hasC C p = true) : p ∈ C := by
  unfold hasC at h
  split at h
  · rename_i c hc
    have hm := List.mem_of_getElem? hc
    rw [decide_eq_true_iff] at h
    rw [← cp_eq (hC c hm) hp h]; exact hm
  · cases h
theorem put_mem {C : List (List PStep)} {p q : List PStep} (hC : ∀ c ∈ C, FrmP c) (hp : FrmP p) : q ∈ putC C p ↔ q ∈ C ∨ q = p := by
  unfold putC
  split
  · rename_i h
    have := hasC_mem hC hp h
    constructor
    · exact .inl
    · rintro (h | rfl)
      · exact h
      · exact this
  · rw [List.mem_append, List.mem_cons]
    have : q ∈ C ↔ q ∈ C.take (posC C p) ∨ q ∈ C.drop (posC C p) := by rw [← List.mem_append, List.take_append_drop]
    rw [this]
    constructor
    · rintro (h | h | h) <;> simp [h]
    · rintro ((h | h) | h) <;> simp [h]
theorem put_frm {C : List (List PStep)} {p : List PStep} (hC : ∀ c ∈ C, FrmP c) (hp : FrmP p) : ∀ c ∈ putC C p, FrmP c := fun c hc => by
  rcases (put_mem hC hp).1 hc with h | rfl
  · exact hC c h
  · exact hp
theorem put_srt {C : List (List PStep)} {p : List PStep} (h : Srt C) (hC : ∀ c ∈ C, FrmP c) (hp : FrmP p) : Srt (putC C p) := by
  unfold putC
  split
  · exact h
  · rename_i hn
    unfold Srt at *
    have hlo : ∀ a ∈ C.take (posC C p), cmpP a p = -1 := fun a ha => by
      obtain ⟨i, hi⟩ := List.getElem?_of_mem ha
      rw [List.getElem?_take] at hi
      split at hi
      · rename_i hlt
        have := posC_lt C p i a hlt hi
        rcases cpV_val a p with h | h | h <;> omega
      · cases hi
    have hhi : ∀ b ∈ C.drop (posC C p), cmpP p b = -1 := fun b hb => by
      obtain ⟨k, hk⟩ : ∃ k, posC C p = k := ⟨_, rfl⟩
      obtain ⟨c, hc⟩ : ∃ c, C[k]? = some c := by
        cases hq : C[k]? with
        | some c => exact ⟨c, rfl⟩
        | none =>
          rw [List.getElem?_eq_none_iff] at hq
          rw [hk, List.drop_eq_nil_of_le hq] at hb; cases hb
      have h1 := posC_ge C p c (by rw [hk]; exact hc)
      have h2 : ¬ cmpP c p = 0 := fun e => hn (by rw [hasC_some (by rw [hk]; exact hc), e]; rfl)
      have h3 : cmpP c p = 1 := by rcases cpV_val c p with h | h | h <;> omega
      have h4 : cmpP p c = -1 := by rw [cp_anti, h3]
      obtain ⟨i, hi⟩ := List.getElem?_of_mem hb
      rw [List.getElem?_drop, hk] at hi
      by_cases e : i = 0
      · subst e; rw [Nat.add_zero, hc] at hi; cases hi; exact h4
      · obtain ⟨hj, rfl⟩ := List.getElem?_eq_some_iff.1 hi
        obtain ⟨hk', rfl⟩ := List.getElem?_eq_some_iff.1 hc
        have h5 := (List.pairwise_iff_getElem.1 h) k (k + i) hk' hj (by omega)
        exact cp_trans hp (hC _ (List.getElem_mem hk')) (hC _ (List.getElem_mem hj)) h4 h5
    rw [List.pairwise_append]
    refine ⟨h.sublist (List.take_sublist _ _), List.pairwise_cons.2 ⟨hhi, h.sublist (List.drop_sublist _ _)⟩, fun a ha b hb => ?_⟩
    rcases List.mem_cons.1 hb with rfl | hb
    · exact hlo a ha
    · exact cp_trans (hC a (List.mem_of_mem_take ha)) hp (hC b (List.mem_of_mem_drop hb)) (hlo a ha) (hhi b hb)
/-- the columns of some leaves, laid among others -/
def colF (l : List (List PStep × VT)) (C : List (List PStep)) : List (List PStep) := l.foldl (fun C e => putC C e.1) C
def colA (X : List (List (List PStep × VT))) : List (List PStep) := colF X.flatten []
theorem colF_app (l m : List (List PStep × VT)) (C : List (List PStep)) : colF (l ++ m) C = colF m (colF l C) := List.foldl_append ..
theorem colF_one (e : List PStep × VT) (C : List (List PStep)) : colF [e] C = putC C e.1 := rfl
theorem colF_len : ∀ (l : List (List PStep × VT)) (C : List (List PStep)), C.length ≤ (colF l C).length
  | [], _ => Nat.le_refl _
  | e :: l, C => by
    have h1 := colF_len l (putC C e.1)
    have h2 := (put_len C e.1).1
    show C.length ≤ (colF l (putC C e.1)).length
    omega
structure Good3 (C : List (List PStep)) : Prop where
  s : Srt C
  f : ∀ c ∈ C, FrmP c
theorem Good3.put {C : List (List PStep)} (h : Good3 C) {p : List PStep} (hp : FrmP p) : Good3 (putC C p) := ⟨put_srt h.s h.f hp, put_frm h.f hp⟩
theorem Good3.nil : Good3 [] := ⟨List.Pairwise.nil, fun c h => by cases h⟩
theorem colF_good : ∀ (l : List (List PStep × VT)) (C : List (List PStep)), Good3 C → (∀ e ∈ l, FrmP e.1) → Good3 (colF l C)
  | [], _, h, _ => h
  | e :: l, C, h, hl => colF_good l (putC C e.1) (h.put (hl e (by simp))) (fun x hx => hl x (by simp [hx]))
theorem colF_mem : ∀ (l : List (List PStep × VT)) (C : List (List PStep)) (q : List PStep), Good3 C → (∀ e ∈ l, FrmP e.1) → (q ∈ colF l C ↔ q ∈ C ∨ ∃ e ∈ l, q = e.1)
  | [], C, q, _, _ => by simp [colF]
  | e :: l, C, q, h, hl => by
    show q ∈ colF l (putC C e.1) ↔ _
    rw [colF_mem l (putC C e.1) q (h.put (hl e (by simp))) (fun x hx => hl x (by simp [hx])), put_mem h.f (hl e (by simp))]
    simp only [List.mem_cons]
    constructor
    · rintro ((h | h) | ⟨x, h1, h2⟩)
      · exact .inl h
      · exact .inr ⟨e, .inl rfl, h⟩
      · exact .inr ⟨x, .inr h1, h2⟩
    · rintro (h | ⟨x, rfl | h1, h2⟩)
      · exact .inl (.inl h)
      · exact .inl (.inr h2)
      · exact .inr ⟨x, h1, h2⟩
theorem take_flat {α : Type} (X : List (List α)) (i : Nat) (l : List α) (h : X[i]? = some l) : (X.take (i + 1)).flatten = (X.take i).flatten ++ l := by
  rw [List.take_add_one, h, List.flatten_append]; simp
end Go.Proofs.YtjcgkihkjjaefaaGreatDoor
/- The walk through a tree that tells all paths: its mathematics, and what it holds in memory. -/
/- path.All, walked. -/
/- path.All, walked: a node visited, and all. -/
namespace Go.Proofs.YtjcgkihkjjaefaaGreatDoor
open Go.RowKit

/-- all paths of a tree, behind a path -/
def plS (i : Nat) : PStep := ⟨⟨#[]⟩, i, true⟩
def kyS (c : ByteArray) : PStep := ⟨c, 0, false⟩
mutual
def allT : VT → List PStep → List (List PStep)
  | .mk k _ _ L K V, p => p :: (if k = 5 then allL L 0 p else if k = 6 then allM V K p else [])
def allL : List VT → Nat → List PStep → List (List PStep)
  | [], _, _ => []
  | t :: r, i, p => allT t (p ++ [plS i]) ++ allL r (i + 1) p
def allM : List VT → List ByteArray → List PStep → List (List PStep)
  | [], _, _ => []
  | t :: r, K, p => allT t (p ++ [kyS (K.headD ⟨#[]⟩)]) ++ allM r K.tail p
end
mutual
theorem allT_len : ∀ (T : VT) (p : List PStep), (allT T p).length ≤ szT T
  | .mk k _ _ L K V, p => by
    have h1 := allL_len L 0 p
    have h2 := allM_len V K p
    simp only [allT, szT, List.length_cons]
    split
    · omega
    · split
      · omega
      · simp only [List.length_nil]; omega
theorem allL_len : ∀ (L : List VT) (i : Nat) (p : List PStep), (allL L i p).length ≤ szL L
  | [], _, _ => Nat.zero_le _
  | t :: r, i, p => by
    have h1 := allT_len t (p ++ [plS i])
    have h2 := allL_len r (i + 1) p
    simp only [allL, szL, List.length_append]; omega
theorem allM_len : ∀ (V : List VT) (K : List ByteArray) (p : List PStep), (allM V K p).length ≤ szL V
  | [], _, _ => Nat.zero_le _
  | t :: r, K, p => by
    have h1 := allT_len t (p ++ [kyS (K.headD ⟨#[]⟩)])
    have h2 := allM_len r K.tail p
    simp only [allM, szL, List.length_append]; omega
end
theorem Tryz.infoPst : (Tryz.prog.info? 73).map (fun i => (i.zero, i.size, i.bytes)) = some (some (.agg #[.string ⟨#[]⟩, .int .i64 0, .bool false]), 3, 32) := by kernel_rfl
def renC : Go.Shelf.Ren := ⟨fun | 41 => 48 | n => n, fun | 22 => 38 | 23 => 73 | 4 => 4 | n => n, fun | n => n⟩
theorem laysCl : Go.Proofs.SlLaysE0.n41 Tryz.prog renC := {
  mixed := by kernel_rfl
  f41 := ⟨Tryz.f48.name, by decide, Tryz.func48.trans (congrArg some (by kernel_rfl))⟩
  t4 := Tryz.underlying4
  a4 := Tryz.isAgg4
  z4 := Tryz.sizeOf4
  v4 := Tryz.zeroValue4
  t22 := Tryz.underlying38
  a22 := Tryz.isAgg38
  z22 := Tryz.sizeOf38
  v22 := Tryz.zeroValue38 }
theorem flat_one (p : List PStep) : ∀ u ∈ p.flatMap sc, u.oneCell' = true := by
  intro u hu
  obtain ⟨s, -, h⟩ := List.mem_flatMap.1 hu
  exact sc_one s u h
/-- a path copied -/
theorem pclone_any (p : List PStep) (nv : Value) (B : Nat) (w : World) (h : w.ownsRow B 73 3 nv p.length (p.flatMap sc)) (hl : p.length ≤ 4000000) :
    Calls Tryz.prog 48 #[nv] w fun e w' => ∃ u, e = .returned u ∧ w'.ownsRow w.heap.size 73 3 u p.length (p.flatMap sc) ∧ Below w.heap.size w w' := by
  obtain ⟨i0, hi0, hz0, hz1, hz2⟩ := info_parts Tryz.infoPst
  have hc := h
  rcases hc with ⟨hlen, ⟨rfl, h0⟩ | ⟨g, cap, cur, rfl, -, -, hn, hcm, -, -⟩⟩
  · have : p = [] := List.eq_nil_of_length_eq_zero h0
    subst this
    refine Calls.mono (AnyE.slices_Clone_nil laysCl 0 0 w) ?_
    rintro e w' ⟨rfl, rfl⟩
    exact ⟨_, rfl, World.ownsRow_nil _ _ _ _, Below.refl _ _⟩
  · refine Calls.mono (AnyE.slices_Clone laysCl i0 _ 3 32 hi0 hz0 hz1 hz2 rfl (by decide) Tryz.sizeOf73 g 0 p.length cap (p.flatMap sc) w hlen (by unfold maxLen; omega) (by omega) (fun j u hu => by
      rw [Nat.zero_add, h.cellAt j (by have := lt_of_some hu; omega)]; exact hu) (flat_one p)) ?_
    rintro e w' ⟨v', rfl, h1, -, h2⟩
    exact ⟨v', rfl, h1, h2⟩
/-- rows of different types lie apart -/
theorem own_ne {w : World} {B B' : Nat} {e e' : TypeId} {s s' n n' : Nat} {v v' : Value} {xs xs' : List Value} (h : w.ownsRow B e s v n xs) (k : w.ownsRow B' e' s' v' n' xs') (hne : e ≠ e') : v.ownBlock = none ∨ v.ownBlock ≠ v'.ownBlock := by
  rcases h.2 with ⟨rfl, -⟩ | ⟨g, cap, cur, rfl, -, hg, -⟩
  · exact .inl rfl
  · refine .inr fun hh => ?_
    rcases k.2 with ⟨rfl, -⟩ | ⟨g', cap', cur', rfl, -, hg', -⟩
    · cases hh
    · have : g = g' := by simpa [Value.ownBlock] using hh
      subst this
      rw [hg] at hg'
      injection hg' with h1
      injection h1 with _ h2
      exact hne h2
theorem own_off {w : World} {B : Nat} {e ty : TypeId} {s n b : Nat} {v : Value} {xs : List Value} {c : Array Value} {fz : Nat × Nat} (h : w.ownsRow B e s v n xs) (k : w.heap[b]? = some (.cells c ty fz)) (hne : e ≠ ty) : v.ownBlock = none ∨ v.ownBlock ≠ some b := by
  rcases h.2 with ⟨rfl, -⟩ | ⟨g, cap, cur, rfl, -, hg, -⟩
  · exact .inl rfl
  · refine .inr fun hh => ?_
    have : g = b := by simpa [Value.ownBlock] using hh
    subst this
    rw [hg] at k
    injection k with h1
    injection h1 with _ h2
    exact hne h2
theorem own_base {w : World} {B B' : Nat} {e : TypeId} {s n : Nat} {v : Value} {xs : List Value} (h : w.ownsRow B e s v n xs) (hB : B' ≤ B) : w.ownsRow B' e s v n xs := by
  refine ⟨h.1, ?_⟩
  rcases h.2 with hn | ⟨g, cap, cur, rfl, hb, rest⟩
  · exact .inl hn
  · exact .inr ⟨g, cap, cur, rfl, Nat.le_trans hB hb, rest⟩
theorem own_neq {v u : Value} {w : World} {B : Nat} {e : TypeId} {s n : Nat} {xs : List Value} (h : w.ownsRow B e s v n xs) (g : Nat) (hg : u.ownBlock = some g) (hB : g < B ∨ w.heap.size ≤ g) : v.ownBlock = none ∨ v.ownBlock ≠ u.ownBlock := by
  cases hv : v.ownBlock with
  | none => exact .inl rfl
  | some k =>
    have := h.lt k hv
    refine .inr ?_
    rw [hg]
    intro hh
    injection hh with hh
    omega
theorem set_grownW (w : World) (b o : Nat) (u : Value) : w.grownBy (w.setCell ⟨b, o, none⟩ u) (some b) := ⟨rfl, rfl, rfl, by simp, fun k _ hk => Below.heap_setCell _ _ _ _ (fun e => hk (by rw [e]))⟩
theorem off_ne {o : Option Nat} {b : Nat} (h : o = none ∨ o ≠ some b) : some b ≠ o := by
  rintro rfl
  rcases h with h | h
  · cases h
  · exact h rfl
theorem sc_len : ∀ p : List PStep, (p.flatMap sc).length = p.length * 3
  | [] => rfl
  | a :: r => by
    have := sc_len r
    rw [List.flatMap_cons, List.length_append, this, List.length_cons]
    show 3 + _ = _
    omega
/-- the walk's box: where it is now, and the paths that it came by -/
def OwnS (W w : World) (v : Value) (p : List PStep) : Prop := w.ownsRow W.heap.size 73 3 v p.length (p.flatMap sc)
def OwnP (W w : World) (v : Value) (E : List (List PStep × Value)) : Prop := w.ownsRow W.heap.size 38 1 v E.length (E.map (·.2))
end Go.Proofs.YtjcgkihkjjaefaaGreatDoor
namespace Go.Proofs.YtjcgkihkjjaefaaGreatDoor
open Go.RowKit

end Go.Proofs.YtjcgkihkjjaefaaGreatDoor
namespace Go.Proofs.YtjcgkihkjjaefaaGreatDoor
open Go.RowKit

theorem map_len {α β : Type} {f : α → β} {E : List α} {X : List β} (h : E.map f = X) : E.length = X.length := by rw [← h, List.length_map]
theorem szT_at (T : VT) : szT T = 1 + szL T.ls + szL T.vs := by cases T; rfl
theorem own_slice {w : World} {B : Nat} {e : TypeId} {k n : Nat} {v : Value} {xs : List Value} (h : w.ownsRow B e k v n xs) : ∃ o c, v = .slice o n c := by
  rcases h.2 with ⟨rfl, e⟩ | ⟨g, cap, cur, rfl, -⟩
  · exact ⟨none, 0, by rw [e]⟩
  · exact ⟨_, _, rfl⟩
end Go.Proofs.YtjcgkihkjjaefaaGreatDoor
/- path.index at a place, walked. -/
/- slices.IndexFunc at pairs; path.index; path.find, walked. -/
/- path.find, walked: over any way of going down. -/
/- path.Get, walked. -/
namespace Go.Proofs.YtjcgkihkjjaefaaGreatDoor
open Go.RowKit
end Go.Proofs.YtjcgkihkjjaefaaGreatDoor
namespace Go.Proofs.YtjcgkihkjjaefaaGreatDoor
open Go.RowKit

end Go.Proofs.YtjcgkihkjjaefaaGreatDoor
namespace Go.Proofs.YtjcgkihkjjaefaaGreatDoor
open Go.RowKit

/-- what holds of each node that one comes by -/
structure Desc (w : World) (Q : List PStep → Addr → VT → Value → Value → Prop) : Prop where
  node : ∀ p a T x y, Q p a T x y → Node w a T x y ∧ HV w T x y
  stepL : ∀ p a T x y s i t, Q p a T x y → s.place = true → idxT T s = some i → kidT T s i = some t → ∃ al n c x' y', x = .slice (some al) n c ∧ i < n ∧ n ≤ 1000000000000 ∧ Q (p ++ [s]) (al.add (i * 5)) t x' y'
  stepM : ∀ p a T x y s i t, Q p a T x y → s.place = false → idxT T s = some i → kidT T s i = some t → ∃ bl n c x' y', y = .slice (some bl) n c ∧ i < n ∧ n ≤ 1000000000000 ∧ Q (p ++ [s]) (nx (bl.add (i * 6))) t x' y'
end Go.Proofs.YtjcgkihkjjaefaaGreatDoor
namespace Go.Proofs.YtjcgkihkjjaefaaGreatDoor
open Go.RowKit

/-- a node and what hangs below it, to be read -/
def QV (w : World) (_ : List PStep) (a : Addr) (T : VT) (x y : Value) : Prop := Node w a T x y ∧ HV w T x y ∧ szT T ≤ 1000000
end Go.Proofs.YtjcgkihkjjaefaaGreatDoor
