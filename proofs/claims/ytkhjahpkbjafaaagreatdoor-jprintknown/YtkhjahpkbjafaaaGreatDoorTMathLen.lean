/- The document's own printer of JSON, walked whole. -/
import Derived.Test.YtkhjahpkbjafaaaGreatDoorTRefPrint
import Derived.Test.YtkhjahpkbjafaaaGreatDoorTRefDecE
/- Plain mathematics: how long a value's text can be. -/
namespace Go.Proofs.YtkhjahpkbjafaaaGreatDoor
open Go.RowKit

theorem sub_len (i : Option Nat) {n : Int} {s : ByteArray} {L : List VT} {K : List ByteArray} {V : List VT} {j : Nat} {t : VT} (h : L[j]? = some t) : (txs (tkV (upN i) t)).length ≤ (txs (tkV i (.mk 5 n s L K V))).length := by
  have h1 := lsB_len (i := i) (n := n) (s := s) (L := L) (K := K) (V := V) (j + 1)
  rw [lsB_next h] at h1
  simp only [List.length_append] at h1
  omega
theorem sub_lenM (i : Option Nat) {n : Int} {s : ByteArray} {L : List VT} {K : List ByteArray} {V : List VT} (hK : K.length = V.length) {j : Nat} {t : VT} {c : ByteArray} (h : V[j]? = some t) (g : K[j]? = some c) : (txs (tkV (upN i) t)).length + (qtA false c.data.toList).length ≤ (txs (tkV i (.mk 6 n s L K V))).length := by
  have h1 := msB_len (i := i) (n := n) (s := s) (L := L) (K := K) (V := V) hK (j + 1)
  rw [msB_next h g] at h1
  simp only [List.length_append] at h1
  omega
def PrOk (N : Nat) : Prop := ∀ (T : VT) (x y : Value) (i : Option Nat) (w : World), szT T ≤ N → HV w T x y → plainT T = true → (txs (tkV i T)).length ≤ 100000000 → (∀ k, i = some k → k + hgT T ≤ 10000) →
    Calls Tryz.prog 18 #[vv T x y, .int .i64 (inI i)] w fun e w' => e = .returned (.string (mkS (txs (tkV i T)))) ∧ Below w.heap.size w w'
end Go.Proofs.YtkhjahpkbjafaaaGreatDoor
namespace Go.Proofs.YtkhjahpkbjafaaaGreatDoor
open Go.RowKit

theorem qt_len {s : List UInt8} {n : Nat} (h : s.length ≤ n) : (qtA false s).length ≤ 6 * n + 2 := by
  unfold qtA
  have h2 := qtK_len false s (cnt s)
  have h3 := cnt_le s
  rw [List.length_append, List.length_singleton]; omega
theorem numB_len {s : List UInt8} (h : numB s = true) : s.length ≤ 400 := by
  unfold numB at h
  rw [Bool.and_eq_true, decide_eq_true_eq] at h
  exact h.2
theorem one_len {k n : Int} {s : ByteArray} {L : List VT} {K : List ByteArray} {V : List VT} (hn : nodeB (.mk k n s L K V) = true) (hw : -9223372036854775808 ≤ n ∧ n < 9223372036854775808) (h5 : ¬ k = 5) (h6 : ¬ k = 6) : (tkS k n s).tx.length ≤ 24578 := by
  have hok := one_ok hn hw h5 h6 (R := []) edr_nil
  cases ht : tkS k n s with
  | bl b =>
    unfold tkS at ht
    (repeat' split at ht) <;> cases ht
  | sg c =>
    unfold tkS at ht
    (repeat' split at ht) <;> cases ht
  | st t => rw [ht] at hok; have := qt_len hok.2; exact this
  | nu t => rw [ht] at hok; have := numB_len hok.1; simp only [Tk.tx]; omega
  | li t =>
    rw [ht] at hok
    have h := hok.1
    unfold litB at h
    rw [decide_eq_true_eq] at h
    rcases h with rfl | rfl | rfl <;> decide
/-- so deep that no line is longer than this -/
def Sha (i : Option Nat) (h : Nat) : Prop := ∀ k, i = some k → k + h ≤ 100
theorem ln_le {i : Option Nat} {h : Nat} (hs : Sha i h) : (txs (lnT i)).length ≤ 201 := by
  cases i with
  | none => simp [lnT, txs]
  | some k => have := hs k rfl; simp [lnT, txs, Tk.tx]; omega
theorem cln_le (i : Option Nat) : (txs (clnT i)).length ≤ 2 := by cases i <;> simp [clnT, txs, Tk.tx]
theorem sha_up {i : Option Nat} {h g : Nat} (hs : Sha i (1 + h)) (hg : g ≤ h) : Sha (upN i) g := by
  intro k hk
  cases i with
  | none => simp [upN] at hk
  | some a => simp [upN] at hk; have := hs a rfl; omega
theorem sha_le {i : Option Nat} {h g : Nat} (hs : Sha i h) (hg : g ≤ h) : Sha i g := fun k hk => by have := hs k hk; omega
theorem end_le {i : Option Nat} {h : Nat} (hs : Sha i h) (b : Bool) (c : UInt8) : (txs ((if b = true then [] else lnT i) ++ [Tk.sg c])).length ≤ 202 := by
  have := ln_le hs
  rw [txs_app, List.length_append]
  cases b
  · simp only [Bool.false_eq_true, if_false]
    have e : (txs [Tk.sg c]).length = 1 := rfl
    omega
  · simp only [if_true]
    have e : (txs [Tk.sg c]).length = 1 := rfl
    have e2 : (txs []).length = 0 := rfl
    omega
mutual
theorem val_len : ∀ (v : VT) (i : Option Nat), plainT v = true → wfT v → Sha i (hgT v) → (txs (tkV i v)).length + 30000 ≤ 60000 * szT v
  | .mk k n s L K V, i, hp, hw, hs => by
    rw [plainT, Bool.and_eq_true, Bool.and_eq_true] at hp
    obtain ⟨⟨hn, hpL⟩, hpV⟩ := hp
    rw [wfT] at hw
    obtain ⟨hw1, hKV, hwL, hwV⟩ := hw
    rw [hgT] at hs
    rw [tkV, szT]
    split
    · have h1 := list_len L (upN i) hpL hwL (sha_up hs (Nat.le_max_left _ _))
      have h2 := end_le hs L.isEmpty 93
      rw [txs_sg, List.length_cons, txs_app, List.length_append]
      omega
    · split
      · rename_i h6
        subst h6
        unfold nodeB nodeC at hn
        simp [VT.kd, VT.nm, VT.st, VT.ls, VT.ks] at hn
        have h1 := map_len V K (upN i) hpV hwV hKV (keys_te hn.2) (sha_up hs (Nat.le_max_right _ _))
        have h2 := end_le hs V.isEmpty 125
        rw [txs_sg, List.length_cons, txs_app, List.length_append]
        omega
      · have h1 := one_len hn hw1 (by assumption) (by assumption)
        rw [txs_cons, List.length_append]
        have e2 : (txs []).length = 0 := rfl
        omega
theorem list_len : ∀ (L : List VT) (i : Option Nat), plainL L = true → wfL L → Sha i (hgL L) → (txs (tkL i L)).length ≤ 60000 * szL L
  | [], i, _, _, _ => by rw [tkL, szL]; exact Nat.le_refl _
  | t :: r, i, hp, hw, hs => by
    rw [plainL, Bool.and_eq_true] at hp
    rw [wfL] at hw
    rw [hgL] at hs
    have h1 := val_len t i hp.1 hw.1 (sha_le hs (Nat.le_max_left _ _))
    have h2 := listc_len r i hp.2 hw.2 (sha_le hs (Nat.le_max_right _ _))
    have h3 := ln_le hs
    rw [tkL, szL, txs_app, txs_app, List.length_append, List.length_append]
    omega
theorem listc_len : ∀ (L : List VT) (i : Option Nat), plainL L = true → wfL L → Sha i (hgL L) → (txs (tkLc i L)).length ≤ 60000 * szL L
  | [], i, _, _, _ => by rw [tkLc, szL]; exact Nat.le_refl _
  | t :: r, i, hp, hw, hs => by
    rw [plainL, Bool.and_eq_true] at hp
    rw [wfL] at hw
    rw [hgL] at hs
    have h1 := val_len t i hp.1 hw.1 (sha_le hs (Nat.le_max_left _ _))
    have h2 := listc_len r i hp.2 hw.2 (sha_le hs (Nat.le_max_right _ _))
    have h3 := ln_le hs
    rw [tkLc, szL, txs_sg, txs_app, txs_app, List.length_cons, List.length_append, List.length_append]
    omega
theorem map_len : ∀ (V : List VT) (K : List ByteArray) (i : Option Nat), plainL V = true → wfL V → K.length = V.length → (∀ c ∈ K, teI c = 0) → Sha i (hgL V) → (txs (tkM i V K)).length ≤ 60000 * szL V
  | [], K, i, _, _, _, _, _ => by rw [tkM, szL]; exact Nat.le_refl _
  | t :: r, [], i, _, _, hl, _, _ => by simp at hl
  | t :: r, c :: K, i, hp, hw, hl, hk, hs => by
    rw [plainL, Bool.and_eq_true] at hp
    rw [wfL] at hw
    rw [hgL] at hs
    have h1 := val_len t i hp.1 hw.1 (sha_le hs (Nat.le_max_left _ _))
    have h2 := mapc_len r K i hp.2 hw.2 (by simpa using hl) (fun c hc => hk c (List.mem_cons_of_mem _ hc)) (sha_le hs (Nat.le_max_right _ _))
    have h3 := ln_le hs
    have h4 := qt_len (te_vl (hk c (List.mem_cons_self ..))).2
    have h5 := cln_le i
    rw [tkM, szL, txs_app, txs_cons, txs_app, txs_app, List.length_append, List.length_append, List.length_append, List.length_append, List.headD_cons, List.tail_cons]
    simp only [Tk.tx]
    omega
theorem mapc_len : ∀ (V : List VT) (K : List ByteArray) (i : Option Nat), plainL V = true → wfL V → K.length = V.length → (∀ c ∈ K, teI c = 0) → Sha i (hgL V) → (txs (tkMc i V K)).length ≤ 60000 * szL V
  | [], K, i, _, _, _, _, _ => by rw [tkMc, szL]; exact Nat.le_refl _
  | t :: r, [], i, _, _, hl, _, _ => by simp at hl
  | t :: r, c :: K, i, hp, hw, hl, hk, hs => by
    rw [plainL, Bool.and_eq_true] at hp
    rw [wfL] at hw
    rw [hgL] at hs
    have h1 := val_len t i hp.1 hw.1 (sha_le hs (Nat.le_max_left _ _))
    have h2 := mapc_len r K i hp.2 hw.2 (by simpa using hl) (fun c hc => hk c (List.mem_cons_of_mem _ hc)) (sha_le hs (Nat.le_max_right _ _))
    have h3 := ln_le hs
    have h4 := qt_len (te_vl (hk c (List.mem_cons_self ..))).2
    have h5 := cln_le i
    rw [tkMc, szL, txs_sg, txs_app, txs_cons, txs_app, txs_app, List.length_cons, List.length_append, List.length_append, List.length_append, List.length_append, List.headD_cons, List.tail_cons]
    simp only [Tk.tx]
    omega
end
/-- a tree that lies in memory has numbers of 64 bits, and as many keys as values -/
theorem wfL_get : ∀ (L : List VT), (∀ (i : Nat) (t : VT), L[i]? = some t → wfT t) → wfL L
  | [], _ => by rw [wfL]; trivial
  | a :: r, h => by
    rw [wfL]
    exact ⟨h 0 a rfl, wfL_get r (fun i t hi => h (i + 1) t (by simpa using hi))⟩
theorem wf_range {n : Int} (h : (Lit.int .i64 n).wf = true) : -9223372036854775808 ≤ n ∧ n < 9223372036854775808 := by
  simp [Lit.wf] at h
  have hm : IntKind.i64.min = -9223372036854775808 := by decide
  omega
theorem HV.wfT {w : World} {T : VT} {x y : Value} (h : HV w T x y) : wfT T := by
  induction h with
  | mk a b f g p q hk hn hs hL hM hK cL cK cM rL rM ihL ihM =>
    rw [Proofs.YtkhjahpkbjafaaaGreatDoor.wfT]
    exact ⟨wf_range hn, hK, wfL_get _ ihL, wfL_get _ ihM⟩
theorem may_parts {T : VT} (h : mayB 0 1 T = true) : plainT T = true ∧ szT T ≤ 4096 ∧ hgT T ≤ 32 := by
  unfold mayB at h
  rw [Bool.and_eq_true, decide_eq_true_eq] at h
  exact ⟨h.2, by omega, by omega⟩
end Go.Proofs.YtkhjahpkbjafaaaGreatDoor
