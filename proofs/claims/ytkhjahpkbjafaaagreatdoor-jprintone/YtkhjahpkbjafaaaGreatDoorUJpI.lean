/- The document's own printer of JSON, walked whole. -/
import Derived.Test.YtkhjahpkbjafaaaGreatDoorURefPrint
import Derived.Test.YtkhjahpkbjafaaaGreatDoorUJpG
/- Plain mathematics: how long a value's text can be. -/
/- The program's printer of JSON, walked at every tree that may be. -/
/- The program's printer of JSON: value, walked. -/
namespace Go.Proofs.YtkhjahpkbjafaaaGreatDoor
open Go.RowKit

theorem sub_len (i : Option Nat) {n : Int} {s : ByteArray} {L : List VT} {K : List ByteArray} {V : List VT} {j : Nat} {t : VT} (h : L[j]? = some t) : (txs (tkV (upN i) t)).length ≤ (txs (tkV i (.mk 5 n s L K V))).length := by
  have h1 := lsB_len (i := i) (n := n) (s := s) (L := L) (K := K) (V := V) (j + 1)
  rw [lsB_next h] at h1
  simp only [List.length_append] at h1
  omega
theorem sub_lenM (i : Option Nat) {n : Int} {s : ByteArray} {L : List VT} {K : List ByteArray} {V : List VT} (hK : K.length = V.length) {j : Nat} {t : VT} {c : ByteArray} (h : V[j]? = some t) (g : K[j]? = some c) : (txs (tkV (upN i) t)).length + (qtA false c.data.toList).length ≤ (txs (tkV i (.mk 6 n s L K V))).length := by
  have h1 := msB_len (i := i) (n := n) (s := s) (L := L) (K := K) (V := V) hK (j + 1)
  rw [msB_next h g] at h1
  simp only [List.length_append] at h1
  omega
def PrOk (N : Nat) : Prop := ∀ (T : VT) (x y : Value) (i : Option Nat) (w : World), szT T ≤ N → HV w T x y → plainT T = true → (txs (tkV i T)).length ≤ 100000000 → (∀ k, i = some k → k + hgT T ≤ 10000) →
    Calls Tryz.prog 18 #[vv T x y, .int .i64 (inI i)] w fun e w' => e = .returned (.string (mkS (txs (tkV i T)))) ∧ Below w.heap.size w w'
end Go.Proofs.YtkhjahpkbjafaaaGreatDoor
namespace Go.Proofs.YtkhjahpkbjafaaaGreatDoor
open Go.RowKit

theorem qt_len {s : List UInt8} {n : Nat} (h : s.length ≤ n) : (qtA false s).length ≤ 6 * n + 2 := by
  unfold qtA
  have h2 := qtK_len false s (cnt s)
  have h3 := cnt_le s
  rw [List.length_append, List.length_singleton]; omega
theorem numB_len {s : List UInt8} (h : numB s = true) : s.length ≤ 400 := by
  unfold numB at h
  rw [Bool.and_eq_true, decide_eq_true_eq] at h
  exact h.2
theorem one_len {k n : Int} {s : ByteArray} {L : List VT} {K : List ByteArray} {V : List VT} (hn : nodeB (.mk k n s L K V) = true) (hw : -9223372036854775808 ≤ n ∧ n < 9223372036854775808) (h5 : ¬ k = 5) (h6 : ¬ k = 6) : (tkS k n s).tx.length ≤ 24578 := by
  have hok := one_ok hn hw h5 h6 (R := []) edr_nil
  cases ht : tkS k n s with
  | bl b =>
    unfold tkS at ht
    (repeat' split at ht) <;> cases ht
  | sg c =>
    unfold tkS at ht
    (repeat' split at ht) <;> cases ht
  | st t => rw [ht] at hok; have := qt_len hok.2; exact this
  | nu t => rw [ht] at hok; have := numB_len hok.1; simp only [Tk.tx]; omega
  | li t =>
    rw [ht] at hok
    have h := hok.1
    unfold litB at h
    rw [decide_eq_true_eq] at h
    rcases h with rfl | rfl | rfl <;> decide
/-- so deep that no line is longer than this -/
def Sha (i : Option Nat) (h : Nat) : Prop := ∀ k, i = some k → k + h ≤ 100
theorem ln_le {i : Option Nat} {h : Nat} (hs : Sha i h) : (txs (lnT i)).length ≤ 201 := by
  cases i with
  | none => simp [lnT, txs]
  | some k => have := hs k rfl; simp [lnT, txs, Tk.tx]; omega
theorem cln_le (i : Option Nat) : (txs (clnT i)).length ≤ 2 := by cases i <;> simp [clnT, txs, Tk.tx]
theorem sha_up {i : Option Nat} {h g : Nat} (hs : Sha i (1 + h)) (hg : g ≤ h) : Sha (upN i) g := by
  intro k hk
  cases i with
  | none => simp [upN] at hk
  | some a => simp [upN] at hk; have := hs a rfl; omega
theorem sha_le {i : Option Nat} {h g : Nat} (hs : Sha i h) (hg : g ≤ h) : Sha i g := fun k hk => by have := hs k hk; omega
theorem end_le {i : Option Nat} {h : Nat} (hs : Sha i h) (b : Bool) (c : UInt8) : (txs ((if b = true then [] else lnT i) ++ [Tk.sg c])).length ≤ 202 := by
  have := ln_le hs
  rw [txs_app, List.length_append]
  cases b
  · simp only [Bool.false_eq_true, if_false]
    have e : (txs [Tk.sg c]).length = 1 := rfl
    omega
  · simp only [if_true]
    have e : (txs [Tk.sg c]).length = 1 := rfl
    have e2 : (txs []).length = 0 := rfl
    omega
mutual
theorem val_len : ∀ (v : VT) (i : Option Nat), plainT v = true → wfT v → Sha i (hgT v) → (txs (tkV i v)).length + 30000 ≤ 60000 * szT v
  | .mk k n s L K V, i, hp, hw, hs => by
    rw [plainT, Bool.and_eq_true, Bool.and_eq_true] at hp
    obtain ⟨⟨hn, hpL⟩, hpV⟩ := hp
    rw [wfT] at hw
    obtain ⟨hw1, hKV, hwL, hwV⟩ := hw
    rw [hgT] at hs
    rw [tkV, szT]
    split
    · have h1 := list_len L (upN i) hpL hwL (sha_up hs (Nat.le_max_left _ _))
      have h2 := end_le hs L.isEmpty 93
      rw [txs_sg, List.length_cons, txs_app, List.length_append]
      omega
    · split
      · rename_i h6
        subst h6
        unfold nodeB nodeC at hn
        simp [VT.kd, VT.nm, VT.st, VT.ls, VT.ks] at hn
        have h1 := map_len V K (upN i) hpV hwV hKV (keys_te hn.2) (sha_up hs (Nat.le_max_right _ _))
        have h2 := end_le hs V.isEmpty 125
        rw [txs_sg, List.length_cons, txs_app, List.length_append]
        omega
      · have h1 := one_len hn hw1 (by assumption) (by assumption)
        rw [txs_cons, List.length_append]
        have e2 : (txs []).length = 0 := rfl
        omega
theorem list_len : ∀ (L : List VT) (i : Option Nat), plainL L = true → wfL L → Sha i (hgL L) → (txs (tkL i L)).length ≤ 60000 * szL L
  | [], i, _, _, _ => by rw [tkL, szL]; exact Nat.le_refl _
  | t :: r, i, hp, hw, hs => by
    rw [plainL, Bool.and_eq_true] at hp
    rw [wfL] at hw
    rw [hgL] at hs
    have h1 := val_len t i hp.1 hw.1 (sha_le hs (Nat.le_max_left _ _))
    have h2 := listc_len r i hp.2 hw.2 (sha_le hs (Nat.le_max_right _ _))
    have h3 := ln_le hs
    rw [tkL, szL, txs_app, txs_app, List.length_append, List.length_append]
    omega
theorem listc_len : ∀ (L : List VT) (i : Option Nat), plainL L = true → wfL L → Sha i (hgL L) → (txs (tkLc i L)).length ≤ 60000 * szL L
  | [], i, _, _, _ => by rw [tkLc, szL]; exact Nat.le_refl _
  | t :: r, i, hp, hw, hs => by
    rw [plainL, Bool.and_eq_true] at hp
    rw [wfL] at hw
    rw [hgL] at hs
    have h1 := val_len t i hp.1 hw.1 (sha_le hs (Nat.le_max_left _ _))
    have h2 := listc_len r i hp.2 hw.2 (sha_le hs (Nat.le_max_right _ _))
    have h3 := ln_le hs
    rw [tkLc, szL, txs_sg, txs_app, txs_app, List.length_cons, List.length_append, List.length_append]
    omega
theorem map_len : ∀ (V : List VT) (K : List ByteArray) (i : Option Nat), plainL V = true → wfL V → K.length = V.length → (∀ c ∈ K, teI c = 0) → Sha i (hgL V) → (txs (tkM i V K)).length ≤ 60000 * szL V
  | [], K, i, _, _, _, _, _ => by rw [tkM, szL]; exact Nat.le_refl _
  | t :: r, [], i, _, _, hl, _, _ => by simp at hl
  | t :: r, c :: K, i, hp, hw, hl, hk, hs => by
    rw [plainL, Bool.and_eq_true] at hp
    rw [wfL] at hw
    rw [hgL] at hs
    have h1 := val_len t i hp.1 hw.1 (sha_le hs (Nat.le_max_left _ _))
    have h2 := mapc_len r K i hp.2 hw.2 (by simpa using hl) (fun c hc => hk c (List.mem_cons_of_mem _ hc)) (sha_le hs (Nat.le_max_right _ _))
    have h3 := ln_le hs
    have h4 := qt_len (te_vl (hk c (List.mem_cons_self ..))).2
    have h5 := cln_le i
    rw [tkM, szL, txs_app, txs_cons, txs_app, txs_app, List.length_append, List.length_append, List.length_append, List.length_append, List.headD_cons, List.tail_cons]
    simp only [Tk.tx]
    omega
theorem mapc_len : ∀ (V : List VT) (K : List ByteArray) (i : Option Nat), plainL V = true → wfL V → K.length = V.length → (∀ c ∈ K, teI c = 0) → Sha i (hgL V) → (txs (tkMc i V K)).length ≤ 60000 * szL V
  | [], K, i, _, _, _, _, _ => by rw [tkMc, szL]; exact Nat.le_refl _
  | t :: r, [], i, _, _, hl, _, _ => by simp at hl
  | t :: r, c :: K, i, hp, hw, hl, hk, hs => by
    rw [plainL, Bool.and_eq_true] at hp
    rw [wfL] at hw
    rw [hgL] at hs
    have h1 := val_len t i hp.1 hw.1 (sha_le hs (Nat.le_max_left _ _))
    have h2 := mapc_len r K i hp.2 hw.2 (by simpa using hl) (fun c hc => hk c (List.mem_cons_of_mem _ hc)) (sha_le hs (Nat.le_max_right _ _))
    have h3 := ln_le hs
    have h4 := qt_len (te_vl (hk c (List.mem_cons_self ..))).2
    have h5 := cln_le i
    rw [tkMc, szL, txs_sg, txs_app, txs_cons, txs_app, txs_app, List.length_cons, List.length_append, List.length_append, List.length_append, List.length_append, List.headD_cons, List.tail_cons]
    simp only [Tk.tx]
    omega
end
/-- a tree that lies in memory has numbers of 64 bits, and as many keys as values -/
theorem wfL_get : ∀ (L : List VT), (∀ (i : Nat) (t : VT), L[i]? = some t → wfT t) → wfL L
  | [], _ => by rw [wfL]; trivial
  | a :: r, h => by
    rw [wfL]
    exact ⟨h 0 a rfl, wfL_get r (fun i t hi => h (i + 1) t (by simpa using hi))⟩
theorem wf_range {n : Int} (h : (Lit.int .i64 n).wf = true) : -9223372036854775808 ≤ n ∧ n < 9223372036854775808 := by
  simp [Lit.wf] at h
  have hm : IntKind.i64.min = -9223372036854775808 := by decide
  omega
theorem HV.wfT {w : World} {T : VT} {x y : Value} (h : HV w T x y) : wfT T := by
  induction h with
  | mk a b f g p q hk hn hs hL hM hK cL cK cM rL rM ihL ihM =>
    rw [Proofs.YtkhjahpkbjafaaaGreatDoor.wfT]
    exact ⟨wf_range hn, hK, wfL_get _ ihL, wfL_get _ ihM⟩
theorem may_parts {T : VT} (h : mayB 0 1 T = true) : plainT T = true ∧ szT T ≤ 4096 ∧ hgT T ≤ 32 := by
  unfold mayB at h
  rw [Bool.and_eq_true, decide_eq_true_eq] at h
  exact ⟨h.2, by omega, by omega⟩
theorem str_node {s : ByteArray} (h : teI s = 0) : nodeB (.mk 4 0 s [] [] []) = true := by
  unfold nodeB nodeC
  simp [VT.kd, VT.nm, VT.st, VT.ls, VT.vs, h]
end Go.Proofs.YtkhjahpkbjafaaaGreatDoor
namespace Go.Proofs.YtkhjahpkbjafaaaGreatDoor
open Go.RowKit

theorem ind_up (inl : Bool) (k : Nat) : upN (indO inl k) = indO inl (k + 1) := by cases inl <;> rfl
/-- what a list's j-th part is written as -/
def gL (inl : Bool) (k : Nat) (L : List VT) (j : Nat) : List UInt8 := (L[j]?.map fun t => txs (tkV (indO inl (k + 1)) t)).getD []
theorem ptB_list (inl : Bool) (k : Nat) (L : List VT) : ∀ j, j ≤ L.length → 91 :: ptB inl k (gL inl k L) j = lsB (indO inl k) L j
  | 0, _ => by rw [ptB, lsB, List.take_zero, tkL]; rfl
  | j + 1, hj => by
    obtain ⟨t, ht⟩ : ∃ t, L[j]? = some t := ⟨L[j]'(by omega), List.getElem?_eq_getElem (by omega)⟩
    have ih := ptB_list inl k L j (by omega)
    have e : gL inl k L j = txs (tkV (indO inl (k + 1)) t) := by unfold gL; rw [ht]; rfl
    rw [lsB_next ht, ← ih, ptB, ind_up, e]; rfl
theorem pt_list_end (inl : Bool) (k : Nat) (n : Int) (s : ByteArray) (L : List VT) (K : List ByteArray) (V : List VT) : 91 :: (ptB inl k (gL inl k L) L.length ++ ((if L.length = 0 then [] else txs (lnT (indO inl k))) ++ [93])) = txs (tkV (indO inl k) (.mk 5 n s L K V)) := by
  rw [← List.cons_append, ptB_list inl k L _ (Nat.le_refl _)]
  by_cases h : L = []
  · subst h
    rw [lsB, tkV, if_pos rfl]; simp [tkL, txs, Tk.tx]
  · rw [lsB_end h, if_neg (by have := List.length_pos_iff.2 h; omega)]
def gM (inl : Bool) (k : Nat) (V : List VT) (K : List ByteArray) (j : Nat) : List UInt8 := (V[j]?.bind fun t => K[j]?.map fun c => qtA false c.data.toList ++ txs (clnT (indO inl 0)) ++ txs (tkV (indO inl (k + 1)) t)).getD []
theorem cln_any (inl : Bool) (k : Nat) : clnT (indO inl k) = clnT (indO inl 0) := by cases inl <;> rfl
theorem gM_at {inl : Bool} {k : Nat} {V : List VT} {K : List ByteArray} {j : Nat} {t : VT} {c : ByteArray} (ht : V[j]? = some t) (hc : K[j]? = some c) : gM inl k V K j = qtA false c.data.toList ++ txs (clnT (indO inl 0)) ++ txs (tkV (indO inl (k + 1)) t) := by
  unfold gM; rw [ht, hc]; rfl
theorem ptB_map (inl : Bool) (k : Nat) (V : List VT) (K : List ByteArray) (hK : K.length = V.length) : ∀ j, j ≤ V.length → 123 :: ptB inl k (gM inl k V K) j = msB (indO inl k) V K j
  | 0, _ => by rw [ptB, msB, List.take_zero, List.take_zero, tkM]; rfl
  | j + 1, hj => by
    obtain ⟨t, ht⟩ : ∃ t, V[j]? = some t := ⟨V[j]'(by omega), List.getElem?_eq_getElem (by omega)⟩
    obtain ⟨c, hc⟩ : ∃ c, K[j]? = some c := ⟨K[j]'(by omega), List.getElem?_eq_getElem (by omega)⟩
    have ih := ptB_map inl k V K hK j (by omega)
    rw [msB_next ht hc, ← ih, ptB, ind_up, gM_at ht hc, cln_any inl k]
    simp
theorem pt_map_end (inl : Bool) (k : Nat) (n : Int) (s : ByteArray) (L : List VT) (K : List ByteArray) (V : List VT) (hK : K.length = V.length) : 123 :: (ptB inl k (gM inl k V K) V.length ++ ((if V.length = 0 then [] else txs (lnT (indO inl k))) ++ [125])) = txs (tkV (indO inl k) (.mk 6 n s L K V)) := by
  rw [← List.cons_append, ptB_map inl k V K hK _ (Nat.le_refl _)]
  by_cases h : V = []
  · subst h
    rw [show ([] : List VT).length = 0 from rfl, if_pos rfl, msB, tkV, if_neg (by decide), if_pos rfl]; simp [tkM, txs, Tk.tx]
  · rw [msB_end h hK, if_neg (by have := List.length_pos_iff.2 h; omega)]
theorem heap3 (w : World) (A B C : Obj) : (((w.alloc A).alloc B).alloc C).heap[w.heap.size]? = some A ∧ (((w.alloc A).alloc B).alloc C).heap[w.heap.size + 1]? = some B ∧ (((w.alloc A).alloc B).alloc C).heap[w.heap.size + 2]? = some C := by
  have s1 := World.size_alloc w A
  have s2 := World.size_alloc (w.alloc A) B
  refine ⟨?_, ?_, ?_⟩
  · rw [Lib.alloc_old _ _ _ (by omega), Lib.alloc_old _ _ _ (by omega)]; exact heap_alloc_new w A
  · rw [Lib.alloc_old _ _ _ (by omega), ← s1]; exact heap_alloc_new (w.alloc A) B
  · rw [show w.heap.size + 2 = ((w.alloc A).alloc B).heap.size from by omega]; exact heap_alloc_new ((w.alloc A).alloc B) C
def PvOk (N : Nat) : Prop := ∀ (T : VT) (x y : Value) (b : Nat) (l : List UInt8) (inl : Bool) (k : Nat) (u w : World), szT T ≤ N → HV u T x y → Below u.heap.size u w → u.heap.size ≤ b → GlobT u → plainT T = true → Pr w b l inl → k + hgT T ≤ 9999 → szT T ≤ 100000 → (txs (tkV (indO inl k) T)).length ≤ 300000000 → l.length + 400000000 * hgT T ≤ 300000000000 →
    Calls Tryz.prog 51 #[.pointer (some ⟨b, 0, none⟩), vv T x y, .int .i64 (k : Int)] w (Wr b (l ++ txs (tkV (indO inl k) T)) inl w)
/-- what stands in the three boxes, whatever was written since -/
theorem box_facts {b : Nat} {w X : World} {k : Nat} {c0 c1 c2 c3 c4 : Value} (hlt : b < w.heap.size) (h : Kp b (((w.alloc (.cells #[.pointer (some ⟨b, 0, none⟩)] 103)).alloc (.cells #[c0, c1, c2, c3, c4] 27)).alloc (.cells #[.int .i64 (k : Int)] 3)) X) :
    X.cell? ⟨w.heap.size, 0, none⟩ = some (.pointer (some ⟨b, 0, none⟩)) ∧ (∀ (j : Nat) (v : Value), [c0, c1, c2, c3, c4][j]? = some v → X.cell? ⟨w.heap.size + 1, j, none⟩ = some v) ∧ X.cell? ⟨w.heap.size + 2, 0, none⟩ = some (.int .i64 (k : Int)) := by
  obtain ⟨h1, h2, h3⟩ := heap3 w (.cells #[.pointer (some ⟨b, 0, none⟩)] 103) (.cells #[c0, c1, c2, c3, c4] 27) (.cells #[.int .i64 (k : Int)] 3)
  exact ⟨h.cellk h1 (by omega) (by decide) rfl, fun j v hv => h.cellk h2 (by omega) (by decide) (by simpa using hv), h.cellk h3 (by omega) (by decide) rfl⟩
end Go.Proofs.YtkhjahpkbjafaaaGreatDoor
namespace Go.Proofs.YtkhjahpkbjafaaaGreatDoor
open Go.RowKit

set_option maxRecDepth 100000 in
set_option maxHeartbeats 4000000 in
theorem pvalue_leaf (k n : Int) (s : ByteArray) (L V : List VT) (K : List ByteArray) (x y : Value) (b : Nat) (l : List UInt8) (inl : Bool) (d : Nat) (w : World) (hg : GlobT w) (hn : -9223372036854775808 ≤ n ∧ n < 9223372036854775808) (hnode : nodeB (.mk k n s L K V) = true) (h5 : ¬ k = 5) (h6 : ¬ k = 6) (h : Pr w b l inl) (hl : l.length ≤ 1000000000000) :
    Calls Tryz.prog 51 #[.pointer (some ⟨b, 0, none⟩), .agg #[.int .i64 k, .int .i64 n, .string s, x, y], .int .i64 (d : Int)] w (Wr b (l ++ (tkS k n s).tx) inl w) := by
  have hlt := h.lt
  have hz := one_len hnode hn h5 h6
  have CS := hid (fun X (hX : Below w.heap.size w X) => psingle_any k n s L V K x y X (hg.on hX) hn hnode h5 h6)
  obtain ⟨m, hm⟩ : ∃ m, mkS (tkS k n s).tx = m := ⟨_, rfl⟩
  rw [hm] at CS
  have hms : m.size ≤ 30000 := by rw [← hm, mkS_size]; omega
  have HM := hid (show (tkS k n s).tx = m.data.toList by rw [← hm, mkS_list])
  have CW := hid (fun X (hX : Pr X b l inl) => pwrite_any b l inl m X hX (by omega))
  have k5 : (k == 5) = false := by simpa using h5
  have k6 : (k == 6) = false := by simpa using h6
  have hB : Below w.heap.size w (((w.alloc (.cells #[.pointer (some ⟨b, 0, none⟩)] 103)).alloc (.cells #[.int .i64 k, .int .i64 n, .string s, x, y] 27)).alloc (.cells #[.int .i64 (d : Int)] 3)) := valloc_bel (valloc_bel (valloc_bel (Below.refl _ _) _) _) _
  have HP := hid (h.on hB)
  have HB := hid hB
  have HK0 := hid (Kp.of hB (Nat.le_of_lt hlt))
  have BX : Hid (∀ X, Kp b (((w.alloc (.cells #[.pointer (some ⟨b, 0, none⟩)] 103)).alloc (.cells #[.int .i64 k, .int .i64 n, .string s, x, y] 27)).alloc (.cells #[.int .i64 (d : Int)] 3)) X → _) := fun X hX => box_facts hlt hX
  clear hg hnode h hm hz hB
  go_enter Tryz.func51, Tryz.ntmps51
  go_upto_region 2 with fail
  generalize hW3 : (((w.alloc (.cells #[.pointer (some ⟨b, 0, none⟩)] 103)).alloc (.cells #[.int .i64 k, .int .i64 n, .string s, x, y] 27)).alloc (.cells #[.int .i64 (d : Int)] 3)) = W3 at HP HB HK0 BX ⊢
  clear hW3
  refine wp_region_h (S := fun X => Kp b W3 X) 6 (by kernel_rfl) (by kernel_rfl) ?_
  have hS0 : Kp b W3 W3.drew := Kp.drew W3
  refine take_h (i := 0) (v := ?_) rfl (by kernel_rfl) (by kernel_rfl) (by kernel_rfl) (fun _ _ _ h => h) (by rfl) ?_ hS0 ?_
  rotate_left
  · (intro X hX; obtain ⟨y0, y1, y2⟩ := BX.out X hX; have z0 := y1 0 _ rfl; have z1 := y1 1 _ rfl; have z2 := y1 2 _ rfl; have z3 := y1 3 _ rfl; have z4 := y1 4 _ rfl; clear y1; go_simp; try with_reducible rfl)
  simp only [Act.put, List.setIfInBounds_toArray, List.set_cons_zero, List.set_cons_succ]
  refine take_h (i := 1) (v := ?_) rfl (by kernel_rfl) (by kernel_rfl) (by kernel_rfl) (fun _ _ _ h => h) (by rfl) ?_ hS0 ?_
  rotate_left
  · (intro X hX; obtain ⟨y0, y1, y2⟩ := BX.out X hX; have z0 := y1 0 _ rfl; have z1 := y1 1 _ rfl; have z2 := y1 2 _ rfl; have z3 := y1 3 _ rfl; have z4 := y1 4 _ rfl; clear y1; go_simp; try with_reducible rfl)
  simp only [Act.put, List.setIfInBounds_toArray, List.set_cons_zero, List.set_cons_succ]
  refine take_h (i := 2) (v := ?_) rfl (by kernel_rfl) (by kernel_rfl) (by kernel_rfl) (fun _ _ _ h => h) (by rfl) ?_ hS0 ?_
  rotate_left
  · (intro X hX; obtain ⟨y0, y1, y2⟩ := BX.out X hX; have z0 := y1 0 _ rfl; have z1 := y1 1 _ rfl; have z2 := y1 2 _ rfl; have z3 := y1 3 _ rfl; have z4 := y1 4 _ rfl; clear y1; go_simp; try with_reducible rfl)
  simp only [Act.put, List.setIfInBounds_toArray, List.set_cons_zero, List.set_cons_succ]
  refine take_h (i := 3) (v := ?_) rfl (by kernel_rfl) (by kernel_rfl) (by kernel_rfl) (fun _ _ _ h => h) (by rfl) ?_ hS0 ?_
  rotate_left
  · (intro X hX; obtain ⟨y0, y1, y2⟩ := BX.out X hX; have z0 := y1 0 _ rfl; have z1 := y1 1 _ rfl; have z2 := y1 2 _ rfl; have z3 := y1 3 _ rfl; have z4 := y1 4 _ rfl; clear y1; go_simp; try with_reducible rfl)
  simp only [Act.put, List.setIfInBounds_toArray, List.set_cons_zero, List.set_cons_succ]
  refine step_h (i := 4) rfl (by kernel_rfl) ?_
  intro KK hKK
  go_simp
  go_wp2_with (go_at_call 72; go_must (refine (CS.out _ HB.out.drew).mono ?_; rintro e w1 ⟨rfl, hb1⟩))
  have hS1 : Kp b W3 w1 := hS0.trans (Kp.of hb1 (Nat.le_of_lt HP.out.drew.lt))
  have HP1 := hid (HP.out.drew.on hb1)
  refine hKK.out _ _ hS1 (fun _ => ?_)
  clear hKK KK
  refine step_h (i := 5) rfl (by kernel_rfl) ?_
  intro KK hKK
  go_simp
  go_wp2_with (go_at_call 71; go_must (refine (CW.out _ HP1.out).mono ?_; rintro e w2 ⟨rfl, hp2, hk2⟩))
  have hS2 : Kp b W3 w2 := hS1.trans hk2
  refine hKK.out _ _ hS2 (fun _ => ?_)
  clear hKK KK
  refine wpAnyH_done (by kernel_rfl) ?_ _
  go_wp2
  first | go_end0 | refine bodyPost_ret (results_none rfl _ _ _) rfl ?_
  rw [← HM.out] at hp2
  exact ⟨rfl, hp2, HK0.out.trans hS2⟩
end Go.Proofs.YtkhjahpkbjafaaaGreatDoor
