/- Plain mathematics: how long a value's text can be. -/
import Derived.Test.YtkhjahpkbjafaaaGreatDoorPMathCutV
import Derived.Test.YtkhjahpkbjafaaaGreatDoorPRefOne
import Derived.Test.YtkhjahpkbjafaaaGreatDoorPRefDec
import Derived.Deep.RegionWith
/- The document's own writing of whole numbers, walked: Text. -/
namespace Go.Proofs.YtkhjahpkbjafaaaGreatDoor
open Go.RowKit

theorem qt_len {s : List UInt8} {n : Nat} (h : s.length ≤ n) : (qtA false s).length ≤ 6 * n + 2 := by
  unfold qtA
  have h2 := qtK_len false s (cnt s)
  have h3 := cnt_le s
  rw [List.length_append, List.length_singleton]; omega
theorem numB_len {s : List UInt8} (h : numB s = true) : s.length ≤ 400 := by
  unfold numB at h
  rw [Bool.and_eq_true, decide_eq_true_eq] at h
  exact h.2
theorem one_len {k n : Int} {s : ByteArray} {L : List VT} {K : List ByteArray} {V : List VT} (hn : nodeB (.mk k n s L K V) = true) (hw : -9223372036854775808 ≤ n ∧ n < 9223372036854775808) (h5 : ¬ k = 5) (h6 : ¬ k = 6) : (tkS k n s).tx.length ≤ 24578 := by
  have hok := one_ok hn hw h5 h6 (R := []) edr_nil
  cases ht : tkS k n s with
  | bl b =>
    unfold tkS at ht
    (repeat' split at ht) <;> cases ht
  | sg c =>
    unfold tkS at ht
    (repeat' split at ht) <;> cases ht
  | st t => rw [ht] at hok; have := qt_len hok.2; exact this
  | nu t => rw [ht] at hok; have := numB_len hok.1; simp only [Tk.tx]; omega
  | li t =>
    rw [ht] at hok
    have h := hok.1
    unfold litB at h
    rw [decide_eq_true_eq] at h
    rcases h with rfl | rfl | rfl <;> decide
/-- so deep that no line is longer than this -/
def Sha (i : Option Nat) (h : Nat) : Prop := ∀ k, i = some k → k + h ≤ 100
theorem ln_le {i : Option Nat} {h : Nat} (hs : Sha i h) : (txs (lnT i)).length ≤ 201 := by
  cases i with
  | none => simp [lnT, txs]
  | some k => have := hs k rfl; simp [lnT, txs, Tk.tx]; omega
theorem cln_le (i : Option Nat) : (txs (clnT i)).length ≤ 2 := by cases i <;> simp [clnT, txs, Tk.tx]
theorem sha_up {i : Option Nat} {h g : Nat} (hs : Sha i (1 + h)) (hg : g ≤ h) : Sha (upN i) g := by
  intro k hk
  cases i with
  | none => simp [upN] at hk
  | some a => simp [upN] at hk; have := hs a rfl; omega
theorem sha_le {i : Option Nat} {h g : Nat} (hs : Sha i h) (hg : g ≤ h) : Sha i g := fun k hk => by have := hs k hk; omega
theorem end_le {i : Option Nat} {h : Nat} (hs : Sha i h) (b : Bool) (c : UInt8) : (txs ((if b = true then [] else lnT i) ++ [Tk.sg c])).length ≤ 202 := by
  have := ln_le hs
  rw [txs_app, List.length_append]
  cases b
  · simp only [Bool.false_eq_true, if_false]
    have e : (txs [Tk.sg c]).length = 1 := rfl
    omega
  · simp only [if_true]
    have e : (txs [Tk.sg c]).length = 1 := rfl
    have e2 : (txs []).length = 0 := rfl
    omega
mutual
theorem val_len : ∀ (v : VT) (i : Option Nat), plainT v = true → wfT v → Sha i (hgT v) → (txs (tkV i v)).length + 30000 ≤ 60000 * szT v
  | .mk k n s L K V, i, hp, hw, hs => by
    rw [plainT, Bool.and_eq_true, Bool.and_eq_true] at hp
    obtain ⟨⟨hn, hpL⟩, hpV⟩ := hp
    rw [wfT] at hw
    obtain ⟨hw1, hKV, hwL, hwV⟩ := hw
    rw [hgT] at hs
    rw [tkV, szT]
    split
    · have h1 := list_len L (upN i) hpL hwL (sha_up hs (Nat.le_max_left _ _))
      have h2 := end_le hs L.isEmpty 93
      rw [txs_sg, List.length_cons, txs_app, List.length_append]
      omega
    · split
      · rename_i h6
        subst h6
        unfold nodeB nodeC at hn
        simp [VT.kd, VT.nm, VT.st, VT.ls, VT.ks] at hn
        have h1 := map_len V K (upN i) hpV hwV hKV (keys_te hn.2) (sha_up hs (Nat.le_max_right _ _))
        have h2 := end_le hs V.isEmpty 125
        rw [txs_sg, List.length_cons, txs_app, List.length_append]
        omega
      · have h1 := one_len hn hw1 (by assumption) (by assumption)
        rw [txs_cons, List.length_append]
        have e2 : (txs []).length = 0 := rfl
        omega
theorem list_len : ∀ (L : List VT) (i : Option Nat), plainL L = true → wfL L → Sha i (hgL L) → (txs (tkL i L)).length ≤ 60000 * szL L
  | [], i, _, _, _ => by rw [tkL, szL]; exact Nat.le_refl _
  | t :: r, i, hp, hw, hs => by
    rw [plainL, Bool.and_eq_true] at hp
    rw [wfL] at hw
    rw [hgL] at hs
    have h1 := val_len t i hp.1 hw.1 (sha_le hs (Nat.le_max_left _ _))
    have h2 := listc_len r i hp.2 hw.2 (sha_le hs (Nat.le_max_right _ _))
    have h3 := ln_le hs
    rw [tkL, szL, txs_app, txs_app, List.length_append, List.length_append]
    omega
theorem listc_len : ∀ (L : List VT) (i : Option Nat), plainL L = true → wfL L → Sha i (hgL L) → (txs (tkLc i L)).length ≤ 60000 * szL L
  | [], i, _, _, _ => by rw [tkLc, szL]; exact Nat.le_refl _
  | t :: r, i, hp, hw, hs => by
    rw [plainL, Bool.and_eq_true] at hp
    rw [wfL] at hw
    rw [hgL] at hs
    have h1 := val_len t i hp.1 hw.1 (sha_le hs (Nat.le_max_left _ _))
    have h2 := listc_len r i hp.2 hw.2 (sha_le hs (Nat.le_max_right _ _))
    have h3 := ln_le hs
    rw [tkLc, szL, txs_sg, txs_app, txs_app, List.length_cons, List.length_append, List.length_append]
    omega
theorem map_len : ∀ (V : List VT) (K : List ByteArray) (i : Option Nat), plainL V = true → wfL V → K.length = V.length → (∀ c ∈ K, teI c = 0) → Sha i (hgL V) → (txs (tkM i V K)).length ≤ 60000 * szL V
  | [], K, i, _, _, _, _, _ => by rw [tkM, szL]; exact Nat.le_refl _
  | t :: r, [], i, _, _, hl, _, _ => by simp at hl
  | t :: r, c :: K, i, hp, hw, hl, hk, hs => by
    rw [plainL, Bool.and_eq_true] at hp
    rw [wfL] at hw
    rw [hgL] at hs
    have h1 := val_len t i hp.1 hw.1 (sha_le hs (Nat.le_max_left _ _))
    have h2 := mapc_len r K i hp.2 hw.2 (by simpa using hl) (fun c hc => hk c (List.mem_cons_of_mem _ hc)) (sha_le hs (Nat.le_max_right _ _))
    have h3 := ln_le hs
    have h4 := qt_len (te_vl (hk c (List.mem_cons_self ..))).2
    have h5 := cln_le i
    rw [tkM, szL, txs_app, txs_cons, txs_app, txs_app, List.length_append, List.length_append, List.length_append, List.length_append, List.headD_cons, List.tail_cons]
    simp only [Tk.tx]
    omega
theorem mapc_len : ∀ (V : List VT) (K : List ByteArray) (i : Option Nat), plainL V = true → wfL V → K.length = V.length → (∀ c ∈ K, teI c = 0) → Sha i (hgL V) → (txs (tkMc i V K)).length ≤ 60000 * szL V
  | [], K, i, _, _, _, _, _ => by rw [tkMc, szL]; exact Nat.le_refl _
  | t :: r, [], i, _, _, hl, _, _ => by simp at hl
  | t :: r, c :: K, i, hp, hw, hl, hk, hs => by
    rw [plainL, Bool.and_eq_true] at hp
    rw [wfL] at hw
    rw [hgL] at hs
    have h1 := val_len t i hp.1 hw.1 (sha_le hs (Nat.le_max_left _ _))
    have h2 := mapc_len r K i hp.2 hw.2 (by simpa using hl) (fun c hc => hk c (List.mem_cons_of_mem _ hc)) (sha_le hs (Nat.le_max_right _ _))
    have h3 := ln_le hs
    have h4 := qt_len (te_vl (hk c (List.mem_cons_self ..))).2
    have h5 := cln_le i
    rw [tkMc, szL, txs_sg, txs_app, txs_cons, txs_app, txs_app, List.length_cons, List.length_append, List.length_append, List.length_append, List.length_append, List.headD_cons, List.tail_cons]
    simp only [Tk.tx]
    omega
end
/-- a tree that lies in memory has numbers of 64 bits, and as many keys as values -/
theorem wfL_get : ∀ (L : List VT), (∀ (i : Nat) (t : VT), L[i]? = some t → wfT t) → wfL L
  | [], _ => by rw [wfL]; trivial
  | a :: r, h => by
    rw [wfL]
    exact ⟨h 0 a rfl, wfL_get r (fun i t hi => h (i + 1) t (by simpa using hi))⟩
theorem wf_range {n : Int} (h : (Lit.int .i64 n).wf = true) : -9223372036854775808 ≤ n ∧ n < 9223372036854775808 := by
  simp [Lit.wf] at h
  have hm : IntKind.i64.min = -9223372036854775808 := by decide
  omega
theorem HV.wfT {w : World} {T : VT} {x y : Value} (h : HV w T x y) : wfT T := by
  induction h with
  | mk a b f g p q hk hn hs hL hM hK cL cK cM rL rM ihL ihM =>
    rw [Proofs.YtkhjahpkbjafaaaGreatDoor.wfT]
    exact ⟨wf_range hn, hK, wfL_get _ ihL, wfL_get _ ihM⟩
theorem may_parts {T : VT} (h : mayB 0 1 T = true) : plainT T = true ∧ szT T ≤ 4096 ∧ hgT T ≤ 32 := by
  unfold mayB at h
  rw [Bool.and_eq_true, decide_eq_true_eq] at h
  exact ⟨h.2, by omega, by omega⟩
theorem str_vl {s : ByteArray} (h : strOkB s = true) : Vl s.data.toList ∧ teI s = 0 := by
  have h1 := te_ok s
  rw [h] at h1
  have h2 : teI s = 0 := of_decide_eq_true h1.symm
  exact ⟨(te_vl h2).1, h2⟩
theorem str_node {s : ByteArray} (h : teI s = 0) : nodeB (.mk 4 0 s [] [] []) = true := by
  unfold nodeB nodeC
  simp [VT.kd, VT.nm, VT.st, VT.ls, VT.vs, h]
end Go.Proofs.YtkhjahpkbjafaaaGreatDoor
namespace Go.Proofs.YtkhjahpkbjafaaaGreatDoor
open Go.RowKit

/-- one cell, read as a text -/
theorem conv_at (w : World) (g : Nat) (x : Int) (hc : w.cell? ⟨g, 0, none⟩ = some (.int .u8 x)) :
    (convert 34 9 (.slice (some ⟨g, 0, none⟩) 1 1)).run Tryz.prog w = .ok (.string (strOfNums [x])) w := by
  refine run_convert_bytes_arg _ 34 5 Tryz.underlying34 Tryz.underlying5 _ 0 1 1 [x] rfl (fun i hi => ?_) 9 Tryz.underlying9
  obtain rfl : i = 0 := by omega
  rw [hc]; rfl
theorem natD_small (n : Nat) (h : n < 10) : natD n = [UInt8.ofNat (48 + n)] := by rw [natD, if_pos h]
theorem natD_big (n : Nat) (h : ¬ n < 10) : natD n = natD (n / 10) ++ [UInt8.ofNat (48 + n % 10)] := by rw [natD, if_neg h]
theorem natD_len : ∀ (k n : Nat), n < 10 ^ (k + 1) → (natD n).length ≤ k + 1
  | 0, n, h => by rw [natD_small n (by omega)]; simp
  | k + 1, n, h => by
    by_cases hn : n < 10
    · rw [natD_small n hn]; simp
    · rw [natD_big n hn, List.length_append]
      have := natD_len k (n / 10) (by rw [Nat.pow_succ] at h; omega)
      simp; omega
theorem ofNat_int (n : Int) (h : 0 ≤ n) : UInt8.ofNat (48 + n.toNat) = UInt8.ofNat (48 + n).toNat := by congr 1; omega
theorem nums_int (x : Int) : strOfNums [x] = mkS [UInt8.ofNat x.toNat] := by
  apply mkS_of; simp [strOfNums]
set_option maxRecDepth 100000 in
set_option maxHeartbeats 1000000 in
theorem text_pos : ∀ (k : Nat) (n : Int), 0 ≤ n → n < 10 ^ (k + 1) → n < 9223372036854775808 → ∀ (w : World),
    Calls Tryz.prog 19 #[.int .i64 n] w fun e w' => e = .returned (.string (mkS (natD n.toNat))) ∧ Below w.heap.size w w' := by
  intro k
  induction k with
  | zero =>
    intro n h0 h10 _ w
    have h1 : n < 10 := by omega
    have h2 : ¬ n < 0 := by omega
    have ho : (48 + n) % 256 = 48 + n := by omega
    have hcv := conv_new w [48 + n] 1 rfl
    simp only [List.map] at hcv
    rw [nums_int, ← ofNat_int n h0, ← natD_small n.toNat (by omega)] at hcv
    clear h10
    go_enter Tryz.func19, Tryz.ntmps19
    go_wp2_with fail
    go_ret
    exact ⟨rfl, (Below.refl _ _).alloc (Nat.le_refl _) _⟩
  | succ k ih =>
    intro n h0 hk hm w
    have h2 : ¬ n < 0 := by omega
    by_cases h1 : n < 10
    · have ho : (48 + n) % 256 = 48 + n := by omega
      have hcv := conv_new w [48 + n] 1 rfl
      simp only [List.map] at hcv
      rw [nums_int, ← ofNat_int n h0, ← natD_small n.toNat (by omega)] at hcv
      clear hk ih
      go_enter Tryz.func19, Tryz.ntmps19
      go_wp2_with fail
      go_ret
      exact ⟨rfl, (Below.refl _ _).alloc (Nat.le_refl _) _⟩
    · have ho : (48 + n % 10) % 256 = 48 + n % 10 := by omega
      have hq0 : 0 ≤ n / 10 := by omega
      have IH := hid (ih (n / 10) hq0 (by rw [Int.pow_succ] at hk; omega) (by omega))
      clear ih hk
      have hl1 : (natD (n / 10).toNat).length ≤ 19 := natD_len 18 _ (by omega)
      have hs1 : (mkS (natD (n / 10).toNat)).size ≤ 19 := by rw [mkS_size]; exact hl1
      have hs2 : (mkS [UInt8.ofNat (48 + n % 10).toNat]).size = 1 := mkS_size _
      have HA := hid (show mkS (natD (n / 10).toNat) ++ mkS [UInt8.ofNat (48 + n % 10).toNat] = mkS (natD n.toNat) by
        rw [mkS_add, natD_big n.toNat (by omega), show (n / 10).toNat = n.toNat / 10 by omega, show (48 + n % 10).toNat = 48 + n.toNat % 10 by omega])
      have hcv0 := conv_at (w.alloc (.cells #[.int .u8 (48 + n % 10)] 5)).drew w.heap.size (48 + n % 10) (new_cells w [.int .u8 (48 + n % 10)] 5 0 _ rfl)
      rw [nums_int] at hcv0
      have hwq : IntKind.i64.wrap (n.tdiv 10) = n / 10 := by rw [Int.tdiv_eq_ediv_of_nonneg h0, wraps_i64 _ hq0 (by omega)]
      have hwr : n.tmod 10 = n % 10 := Int.tmod_eq_emod_of_nonneg h0
      have hwu : IntKind.u8.wrap (48 + n % 10) = 48 + n % 10 := by rw [IntKind.wrap_u8]; omega
      have hwa : IntKind.i64.wrap (48 + n % 10) = 48 + n % 10 := wraps_i64 _ (by omega) (by omega)
      clear hl1
      go_enter Tryz.func19, Tryz.ntmps19
      go_wp2_with fail
      go_region_with (go_at_call 19; go_must (refine (IH.out _).mono ?_; rintro e w1 ⟨rfl, hb1⟩; have hcv1 := conv_new w1 [48 + n % 10] 1 rfl; simp only [List.map, nums_int] at hcv1; try (have hcv2 := conv_at w1 w.heap.size (48 + n % 10) ((hb1.cell (p := ⟨w.heap.size, 0, none⟩) (by simp)).trans (new_cells w.drew [.int .u8 (48 + n % 10)] 5 0 _ rfl)); rw [nums_int] at hcv2)))
      all_goals
        go_wp2_with fail
        go_ret
        refine ⟨by rw [← HA.out]; rfl, ?_⟩
        first
          | exact ((Below.refl _ _).drew.trans hb1).alloc hb1.size _
          | exact (((Below.refl _ _).alloc (Nat.le_refl _) _).drew).trans (hb1.mono (by simp))
theorem natD_top : mkS (45 :: natD 9223372036854775808) = ⟨#[45, 57, 50, 50, 51, 51, 55, 50, 48, 51, 54, 56, 53, 52, 55, 55, 53, 56, 48, 56]⟩ := by
  decide +kernel
theorem natD_txt (n : Int) (h : n < 0) : (⟨#[45]⟩ : ByteArray) ++ mkS (natD (-n).toNat) = mkS (txt n) := by
  unfold txt; rw [if_pos h, show (⟨#[45]⟩ : ByteArray) = mkS [45] by rfl, mkS_add]; rfl
set_option maxRecDepth 100000 in
set_option maxHeartbeats 1000000 in
theorem text_any (n : Int) (w : World) (h1 : -9223372036854775808 ≤ n) (h2 : n < 9223372036854775808) :
    Calls Tryz.prog 19 #[.int .i64 n] w fun e w' => e = .returned (.string (mkS (txt n))) ∧ Below w.heap.size w w' := by
  by_cases h0 : n < 0
  · by_cases hm : n = -9223372036854775808
    · subst hm
      have H := hid (show mkS (txt (-9223372036854775808)) = _ from natD_top)
      rw [H.out]
      go_enter Tryz.func19, Tryz.ntmps19
      go_wp2_with fail
      go_ret
      exact ⟨rfl, Below.refl _ _⟩
    · have hm' : (n == -9223372036854775808) = false := by simpa using hm
      have H := hid (natD_txt n h0)
      have hs1 : (mkS (natD (-n).toNat)).size ≤ 19 := by rw [mkS_size]; exact natD_len 18 _ (by omega)
      have IH := hid (text_pos 18 (-n) (by omega) (by omega) (by omega))
      have hx : -9223372036854775808 < n := by omega
      clear hm
      go_enter Tryz.func19, Tryz.ntmps19
      go_wp2_with (go_at_call 19; go_must (refine (IH.out _).mono ?_; rintro e w1 ⟨rfl, hb1⟩))
      go_ret
      exact ⟨by rw [← H.out]; rfl, hb1⟩
  · have e : txt n = natD n.toNat := by unfold txt; rw [if_neg h0]
    rw [e]
    exact text_pos 18 n (by omega) (by omega) h2 w
end Go.Proofs.YtkhjahpkbjafaaaGreatDoor
