/- The document's own printer of JSON, walked whole. -/
import Derived.Test.YtkhjahpkbjafaaaGreatDoorQJpD
namespace Go.Proofs.YtkhjahpkbjafaaaGreatDoor
open Go.RowKit

theorem sub_len (i : Option Nat) {n : Int} {s : ByteArray} {L : List VT} {K : List ByteArray} {V : List VT} {j : Nat} {t : VT} (h : L[j]? = some t) : (txs (tkV (upN i) t)).length ≤ (txs (tkV i (.mk 5 n s L K V))).length := by
  have h1 := lsB_len (i := i) (n := n) (s := s) (L := L) (K := K) (V := V) (j + 1)
  rw [lsB_next h] at h1
  simp only [List.length_append] at h1
  omega
theorem sub_lenM (i : Option Nat) {n : Int} {s : ByteArray} {L : List VT} {K : List ByteArray} {V : List VT} (hK : K.length = V.length) {j : Nat} {t : VT} {c : ByteArray} (h : V[j]? = some t) (g : K[j]? = some c) : (txs (tkV (upN i) t)).length + (qtA false c.data.toList).length ≤ (txs (tkV i (.mk 6 n s L K V))).length := by
  have h1 := msB_len (i := i) (n := n) (s := s) (L := L) (K := K) (V := V) hK (j + 1)
  rw [msB_next h g] at h1
  simp only [List.length_append] at h1
  omega
theorem ln_size (i : Option Nat) (m : Nat) (h : ∀ k, i = some k → k ≤ m) : (txs (lnT i)).length ≤ 2 * m + 1 := by
  cases i with
  | none => simp [lnT, txs]
  | some k => rw [ln_some]; have := h k rfl; simp; omega
theorem up_le {i : Option Nat} {m : Nat} (h : ∀ k, i = some k → k + 1 ≤ m) : ∀ k, upN i = some k → k ≤ m := by
  intro k hk
  cases i with
  | none => simp [upN] at hk
  | some a => simp [upN] at hk; have := h a rfl; omega
def PrOk (N : Nat) : Prop := ∀ (T : VT) (x y : Value) (i : Option Nat) (w : World), szT T ≤ N → HV w T x y → plainT T = true → (txs (tkV i T)).length ≤ 100000000 → (∀ k, i = some k → k + hgT T ≤ 10000) →
    Calls Tryz.prog 18 #[vv T x y, .int .i64 (inI i)] w fun e w' => e = .returned (.string (mkS (txs (tkV i T)))) ∧ Below w.heap.size w w'
set_option maxRecDepth 100000 in
set_option maxHeartbeats 2000000 in
theorem print_leaf (k n : Int) (s : ByteArray) (L V : List VT) (K : List ByteArray) (o o' : Option Addr) (c c' : Nat) (i : Option Nat) (w : World) (hn : (Lit.int .i64 n).wf = true) (hnode : nodeB (.mk k n s L K V) = true) (h5 : ¬ k = 5) (h6 : ¬ k = 6) :
    Calls Tryz.prog 18 #[.agg #[.int .i64 k, .int .i64 n, .string s, .slice o L.length c, .slice o' V.length c'], .int .i64 (inI i)] w fun e w' => e = .returned (.string (mkS (txs (tkV i (.mk k n s L K V))))) ∧ Below w.heap.size w w' := by
  have hE : txs (tkV i (.mk k n s L K V)) = (tkS k n s).tx := by rw [tkV, if_neg h5, if_neg h6]; simp [txs]
  rw [hE]
  have hw : -9223372036854775808 ≤ n ∧ n < 9223372036854775808 := by
    have := hn
    simp [Lit.wf] at this
    have hm : IntKind.i64.min = -9223372036854775808 := by decide
    omega
  unfold nodeB nodeC at hnode
  simp only [VT.kd, VT.nm, VT.st, VT.ls, VT.ks, VT.vs] at hnode
  have C2 := hid (fun X => text_any n X hw.1 hw.2)
  have C4 := hid (fun X (h : s.size ≤ 100000) => rquote_any false s X h)
  generalize inI i = di
  by_cases h0 : k = 0
  · subst h0
    go_enter Tryz.func18, Tryz.ntmps18
    go_wp2_with fail
    go_ret
    exact ⟨rfl, valloc_bel (Below.refl _ _) _⟩
  by_cases h1 : k = 1
  · subst h1
    by_cases hn1 : n = 1
    · subst hn1
      go_enter Tryz.func18, Tryz.ntmps18
      go_wp2_with fail
      go_ret
      exact ⟨rfl, valloc_bel (Below.refl _ _) _⟩
    · have e : (tkS 1 n s).tx = [102, 97, 108, 115, 101] := by unfold tkS; rw [if_pos rfl, if_neg hn1]; rfl
      rw [e]
      go_enter Tryz.func18, Tryz.ntmps18
      go_wp2_with fail
      go_ret
      exact ⟨rfl, valloc_bel (Below.refl _ _) _⟩
  by_cases h2 : k = 2
  · subst h2
    go_enter Tryz.func18, Tryz.ntmps18
    go_wp2_with (go_at_call 19; go_must (refine (C2.out _).mono ?_; rintro e w1 ⟨rfl, hb1⟩))
    go_ret
    exact ⟨rfl, vonto (valloc_bel (Below.refl _ _) _) hb1⟩
  by_cases h3 : k = 3
  · subst h3
    have e : mkS (tkS 3 n s).tx = s := by
      unfold tkS; rw [if_neg (by decide), if_neg (by decide), if_pos rfl]; exact (mkS_of s _ rfl).symm
    rw [e]
    go_enter Tryz.func18, Tryz.ntmps18
    go_wp2_with fail
    go_ret
    exact ⟨rfl, valloc_bel (Below.refl _ _) _⟩
  by_cases h4 : k = 4
  · subst h4
    have hsz : s.size ≤ 100000 := by
      simp at hnode
      have := (te_vl hnode.1.1.2).2
      rw [size_list] at this; omega
    go_enter Tryz.func18, Tryz.ntmps18
    go_wp2_with (go_at_call 32; go_must (refine (C4.out _ hsz).mono ?_; rintro e w1 ⟨rfl, hb1⟩))
    go_ret
    exact ⟨rfl, vonto (valloc_bel (Below.refl _ _) _) hb1⟩
  by_cases h7 : k = 7
  · subst h7
    have hsz : s.size ≤ 100000 := by
      simp at hnode
      have := (stamp_vl hnode.1.1.2).2
      rw [size_list] at this; omega
    go_enter Tryz.func18, Tryz.ntmps18
    go_wp2_with (go_at_call 32; go_must (refine (C4.out _ hsz).mono ?_; rintro e w1 ⟨rfl, hb1⟩))
    go_ret
    exact ⟨rfl, vonto (valloc_bel (Below.refl _ _) _) hb1⟩
  · simp [h0, h1, h2, h3, h4, h7, h5, h6] at hnode
theorem ba_snoc {m a : ByteArray} {l b : List UInt8} (h : m = mkS l) (g : a = mkS b) : m ++ a = mkS (l ++ b) := by rw [h, g, mkS_app]
theorem ba_len {m : ByteArray} {l : List UInt8} (h : m = mkS l) : m.size = l.length := by rw [h, mkS_size]
set_option maxRecDepth 100000 in
set_option maxHeartbeats 4000000 in
theorem print_list (N : Nat) (ih : PrOk N) (n : Int) (s : ByteArray) (L : List VT) (o' : Option Addr) (c' : Nat) (x : Value) (i : Option Nat) (w : World) (hN : szT (.mk 5 n s L [] []) ≤ N + 1) (hT : HV w (.mk 5 n s L [] []) x (.slice o' 0 c')) (hpL : plainL L = true) (hlen : (txs (tkV i (.mk 5 n s L [] []))).length ≤ 100000000) (hi : ∀ k, i = some k → k + hgT (.mk 5 n s L [] []) ≤ 10000) :
    Calls Tryz.prog 18 #[.agg #[.int .i64 5, .int .i64 n, .string s, x, .slice o' 0 c'], .int .i64 (inI i)] w fun e w' => e = .returned (.string (mkS (txs (tkV i (.mk 5 n s L [] []))))) ∧ Below w.heap.size w w' := by
  cases hT with
  | mk a b f g p q hk hn hs hL hM hK cL cK cM rL rM =>
  obtain ⟨oL, capL, rfl, hL1, hL2, hL3⟩ := hL
  unfold maxLen at hL2
  have hsz : szT (.mk 5 n s L [] []) = 1 + szL L := by simp [szT, szL]
  have hhg : hgT (.mk 5 n s L [] []) = 1 + hgL L := by simp [hgT, hgL]
  rw [hsz] at hN
  rw [hhg] at hi
  have hup : ∀ k, upN i = some k → k ≤ 10000 := up_le (fun k hk => by have := hi k hk; omega)
  have hui : ∀ (t : VT), hgT t ≤ hgL L → ∀ k, upN i = some k → k + hgT t ≤ 10000 := fun t ht k hk => by
    cases i with
    | none => simp [upN] at hk
    | some a => simp [upN] at hk; have := hi a rfl; omega
  have hii : ∀ k, i = some k → k ≤ 10000 := fun k hk => by have := hi k hk; omega
  have HLN := hid (fun X => line8_any (upN i) X hup)
  have HLE := hid (fun X => line8_any i X hii)
  have s1 := ln_size (upN i) 10000 hup
  have s2 := ln_size i 10000 hii
  have HPL := hid hpL
  have HSUB : Hid (∀ (j : Nat) (t : VT), L[j]? = some t → (txs (tkV (upN i) t)).length ≤ 100000000) := fun j t ht => Nat.le_trans (sub_len i ht) hlen
  have HLB : Hid (∀ j, (lsB i L j).length ≤ 100000000) := fun j => Nat.le_trans (lsB_len j) hlen
  have HEND := hid (fun h => lsB_end (i := i) (n := n) (s := s) (L := L) (K := []) (V := []) h)
  have HUI := hid hui
  obtain ⟨R, hR⟩ : ∃ R, txs (tkV i (.mk 5 n s L [] [])) = R := ⟨_, rfl⟩
  have HR := hid hR
  rw [hR]
  obtain ⟨ls, hls⟩ : ∃ ls, mkS (txs (lnT (upN i))) = ls := ⟨_, rfl⟩
  obtain ⟨le, hle⟩ : ∃ le, mkS (txs (lnT i)) = le := ⟨_, rfl⟩
  have z1 : ls.size ≤ 20001 := by rw [← hls, mkS_size]; omega
  have z2 : le.size ≤ 20001 := by rw [← hle, mkS_size]; omega
  rw [hls] at HLN
  rw [hle] at HLE
  have HLS := hid hls
  have HLD := hid hle
  clear hlen hR hls hle hpL s1 s2 hup hii hui hsz hhg
  have hdi : ∃ (di du : Int), inI i = di ∧ inI (upN i) = du ∧ -1 ≤ di ∧ di ≤ 10000 ∧ ((di = -1 ∧ du = -1) ∨ (0 ≤ di ∧ du = di + 1)) := by
    cases i with
    | none => exact ⟨-1, -1, rfl, rfl, by omega, by omega, Or.inl ⟨rfl, rfl⟩⟩
    | some k => exact ⟨k, k + 1, rfl, rfl, by omega, by have := hi k rfl; omega, Or.inr ⟨by omega, rfl⟩⟩
  obtain ⟨di, du, e1, e2, d1, d2, hd⟩ := hdi
  rw [e1] at HLE ⊢
  rw [e2] at HLN
  have IH := hid (fun (j : Nat) (t : VT) (X : World) (ht : L[j]? = some t) (hX : Below w.heap.size w X) => ih t (f j) (g j) (upN i) X (by have := szL_get L j t ht; omega) ((rL j t ht).onto hX) ((plainL_get L).1 HPL.out j t ht) (HSUB.out j t ht) (HUI.out t ((hgL_get L _).1 (Nat.le_refl _) j t ht)))
  simp only [e2, vv] at IH
  clear e1 e2 hi
  by_cases hL0 : L = []
  · subst hL0
    have hRR : R = [91, 93] := by
      rw [← HR.out, tkV, if_pos rfl]; simp [tkL, txs, Tk.tx]
    subst hRR
    go_enter Tryz.func18, Tryz.ntmps18
    go_wp2_with fail
    go_ret
    exact ⟨rfl, valloc_bel (Below.refl _ _) _⟩
  have hLp : 0 < L.length := List.length_pos_iff.2 hL0
  obtain rfl := hL3 hLp
  rcases hd with ⟨rfl, rfl⟩ | ⟨hd0, rfl⟩
  all_goals
    go_enter Tryz.func18, Tryz.ntmps18
    go_wp2_with fail
    go_loopw [9, 10] (fun sv iv wr => ∃ (j : Nat) (m : ByteArray), j ≤ L.length ∧ iv = .int .i64 j ∧ sv = .string m ∧ m.size ≤ 100000000 ∧ Hid (m = mkS (lsB i L j)) ∧ Below (w.heap.size + 1) (w.alloc (.cells #[.int .i64 5, .int .i64 n, .string s, .slice (some a) L.length capL, .slice o' 0 c'] 27)) wr) (fun _ iv _ => L.length - (intOf iv).toNat)
    case atStart => exact ⟨0, _, Nat.zero_le _, rfl, rfl, by decide, by show _ = _; rw [lsB, List.take_zero, tkL]; rfl, Below.refl _ _⟩
    case round =>
      obtain ⟨j, m, hj, rfl, rfl, hms, HM, hbel⟩ := hrel
      have hbw : Below w.heap.size w wr := ((Below.refl _ _).alloc (Nat.le_refl _) _).trans (hbel.mono (by omega))
      have hB0 := box_cell w wr _ _ _ _ _ _ hbel 0 _ rfl
      have hB3 := box_cell w wr _ _ _ _ _ _ hbel 3 _ rfl
      have hB4 := box_cell w wr _ _ _ _ _ _ hbel 4 _ rfl
      by_cases hlt : j < L.length
      · obtain ⟨t, ht⟩ : ∃ t, L[j]? = some t := ⟨L[j], List.getElem?_eq_getElem hlt⟩
        obtain ⟨d0, d1', d2', d3, d4⟩ := (cL j t ht).onto hbw
        have HST := hid (fun X hX => IH.out j t X ht hX)
        have HNX := hid (lsB_next (i := i) ht)
        have hzt := HSUB.out j t ht
        obtain ⟨pt, hpt⟩ : ∃ pt, mkS (txs (tkV (upN i) t)) = pt := ⟨_, rfl⟩
        rw [hpt] at HST
        have hps : pt.size ≤ 100000000 := by rw [← hpt, mkS_size]; exact hzt
        have HPT := hid hpt
        clear hzt hpt
        have hbsz := hbel.size
        by_cases h0 : j = 0
        · subst h0
          have ea : a.add (0 * 5) = a := by simp [Addr.add]
          rw [ea] at d0 d1' d2' d3 d4
          go_wp2_with (first | (go_at_call 33; go_must (refine (HLN.out _).mono ?_; rintro e w1 ⟨rfl, rfl⟩)) | (go_at_call 18; go_must (refine (HST.out _ hbw).mono ?_; rintro e w1 ⟨rfl, hb1⟩)))
          go_roundw
          case rel => exact ⟨0 + 1, m ++ ls ++ pt, by omega, val_int (by omega), rfl, (by have h9 := HLB.out 1; rw [HNX.out] at h9; rw [ByteArray.size_append, ByteArray.size_append, ba_len HM.out, ← HLS.out, ← HPT.out, mkS_size, mkS_size]; simp only [List.length_append, if_pos, List.length_nil] at h9; omega), (by show _ = _; rw [HNX.out, if_pos trivial, List.nil_append, ba_snoc (ba_snoc HM.out HLS.out.symm) HPT.out.symm, List.append_assoc]), hbel.trans (hb1.mono (by simp at hbsz; omega))⟩
          case measure => simp [intOf]; omega
        · have hj0 : 0 < j := by omega
          go_wp2_with (first | (go_at_call 33; go_must (refine (HLN.out _).mono ?_; rintro e w1 ⟨rfl, rfl⟩)) | (go_at_call 18; go_must (refine (HST.out _ hbw).mono ?_; rintro e w1 ⟨rfl, hb1⟩)))
          go_roundw
          case rel => exact ⟨j + 1, m ++ (⟨#[44]⟩ : ByteArray) ++ ls ++ pt, by omega, val_int (by omega), rfl, (by have h9 := HLB.out (j + 1); rw [HNX.out] at h9; rw [ByteArray.size_append, ByteArray.size_append, ByteArray.size_append, ba_len HM.out, ← HLS.out, ← HPT.out, mkS_size, mkS_size]; simp only [List.length_append, if_neg h0, List.length_singleton] at h9; show _ + 1 + _ + _ ≤ _; omega), (by show _ = _; rw [HNX.out, if_neg h0, ba_snoc (ba_snoc (ba_snoc HM.out (show (⟨#[44]⟩ : ByteArray) = mkS [44] from rfl)) HLS.out.symm) HPT.out.symm, List.append_assoc, List.append_assoc]), hbel.trans (hb1.mono (by simp at hbsz; omega))⟩
          case measure => simp [intOf]; omega
      · obtain rfl : j = L.length := by omega
        go_wp2_with (go_at_call 33; go_must (refine (HLE.out _).mono ?_; rintro e w1 ⟨rfl, rfl⟩))
        go_ret
        exact ⟨ret_st (by rw [ba_snoc (ba_snoc HM.out HLD.out.symm) (show (⟨#[93]⟩ : ByteArray) = mkS [93] from rfl), List.append_assoc, ← HEND.out hL0, HR.out]), hbw⟩
end Go.Proofs.YtkhjahpkbjafaaaGreatDoor
