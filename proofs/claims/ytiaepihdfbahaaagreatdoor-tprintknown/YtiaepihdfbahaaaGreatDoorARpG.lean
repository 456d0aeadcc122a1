/- The document's inline, walked: leaves and lists. -/
import Derived.Test.YtiaepihdfbahaaaGreatDoorAMathIn
import Derived.Test.YtiaepihdfbahaaaGreatDoorARefDecE
import Derived.Test.YtiaepihdfbahaaaGreatDoorAEscRQ2
import Derived.Test.YtiaepihdfbahaaaGreatDoorAMathSx
/- The document's inline, walked whole: maps. -/
namespace Go.Proofs.YtiaepihdfbahaaaGreatDoor
open Go.RowKit

theorem te_small {s : ByteArray} (h : teI s = 0) : s.size ≤ 4096 := by
  have h1 := te_ok s
  rw [h, decide_eq_true rfl] at h1
  unfold strOkB at h1
  rw [Bool.and_eq_true, decide_eq_true_eq, decide_eq_true_eq] at h1
  exact h1.1
theorem by_snoc {m a : ByteArray} {l b : List UInt8} (h : m = mkS l) (g : a = mkS b) : m ++ a = mkS (l ++ b) := by rw [h, g, mkS_app]
theorem by_len {m : ByteArray} {l : List UInt8} (h : m = mkS l) : m.size = l.length := by rw [h, mkS_size]
def InOk (N : Nat) : Prop := ∀ (T : VT) (x y : Value) (w : World), szT T ≤ N → HV w T x y → plainT T = true → (ivT T).length ≤ 1000000000 →
    Calls Tryz.prog 50 #[vv T x y] w fun e w' => e = .returned (.string (mkS (ivT T))) ∧ Below w.heap.size w w'
set_option maxRecDepth 100000 in
set_option maxHeartbeats 2000000 in
theorem inl_leaf (k n : Int) (s : ByteArray) (L V : List VT) (K : List ByteArray) (o o' : Option Addr) (c c' : Nat) (w : World) (hn : (Lit.int .i64 n).wf = true) (hnode : nodeB (.mk k n s L K V) = true) (h5 : ¬ k = 5) (h6 : ¬ k = 6) :
    Calls Tryz.prog 50 #[.agg #[.int .i64 k, .int .i64 n, .string s, .slice o L.length c, .slice o' V.length c']] w fun e w' => e = .returned (.string (mkS (ivT (.mk k n s L K V)))) ∧ Below w.heap.size w w' := by
  have hE : ivT (.mk k n s L K V) = sgS k n s := by rw [ivT, if_neg h5, if_neg h6]
  rw [hE]
  have hw : -9223372036854775808 ≤ n ∧ n < 9223372036854775808 := by
    have := hn
    simp [Lit.wf] at this
    have hm : IntKind.i64.min = -9223372036854775808 := by decide
    omega
  unfold nodeB nodeC at hnode
  simp only [VT.kd, VT.nm, VT.st, VT.ls, VT.ks, VT.vs] at hnode
  have C2 := hid (fun X => text_any n X hw.1 hw.2)
  have C4 := hid (fun X (h : s.size ≤ 100000) => rquote_any true s X h)
  by_cases h1 : k = 1
  · subst h1
    by_cases hn1 : n = 1
    · subst hn1
      go_enter Tryz.func50, Tryz.ntmps50
      go_wp2_with fail
      go_ret
      exact ⟨rfl, valloc_bel (Below.refl _ _) _⟩
    · have e : sgS 1 n s = [102, 97, 108, 115, 101] := by unfold sgS; rw [if_pos rfl, if_neg hn1]
      rw [e]
      go_enter Tryz.func50, Tryz.ntmps50
      go_wp2_with fail
      go_ret
      exact ⟨rfl, valloc_bel (Below.refl _ _) _⟩
  by_cases h2 : k = 2
  · subst h2
    go_enter Tryz.func50, Tryz.ntmps50
    go_wp2_with (go_at_call 74; go_must (refine (C2.out _).mono ?_; rintro e w1 ⟨rfl, hb1⟩))
    go_ret
    exact ⟨rfl, vonto (valloc_bel (Below.refl _ _) _) hb1⟩
  by_cases h4 : k = 4
  · subst h4
    have hsz : s.size ≤ 100000 := by
      simp at hnode
      have := te_small hnode.1.1.2
      omega
    go_enter Tryz.func50, Tryz.ntmps50
    go_wp2_with (go_at_call 27; go_must (refine (C4.out _ hsz).mono ?_; rintro e w1 ⟨rfl, hb1⟩))
    go_ret
    exact ⟨rfl, vonto (valloc_bel (Below.refl _ _) _) hb1⟩
  have e : mkS (sgS k n s) = s := by
    unfold sgS; rw [if_neg h1, if_neg h2, if_neg h4]; exact (mkS_of s _ rfl).symm
  rw [e]
  clear hE e hnode C2 C4
  obtain ⟨a1, b1⟩ := ikey k 1 h1
  obtain ⟨a2, b2⟩ := ikey k 2 h2
  obtain ⟨a4, b4⟩ := ikey k 4 h4
  obtain ⟨a5, b5⟩ := ikey k 5 h5
  obtain ⟨a6, b6⟩ := ikey k 6 h6
  go_enter Tryz.func50, Tryz.ntmps50
  go_wp2_with fail
  go_ret
  exact ⟨rfl, valloc_bel (Below.refl _ _) _⟩
set_option maxRecDepth 100000 in
set_option maxHeartbeats 4000000 in
theorem inl_list (N : Nat) (ih : InOk N) (n : Int) (s : ByteArray) (L : List VT) (o' : Option Addr) (c' : Nat) (x : Value) (w : World) (hN : szT (.mk 5 n s L [] []) ≤ N + 1) (hT : HV w (.mk 5 n s L [] []) x (.slice o' 0 c')) (hpL : plainL L = true) (hlen : (ivT (.mk 5 n s L [] [])).length ≤ 1000000000) :
    Calls Tryz.prog 50 #[.agg #[.int .i64 5, .int .i64 n, .string s, x, .slice o' 0 c']] w fun e w' => e = .returned (.string (mkS (ivT (.mk 5 n s L [] [])))) ∧ Below w.heap.size w w' := by
  cases hT with
  | mk a b f g p q hk hn hs hL hM hK cL cK cM rL rM =>
  obtain ⟨oL, capL, rfl, hL1, hL2, hL3⟩ := hL
  unfold maxLen at hL2
  have hsz : szT (.mk 5 n s L [] []) = 1 + szL L := by simp [szT, szL]
  rw [hsz] at hN
  have HPL := hid hpL
  have HSUB : Hid (∀ (j : Nat) (t : VT), L[j]? = some t → (ivT t).length ≤ 1000000000) := fun j t ht => Nat.le_trans (il_sub ht) hlen
  have HLB : Hid (∀ j, (ilB L j).length ≤ 1000000000) := fun j => Nat.le_trans (il_len j) hlen
  have HEND := hid (il_end (n := n) (s := s) (L := L) (K := []) (V := []))
  obtain ⟨R, hR⟩ : ∃ R, ivT (.mk 5 n s L [] []) = R := ⟨_, rfl⟩
  have HR := hid hR
  rw [hR]
  clear hlen hR hpL hsz
  have IH := hid (fun (j : Nat) (t : VT) (X : World) (ht : L[j]? = some t) (hX : Below w.heap.size w X) => ih t (f j) (g j) X (by have := szL_get L j t ht; omega) ((rL j t ht).onto hX) ((plainL_get L).1 HPL.out j t ht) (HSUB.out j t ht))
  simp only [vv] at IH
  go_enter Tryz.func50, Tryz.ntmps50
  go_wp2_with fail
  go_loopw [3, 4] (fun sv iv wr => ∃ (j : Nat) (m : ByteArray), j ≤ L.length ∧ iv = .int .i64 j ∧ sv = .string m ∧ m.size ≤ 1000000000 ∧ Hid (m = mkS (ilB L j)) ∧ Below (w.heap.size + 1) (w.alloc (.cells #[.int .i64 5, .int .i64 n, .string s, .slice oL L.length capL, .slice o' 0 c'] 27)) wr) (fun _ iv _ => L.length - (intOf iv).toNat)
  case atStart => exact ⟨0, _, Nat.zero_le _, rfl, rfl, by decide, by show _ = _; rw [ilB, List.take_zero, ivL]; rfl, Below.refl _ _⟩
  case round =>
    obtain ⟨j, m, hj, rfl, rfl, hms, HM, hbel⟩ := hrel
    have hbw : Below w.heap.size w wr := ((Below.refl _ _).alloc (Nat.le_refl _) _).trans (hbel.mono (by omega))
    have hB0 := box_cell w wr _ _ _ _ _ _ hbel 0 _ rfl
    have hB3 := box_cell w wr _ _ _ _ _ _ hbel 3 _ rfl
    by_cases hlt : j < L.length
    · obtain rfl := hL3 (by omega)
      obtain ⟨t, ht⟩ : ∃ t, L[j]? = some t := ⟨L[j], List.getElem?_eq_getElem hlt⟩
      obtain ⟨d0, d1', d2', d3, d4⟩ := (cL j t ht).onto hbw
      have HST := hid (fun X hX => IH.out j t X ht hX)
      have HNX := hid (il_next ht)
      have hzt := HSUB.out j t ht
      obtain ⟨pt, hpt⟩ : ∃ pt, mkS (ivT t) = pt := ⟨_, rfl⟩
      rw [hpt] at HST
      have hps : pt.size ≤ 1000000000 := by rw [← hpt, mkS_size]; exact hzt
      have HPT := hid hpt
      clear hzt hpt
      have hbsz := hbel.size
      by_cases h0 : j = 0
      · subst h0
        have ea : a.add (0 * 5) = a := by simp [Addr.add]
        rw [ea] at d0 d1' d2' d3 d4
        go_wp2_with (go_at_call 50; go_must (refine (HST.out _ hbw).mono ?_; rintro e w1 ⟨rfl, hb1⟩))
        have hq : m ++ pt = mkS (ilB L (0 + 1)) := by rw [HNX.out, by_snoc HM.out HPT.out.symm]; rfl
        go_roundw
        case rel => exact ⟨0 + 1, m ++ pt, by omega, val_int (by omega), rfl, by rw [by_len hq]; exact HLB.out _, hq, hbel.trans (hb1.mono (by simp at hbsz; omega))⟩
        case measure => simp [intOf]; omega
      · have hj0 : 0 < j := by omega
        go_wp2_with (go_at_call 50; go_must (refine (HST.out _ hbw).mono ?_; rintro e w1 ⟨rfl, hb1⟩))
        have hq : m ++ (⟨#[44, 32]⟩ : ByteArray) ++ pt = mkS (ilB L (j + 1)) := by
          rw [HNX.out, by_snoc (by_snoc HM.out (show (⟨#[44, 32]⟩ : ByteArray) = mkS [44, 32] from rfl)) HPT.out.symm, decide_eq_false h0, List.append_assoc]; rfl
        go_roundw
        case rel => exact ⟨j + 1, m ++ (⟨#[44, 32]⟩ : ByteArray) ++ pt, by omega, val_int (by omega), rfl, by rw [by_len hq]; exact HLB.out _, hq, hbel.trans (hb1.mono (by simp at hbsz; omega))⟩
        case measure => simp [intOf]; omega
    · obtain rfl : j = L.length := by omega
      go_wp2_with fail
      go_ret
      exact ⟨ret_st (by rw [by_snoc HM.out (show (⟨#[93]⟩ : ByteArray) = mkS [93] from rfl), ← HEND.out, HR.out]), hbw⟩
end Go.Proofs.YtiaepihdfbahaaaGreatDoor
namespace Go.Proofs.YtiaepihdfbahaaaGreatDoor
open Go.RowKit

theorem keys_small {K : List ByteArray} (h : keysB K = true) : ∀ c ∈ K, c.size ≤ 4096 := by
  intro c hc
  obtain ⟨i, hi⟩ := List.getElem?_of_mem hc
  unfold keysB at h
  have h1 := (of_decide_eq_true h i (lt_of_some hi)).1
  rw [getD_some hi] at h1
  unfold strOkB at h1
  rw [Bool.and_eq_true, decide_eq_true_eq, decide_eq_true_eq] at h1
  exact h1.1
set_option maxRecDepth 100000 in
set_option maxHeartbeats 4000000 in
theorem inl_map (N : Nat) (ih : InOk N) (n : Int) (s : ByteArray) (V : List VT) (K : List ByteArray) (o' : Option Addr) (c' : Nat) (x : Value) (w : World) (hN : szT (.mk 6 n s [] K V) ≤ N + 1) (hT : HV w (.mk 6 n s [] K V) (.slice o' 0 c') x) (hpL : plainL V = true) (hks : ∀ c ∈ K, c.size ≤ 4096) (hlen : (ivT (.mk 6 n s [] K V)).length ≤ 1000000000) :
    Calls Tryz.prog 50 #[.agg #[.int .i64 6, .int .i64 n, .string s, .slice o' 0 c', x]] w fun e w' => e = .returned (.string (mkS (ivT (.mk 6 n s [] K V)))) ∧ Below w.heap.size w w' := by
  cases hT with
  | mk a b f g p q hk hn hs hL hM hK cL cK cM rL rM =>
  obtain ⟨oL, capL, rfl, hL1, hL2, hL3⟩ := hM
  unfold maxLen at hL2
  have hsz : szT (.mk 6 n s [] K V) = 1 + szL V := by simp [szT, szL]
  rw [hsz] at hN
  have HPL := hid hpL
  have HSUB : Hid (∀ (j : Nat) (t : VT) (c : ByteArray), V[j]? = some t → K[j]? = some c → (ivT t).length + (pkB c.data.toList).length ≤ 1000000000) := fun j t c ht hc => Nat.le_trans (im_sub hK ht hc) hlen
  have HLB : Hid (∀ j, (imB V K j).length ≤ 1000000000) := fun j => Nat.le_trans (im_len hK j) hlen
  have HEND := hid (im_end (n := n) (s := s) (L := []) (K := K) (V := V) hK)
  have CQ := hid (fun (c : ByteArray) X (h : c.size ≤ 100000) => rpkey_any c X h)
  obtain ⟨R, hR⟩ : ∃ R, ivT (.mk 6 n s [] K V) = R := ⟨_, rfl⟩
  have HR := hid hR
  rw [hR]
  clear hlen hR hpL hsz
  have IH := hid (fun (j : Nat) (t : VT) (c : ByteArray) (X : World) (ht : V[j]? = some t) (hc : K[j]? = some c) (hX : Below w.heap.size w X) => ih t (p j) (q j) X (by have := szL_get V j t ht; omega) ((rM j t ht).onto hX) ((plainL_get V).1 HPL.out j t ht) (by have := HSUB.out j t c ht hc; omega))
  simp only [vv] at IH
  go_enter Tryz.func50, Tryz.ntmps50
  go_wp2_with fail
  go_loopw [5, 6] (fun sv iv wr => ∃ (j : Nat) (m : ByteArray), j ≤ V.length ∧ iv = .int .i64 j ∧ sv = .string m ∧ m.size ≤ 1000000000 ∧ Hid (m = mkS (imB V K j)) ∧ Below (w.heap.size + 1) (w.alloc (.cells #[.int .i64 6, .int .i64 n, .string s, .slice o' 0 c', .slice oL V.length capL] 27)) wr) (fun _ iv _ => V.length - (intOf iv).toNat)
  case atStart => exact ⟨0, _, Nat.zero_le _, rfl, rfl, by decide, by show _ = _; rw [imB, List.take_zero, List.take_zero, ivM]; rfl, Below.refl _ _⟩
  case round =>
    obtain ⟨j, m, hj, rfl, rfl, hms, HM, hbel⟩ := hrel
    have hbw : Below w.heap.size w wr := ((Below.refl _ _).alloc (Nat.le_refl _) _).trans (hbel.mono (by omega))
    have hB0 := box_cell w wr _ _ _ _ _ _ hbel 0 _ rfl
    have hB4 := box_cell w wr _ _ _ _ _ _ hbel 4 _ rfl
    by_cases hlt : j < V.length
    · obtain rfl := hL3 (by omega)
      obtain ⟨t, ht⟩ : ∃ t, V[j]? = some t := ⟨V[j], List.getElem?_eq_getElem hlt⟩
      obtain ⟨c, hc⟩ : ∃ c, K[j]? = some c := ⟨K[j]'(by omega), List.getElem?_eq_getElem (by omega)⟩
      have hnode := (cM j t ht).onto hbw
      simp only [Node, nx] at hnode
      obtain ⟨d0, d1', d2', d3, d4⟩ := hnode
      have dk := keepCell hbw (cK j c hc).1
      have hcs : c.size ≤ 100000 := by have := hks c (List.mem_of_getElem? hc); omega
      have HQ := hid (fun X => CQ.out c X hcs)
      have hzt := HSUB.out j t c ht hc
      obtain ⟨qt, hqt⟩ : ∃ qt, mkS (pkB c.data.toList) = qt := ⟨_, rfl⟩
      rw [hqt] at HQ
      have HQT := hid hqt
      have hqs : qt.size ≤ 1000000000 := by rw [← hqt, mkS_size]; omega
      have HST := hid (fun X hX => IH.out j t c X ht hc hX)
      have HNX := hid (im_next ht hc)
      obtain ⟨pt, hpt⟩ : ∃ pt, mkS (ivT t) = pt := ⟨_, rfl⟩
      rw [hpt] at HST
      have hps : pt.size ≤ 1000000000 := by rw [← hpt, mkS_size]; omega
      have HPT := hid hpt
      clear hzt hpt hqt
      have hbsz := hbel.size
      have hinh := abv_some wr
      have KQ := hid (fun X : Abv wr => HQ.out X.u)
      have KP := hid (fun X : Abv wr => HST.out X.u (vonto hbw X.h))
      by_cases h0 : j = 0
      · subst h0
        have ea : b.add (0 * 6) = b := by simp [Addr.add]
        rw [ea] at d0 d1' d2' d3 d4 dk
        go_wp2_with fail
        have y0 := above_cell d0
        have y1 := above_cell d1'
        have y2 := above_cell d2'
        have y3 := above_cell d3
        have y4 := above_cell d4
        have yk := above_cell dk
        have z0 := above_cell hB0
        have z4 := above_cell hB4
        clear d0 d1' d2' d3 d4 dk hB0 hB4
        refine wp_region_above (by kernel_rfl) (by kernel_rfl) ?_
        repeat (go_big_quiet_step ((first
          | (go_at_call 14; with_reducible exact above_of (KQ.out _))
          | (go_at_call 50; with_reducible exact above_of (KP.out _)))))
        refine wpQuiet_nil ?_
        intro _ hw'
        obtain ⟨X, hX⟩ := hw'
        subst hX
        go_wp2_with fail
        have hq : m ++ qt ++ (⟨#[32, 61, 32]⟩ : ByteArray) ++ pt = mkS (imB V K (0 + 1)) := by
          rw [HNX.out, by_snoc (by_snoc (by_snoc HM.out HQT.out.symm) (show (⟨#[32, 61, 32]⟩ : ByteArray) = mkS [32, 61, 32] from rfl)) HPT.out.symm]
          simp [coB, List.append_assoc]
        refine ⟨⟨0 + 1, _, by omega, val_int (by omega), rfl, (by rw [by_len hq]; exact HLB.out _), hq, hbel.trans (X.h.mono (by simp at hbsz; omega))⟩, ?_⟩
        simp [intOf]; omega
      · have hj0 : 0 < j := by omega
        go_wp2_with fail
        have y0 := above_cell d0
        have y1 := above_cell d1'
        have y2 := above_cell d2'
        have y3 := above_cell d3
        have y4 := above_cell d4
        have yk := above_cell dk
        have z0 := above_cell hB0
        have z4 := above_cell hB4
        clear d0 d1' d2' d3 d4 dk hB0 hB4
        refine wp_region_above (by kernel_rfl) (by kernel_rfl) ?_
        repeat (go_big_quiet_step ((first
          | (go_at_call 14; with_reducible exact above_of (KQ.out _))
          | (go_at_call 50; with_reducible exact above_of (KP.out _)))))
        refine wpQuiet_nil ?_
        intro _ hw'
        obtain ⟨X, hX⟩ := hw'
        subst hX
        go_wp2_with fail
        have hq : m ++ (⟨#[44, 32]⟩ : ByteArray) ++ qt ++ (⟨#[32, 61, 32]⟩ : ByteArray) ++ pt = mkS (imB V K (j + 1)) := by
          rw [HNX.out, by_snoc (by_snoc (by_snoc (by_snoc HM.out (show (⟨#[44, 32]⟩ : ByteArray) = mkS [44, 32] from rfl)) HQT.out.symm) (show (⟨#[32, 61, 32]⟩ : ByteArray) = mkS [32, 61, 32] from rfl)) HPT.out.symm, decide_eq_false h0]
          simp [coB, List.append_assoc]
        refine ⟨⟨j + 1, _, by omega, val_int (by omega), rfl, (by rw [by_len hq]; exact HLB.out _), hq, hbel.trans (X.h.mono (by simp at hbsz; omega))⟩, ?_⟩
        simp [intOf]; omega
    · obtain rfl : j = V.length := by omega
      go_wp2_with fail
      go_ret
      exact ⟨ret_st (by rw [by_snoc HM.out (show (⟨#[125]⟩ : ByteArray) = mkS [125] from rfl), ← HEND.out, HR.out]), hbw⟩
/-- the document's inline, of a tree that may be -/
theorem inl_any : ∀ N : Nat, InOk N
  | 0 => fun T x y w h => by have := szT_pos T; omega
  | N + 1 => by
    intro T x y w hN hT hp hlen
    cases T with
    | mk k n s L K V =>
      rw [plainT, Bool.and_eq_true, Bool.and_eq_true] at hp
      obtain ⟨⟨hnode, hpL⟩, hpV⟩ := hp
      have hnb := hnode
      unfold nodeB nodeC at hnb
      simp only [VT.kd, VT.nm, VT.st, VT.ls, VT.ks, VT.vs] at hnb
      obtain ⟨oL, nL, cL, oM, nM, cM, rfl, rfl, rfl, rfl, hwn, hKV⟩ : ∃ oL nL cL oM nM cM, x = .slice oL nL cL ∧ y = .slice oM nM cM ∧ nL = L.length ∧ nM = V.length ∧ (Lit.int .i64 n).wf = true ∧ K.length = V.length := by
        cases hT with
        | mk a b f g p q hk hn hs hL hM hK cL cK cM rL rM =>
          obtain ⟨oL, capL, rfl, -, -, -⟩ := hL
          obtain ⟨oM, capM, rfl, -, -, -⟩ := hM
          exact ⟨_, _, _, _, _, _, rfl, rfl, rfl, rfl, hn, hK⟩
      by_cases h5 : k = 5
      · subst h5
        simp at hnb
        obtain rfl := hnb.2
        obtain rfl : K = [] := List.eq_nil_of_length_eq_zero hKV
        exact inl_list N (inl_any N) n s L oM cM _ w hN hT hpL hlen
      by_cases h6 : k = 6
      · subst h6
        simp at hnb
        obtain rfl := hnb.1.2
        exact inl_map N (inl_any N) n s V K oL cL _ w hN hT hpV (keys_small hnb.2) hlen
      exact inl_leaf k n s L V K oL oM cL cM w hwn hnode h5 h6
end Go.Proofs.YtiaepihdfbahaaaGreatDoor
