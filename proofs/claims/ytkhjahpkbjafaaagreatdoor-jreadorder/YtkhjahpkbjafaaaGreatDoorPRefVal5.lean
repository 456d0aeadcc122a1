/- The document's own printer of JSON, walked whole: maps. -/
import Derived.Test.YtkhjahpkbjafaaaGreatDoorPRefPrint2
import Derived.Test.YtkhjahpkbjafaaaGreatDoorPRefVal4
import Derived.Test.YtkhjahpkbjafaaaGreatDoorPRefOne
import Derived.Test.YtkhjahpkbjafaaaGreatDoorPRefDec
/- The document's own judgement of texts in trees, walked: Str, Stamp. -/
namespace Go.Proofs.YtkhjahpkbjafaaaGreatDoor
open Go.RowKit

set_option maxRecDepth 100000 in
set_option maxHeartbeats 4000000 in
theorem print_map (N : Nat) (ih : PrOk N) (n : Int) (s : ByteArray) (V : List VT) (K : List ByteArray) (o' : Option Addr) (c' : Nat) (x : Value) (i : Option Nat) (w : World) (hN : szT (.mk 6 n s [] K V) ≤ N + 1) (hT : HV w (.mk 6 n s [] K V) (.slice o' 0 c') x) (hpL : plainL V = true) (hks : ∀ c ∈ K, teI c = 0) (hlen : (txs (tkV i (.mk 6 n s [] K V))).length ≤ 100000000) (hi : ∀ k, i = some k → k + hgT (.mk 6 n s [] K V) ≤ 10000) :
    Calls Tryz.prog 18 #[.agg #[.int .i64 6, .int .i64 n, .string s, .slice o' 0 c', x], .int .i64 (inI i)] w fun e w' => e = .returned (.string (mkS (txs (tkV i (.mk 6 n s [] K V))))) ∧ Below w.heap.size w w' := by
  cases hT with
  | mk a b f g p q hk hn hs hL hM hK cL cK cM rL rM =>
  obtain ⟨oL, capL, rfl, hL1, hL2, hL3⟩ := hM
  unfold maxLen at hL2
  have hsz : szT (.mk 6 n s [] K V) = 1 + szL V := by simp [szT, szL]
  have hhg : hgT (.mk 6 n s [] K V) = 1 + hgL V := by simp [hgT, hgL]
  rw [hsz] at hN
  rw [hhg] at hi
  have hup : ∀ k, upN i = some k → k ≤ 10000 := up_le (fun k hk => by have := hi k hk; omega)
  have hui : ∀ (t : VT), hgT t ≤ hgL V → ∀ k, upN i = some k → k + hgT t ≤ 10000 := fun t ht k hk => by
    cases i with
    | none => simp [upN] at hk
    | some a => simp [upN] at hk; have := hi a rfl; omega
  have hii : ∀ k, i = some k → k ≤ 10000 := fun k hk => by have := hi k hk; omega
  have HLN := hid (fun X => line8_any (upN i) X hup)
  have HLE := hid (fun X => line8_any i X hii)
  have s1 := ln_size (upN i) 10000 hup
  have s2 := ln_size i 10000 hii
  have HPL := hid hpL
  have HSUB : Hid (∀ (j : Nat) (t : VT) (c : ByteArray), V[j]? = some t → K[j]? = some c → (txs (tkV (upN i) t)).length ≤ 100000000) := fun j t c ht hc => by
    have := sub_lenM i (n := n) (s := s) (L := []) hK ht hc
    omega
  have HLB : Hid (∀ j, (msB i V K j).length ≤ 100000000) := fun j => Nat.le_trans (msB_len hK j) hlen
  have HEND := hid (fun h => msB_end (i := i) (n := n) (s := s) (L := []) (K := K) (V := V) h hK)
  have CQ := hid (fun (c : ByteArray) X (h : c.size ≤ 100000) => rquote_any false c X h)
  have HUI := hid hui
  obtain ⟨R, hR⟩ : ∃ R, txs (tkV i (.mk 6 n s [] K V)) = R := ⟨_, rfl⟩
  have HR := hid hR
  rw [hR]
  obtain ⟨ls, hls⟩ : ∃ ls, mkS (txs (lnT (upN i))) = ls := ⟨_, rfl⟩
  obtain ⟨le, hle⟩ : ∃ le, mkS (txs (lnT i)) = le := ⟨_, rfl⟩
  have z1 : ls.size ≤ 20001 := by rw [← hls, mkS_size]; omega
  have z2 : le.size ≤ 20001 := by rw [← hle, mkS_size]; omega
  rw [hls] at HLN
  rw [hle] at HLE
  have HLS := hid hls
  have HLD := hid hle
  clear hlen hR hls hle hpL s1 s2 hup hii hui hsz hhg
  have hdi : ∃ (di du : Int), inI i = di ∧ inI (upN i) = du ∧ -1 ≤ di ∧ di ≤ 10000 ∧ ((di = -1 ∧ du = -1 ∧ txs (clnT i) = [58]) ∨ (0 ≤ di ∧ du = di + 1 ∧ txs (clnT i) = [58, 32])) := by
    cases i with
    | none => exact ⟨-1, -1, rfl, rfl, by omega, by omega, Or.inl ⟨rfl, rfl, rfl⟩⟩
    | some k => exact ⟨k, k + 1, rfl, rfl, by omega, by have := hi k rfl; omega, Or.inr ⟨by omega, rfl, rfl⟩⟩
  obtain ⟨di, du, e1, e2, d1, d2, hd⟩ := hdi
  rw [e1] at HLE ⊢
  rw [e2] at HLN
  have IH := hid (fun (j : Nat) (t : VT) (c : ByteArray) (X : World) (ht : V[j]? = some t) (hc : K[j]? = some c) (hX : Below w.heap.size w X) => ih t (p j) (q j) (upN i) X (by have := szL_get V j t ht; omega) ((rM j t ht).onto hX) ((plainL_get V).1 HPL.out j t ht) (HSUB.out j t c ht hc) (HUI.out t ((hgL_get V _).1 (Nat.le_refl _) j t ht)))
  simp only [e2, vv] at IH
  clear e1 e2 hi
  by_cases hL0 : V = []
  · subst hL0
    have hRR : R = [123, 125] := by
      rw [← HR.out, tkV, if_neg (by decide), if_pos rfl]; simp [tkM, txs, Tk.tx]
    subst hRR
    go_enter Tryz.func18, Tryz.ntmps18
    go_wp2_with fail
    go_ret
    exact ⟨rfl, valloc_bel (Below.refl _ _) _⟩
  have hLp : 0 < V.length := List.length_pos_iff.2 hL0
  obtain rfl := hL3 hLp
  rcases hd with ⟨rfl, rfl, hcl⟩ | ⟨hd0, rfl, hcl⟩
  all_goals
    have HCL := hid hcl
    clear hcl
    go_enter Tryz.func18, Tryz.ntmps18
    go_wp2_with fail
    go_loopw [9, 10] (fun sv iv wr => ∃ (j : Nat) (m : ByteArray), j ≤ V.length ∧ iv = .int .i64 j ∧ sv = .string m ∧ m.size ≤ 100000000 ∧ Hid (m = mkS (msB i V K j)) ∧ Below (w.heap.size + 1) (w.alloc (.cells #[.int .i64 6, .int .i64 n, .string s, .slice o' 0 c', .slice (some b) V.length capL] 27)) wr) (fun _ iv _ => V.length - (intOf iv).toNat)
    case atStart => exact ⟨0, _, Nat.zero_le _, rfl, rfl, by decide, by show _ = _; rw [msB, List.take_zero, List.take_zero, tkM]; rfl, Below.refl _ _⟩
    case round =>
      obtain ⟨j, m, hj, rfl, rfl, hms, HM, hbel⟩ := hrel
      have hbw : Below w.heap.size w wr := ((Below.refl _ _).alloc (Nat.le_refl _) _).trans (hbel.mono (by omega))
      have hB0 := box_cell w wr _ _ _ _ _ _ hbel 0 _ rfl
      have hB3 := box_cell w wr _ _ _ _ _ _ hbel 3 _ rfl
      have hB4 := box_cell w wr _ _ _ _ _ _ hbel 4 _ rfl
      by_cases hlt : j < V.length
      · obtain ⟨t, ht⟩ : ∃ t, V[j]? = some t := ⟨V[j], List.getElem?_eq_getElem hlt⟩
        obtain ⟨c, hc⟩ : ∃ c, K[j]? = some c := ⟨K[j]'(by omega), List.getElem?_eq_getElem (by omega)⟩
        have hnode := (cM j t ht).onto hbw
        simp only [Node, nx] at hnode
        obtain ⟨d0, d1', d2', d3, d4⟩ := hnode
        have dk := keepCell hbw (cK j c hc).1
        have hcs : c.size ≤ 100000 := by
          have := (te_vl (hks c (List.mem_of_getElem? hc))).2
          rw [size_list] at this; omega
        have HQ := hid (fun X => CQ.out c X hcs)
        obtain ⟨qt, hqt⟩ : ∃ qt, mkS (qtA false c.data.toList) = qt := ⟨_, rfl⟩
        rw [hqt] at HQ
        have HQT := hid hqt
        have hqs : qt.size ≤ 700000 := by
          rw [← hqt, mkS_size]
          unfold qtA
          have h1 := qtK_len false c.data.toList (cnt c.data.toList)
          have h2 := cnt_le c.data.toList
          rw [size_list] at h2
          rw [List.length_append, List.length_singleton]; omega
        have HST := hid (fun X hX => IH.out j t c X ht hc hX)
        have HNX := hid (msB_next (i := i) ht hc)
        have hzt := HSUB.out j t c ht hc
        obtain ⟨pt, hpt⟩ : ∃ pt, mkS (txs (tkV (upN i) t)) = pt := ⟨_, rfl⟩
        rw [hpt] at HST
        have hps : pt.size ≤ 100000000 := by rw [← hpt, mkS_size]; exact hzt
        have HPT := hid hpt
        clear hzt hpt
        have hbsz := hbel.size
        by_cases h0 : j = 0
        · subst h0
          have ea : b.add (0 * 6) = b := by simp [Addr.add]
          rw [ea] at d0 d1' d2' d3 d4 dk
          go_wp2_with (go_at_call 33; go_must (refine (HLN.out _).mono ?_; rintro e w1 ⟨rfl, hw1⟩; obtain rfl := hw1.symm))
          have hinh := abv_some wr
          have KQ := hid (fun X : Abv wr => HQ.out X.u)
          have KP := hid (fun X : Abv wr => HST.out X.u (vonto hbw X.h))
          have y0 := above_cell d0
          have y1 := above_cell d1'
          have y2 := above_cell d2'
          have y3 := above_cell d3
          have y4 := above_cell d4
          have yk := above_cell dk
          have z0 := above_cell hB0
          have z4 := above_cell hB4
          clear d0 d1' d2' d3 d4 dk hB0 hB3 hB4
          refine wp_region_above (by kernel_rfl) (by kernel_rfl) ?_
          repeat (go_big_quiet_step ((first
            | (go_at_call 32; with_reducible exact above_of (KQ.out _))
            | (go_at_call 18; with_reducible exact above_of (KP.out _)))))
          refine wpQuiet_nil ?_
          intro _ hw'
          obtain ⟨X, hX⟩ := hw'
          subst hX
          go_wp2_with fail
          have hq : ∀ co : ByteArray, co = mkS (txs (clnT i)) → m ++ ls ++ qt ++ co ++ pt = mkS (msB i V K (0 + 1)) := fun co hco => by
            rw [HNX.out, if_pos trivial, List.nil_append, ba_snoc (ba_snoc (ba_snoc (ba_snoc HM.out HLS.out.symm) HQT.out.symm) hco) HPT.out.symm]
            simp only [List.append_assoc]
          refine ⟨⟨0 + 1, _, by omega, val_int (by omega), rfl, (by rw [ba_len (hq _ (by rw [HCL.out]; rfl))]; exact HLB.out _), hq _ (by rw [HCL.out]; rfl), hbel.trans (X.h.mono (by simp at hbsz; omega))⟩, ?_⟩
          simp [intOf]; omega
        · have hj0 : 0 < j := by omega
          go_wp2_with (go_at_call 33; go_must (refine (HLN.out _).mono ?_; rintro e w1 ⟨rfl, hw1⟩; obtain rfl := hw1.symm))
          have hinh := abv_some wr
          have KQ := hid (fun X : Abv wr => HQ.out X.u)
          have KP := hid (fun X : Abv wr => HST.out X.u (vonto hbw X.h))
          have y0 := above_cell d0
          have y1 := above_cell d1'
          have y2 := above_cell d2'
          have y3 := above_cell d3
          have y4 := above_cell d4
          have yk := above_cell dk
          have z0 := above_cell hB0
          have z4 := above_cell hB4
          clear d0 d1' d2' d3 d4 dk hB0 hB3 hB4
          refine wp_region_above (by kernel_rfl) (by kernel_rfl) ?_
          repeat (go_big_quiet_step ((first
            | (go_at_call 32; with_reducible exact above_of (KQ.out _))
            | (go_at_call 18; with_reducible exact above_of (KP.out _)))))
          refine wpQuiet_nil ?_
          intro _ hw'
          obtain ⟨X, hX⟩ := hw'
          subst hX
          go_wp2_with fail
          have hq : ∀ co : ByteArray, co = mkS (txs (clnT i)) → m ++ (⟨#[44]⟩ : ByteArray) ++ ls ++ qt ++ co ++ pt = mkS (msB i V K (j + 1)) := fun co hco => by
            rw [HNX.out, if_neg h0, ba_snoc (ba_snoc (ba_snoc (ba_snoc (ba_snoc HM.out (show (⟨#[44]⟩ : ByteArray) = mkS [44] from rfl)) HLS.out.symm) HQT.out.symm) hco) HPT.out.symm]
            simp only [List.append_assoc]
          refine ⟨⟨j + 1, _, by omega, val_int (by omega), rfl, (by rw [ba_len (hq _ (by rw [HCL.out]; rfl))]; exact HLB.out _), hq _ (by rw [HCL.out]; rfl), hbel.trans (X.h.mono (by simp at hbsz; omega))⟩, ?_⟩
          simp [intOf]; omega
      · obtain rfl : j = V.length := by omega
        go_wp2_with (go_at_call 33; go_must (refine (HLE.out _).mono ?_; rintro e w1 ⟨rfl, rfl⟩))
        go_ret
        exact ⟨ret_st (by rw [ba_snoc (ba_snoc HM.out HLD.out.symm) (show (⟨#[125]⟩ : ByteArray) = mkS [125] from rfl), List.append_assoc, ← HEND.out hL0, HR.out]), hbw⟩
/-- the document's Print, of a tree that may be -/
theorem print_any : ∀ N : Nat, PrOk N
  | 0 => fun T x y i w h => by have := szT_pos T; omega
  | N + 1 => by
    intro T x y i w hN hT hp hlen hi
    cases T with
    | mk k n s L K V =>
      have hp' := hp
      rw [plainT, Bool.and_eq_true, Bool.and_eq_true] at hp
      obtain ⟨⟨hnode, hpL⟩, hpV⟩ := hp
      have hnb := hnode
      unfold nodeB nodeC at hnb
      simp only [VT.kd, VT.nm, VT.st, VT.ls, VT.ks, VT.vs] at hnb
      obtain ⟨oL, nL, cL, oM, nM, cM, rfl, rfl, rfl, rfl, hwn, hKV⟩ : ∃ oL nL cL oM nM cM, x = .slice oL nL cL ∧ y = .slice oM nM cM ∧ nL = L.length ∧ nM = V.length ∧ (Lit.int .i64 n).wf = true ∧ K.length = V.length := by
        cases hT with
        | mk a b f g p q hk hn hs hL hM hK cL cK cM rL rM =>
          obtain ⟨oL, capL, rfl, -, -, -⟩ := hL
          obtain ⟨oM, capM, rfl, -, -, -⟩ := hM
          exact ⟨_, _, _, _, _, _, rfl, rfl, rfl, rfl, hn, hK⟩
      by_cases h5 : k = 5
      · subst h5
        simp at hnb
        obtain rfl := hnb.2
        obtain rfl : K = [] := List.eq_nil_of_length_eq_zero hKV
        exact print_list N (print_any N) n s L oM cM _ i w hN hT hpL hlen hi
      by_cases h6 : k = 6
      · subst h6
        simp at hnb
        obtain rfl := hnb.1.2
        exact print_map N (print_any N) n s V K oL cL _ i w hN hT hpV (keys_te hnb.2) hlen hi
      exact print_leaf k n s L V K oL oM cL cM i w hwn hnode h5 h6
end Go.Proofs.YtkhjahpkbjafaaaGreatDoor
namespace Go.Proofs.YtkhjahpkbjafaaaGreatDoor
open Go.RowKit

set_option maxRecDepth 100000 in
set_option maxHeartbeats 400000 in
theorem str_any (s : ByteArray) (w : World) (hs : s.size ≤ maxLen) :
    Calls Tryz.prog 17 #[.string s] w fun e w' => e = .returned (.bool (strOkB s)) ∧ Below w.heap.size w w' := by
  have HS := hid hs
  unfold maxLen at hs
  by_cases h4 : s.size ≤ 4096
  · have H := hid (show strOkB s = decide (rvI s.data.toList < 0) by unfold strOkB; rw [decide_eq_true h4]; rfl)
    go_enter Tryz.func17, Tryz.ntmps17
    go_wp2_with (go_at_call 29; go_must (refine (rvalid_any _ _ HS.out).mono ?_; rintro e w1 ⟨rfl, hb1⟩))
    go_ret
    exact ⟨ret_bool H.out.symm, hb1⟩
  · have H := hid (show strOkB s = false by unfold strOkB; rw [decide_eq_false h4]; rfl)
    go_enter Tryz.func17, Tryz.ntmps17
    go_wp2_with fail
    go_ret
    exact ⟨ret_bool H.out.symm, Below.refl _ _⟩
set_option maxRecDepth 100000 in
set_option maxHeartbeats 400000 in
theorem stamp_any (s : ByteArray) (w : World) (hs : s.size ≤ maxLen) :
    Calls Tryz.prog 49 #[.string s] w fun e w' => e = .returned (.bool (stampB s)) ∧ w' = w := by
  unfold maxLen at hs
  have HZ := hid (size_list s)
  by_cases h1 : s.size < 1
  · have H := hid (show stampB s = false by unfold stampB; rw [decide_eq_false (by omega)]; rfl)
    go_enter Tryz.func49, Tryz.ntmps49
    go_wp2_with fail
    go_ret
    exact ⟨ret_bool H.out.symm, rfl⟩
  · by_cases h2 : s.size > 64
    · have H := hid (show stampB s = false by unfold stampB; rw [decide_eq_false (show ¬ s.size ≤ 64 by omega)]; simp)
      go_enter Tryz.func49, Tryz.ntmps49
      go_wp2_with fail
      go_ret
      exact ⟨ret_bool H.out.symm, rfl⟩
    · have H := hid (show stampB s = s.data.toList.all (fun b => decide (32 ≤ b.toNat) && decide (b.toNat ≤ 126)) by
        unfold stampB; rw [decide_eq_true (show 1 ≤ s.size by omega), decide_eq_true (show s.size ≤ 64 by omega)]; rfl)
      go_enter Tryz.func49, Tryz.ntmps49
      go_wp2_with fail
      go_loop [3] (fun i => ∃ j : Nat, j ≤ s.size ∧ i = .int .i64 j ∧ Hid (∀ k (h : k < s.size), k < j → 32 ≤ s[k].toNat ∧ s[k].toNat ≤ 126)) (fun i => s.size - (intOf i).toNat)
      case atStart => exact ⟨0, Nat.zero_le _, rfl, fun k h hk => absurd hk (by omega)⟩
      case round =>
        obtain ⟨j, hj, rfl, HJ⟩ := hrel
        by_cases hlt : j < s.size
        · have HG := hid (getD_at s j hlt)
          by_cases h3 : s[j].toNat < 32
          · have HF := hid (show stampB s = false by
              rw [H.out, Bool.eq_false_iff]; intro hc
              have := List.all_eq_true.1 hc s[j] (by rw [← HG.out, List.getD, List.getElem?_eq_getElem (by rw [HZ.out]; exact hlt)]; exact List.getElem_mem _)
              simp at this; omega)
            go_wp2_with fail
            go_ret
            exact ⟨ret_bool HF.out.symm, rfl⟩
          · by_cases h4 : s[j].toNat > 126
            · have HF := hid (show stampB s = false by
                rw [H.out, Bool.eq_false_iff]; intro hc
                have := List.all_eq_true.1 hc s[j] (by rw [← HG.out, List.getD, List.getElem?_eq_getElem (by rw [HZ.out]; exact hlt)]; exact List.getElem_mem _)
                simp at this; omega)
              go_wp2_with fail
              go_ret
              exact ⟨ret_bool HF.out.symm, rfl⟩
            · go_wp2_with fail
              go_round
              case rel => exact ⟨j + 1, hlt, val_int (by omega), fun k h hk => by
                by_cases e : k = j
                · subst e; exact ⟨by omega, by omega⟩
                · exact HJ.out k h (by omega)⟩
              case measure => simp [intOf]; omega
        · have HF := hid (show stampB s = true by
            rw [H.out]; refine List.all_eq_true.2 fun b hb => ?_
            obtain ⟨k, hk, rfl⟩ := List.getElem_of_mem hb
            have hk' : k < s.size := by rw [← HZ.out]; exact hk
            have := HJ.out k hk' (by omega)
            simp; exact this)
          go_wp2_with fail
          go_ret
          exact ⟨ret_bool HF.out.symm, rfl⟩
end Go.Proofs.YtkhjahpkbjafaaaGreatDoor
