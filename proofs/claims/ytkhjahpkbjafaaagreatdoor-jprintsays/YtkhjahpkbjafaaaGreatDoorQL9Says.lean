/- The document's own printer of JSON, walked whole: maps. -/
import Derived.Test.YtkhjahpkbjafaaaGreatDoorQRefPrint2
import Derived.Test.YtkhjahpkbjafaaaGreatDoorQL9Base
import Derived.Test.YtkhjahpkbjafaaaGreatDoorQVOpen
/- Any value is written as the document says: JprintSays walked. -/
namespace Go.Proofs.YtkhjahpkbjafaaaGreatDoor
open Go.RowKit

set_option maxRecDepth 100000 in
set_option maxHeartbeats 4000000 in
theorem print_map (N : Nat) (ih : PrOk N) (n : Int) (s : ByteArray) (V : List VT) (K : List ByteArray) (o' : Option Addr) (c' : Nat) (x : Value) (i : Option Nat) (w : World) (hN : szT (.mk 6 n s [] K V) ≤ N + 1) (hT : HV w (.mk 6 n s [] K V) (.slice o' 0 c') x) (hpL : plainL V = true) (hks : ∀ c ∈ K, teI c = 0) (hlen : (txs (tkV i (.mk 6 n s [] K V))).length ≤ 100000000) (hi : ∀ k, i = some k → k + hgT (.mk 6 n s [] K V) ≤ 10000) :
    Calls Tryz.prog 18 #[.agg #[.int .i64 6, .int .i64 n, .string s, .slice o' 0 c', x], .int .i64 (inI i)] w fun e w' => e = .returned (.string (mkS (txs (tkV i (.mk 6 n s [] K V))))) ∧ Below w.heap.size w w' := by
  cases hT with
  | mk a b f g p q hk hn hs hL hM hK cL cK cM rL rM =>
  obtain ⟨oL, capL, rfl, hL1, hL2, hL3⟩ := hM
  unfold maxLen at hL2
  have hsz : szT (.mk 6 n s [] K V) = 1 + szL V := by simp [szT, szL]
  have hhg : hgT (.mk 6 n s [] K V) = 1 + hgL V := by simp [hgT, hgL]
  rw [hsz] at hN
  rw [hhg] at hi
  have hup : ∀ k, upN i = some k → k ≤ 10000 := up_le (fun k hk => by have := hi k hk; omega)
  have hui : ∀ (t : VT), hgT t ≤ hgL V → ∀ k, upN i = some k → k + hgT t ≤ 10000 := fun t ht k hk => by
    cases i with
    | none => simp [upN] at hk
    | some a => simp [upN] at hk; have := hi a rfl; omega
  have hii : ∀ k, i = some k → k ≤ 10000 := fun k hk => by have := hi k hk; omega
  have HLN := hid (fun X => line8_any (upN i) X hup)
  have HLE := hid (fun X => line8_any i X hii)
  have s1 := ln_size (upN i) 10000 hup
  have s2 := ln_size i 10000 hii
  have HPL := hid hpL
  have HSUB : Hid (∀ (j : Nat) (t : VT) (c : ByteArray), V[j]? = some t → K[j]? = some c → (txs (tkV (upN i) t)).length ≤ 100000000) := fun j t c ht hc => by
    have := sub_lenM i (n := n) (s := s) (L := []) hK ht hc
    omega
  have HLB : Hid (∀ j, (msB i V K j).length ≤ 100000000) := fun j => Nat.le_trans (msB_len hK j) hlen
  have HEND := hid (fun h => msB_end (i := i) (n := n) (s := s) (L := []) (K := K) (V := V) h hK)
  have CQ := hid (fun (c : ByteArray) X (h : c.size ≤ 100000) => rquote_any false c X h)
  have HUI := hid hui
  obtain ⟨R, hR⟩ : ∃ R, txs (tkV i (.mk 6 n s [] K V)) = R := ⟨_, rfl⟩
  have HR := hid hR
  rw [hR]
  obtain ⟨ls, hls⟩ : ∃ ls, mkS (txs (lnT (upN i))) = ls := ⟨_, rfl⟩
  obtain ⟨le, hle⟩ : ∃ le, mkS (txs (lnT i)) = le := ⟨_, rfl⟩
  have z1 : ls.size ≤ 20001 := by rw [← hls, mkS_size]; omega
  have z2 : le.size ≤ 20001 := by rw [← hle, mkS_size]; omega
  rw [hls] at HLN
  rw [hle] at HLE
  have HLS := hid hls
  have HLD := hid hle
  clear hlen hR hls hle hpL s1 s2 hup hii hui hsz hhg
  have hdi : ∃ (di du : Int), inI i = di ∧ inI (upN i) = du ∧ -1 ≤ di ∧ di ≤ 10000 ∧ ((di = -1 ∧ du = -1 ∧ txs (clnT i) = [58]) ∨ (0 ≤ di ∧ du = di + 1 ∧ txs (clnT i) = [58, 32])) := by
    cases i with
    | none => exact ⟨-1, -1, rfl, rfl, by omega, by omega, Or.inl ⟨rfl, rfl, rfl⟩⟩
    | some k => exact ⟨k, k + 1, rfl, rfl, by omega, by have := hi k rfl; omega, Or.inr ⟨by omega, rfl, rfl⟩⟩
  obtain ⟨di, du, e1, e2, d1, d2, hd⟩ := hdi
  rw [e1] at HLE ⊢
  rw [e2] at HLN
  have IH := hid (fun (j : Nat) (t : VT) (c : ByteArray) (X : World) (ht : V[j]? = some t) (hc : K[j]? = some c) (hX : Below w.heap.size w X) => ih t (p j) (q j) (upN i) X (by have := szL_get V j t ht; omega) ((rM j t ht).onto hX) ((plainL_get V).1 HPL.out j t ht) (HSUB.out j t c ht hc) (HUI.out t ((hgL_get V _).1 (Nat.le_refl _) j t ht)))
  simp only [e2, vv] at IH
  clear e1 e2 hi
  by_cases hL0 : V = []
  · subst hL0
    have hRR : R = [123, 125] := by
      rw [← HR.out, tkV, if_neg (by decide), if_pos rfl]; simp [tkM, txs, Tk.tx]
    subst hRR
    go_enter Tryz.func18, Tryz.ntmps18
    go_wp2_with fail
    go_ret
    exact ⟨rfl, valloc_bel (Below.refl _ _) _⟩
  have hLp : 0 < V.length := List.length_pos_iff.2 hL0
  obtain rfl := hL3 hLp
  rcases hd with ⟨rfl, rfl, hcl⟩ | ⟨hd0, rfl, hcl⟩
  all_goals
    have HCL := hid hcl
    clear hcl
    go_enter Tryz.func18, Tryz.ntmps18
    go_wp2_with fail
    go_loopw [9, 10] (fun sv iv wr => ∃ (j : Nat) (m : ByteArray), j ≤ V.length ∧ iv = .int .i64 j ∧ sv = .string m ∧ m.size ≤ 100000000 ∧ Hid (m = mkS (msB i V K j)) ∧ Below (w.heap.size + 1) (w.alloc (.cells #[.int .i64 6, .int .i64 n, .string s, .slice o' 0 c', .slice (some b) V.length capL] 27)) wr) (fun _ iv _ => V.length - (intOf iv).toNat)
    case atStart => exact ⟨0, _, Nat.zero_le _, rfl, rfl, by decide, by show _ = _; rw [msB, List.take_zero, List.take_zero, tkM]; rfl, Below.refl _ _⟩
    case round =>
      obtain ⟨j, m, hj, rfl, rfl, hms, HM, hbel⟩ := hrel
      have hbw : Below w.heap.size w wr := ((Below.refl _ _).alloc (Nat.le_refl _) _).trans (hbel.mono (by omega))
      have hB0 := box_cell w wr _ _ _ _ _ _ hbel 0 _ rfl
      have hB3 := box_cell w wr _ _ _ _ _ _ hbel 3 _ rfl
      have hB4 := box_cell w wr _ _ _ _ _ _ hbel 4 _ rfl
      by_cases hlt : j < V.length
      · obtain ⟨t, ht⟩ : ∃ t, V[j]? = some t := ⟨V[j], List.getElem?_eq_getElem hlt⟩
        obtain ⟨c, hc⟩ : ∃ c, K[j]? = some c := ⟨K[j]'(by omega), List.getElem?_eq_getElem (by omega)⟩
        have hnode := (cM j t ht).onto hbw
        simp only [Node, nx] at hnode
        obtain ⟨d0, d1', d2', d3, d4⟩ := hnode
        have dk := keepCell hbw (cK j c hc).1
        have hcs : c.size ≤ 100000 := by
          have := (te_vl (hks c (List.mem_of_getElem? hc))).2
          rw [size_list] at this; omega
        have HQ := hid (fun X => CQ.out c X hcs)
        obtain ⟨qt, hqt⟩ : ∃ qt, mkS (qtA false c.data.toList) = qt := ⟨_, rfl⟩
        rw [hqt] at HQ
        have HQT := hid hqt
        have hqs : qt.size ≤ 700000 := by
          rw [← hqt, mkS_size]
          unfold qtA
          have h1 := qtK_len false c.data.toList (cnt c.data.toList)
          have h2 := cnt_le c.data.toList
          rw [size_list] at h2
          rw [List.length_append, List.length_singleton]; omega
        have HST := hid (fun X hX => IH.out j t c X ht hc hX)
        have HNX := hid (msB_next (i := i) ht hc)
        have hzt := HSUB.out j t c ht hc
        obtain ⟨pt, hpt⟩ : ∃ pt, mkS (txs (tkV (upN i) t)) = pt := ⟨_, rfl⟩
        rw [hpt] at HST
        have hps : pt.size ≤ 100000000 := by rw [← hpt, mkS_size]; exact hzt
        have HPT := hid hpt
        clear hzt hpt
        have hbsz := hbel.size
        by_cases h0 : j = 0
        · subst h0
          have ea : b.add (0 * 6) = b := by simp [Addr.add]
          rw [ea] at d0 d1' d2' d3 d4 dk
          go_wp2_with (go_at_call 33; go_must (refine (HLN.out _).mono ?_; rintro e w1 ⟨rfl, hw1⟩; obtain rfl := hw1.symm))
          have hinh := abv_some wr
          have KQ := hid (fun X : Abv wr => HQ.out X.u)
          have KP := hid (fun X : Abv wr => HST.out X.u (vonto hbw X.h))
          have y0 := above_cell d0
          have y1 := above_cell d1'
          have y2 := above_cell d2'
          have y3 := above_cell d3
          have y4 := above_cell d4
          have yk := above_cell dk
          have z0 := above_cell hB0
          have z4 := above_cell hB4
          clear d0 d1' d2' d3 d4 dk hB0 hB3 hB4
          refine wp_region_above (by kernel_rfl) (by kernel_rfl) ?_
          repeat (go_big_quiet_step ((first
            | (go_at_call 32; with_reducible exact above_of (KQ.out _))
            | (go_at_call 18; with_reducible exact above_of (KP.out _)))))
          refine wpQuiet_nil ?_
          intro _ hw'
          obtain ⟨X, hX⟩ := hw'
          subst hX
          go_wp2_with fail
          have hq : ∀ co : ByteArray, co = mkS (txs (clnT i)) → m ++ ls ++ qt ++ co ++ pt = mkS (msB i V K (0 + 1)) := fun co hco => by
            rw [HNX.out, if_pos trivial, List.nil_append, ba_snoc (ba_snoc (ba_snoc (ba_snoc HM.out HLS.out.symm) HQT.out.symm) hco) HPT.out.symm]
            simp only [List.append_assoc]
          refine ⟨⟨0 + 1, _, by omega, val_int (by omega), rfl, (by rw [ba_len (hq _ (by rw [HCL.out]; rfl))]; exact HLB.out _), hq _ (by rw [HCL.out]; rfl), hbel.trans (X.h.mono (by simp at hbsz; omega))⟩, ?_⟩
          simp [intOf]; omega
        · have hj0 : 0 < j := by omega
          go_wp2_with (go_at_call 33; go_must (refine (HLN.out _).mono ?_; rintro e w1 ⟨rfl, hw1⟩; obtain rfl := hw1.symm))
          have hinh := abv_some wr
          have KQ := hid (fun X : Abv wr => HQ.out X.u)
          have KP := hid (fun X : Abv wr => HST.out X.u (vonto hbw X.h))
          have y0 := above_cell d0
          have y1 := above_cell d1'
          have y2 := above_cell d2'
          have y3 := above_cell d3
          have y4 := above_cell d4
          have yk := above_cell dk
          have z0 := above_cell hB0
          have z4 := above_cell hB4
          clear d0 d1' d2' d3 d4 dk hB0 hB3 hB4
          refine wp_region_above (by kernel_rfl) (by kernel_rfl) ?_
          repeat (go_big_quiet_step ((first
            | (go_at_call 32; with_reducible exact above_of (KQ.out _))
            | (go_at_call 18; with_reducible exact above_of (KP.out _)))))
          refine wpQuiet_nil ?_
          intro _ hw'
          obtain ⟨X, hX⟩ := hw'
          subst hX
          go_wp2_with fail
          have hq : ∀ co : ByteArray, co = mkS (txs (clnT i)) → m ++ (⟨#[44]⟩ : ByteArray) ++ ls ++ qt ++ co ++ pt = mkS (msB i V K (j + 1)) := fun co hco => by
            rw [HNX.out, if_neg h0, ba_snoc (ba_snoc (ba_snoc (ba_snoc (ba_snoc HM.out (show (⟨#[44]⟩ : ByteArray) = mkS [44] from rfl)) HLS.out.symm) HQT.out.symm) hco) HPT.out.symm]
            simp only [List.append_assoc]
          refine ⟨⟨j + 1, _, by omega, val_int (by omega), rfl, (by rw [ba_len (hq _ (by rw [HCL.out]; rfl))]; exact HLB.out _), hq _ (by rw [HCL.out]; rfl), hbel.trans (X.h.mono (by simp at hbsz; omega))⟩, ?_⟩
          simp [intOf]; omega
      · obtain rfl : j = V.length := by omega
        go_wp2_with (go_at_call 33; go_must (refine (HLE.out _).mono ?_; rintro e w1 ⟨rfl, rfl⟩))
        go_ret
        exact ⟨ret_st (by rw [ba_snoc (ba_snoc HM.out HLD.out.symm) (show (⟨#[125]⟩ : ByteArray) = mkS [125] from rfl), List.append_assoc, ← HEND.out hL0, HR.out]), hbw⟩
/-- the document's Print, of a tree that may be -/
theorem print_any : ∀ N : Nat, PrOk N
  | 0 => fun T x y i w h => by have := szT_pos T; omega
  | N + 1 => by
    intro T x y i w hN hT hp hlen hi
    cases T with
    | mk k n s L K V =>
      have hp' := hp
      rw [plainT, Bool.and_eq_true, Bool.and_eq_true] at hp
      obtain ⟨⟨hnode, hpL⟩, hpV⟩ := hp
      have hnb := hnode
      unfold nodeB nodeC at hnb
      simp only [VT.kd, VT.nm, VT.st, VT.ls, VT.ks, VT.vs] at hnb
      obtain ⟨oL, nL, cL, oM, nM, cM, rfl, rfl, rfl, rfl, hwn, hKV⟩ : ∃ oL nL cL oM nM cM, x = .slice oL nL cL ∧ y = .slice oM nM cM ∧ nL = L.length ∧ nM = V.length ∧ (Lit.int .i64 n).wf = true ∧ K.length = V.length := by
        cases hT with
        | mk a b f g p q hk hn hs hL hM hK cL cK cM rL rM =>
          obtain ⟨oL, capL, rfl, -, -, -⟩ := hL
          obtain ⟨oM, capM, rfl, -, -, -⟩ := hM
          exact ⟨_, _, _, _, _, _, rfl, rfl, rfl, rfl, hn, hK⟩
      by_cases h5 : k = 5
      · subst h5
        simp at hnb
        obtain rfl := hnb.2
        obtain rfl : K = [] := List.eq_nil_of_length_eq_zero hKV
        exact print_list N (print_any N) n s L oM cM _ i w hN hT hpL hlen hi
      by_cases h6 : k = 6
      · subst h6
        simp at hnb
        obtain rfl := hnb.1.2
        exact print_map N (print_any N) n s V K oL cL _ i w hN hT hpV (keys_te hnb.2) hlen hi
      exact print_leaf k n s L V K oL oM cL cM i w hwn hnode h5 h6
end Go.Proofs.YtkhjahpkbjafaaaGreatDoor
namespace Go.Proofs.YtkhjahpkbjafaaaGreatDoor
open Go.RowKit

set_option maxRecDepth 100000 in
set_option maxHeartbeats 4000000 in
theorem Tryz.jprintSays_walk (T : VT) (x y : Value) (w : World) (hg : GlobP w) (hT : HV w T x y) :
    Calls Tryz.prog 8 #[vv T x y] w fun e w' => e = .returned (.bool true) ∧ Below w.heap.size w w' := by
  have hal := valloc_bel (Below.refl w.heap.size w) (.cells #[.int .i64 T.kd, .int .i64 T.nm, .string T.st, x, y] 27)
  have CA := hid (awake9 (w.alloc (.cells #[.int .i64 T.kd, .int .i64 T.nm, .string T.st, x, y] 27)) (hg.on hal))
  have HG := hid hg
  have HWF := hid hT.wfT
  have HT := hid hT
  have HAL := hid hal
  clear hg hT hal
  have CH := hid (fun X (hX : Below w.heap.size w X) => heavy_any T x y 300 40 X (HT.out.onto hX) (by omega) (by omega))
  have CM := hid (fun X (hX : Below w.heap.size w X) => rvalue_any T x y X (HT.out.onto hX))
  have CC := hid (fun X (hX : Below w.heap.size w X) => compact_any T x y X (HG.out.on hX) (HT.out.onto hX))
  have CI := hid (fun X (hX : Below w.heap.size w X) => indent_any T x y X (HG.out.on hX) (HT.out.onto hX))
  simp only [vv] at CH CM CC CI ⊢
  obtain ⟨k, hk⟩ : ∃ k, T.kd = k := ⟨_, rfl⟩
  obtain ⟨nm, hnm⟩ : ∃ nm, T.nm = nm := ⟨_, rfl⟩
  obtain ⟨st, hst⟩ : ∃ st, T.st = st := ⟨_, rfl⟩
  have HK := hid hk
  have HN := hid hnm
  have HST := hid hst
  rw [hk, hnm, hst] at CA HAL CH CM CC CI ⊢
  clear hk hnm hst
  go_enter Tryz.func8, Tryz.ntmps8
  go_wp2_with fail
  go_at_call 25
  refine CA.out.mono ?_
  rintro e w0 ⟨rfl, hb0⟩
  have hbx : Below (w.heap.size + 1) (w.alloc (.cells #[.int .i64 k, .int .i64 nm, .string st, x, y] 27)) w0 := by simpa using hb0
  have c0 := box_cell w w0 _ _ _ _ _ _ hbx 0 _ rfl
  have c1 := box_cell w w0 _ _ _ _ _ _ hbx 1 _ rfl
  have c2 := box_cell w w0 _ _ _ _ _ _ hbx 2 _ rfl
  have c3 := box_cell w w0 _ _ _ _ _ _ hbx 3 _ rfl
  have c4 := box_cell w w0 _ _ _ _ _ _ hbx 4 _ rfl
  have HB0 := hid (vonto HAL.out hb0)
  clear hb0 hbx CA HAL
  go_wp2_with fail
  go_at_call 21
  refine (CH.out _ HB0.out).mono ?_
  rintro e w1 ⟨rfl, hb1⟩
  replace c0 := keepCell hb1 c0
  replace c1 := keepCell hb1 c1
  replace c2 := keepCell hb1 c2
  replace c3 := keepCell hb1 c3
  replace c4 := keepCell hb1 c4
  have HB1 := hid (vonto HB0.out hb1)
  clear hb1 CH HB0
  cases hf : fitB T 40 300 with
  | false =>
    go_wp2_with fail
    go_ret
    exact ⟨rfl, HB1.out⟩
  | true =>
  have hfit : szT T ≤ 300 := by
    unfold fitB at hf
    have := of_decide_eq_true hf
    omega
  clear hf
  go_wp2_with fail
  go_at_call 22
  refine (CM.out _ HB1.out).mono ?_
  rintro e w2 ⟨rfl, hb2⟩
  replace c0 := keepCell hb2 c0
  replace c1 := keepCell hb2 c1
  replace c2 := keepCell hb2 c2
  replace c3 := keepCell hb2 c3
  replace c4 := keepCell hb2 c4
  have HB2 := hid (vonto HB1.out hb2)
  clear hb2 CM HB1
  cases hm : mayB 0 1 T with
  | false =>
    have e1 : ∀ inl, mkS (wrB inl T) = ⟨#[]⟩ := fun inl => by unfold wrB; rw [hm]; rfl
    rw [e1] at CC CI
    go_wp2_with fail
    go_at_call 26
    refine (CC.out _ HB2.out).mono ?_
    rintro e w3 ⟨rfl, hb3⟩
    replace c0 := keepCell hb3 c0
    replace c1 := keepCell hb3 c1
    replace c2 := keepCell hb3 c2
    replace c3 := keepCell hb3 c3
    replace c4 := keepCell hb3 c4
    have HB3 := hid (vonto HB2.out hb3)
    clear hb3 CC HB2
    go_wp2_with fail
    go_at_call 27
    refine (CI.out _ HB3.out).mono ?_
    rintro e w4 ⟨rfl, hb4⟩
    have HB4 := hid (vonto HB3.out hb4)
    clear hb4 CI HB3
    go_wp2_with fail
    go_ret
    exact ⟨rfl, HB4.out⟩
  | true =>
  obtain ⟨hpl, hsz, hhg⟩ := may_parts hm
  have e1 : ∀ inl, wrB inl T = txs (tkV (indO inl 0) T) := fun inl => by unfold wrB; rw [if_pos hm]
  have HLN : Hid (∀ i : Option Nat, (∀ k, i = some k → k = 0) → (txs (tkV i T)).length ≤ 100000000) := fun i hi => by
    have := val_len T i hpl HWF.out (fun k hk => by have := hi k hk; omega)
    omega
  have CP := hid (fun (i : Option Nat) (hi : ∀ k, i = some k → k = 0) X (hX : Below w.heap.size w X) => print_any (szT T) T x y i X (Nat.le_refl _) (HT.out.onto hX) hpl (HLN.out i hi) (fun k hk => by have := hi k hk; omega))
  simp only [vv] at CP
  rw [HK.out, HN.out, HST.out] at CP
  have P1 := hid (fun X hX => CP.out none (fun k hk => by cases hk) X hX)
  have P2 := hid (fun X hX => CP.out (some 0) (fun k hk => by injection hk with hk; exact hk.symm) X hX)
  simp only [inI] at P1 P2
  rw [e1] at CC CI
  simp only [indO, Bool.false_eq_true, if_false, if_true] at CC CI
  obtain ⟨m1, hm1⟩ : ∃ m1, mkS (txs (tkV none T)) = m1 := ⟨_, rfl⟩
  obtain ⟨m2, hm2⟩ : ∃ m2, mkS (txs (tkV (some 0) T)) = m2 := ⟨_, rfl⟩
  rw [hm1] at CC P1
  rw [hm2] at CI P2
  clear hm1 hm2 CP e1 hm HLN hpl
  go_wp2_with fail
  have hinh := abv_some w2
  have K1 := hid (fun X : Abv w2 => CC.out X.u (vonto HB2.out X.h))
  have K2 := hid (fun X : Abv w2 => P1.out X.u (vonto HB2.out X.h))
  have K3 := hid (fun X : Abv w2 => CI.out X.u (vonto HB2.out X.h))
  have K4 := hid (fun X : Abv w2 => P2.out X.u (vonto HB2.out X.h))
  have z0 := above_cell c0
  have z1 := above_cell c1
  have z2 := above_cell c2
  have z3 := above_cell c3
  have z4 := above_cell c4
  clear c0 c1 c2 c3 c4
  refine wp_region_above (by kernel_rfl) (by kernel_rfl) ?_
  repeat (go_big_quiet_step ((first
    | (go_at_call 26; with_reducible exact above_of (K1.out _))
    | (go_at_call 27; with_reducible exact above_of (K3.out _))
    | (go_at_call 18; first | with_reducible exact above_of (K2.out _) | with_reducible exact above_of (K4.out _)))))
  refine wpQuiet_nil ?_
  intro _ hw'
  obtain ⟨X, hX⟩ := hw'
  subst hX
  go_wp2_with fail
  go_ret
  exact ⟨by first | rfl | exact ret_bool (by simp), vonto HB2.out X.h⟩
end Go.Proofs.YtkhjahpkbjafaaaGreatDoor
