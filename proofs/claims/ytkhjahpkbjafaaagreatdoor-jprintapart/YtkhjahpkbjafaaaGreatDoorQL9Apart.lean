/- Plain mathematics: trees without stamps; one text for each of them. -/
import Derived.Test.YtkhjahpkbjafaaaGreatDoorQJpI
import Derived.Test.YtkhjahpkbjafaaaGreatDoorQVOpen
import Derived.Test.YtkhjahpkbjafaaaGreatDoorQL9Base
import Derived.Test.YtkhjahpkbjafaaaGreatDoorQRefVal5
/- The printer's laws: has a tree a stamp, walked. -/
/- Plain mathematics: trees that are alike, strictly, are one. -/
/- Unlike values are unlike texts: JprintApart walked. -/
namespace Go.Proofs.YtkhjahpkbjafaaaGreatDoor
open Go.RowKit

mutual
/-- has a tree a stamp? -/
def smB : VT → Bool
  | .mk k _ _ L _ V => decide (k = 7) || smL L || smL V
def smL : List VT → Bool
  | [] => false
  | t :: r => smB t || smL r
end
theorem smL_get : ∀ (L : List VT), smL L = false ↔ ∀ (i : Nat) (t : VT), L[i]? = some t → smB t = false
  | [] => by simp [smL]
  | a :: r => by
    simp only [smL, Bool.or_eq_false_iff]
    rw [smL_get r]
    constructor
    · rintro ⟨h1, h2⟩ i t hi
      cases i with
      | zero => simp at hi; subst hi; exact h1
      | succ i => simp at hi; exact h2 i t hi
    · intro g
      exact ⟨g 0 a rfl, fun i t hi => g (i + 1) t (by simpa using hi)⟩
mutual
theorem bk_same : ∀ v : VT, smB v = false → bkT v = v
  | .mk k n s L K V, h => by
    rw [smB, Bool.or_eq_false_iff, Bool.or_eq_false_iff, decide_eq_false_iff_not] at h
    rw [bkT, if_neg h.1.1, bkL_same L h.1.2, bkL_same V h.2]
theorem bkL_same : ∀ L : List VT, smL L = false → bkL L = L
  | [], _ => by rw [bkL]
  | t :: r, h => by
    rw [smL, Bool.or_eq_false_iff] at h
    rw [bkL, bk_same t h.1, bkL_same r h.2]
end
/-- words are one way only -/
theorem wds_one_way {T : List UInt8} {i : Nat} {a b : List Wd} (h : Wds T i a) (g : Wds T i b) : a = b := by
  have h1 := wds_lx h (T.length + 1) [] (by omega)
  have h2 := wds_lx g (T.length + 1) [] (by omega)
  have h3 := congrArg Prod.fst (h1.symm.trans h2)
  simpa using h3
/-- one text, one value -/
theorem text_one (i : Option Nat) (v u : VT) (hv : plainT v = true) (hu : plainT u = true) (wv : wfT v) (wu : wfT u) (dv : hgT v ≤ 32) (du : hgT u ≤ 32) (zv : szT v ≤ 4096) (zu : szT u ≤ 4096) (h : txs (tkV i v) = txs (tkV i u)) : bkT v = bkT u := by
  have h1 := tok_wds (tkV i v) [] ((okT_R _).2 (val_ok i v hv wv [] edr_nil))
  have h2 := tok_wds (tkV i u) [] ((okT_R _).2 (val_ok i u hu wu [] edr_nil))
  rw [List.nil_append, List.length_nil] at h1 h2
  rw [h] at h1
  have e := wds_one_way h1 h2
  have hs := congrArg (List.map shp) e
  rw [wdsT_N, wdsT_N, List.map_append, List.map_append, wdsN_sh, wdsN_sh, sh_val, sh_val] at hs
  have hs2 : shV v = shV u := (List.append_inj' hs rfl).1
  have r1 := jr_sp (szT v) v (Nat.le_refl _) hv wv (wdsN 0 (tkV i v)) [] 1 0 (2 * (wdsN 0 (tkV i v)).length + 1) (by rw [wdsN_sh, sh_val]) (by omega) (by omega) (Nat.le_refl _)
  have r2 := jr_sp (szT u) u (Nat.le_refl _) hu wu (wdsN 0 (tkV i v)) [] 1 0 (2 * (wdsN 0 (tkV i v)).length + 1) (by rw [wdsN_sh, sh_val, hs2]) (by omega) (by omega) (Nat.le_refl _)
  rw [r1] at r2
  injection r2
end Go.Proofs.YtkhjahpkbjafaaaGreatDoor
namespace Go.Proofs.YtkhjahpkbjafaaaGreatDoor
open Go.RowKit

theorem sm_list_no {L : List VT} {j : Nat} (h : ∀ i t, i < j → L[i]? = some t → smB t = false) (hj : L.length ≤ j) : smL L = false :=
  (smL_get L).2 fun i t hi => h i t (by have := lt_of_some hi; omega) hi
theorem sm_list_yes {L : List VT} {j : Nat} {t : VT} (h : L[j]? = some t) (ht : smB t = true) : smL L = true := by
  cases hs : smL L with
  | true => rfl
  | false =>
    have := (smL_get L).1 hs j t h
    rw [ht] at this; cases this
set_option maxRecDepth 100000 in
set_option maxHeartbeats 1000000 in
theorem stamped_any : ∀ (N : Nat) (T : VT) (x y : Value) (w : World), szT T ≤ N → HV w T x y →
    Calls Tryz.prog 28 #[vv T x y] w fun e w' => e = .returned (.bool (smB T)) ∧ Below w.heap.size w w' := by
  intro N
  induction N with
  | zero => intro T x y w h; have := szT_pos T; omega
  | succ N ih =>
  intro T x y w hN hT
  cases hT with
  | mk a b f g p q hk hn hs hL hM hK cL cK cM rL rM =>
  rename_i k n s L K V
  obtain ⟨oL, capL, rfl, hL1, hL2, hL3⟩ := hL
  obtain ⟨oM, capM, rfl, hM1, hM2, hM3⟩ := hM
  unfold maxLen at hL2 hM2
  have hsz : szT (.mk k n s L K V) = 1 + szL L + szL V := by simp only [szT]
  rw [hsz] at hN
  have HSM := hid (show smB (.mk k n s L K V) = (decide (k = 7) || smL L || smL V) by rw [smB])
  simp only [vv, VT.kd, VT.nm, VT.st]
  clear hsz
  by_cases h7 : k = 7
  · subst h7
    go_enter Tryz.func28, Tryz.ntmps28
    go_wp2_with fail
    go_ret
    exact ⟨ret_bool (by rw [HSM.out]; rfl), valloc_bel (Below.refl _ _) _⟩
  have hk7 : (k == 7) = false := by simpa using h7
  have HD := hid (show decide (k = 7) = false from decide_eq_false h7)
  clear h7
  go_enter Tryz.func28, Tryz.ntmps28
  go_wp2_with fail
  go_loopw [3] (fun i wr => ∃ j : Nat, j ≤ L.length ∧ i = .int .i64 j ∧ Hid (∀ i t, i < j → L[i]? = some t → smB t = false) ∧ Below (w.heap.size + 1) (w.alloc (.cells #[.int .i64 k, .int .i64 n, .string s, .slice oL L.length capL, .slice oM V.length capM] 27)) wr) (fun i _ => L.length - (intOf i).toNat)
  case atStart => exact ⟨0, Nat.zero_le _, rfl, fun i t hi => by omega, Below.refl _ _⟩
  case round =>
    obtain ⟨j, hj, rfl, HNO, hbel⟩ := hrel
    have hbw : Below w.heap.size w wr := ((Below.refl _ _).alloc (Nat.le_refl _) _).trans (hbel.mono (by omega))
    have hB3 := box_cell w wr _ _ _ _ _ _ hbel 3 _ rfl
    have hB4 := box_cell w wr _ _ _ _ _ _ hbel 4 _ rfl
    have hbsz := hbel.size
    by_cases hlt : j < L.length
    · obtain ⟨t, ht⟩ : ∃ t, L[j]? = some t := ⟨L[j], List.getElem?_eq_getElem hlt⟩
      obtain rfl := hL3 (by omega)
      obtain ⟨d0, d1, d2, d3, d4⟩ := (cL j t ht).onto hbw
      have hsg := szL_get L j t ht
      have hstep := ih t (f j) (g j) wr (by omega) ((rL j t ht).onto hbw)
      simp only [vv] at hstep
      have HSTEP := hid hstep
      have HTT := hid ht
      clear hstep ht
      cases hq : smB t with
      | true =>
        rw [hq] at HSTEP
        go_wp2_with (go_at_call 28; go_must (refine HSTEP.out.mono ?_; rintro e w1 ⟨rfl, hb1⟩))
        go_ret
        exact ⟨ret_bool (by rw [HSM.out, sm_list_yes HTT.out hq]; simp), vonto hbw hb1⟩
      | false =>
        rw [hq] at HSTEP
        go_wp2_with (go_at_call 28; go_must (refine HSTEP.out.mono ?_; rintro e w1 ⟨rfl, hb1⟩))
        go_roundw
        case rel => exact ⟨j + 1, hlt, val_int (by omega), fun i t' hi ht' => (by
          by_cases e : i = j
          · subst e
            have := HTT.out.symm.trans ht'
            injection this with this
            rw [← this]; exact hq
          · exact HNO.out i t' (by omega) ht'), hbel.trans (hb1.mono (by simp at hbsz; omega))⟩
        case measure => simp [intOf]; omega
    · have hLn := sm_list_no HNO.out (by omega)
      have HLN := hid hLn
      clear hLn
      go_wp2_with fail
      clear hB3 hB4 hbsz
      go_loopw [4] (fun i wr => ∃ j : Nat, j ≤ V.length ∧ i = .int .i64 j ∧ Hid (∀ i t, i < j → V[i]? = some t → smB t = false) ∧ Below (w.heap.size + 1) (w.alloc (.cells #[.int .i64 k, .int .i64 n, .string s, .slice oL L.length capL, .slice oM V.length capM] 27)) wr) (fun i _ => V.length - (intOf i).toNat)
      case atStart => exact ⟨0, Nat.zero_le _, rfl, fun i t hi => by omega, hbel⟩
      case round =>
        clear hbw hbel hj hlt HNO
        obtain ⟨j, hj, rfl, HNO, hbel⟩ := hrel
        have hbw : Below w.heap.size w wr := ((Below.refl _ _).alloc (Nat.le_refl _) _).trans (hbel.mono (by omega))
        have hB4 := box_cell w wr _ _ _ _ _ _ hbel 4 _ rfl
        have hbsz := hbel.size
        by_cases hlt : j < V.length
        · obtain ⟨t, ht⟩ : ∃ t, V[j]? = some t := ⟨V[j], List.getElem?_eq_getElem hlt⟩
          obtain rfl := hM3 (by omega)
          have hnode := (cM j t ht).onto hbw
          simp only [Node, nx] at hnode
          obtain ⟨d0, d1, d2, d3, d4⟩ := hnode
          have hsg := szL_get V j t ht
          have hstep := ih t (p j) (q j) wr (by omega) ((rM j t ht).onto hbw)
          simp only [vv] at hstep
          have HSTEP := hid hstep
          have HTT := hid ht
          clear hstep ht
          cases hq : smB t with
          | true =>
            rw [hq] at HSTEP
            go_wp2_with (go_at_call 28; go_must (refine HSTEP.out.mono ?_; rintro e w1 ⟨rfl, hb1⟩))
            go_ret
            exact ⟨ret_bool (by rw [HSM.out, sm_list_yes HTT.out hq]; simp), vonto hbw hb1⟩
          | false =>
            rw [hq] at HSTEP
            go_wp2_with (go_at_call 28; go_must (refine HSTEP.out.mono ?_; rintro e w1 ⟨rfl, hb1⟩))
            go_roundw
            case rel => exact ⟨j + 1, hlt, val_int (by omega), fun i t' hi ht' => (by
              by_cases e : i = j
              · subst e
                have := HTT.out.symm.trans ht'
                injection this with this
                rw [← this]; exact hq
              · exact HNO.out i t' (by omega) ht'), hbel.trans (hb1.mono (by simp at hbsz; omega))⟩
            case measure => simp [intOf]; omega
        · have hVn := sm_list_no HNO.out (by omega)
          have HVN := hid hVn
          clear hVn
          go_wp2_with fail
          go_ret
          exact ⟨ret_bool (by rw [HSM.out, HD.out, HLN.out, HVN.out]; rfl), hbw⟩
end Go.Proofs.YtkhjahpkbjafaaaGreatDoor
namespace Go.Proofs.YtkhjahpkbjafaaaGreatDoor
open Go.RowKit

mutual
theorem same_eq : ∀ T U : VT, sameT false T U = true → T = U
  | .mk k n s L K V, .mk k' n' s' L' K' V', h => by
    rw [sameT, Bool.and_eq_true, Bool.and_eq_true, Bool.and_eq_true, Bool.and_eq_true] at h
    obtain ⟨⟨⟨⟨h0, h5⟩, h6⟩, h7⟩, h8⟩ := h
    obtain ⟨h1, h2, h3, h4⟩ := of_decide_eq_true h0
    have h7 : K = K' := of_decide_eq_true h7
    have h1 : k = k' := h1
    have h2 : n = n' := h2
    have h5 : strB false k s s' = true := h5
    unfold strB at h5
    simp at h5
    rw [h1, h2, h5, h7, sameL_eq L L' h3 h6, sameL_eq V V' h4 h8]
theorem sameL_eq : ∀ L M : List VT, L.length = M.length → sameL false L M = true → L = M
  | [], [], _, _ => rfl
  | [], _ :: _, h, _ => by simp at h
  | _ :: _, [], h, _ => by simp at h
  | t :: r, u :: q, h, g => by
    rw [sameL, Bool.and_eq_true] at g
    rw [same_eq t u g.1, sameL_eq r q (by simpa using h) g.2]
end
mutual
theorem eq_same : ∀ T : VT, sameT false T T = true
  | .mk k n s L K V => by
    have h1 := eqL_same L
    have h2 := eqL_same V
    simp [sameT, strB, VT.kd, VT.nm, VT.st, VT.ls, VT.ks, VT.vs, h1, h2]
theorem eqL_same : ∀ L : List VT, sameL false L L = true
  | [] => by rw [sameL]
  | t :: r => by rw [sameL, eq_same t, eqL_same r]; rfl
end
/-- one text for each value without stamps -/
theorem texts_same (i : Option Nat) (v u : VT) (hv : mayB 0 1 v = true) (hu : mayB 0 1 u = true) (wv : wfT v) (wu : wfT u) (sv : smB v = false) (su : smB u = false) : decide (txs (tkV i v) = txs (tkV i u)) = sameT false v u := by
  obtain ⟨p1, z1, d1⟩ := may_parts hv
  obtain ⟨p2, z2, d2⟩ := may_parts hu
  cases hs : sameT false v u with
  | true => rw [same_eq v u hs]; exact decide_eq_true rfl
  | false =>
    refine decide_eq_false (fun h => ?_)
    have h1 := text_one i v u p1 p2 wv wu d1 d2 z1 z2 h
    rw [bk_same v sv, bk_same u su] at h1
    rw [h1, eq_same] at hs
    cases hs
end Go.Proofs.YtkhjahpkbjafaaaGreatDoor
namespace Go.Proofs.YtkhjahpkbjafaaaGreatDoor
open Go.RowKit

theorem str_beq (a b : List UInt8) : ((mkS a).toList == (mkS b).toList) = decide (a = b) := by
  rw [ByteArray.toList_eq, ByteArray.toList_eq, mkS_list, mkS_list]
  by_cases h : a = b
  · rw [h, decide_eq_true rfl]; simp
  · rw [decide_eq_false h, beq_eq_false_iff_ne]; exact h
set_option maxRecDepth 100000 in
set_option maxHeartbeats 4000000 in
theorem Tryz.jprintApart_walk (T U : VT) (x y x' y' : Value) (w : World) (hg : GlobP w) (hT : HV w T x y) (hU : HV w U x' y') :
    Calls Tryz.prog 11 #[vv T x y, vv U x' y'] w fun e w' => e = .returned (.bool true) ∧ Below w.heap.size w w' := by
  have hal := valloc_bel (valloc_bel (Below.refl w.heap.size w) (.cells #[.int .i64 T.kd, .int .i64 T.nm, .string T.st, x, y] 27)) (.cells #[.int .i64 U.kd, .int .i64 U.nm, .string U.st, x', y'] 27)
  have CA := hid (awake9 _ (hg.on hal))
  have HG := hid hg
  have HWT := hid hT.wfT
  have HWU := hid hU.wfT
  have HT := hid hT
  have HU := hid hU
  have HAL := hid hal
  clear hg hT hU hal
  have C1 := hid (fun X (hX : Below w.heap.size w X) => heavy_any T x y 150 32 X (HT.out.onto hX) (by omega) (by omega))
  have C2 := hid (fun X (hX : Below w.heap.size w X) => heavy_any U x' y' 150 32 X (HU.out.onto hX) (by omega) (by omega))
  have C3 := hid (fun X (hX : Below w.heap.size w X) => rvalue_any T x y X (HT.out.onto hX))
  have C4 := hid (fun X (hX : Below w.heap.size w X) => rvalue_any U x' y' X (HU.out.onto hX))
  have C5 := hid (fun X (hX : Below w.heap.size w X) => stamped_any (szT T) T x y X (Nat.le_refl _) (HT.out.onto hX))
  have C6 := hid (fun X (hX : Below w.heap.size w X) => stamped_any (szT U) U x' y' X (Nat.le_refl _) (HU.out.onto hX))
  have C7 := hid (fun X (hX : Below w.heap.size w X) => same_any (szT T) T U x y x' y' false X (Nat.le_refl _) (HT.out.onto hX) (HU.out.onto hX))
  have P1 := hid (fun X (hX : Below w.heap.size w X) => compact_any T x y X (HG.out.on hX) (HT.out.onto hX))
  have P2 := hid (fun X (hX : Below w.heap.size w X) => compact_any U x' y' X (HG.out.on hX) (HU.out.onto hX))
  have P3 := hid (fun X (hX : Below w.heap.size w X) => indent_any T x y X (HG.out.on hX) (HT.out.onto hX))
  have P4 := hid (fun X (hX : Below w.heap.size w X) => indent_any U x' y' X (HG.out.on hX) (HU.out.onto hX))
  simp only [vv] at C1 C2 C3 C4 C5 C6 C7 P1 P2 P3 P4 ⊢
  obtain ⟨k, hk⟩ : ∃ k, T.kd = k := ⟨_, rfl⟩
  obtain ⟨nm, hnm⟩ : ∃ nm, T.nm = nm := ⟨_, rfl⟩
  obtain ⟨st, hst⟩ : ∃ st, T.st = st := ⟨_, rfl⟩
  obtain ⟨k', hk'⟩ : ∃ k, U.kd = k := ⟨_, rfl⟩
  obtain ⟨nm', hnm'⟩ : ∃ nm, U.nm = nm := ⟨_, rfl⟩
  obtain ⟨st', hst'⟩ : ∃ st, U.st = st := ⟨_, rfl⟩
  rw [hk, hnm, hst] at C1 C3 C5 P1 P3
  rw [hk', hnm', hst'] at C2 C4 C6 P2 P4
  rw [hk, hnm, hst, hk', hnm', hst'] at CA HAL C7 ⊢
  clear hk hnm hst hk' hnm' hst'
  go_enter Tryz.func11, Tryz.ntmps11
  go_wp2_with fail
  go_at_call 25
  refine CA.out.mono ?_
  rintro e w0 ⟨rfl, hb0⟩
  have hbx : Below (w.heap.size + 2) ((w.alloc (.cells #[.int .i64 k, .int .i64 nm, .string st, x, y] 27)).alloc (.cells #[.int .i64 k', .int .i64 nm', .string st', x', y'] 27)) w0 := by simpa using hb0
  have c0 := box2_cell w w0 _ _ _ _ _ _ _ hbx 0 _ rfl
  have c1 := box2_cell w w0 _ _ _ _ _ _ _ hbx 1 _ rfl
  have c2 := box2_cell w w0 _ _ _ _ _ _ _ hbx 2 _ rfl
  have c3 := box2_cell w w0 _ _ _ _ _ _ _ hbx 3 _ rfl
  have c4 := box2_cell w w0 _ _ _ _ _ _ _ hbx 4 _ rfl
  have d0 := box2_next w w0 _ _ _ _ _ _ _ hbx 0 _ rfl
  have d1 := box2_next w w0 _ _ _ _ _ _ _ hbx 1 _ rfl
  have d2 := box2_next w w0 _ _ _ _ _ _ _ hbx 2 _ rfl
  have d3 := box2_next w w0 _ _ _ _ _ _ _ hbx 3 _ rfl
  have d4 := box2_next w w0 _ _ _ _ _ _ _ hbx 4 _ rfl
  have HB0 := hid (vonto HAL.out hb0)
  clear hb0 hbx CA HAL
  go_wp2_with fail
  go_at_call 21
  refine (C1.out _ HB0.out).mono ?_
  rintro e w1 ⟨rfl, hb1⟩
  replace c0 := keepCell hb1 c0
  replace c1 := keepCell hb1 c1
  replace c2 := keepCell hb1 c2
  replace c3 := keepCell hb1 c3
  replace c4 := keepCell hb1 c4
  replace d0 := keepCell hb1 d0
  replace d1 := keepCell hb1 d1
  replace d2 := keepCell hb1 d2
  replace d3 := keepCell hb1 d3
  replace d4 := keepCell hb1 d4
  have HB1 := hid (vonto HB0.out hb1)
  clear hb1 C1 HB0
  cases hf1 : fitB T 32 150 with
  | false =>
    go_wp2_with fail
    go_ret
    exact ⟨rfl, HB1.out⟩
  | true =>
  go_wp2_with fail
  go_at_call 21
  refine (C2.out _ HB1.out).mono ?_
  rintro e w2 ⟨rfl, hb2⟩
  replace c0 := keepCell hb2 c0
  replace c1 := keepCell hb2 c1
  replace c2 := keepCell hb2 c2
  replace c3 := keepCell hb2 c3
  replace c4 := keepCell hb2 c4
  replace d0 := keepCell hb2 d0
  replace d1 := keepCell hb2 d1
  replace d2 := keepCell hb2 d2
  replace d3 := keepCell hb2 d3
  replace d4 := keepCell hb2 d4
  have HB2 := hid (vonto HB1.out hb2)
  clear hb2 C2 HB1
  cases hf2 : fitB U 32 150 with
  | false =>
    go_wp2_with fail
    go_ret
    exact ⟨rfl, HB2.out⟩
  | true =>
  go_wp2_with fail
  go_at_call 22
  refine (C3.out _ HB2.out).mono ?_
  rintro e w3 ⟨rfl, hb3⟩
  replace c0 := keepCell hb3 c0
  replace c1 := keepCell hb3 c1
  replace c2 := keepCell hb3 c2
  replace c3 := keepCell hb3 c3
  replace c4 := keepCell hb3 c4
  replace d0 := keepCell hb3 d0
  replace d1 := keepCell hb3 d1
  replace d2 := keepCell hb3 d2
  replace d3 := keepCell hb3 d3
  replace d4 := keepCell hb3 d4
  have HB3 := hid (vonto HB2.out hb3)
  clear hb3 C3 HB2
  cases hm1 : mayB 0 1 T with
  | false =>
    go_wp2_with fail
    go_ret
    exact ⟨rfl, HB3.out⟩
  | true =>
  go_wp2_with fail
  go_at_call 22
  refine (C4.out _ HB3.out).mono ?_
  rintro e w4 ⟨rfl, hb4⟩
  replace c0 := keepCell hb4 c0
  replace c1 := keepCell hb4 c1
  replace c2 := keepCell hb4 c2
  replace c3 := keepCell hb4 c3
  replace c4 := keepCell hb4 c4
  replace d0 := keepCell hb4 d0
  replace d1 := keepCell hb4 d1
  replace d2 := keepCell hb4 d2
  replace d3 := keepCell hb4 d3
  replace d4 := keepCell hb4 d4
  have HB4 := hid (vonto HB3.out hb4)
  clear hb4 C4 HB3
  cases hm2 : mayB 0 1 U with
  | false =>
    go_wp2_with fail
    go_ret
    exact ⟨rfl, HB4.out⟩
  | true =>
  go_wp2_with fail
  go_at_call 28
  refine (C5.out _ HB4.out).mono ?_
  rintro e w5 ⟨rfl, hb5⟩
  replace c0 := keepCell hb5 c0
  replace c1 := keepCell hb5 c1
  replace c2 := keepCell hb5 c2
  replace c3 := keepCell hb5 c3
  replace c4 := keepCell hb5 c4
  replace d0 := keepCell hb5 d0
  replace d1 := keepCell hb5 d1
  replace d2 := keepCell hb5 d2
  replace d3 := keepCell hb5 d3
  replace d4 := keepCell hb5 d4
  have HB5 := hid (vonto HB4.out hb5)
  clear hb5 C5 HB4
  cases hs1 : smB T with
  | true =>
    go_wp2_with fail
    go_ret
    exact ⟨rfl, HB5.out⟩
  | false =>
  go_wp2_with fail
  go_at_call 28
  refine (C6.out _ HB5.out).mono ?_
  rintro e w6 ⟨rfl, hb6⟩
  replace c0 := keepCell hb6 c0
  replace c1 := keepCell hb6 c1
  replace c2 := keepCell hb6 c2
  replace c3 := keepCell hb6 c3
  replace c4 := keepCell hb6 c4
  replace d0 := keepCell hb6 d0
  replace d1 := keepCell hb6 d1
  replace d2 := keepCell hb6 d2
  replace d3 := keepCell hb6 d3
  replace d4 := keepCell hb6 d4
  have HB6 := hid (vonto HB5.out hb6)
  clear hb6 C6 HB5
  cases hs2 : smB U with
  | true =>
    go_wp2_with fail
    go_ret
    exact ⟨rfl, HB6.out⟩
  | false =>
  have e1 : ∀ inl, wrB inl T = txs (tkV (indO inl 0) T) := fun inl => by unfold wrB; rw [if_pos hm1]
  have e2 : ∀ inl, wrB inl U = txs (tkV (indO inl 0) U) := fun inl => by unfold wrB; rw [if_pos hm2]
  have q1 : ((mkS (wrB false T)).toList == (mkS (wrB false U)).toList) = sameT false T U := by
    rw [str_beq, e1, e2]; exact texts_same _ T U hm1 hm2 HWT.out HWU.out hs1 hs2
  have q2 : ((mkS (wrB true T)).toList == (mkS (wrB true U)).toList) = sameT false T U := by
    rw [str_beq, e1, e2]; exact texts_same _ T U hm1 hm2 HWT.out HWU.out hs1 hs2
  obtain ⟨sm, hsm⟩ : ∃ sm, sameT false T U = sm := ⟨_, rfl⟩
  rw [hsm] at C7 q1 q2
  obtain ⟨a1, ha1⟩ : ∃ a1, mkS (wrB false T) = a1 := ⟨_, rfl⟩
  obtain ⟨a2, ha2⟩ : ∃ a2, mkS (wrB false U) = a2 := ⟨_, rfl⟩
  obtain ⟨a3, ha3⟩ : ∃ a3, mkS (wrB true T) = a3 := ⟨_, rfl⟩
  obtain ⟨a4, ha4⟩ : ∃ a4, mkS (wrB true U) = a4 := ⟨_, rfl⟩
  rw [ha1] at P1 q1
  rw [ha2] at P2 q1
  rw [ha3] at P3 q2
  rw [ha4] at P4 q2
  clear ha1 ha2 ha3 ha4 hsm e1 e2 hf1 hf2 hm1 hm2 hs1 hs2
  go_wp2_with fail
  go_at_call 20
  refine (C7.out _ HB6.out).mono ?_
  rintro e w7 ⟨rfl, hb7⟩
  replace c0 := keepCell hb7 c0
  replace c1 := keepCell hb7 c1
  replace c2 := keepCell hb7 c2
  replace c3 := keepCell hb7 c3
  replace c4 := keepCell hb7 c4
  replace d0 := keepCell hb7 d0
  replace d1 := keepCell hb7 d1
  replace d2 := keepCell hb7 d2
  replace d3 := keepCell hb7 d3
  replace d4 := keepCell hb7 d4
  have HB7 := hid (vonto HB6.out hb7)
  clear hb7 C7 HB6
  go_wp2_with fail
  have hinh := abv_some w7
  have K1 := hid (fun X : Abv w7 => P1.out X.u (vonto HB7.out X.h))
  have K2 := hid (fun X : Abv w7 => P2.out X.u (vonto HB7.out X.h))
  have K3 := hid (fun X : Abv w7 => P3.out X.u (vonto HB7.out X.h))
  have K4 := hid (fun X : Abv w7 => P4.out X.u (vonto HB7.out X.h))
  have zc0 := above_cell c0
  have zc1 := above_cell c1
  have zc2 := above_cell c2
  have zc3 := above_cell c3
  have zc4 := above_cell c4
  have zd0 := above_cell d0
  have zd1 := above_cell d1
  have zd2 := above_cell d2
  have zd3 := above_cell d3
  have zd4 := above_cell d4
  clear c0 c1 c2 c3 c4 d0 d1 d2 d3 d4
  cases sm with
  | true =>
    refine wp_region_above (by kernel_rfl) (by kernel_rfl) ?_
    repeat (go_big_quiet_step ((first
      | (go_at_call 26; first | with_reducible exact above_of (K1.out _) | with_reducible exact above_of (K2.out _))
      | (go_at_call 27; first | with_reducible exact above_of (K3.out _) | with_reducible exact above_of (K4.out _)))))
    refine wpQuiet_nil ?_
    intro _ hw'
    obtain ⟨X, hX⟩ := hw'
    subst hX
    go_wp2_with fail
    go_ret
    exact ⟨by first | rfl | exact ret_bool (by simp [q1, q2]), vonto HB7.out X.h⟩
  | false =>
    refine wp_region_above (by kernel_rfl) (by kernel_rfl) ?_
    repeat (go_big_quiet_step ((first
      | (go_at_call 26; first | with_reducible exact above_of (K1.out _) | with_reducible exact above_of (K2.out _))
      | (go_at_call 27; first | with_reducible exact above_of (K3.out _) | with_reducible exact above_of (K4.out _)))))
    refine wpQuiet_nil ?_
    intro _ hw'
    obtain ⟨X, hX⟩ := hw'
    subst hX
    go_wp2_with fail
    go_ret
    exact ⟨by first | rfl | exact ret_bool (by simp [q1, q2]), vonto HB7.out X.h⟩
end Go.Proofs.YtkhjahpkbjafaaaGreatDoor
