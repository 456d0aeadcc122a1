/- The document's own reckoning of trees, walked: steep, Heavy, Deep. -/
import Derived.Test.YtkhjahpkbjafaaaGreatDoorRVBase
import Derived.Deep.LoopGhost
import Derived.Test.YtkhjahpkbjafaaaGreatDoorRMathSt
import Derived.Test.YtkhjahpkbjafaaaGreatDoorRJpI
/- The printer's laws: has a tree a stamp, walked. -/
/- Plain mathematics: trees that are alike, strictly, are one. -/
/- Plain mathematics: the bytes of a value's text: none below 32 in one line; without blanks and lines both texts are one. -/
namespace Go.Proofs.YtkhjahpkbjafaaaGreatDoor
open Go.RowKit

/-- a tree of at most so many nodes, at most so deep -/
def fitB (T : VT) (deep nodes : Int) : Bool := decide ((hgT T : Int) ≤ deep ∧ (szT T : Int) ≤ nodes)
def fitN (T : VT) (deep nodes : Int) : Int := if (hgT T : Int) ≤ deep ∧ (szT T : Int) ≤ nodes then nodes - szT T else 0
theorem fit_yes {T : VT} {d n : Int} (h1 : (hgT T : Int) ≤ d) (h2 : (szT T : Int) ≤ n) : fitB T d n = true ∧ fitN T d n = n - szT T := by
  unfold fitB fitN; rw [if_pos ⟨h1, h2⟩]; exact ⟨by simp; omega, rfl⟩
theorem fit_no {T : VT} {d n : Int} (h : ¬ ((hgT T : Int) ≤ d ∧ (szT T : Int) ≤ n)) : fitB T d n = false ∧ fitN T d n = 0 := by
  unfold fitB fitN; rw [if_neg h]; exact ⟨by simp; omega, rfl⟩
theorem ret_bi {a b : Bool} {c d : Int} (h : a = b) (g : c = d) : Ending.returned (.tuple #[.bool a, .int .i64 c]) = .returned (.tuple #[.bool b, .int .i64 d]) := by rw [h, g]
set_option maxRecDepth 100000 in
set_option maxHeartbeats 1000000 in
theorem steep_any : ∀ (N : Nat) (T : VT) (x y : Value) (d c : Int) (w : World), szT T ≤ N → HV w T x y → -1000000 ≤ d ∧ d ≤ 1000000 → -1000000 ≤ c ∧ c ≤ 1000000 →
    Calls Tryz.prog 35 #[vv T x y, .int .i64 d, .int .i64 c] w fun e w' => e = .returned (.tuple #[.bool (!fitB T d c), .int .i64 (fitN T d c)]) ∧ Below w.heap.size w w' := by
  intro N
  induction N with
  | zero => intro T x y d c w h; have := szT_pos T; omega
  | succ N ih =>
  intro T x y d c w hN hT hd hc
  have hp1 := hgT_pos T
  have hp2 := szT_pos T
  cases hT with
  | mk a b f g p q hk hn hs hL hM hK cL cK cM rL rM =>
  rename_i k n s L K V
  obtain ⟨oL, capL, rfl, hL1, hL2, hL3⟩ := hL
  obtain ⟨oM, capM, rfl, hM1, hM2, hM3⟩ := hM
  unfold maxLen at hL2 hM2
  have hsz : szT (.mk k n s L K V) = 1 + szL L + szL V := by simp only [szT]
  have hhg : hgT (.mk k n s L K V) = 1 + max (hgL L) (hgL V) := by simp only [hgT]
  by_cases hout : d < 1 ∨ c < 1
  · have HF := hid (fit_no (T := .mk k n s L K V) (d := d) (n := c) (by omega))
    have hout' : d < 1 ∨ (¬ d < 1 ∧ c < 1) := by omega
    clear hout
    simp only [vv, VT.kd, VT.nm, VT.st]
    rcases hout' with h | ⟨h, h'⟩
    all_goals
      go_enter Tryz.func35, Tryz.ntmps35
      go_wp2_with fail
      go_ret2
      exact ⟨ret_bi (by rw [HF.out.1]; rfl) HF.out.2.symm, (Below.refl _ _).alloc (Nat.le_refl _) _⟩
  · have hd1 : ¬ d < 1 := by omega
    have hc1 : ¬ c < 1 := by omega
    clear hout
    have HNO := hid (fun h => fit_no (T := .mk k n s L K V) (d := d) (n := c) h)
    have HYES := hid (fun h1 h2 => fit_yes (T := .mk k n s L K V) (d := d) (n := c) h1 h2)
    rw [hsz, hhg] at HNO HYES
    rw [hsz] at hN
    simp only [vv, VT.kd, VT.nm, VT.st]
    clear hp1 hp2 hsz hhg
    go_enter Tryz.func35, Tryz.ntmps35
    go_wp2_with fail
    go_loopw [2, 8] (fun u i wr => ∃ j : Nat, j ≤ L.length ∧ u = .int .i64 (c - 1 - (szL (L.take j) : Int)) ∧ i = .int .i64 j ∧ (szL (L.take j) : Int) ≤ c - 1 ∧ (hgL (L.take j) : Int) ≤ d - 1 ∧ Below (w.heap.size + 1) (w.alloc (.cells #[.int .i64 k, .int .i64 n, .string s, .slice oL L.length capL, .slice oM V.length capM] 27)) wr) (fun _ i _ => L.length - (intOf i).toNat)
    case atStart => exact ⟨0, Nat.zero_le _, val_int (by simp [szL]), rfl, by simp [szL]; omega, by simp [hgL]; omega, Below.refl _ _⟩
    case round =>
      obtain ⟨j, hj, rfl, rfl, hjs, hjh, hbel⟩ := hrel
      have hbw : Below w.heap.size w wr := ((Below.refl _ _).alloc (Nat.le_refl _) _).trans (hbel.mono (by omega))
      have hB3 := box_cell w wr _ _ _ _ _ _ hbel 3 _ rfl
      have hB4 := box_cell w wr _ _ _ _ _ _ hbel 4 _ rfl
      have hsl := szL_take_le L j
      by_cases hlt : j < L.length
      · obtain ⟨t, ht⟩ : ∃ t, L[j]? = some t := ⟨L[j], List.getElem?_eq_getElem hlt⟩
        obtain rfl := hL3 (by omega)
        obtain ⟨d0, d1, d2, d3, d4⟩ := (cL j t ht).onto hbw
        have hszs := szL_take_succ L j t ht
        have hsl1 := szL_take_le L (j + 1)
        have hhs := hgL_take_succ L j t ht
        have hhl := hgL_take_le L (j + 1)
        have hstep := ih t (f j) (g j) (d - 1) (c - 1 - (szL (L.take j) : Int)) wr (by omega) ((rL j t ht).onto hbw) (by omega) (by omega)
        simp only [vv] at hstep
        by_cases hfit : (hgT t : Int) ≤ d - 1 ∧ (szT t : Int) ≤ c - 1 - (szL (L.take j) : Int)
        · have hy := fit_yes hfit.1 hfit.2
          rw [hy.1, hy.2] at hstep
          have HSTEP := hid hstep
          clear hstep hy
          go_wp2_with (go_at_call 35; go_must (refine HSTEP.out.mono ?_; rintro e w1 ⟨rfl, hb1⟩))
          go_roundw
          case rel => exact ⟨j + 1, hlt, val_int (by rw [hszs]; omega), val_int (by omega), by rw [hszs]; omega, by rw [hhs]; omega, hbel.trans (hb1.mono (by have := hbel.size; simp at this; omega))⟩
          case measure => simp [intOf]; omega
        · have hy := fit_no hfit
          rw [hy.1, hy.2] at hstep
          have HSTEP := hid hstep
          have HF := hid (HNO.out (by omega))
          clear hstep hy
          go_wp2_with (go_at_call 35; go_must (refine HSTEP.out.mono ?_; rintro e w1 ⟨rfl, hb1⟩))
          go_ret2
          exact ⟨ret_bi (by rw [HF.out.1]; rfl) HF.out.2.symm, hbw.trans (hb1.mono hbw.size)⟩
      · have hjL : j = L.length := by omega
        subst hjL
        rw [List.take_length] at hjs hjh ⊢
        go_wp2_with fail
        clear hB3 hB4 hsl
        go_loopw [2, 11] (fun u i wr => ∃ j : Nat, j ≤ V.length ∧ u = .int .i64 (c - 1 - (szL L : Int) - (szL (V.take j) : Int)) ∧ i = .int .i64 j ∧ (szL L : Int) + (szL (V.take j) : Int) ≤ c - 1 ∧ (hgL (V.take j) : Int) ≤ d - 1 ∧ Below (w.heap.size + 1) (w.alloc (.cells #[.int .i64 k, .int .i64 n, .string s, .slice oL L.length capL, .slice oM V.length capM] 27)) wr) (fun _ i _ => V.length - (intOf i).toNat)
        case atStart => exact ⟨0, Nat.zero_le _, val_int (by simp [szL]), rfl, by simp [szL]; omega, by simp [hgL]; omega, hbel⟩
        case round =>
          clear hbw hbel hj hlt
          obtain ⟨j, hj, rfl, rfl, hjs2, hjh2, hbel⟩ := hrel
          have hbw : Below w.heap.size w wr := ((Below.refl _ _).alloc (Nat.le_refl _) _).trans (hbel.mono (by omega))
          have hB4 := box_cell w wr _ _ _ _ _ _ hbel 4 _ rfl
          have hsl := szL_take_le V j
          by_cases hlt : j < V.length
          · obtain ⟨t, ht⟩ : ∃ t, V[j]? = some t := ⟨V[j], List.getElem?_eq_getElem hlt⟩
            obtain rfl := hM3 (by omega)
            have hnode := (cM j t ht).onto hbw
            simp only [Node, nx] at hnode
            obtain ⟨d0, d1, d2, d3, d4⟩ := hnode
            have hszs := szL_take_succ V j t ht
            have hsl1 := szL_take_le V (j + 1)
            have hhs := hgL_take_succ V j t ht
            have hhl := hgL_take_le V (j + 1)
            have hstep := ih t (p j) (q j) (d - 1) (c - 1 - (szL L : Int) - (szL (V.take j) : Int)) wr (by omega) ((rM j t ht).onto hbw) (by omega) (by omega)
            simp only [vv] at hstep
            by_cases hfit : (hgT t : Int) ≤ d - 1 ∧ (szT t : Int) ≤ c - 1 - (szL L : Int) - (szL (V.take j) : Int)
            · have hy := fit_yes hfit.1 hfit.2
              rw [hy.1, hy.2] at hstep
              have HSTEP := hid hstep
              clear hstep hy
              go_wp2_with (go_at_call 35; go_must (refine HSTEP.out.mono ?_; rintro e w1 ⟨rfl, hb1⟩))
              go_roundw
              case rel => exact ⟨j + 1, hlt, val_int (by rw [hszs]; omega), val_int (by omega), by rw [hszs]; omega, by rw [hhs]; omega, hbel.trans (hb1.mono (by have := hbel.size; simp at this; omega))⟩
              case measure => simp [intOf]; omega
            · have hy := fit_no hfit
              rw [hy.1, hy.2] at hstep
              have HSTEP := hid hstep
              have HF := hid (HNO.out (by omega))
              clear hstep hy
              go_wp2_with (go_at_call 35; go_must (refine HSTEP.out.mono ?_; rintro e w1 ⟨rfl, hb1⟩))
              go_ret2
              exact ⟨ret_bi (by rw [HF.out.1]; rfl) HF.out.2.symm, hbw.trans (hb1.mono hbw.size)⟩
          · have hjV : j = V.length := by omega
            subst hjV
            rw [List.take_length] at hjs2 hjh2 ⊢
            have HF := hid (HYES.out (by omega) (by omega))
            go_wp2_with fail
            go_ret2
            exact ⟨ret_bi (by rw [HF.out.1]; rfl) (by rw [HF.out.2]; omega), hbw⟩
set_option maxRecDepth 100000 in
set_option maxHeartbeats 1000000 in
theorem heavy_any (T : VT) (x y : Value) (c d : Int) (w : World) (hT : HV w T x y) (hd : -1000000 ≤ d ∧ d ≤ 1000000) (hc : -1000000 ≤ c ∧ c ≤ 1000000) :
    Calls Tryz.prog 21 #[vv T x y, .int .i64 c, .int .i64 d] w fun e w' => e = .returned (.bool (!fitB T d c)) ∧ Below w.heap.size w w' := by
  have hal : Below w.heap.size w (w.alloc (.cells #[.int .i64 T.kd, .int .i64 T.nm, .string T.st, x, y] 27)) := (Below.refl _ _).alloc (Nat.le_refl _) _
  have HS := hid (steep_any _ T x y d c _ (Nat.le_refl _) (hT.onto hal) hd hc)
  simp only [vv] at HS ⊢
  go_enter Tryz.func21, Tryz.ntmps21
  go_wp2_with (go_at_call 35; go_must (refine HS.out.mono ?_; rintro e w1 ⟨rfl, hb1⟩))
  go_ret
  exact ⟨rfl, hal.trans (hb1.mono hal.size)⟩
end Go.Proofs.YtkhjahpkbjafaaaGreatDoor
namespace Go.Proofs.YtkhjahpkbjafaaaGreatDoor
open Go.RowKit

theorem sm_list_no {L : List VT} {j : Nat} (h : ∀ i t, i < j → L[i]? = some t → smB t = false) (hj : L.length ≤ j) : smL L = false :=
  (smL_get L).2 fun i t hi => h i t (by have := lt_of_some hi; omega) hi
theorem sm_list_yes {L : List VT} {j : Nat} {t : VT} (h : L[j]? = some t) (ht : smB t = true) : smL L = true := by
  cases hs : smL L with
  | true => rfl
  | false =>
    have := (smL_get L).1 hs j t h
    rw [ht] at this; cases this
set_option maxRecDepth 100000 in
set_option maxHeartbeats 1000000 in
theorem stamped_any : ∀ (N : Nat) (T : VT) (x y : Value) (w : World), szT T ≤ N → HV w T x y →
    Calls Tryz.prog 28 #[vv T x y] w fun e w' => e = .returned (.bool (smB T)) ∧ Below w.heap.size w w' := by
  intro N
  induction N with
  | zero => intro T x y w h; have := szT_pos T; omega
  | succ N ih =>
  intro T x y w hN hT
  cases hT with
  | mk a b f g p q hk hn hs hL hM hK cL cK cM rL rM =>
  rename_i k n s L K V
  obtain ⟨oL, capL, rfl, hL1, hL2, hL3⟩ := hL
  obtain ⟨oM, capM, rfl, hM1, hM2, hM3⟩ := hM
  unfold maxLen at hL2 hM2
  have hsz : szT (.mk k n s L K V) = 1 + szL L + szL V := by simp only [szT]
  rw [hsz] at hN
  have HSM := hid (show smB (.mk k n s L K V) = (decide (k = 7) || smL L || smL V) by rw [smB])
  simp only [vv, VT.kd, VT.nm, VT.st]
  clear hsz
  by_cases h7 : k = 7
  · subst h7
    go_enter Tryz.func28, Tryz.ntmps28
    go_wp2_with fail
    go_ret
    exact ⟨ret_bool (by rw [HSM.out]; rfl), valloc_bel (Below.refl _ _) _⟩
  have hk7 : (k == 7) = false := by simpa using h7
  have HD := hid (show decide (k = 7) = false from decide_eq_false h7)
  clear h7
  go_enter Tryz.func28, Tryz.ntmps28
  go_wp2_with fail
  go_loopw [3] (fun i wr => ∃ j : Nat, j ≤ L.length ∧ i = .int .i64 j ∧ Hid (∀ i t, i < j → L[i]? = some t → smB t = false) ∧ Below (w.heap.size + 1) (w.alloc (.cells #[.int .i64 k, .int .i64 n, .string s, .slice oL L.length capL, .slice oM V.length capM] 27)) wr) (fun i _ => L.length - (intOf i).toNat)
  case atStart => exact ⟨0, Nat.zero_le _, rfl, fun i t hi => by omega, Below.refl _ _⟩
  case round =>
    obtain ⟨j, hj, rfl, HNO, hbel⟩ := hrel
    have hbw : Below w.heap.size w wr := ((Below.refl _ _).alloc (Nat.le_refl _) _).trans (hbel.mono (by omega))
    have hB3 := box_cell w wr _ _ _ _ _ _ hbel 3 _ rfl
    have hB4 := box_cell w wr _ _ _ _ _ _ hbel 4 _ rfl
    have hbsz := hbel.size
    by_cases hlt : j < L.length
    · obtain ⟨t, ht⟩ : ∃ t, L[j]? = some t := ⟨L[j], List.getElem?_eq_getElem hlt⟩
      obtain rfl := hL3 (by omega)
      obtain ⟨d0, d1, d2, d3, d4⟩ := (cL j t ht).onto hbw
      have hsg := szL_get L j t ht
      have hstep := ih t (f j) (g j) wr (by omega) ((rL j t ht).onto hbw)
      simp only [vv] at hstep
      have HSTEP := hid hstep
      have HTT := hid ht
      clear hstep ht
      cases hq : smB t with
      | true =>
        rw [hq] at HSTEP
        go_wp2_with (go_at_call 28; go_must (refine HSTEP.out.mono ?_; rintro e w1 ⟨rfl, hb1⟩))
        go_ret
        exact ⟨ret_bool (by rw [HSM.out, sm_list_yes HTT.out hq]; simp), vonto hbw hb1⟩
      | false =>
        rw [hq] at HSTEP
        go_wp2_with (go_at_call 28; go_must (refine HSTEP.out.mono ?_; rintro e w1 ⟨rfl, hb1⟩))
        go_roundw
        case rel => exact ⟨j + 1, hlt, val_int (by omega), fun i t' hi ht' => (by
          by_cases e : i = j
          · subst e
            have := HTT.out.symm.trans ht'
            injection this with this
            rw [← this]; exact hq
          · exact HNO.out i t' (by omega) ht'), hbel.trans (hb1.mono (by simp at hbsz; omega))⟩
        case measure => simp [intOf]; omega
    · have hLn := sm_list_no HNO.out (by omega)
      have HLN := hid hLn
      clear hLn
      go_wp2_with fail
      clear hB3 hB4 hbsz
      go_loopw [4] (fun i wr => ∃ j : Nat, j ≤ V.length ∧ i = .int .i64 j ∧ Hid (∀ i t, i < j → V[i]? = some t → smB t = false) ∧ Below (w.heap.size + 1) (w.alloc (.cells #[.int .i64 k, .int .i64 n, .string s, .slice oL L.length capL, .slice oM V.length capM] 27)) wr) (fun i _ => V.length - (intOf i).toNat)
      case atStart => exact ⟨0, Nat.zero_le _, rfl, fun i t hi => by omega, hbel⟩
      case round =>
        clear hbw hbel hj hlt HNO
        obtain ⟨j, hj, rfl, HNO, hbel⟩ := hrel
        have hbw : Below w.heap.size w wr := ((Below.refl _ _).alloc (Nat.le_refl _) _).trans (hbel.mono (by omega))
        have hB4 := box_cell w wr _ _ _ _ _ _ hbel 4 _ rfl
        have hbsz := hbel.size
        by_cases hlt : j < V.length
        · obtain ⟨t, ht⟩ : ∃ t, V[j]? = some t := ⟨V[j], List.getElem?_eq_getElem hlt⟩
          obtain rfl := hM3 (by omega)
          have hnode := (cM j t ht).onto hbw
          simp only [Node, nx] at hnode
          obtain ⟨d0, d1, d2, d3, d4⟩ := hnode
          have hsg := szL_get V j t ht
          have hstep := ih t (p j) (q j) wr (by omega) ((rM j t ht).onto hbw)
          simp only [vv] at hstep
          have HSTEP := hid hstep
          have HTT := hid ht
          clear hstep ht
          cases hq : smB t with
          | true =>
            rw [hq] at HSTEP
            go_wp2_with (go_at_call 28; go_must (refine HSTEP.out.mono ?_; rintro e w1 ⟨rfl, hb1⟩))
            go_ret
            exact ⟨ret_bool (by rw [HSM.out, sm_list_yes HTT.out hq]; simp), vonto hbw hb1⟩
          | false =>
            rw [hq] at HSTEP
            go_wp2_with (go_at_call 28; go_must (refine HSTEP.out.mono ?_; rintro e w1 ⟨rfl, hb1⟩))
            go_roundw
            case rel => exact ⟨j + 1, hlt, val_int (by omega), fun i t' hi ht' => (by
              by_cases e : i = j
              · subst e
                have := HTT.out.symm.trans ht'
                injection this with this
                rw [← this]; exact hq
              · exact HNO.out i t' (by omega) ht'), hbel.trans (hb1.mono (by simp at hbsz; omega))⟩
            case measure => simp [intOf]; omega
        · have hVn := sm_list_no HNO.out (by omega)
          have HVN := hid hVn
          clear hVn
          go_wp2_with fail
          go_ret
          exact ⟨ret_bool (by rw [HSM.out, HD.out, HLN.out, HVN.out]; rfl), hbw⟩
end Go.Proofs.YtkhjahpkbjafaaaGreatDoor
namespace Go.Proofs.YtkhjahpkbjafaaaGreatDoor
open Go.RowKit

mutual
theorem same_eq : ∀ T U : VT, sameT false T U = true → T = U
  | .mk k n s L K V, .mk k' n' s' L' K' V', h => by
    rw [sameT, Bool.and_eq_true, Bool.and_eq_true, Bool.and_eq_true, Bool.and_eq_true] at h
    obtain ⟨⟨⟨⟨h0, h5⟩, h6⟩, h7⟩, h8⟩ := h
    obtain ⟨h1, h2, h3, h4⟩ := of_decide_eq_true h0
    have h7 : K = K' := of_decide_eq_true h7
    have h1 : k = k' := h1
    have h2 : n = n' := h2
    have h5 : strB false k s s' = true := h5
    unfold strB at h5
    simp at h5
    rw [h1, h2, h5, h7, sameL_eq L L' h3 h6, sameL_eq V V' h4 h8]
theorem sameL_eq : ∀ L M : List VT, L.length = M.length → sameL false L M = true → L = M
  | [], [], _, _ => rfl
  | [], _ :: _, h, _ => by simp at h
  | _ :: _, [], h, _ => by simp at h
  | t :: r, u :: q, h, g => by
    rw [sameL, Bool.and_eq_true] at g
    rw [same_eq t u g.1, sameL_eq r q (by simpa using h) g.2]
end
mutual
theorem eq_same : ∀ T : VT, sameT false T T = true
  | .mk k n s L K V => by
    have h1 := eqL_same L
    have h2 := eqL_same V
    simp [sameT, strB, VT.kd, VT.nm, VT.st, VT.ls, VT.ks, VT.vs, h1, h2]
theorem eqL_same : ∀ L : List VT, sameL false L L = true
  | [] => by rw [sameL]
  | t :: r => by rw [sameL, eq_same t, eqL_same r]; rfl
end
end Go.Proofs.YtkhjahpkbjafaaaGreatDoor
namespace Go.Proofs.YtkhjahpkbjafaaaGreatDoor
open Go.RowKit

def NoBl (ts : List Tk) : Prop := ∀ t ∈ ts, ∀ b, t ≠ .bl b
theorem NoBl.app {a b : List Tk} (h : NoBl a) (g : NoBl b) : NoBl (a ++ b) := fun t ht => (List.mem_append.1 ht).elim (h t) (g t)
theorem NoBl.cons {t : Tk} {r : List Tk} (h : ∀ b, t ≠ .bl b) (g : NoBl r) : NoBl (t :: r) := fun x hx => (List.mem_cons.1 hx).elim (fun e => e ▸ h) (g x)
theorem nb_nil : NoBl [] := fun t ht => by simp at ht
theorem tkS_nb (k n : Int) (s : ByteArray) : ∀ b, tkS k n s ≠ .bl b := fun b e => by
  unfold tkS at e
  (repeat' split at e) <;> cases e
mutual
theorem nb_val : ∀ v : VT, NoBl (tkV none v)
  | .mk k n s L K V => by
    rw [tkV]
    split
    · exact (nb_nil.cons (t := .sg 91) (by simp)).app ((nb_list L).app (by split <;> exact nb_nil.cons (by simp)))
    · split
      · exact (nb_nil.cons (t := .sg 123) (by simp)).app ((nb_map V K).app (by split <;> exact nb_nil.cons (by simp)))
      · exact nb_nil.cons (tkS_nb k n s)
theorem nb_list : ∀ L : List VT, NoBl (tkL (upN none) L)
  | [] => by rw [tkL]; exact nb_nil
  | t :: r => by rw [tkL]; exact nb_nil.app ((nb_val t).app (nb_listc r))
theorem nb_listc : ∀ L : List VT, NoBl (tkLc (upN none) L)
  | [] => by rw [tkLc]; exact nb_nil
  | t :: r => by rw [tkLc]; exact ((nb_nil.app ((nb_val t).app (nb_listc r)))).cons (by simp)
theorem nb_map : ∀ (V : List VT) (K : List ByteArray), NoBl (tkM (upN none) V K)
  | [], K => by rw [tkM]; exact nb_nil
  | t :: r, K => by rw [tkM]; exact nb_nil.app (((nb_nil.cons (t := .sg 58) (by simp)).app ((nb_val t).app (nb_mapc r K.tail))).cons (by simp))
theorem nb_mapc : ∀ (V : List VT) (K : List ByteArray), NoBl (tkMc (upN none) V K)
  | [], K => by rw [tkMc]; exact nb_nil
  | t :: r, K => by rw [tkMc]; exact (nb_nil.app (((nb_nil.cons (t := .sg 58) (by simp)).app ((nb_val t).app (nb_mapc r K.tail))).cons (by simp))).cons (by simp)
end
/-- what is no blank and no line's end -/
def kpB (x : UInt8) : Bool := !decide (x.toNat = 32) && !decide (x.toNat = 10)
def kp (l : List UInt8) : List UInt8 := l.filter kpB
theorem kp_app (a b : List UInt8) : kp (a ++ b) = kp a ++ kp b := List.filter_append ..
theorem kp_ln (i : Option Nat) : kp (txs (lnT i)) = [] := by
  cases i with
  | none => rfl
  | some k =>
    have e : txs (lnT (some k)) = 10 :: List.replicate (2 * k) 32 := by simp [lnT, txs, Tk.tx]
    rw [e]
    refine List.filter_eq_nil_iff.2 (fun x hx => ?_)
    rcases List.mem_cons.1 hx with rfl | hx
    · decide
    · rw [List.eq_of_mem_replicate hx]; decide
theorem kp_cln (i : Option Nat) : kp (txs (clnT i)) = [58] := by cases i <;> rfl
theorem kp_end (i : Option Nat) (b : Bool) (c : UInt8) : kp (txs ((if b = true then [] else lnT i) ++ [Tk.sg c])) = kp [c] := by
  rw [txs_app, kp_app]
  cases b
  · simp only [Bool.false_eq_true, if_false, kp_ln]; rfl
  · rfl
mutual
/-- both texts are alike without them -/
theorem kp_val : ∀ (v : VT) (i j : Option Nat), kp (txs (tkV i v)) = kp (txs (tkV j v))
  | .mk k n s L K V, i, j => by
    rw [tkV, tkV]
    split
    · rw [txs_cons, txs_cons, kp_app, kp_app, txs_app (tkL (upN i) L), txs_app (tkL (upN j) L), kp_app, kp_app, kp_list L (upN i) (upN j), kp_end, kp_end]
    · split
      · rw [txs_cons, txs_cons, kp_app, kp_app, txs_app (tkM (upN i) V K), txs_app (tkM (upN j) V K), kp_app, kp_app, kp_map V K (upN i) (upN j), kp_end, kp_end]
      · rfl
theorem kp_list : ∀ (L : List VT) (i j : Option Nat), kp (txs (tkL i L)) = kp (txs (tkL j L))
  | [], i, j => by rw [tkL, tkL]
  | t :: r, i, j => by rw [tkL, tkL, txs_app, txs_app, txs_app, txs_app, kp_app, kp_app, kp_app, kp_app, kp_ln, kp_ln, kp_val t i j, kp_listc r i j]
theorem kp_listc : ∀ (L : List VT) (i j : Option Nat), kp (txs (tkLc i L)) = kp (txs (tkLc j L))
  | [], i, j => by rw [tkLc, tkLc]
  | t :: r, i, j => by rw [tkLc, tkLc, txs_cons, txs_cons, txs_app, txs_app, txs_app, txs_app, kp_app, kp_app, kp_app, kp_app, kp_app, kp_app, kp_ln, kp_ln, kp_val t i j, kp_listc r i j]
theorem kp_map : ∀ (V : List VT) (K : List ByteArray) (i j : Option Nat), kp (txs (tkM i V K)) = kp (txs (tkM j V K))
  | [], K, i, j => by rw [tkM, tkM]
  | t :: r, K, i, j => by
    rw [tkM, tkM]
    simp only [txs_app, txs_cons, kp_app, kp_ln, kp_cln]
    rw [kp_val t i j, kp_mapc r K.tail i j]
theorem kp_mapc : ∀ (V : List VT) (K : List ByteArray) (i j : Option Nat), kp (txs (tkMc i V K)) = kp (txs (tkMc j V K))
  | [], K, i, j => by rw [tkMc, tkMc]
  | t :: r, K, i, j => by
    rw [tkMc, tkMc]
    simp only [txs_app, txs_cons, kp_app, kp_ln, kp_cln]
    rw [kp_val t i j, kp_mapc r K.tail i j]
end
end Go.Proofs.YtkhjahpkbjafaaaGreatDoor
