import Derived.Test.YtnpojefcibfgkaaGreatDoorVMath
import Derived.Deep.LoopGhost
import Derived.Test.YtnpojefcibfgkaaGreatDoorVFind
import Derived.Lib.Strings
import Derived.Test.YtnpojefcibfgkaaGreatDoorVSameT
import Derived.Test.YtnpojefcibfgkaaGreatDoorRefOne
import Derived.Test.YtnpojefcibfgkaaGreatDoorAbove
import Derived.Test.YtnpojefcibfgkaaGreatDoorVTree
import Derived.WideShapes
/- The document's own reckoning of trees, walked: Size. -/
/- The document's own reckoning of trees, walked: steep, Heavy, Deep. -/
/- The document's own reckoning of trees, walked: Deep. -/
/- The document's own reckoning of trees, walked: Get. -/
/- The document's own likeness of trees, walked: Same. -/
/- An argument that is a value: its tree. -/
/- The document's own judgement of texts in trees, walked: Str, Stamp. -/
namespace Go.Proofs.YtnpojefcibfgkaaGreatDoor
open Go.RowKit

set_option maxRecDepth 100000 in
set_option maxHeartbeats 1000000 in
theorem size_any : ∀ (N : Nat) (T : VT) (x y : Value) (most : Int) (w : World), szT T ≤ N → HV w T x y → (szT T : Int) ≤ most → most ≤ 1000000000 →
    Calls Tryz.prog 23 #[vv T x y, .int .i64 most] w fun e w' => e = .returned (.int .i64 (szT T)) ∧ Below w.heap.size w w' := by
  intro N
  induction N with
  | zero => intro T x y most w h; have := szT_pos T; omega
  | succ N ih =>
  intro T x y most w hN hT hm hm2
  cases hT with
  | mk a b f g p q hk hn hs hL hM hK cL cK cM rL rM =>
  rename_i k n s L K V
  simp only [vv, VT.kd, VT.nm, VT.st]
  obtain ⟨oL, capL, rfl, hL1, hL2, hL3⟩ := hL
  obtain ⟨oM, capM, rfl, hM1, hM2, hM3⟩ := hM
  unfold maxLen at hL2 hM2
  have hsz : szT (.mk k n s L K V) = 1 + szL L + szL V := by simp only [szT]
  rw [hsz] at hN hm ⊢
  go_enter Tryz.func23, Tryz.ntmps23
  go_wp2_with fail
  go_loopw [5, 6] (fun u i wr => ∃ j : Nat, j ≤ L.length ∧ u = .int .i64 (1 + (szL (L.take j) : Int)) ∧ i = .int .i64 j ∧ Below (w.heap.size + 1) (w.alloc (.cells #[.int .i64 k, .int .i64 n, .string s, .slice oL L.length capL, .slice oM V.length capM] 27)) wr) (fun _ i _ => L.length - (intOf i).toNat)
  case atStart => exact ⟨0, Nat.zero_le _, rfl, rfl, Below.refl _ _⟩
  case round =>
    obtain ⟨j, hj, rfl, rfl, hbel⟩ := hrel
    have hbw : Below w.heap.size w wr := ((Below.refl _ _).alloc (Nat.le_refl _) _).trans (hbel.mono (by omega))
    have hB3 := box_cell w wr _ _ _ _ _ _ hbel 3 _ rfl
    have hB4 := box_cell w wr _ _ _ _ _ _ hbel 4 _ rfl
    have hsl := szL_take_le L j
    by_cases hlt : j < L.length
    · obtain ⟨t, ht⟩ : ∃ t, L[j]? = some t := ⟨L[j], List.getElem?_eq_getElem hlt⟩
      obtain rfl := hL3 (by omega)
      obtain ⟨d0, d1, d2, d3, d4⟩ := (cL j t ht).onto hbw
      have hszs := szL_take_succ L j t ht
      have hsl1 := szL_take_le L (j + 1)
      have hstep := ih t (f j) (g j) (most - (1 + (szL (L.take j) : Int))) wr (by omega) ((rL j t ht).onto hbw) (by omega) (by omega)
      simp only [vv] at hstep
      have HSTEP := hid hstep
      have hst1 : 1 + (szL (L.take j) : Int) ≤ most := by omega
      have htz : (szT t : Int) ≤ 1000000000 := by omega
      clear hstep
      go_wp2_with (go_at_call 23; go_must (refine HSTEP.out.mono ?_; rintro e w1 ⟨rfl, hb1⟩))
      go_roundw
      case rel => exact ⟨j + 1, hlt, val_int (by rw [hszs]; omega), val_int (by omega), hbel.trans (hb1.mono (by have := hbel.size; simp at this; omega))⟩
      case measure => simp [intOf]; omega
    · have hjL : j = L.length := by omega
      subst hjL
      rw [List.take_length]
      go_wp2_with fail
      clear hB3 hB4 hsl
      go_loopw [5, 7] (fun u i wr => ∃ j : Nat, j ≤ V.length ∧ u = .int .i64 (1 + (szL L : Int) + (szL (V.take j) : Int)) ∧ i = .int .i64 j ∧ Below (w.heap.size + 1) (w.alloc (.cells #[.int .i64 k, .int .i64 n, .string s, .slice oL L.length capL, .slice oM V.length capM] 27)) wr) (fun _ i _ => V.length - (intOf i).toNat)
      case atStart => exact ⟨0, Nat.zero_le _, val_int (by simp [szL]), rfl, hbel⟩
      case round =>
        clear hbw hbel hj hlt
        obtain ⟨j, hj, rfl, rfl, hbel⟩ := hrel

        have hbw : Below w.heap.size w wr := ((Below.refl _ _).alloc (Nat.le_refl _) _).trans (hbel.mono (by omega))
        have hB4 := box_cell w wr _ _ _ _ _ _ hbel 4 _ rfl
        have hsl := szL_take_le V j
        by_cases hlt : j < V.length
        · obtain ⟨t, ht⟩ : ∃ t, V[j]? = some t := ⟨V[j], List.getElem?_eq_getElem hlt⟩
          obtain rfl := hM3 (by omega)
          have hnode := (cM j t ht).onto hbw
          simp only [Node, nx] at hnode
          obtain ⟨d0, d1, d2, d3, d4⟩ := hnode
          have hszs := szL_take_succ V j t ht
          have hsl1 := szL_take_le V (j + 1)
          have hstep := ih t (p j) (q j) (most - (1 + (szL L : Int) + (szL (V.take j) : Int))) wr (by omega) ((rM j t ht).onto hbw) (by omega) (by omega)
          simp only [vv] at hstep
          have HSTEP := hid hstep
          have hst1 : 1 + (szL L : Int) + (szL (V.take j) : Int) ≤ most := by omega
          have htz : (szT t : Int) ≤ 1000000000 := by omega
          clear hstep
          go_wp2_with (go_at_call 23; go_must (refine HSTEP.out.mono ?_; rintro e w1 ⟨rfl, hb1⟩))
          go_roundw
          case rel => exact ⟨j + 1, hlt, val_int (by rw [hszs]; omega), val_int (by omega), hbel.trans (hb1.mono (by have := hbel.size; simp at this; omega))⟩
          case measure => simp [intOf]; omega
        · have hjV : j = V.length := by omega
          subst hjV
          rw [List.take_length]
          go_wp2_with fail
          go_ret
          exact ⟨ret_int (by omega), hbw⟩
end Go.Proofs.YtnpojefcibfgkaaGreatDoor
namespace Go.Proofs.YtnpojefcibfgkaaGreatDoor
open Go.RowKit

/-- a tree of at most so many nodes, at most so deep -/
def fitB (T : VT) (deep nodes : Int) : Bool := decide ((hgT T : Int) ≤ deep ∧ (szT T : Int) ≤ nodes)
def fitN (T : VT) (deep nodes : Int) : Int := if (hgT T : Int) ≤ deep ∧ (szT T : Int) ≤ nodes then nodes - szT T else 0
theorem fit_yes {T : VT} {d n : Int} (h1 : (hgT T : Int) ≤ d) (h2 : (szT T : Int) ≤ n) : fitB T d n = true ∧ fitN T d n = n - szT T := by
  unfold fitB fitN; rw [if_pos ⟨h1, h2⟩]; exact ⟨by simp; omega, rfl⟩
theorem fit_no {T : VT} {d n : Int} (h : ¬ ((hgT T : Int) ≤ d ∧ (szT T : Int) ≤ n)) : fitB T d n = false ∧ fitN T d n = 0 := by
  unfold fitB fitN; rw [if_neg h]; exact ⟨by simp; omega, rfl⟩
theorem ret_bi {a b : Bool} {c d : Int} (h : a = b) (g : c = d) : Ending.returned (.tuple #[.bool a, .int .i64 c]) = .returned (.tuple #[.bool b, .int .i64 d]) := by rw [h, g]
set_option maxRecDepth 100000 in
set_option maxHeartbeats 1000000 in
theorem steep_any : ∀ (N : Nat) (T : VT) (x y : Value) (d c : Int) (w : World), szT T ≤ N → HV w T x y → -1000000 ≤ d ∧ d ≤ 1000000 → -1000000 ≤ c ∧ c ≤ 1000000 →
    Calls Tryz.prog 54 #[vv T x y, .int .i64 d, .int .i64 c] w fun e w' => e = .returned (.tuple #[.bool (!fitB T d c), .int .i64 (fitN T d c)]) ∧ Below w.heap.size w w' := by
  intro N
  induction N with
  | zero => intro T x y d c w h; have := szT_pos T; omega
  | succ N ih =>
  intro T x y d c w hN hT hd hc
  have hp1 := hgT_pos T
  have hp2 := szT_pos T
  cases hT with
  | mk a b f g p q hk hn hs hL hM hK cL cK cM rL rM =>
  rename_i k n s L K V
  obtain ⟨oL, capL, rfl, hL1, hL2, hL3⟩ := hL
  obtain ⟨oM, capM, rfl, hM1, hM2, hM3⟩ := hM
  unfold maxLen at hL2 hM2
  have hsz : szT (.mk k n s L K V) = 1 + szL L + szL V := by simp only [szT]
  have hhg : hgT (.mk k n s L K V) = 1 + max (hgL L) (hgL V) := by simp only [hgT]
  by_cases hout : d < 1 ∨ c < 1
  · have HF := hid (fit_no (T := .mk k n s L K V) (d := d) (n := c) (by omega))
    have hout' : d < 1 ∨ (¬ d < 1 ∧ c < 1) := by omega
    clear hout
    simp only [vv, VT.kd, VT.nm, VT.st]
    rcases hout' with h | ⟨h, h'⟩
    all_goals
      go_enter Tryz.func54, Tryz.ntmps54
      go_wp2_with fail
      go_ret2
      exact ⟨ret_bi (by rw [HF.out.1]; rfl) HF.out.2.symm, (Below.refl _ _).alloc (Nat.le_refl _) _⟩
  · have hd1 : ¬ d < 1 := by omega
    have hc1 : ¬ c < 1 := by omega
    clear hout
    have HNO := hid (fun h => fit_no (T := .mk k n s L K V) (d := d) (n := c) h)
    have HYES := hid (fun h1 h2 => fit_yes (T := .mk k n s L K V) (d := d) (n := c) h1 h2)
    rw [hsz, hhg] at HNO HYES
    rw [hsz] at hN
    simp only [vv, VT.kd, VT.nm, VT.st]
    clear hp1 hp2 hsz hhg
    go_enter Tryz.func54, Tryz.ntmps54
    go_wp2_with fail
    go_loopw [2, 8] (fun u i wr => ∃ j : Nat, j ≤ L.length ∧ u = .int .i64 (c - 1 - (szL (L.take j) : Int)) ∧ i = .int .i64 j ∧ (szL (L.take j) : Int) ≤ c - 1 ∧ (hgL (L.take j) : Int) ≤ d - 1 ∧ Below (w.heap.size + 1) (w.alloc (.cells #[.int .i64 k, .int .i64 n, .string s, .slice oL L.length capL, .slice oM V.length capM] 27)) wr) (fun _ i _ => L.length - (intOf i).toNat)
    case atStart => exact ⟨0, Nat.zero_le _, val_int (by simp [szL]), rfl, by simp [szL]; omega, by simp [hgL]; omega, Below.refl _ _⟩
    case round =>
      obtain ⟨j, hj, rfl, rfl, hjs, hjh, hbel⟩ := hrel
      have hbw : Below w.heap.size w wr := ((Below.refl _ _).alloc (Nat.le_refl _) _).trans (hbel.mono (by omega))
      have hB3 := box_cell w wr _ _ _ _ _ _ hbel 3 _ rfl
      have hB4 := box_cell w wr _ _ _ _ _ _ hbel 4 _ rfl
      have hsl := szL_take_le L j
      by_cases hlt : j < L.length
      · obtain ⟨t, ht⟩ : ∃ t, L[j]? = some t := ⟨L[j], List.getElem?_eq_getElem hlt⟩
        obtain rfl := hL3 (by omega)
        obtain ⟨d0, d1, d2, d3, d4⟩ := (cL j t ht).onto hbw
        have hszs := szL_take_succ L j t ht
        have hsl1 := szL_take_le L (j + 1)
        have hhs := hgL_take_succ L j t ht
        have hhl := hgL_take_le L (j + 1)
        have hstep := ih t (f j) (g j) (d - 1) (c - 1 - (szL (L.take j) : Int)) wr (by omega) ((rL j t ht).onto hbw) (by omega) (by omega)
        simp only [vv] at hstep
        by_cases hfit : (hgT t : Int) ≤ d - 1 ∧ (szT t : Int) ≤ c - 1 - (szL (L.take j) : Int)
        · have hy := fit_yes hfit.1 hfit.2
          rw [hy.1, hy.2] at hstep
          have HSTEP := hid hstep
          clear hstep hy
          go_wp2_with (go_at_call 54; go_must (refine HSTEP.out.mono ?_; rintro e w1 ⟨rfl, hb1⟩))
          go_roundw
          case rel => exact ⟨j + 1, hlt, val_int (by rw [hszs]; omega), val_int (by omega), by rw [hszs]; omega, by rw [hhs]; omega, hbel.trans (hb1.mono (by have := hbel.size; simp at this; omega))⟩
          case measure => simp [intOf]; omega
        · have hy := fit_no hfit
          rw [hy.1, hy.2] at hstep
          have HSTEP := hid hstep
          have HF := hid (HNO.out (by omega))
          clear hstep hy
          go_wp2_with (go_at_call 54; go_must (refine HSTEP.out.mono ?_; rintro e w1 ⟨rfl, hb1⟩))
          go_ret2
          exact ⟨ret_bi (by rw [HF.out.1]; rfl) HF.out.2.symm, hbw.trans (hb1.mono hbw.size)⟩
      · have hjL : j = L.length := by omega
        subst hjL
        rw [List.take_length] at hjs hjh ⊢
        go_wp2_with fail
        clear hB3 hB4 hsl
        go_loopw [2, 11] (fun u i wr => ∃ j : Nat, j ≤ V.length ∧ u = .int .i64 (c - 1 - (szL L : Int) - (szL (V.take j) : Int)) ∧ i = .int .i64 j ∧ (szL L : Int) + (szL (V.take j) : Int) ≤ c - 1 ∧ (hgL (V.take j) : Int) ≤ d - 1 ∧ Below (w.heap.size + 1) (w.alloc (.cells #[.int .i64 k, .int .i64 n, .string s, .slice oL L.length capL, .slice oM V.length capM] 27)) wr) (fun _ i _ => V.length - (intOf i).toNat)
        case atStart => exact ⟨0, Nat.zero_le _, val_int (by simp [szL]), rfl, by simp [szL]; omega, by simp [hgL]; omega, hbel⟩
        case round =>
          clear hbw hbel hj hlt
          obtain ⟨j, hj, rfl, rfl, hjs2, hjh2, hbel⟩ := hrel
          have hbw : Below w.heap.size w wr := ((Below.refl _ _).alloc (Nat.le_refl _) _).trans (hbel.mono (by omega))
          have hB4 := box_cell w wr _ _ _ _ _ _ hbel 4 _ rfl
          have hsl := szL_take_le V j
          by_cases hlt : j < V.length
          · obtain ⟨t, ht⟩ : ∃ t, V[j]? = some t := ⟨V[j], List.getElem?_eq_getElem hlt⟩
            obtain rfl := hM3 (by omega)
            have hnode := (cM j t ht).onto hbw
            simp only [Node, nx] at hnode
            obtain ⟨d0, d1, d2, d3, d4⟩ := hnode
            have hszs := szL_take_succ V j t ht
            have hsl1 := szL_take_le V (j + 1)
            have hhs := hgL_take_succ V j t ht
            have hhl := hgL_take_le V (j + 1)
            have hstep := ih t (p j) (q j) (d - 1) (c - 1 - (szL L : Int) - (szL (V.take j) : Int)) wr (by omega) ((rM j t ht).onto hbw) (by omega) (by omega)
            simp only [vv] at hstep
            by_cases hfit : (hgT t : Int) ≤ d - 1 ∧ (szT t : Int) ≤ c - 1 - (szL L : Int) - (szL (V.take j) : Int)
            · have hy := fit_yes hfit.1 hfit.2
              rw [hy.1, hy.2] at hstep
              have HSTEP := hid hstep
              clear hstep hy
              go_wp2_with (go_at_call 54; go_must (refine HSTEP.out.mono ?_; rintro e w1 ⟨rfl, hb1⟩))
              go_roundw
              case rel => exact ⟨j + 1, hlt, val_int (by rw [hszs]; omega), val_int (by omega), by rw [hszs]; omega, by rw [hhs]; omega, hbel.trans (hb1.mono (by have := hbel.size; simp at this; omega))⟩
              case measure => simp [intOf]; omega
            · have hy := fit_no hfit
              rw [hy.1, hy.2] at hstep
              have HSTEP := hid hstep
              have HF := hid (HNO.out (by omega))
              clear hstep hy
              go_wp2_with (go_at_call 54; go_must (refine HSTEP.out.mono ?_; rintro e w1 ⟨rfl, hb1⟩))
              go_ret2
              exact ⟨ret_bi (by rw [HF.out.1]; rfl) HF.out.2.symm, hbw.trans (hb1.mono hbw.size)⟩
          · have hjV : j = V.length := by omega
            subst hjV
            rw [List.take_length] at hjs2 hjh2 ⊢
            have HF := hid (HYES.out (by omega) (by omega))
            go_wp2_with fail
            go_ret2
            exact ⟨ret_bi (by rw [HF.out.1]; rfl) (by rw [HF.out.2]; omega), hbw⟩
set_option maxRecDepth 100000 in
set_option maxHeartbeats 1000000 in
theorem heavy_any (T : VT) (x y : Value) (c d : Int) (w : World) (hT : HV w T x y) (hd : -1000000 ≤ d ∧ d ≤ 1000000) (hc : -1000000 ≤ c ∧ c ≤ 1000000) :
    Calls Tryz.prog 18 #[vv T x y, .int .i64 c, .int .i64 d] w fun e w' => e = .returned (.bool (!fitB T d c)) ∧ Below w.heap.size w w' := by
  have hal : Below w.heap.size w (w.alloc (.cells #[.int .i64 T.kd, .int .i64 T.nm, .string T.st, x, y] 27)) := (Below.refl _ _).alloc (Nat.le_refl _) _
  have HS := hid (steep_any _ T x y d c _ (Nat.le_refl _) (hT.onto hal) hd hc)
  simp only [vv] at HS ⊢
  go_enter Tryz.func18, Tryz.ntmps18
  go_wp2_with (go_at_call 54; go_must (refine HS.out.mono ?_; rintro e w1 ⟨rfl, hb1⟩))
  go_ret
  exact ⟨rfl, hal.trans (hb1.mono hal.size)⟩
end Go.Proofs.YtnpojefcibfgkaaGreatDoor
namespace Go.Proofs.YtnpojefcibfgkaaGreatDoor
open Go.RowKit

set_option maxRecDepth 100000 in
set_option maxHeartbeats 1000000 in
theorem deep_any : ∀ (N : Nat) (T : VT) (x y : Value) (w : World), szT T ≤ N → HV w T x y → szT T ≤ 1000000 →
    Calls Tryz.prog 25 #[vv T x y] w fun e w' => e = .returned (.int .i64 (hgT T)) ∧ Below w.heap.size w w' := by
  intro N
  induction N with
  | zero => intro T x y w h; have := szT_pos T; omega
  | succ N ih =>
  intro T x y w hN hT hm
  cases hT with
  | mk a b f g p q hk hn hs hL hM hK cL cK cM rL rM =>
  rename_i k n s L K V
  obtain ⟨oL, capL, rfl, hL1, hL2, hL3⟩ := hL
  obtain ⟨oM, capM, rfl, hM1, hM2, hM3⟩ := hM
  unfold maxLen at hL2 hM2
  have hsz : szT (.mk k n s L K V) = 1 + szL L + szL V := by simp only [szT]
  have hhg : hgT (.mk k n s L K V) = 1 + max (hgL L) (hgL V) := by simp only [hgT]
  have hz1 := hgL_sz L
  have hz2 := hgL_sz V
  rw [hsz] at hN hm
  rw [hhg]
  simp only [vv, VT.kd, VT.nm, VT.st]
  clear hsz hhg
  go_enter Tryz.func25, Tryz.ntmps25
  go_wp2_with fail
  go_loopw [3, 4] (fun u i wr => ∃ j : Nat, j ≤ L.length ∧ u = .int .i64 (hgL (L.take j) : Int) ∧ i = .int .i64 j ∧ Below (w.heap.size + 1) (w.alloc (.cells #[.int .i64 k, .int .i64 n, .string s, .slice oL L.length capL, .slice oM V.length capM] 27)) wr) (fun _ i _ => L.length - (intOf i).toNat)
  case atStart => exact ⟨0, Nat.zero_le _, rfl, rfl, Below.refl _ _⟩
  case round =>
    obtain ⟨j, hj, rfl, rfl, hbel⟩ := hrel
    have hbw : Below w.heap.size w wr := ((Below.refl _ _).alloc (Nat.le_refl _) _).trans (hbel.mono (by omega))
    have hB3 := box_cell w wr _ _ _ _ _ _ hbel 3 _ rfl
    have hB4 := box_cell w wr _ _ _ _ _ _ hbel 4 _ rfl
    by_cases hlt : j < L.length
    · obtain ⟨t, ht⟩ : ∃ t, L[j]? = some t := ⟨L[j], List.getElem?_eq_getElem hlt⟩
      obtain rfl := hL3 (by omega)
      obtain ⟨d0, d1, d2, d3, d4⟩ := (cL j t ht).onto hbw
      have hsg := szL_get L j t ht
      have hhs := hgL_take_succ L j t ht
      have hstep := ih t (f j) (g j) wr (by omega) ((rL j t ht).onto hbw) (by omega)
      simp only [vv] at hstep
      have HSTEP := hid hstep
      clear hstep
      by_cases hgt : (hgT t : Int) > hgL (L.take j)
      all_goals
        go_wp2_with (go_at_call 25; go_must (refine HSTEP.out.mono ?_; rintro e w1 ⟨rfl, hb1⟩))
        go_roundw
        case rel => exact ⟨j + 1, hlt, val_int (by rw [hhs]; omega), val_int (by omega), hbel.trans (hb1.mono (by have := hbel.size; simp at this; omega))⟩
        case measure => simp [intOf]; omega
    · have hjL : j = L.length := by omega
      subst hjL
      rw [List.take_length]
      go_wp2_with fail
      clear hB3 hB4
      go_loopw [3, 6] (fun u i wr => ∃ j : Nat, j ≤ V.length ∧ u = .int .i64 ((max (hgL L) (hgL (V.take j)) : Nat) : Int) ∧ i = .int .i64 j ∧ Below (w.heap.size + 1) (w.alloc (.cells #[.int .i64 k, .int .i64 n, .string s, .slice oL L.length capL, .slice oM V.length capM] 27)) wr) (fun _ i _ => V.length - (intOf i).toNat)
      case atStart => exact ⟨0, Nat.zero_le _, val_int (by simp [hgL]), rfl, hbel⟩
      case round =>
        clear hbw hbel hj hlt
        obtain ⟨j, hj, rfl, rfl, hbel⟩ := hrel
        have hbw : Below w.heap.size w wr := ((Below.refl _ _).alloc (Nat.le_refl _) _).trans (hbel.mono (by omega))
        have hB4 := box_cell w wr _ _ _ _ _ _ hbel 4 _ rfl
        have hht := hgL_take_le V j
        by_cases hlt : j < V.length
        · obtain ⟨t, ht⟩ : ∃ t, V[j]? = some t := ⟨V[j], List.getElem?_eq_getElem hlt⟩
          obtain rfl := hM3 (by omega)
          have hnode := (cM j t ht).onto hbw
          simp only [Node, nx] at hnode
          obtain ⟨d0, d1, d2, d3, d4⟩ := hnode
          have hsg := szL_get V j t ht
          have hhs := hgL_take_succ V j t ht
          have hstep := ih t (p j) (q j) wr (by omega) ((rM j t ht).onto hbw) (by omega)
          simp only [vv] at hstep
          have HSTEP := hid hstep
          clear hstep
          obtain ⟨m, hm'⟩ : ∃ m, max (hgL L) (hgL (V.take j)) = m := ⟨_, rfl⟩
          rw [hm']
          by_cases hgt : (hgT t : Int) > m
          all_goals
            go_wp2_with (go_at_call 25; go_must (refine HSTEP.out.mono ?_; rintro e w1 ⟨rfl, hb1⟩))
            go_roundw
            case rel => exact ⟨j + 1, hlt, val_int (by rw [hhs]; omega), val_int (by omega), hbel.trans (hb1.mono (by have := hbel.size; simp at this; omega))⟩
            case measure => simp [intOf]; omega
        · have hjV : j = V.length := by omega
          subst hjV
          rw [List.take_length]
          obtain ⟨m, hm'⟩ : ∃ m, max (hgL L) (hgL V) = m := ⟨_, rfl⟩
          rw [hm']
          have hmb : m ≤ 1000000 := by omega
          go_wp2_with fail
          go_ret
          exact ⟨ret_int (by omega), hbw⟩
end Go.Proofs.YtnpojefcibfgkaaGreatDoor
namespace Go.Proofs.YtnpojefcibfgkaaGreatDoor
open Go.RowKit

set_option maxRecDepth 100000 in
set_option maxHeartbeats 1000000 in
theorem get_any (T : VT) (x y : Value) (key : ByteArray) (w : World) (hT : HV w T x y) :
    Calls Tryz.prog 20 #[vv T x y, .string key] w fun e w' => ∃ R X Y, e = .returned (.tuple #[vv R X Y, .bool (getO T key).isSome]) ∧ R = (getO T key).getD zeroT ∧ HV w R X Y ∧ Below w.heap.size w w' := by
  cases hT with
  | mk a b f g p q hk hn hs hL hM hK cL cK cM rL rM =>
  rename_i k n s L K V
  change Calls _ _ #[.agg #[.int .i64 k, .int .i64 n, .string s, _, _], _] _ _
  obtain ⟨oL, capL, rfl, hL1, hL2, hL3⟩ := hL
  obtain ⟨oM, capM, rfl, hM1, hM2, hM3⟩ := hM
  unfold maxLen at hL2 hM2
  by_cases h6 : k = 6
  · subst h6
    have HG := hid (show getO (.mk 6 n s L K V) key = findK key K V by unfold getO; rfl)
    go_enter Tryz.func20, Tryz.ntmps20
    go_wp2_with fail
    go_loop [6] (fun i => ∃ j : Nat, i = .int .i64 j ∧ j ≤ V.length ∧ Hid (∀ (i : Nat) (c : ByteArray), i < j → K[i]? = some c → ¬ c.data.toList = key.data.toList)) (fun i => V.length - (intOf i).toNat)
    case atStart => exact ⟨0, rfl, Nat.zero_le _, hid (fun i c h => absurd h (Nat.not_lt_zero _))⟩
    case round =>
      obtain ⟨j, rfl, hj, HJ⟩ := hrel
      by_cases hlt : j < V.length
      · obtain ⟨t, ht⟩ : ∃ t, V[j]? = some t := ⟨V[j], List.getElem?_eq_getElem hlt⟩
        obtain ⟨c, hc⟩ : ∃ c, K[j]? = some c := ⟨K[j], List.getElem?_eq_getElem (by omega)⟩
        obtain rfl := hM3 (by omega)
        have hbw : ∀ o o', Below w.heap.size w ((w.alloc o).alloc o') := fun o o' => ((Below.refl _ _).alloc (Nat.le_refl _) _).alloc (by simp) _
        have hnode := fun o o' => (cM j t ht).onto (hbw o o')
        simp only [Node, nx] at hnode
        have d0 := fun o o' => (hnode o o').1
        have d1 := fun o o' => (hnode o o').2.1
        have d2 := fun o o' => (hnode o o').2.2.1
        have d3 := fun o o' => (hnode o o').2.2.2.1
        have d4 := fun o o' => (hnode o o').2.2.2.2
        have e0 := fun o o' => keepCell (hbw o o') (cK j c hc).1
        clear hnode
        by_cases he : c.data.toList = key.data.toList
        · have te := txt_is c key he
          have HF := hid (findK_some key K V j c t hc ht he HJ.out)
          have HR := hid (rM j t ht)
          obtain ⟨o1, n1, c1, o2, n2, c2, hp, hq⟩ := hv_slices (rM j t ht)
          rw [hp] at HR
          rw [hq] at HR
          simp only [hp] at d3
          simp only [hq] at d4
          clear he hp hq
          go_wp2_with fail
          refine bodyPost_ret (v := .tuple #[vv t (.slice o1 n1 c1) (.slice o2 n2 c2), .bool true]) (by simp [results, Tryz.results20, go_sem, vv]) rfl ⟨t, _, _, ?_, ?_, HR.out, ?_⟩
          · rw [HG.out, HF.out]; rfl
          · rw [HG.out, HF.out]; rfl
          · repeat (first | exact Below.refl _ _ | apply valloc_bel | (refine vset_bel ?_ (by simp)))
        · have te := txt_no c key he
          have HE := hid he
          clear he
          go_wp2_with fail
          go_round
          case rel => exact ⟨j + 1, val_int (by omega), hlt, hid (fun i c' hi hc' => by
            by_cases hij : i = j
            · subst hij; rw [hc] at hc'; cases hc'; exact HE.out
            · exact HJ.out i c' (by omega) hc')⟩
          case measure => simp [intOf]; omega
      · have HF := hid (findK_none key K V (fun i c hi => HJ.out i c (by have := (List.getElem?_eq_some_iff.1 hi).1; omega) hi))
        go_wp2_with fail
        refine bodyPost_ret (v := .tuple #[vv zeroT (.slice none 0 0) (.slice none 0 0), .bool false]) (by simp [results, Tryz.results20, go_sem, vv, zeroT, VT.kd, VT.nm, VT.st]) rfl ⟨zeroT, _, _, ?_, ?_, hv_zero w, ?_⟩
        · rw [HG.out, HF.out]; rfl
        · rw [HG.out, HF.out]; rfl
        · repeat (first | exact Below.refl _ _ | apply valloc_bel | (refine vset_bel ?_ (by simp)))
  · have HG := hid (show getO (.mk k n s L K V) key = none by unfold getO; rw [if_neg (by exact h6)])
    have t6 : (k == 6) = false := by simpa using h6
    clear h6
    go_enter Tryz.func20, Tryz.ntmps20
    go_wp2_with fail
    go_loop [6] (fun i => i = .int .i64 0) (fun i => 0)
    case atStart => rfl
    case round =>
      subst hrel
      by_cases hv : 0 < V.length
      · go_wp2_with fail
        refine bodyPost_ret (v := .tuple #[vv zeroT (.slice none 0 0) (.slice none 0 0), .bool false]) (by simp [results, Tryz.results20, go_sem, vv, zeroT, VT.kd, VT.nm, VT.st]) rfl ⟨zeroT, _, _, ?_, ?_, hv_zero w, ?_⟩
        · rw [HG.out]; rfl
        · rw [HG.out]; rfl
        · repeat (first | exact Below.refl _ _ | apply valloc_bel | (refine vset_bel ?_ (by simp)))
      · go_wp2_with fail
        refine bodyPost_ret (v := .tuple #[vv zeroT (.slice none 0 0) (.slice none 0 0), .bool false]) (by simp [results, Tryz.results20, go_sem, vv, zeroT, VT.kd, VT.nm, VT.st]) rfl ⟨zeroT, _, _, ?_, ?_, hv_zero w, ?_⟩
        · rw [HG.out]; rfl
        · rw [HG.out]; rfl
        · repeat (first | exact Below.refl _ _ | apply valloc_bel | (refine vset_bel ?_ (by simp)))
end Go.Proofs.YtnpojefcibfgkaaGreatDoor
namespace Go.Proofs.YtnpojefcibfgkaaGreatDoor
open Go.RowKit

set_option maxRecDepth 100000 in
set_option maxHeartbeats 2000000 in
theorem same_any : ∀ (N : Nat) (T U : VT) (x y x' y' : Value) (lo : Bool) (w : World), szT T ≤ N → HV w T x y → HV w U x' y' →
    Calls Tryz.prog 26 #[vv T x y, vv U x' y', .bool lo] w fun e w' => e = .returned (.bool (sameT lo T U)) ∧ Below w.heap.size w w' := by
  intro N
  induction N with
  | zero => intro T U x y x' y' lo w h; have := szT_pos T; omega
  | succ N ih =>
  intro T U x y x' y' lo w hN hT hU
  have HTL := hid (fun i t h => szT_ls T i t h)
  have HTV := hid (fun i t h => szT_vs T i t h)
  have HE := hid (sameT_eq lo T U)
  obtain ⟨a, b, f, g, p, q, oL, oM, capL, capM, rfl, rfl, hl1, hl2, hL3, hM3, hK, hs, -, -, cL, cK, cM, rL, rM, -, -⟩ := hT.parts
  obtain ⟨a', b', f', g', p', q', oL', oM', capL', capM', rfl, rfl, hl1', hl2', hL3', hM3', hK', hs', -, -, cL', cK', cM', rL', rM', -, -⟩ := hU.parts
  clear hT hU
  obtain ⟨k, hk⟩ : ∃ k, T.kd = k := ⟨_, rfl⟩
  obtain ⟨n, hn⟩ : ∃ n, T.nm = n := ⟨_, rfl⟩
  obtain ⟨s, hst⟩ : ∃ s, T.st = s := ⟨_, rfl⟩
  obtain ⟨k', hk'⟩ : ∃ k, U.kd = k := ⟨_, rfl⟩
  obtain ⟨n', hn'⟩ : ∃ n, U.nm = n := ⟨_, rfl⟩
  obtain ⟨s', hst'⟩ : ∃ s, U.st = s := ⟨_, rfl⟩
  obtain ⟨L, hL⟩ : ∃ L, T.ls = L := ⟨_, rfl⟩
  obtain ⟨V, hV⟩ : ∃ L, T.vs = L := ⟨_, rfl⟩
  obtain ⟨K, hKK⟩ : ∃ L, T.ks = L := ⟨_, rfl⟩
  obtain ⟨L', hL'⟩ : ∃ L, U.ls = L := ⟨_, rfl⟩
  obtain ⟨V', hV'⟩ : ∃ L, U.vs = L := ⟨_, rfl⟩
  obtain ⟨K', hKK'⟩ : ∃ L, U.ks = L := ⟨_, rfl⟩
  simp only [vv]
  rw [hk, hn, hst, hk', hn', hst', hL, hV, hKK, hL', hV', hKK'] at HE
  rw [hL] at hl1 hL3 cL rL HTL ⊢
  rw [hV] at hl2 hM3 hK cM rM HTV ⊢
  rw [hKK] at hK cK
  rw [hL'] at hl1' hL3' cL' rL' ⊢
  rw [hV'] at hl2' hM3' hK' cM' rM' ⊢
  rw [hKK'] at hK' cK'
  rw [hst] at hs
  rw [hst'] at hs'
  rw [hk, hn, hst, hk', hn', hst']
  generalize sameT lo T U = res at HE ⊢
  generalize szT T = zz at HTL HTV hN
  clear hk hn hst hk' hn' hst' hL hV hKK hL' hV' hKK'
  by_cases hlab : k = k' ∧ n = n' ∧ L.length = L'.length ∧ V.length = V'.length
  · obtain ⟨rfl, rfl, e3, e4⟩ := hlab
    have HR := hid (show res = (strB lo k s s' && sameL lo L L' && decide (K = K') && sameL lo V V') by
      rw [HE.out, decide_eq_true (show k = k ∧ n = n ∧ L.length = L'.length ∧ V.length = V'.length from ⟨rfl, rfl, e3, e4⟩)]; rfl)
    have t3 : ((L.length : Int) != (L'.length : Int)) = false := by rw [e3]; simp
    have t4 : ((V.length : Int) != (V'.length : Int)) = false := by rw [e4]; simp
    have E3 := hid e3
    have E4 := hid e4
    have hs9 : s.size ≤ maxLen := hs
    have hs9' : s'.size ≤ maxLen := hs'
    have HS := hid hs9
    have HS' := hid hs9'
    have hbase : Below w.heap.size w ((w.alloc (.cells #[.int .i64 k, .int .i64 n, .string s, .slice oL L.length capL, .slice oM V.length capM] 27)).alloc (.cells #[.int .i64 k, .int .i64 n, .string s', .slice oL' L'.length capL', .slice oM' V'.length capM'] 27)) := ((Below.refl _ _).alloc (Nat.le_refl _) _).alloc (by simp) _
    clear e3 e4 hs hs' hs9 hs9' HE
    go_enter Tryz.func26, Tryz.ntmps26
    go_upto_region 3 with fail
    go_cut [60] from 9 (fun v wx => v = .bool (!strB lo k s s') ∧ wx = ((w.alloc (.cells #[.int .i64 k, .int .i64 n, .string s, .slice oL L.length capL, .slice oM V.length capM] 27)).alloc (.cells #[.int .i64 k, .int .i64 n, .string s', .slice oL' L'.length capL', .slice oM' V'.length capM'] 27)))
    case first =>
      by_cases h1 : s = s'
      · have t1 : (s.toList == s'.toList) = true := by rw [h1]; simp
        have H := hid (show strB lo k s s' = true by unfold strB; rw [decide_eq_true h1]; rfl)
        clear h1
        go_wp2_with fail
        go_meet
        exact ⟨by rw [H.out]; rfl, rfl⟩
      · have t1 := str_ne s s' h1
        cases lo with
        | false =>
          have H := hid (show strB false k s s' = false by unfold strB; rw [decide_eq_false h1]; rfl)
          clear h1
          go_wp2_with fail
          go_meet
          exact ⟨by rw [H.out]; rfl, rfl⟩
        | true =>
          by_cases h3 : k = 3
          · have t2 : (k == 3) = true := by rw [h3]; rfl
            obtain ⟨z, hz⟩ : ∃ z, cmpI s.data.toList s'.data.toList = z := ⟨_, rfl⟩
            have HZ := hid hz
            by_cases h4 : z = 0
            · have t5 : (z == 0) = true := by rw [h4]; rfl
              have H := hid (show strB true k s s' = true by unfold strB; rw [decide_eq_false h1, decide_eq_true h3, hz, decide_eq_true h4]; rfl)
              clear h1 h3 h4 hz
              go_wp2_with (go_at_call 57; go_must (refine (cmp_any _ _ _ HS.out HS'.out).mono ?_; rintro e w' ⟨rfl, hw⟩; obtain rfl := hw.symm; rw [HZ.out]))
              go_meet
              exact ⟨by rw [H.out]; rfl, rfl⟩
            · have t5 : (z == 0) = false := by simpa using h4
              have H := hid (show strB true k s s' = false by unfold strB; rw [decide_eq_false h1, decide_eq_true h3, hz, decide_eq_false h4]; rfl)
              clear h1 h3 h4 hz
              go_wp2_with (go_at_call 57; go_must (refine (cmp_any _ _ _ HS.out HS'.out).mono ?_; rintro e w' ⟨rfl, hw⟩; obtain rfl := hw.symm; rw [HZ.out]))
              go_meet
              exact ⟨by rw [H.out]; rfl, rfl⟩
          · have t2 : (k == 3) = false := by simpa using h3
            have H := hid (show strB true k s s' = false by unfold strB; rw [decide_eq_false h1, decide_eq_false h3]; rfl)
            clear h1 h3
            go_wp2_with fail
            go_meet
            exact ⟨by rw [H.out]; rfl, rfl⟩
    case rest =>
    obtain ⟨rfl, rfl⟩ := hcut
    cases hstr : strB lo k s s' with
    | false =>
      have HF := hid (show res = false by rw [HR.out, hstr]; rfl)
      go_wp2_with fail
      go_ret
      exact ⟨ret_bool HF.out.symm, hbase⟩
    | true =>
    go_wp2_with fail
    go_loopw [7] (fun i wr => ∃ j : Nat, j ≤ L.length ∧ i = .int .i64 j ∧ Hid (∀ (i : Nat) (t u : VT), i < j → L[i]? = some t → L'[i]? = some u → sameT lo t u = true) ∧ Below (w.heap.size + 2) ((w.alloc (.cells #[.int .i64 k, .int .i64 n, .string s, .slice oL L.length capL, .slice oM V.length capM] 27)).alloc (.cells #[.int .i64 k, .int .i64 n, .string s', .slice oL' L'.length capL', .slice oM' V'.length capM'] 27)) wr) (fun i _ => L.length - (intOf i).toNat)
    case atStart => exact ⟨0, Nat.zero_le _, rfl, fun i t u h => absurd h (by omega), Below.refl _ _⟩
    case round =>
      obtain ⟨j, hj, rfl, HJ, hbel⟩ := hrel
      have hbw : Below w.heap.size w wr := hbase.trans (hbel.mono (by omega))
      have hB3 := box2_cell w wr _ _ _ _ _ _ _ hbel 3 _ rfl
      have hB4 := box2_cell w wr _ _ _ _ _ _ _ hbel 4 _ rfl
      by_cases hlt : j < L.length
      · obtain ⟨t, ht⟩ : ∃ t, L[j]? = some t := ⟨L[j], List.getElem?_eq_getElem hlt⟩
        have hlt' : j < L'.length := by have := E3.out; omega
        obtain ⟨u, hu⟩ : ∃ t, L'[j]? = some t := ⟨L'[j], List.getElem?_eq_getElem hlt'⟩
        obtain rfl := hL3 (by omega)
        obtain rfl := hL3' (by omega)
        have hC3 := box2_next w wr _ _ _ _ _ _ _ hbel 3 _ rfl
        have A1 := above_cell hB3
        have A2 := above_cell hC3
        obtain ⟨d0, d1, d2, d3, d4⟩ := (cL j t ht).onto hbw
        obtain ⟨e0, e1, e2, e3, e4⟩ := (cL' j u hu).onto hbw
        have D0 := above_cell d0; have D1 := above_cell d1; have D2 := above_cell d2; have D3 := above_cell d3; have D4 := above_cell d4
        have F0 := above_cell e0; have F1 := above_cell e1; have F2 := above_cell e2; have F3 := above_cell e3; have F4 := above_cell e4
        have HT' := hid ((rL j t ht).onto hbw)
        have HU' := hid ((rL' j u hu).onto hbw)
        have hzt := HTL.out j t ht
        have HSTEP := hid (fun X : Abv wr => ih t u (f j) (g j) (f' j) (g' j) lo X.u (by omega) (HT'.out.onto X.h) (HU'.out.onto X.h))
        simp only [vv] at HSTEP
        cases hq : sameT lo t u with
        | true =>
          rw [hq] at HSTEP
          go_wp2_with fail
          have hinh := abv_some wr
          refine wp_region_above (by kernel_rfl) (by kernel_rfl) ?_
          repeat (go_big_quiet_step ((go_at_call 26; exact above_of (HSTEP.out _))))
          refine wpQuiet_nil ?_
          intro _ hw'
          obtain ⟨X, hX⟩ := hw'
          subst hX
          go_wp2_with fail
          refine ⟨?_, ?_⟩
          · repeat apply Exists.intro
            exact ⟨⟨j + 1, hlt, val_int (by omega), fun i t' u' hi h1 h2 => by
              by_cases hij : i = j
              · subst hij
                rw [ht] at h1; rw [hu] at h2; cases h1; cases h2; exact hq
              · exact HJ.out i t' u' (by omega) h1 h2, hbel.trans (X.h.mono (by have := hbel.size; simp at this; omega))⟩, rfl⟩
          · simp [intOf]; omega
        | false =>
          rw [hq] at HSTEP
          have HF := hid (show res = false by
            rw [HR.out]
            have : sameL lo L L' = false := by
              rw [Bool.eq_false_iff]; intro hc
              have := (sameL_get lo L L' E3.out).1 hc j t u ht hu
              rw [hq] at this; cases this
            rw [this]; simp)
          go_wp2_with fail
          have hinh := abv_some wr
          refine wp_region_above (by kernel_rfl) (by kernel_rfl) ?_
          repeat (go_big_quiet_step ((go_at_call 26; exact above_of (HSTEP.out _))))
          refine wpQuiet_nil ?_
          intro _ hw'
          obtain ⟨X, hX⟩ := hw'
          subst hX
          go_wp2_with fail
          go_ret
          exact ⟨ret_bool HF.out.symm, hbw.trans (X.h.mono hbw.size)⟩
      · have HLL := hid (show sameL lo L L' = true from (sameL_get lo L L' E3.out).2 fun i t u h1 h2 => HJ.out i t u (by
          have : i < L.length := by
            apply Classical.byContradiction; intro hc
            rw [List.getElem?_eq_none (by omega)] at h1; cases h1
          omega) h1 h2)
        clear HJ
        go_wp2_with fail
        clear hB3 hB4
        go_loopw [8] (fun i wr => ∃ j : Nat, j ≤ V.length ∧ i = .int .i64 j ∧ Hid (∀ (i : Nat), i < j → K[i]? = K'[i]? ∧ ∀ (t u : VT), V[i]? = some t → V'[i]? = some u → sameT lo t u = true) ∧ Below (w.heap.size + 2) ((w.alloc (.cells #[.int .i64 k, .int .i64 n, .string s, .slice oL L.length capL, .slice oM V.length capM] 27)).alloc (.cells #[.int .i64 k, .int .i64 n, .string s', .slice oL' L'.length capL', .slice oM' V'.length capM'] 27)) wr) (fun i _ => V.length - (intOf i).toNat)
        case atStart => exact ⟨0, Nat.zero_le _, rfl, fun i h => absurd h (by omega), hbel⟩
        case round =>
          clear hbw hbel hj hlt
          obtain ⟨j, hj, rfl, HJ, hbel⟩ := hrel
          have hbw : Below w.heap.size w wr := hbase.trans (hbel.mono (by omega))
          have hB4 := box2_cell w wr _ _ _ _ _ _ _ hbel 4 _ rfl
          by_cases hlt : j < V.length
          · obtain ⟨t, ht⟩ : ∃ t, V[j]? = some t := ⟨V[j], List.getElem?_eq_getElem hlt⟩
            have hlt' : j < V'.length := by have := E4.out; omega
            obtain ⟨u, hu⟩ : ∃ t, V'[j]? = some t := ⟨V'[j], List.getElem?_eq_getElem hlt'⟩
            obtain ⟨c, hc⟩ : ∃ t, K[j]? = some t := ⟨K[j]'(by omega), List.getElem?_eq_getElem (by omega)⟩
            obtain ⟨c', hc'⟩ : ∃ t, K'[j]? = some t := ⟨K'[j]'(by omega), List.getElem?_eq_getElem (by omega)⟩
            obtain rfl := hM3 (by omega)
            obtain rfl := hM3' (by omega)
            have hC4 := box2_next w wr _ _ _ _ _ _ _ hbel 4 _ rfl
            have A1 := above_cell hB4
            have A2 := above_cell hC4
            have k0 := above_cell (keepCell hbw (cK j c hc).1)
            have k1 := above_cell (keepCell hbw (cK' j c' hc').1)
            have hnode := (cM j t ht).onto hbw
            have hnode' := (cM' j u hu).onto hbw
            simp only [Node, nx] at hnode hnode'
            obtain ⟨d0, d1, d2, d3, d4⟩ := hnode
            obtain ⟨e0, e1, e2, e3, e4⟩ := hnode'
            have D0 := above_cell d0; have D1 := above_cell d1; have D2 := above_cell d2; have D3 := above_cell d3; have D4 := above_cell d4
            have F0 := above_cell e0; have F1 := above_cell e1; have F2 := above_cell e2; have F3 := above_cell e3; have F4 := above_cell e4
            by_cases hcc : c = c'
            · have tc : (c.toList == c'.toList) = true := by rw [hcc]; simp
              have HT' := hid ((rM j t ht).onto hbw)
              have HU' := hid ((rM' j u hu).onto hbw)
              have hzt := HTV.out j t ht
              have HSTEP := hid (fun X : Abv wr => ih t u (p j) (q j) (p' j) (q' j) lo X.u (by omega) (HT'.out.onto X.h) (HU'.out.onto X.h))
              simp only [vv] at HSTEP
              have HCC := hid hcc
              clear hcc
              cases hq : sameT lo t u with
              | true =>
                rw [hq] at HSTEP
                go_wp2_with fail
                have hinh := abv_some wr
                refine wp_region_above (by kernel_rfl) (by kernel_rfl) ?_
                repeat (go_big_quiet_step ((go_at_call 26; exact above_of (HSTEP.out _))))
                refine wpQuiet_nil ?_
                intro _ hw'
                obtain ⟨X, hX⟩ := hw'
                subst hX
                go_wp2_with fail
                refine ⟨?_, ?_⟩
                · repeat apply Exists.intro
                  exact ⟨⟨j + 1, hlt, val_int (by omega), fun i hi => by
                    by_cases hij : i = j
                    · subst hij
                      refine ⟨by rw [hc, hc', HCC.out], fun t' u' h1 h2 => ?_⟩
                      rw [ht] at h1; rw [hu] at h2; cases h1; cases h2; exact hq
                    · exact HJ.out i (by omega), hbel.trans (X.h.mono (by have := hbel.size; simp at this; omega))⟩, rfl⟩
                · simp [intOf]; omega
              | false =>
                rw [hq] at HSTEP
                have HF := hid (show res = false by
                  rw [HR.out]
                  have : sameL lo V V' = false := by
                    rw [Bool.eq_false_iff]; intro hc
                    have := (sameL_get lo V V' E4.out).1 hc j t u ht hu
                    rw [hq] at this; cases this
                  rw [this]; simp)
                go_wp2_with fail
                have hinh := abv_some wr
                refine wp_region_above (by kernel_rfl) (by kernel_rfl) ?_
                repeat (go_big_quiet_step ((go_at_call 26; exact above_of (HSTEP.out _))))
                refine wpQuiet_nil ?_
                intro _ hw'
                obtain ⟨X, hX⟩ := hw'
                subst hX
                go_wp2_with fail
                go_ret
                exact ⟨ret_bool HF.out.symm, hbw.trans (X.h.mono hbw.size)⟩
            · have tc := str_ne c c' hcc
              have HF := hid (show res = false by
                rw [HR.out]
                have : decide (K = K') = false := by
                  rw [decide_eq_false_iff_not]; intro hKe
                  rw [hKe, hc'] at hc; cases hc; exact hcc rfl
                rw [this]; simp)
              clear hcc
              go_wp2_with fail
              have hinh := abv_some wr
              refine wp_region_above (by kernel_rfl) (by kernel_rfl) ?_
              repeat (go_big_quiet_step (fail))
              refine wpQuiet_nil ?_
              intro _ hw'
              obtain ⟨X, hX⟩ := hw'
              subst hX
              go_wp2_with fail
              go_ret
              exact ⟨ret_bool HF.out.symm, hbw.trans (X.h.mono hbw.size)⟩
          · have HF := hid (show res = true by
              rw [HR.out, hstr, HLL.out]
              have h1 : sameL lo V V' = true := (sameL_get lo V V' E4.out).2 fun i t u g1 g2 => (HJ.out i (by
                have : i < V.length := by
                  apply Classical.byContradiction; intro hc
                  rw [List.getElem?_eq_none (by omega)] at g1; cases g1
                omega)).2 t u g1 g2
              have h2 : K = K' := by
                apply List.ext_getElem?
                intro i
                by_cases hi : i < j
                · exact (HJ.out i hi).1
                · have := E4.out
                  rw [List.getElem?_eq_none (by omega), List.getElem?_eq_none (by omega)]
              rw [h1, decide_eq_true h2]; rfl)
            clear HJ
            go_wp2_with fail
            go_ret
            exact ⟨ret_bool HF.out.symm, hbw⟩
  · have HF := hid (show res = false by rw [HE.out, decide_eq_false hlab]; rfl)
    by_cases h1 : k = k'
    · have t1 : (k != k') = false := by simpa using h1
      by_cases h2 : n = n'
      · have t2 : (n != n') = false := by simpa using h2
        by_cases h3 : L.length = L'.length
        · have t3 : ((L.length : Int) != (L'.length : Int)) = false := by rw [h3]; simp
          have t4 : ((V.length : Int) != (V'.length : Int)) = true := by
            rw [bne_iff_ne]; intro hc; exact hlab ⟨h1, h2, h3, by omega⟩
          clear hlab h1 h2 h3
          go_enter Tryz.func26, Tryz.ntmps26
          go_wp2_with fail
          go_ret
          exact ⟨ret_bool HF.out.symm, ((Below.refl _ _).alloc (Nat.le_refl _) _).alloc (by simp) _⟩
        · have t3 : ((L.length : Int) != (L'.length : Int)) = true := by rw [bne_iff_ne]; omega
          clear hlab h1 h2 h3
          go_enter Tryz.func26, Tryz.ntmps26
          go_wp2_with fail
          go_ret
          exact ⟨ret_bool HF.out.symm, ((Below.refl _ _).alloc (Nat.le_refl _) _).alloc (by simp) _⟩
      · have t2 : (n != n') = true := by simpa using h2
        clear hlab h1 h2
        go_enter Tryz.func26, Tryz.ntmps26
        go_wp2_with fail
        go_ret
        exact ⟨ret_bool HF.out.symm, ((Below.refl _ _).alloc (Nat.le_refl _) _).alloc (by simp) _⟩
    · have t1 : (k != k') = true := by simpa using h1
      clear hlab h1
      go_enter Tryz.func26, Tryz.ntmps26
      go_wp2_with fail
      go_ret
      exact ⟨ret_bool HF.out.symm, ((Below.refl _ _).alloc (Nat.le_refl _) _).alloc (by simp) _⟩
end Go.Proofs.YtnpojefcibfgkaaGreatDoor
namespace Go.Proofs.YtnpojefcibfgkaaGreatDoor
open Go.RowKit Go.WideShapes

set_option maxRecDepth 100000 in
theorem open_tree {H : Type} {enc : TypeId × Value → H} {w W : World} {base b : Nat} {r : Reach} {spare : Nat → Bool} {held : Bool} {v : Value} {d : DataW H} {ps : List MemPlace}
    (hv : Value.okWide Tryz.prog W r b 27 v) (h : DataW.Trod enc Tryz.prog w base spare held 27 v d ps) : ∃ (T : VT) (x y : Value), v = vv T x y ∧ HV w T x y := by
  obtain ⟨cs, rfl, -⟩ := okWide_struct Tryz.underlying27 hv
  obtain ⟨fuel, hf⟩ := h
  obtain ⟨T, x, y, hc, hT⟩ := tree_of fuel _ _ hf
  refine ⟨T, x, y, ?_, hT⟩
  have : cs.toList = [.int .i64 T.kd, .int .i64 T.nm, .string T.st, x, y] := by simpa [Value.cells] using hc
  unfold vv
  congr 1
  apply Array.ext'
  rw [this]
end Go.Proofs.YtnpojefcibfgkaaGreatDoor
namespace Go.Proofs.YtnpojefcibfgkaaGreatDoor
open Go.RowKit

set_option maxRecDepth 100000 in
set_option maxHeartbeats 400000 in
theorem str_any (s : ByteArray) (w : World) (hs : s.size ≤ maxLen) :
    Calls Tryz.prog 33 #[.string s] w fun e w' => e = .returned (.bool (strOkB s)) ∧ Below w.heap.size w w' := by
  have HS := hid hs
  unfold maxLen at hs
  by_cases h4 : s.size ≤ 4096
  · have H := hid (show strOkB s = decide (rvI s.data.toList < 0) by unfold strOkB; rw [decide_eq_true h4]; rfl)
    go_enter Tryz.func33, Tryz.ntmps33
    go_wp2_with (go_at_call 29; go_must (refine (rvalid_any _ _ HS.out).mono ?_; rintro e w1 ⟨rfl, hb1⟩))
    go_ret
    exact ⟨ret_bool H.out.symm, hb1⟩
  · have H := hid (show strOkB s = false by unfold strOkB; rw [decide_eq_false h4]; rfl)
    go_enter Tryz.func33, Tryz.ntmps33
    go_wp2_with fail
    go_ret
    exact ⟨ret_bool H.out.symm, Below.refl _ _⟩
set_option maxRecDepth 100000 in
set_option maxHeartbeats 400000 in
theorem stamp_any (s : ByteArray) (w : World) (hs : s.size ≤ maxLen) :
    Calls Tryz.prog 30 #[.string s] w fun e w' => e = .returned (.bool (stampB s)) ∧ w' = w := by
  unfold maxLen at hs
  have HZ := hid (size_list s)
  by_cases h1 : s.size < 1
  · have H := hid (show stampB s = false by unfold stampB; rw [decide_eq_false (by omega)]; rfl)
    go_enter Tryz.func30, Tryz.ntmps30
    go_wp2_with fail
    go_ret
    exact ⟨ret_bool H.out.symm, rfl⟩
  · by_cases h2 : s.size > 64
    · have H := hid (show stampB s = false by unfold stampB; rw [decide_eq_false (show ¬ s.size ≤ 64 by omega)]; simp)
      go_enter Tryz.func30, Tryz.ntmps30
      go_wp2_with fail
      go_ret
      exact ⟨ret_bool H.out.symm, rfl⟩
    · have H := hid (show stampB s = s.data.toList.all (fun b => decide (32 ≤ b.toNat) && decide (b.toNat ≤ 126)) by
        unfold stampB; rw [decide_eq_true (show 1 ≤ s.size by omega), decide_eq_true (show s.size ≤ 64 by omega)]; rfl)
      go_enter Tryz.func30, Tryz.ntmps30
      go_wp2_with fail
      go_loop [3] (fun i => ∃ j : Nat, j ≤ s.size ∧ i = .int .i64 j ∧ Hid (∀ k (h : k < s.size), k < j → 32 ≤ s[k].toNat ∧ s[k].toNat ≤ 126)) (fun i => s.size - (intOf i).toNat)
      case atStart => exact ⟨0, Nat.zero_le _, rfl, fun k h hk => absurd hk (by omega)⟩
      case round =>
        obtain ⟨j, hj, rfl, HJ⟩ := hrel
        by_cases hlt : j < s.size
        · have HG := hid (getD_at s j hlt)
          by_cases h3 : s[j].toNat < 32
          · have HF := hid (show stampB s = false by
              rw [H.out, Bool.eq_false_iff]; intro hc
              have := List.all_eq_true.1 hc s[j] (by rw [← HG.out, List.getD, List.getElem?_eq_getElem (by rw [HZ.out]; exact hlt)]; exact List.getElem_mem _)
              simp at this; omega)
            go_wp2_with fail
            go_ret
            exact ⟨ret_bool HF.out.symm, rfl⟩
          · by_cases h4 : s[j].toNat > 126
            · have HF := hid (show stampB s = false by
                rw [H.out, Bool.eq_false_iff]; intro hc
                have := List.all_eq_true.1 hc s[j] (by rw [← HG.out, List.getD, List.getElem?_eq_getElem (by rw [HZ.out]; exact hlt)]; exact List.getElem_mem _)
                simp at this; omega)
              go_wp2_with fail
              go_ret
              exact ⟨ret_bool HF.out.symm, rfl⟩
            · go_wp2_with fail
              go_round
              case rel => exact ⟨j + 1, hlt, val_int (by omega), fun k h hk => by
                by_cases e : k = j
                · subst e; exact ⟨by omega, by omega⟩
                · exact HJ.out k h (by omega)⟩
              case measure => simp [intOf]; omega
        · have HF := hid (show stampB s = true by
            rw [H.out]; refine List.all_eq_true.2 fun b hb => ?_
            obtain ⟨k, hk, rfl⟩ := List.getElem_of_mem hb
            have hk' : k < s.size := by rw [← HZ.out]; exact hk
            have := HJ.out k hk' (by omega)
            simp; exact this)
          go_wp2_with fail
          go_ret
          exact ⟨ret_bool HF.out.symm, rfl⟩
end Go.Proofs.YtnpojefcibfgkaaGreatDoor
