/- The document's own reckoning of trees, walked: steep, Heavy, Deep. -/
import Derived.Test.YteimbjamnfkapaaGreatDoorCVBase
import Derived.Deep.LoopGhost
namespace Go.Proofs.YteimbjamnfkapaaGreatDoor
open Go.RowKit
def fitB (T : VT) (deep nodes : Int) : Bool := decide ((hgT T : Int) ≤ deep ∧ (szT T : Int) ≤ nodes)
def fitN (T : VT) (deep nodes : Int) : Int := if (hgT T : Int) ≤ deep ∧ (szT T : Int) ≤ nodes then nodes - szT T else 0
theorem fit_yes {T : VT} {d n : Int} (h1 : (hgT T : Int) ≤ d) (h2 : (szT T : Int) ≤ n) : fitB T d n = true ∧ fitN T d n = n - szT T := by
 unfold fitB fitN; rw [if_pos ⟨h1, h2⟩]; exact ⟨by simp; omega, rfl⟩
theorem fit_no {T : VT} {d n : Int} (h : ¬ ((hgT T : Int) ≤ d ∧ (szT T : Int) ≤ n)) : fitB T d n = false ∧ fitN T d n = 0 := by
 unfold fitB fitN; rw [if_neg h]; exact ⟨by simp; omega, rfl⟩
theorem ret_bi {a b : Bool} {c d : Int} (h : a = b) (g : c = d) : Ending.returned (.tuple #[.bool a, .int .i64 c]) = .returned (.tuple #[.bool b, .int .i64 d]) := by rw [h, g]
set_option maxRecDepth 100000 in
set_option maxHeartbeats 1000000 in
theorem steep_any : ∀ (N : Nat) (T : VT) (x y : Value) (d c : Int) (w : World), szT T ≤ N → HV w T x y → -1000000 ≤ d ∧ d ≤ 1000000 → -1000000 ≤ c ∧ c ≤ 1000000 →
  Calls Tryz.prog 48 #[vv T x y, .int .i64 d, .int .i64 c] w fun e w' => e = .returned (.tuple #[.bool (!fitB T d c), .int .i64 (fitN T d c)]) ∧ Below w.heap.size w w' := by
 intro N
 induction N with
 | zero => intro T x y d c w h; have := szT_pos T; omega
 | succ N ih =>
 intro T x y d c w hN hT hd hc
 have hp1 := hgT_pos T
 have hp2 := szT_pos T
 cases hT with
 | mk a b f g p q hk hn hs hL hM hK cL cK cM rL rM =>
 rename_i k n s L K V
 obtain ⟨oL, capL, rfl, hL1, hL2, hL3⟩ := hL
 obtain ⟨oM, capM, rfl, hM1, hM2, hM3⟩ := hM
 unfold maxLen at hL2 hM2
 have hsz : szT (.mk k n s L K V) = 1 + szL L + szL V := by simp only [szT]
 have hhg : hgT (.mk k n s L K V) = 1 + max (hgL L) (hgL V) := by simp only [hgT]
 by_cases hout : d < 1 ∨ c < 1
 ·have HF := hid (fit_no (T := .mk k n s L K V) (d := d) (n := c) (by omega))
  have hout' : d < 1 ∨ (¬ d < 1 ∧ c < 1) := by omega
  clear hout
  simp only [vv, VT.kd, VT.nm, VT.st]
  rcases hout' with h | ⟨h, h'⟩
  all_goals
   go_enter Tryz.func48, Tryz.ntmps48
   go_wp2_with fail
   go_ret2
   exact ⟨ret_bi (by rw [HF.out.1]; rfl) HF.out.2.symm, (Below.refl _ _).alloc (Nat.le_refl _) _⟩
 ·have hd1 : ¬ d < 1 := by omega
  have hc1 : ¬ c < 1 := by omega
  clear hout
  have HNO := hid (fun h => fit_no (T := .mk k n s L K V) (d := d) (n := c) h)
  have HYES := hid (fun h1 h2 => fit_yes (T := .mk k n s L K V) (d := d) (n := c) h1 h2)
  rw [hsz, hhg] at HNO HYES
  rw [hsz] at hN
  simp only [vv, VT.kd, VT.nm, VT.st]
  clear hp1 hp2 hsz hhg
  go_enter Tryz.func48, Tryz.ntmps48
  go_wp2_with fail
  go_loopw [2, 8] (fun u i wr => ∃ j : Nat, j ≤ L.length ∧ u = .int .i64 (c - 1 - (szL (L.take j) : Int)) ∧ i = .int .i64 j ∧ (szL (L.take j) : Int) ≤ c - 1 ∧ (hgL (L.take j) : Int) ≤ d - 1 ∧ Below (w.heap.size + 1) (w.alloc (.cells #[.int .i64 k, .int .i64 n, .string s, .slice oL L.length capL, .slice oM V.length capM] 29)) wr) (fun _ i _ => L.length - (intOf i).toNat)
  case atStart => exact ⟨0, Nat.zero_le _, val_int (by simp [szL]), rfl, by simp [szL]; omega, by simp [hgL]; omega, Below.refl _ _⟩
  case round =>
   obtain ⟨j, hj, rfl, rfl, hjs, hjh, hbel⟩ := hrel
   have hbw : Below w.heap.size w wr := ((Below.refl _ _).alloc (Nat.le_refl _) _).trans (hbel.mono (by omega))
   have hB3 := box_cell w wr _ _ _ _ _ _ hbel 3 _ rfl
   have hB4 := box_cell w wr _ _ _ _ _ _ hbel 4 _ rfl
   have hsl := szL_take_le L j
   by_cases hlt : j < L.length
   ·obtain ⟨t, ht⟩ : ∃ t, L[j]? = some t := ⟨L[j], List.getElem?_eq_getElem hlt⟩
    obtain rfl := hL3 (by omega)
    obtain ⟨d0, d1, d2, d3, d4⟩ := (cL j t ht).onto hbw
    have hszs := szL_take_succ L j t ht
    have hsl1 := szL_take_le L (j + 1)
    have hhs := hgL_take_succ L j t ht
    have hhl := hgL_take_le L (j + 1)
    have hstep := ih t (f j) (g j) (d - 1) (c - 1 - (szL (L.take j) : Int)) wr (by omega) ((rL j t ht).onto hbw) (by omega) (by omega)
    simp only [vv] at hstep
    by_cases hfit : (hgT t : Int) ≤ d - 1 ∧ (szT t : Int) ≤ c - 1 - (szL (L.take j) : Int)
    ·have hy := fit_yes hfit.1 hfit.2
     rw [hy.1, hy.2] at hstep
     have HSTEP := hid hstep
     clear hstep hy
     go_wp2_with (go_at_call 48; go_must (refine HSTEP.out.mono ?_; rintro e w1 ⟨rfl, hb1⟩))
     go_roundw
     case rel => exact ⟨j + 1, hlt, val_int (by rw [hszs]; omega), val_int (by omega), by rw [hszs]; omega, by rw [hhs]; omega, hbel.trans (hb1.mono (by have := hbel.size; simp at this; omega))⟩
     case measure => simp [intOf]; omega
    ·have hy := fit_no hfit
     rw [hy.1, hy.2] at hstep
     have HSTEP := hid hstep
     have HF := hid (HNO.out (by omega))
     clear hstep hy
     go_wp2_with (go_at_call 48; go_must (refine HSTEP.out.mono ?_; rintro e w1 ⟨rfl, hb1⟩))
     go_ret2
     exact ⟨ret_bi (by rw [HF.out.1]; rfl) HF.out.2.symm, hbw.trans (hb1.mono hbw.size)⟩
   ·have hjL : j = L.length := by omega
    subst hjL
    rw [List.take_length] at hjs hjh ⊢
    go_wp2_with fail
    clear hB3 hB4 hsl
    go_loopw [2, 11] (fun u i wr => ∃ j : Nat, j ≤ V.length ∧ u = .int .i64 (c - 1 - (szL L : Int) - (szL (V.take j) : Int)) ∧ i = .int .i64 j ∧ (szL L : Int) + (szL (V.take j) : Int) ≤ c - 1 ∧ (hgL (V.take j) : Int) ≤ d - 1 ∧ Below (w.heap.size + 1) (w.alloc (.cells #[.int .i64 k, .int .i64 n, .string s, .slice oL L.length capL, .slice oM V.length capM] 29)) wr) (fun _ i _ => V.length - (intOf i).toNat)
    case atStart => exact ⟨0, Nat.zero_le _, val_int (by simp [szL]), rfl, by simp [szL]; omega, by simp [hgL]; omega, hbel⟩
    case round =>
     clear hbw hbel hj hlt
     obtain ⟨j, hj, rfl, rfl, hjs2, hjh2, hbel⟩ := hrel
     have hbw : Below w.heap.size w wr := ((Below.refl _ _).alloc (Nat.le_refl _) _).trans (hbel.mono (by omega))
     have hB4 := box_cell w wr _ _ _ _ _ _ hbel 4 _ rfl
     have hsl := szL_take_le V j
     by_cases hlt : j < V.length
     ·obtain ⟨t, ht⟩ : ∃ t, V[j]? = some t := ⟨V[j], List.getElem?_eq_getElem hlt⟩
      obtain rfl := hM3 (by omega)
      have hnode := (cM j t ht).onto hbw
      simp only [Node, nx] at hnode
      obtain ⟨d0, d1, d2, d3, d4⟩ := hnode
      have hszs := szL_take_succ V j t ht
      have hsl1 := szL_take_le V (j + 1)
      have hhs := hgL_take_succ V j t ht
      have hhl := hgL_take_le V (j + 1)
      have hstep := ih t (p j) (q j) (d - 1) (c - 1 - (szL L : Int) - (szL (V.take j) : Int)) wr (by omega) ((rM j t ht).onto hbw) (by omega) (by omega)
      simp only [vv] at hstep
      by_cases hfit : (hgT t : Int) ≤ d - 1 ∧ (szT t : Int) ≤ c - 1 - (szL L : Int) - (szL (V.take j) : Int)
      ·have hy := fit_yes hfit.1 hfit.2
       rw [hy.1, hy.2] at hstep
       have HSTEP := hid hstep
       clear hstep hy
       go_wp2_with (go_at_call 48; go_must (refine HSTEP.out.mono ?_; rintro e w1 ⟨rfl, hb1⟩))
       go_roundw
       case rel => exact ⟨j + 1, hlt, val_int (by rw [hszs]; omega), val_int (by omega), by rw [hszs]; omega, by rw [hhs]; omega, hbel.trans (hb1.mono (by have := hbel.size; simp at this; omega))⟩
       case measure => simp [intOf]; omega
      ·have hy := fit_no hfit
       rw [hy.1, hy.2] at hstep
       have HSTEP := hid hstep
       have HF := hid (HNO.out (by omega))
       clear hstep hy
       go_wp2_with (go_at_call 48; go_must (refine HSTEP.out.mono ?_; rintro e w1 ⟨rfl, hb1⟩))
       go_ret2
       exact ⟨ret_bi (by rw [HF.out.1]; rfl) HF.out.2.symm, hbw.trans (hb1.mono hbw.size)⟩
     ·have hjV : j = V.length := by omega
      subst hjV
      rw [List.take_length] at hjs2 hjh2 ⊢
      have HF := hid (HYES.out (by omega) (by omega))
      go_wp2_with fail
      go_ret2
      exact ⟨ret_bi (by rw [HF.out.1]; rfl) (by rw [HF.out.2]; omega), hbw⟩
set_option maxRecDepth 100000 in
set_option maxHeartbeats 1000000 in
theorem heavy_any (T : VT) (x y : Value) (c d : Int) (w : World) (hT : HV w T x y) (hd : -1000000 ≤ d ∧ d ≤ 1000000) (hc : -1000000 ≤ c ∧ c ≤ 1000000) :
  Calls Tryz.prog 18 #[vv T x y, .int .i64 c, .int .i64 d] w fun e w' => e = .returned (.bool (!fitB T d c)) ∧ Below w.heap.size w w' := by
 have hal : Below w.heap.size w (w.alloc (.cells #[.int .i64 T.kd, .int .i64 T.nm, .string T.st, x, y] 29)) := (Below.refl _ _).alloc (Nat.le_refl _) _
 have HS := hid (steep_any _ T x y d c _ (Nat.le_refl _) (hT.onto hal) hd hc)
 simp only [vv] at HS ⊢
 go_enter Tryz.func18, Tryz.ntmps18
 go_wp2_with (go_at_call 48; go_must (refine HS.out.mono ?_; rintro e w1 ⟨rfl, hb1⟩))
 go_ret
 exact ⟨rfl, hal.trans (hb1.mono hal.size)⟩
end Go.Proofs.YteimbjamnfkapaaGreatDoor
