/- The document's own reckoning of trees, walked: Size. -/
import Derived.Test.YtjffhjdjoankcaaGreatDoorVBase
import Derived.Deep.LoopGhost
namespace Go.Proofs.YtjffhjdjoankcaaGreatDoor
open Go.RowKit

set_option maxRecDepth 100000 in
set_option maxHeartbeats 1000000 in
theorem size_any : ∀ (N : Nat) (T : VT) (x y : Value) (most : Int) (w : World), szT T ≤ N → HV w T x y → (szT T : Int) ≤ most → most ≤ 1000000000 →
    Calls Tryz.prog 33 #[vv T x y, .int .i64 most] w fun e w' => e = .returned (.int .i64 (szT T)) ∧ Below w.heap.size w w' := by
  intro N
  induction N with
  | zero => intro T x y most w h; have := szT_pos T; omega
  | succ N ih =>
  intro T x y most w hN hT hm hm2
  cases hT with
  | mk a b f g p q hk hn hs hL hM hK cL cK cM rL rM =>
  rename_i k n s L K V
  simp only [vv, VT.kd, VT.nm, VT.st]
  obtain ⟨oL, capL, rfl, hL1, hL2, hL3⟩ := hL
  obtain ⟨oM, capM, rfl, hM1, hM2, hM3⟩ := hM
  unfold maxLen at hL2 hM2
  have hsz : szT (.mk k n s L K V) = 1 + szL L + szL V := by simp only [szT]
  rw [hsz] at hN hm ⊢
  go_enter Tryz.func33, Tryz.ntmps33
  go_wp2_with fail
  go_loopw [5, 6] (fun u i wr => ∃ j : Nat, j ≤ L.length ∧ u = .int .i64 (1 + (szL (L.take j) : Int)) ∧ i = .int .i64 j ∧ Below (w.heap.size + 1) (w.alloc (.cells #[.int .i64 k, .int .i64 n, .string s, .slice oL L.length capL, .slice oM V.length capM] 31)) wr) (fun _ i _ => L.length - (intOf i).toNat)
  case atStart => exact ⟨0, Nat.zero_le _, rfl, rfl, Below.refl _ _⟩
  case round =>
    obtain ⟨j, hj, rfl, rfl, hbel⟩ := hrel
    have hbw : Below w.heap.size w wr := ((Below.refl _ _).alloc (Nat.le_refl _) _).trans (hbel.mono (by omega))
    have hB3 := box_cell w wr _ _ _ _ _ _ hbel 3 _ rfl
    have hB4 := box_cell w wr _ _ _ _ _ _ hbel 4 _ rfl
    have hsl := szL_take_le L j
    by_cases hlt : j < L.length
    · obtain ⟨t, ht⟩ : ∃ t, L[j]? = some t := ⟨L[j], List.getElem?_eq_getElem hlt⟩
      obtain rfl := hL3 (by omega)
      obtain ⟨d0, d1, d2, d3, d4⟩ := (cL j t ht).onto hbw
      have hszs := szL_take_succ L j t ht
      have hsl1 := szL_take_le L (j + 1)
      have hstep := ih t (f j) (g j) (most - (1 + (szL (L.take j) : Int))) wr (by omega) ((rL j t ht).onto hbw) (by omega) (by omega)
      simp only [vv] at hstep
      have HSTEP := hid hstep
      have hst1 : 1 + (szL (L.take j) : Int) ≤ most := by omega
      have htz : (szT t : Int) ≤ 1000000000 := by omega
      clear hstep
      go_wp2_with (go_at_call 33; go_must (refine HSTEP.out.mono ?_; rintro e w1 ⟨rfl, hb1⟩))
      go_roundw
      case rel => exact ⟨j + 1, hlt, val_int (by rw [hszs]; omega), val_int (by omega), hbel.trans (hb1.mono (by have := hbel.size; simp at this; omega))⟩
      case measure => simp [intOf]; omega
    · have hjL : j = L.length := by omega
      subst hjL
      rw [List.take_length]
      go_wp2_with fail
      clear hB3 hB4 hsl
      go_loopw [5, 7] (fun u i wr => ∃ j : Nat, j ≤ V.length ∧ u = .int .i64 (1 + (szL L : Int) + (szL (V.take j) : Int)) ∧ i = .int .i64 j ∧ Below (w.heap.size + 1) (w.alloc (.cells #[.int .i64 k, .int .i64 n, .string s, .slice oL L.length capL, .slice oM V.length capM] 31)) wr) (fun _ i _ => V.length - (intOf i).toNat)
      case atStart => exact ⟨0, Nat.zero_le _, val_int (by simp [szL]), rfl, hbel⟩
      case round =>
        clear hbw hbel hj hlt
        obtain ⟨j, hj, rfl, rfl, hbel⟩ := hrel

        have hbw : Below w.heap.size w wr := ((Below.refl _ _).alloc (Nat.le_refl _) _).trans (hbel.mono (by omega))
        have hB4 := box_cell w wr _ _ _ _ _ _ hbel 4 _ rfl
        have hsl := szL_take_le V j
        by_cases hlt : j < V.length
        · obtain ⟨t, ht⟩ : ∃ t, V[j]? = some t := ⟨V[j], List.getElem?_eq_getElem hlt⟩
          obtain rfl := hM3 (by omega)
          have hnode := (cM j t ht).onto hbw
          simp only [Node, nx] at hnode
          obtain ⟨d0, d1, d2, d3, d4⟩ := hnode
          have hszs := szL_take_succ V j t ht
          have hsl1 := szL_take_le V (j + 1)
          have hstep := ih t (p j) (q j) (most - (1 + (szL L : Int) + (szL (V.take j) : Int))) wr (by omega) ((rM j t ht).onto hbw) (by omega) (by omega)
          simp only [vv] at hstep
          have HSTEP := hid hstep
          have hst1 : 1 + (szL L : Int) + (szL (V.take j) : Int) ≤ most := by omega
          have htz : (szT t : Int) ≤ 1000000000 := by omega
          clear hstep
          go_wp2_with (go_at_call 33; go_must (refine HSTEP.out.mono ?_; rintro e w1 ⟨rfl, hb1⟩))
          go_roundw
          case rel => exact ⟨j + 1, hlt, val_int (by rw [hszs]; omega), val_int (by omega), hbel.trans (hb1.mono (by have := hbel.size; simp at this; omega))⟩
          case measure => simp [intOf]; omega
        · have hjV : j = V.length := by omega
          subst hjV
          rw [List.take_length]
          go_wp2_with fail
          go_ret
          exact ⟨ret_int (by omega), hbw⟩
end Go.Proofs.YtjffhjdjoankcaaGreatDoor
