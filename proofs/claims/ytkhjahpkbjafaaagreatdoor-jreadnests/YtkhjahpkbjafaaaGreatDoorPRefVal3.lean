/- The document's own reckoning of trees, walked: Deep. -/
import Derived.Test.YtkhjahpkbjafaaaGreatDoorPRefVal2
namespace Go.Proofs.YtkhjahpkbjafaaaGreatDoor
open Go.RowKit

set_option maxRecDepth 100000 in
set_option maxHeartbeats 1000000 in
theorem deep_any : ∀ (N : Nat) (T : VT) (x y : Value) (w : World), szT T ≤ N → HV w T x y → szT T ≤ 1000000 →
    Calls Tryz.prog 16 #[vv T x y] w fun e w' => e = .returned (.int .i64 (hgT T)) ∧ Below w.heap.size w w' := by
  intro N
  induction N with
  | zero => intro T x y w h; have := szT_pos T; omega
  | succ N ih =>
  intro T x y w hN hT hm
  cases hT with
  | mk a b f g p q hk hn hs hL hM hK cL cK cM rL rM =>
  rename_i k n s L K V
  obtain ⟨oL, capL, rfl, hL1, hL2, hL3⟩ := hL
  obtain ⟨oM, capM, rfl, hM1, hM2, hM3⟩ := hM
  unfold maxLen at hL2 hM2
  have hsz : szT (.mk k n s L K V) = 1 + szL L + szL V := by simp only [szT]
  have hhg : hgT (.mk k n s L K V) = 1 + max (hgL L) (hgL V) := by simp only [hgT]
  have hz1 := hgL_sz L
  have hz2 := hgL_sz V
  rw [hsz] at hN hm
  rw [hhg]
  simp only [vv, VT.kd, VT.nm, VT.st]
  clear hsz hhg
  go_enter Tryz.func16, Tryz.ntmps16
  go_wp2_with fail
  go_loopw [3, 4] (fun u i wr => ∃ j : Nat, j ≤ L.length ∧ u = .int .i64 (hgL (L.take j) : Int) ∧ i = .int .i64 j ∧ Below (w.heap.size + 1) (w.alloc (.cells #[.int .i64 k, .int .i64 n, .string s, .slice oL L.length capL, .slice oM V.length capM] 27)) wr) (fun _ i _ => L.length - (intOf i).toNat)
  case atStart => exact ⟨0, Nat.zero_le _, rfl, rfl, Below.refl _ _⟩
  case round =>
    obtain ⟨j, hj, rfl, rfl, hbel⟩ := hrel
    have hbw : Below w.heap.size w wr := ((Below.refl _ _).alloc (Nat.le_refl _) _).trans (hbel.mono (by omega))
    have hB3 := box_cell w wr _ _ _ _ _ _ hbel 3 _ rfl
    have hB4 := box_cell w wr _ _ _ _ _ _ hbel 4 _ rfl
    by_cases hlt : j < L.length
    · obtain ⟨t, ht⟩ : ∃ t, L[j]? = some t := ⟨L[j], List.getElem?_eq_getElem hlt⟩
      obtain rfl := hL3 (by omega)
      obtain ⟨d0, d1, d2, d3, d4⟩ := (cL j t ht).onto hbw
      have hsg := szL_get L j t ht
      have hhs := hgL_take_succ L j t ht
      have hstep := ih t (f j) (g j) wr (by omega) ((rL j t ht).onto hbw) (by omega)
      simp only [vv] at hstep
      have HSTEP := hid hstep
      clear hstep
      by_cases hgt : (hgT t : Int) > hgL (L.take j)
      all_goals
        go_wp2_with (go_at_call 16; go_must (refine HSTEP.out.mono ?_; rintro e w1 ⟨rfl, hb1⟩))
        go_roundw
        case rel => exact ⟨j + 1, hlt, val_int (by rw [hhs]; omega), val_int (by omega), hbel.trans (hb1.mono (by have := hbel.size; simp at this; omega))⟩
        case measure => simp [intOf]; omega
    · have hjL : j = L.length := by omega
      subst hjL
      rw [List.take_length]
      go_wp2_with fail
      clear hB3 hB4
      go_loopw [3, 6] (fun u i wr => ∃ j : Nat, j ≤ V.length ∧ u = .int .i64 ((max (hgL L) (hgL (V.take j)) : Nat) : Int) ∧ i = .int .i64 j ∧ Below (w.heap.size + 1) (w.alloc (.cells #[.int .i64 k, .int .i64 n, .string s, .slice oL L.length capL, .slice oM V.length capM] 27)) wr) (fun _ i _ => V.length - (intOf i).toNat)
      case atStart => exact ⟨0, Nat.zero_le _, val_int (by simp [hgL]), rfl, hbel⟩
      case round =>
        clear hbw hbel hj hlt
        obtain ⟨j, hj, rfl, rfl, hbel⟩ := hrel
        have hbw : Below w.heap.size w wr := ((Below.refl _ _).alloc (Nat.le_refl _) _).trans (hbel.mono (by omega))
        have hB4 := box_cell w wr _ _ _ _ _ _ hbel 4 _ rfl
        have hht := hgL_take_le V j
        by_cases hlt : j < V.length
        · obtain ⟨t, ht⟩ : ∃ t, V[j]? = some t := ⟨V[j], List.getElem?_eq_getElem hlt⟩
          obtain rfl := hM3 (by omega)
          have hnode := (cM j t ht).onto hbw
          simp only [Node, nx] at hnode
          obtain ⟨d0, d1, d2, d3, d4⟩ := hnode
          have hsg := szL_get V j t ht
          have hhs := hgL_take_succ V j t ht
          have hstep := ih t (p j) (q j) wr (by omega) ((rM j t ht).onto hbw) (by omega)
          simp only [vv] at hstep
          have HSTEP := hid hstep
          clear hstep
          obtain ⟨m, hm'⟩ : ∃ m, max (hgL L) (hgL (V.take j)) = m := ⟨_, rfl⟩
          rw [hm']
          by_cases hgt : (hgT t : Int) > m
          all_goals
            go_wp2_with (go_at_call 16; go_must (refine HSTEP.out.mono ?_; rintro e w1 ⟨rfl, hb1⟩))
            go_roundw
            case rel => exact ⟨j + 1, hlt, val_int (by rw [hhs]; omega), val_int (by omega), hbel.trans (hb1.mono (by have := hbel.size; simp at this; omega))⟩
            case measure => simp [intOf]; omega
        · have hjV : j = V.length := by omega
          subst hjV
          rw [List.take_length]
          obtain ⟨m, hm'⟩ : ∃ m, max (hgL L) (hgL V) = m := ⟨_, rfl⟩
          rw [hm']
          have hmb : m ≤ 1000000 := by omega
          go_wp2_with fail
          go_ret
          exact ⟨ret_int (by omega), hbw⟩
end Go.Proofs.YtkhjahpkbjafaaaGreatDoor
