/- The document's own reckoning of trees, walked: Get. -/
import Derived.Test.YtbeolgnognhfpaaGreatDoorVBase
import Derived.Lib.Strings
namespace Go.Proofs.YtbeolgnognhfpaaGreatDoor
open Go.RowKit

set_option maxRecDepth 100000 in
set_option maxHeartbeats 1000000 in
theorem get_any (T : VT) (x y : Value) (key : ByteArray) (w : World) (hT : HV w T x y) :
    Calls Tryz.prog 119 #[vv T x y, .string key] w fun e w' => ∃ R X Y, e = .returned (.tuple #[vv R X Y, .bool (getO T key).isSome]) ∧ R = (getO T key).getD zeroT ∧ HV w R X Y ∧ Below w.heap.size w w' := by
  cases hT with
  | mk a b f g p q hk hn hs hL hM hK cL cK cM rL rM =>
  rename_i k n s L K V
  change Calls _ _ #[.agg #[.int .i64 k, .int .i64 n, .string s, _, _], _] _ _
  obtain ⟨oL, capL, rfl, hL1, hL2, hL3⟩ := hL
  obtain ⟨oM, capM, rfl, hM1, hM2, hM3⟩ := hM
  unfold maxLen at hL2 hM2
  by_cases h6 : k = 6
  · subst h6
    have HG := hid (show getO (.mk 6 n s L K V) key = findK key K V by unfold getO; rfl)
    go_enter Tryz.func119, Tryz.ntmps119
    go_wp2_with fail
    go_loop [6] (fun i => ∃ j : Nat, i = .int .i64 j ∧ j ≤ V.length ∧ Hid (∀ (i : Nat) (c : ByteArray), i < j → K[i]? = some c → ¬ c.data.toList = key.data.toList)) (fun i => V.length - (intOf i).toNat)
    case atStart => exact ⟨0, rfl, Nat.zero_le _, hid (fun i c h => absurd h (Nat.not_lt_zero _))⟩
    case round =>
      obtain ⟨j, rfl, hj, HJ⟩ := hrel
      by_cases hlt : j < V.length
      · obtain ⟨t, ht⟩ : ∃ t, V[j]? = some t := ⟨V[j], List.getElem?_eq_getElem hlt⟩
        obtain ⟨c, hc⟩ : ∃ c, K[j]? = some c := ⟨K[j], List.getElem?_eq_getElem (by omega)⟩
        obtain rfl := hM3 (by omega)
        have hbw : ∀ o o', Below w.heap.size w ((w.alloc o).alloc o') := fun o o' => ((Below.refl _ _).alloc (Nat.le_refl _) _).alloc (by simp) _
        have hnode := fun o o' => (cM j t ht).onto (hbw o o')
        simp only [Node, nx] at hnode
        have d0 := fun o o' => (hnode o o').1
        have d1 := fun o o' => (hnode o o').2.1
        have d2 := fun o o' => (hnode o o').2.2.1
        have d3 := fun o o' => (hnode o o').2.2.2.1
        have d4 := fun o o' => (hnode o o').2.2.2.2
        have e0 := fun o o' => keepCell (hbw o o') (cK j c hc).1
        clear hnode
        by_cases he : c.data.toList = key.data.toList
        · have te := txt_is c key he
          have HF := hid (findK_some key K V j c t hc ht he HJ.out)
          have HR := hid (rM j t ht)
          obtain ⟨o1, n1, c1, o2, n2, c2, hp, hq⟩ := hv_slices (rM j t ht)
          rw [hp] at HR
          rw [hq] at HR
          simp only [hp] at d3
          simp only [hq] at d4
          clear he hp hq
          go_wp2_with fail
          refine bodyPost_ret (v := .tuple #[vv t (.slice o1 n1 c1) (.slice o2 n2 c2), .bool true]) (by simp [results, Tryz.results119, go_sem, vv]) rfl ⟨t, _, _, ?_, ?_, HR.out, ?_⟩
          · rw [HG.out, HF.out]; rfl
          · rw [HG.out, HF.out]; rfl
          · repeat (first | exact Below.refl _ _ | apply valloc_bel | (refine vset_bel ?_ (by simp)))
        · have te := txt_no c key he
          have HE := hid he
          clear he
          go_wp2_with fail
          go_round
          case rel => exact ⟨j + 1, val_int (by omega), hlt, hid (fun i c' hi hc' => by
            by_cases hij : i = j
            · subst hij; rw [hc] at hc'; cases hc'; exact HE.out
            · exact HJ.out i c' (by omega) hc')⟩
          case measure => simp [intOf]; omega
      · have HF := hid (findK_none key K V (fun i c hi => HJ.out i c (by have := (List.getElem?_eq_some_iff.1 hi).1; omega) hi))
        go_wp2_with fail
        refine bodyPost_ret (v := .tuple #[vv zeroT (.slice none 0 0) (.slice none 0 0), .bool false]) (by simp [results, Tryz.results119, go_sem, vv, zeroT, VT.kd, VT.nm, VT.st]) rfl ⟨zeroT, _, _, ?_, ?_, hv_zero w, ?_⟩
        · rw [HG.out, HF.out]; rfl
        · rw [HG.out, HF.out]; rfl
        · repeat (first | exact Below.refl _ _ | apply valloc_bel | (refine vset_bel ?_ (by simp)))
  · have HG := hid (show getO (.mk k n s L K V) key = none by unfold getO; rw [if_neg (by exact h6)])
    have t6 : (k == 6) = false := by simpa using h6
    clear h6
    go_enter Tryz.func119, Tryz.ntmps119
    go_wp2_with fail
    go_loop [6] (fun i => i = .int .i64 0) (fun i => 0)
    case atStart => rfl
    case round =>
      subst hrel
      by_cases hv : 0 < V.length
      · go_wp2_with fail
        refine bodyPost_ret (v := .tuple #[vv zeroT (.slice none 0 0) (.slice none 0 0), .bool false]) (by simp [results, Tryz.results119, go_sem, vv, zeroT, VT.kd, VT.nm, VT.st]) rfl ⟨zeroT, _, _, ?_, ?_, hv_zero w, ?_⟩
        · rw [HG.out]; rfl
        · rw [HG.out]; rfl
        · repeat (first | exact Below.refl _ _ | apply valloc_bel | (refine vset_bel ?_ (by simp)))
      · go_wp2_with fail
        refine bodyPost_ret (v := .tuple #[vv zeroT (.slice none 0 0) (.slice none 0 0), .bool false]) (by simp [results, Tryz.results119, go_sem, vv, zeroT, VT.kd, VT.nm, VT.st]) rfl ⟨zeroT, _, _, ?_, ?_, hv_zero w, ?_⟩
        · rw [HG.out]; rfl
        · rw [HG.out]; rfl
        · repeat (first | exact Below.refl _ _ | apply valloc_bel | (refine vset_bel ?_ (by simp)))
end Go.Proofs.YtbeolgnognhfpaaGreatDoor
