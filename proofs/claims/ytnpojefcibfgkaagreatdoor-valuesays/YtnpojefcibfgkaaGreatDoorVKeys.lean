/- value.goodKeys, walked. -/
import Derived.Test.YtnpojefcibfgkaaGreatDoorVText
import Derived.Test.YtnpojefcibfgkaaGreatDoorMathDecAll
import Derived.Deep.LoopGhost
namespace Go.Proofs.YtnpojefcibfgkaaGreatDoor
open Go.RowKit

/-- a map's keys may be, and rise -/
def keysB (K : List ByteArray) : Bool := decide (∀ i < K.length, strOkB (K.getD i ⟨#[]⟩) = true ∧ (0 < i → ltB (K.getD (i - 1) ⟨#[]⟩).data.toList (K.getD i ⟨#[]⟩).data.toList = true))
theorem getD_some {K : List ByteArray} {i : Nat} {c : ByteArray} (h : K[i]? = some c) : K.getD i ⟨#[]⟩ = c := by rw [List.getD, h]; rfl
theorem keys_no {K : List ByteArray} {i : Nat} {c : ByteArray} (h : K[i]? = some c) (hb : strOkB c = false) : keysB K = false := by
  unfold keysB; rw [decide_eq_false_iff_not]; intro hh
  have := (hh i (lt_of_some h)).1
  rw [getD_some h, hb] at this; cases this
theorem keys_fall {K : List ByteArray} {i : Nat} {b c : ByteArray} (h : K[i + 1]? = some c) (g : K[i]? = some b) (hb : ltB b.data.toList c.data.toList = false) : keysB K = false := by
  unfold keysB; rw [decide_eq_false_iff_not]; intro hh
  have := (hh (i + 1) (lt_of_some h)).2 (by omega)
  rw [getD_some h, show i + 1 - 1 = i from rfl, getD_some g, hb] at this; cases this
set_option maxRecDepth 100000 in
set_option maxHeartbeats 1000000 in
theorem gkeys_any (K : List ByteArray) (V : List VT) (y : Value) (w : World) (hy : InM w K V y) :
    Calls Tryz.prog 97 #[y] w fun e w' => e = .returned (.bool (keysB K)) ∧ Below w.heap.size w w' := by
  obtain ⟨a, p, q, ⟨o, cap, rfl, hn1, hn2, ho⟩, hK, cK, cM, rM⟩ := hy
  unfold maxLen at hn2
  have HR0 := hid (show keysB K = keysB K from rfl)
  generalize hr : keysB K = r at HR0 ⊢
  have HR := hid hr
  clear hr HR0
  go_enter Tryz.func97, Tryz.ntmps97
  go_wp2_with fail
  go_loopw [7] (fun i wr => ∃ j : Nat, j ≤ V.length ∧ i = .int .i64 j ∧ Below w.heap.size w wr ∧ Hid (∀ i < j, strOkB (K.getD i ⟨#[]⟩) = true ∧ (0 < i → ltB (K.getD (i - 1) ⟨#[]⟩).data.toList (K.getD i ⟨#[]⟩).data.toList = true))) (fun i _ => V.length - (intOf i).toNat)
  case atStart => exact ⟨0, Nat.zero_le _, rfl, Below.refl _ _, fun i h => absurd h (Nat.not_lt_zero _)⟩
  case round =>
    obtain ⟨j, hj, rfl, hbw, HJ⟩ := hrel
    by_cases hlt : j < V.length
    · obtain ⟨t, ht⟩ : ∃ t, V[j]? = some t := ⟨V[j], List.getElem?_eq_getElem hlt⟩
      obtain ⟨c, hc⟩ : ∃ c, K[j]? = some c := ⟨K[j], List.getElem?_eq_getElem (by omega)⟩
      obtain rfl := ho (by omega)
      have hnode := (cM j t ht).onto hbw
      simp only [Node, nx] at hnode
      obtain ⟨d0, d1, d2, d3, d4⟩ := hnode
      have k0 := keepCell hbw (cK j c hc).1
      obtain ⟨o1, n1, c1, o2, n2, c2, hp, hq⟩ := hv_slices (rM j t ht)
      rw [hp] at d3
      rw [hq] at d4
      clear hp hq
      have te := hid (fun w => terr_any c w (cK j c hc).2)
      have HT := hid (te_ok c)
      generalize teI c = z at te HT
      have HB : Hid (∀ o n, Below w.heap.size w ((wr.alloc o).drewN n)) := fun o n => vonto hbw (vdrew_bel (valloc_bel (Below.refl _ _) _) n)
      by_cases hj0 : j = 0
      · have tp : decide (0 < (j : Int)) = false := decide_eq_false (by omega)
        have tp3 : decide (0 < j) = false := decide_eq_false (by omega)
        have HJ0 := hid hj0
        clear hj0
        by_cases hz : z = 0
        · have tz : (z != 0) = false := by simpa using hz
          have HOK := hid (show strOkB c = true by rw [HT.out, decide_eq_true hz])
          clear hz
          go_wp2_with fail
          go_quiet ((go_at_call 41; go_must (exact Calls.quiet_of_same (te.out _))))
          go_wp2_with fail
          go_roundw
          case rel => exact ⟨j + 1, hlt, val_int (by omega), HB.out _ _, fun i hi => by
            have := HJ0.out
            obtain rfl : i = j := by omega
            exact ⟨by rw [getD_some hc]; exact HOK.out, fun h => absurd h (by omega)⟩⟩
          case measure => simp [intOf]; omega
        · have tz : (z != 0) = true := by simpa using hz
          have HOK := hid (show r = false by rw [← HR.out]; exact keys_no hc (by rw [HT.out, decide_eq_false hz]))
          clear hz
          go_wp2_with fail
          go_quiet ((go_at_call 41; go_must (exact Calls.quiet_of_same (te.out _))))
          go_wp2_with fail
          go_ret
          exact ⟨ret_bool HOK.out.symm, HB.out _ _⟩
      · obtain ⟨i, rfl⟩ : ∃ i, j = i + 1 := ⟨j - 1, by omega⟩
        clear hj0
        obtain ⟨b, hb⟩ : ∃ c, K[i]? = some c := ⟨K[i], List.getElem?_eq_getElem (by omega)⟩
        have HB0 : Hid (∀ o, (wr.alloc o).cell? (a.add (i * 6)) = some (.string b)) := fun o => keepCell (valloc_bel (Below.refl _ _) o) (keepCell hbw (cK i b hb).1)
        have b0 := fun o => HB0.out o
        rw [show ((i + 1 : Nat) : Int) = (i : Int) + 1 by omega]
        have tp : decide ((i : Int) + 1 > 0) = true := decide_eq_true (by omega)
        have ti : (i : Int) + 1 - 1 = i := by omega
        cases hl : ltB b.data.toList c.data.toList with
        | false =>
          have tl : Op.bytesLess b.toList c.toList = false := by rw [Lib.toList_data, Lib.toList_data]; exact hl
          have HOK := hid (show r = false by rw [← HR.out]; exact keys_fall hc hb hl)
          clear hl
          go_wp2_with fail
          go_quiet (fail)
          go_wp2_with fail
          go_ret
          exact ⟨ret_bool HOK.out.symm, HB.out _ _⟩
        | true =>
          have tl : Op.bytesLess b.toList c.toList = true := by rw [Lib.toList_data, Lib.toList_data]; exact hl
          have HL := hid hl
          clear hl
          by_cases hz : z = 0
          · have tz : (z != 0) = false := by simpa using hz
            have HOK := hid (show strOkB c = true by rw [HT.out, decide_eq_true hz])
            clear hz
            go_wp2_with fail
            go_quiet ((go_at_call 41; go_must (exact Calls.quiet_of_same (te.out _))))
            go_wp2_with fail
            go_roundw
            case rel => exact ⟨i + 2, hlt, val_int (by omega), HB.out _ _, fun k hk => by
              by_cases hki : k = i + 1
              · subst hki
                exact ⟨by rw [getD_some hc]; exact HOK.out, fun _ => by rw [getD_some hc, show i + 1 - 1 = i from rfl, getD_some hb]; exact HL.out⟩
              · exact HJ.out k (by omega)⟩
            case measure => simp [intOf]; omega
          · have tz : (z != 0) = true := by simpa using hz
            have HOK := hid (show r = false by rw [← HR.out]; exact keys_no hc (by rw [HT.out, decide_eq_false hz]))
            clear hz
            go_wp2_with fail
            go_quiet ((go_at_call 41; go_must (exact Calls.quiet_of_same (te.out _))))
            go_wp2_with fail
            go_ret
            exact ⟨ret_bool HOK.out.symm, HB.out _ _⟩
    · have HOK := hid (show r = true by rw [← HR.out]; unfold keysB; rw [decide_eq_true]; intro i hi; exact HJ.out i (by omega))
      go_wp2_with fail
      go_ret
      exact ⟨ret_bool HOK.out.symm, hbw⟩
end Go.Proofs.YtnpojefcibfgkaaGreatDoor
