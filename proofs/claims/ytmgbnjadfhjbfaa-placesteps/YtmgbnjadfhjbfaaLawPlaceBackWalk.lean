/- PlaceBack, walked: a letter's place is told by its line's beginning and its column. -/
import Derived.Test.YtmgbnjadfhjbfaaPlaceAwake
import Derived.Test.YtmgbnjadfhjbfaaRefValid
import Derived.Test.YtmgbnjadfhjbfaaMathPlace2
namespace Go.Proofs.Ytmgbnjadfhjbfaa
open Go.RowKit

theorem rv_vld (l : List UInt8) (h : rvI l < 0) : Vld l := by
  by_cases hp : pos l (vlk l) = l.length
  · exact vld_of l hp
  · rw [rv_no l hp] at h; omega
theorem cl_at (n k : Nat) (h : k ≤ n) : clN n (k : Int) = k := by unfold clN; omega
theorem back_math (l : List UInt8) (v : Vld l) (k : Nat) (hk : k ≤ l.length) (vk : Vld (l.take k)) :
    ∃ b c : Nat, colOf (l.take k) = c + 1 ∧ c ≤ cnt (l.drop b) ∧ pos (l.drop b) c + b = k ∧ b ≤ k ∧ bgP l (linOf (l.take k) : Nat) = b ∧ bgB l (linOf (l.take k) : Nat) = true := by
  have e : (l.take k).length = k := by rw [List.length_take]; omega
  have hpi : pos l (cnt (l.take k)) = k := by
    have := pos_join1 (l.take k) (l.drop k) vk (cnt (l.take k)) (Nat.le_refl _)
    rw [List.take_append_drop, (cnt_has _).1, e] at this; exact this
  have hi : cnt (l.take k) ≤ cnt l := pos_inj l _ _ (by rw [hpi, (cnt_has l).1]; exact hk)
  obtain ⟨a, ha, hb⟩ := bol_start l v _ hi
  have hc := col_at l v a _ ha hi hb
  rw [hpi] at hb hc
  have hs := bol_spec l k hk
  have hbk := bol_le l k
  have hy := bg_yes l _ _ hs
  have hpa := pos_add l a (cnt (l.take k) - a)
  rw [show a + (cnt (l.take k) - a) = cnt (l.take k) by omega, hpi] at hpa
  refine ⟨pos l a, cnt (l.take k) - a, hc, ?_, by omega, by omega, ?_, ?_⟩
  · refine pos_inj (l.drop (pos l a)) _ _ ?_
    rw [(cnt_has _).1, List.length_drop]; omega
  · rw [show ((linOf (l.take k) : Nat) : Int) = (nls (l.take k) : Int) + 1 by unfold linOf; omega, hy.1, hb]
  · rw [show ((linOf (l.take k) : Nat) : Int) = (nls (l.take k) : Int) + 1 by unfold linOf; omega, hy.2]
set_option maxRecDepth 100000 in
set_option maxHeartbeats 1000000 in
theorem back_walk (t : ByteArray) (a : Int) (w0 : t.size ≤ maxLen) (_w1 : (Lit.int .i64 a).wf = true) (w : World) :
    Calls Try.prog 5 #[.string t, .int .i64 a] w fun e w' => e = .returned (.bool true) ∧ Below w.heap.size w w' := by
  have W0 := hid w0
  unfold maxLen at w0
  by_cases h3 : t.size > 300 ∨ a < 0 ∨ a > t.size
  · rcases h3 with h3 | h3 | h3
    · go_enter Try.func5, Try.ntmps5
      go_wp2_with (go_at_call 7; go_must (refine (awake_any _).mono ?_; rintro e w' ⟨rfl, hb⟩))
      go_ret
      exact ⟨rfl, hb⟩
    · by_cases h4 : t.size > 300
      all_goals
        go_enter Try.func5, Try.ntmps5
        go_wp2_with (go_at_call 7; go_must (refine (awake_any _).mono ?_; rintro e w' ⟨rfl, hb⟩))
        go_ret
        exact ⟨rfl, hb⟩
    · have h5 : ¬ a < 0 := by omega
      by_cases h4 : t.size > 300
      all_goals
        go_enter Try.func5, Try.ntmps5
        go_wp2_with (go_at_call 7; go_must (refine (awake_any _).mono ?_; rintro e w' ⟨rfl, hb⟩))
        go_ret
        exact ⟨rfl, hb⟩
  · obtain ⟨k, rfl⟩ : ∃ k : Nat, a = (k : Int) := ⟨a.toNat, by omega⟩
    have hk : k ≤ t.size := by omega
    have h3' : t.size ≤ 300 := by omega
    clear h3
    by_cases hv : rvI t.data.toList ≥ 0
    · go_enter Try.func5, Try.ntmps5
      go_wp2_with (first
        | (go_at_call 7; go_must (refine (awake_any _).mono ?_; rintro e w' ⟨rfl, hb⟩))
        | (go_at_call 14; go_must (refine (rvalid_any _ _ W0.out).mono ?_; rintro e w' ⟨rfl, hb1⟩)))
      go_ret
      exact ⟨rfl, onto hb hb1⟩
    · have hv' : rvI t.data.toList < 0 := by omega
      clear hv
      obtain ⟨m, hm⟩ : ∃ m, t.extract 0 k = m := ⟨_, rfl⟩
      have HM := hid (show m.size ≤ maxLen by rw [← hm, take_size t k hk]; unfold maxLen; omega)
      by_cases hu : rvI m.data.toList ≥ 0
      · go_enter Try.func5, Try.ntmps5
        go_wp2_with (first
          | (go_at_call 7; go_must (refine (awake_any _).mono ?_; rintro e w' ⟨rfl, hb⟩))
          | (go_at_call_of 14 t; go_must (refine (rvalid_any _ _ W0.out).mono ?_; rintro e w' ⟨rfl, hb1⟩))
          | (go_at_call_of 14 m; go_must (refine (rvalid_any _ _ HM.out).mono ?_; rintro e w' ⟨rfl, hb2⟩)))
        go_ret
        exact ⟨rfl, onto (onto hb hb1) hb2⟩
      · have hu' : rvI m.data.toList < 0 := by omega
        clear hu
        have hl : m.data.toList = t.data.toList.take k := by rw [← hm]; exact take_list t k
        obtain ⟨b, c, hc, hcl, hp, hbk, hP, hB⟩ := back_math t.data.toList (rv_vld _ hv') k (by rw [size_list]; exact hk) (by rw [← hl]; exact rv_vld _ hu')
        have HL := hid (show ofL t k = linOf (t.data.toList.take k) by unfold ofL; rw [cl_at _ _ hk])
        have HC := hid (show ofC t k = c + 1 by unfold ofC; rw [cl_at _ _ hk, hc])
        obtain ⟨d, hd⟩ : ∃ d, t.extract b t.size = d := ⟨_, rfl⟩
        have hdl : d.data.toList = t.data.toList.drop b := by rw [← hd]; exact drop_list t b
        have HD := hid (show d.size ≤ 1000000 by rw [← hd, ByteArray.size_extract]; omega)
        rw [← hdl] at hcl hp
        have hcd := cnt_le d.data.toList
        have hds : d.size ≤ 300 := by rw [← hd, ByteArray.size_extract]; omega
        rw [size_list] at hcd
        have hll : linOf (t.data.toList.take k) ≤ 1000 := by
          have := nls_le (t.data.toList.take k); rw [List.length_take] at this; unfold linOf; omega
        have HB := hid (And.intro hP hB)
        clear hc hP hB hdl hl
        have hp' : ((pos d.data.toList c : Nat) : Int) + (b : Int) = (k : Int) := by omega
        clear hp
        have hpl : pos d.data.toList c ≤ 1000 := by omega
        go_enter Try.func5, Try.ntmps5
        go_wp2_with (first
          | (go_at_call 7; go_must (refine (awake_any _).mono ?_; rintro e w' ⟨rfl, hb⟩))
          | (go_at_call_of 14 t; go_must (refine (rvalid_any _ _ W0.out).mono ?_; rintro e w' ⟨rfl, hb1⟩))
          | (go_at_call_of 14 m; go_must (refine (rvalid_any _ _ HM.out).mono ?_; rintro e w' ⟨rfl, hb2⟩))
          | (go_at_call 8; go_must (refine (of_any _ _ _ (by omega)).mono ?_; rintro e w' ⟨rfl, n, rfl⟩; rw [HL.out, HC.out]))
          | (go_at_call 9; go_must (refine (pbegin_any _ _ _ (by omega) (by omega)).mono ?_; rintro e w' ⟨rfl, hw⟩; obtain rfl := hw.symm; rw [HB.out.1, HB.out.2]))
          | (go_at_call 15; go_must (refine (starts_at _ _ HD.out).mono ?_; rintro e w' ⟨g, cap, rfl, hcell, hb3⟩; have hcc := hcell c hcl; clear hcell)))
        go_ret
        exact ⟨rfl, onto (below_drewN (onto (onto hb hb1) hb2) n) hb3⟩
end Go.Proofs.Ytmgbnjadfhjbfaa
