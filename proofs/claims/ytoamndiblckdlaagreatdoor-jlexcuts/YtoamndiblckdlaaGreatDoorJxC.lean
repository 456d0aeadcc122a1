/- jlex.lettersEnd: walked. -/
import Derived.Test.YtoamndiblckdlaaGreatDoorJxA
import Derived.Test.YtoamndiblckdlaaGreatDoorMathLexD
import Derived.Lib.OthersKept
import Derived.Deep.LoopGhost
namespace Go.Proofs.YtoamndiblckdlaaGreatDoor
open Go.RowKit

theorem hasP_iff (l : List UInt8) : Lib.hasPrefix l [239, 191, 189] = true ↔ [239, 191, 189] <+: l := by
  unfold Lib.hasPrefix; exact List.isPrefixOf_iff_prefix
set_option maxRecDepth 100000 in
set_option maxHeartbeats 1000000 in
theorem letters_any (t : ByteArray) (w : World) :
    Calls Tryz.prog 14 #[.string t] w fun e w' => e = .returned (.int .i64 (pos t.data.toList (vlk t.data.toList) : Nat)) ∧ Below w.heap.size w w' := by
  have HZ := hid (size_list t)
  have HV := hid (fun k => vlk_eq t.data.toList k)
  obtain ⟨T, hT⟩ : ∃ T, t.data.toList = T := ⟨_, rfl⟩
  have HT := hid hT
  rw [hT] at HV HZ ⊢
  clear hT
  go_enter Tryz.func14, Tryz.ntmps14
  go_wp2_with fail
  go_loopg [] t.size (fun gk wx => ∃ k : Nat, pos T k ≤ t.size ∧ k ≤ t.size ∧ t.size ≤ k + gk ∧ wx.heap[w.heap.size]? = some (.stringIter t (pos T k)) ∧ Hid (∀ j < k, vgo T j = true) ∧ Hid (Below w.heap.size w wx))
  case atStart =>
    exact ⟨0, Nat.zero_le _, Nat.zero_le _, by omega, World.iter_heap w t 0, fun j h => absurd h (by omega), (Below.refl _ _).alloc (Nat.le_refl _) _⟩
  case round =>
    obtain ⟨k, hk, hkt, hg, hit, HJ, HB⟩ := hrel
    by_cases hlt : pos T k < t.size
    · have hnx : ∀ ty, (Instr.next (.pointer (some ⟨w.heap.size, 0, none⟩)) true ty).run Tryz.prog wr = _ := fun ty => Lib.run_next_any_at wr w.heap.size t (pos T k) ty hit hlt
      have hdl : Utf8.decode t (pos T k) = if tkN (T.drop (pos T k)) = 0 then (65533, 1) else (tkR (T.drop (pos T k)), tkN (T.drop (pos T k))) := by
        rw [← Lib.decodeL_drop, HT.out, tk_dec _ (by rw [List.length_drop, HZ.out]; omega)]
      have HP : Hid (∀ X, Calls Tryz.prog 27 #[.string (t.extract (pos T k) t.size), .string ⟨#[239, 191, 189]⟩] X fun e w' => e = .returned (.bool (Lib.hasPrefix (T.drop (pos T k)) [239, 191, 189])) ∧ w' = X) := fun X => by
        have := Tryz.strings_HasPrefix (t.extract (pos T k) t.size) ⟨#[239, 191, 189]⟩ X
        rw [drop_list, HT.out] at this; exact this
      have hnl := pos_next T k (by rw [HZ.out]; exact hlt)
      rw [HZ.out] at hnl
      have hgt := pos_ge T k
      have hgt1 := pos_ge T (k + 1)
      by_cases h0 : tkN (T.drop (pos T k)) = 0
      · rw [if_pos h0] at hdl
        rw [hdl] at hnx
        have hpf : Lib.hasPrefix (T.drop (pos T k)) [239, 191, 189] = false := by
          cases h : Lib.hasPrefix (T.drop (pos T k)) [239, 191, 189] with
          | false => rfl
          | true => have := tk_pre _ ((hasP_iff _).1 h); omega
        rw [hpf] at HP
        have HE := hid (HV.out k (by unfold vgo; rw [h0]; simp) HJ.out (by rw [HZ.out]; omega))
        have HB2 := hid (Lib.below_iterAt HB.out (k := w.heap.size) (Nat.le_refl _) t (pos T k + 1))
        obtain ⟨p, hp⟩ : ∃ p, pos T k = p := ⟨_, rfl⟩
        rw [hp] at hnx HP hlt hk HB2
        have HPP := hid hp
        clear hdl hpf h0 hit HB hnl hp hgt hgt1
        go_wp2_with (go_at_call 27; go_must (refine (HP.out _).mono ?_; rintro e w1 ⟨rfl, rfl⟩))
        go_ret
        exact ⟨ret_int (by rw [← HE.out, HPP.out]), HB2.out⟩
      · rw [if_neg h0] at hdl
        rw [hdl] at hnx
        have HJ2 := hid (show ∀ j < k + 1, vgo T j = true from fun j hj => by
          by_cases hjk : j = k
          · subst hjk; unfold vgo; rw [decide_eq_true (by rw [HZ.out]; exact hlt), decide_eq_true h0]; rfl
          · exact HJ.out j (by omega))
        have hps : pos T k + tkN (T.drop (pos T k)) = pos T (k + 1) := by have := pos_succ' T k h0; omega
        have hfd := tk_fffd _ h0
        rw [hps] at hnx
        have HB2 := hid (Lib.below_iterAt HB.out (k := w.heap.size) (Nat.le_refl _) t (pos T (k + 1)))
        have HI2 := hid (Lib.iterAt_heap wr w.heap.size t (pos T k) (pos T (k + 1)) hit)
        obtain ⟨g', rfl⟩ : ∃ g', gk = g' + 1 := ⟨gk - 1, by omega⟩
        have hrl : tkR (T.drop (pos T k)) ≤ 1114111 := by
          have := Lib.rune_le t (pos T k); rw [hdl] at this; exact this
        by_cases h5 : tkR (T.drop (pos T k)) = 65533
        · have hpf : Lib.hasPrefix (T.drop (pos T k)) [239, 191, 189] = true := (hasP_iff _).2 (hfd.1 h5)
          rw [hpf] at HP
          rw [h5] at hnx
          obtain ⟨p, hp⟩ : ∃ p, pos T k = p := ⟨_, rfl⟩
          rw [hp] at hnx HP hlt hk
          clear hdl hpf h0 hit HB hp hps hfd h5 hgt hrl
          go_wp2_with (go_at_call 27; go_must (refine (HP.out _).mono ?_; rintro e w1 ⟨rfl, rfl⟩))
          go_roundg g'
          case measure => omega
          case rel => exact ⟨k + 1, hnl, by omega, by omega, HI2.out, HJ2.out, HB2.out⟩
        · obtain ⟨r, hr⟩ : ∃ r, tkR (T.drop (pos T k)) = r := ⟨_, rfl⟩
          rw [hr] at hnx h5 hrl
          have h6 : ((r : Int) == 65533) = false := by rw [beq_eq_false_iff_ne]; omega
          obtain ⟨p, hp⟩ : ∃ p, pos T k = p := ⟨_, rfl⟩
          rw [hp] at hnx HP hlt hk
          clear hdl h0 hit HB hp hps hfd hr h5 hgt
          go_wp2_with fail
          go_roundg g'
          case measure => omega
          case rel => exact ⟨k + 1, hnl, by omega, by omega, HI2.out, HJ2.out, HB2.out⟩
    · have hnx : ∀ ty, (Instr.next (.pointer (some ⟨w.heap.size, 0, none⟩)) true ty).run Tryz.prog wr = _ := fun ty => Lib.run_next_end_at wr w.heap.size t (pos T k) ty hit hlt
      have HE := hid (HV.out k (by unfold vgo; rw [decide_eq_false (by rw [HZ.out]; exact hlt)]; rfl) HJ.out (by rw [HZ.out]; omega))
      have HP := hid (show pos T k = t.size by omega)
      clear hit hlt hk
      go_wp2_with fail
      go_ret
      exact ⟨ret_int (by rw [← HE.out, HP.out]), HB.out⟩
end Go.Proofs.YtoamndiblckdlaaGreatDoor
