/- The document's own reckoning of places, walked: Of, Fault. -/
import Derived.Test.YtoamndiblckdlaaGreatDoorPlaceB
namespace Go.Proofs.YtoamndiblckdlaaGreatDoor
open Go.RowKit

theorem part_list (s : ByteArray) (i k : Nat) : (s.extract i k).data.toList = (s.data.toList.take k).drop i := by
  simp [List.drop_take]
theorem col_part (t : ByteArray) (k : Nat) (h : k ≤ t.size) : colOf (t.data.toList.take k) = cnt (t.extract (bol t.data.toList k) k).data.toList + 1 := by
  rw [part_list]; unfold colOf
  have e : (t.data.toList.take k).length = k := by rw [List.length_take, size_list]; omega
  rw [e, bol_take _ _ _ (Nat.le_refl _)]
set_option maxRecDepth 100000 in
set_option maxHeartbeats 400000 in
theorem rof_any (t : ByteArray) (a : Int) (w : World) (hs : t.size ≤ 1000000) :
    Calls Tryz.prog 21 #[.string t, .int .i64 a] w fun e w' => e = .returned (.tuple #[.int .i64 (ofL t a), .int .i64 (ofC t a)]) ∧ Below w.heap.size w w' := by
  have HZ := hid (size_list t)
  have hc := clN_le t.size a
  obtain ⟨k, hk⟩ : ∃ k, clN t.size a = k := ⟨_, rfl⟩
  have HK := hid hk
  have hkt : k ≤ t.size := by omega
  have HC := hid (col_part t k hkt)
  have HX := hid (show (t.extract (bol t.data.toList k) k).size ≤ 1000000 by rw [ByteArray.size_extract]; omega)
  have hb := bol_le t.data.toList k
  clear hc hk
  go_enter Tryz.func21, Tryz.ntmps21
  go_wp2_with (first
    | (go_at_call 22; go_must (refine (rclamp_any _ _ _).mono ?_; rintro e w' ⟨rfl, rfl⟩; rw [HK.out])))
  go_loop [6, 7, 8] (fun x y z => ∃ i : Nat, i ≤ k ∧ x = .int .i64 ((nls (t.data.toList.take i) : Int) + 1) ∧ y = .int .i64 (bol t.data.toList i) ∧ z = .int .i64 i) (fun _ _ z => k - (intOf z).toNat)
  case atStart => exact ⟨0, Nat.zero_le _, rfl, rfl, rfl⟩
  case round =>
    obtain ⟨i, hi, rfl, rfl, rfl⟩ := hrel
    have hn := nls_le (t.data.toList.take i)
    have hn' : nls (t.data.toList.take i) ≤ i := by rw [List.length_take] at hn; omega
    clear hn
    by_cases hlt : i < k
    · have hi' : i < t.size := by omega
      have E := hid (getD_at t i hi')
      have N := hid (nls_take_succ t.data.toList i (by rw [HZ.out]; exact hi'))
      by_cases h10 : t[i] = 10
      · have h1 : ((t[i].toNat : Int) == 10) = true := by rw [h10]; rfl
        have H10 := hid h10
        clear h10
        go_wp2_with fail
        go_round
        case rel => exact ⟨i + 1, hlt, val_int (by rw [N.out, if_pos (E.out.trans H10.out)]; omega), val_int (by rw [bol_yes _ _ (E.out.trans H10.out)]; omega), val_int (by omega)⟩
        case measure => simp [intOf]; omega
      · have h1 : ((t[i].toNat : Int) == 10) = false := byte_no _ h10
        have H10 := hid h10
        clear h10
        go_wp2_with fail
        go_round
        case rel => exact ⟨i + 1, hlt, val_int (by rw [N.out, if_neg (by rw [E.out]; exact H10.out)]; omega), val_int (by rw [bol_no _ _ (by rw [E.out]; exact H10.out)]), val_int (by omega)⟩
        case measure => simp [intOf]; omega
    · have : i = k := by omega
      subst this
      obtain ⟨m, hm⟩ : ∃ m, t.extract (bol t.data.toList i) i = m := ⟨_, rfl⟩
      rw [hm] at HX HC
      go_wp2_with (first
        | (go_at_call 37; go_must (refine (starts_at _ _ HX.out).mono ?_; rintro e w' ⟨g, cap, rfl, -, hbel⟩)))
      go_ret2
      exact ⟨ret_two (by unfold ofL linOf; rw [HK.out]; omega) (by unfold ofC; rw [HK.out, HC.out]; rfl), hbel⟩
set_option maxRecDepth 100000 in
set_option maxHeartbeats 400000 in
theorem rfault_any (t : ByteArray) (a e : Int) (w : World) (hs : t.size ≤ 1000000) :
    Calls Tryz.prog 11 #[.string t, .int .i64 a, .int .i64 e] w fun e' w' => e' = .returned (faultV t a e) ∧ Below w.heap.size w w' := by
  go_enter Tryz.func11, Tryz.ntmps11
  go_wp2_with (first
    | (go_at_call 21; go_must (refine (rof_any _ _ _ hs).mono ?_; rintro e' w' ⟨rfl, hb⟩; obtain ⟨hc, hf⟩ := keeps hb; have hz : w.heap.size < w'.heap.size := (by have := hb.size; simp at this; omega)))
    | (go_at_call 22; go_must (refine (rclamp_any _ _ _).mono ?_; rintro e' w' ⟨rfl, rfl⟩)))
  refine bodyPost_ret (v := faultV t a e) (by simp [results, Tryz.results11, go_sem, faultV, hc]) rfl ⟨rfl, ?_⟩
  exact (((((((Below.refl _ _).alloc (Nat.le_refl _) _).trans (hb.mono (by simp))).setCell (Nat.le_refl _) _).setCell (Nat.le_refl _) _).setCell (Nat.le_refl _) _).setCell (Nat.le_refl _) _)
end Go.Proofs.YtoamndiblckdlaaGreatDoor
