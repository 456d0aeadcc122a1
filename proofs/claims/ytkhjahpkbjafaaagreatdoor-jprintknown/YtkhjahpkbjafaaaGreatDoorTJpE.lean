/- The program's printer of JSON: a key. -/
import Derived.Test.YtkhjahpkbjafaaaGreatDoorTJpD
namespace Go.Proofs.YtkhjahpkbjafaaaGreatDoor
open Go.RowKit

theorem cln_true : txs (clnT (indO true 0)) = [58, 32] := rfl
theorem cln_false : txs (clnT (indO false 0)) = [58] := rfl
set_option maxRecDepth 100000 in
set_option maxHeartbeats 2000000 in
theorem pkey_any (b : Nat) (l : List UInt8) (inl : Bool) (key : ByteArray) (w : World) (h : Pr w b l inl) (hk : key.size ≤ 4096) (hl : l.length ≤ 1000000000000) :
    Calls Tryz.prog 70 #[.pointer (some ⟨b, 0, none⟩), .string key] w fun e w' => e = .returned (.tuple #[]) ∧ Pr w' b (l ++ (qtA false key.data.toList ++ txs (clnT (indO inl 0)))) inl ∧ Kp b w w' := by
  have HP := hid h
  have hlt := h.lt
  clear h
  have CR := hid (fun X => jquote_any key X (by omega))
  obtain ⟨rp, hrp⟩ : ∃ rp, mkS (qtA false key.data.toList) = rp := ⟨_, rfl⟩
  rw [hrp] at CR
  have hrs : rp.size ≤ 30000 := by
    rw [← hrp, mkS_size]
    unfold qtA
    have h2 := qtK_len false key.data.toList (cnt key.data.toList)
    have h3 := cnt_le key.data.toList
    rw [size_list] at h3
    rw [List.length_append, List.length_singleton]; omega
  have CW := hid (fun X (hX : Pr X b l inl) => pwrite_any b l inl (rp ++ (⟨#[58]⟩ : ByteArray)) X hX (by rw [ByteArray.size_append]; show l.length + (rp.size + 1) ≤ _; omega))
  have CW2 := hid (fun X (hX : Pr X b (l ++ (rp ++ (⟨#[58]⟩ : ByteArray)).data.toList) inl) => pwrite_any b _ inl (⟨#[32]⟩ : ByteArray) X hX (by rw [List.length_append, size_list, ByteArray.size_append]; show l.length + (rp.size + 1) + 1 ≤ _; omega))
  have HE := hid (show (rp ++ (⟨#[58]⟩ : ByteArray)).data.toList = qtA false key.data.toList ++ [58] by
    rw [← hrp, show (⟨#[58]⟩ : ByteArray) = mkS [58] from rfl, mkS_app, mkS_list])
  clear hrp
  go_enter Tryz.func70, Tryz.ntmps70
  go_upto_region 0 with fail
  refine wp_region_h (S := fun X => Kp b w X) 7 (by kernel_rfl) (by kernel_rfl) ?_
  have hS0 : Kp b w w.drew := Kp.drew w
  refine take_h (i := 0) (v := ?_) rfl (by kernel_rfl) (by kernel_rfl) (by kernel_rfl) (fun _ _ _ h => h) (by rfl) ?_ hS0 ?_
  rotate_left
  · (intro X hX; go_simp; try with_reducible rfl)
  simp only [Act.put, List.setIfInBounds_toArray, List.set_cons_zero, List.set_cons_succ]
  refine take_h (i := 1) (v := ?_) rfl (by kernel_rfl) (by kernel_rfl) (by kernel_rfl) (fun _ _ _ h => h) (by rfl) ?_ hS0 ?_
  rotate_left
  · (intro X hX; go_simp; try with_reducible rfl)
  simp only [Act.put, List.setIfInBounds_toArray, List.set_cons_zero, List.set_cons_succ]
  refine take_h (i := 2) (v := ?_) rfl (by kernel_rfl) (by kernel_rfl) (by kernel_rfl) (fun _ _ _ h => h) (by rfl) ?_ hS0 ?_
  rotate_left
  · (intro X hX; go_simp; try with_reducible rfl)
  simp only [Act.put, List.setIfInBounds_toArray, List.set_cons_zero, List.set_cons_succ]
  refine take_h (i := 3) (v := ?_) rfl (by kernel_rfl) (by kernel_rfl) (by kernel_rfl) (fun _ _ _ h => h) (by rfl) ?_ hS0 ?_
  rotate_left
  · (intro X hX; go_simp; try with_reducible rfl)
  simp only [Act.put, List.setIfInBounds_toArray, List.set_cons_zero, List.set_cons_succ]
  refine step_h (i := 4) rfl (by kernel_rfl) ?_
  intro KK hKK
  go_simp
  go_wp2_with (go_at_call 98; go_must (refine (CR.out _).mono ?_; rintro e w1 ⟨rfl, hb1⟩))
  have hS1 : Kp b w w1 := hS0.trans (Kp.of hb1 (Nat.le_of_lt HP.out.drew.lt))
  have HP1 := hid (HP.out.drew.on hb1)
  refine hKK.out _ _ hS1 (fun _ => ?_)
  clear hKK KK
  refine step_h (i := 5) rfl (by kernel_rfl) ?_
  intro KK hKK
  go_simp
  go_wp2_with fail
  refine hKK.out _ _ hS1 (fun _ => ?_)
  clear hKK KK
  refine step_h (i := 6) rfl (by kernel_rfl) ?_
  intro KK hKK
  go_simp
  go_wp2_with (go_at_call 71; go_must (refine (CW.out _ HP1.out).mono ?_; rintro e w2 ⟨rfl, hp2, hk2⟩))
  have hS2 : Kp b w w2 := hS1.trans hk2
  refine hKK.out _ _ hS2 (fun _ => ?_)
  clear hKK KK
  refine wpAnyH_done (by kernel_rfl) ?_ _
  have f2 := hp2.flag
  have HP2 := hid hp2
  have HS2 := hid hS2
  clear hp2 hS2 hS1 hS0 hb1 hk2
  cases inl with
  | false =>
    go_wp2
    go_end0
    refine ⟨rfl, ?_, HS2.out⟩
    rw [cln_false, ← HE.out]; exact HP2.out
  | true =>
    go_wp2_with (go_at_call 71; go_must (refine (CW2.out _ HP2.out).mono ?_; rintro e w3 ⟨rfl, hp3, hk3⟩))
    go_end0
    refine ⟨rfl, ?_, HS2.out.trans hk3⟩
    rw [HE.out] at hp3
    have e : l ++ (qtA false key.data.toList ++ txs (clnT (indO true 0))) = l ++ (qtA false key.data.toList ++ [58]) ++ (⟨#[32]⟩ : ByteArray).data.toList := by rw [cln_true]; simp
    rw [e]; exact hp3
end Go.Proofs.YtkhjahpkbjafaaaGreatDoor
