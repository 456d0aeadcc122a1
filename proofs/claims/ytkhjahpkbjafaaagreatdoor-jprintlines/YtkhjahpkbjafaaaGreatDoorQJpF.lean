/- The program's printer of JSON: a key. -/
import Derived.Test.YtkhjahpkbjafaaaGreatDoorQJpD
/- The program's printer of JSON: the parts of a list or a map, over any closure. -/
namespace Go.Proofs.YtkhjahpkbjafaaaGreatDoor
open Go.RowKit

theorem cln_true : txs (clnT (indO true 0)) = [58, 32] := rfl
theorem cln_false : txs (clnT (indO false 0)) = [58] := rfl
set_option maxRecDepth 100000 in
set_option maxHeartbeats 2000000 in
theorem pkey_any (b : Nat) (l : List UInt8) (inl : Bool) (key : ByteArray) (w : World) (h : Pr w b l inl) (hk : key.size ≤ 4096) (hl : l.length ≤ 1000000000000) :
    Calls Tryz.prog 70 #[.pointer (some ⟨b, 0, none⟩), .string key] w fun e w' => e = .returned (.tuple #[]) ∧ Pr w' b (l ++ (qtA false key.data.toList ++ txs (clnT (indO inl 0)))) inl ∧ Kp b w w' := by
  have HP := hid h
  have hlt := h.lt
  clear h
  have CR := hid (fun X => jquote_any key X (by omega))
  obtain ⟨rp, hrp⟩ : ∃ rp, mkS (qtA false key.data.toList) = rp := ⟨_, rfl⟩
  rw [hrp] at CR
  have hrs : rp.size ≤ 30000 := by
    rw [← hrp, mkS_size]
    unfold qtA
    have h2 := qtK_len false key.data.toList (cnt key.data.toList)
    have h3 := cnt_le key.data.toList
    rw [size_list] at h3
    rw [List.length_append, List.length_singleton]; omega
  have CW := hid (fun X (hX : Pr X b l inl) => pwrite_any b l inl (rp ++ (⟨#[58]⟩ : ByteArray)) X hX (by rw [ByteArray.size_append]; show l.length + (rp.size + 1) ≤ _; omega))
  have CW2 := hid (fun X (hX : Pr X b (l ++ (rp ++ (⟨#[58]⟩ : ByteArray)).data.toList) inl) => pwrite_any b _ inl (⟨#[32]⟩ : ByteArray) X hX (by rw [List.length_append, size_list, ByteArray.size_append]; show l.length + (rp.size + 1) + 1 ≤ _; omega))
  have HE := hid (show (rp ++ (⟨#[58]⟩ : ByteArray)).data.toList = qtA false key.data.toList ++ [58] by
    rw [← hrp, show (⟨#[58]⟩ : ByteArray) = mkS [58] from rfl, mkS_app, mkS_list])
  clear hrp
  go_enter Tryz.func70, Tryz.ntmps70
  go_upto_region 0 with fail
  refine wp_region_h (S := fun X => Kp b w X) 7 (by kernel_rfl) (by kernel_rfl) ?_
  have hS0 : Kp b w w.drew := Kp.drew w
  refine take_h (i := 0) (v := ?_) rfl (by kernel_rfl) (by kernel_rfl) (by kernel_rfl) (fun _ _ _ h => h) (by rfl) ?_ hS0 ?_
  rotate_left
  · (intro X hX; go_simp; try with_reducible rfl)
  simp only [Act.put, List.setIfInBounds_toArray, List.set_cons_zero, List.set_cons_succ]
  refine take_h (i := 1) (v := ?_) rfl (by kernel_rfl) (by kernel_rfl) (by kernel_rfl) (fun _ _ _ h => h) (by rfl) ?_ hS0 ?_
  rotate_left
  · (intro X hX; go_simp; try with_reducible rfl)
  simp only [Act.put, List.setIfInBounds_toArray, List.set_cons_zero, List.set_cons_succ]
  refine take_h (i := 2) (v := ?_) rfl (by kernel_rfl) (by kernel_rfl) (by kernel_rfl) (fun _ _ _ h => h) (by rfl) ?_ hS0 ?_
  rotate_left
  · (intro X hX; go_simp; try with_reducible rfl)
  simp only [Act.put, List.setIfInBounds_toArray, List.set_cons_zero, List.set_cons_succ]
  refine take_h (i := 3) (v := ?_) rfl (by kernel_rfl) (by kernel_rfl) (by kernel_rfl) (fun _ _ _ h => h) (by rfl) ?_ hS0 ?_
  rotate_left
  · (intro X hX; go_simp; try with_reducible rfl)
  simp only [Act.put, List.setIfInBounds_toArray, List.set_cons_zero, List.set_cons_succ]
  refine step_h (i := 4) rfl (by kernel_rfl) ?_
  intro KK hKK
  go_simp
  go_wp2_with (go_at_call 98; go_must (refine (CR.out _).mono ?_; rintro e w1 ⟨rfl, hb1⟩))
  have hS1 : Kp b w w1 := hS0.trans (Kp.of hb1 (Nat.le_of_lt HP.out.drew.lt))
  have HP1 := hid (HP.out.drew.on hb1)
  refine hKK.out _ _ hS1 (fun _ => ?_)
  clear hKK KK
  refine step_h (i := 5) rfl (by kernel_rfl) ?_
  intro KK hKK
  go_simp
  go_wp2_with fail
  refine hKK.out _ _ hS1 (fun _ => ?_)
  clear hKK KK
  refine step_h (i := 6) rfl (by kernel_rfl) ?_
  intro KK hKK
  go_simp
  go_wp2_with (go_at_call 71; go_must (refine (CW.out _ HP1.out).mono ?_; rintro e w2 ⟨rfl, hp2, hk2⟩))
  have hS2 : Kp b w w2 := hS1.trans hk2
  refine hKK.out _ _ hS2 (fun _ => ?_)
  clear hKK KK
  refine wpAnyH_done (by kernel_rfl) ?_ _
  have f2 := hp2.flag
  have HP2 := hid hp2
  have HS2 := hid hS2
  clear hp2 hS2 hS1 hS0 hb1 hk2
  cases inl with
  | false =>
    go_wp2
    go_end0
    refine ⟨rfl, ?_, HS2.out⟩
    rw [cln_false, ← HE.out]; exact HP2.out
  | true =>
    go_wp2_with (go_at_call 71; go_must (refine (CW2.out _ HP2.out).mono ?_; rintro e w3 ⟨rfl, hp3, hk3⟩))
    go_end0
    refine ⟨rfl, ?_, HS2.out.trans hk3⟩
    rw [HE.out] at hp3
    have e : l ++ (qtA false key.data.toList ++ txs (clnT (indO true 0))) = l ++ (qtA false key.data.toList ++ [58]) ++ (⟨#[32]⟩ : ByteArray).data.toList := by rw [cln_true]; simp
    rw [e]; exact hp3
end Go.Proofs.YtkhjahpkbjafaaaGreatDoor
namespace Go.Proofs.YtkhjahpkbjafaaaGreatDoor
open Go.RowKit

/-- what is written of so many parts -/
def ptB (inl : Bool) (k : Nat) (G : Nat → List UInt8) : Nat → List UInt8
  | 0 => []
  | j + 1 => ptB inl k G j ++ ((if j = 0 then [] else [44]) ++ (txs (lnT (indO inl (k + 1))) ++ G j))
theorem ptB_mono {inl : Bool} {k : Nat} {G : Nat → List UInt8} {i j : Nat} (h : i ≤ j) : (ptB inl k G i).length ≤ (ptB inl k G j).length := by
  induction h with
  | refl => exact Nat.le_refl _
  | step _ ih => rw [ptB, List.length_append]; omega
set_option maxRecDepth 100000 in
set_option maxHeartbeats 4000000 in
theorem pparts_any (F : Nat) (caps : Array Value) (b : Nat) (inl : Bool) (o c : UInt8) (N k : Nat) (G : Nat → List UInt8) (l : List UInt8) (w : World)
    (eF : ∀ args w, (callFunc F args).run Tryz.prog w = .ok (.enter F args) w)
    (hF : ∀ (j : Nat) (l' : List UInt8) (X : World), j < N → Kp b w X → Pr X b l' inl → l'.length ≤ l.length + (ptB inl k G N).length + 30000 → Calls Tryz.prog F (#[.int .i64 (j : Int)] ++ caps) X fun e w' => e = .returned (.tuple #[]) ∧ Pr w' b (l' ++ G j) inl ∧ Kp b X w')
    (h : Pr w b l inl) (hk : k ≤ 9999) (hN : N ≤ 1000000) (hl : l.length + 1 + (ptB inl k G N).length ≤ 400000000000) :
    Calls Tryz.prog 67 #[.pointer (some ⟨b, 0, none⟩), .string ⟨#[o]⟩, .string ⟨#[c]⟩, .int .i64 (N : Int), .int .i64 (k : Int), .func (.func F) #[] caps] w fun e w' =>
      e = .returned (.tuple #[]) ∧ Pr w' b (l ++ (o :: (ptB inl k G N ++ ((if N = 0 then [] else txs (lnT (indO inl k))) ++ [c])))) inl ∧ Kp b w w' := by
  have HF := hid hF
  have HP := hid h
  have HLE : Hid (∀ j, j ≤ N → (ptB inl k G j).length ≤ (ptB inl k G N).length) := fun j hj => ptB_mono hj
  have hln : ∀ m, m ≤ 10000 → (txs (lnT (indO inl m))).length ≤ 20001 := fun m hm => by
    cases inl
    · simp [indO, lnT, txs]
    · simp [indO, ln_some]; omega
  have HLN := hid hln
  have CW := hid (fun (m : UInt8) (l' : List UInt8) X (hX : Pr X b l' inl) (hl' : l'.length ≤ 500000000000) => pwrite_any b l' inl (⟨#[m]⟩ : ByteArray) X hX (by show l'.length + 1 ≤ _; omega))
  have CL := hid (fun (m : Nat) (l' : List UInt8) X (hm : m ≤ 10000) (hX : Pr X b l' inl) (hl' : l'.length ≤ 500000000000) => pline_any b l' inl m X hX hm (by omega))
  clear hF h hln
  go_enter Tryz.func67, Tryz.ntmps67
  go_wp2_with fail
  go_at_call 71
  refine (CW.out o l _ HP.out (by omega)).mono ?_
  rintro e w1 ⟨rfl, hp1, hk1⟩
  have HP1 := hid hp1
  have HK1 := hid hk1
  clear hp1 hk1
  go_wp2_with fail
  go_loopw [12, 19] (fun _ iv wr => ∃ j : Nat, j ≤ N ∧ iv = .int .i64 j ∧ Hid (Pr wr b (l ++ (o :: ptB inl k G j)) inl) ∧ Hid (Kp b w wr)) (fun _ iv _ => N - (intOf iv).toNat)
  case atStart => exact ⟨0, Nat.zero_le _, rfl, HP1, HK1⟩
  case round =>
    obtain ⟨j, hj, rfl, HPJ, HKJ⟩ := hrel
    have hlj := HLE.out j hj
    have hpl : (l ++ (o :: ptB inl k G j)).length = l.length + 1 + (ptB inl k G j).length := by rw [List.length_append, List.length_cons]; omega
    by_cases hlt : j < N
    · have hl1 := HLN.out (k + 1) (by omega)
      have HNX : Hid (∀ A : List UInt8, A = l ++ (o :: ptB inl k G j) → A ++ (if j = 0 then [] else [44]) ++ txs (lnT (indO inl (k + 1))) ++ G j = l ++ (o :: ptB inl k G (j + 1))) := fun A hA => by rw [hA, ptB]; simp
      by_cases h0 : j = 0
      · subst h0
        go_wp2_with fail
        go_at_call 97
        refine (CL.out (k + 1) _ _ (by omega) HPJ.out (by omega)).mono ?_
        rintro e w2 ⟨rfl, hp2, hk2⟩
        have CF := hid (HF.out 0 _ w2 hlt (HKJ.out.trans hk2) hp2 (by rw [List.length_append]; omega))
        have HK2 := hid (HKJ.out.trans hk2)
        clear hp2 hk2
        go_wp2_with fail
        refine CF.out.mono ?_
        rintro e w3 ⟨rfl, hp3, hk3⟩
        have HP3 := hid hp3
        have HK3 := hid (HK2.out.trans hk3)
        clear hp3 hk3 CF
        go_wp2_with fail
        go_roundw
        case rel =>
          refine ⟨0 + 1, by omega, val_int (by omega), ?_, HK3.out⟩
          have e := HNX.out _ rfl
          rw [if_pos trivial, List.append_nil] at e
          show Pr _ _ _ _
          rw [← e]; exact HP3.out
        case measure => simp [intOf]; omega
      · have hj0 : 0 < j := by omega
        go_wp2_with fail
        go_at_call 71
        refine (CW.out 44 _ _ HPJ.out (by omega)).mono ?_
        rintro e w5 ⟨rfl, hp5, hk5⟩
        have HP5 := hid hp5
        have HK5 := hid (HKJ.out.trans hk5)
        clear hp5 hk5
        go_wp2_with fail
        go_at_call 97
        refine (CL.out (k + 1) _ _ (by omega) HP5.out (by rw [List.length_append]; show _ + 1 ≤ _; omega)).mono ?_
        rintro e w2 ⟨rfl, hp2, hk2⟩
        have CF := hid (HF.out j _ w2 hlt (HK5.out.trans hk2) hp2 (by rw [List.length_append, List.length_append]; show _ + 1 + _ ≤ _; omega))
        have HK2 := hid (HK5.out.trans hk2)
        clear hp2 hk2
        go_wp2_with fail
        refine CF.out.mono ?_
        rintro e w3 ⟨rfl, hp3, hk3⟩
        have HP3 := hid hp3
        have HK3 := hid (HK2.out.trans hk3)
        clear hp3 hk3 CF
        go_wp2_with fail
        go_roundw
        case rel =>
          refine ⟨j + 1, by omega, val_int (by omega), ?_, HK3.out⟩
          have e := HNX.out _ rfl
          rw [if_neg h0] at e
          show Pr _ _ _ _
          rw [← e]; exact HP3.out
        case measure => simp [intOf]; omega
    · obtain rfl : j = N := by omega
      by_cases h0 : j = 0
      · subst h0
        go_wp2_with fail
        go_at_call 71
        refine (CW.out c _ _ HPJ.out (by omega)).mono ?_
        rintro e w5 ⟨rfl, hp5, hk5⟩
        have HP5 := hid hp5
        have HK5 := hid (HKJ.out.trans hk5)
        clear hp5 hk5
        go_wp2_with fail
        first | go_end0 | refine bodyPost_ret (results_none rfl _ _ _) rfl ?_
        refine ⟨rfl, ?_, HK5.out⟩
        have e : l ++ (o :: (ptB inl k G 0 ++ [c])) = l ++ (o :: ptB inl k G 0) ++ (⟨#[c]⟩ : ByteArray).data.toList := by simp
        rw [e]; exact HP5.out
      · have hj0 : 0 < j := by omega
        have hl1 := HLN.out k (by omega)
        go_wp2_with fail
        go_at_call 97
        refine (CL.out k _ _ (by omega) HPJ.out (by omega)).mono ?_
        rintro e w4 ⟨rfl, hp4, hk4⟩
        have HP4 := hid hp4
        have HK4 := hid (HKJ.out.trans hk4)
        clear hp4 hk4
        go_wp2_with fail
        go_at_call 71
        refine (CW.out c _ _ HP4.out (by rw [List.length_append]; omega)).mono ?_
        rintro e w5 ⟨rfl, hp5, hk5⟩
        have HP5 := hid hp5
        have HK5 := hid (HK4.out.trans hk5)
        clear hp5 hk5
        go_wp2_with fail
        first | go_end0 | refine bodyPost_ret (results_none rfl _ _ _) rfl ?_
        refine ⟨rfl, ?_, HK5.out⟩
        have e : l ++ (o :: (ptB inl k G j ++ (txs (lnT (indO inl k)) ++ [c]))) = l ++ (o :: ptB inl k G j) ++ txs (lnT (indO inl k)) ++ (⟨#[c]⟩ : ByteArray).data.toList := by simp
        rw [e]; exact HP5.out
end Go.Proofs.YtkhjahpkbjafaaaGreatDoor
