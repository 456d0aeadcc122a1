/- The program's printer of JSON: the parts of a list or a map, over any closure. -/
import Derived.Test.YtkhjahpkbjafaaaGreatDoorTJpE
namespace Go.Proofs.YtkhjahpkbjafaaaGreatDoor
open Go.RowKit

/-- what is written of so many parts -/
def ptB (inl : Bool) (k : Nat) (G : Nat → List UInt8) : Nat → List UInt8
  | 0 => []
  | j + 1 => ptB inl k G j ++ ((if j = 0 then [] else [44]) ++ (txs (lnT (indO inl (k + 1))) ++ G j))
theorem ptB_mono {inl : Bool} {k : Nat} {G : Nat → List UInt8} {i j : Nat} (h : i ≤ j) : (ptB inl k G i).length ≤ (ptB inl k G j).length := by
  induction h with
  | refl => exact Nat.le_refl _
  | step _ ih => rw [ptB, List.length_append]; omega
set_option maxRecDepth 100000 in
set_option maxHeartbeats 4000000 in
theorem pparts_any (F : Nat) (caps : Array Value) (b : Nat) (inl : Bool) (o c : UInt8) (N k : Nat) (G : Nat → List UInt8) (l : List UInt8) (w : World)
    (eF : ∀ args w, (callFunc F args).run Tryz.prog w = .ok (.enter F args) w)
    (hF : ∀ (j : Nat) (l' : List UInt8) (X : World), j < N → Kp b w X → Pr X b l' inl → l'.length ≤ l.length + (ptB inl k G N).length + 30000 → Calls Tryz.prog F (#[.int .i64 (j : Int)] ++ caps) X fun e w' => e = .returned (.tuple #[]) ∧ Pr w' b (l' ++ G j) inl ∧ Kp b X w')
    (h : Pr w b l inl) (hk : k ≤ 9999) (hN : N ≤ 1000000) (hl : l.length + 1 + (ptB inl k G N).length ≤ 400000000000) :
    Calls Tryz.prog 67 #[.pointer (some ⟨b, 0, none⟩), .string ⟨#[o]⟩, .string ⟨#[c]⟩, .int .i64 (N : Int), .int .i64 (k : Int), .func (.func F) #[] caps] w fun e w' =>
      e = .returned (.tuple #[]) ∧ Pr w' b (l ++ (o :: (ptB inl k G N ++ ((if N = 0 then [] else txs (lnT (indO inl k))) ++ [c])))) inl ∧ Kp b w w' := by
  have HF := hid hF
  have HP := hid h
  have HLE : Hid (∀ j, j ≤ N → (ptB inl k G j).length ≤ (ptB inl k G N).length) := fun j hj => ptB_mono hj
  have hln : ∀ m, m ≤ 10000 → (txs (lnT (indO inl m))).length ≤ 20001 := fun m hm => by
    cases inl
    · simp [indO, lnT, txs]
    · simp [indO, ln_some]; omega
  have HLN := hid hln
  have CW := hid (fun (m : UInt8) (l' : List UInt8) X (hX : Pr X b l' inl) (hl' : l'.length ≤ 500000000000) => pwrite_any b l' inl (⟨#[m]⟩ : ByteArray) X hX (by show l'.length + 1 ≤ _; omega))
  have CL := hid (fun (m : Nat) (l' : List UInt8) X (hm : m ≤ 10000) (hX : Pr X b l' inl) (hl' : l'.length ≤ 500000000000) => pline_any b l' inl m X hX hm (by omega))
  clear hF h hln
  go_enter Tryz.func67, Tryz.ntmps67
  go_wp2_with fail
  go_at_call 71
  refine (CW.out o l _ HP.out (by omega)).mono ?_
  rintro e w1 ⟨rfl, hp1, hk1⟩
  have HP1 := hid hp1
  have HK1 := hid hk1
  clear hp1 hk1
  go_wp2_with fail
  go_loopw [12, 19] (fun _ iv wr => ∃ j : Nat, j ≤ N ∧ iv = .int .i64 j ∧ Hid (Pr wr b (l ++ (o :: ptB inl k G j)) inl) ∧ Hid (Kp b w wr)) (fun _ iv _ => N - (intOf iv).toNat)
  case atStart => exact ⟨0, Nat.zero_le _, rfl, HP1, HK1⟩
  case round =>
    obtain ⟨j, hj, rfl, HPJ, HKJ⟩ := hrel
    have hlj := HLE.out j hj
    have hpl : (l ++ (o :: ptB inl k G j)).length = l.length + 1 + (ptB inl k G j).length := by rw [List.length_append, List.length_cons]; omega
    by_cases hlt : j < N
    · have hl1 := HLN.out (k + 1) (by omega)
      have HNX : Hid (∀ A : List UInt8, A = l ++ (o :: ptB inl k G j) → A ++ (if j = 0 then [] else [44]) ++ txs (lnT (indO inl (k + 1))) ++ G j = l ++ (o :: ptB inl k G (j + 1))) := fun A hA => by rw [hA, ptB]; simp
      by_cases h0 : j = 0
      · subst h0
        go_wp2_with fail
        go_at_call 97
        refine (CL.out (k + 1) _ _ (by omega) HPJ.out (by omega)).mono ?_
        rintro e w2 ⟨rfl, hp2, hk2⟩
        have CF := hid (HF.out 0 _ w2 hlt (HKJ.out.trans hk2) hp2 (by rw [List.length_append]; omega))
        have HK2 := hid (HKJ.out.trans hk2)
        clear hp2 hk2
        go_wp2_with fail
        refine CF.out.mono ?_
        rintro e w3 ⟨rfl, hp3, hk3⟩
        have HP3 := hid hp3
        have HK3 := hid (HK2.out.trans hk3)
        clear hp3 hk3 CF
        go_wp2_with fail
        go_roundw
        case rel =>
          refine ⟨0 + 1, by omega, val_int (by omega), ?_, HK3.out⟩
          have e := HNX.out _ rfl
          rw [if_pos trivial, List.append_nil] at e
          show Pr _ _ _ _
          rw [← e]; exact HP3.out
        case measure => simp [intOf]; omega
      · have hj0 : 0 < j := by omega
        go_wp2_with fail
        go_at_call 71
        refine (CW.out 44 _ _ HPJ.out (by omega)).mono ?_
        rintro e w5 ⟨rfl, hp5, hk5⟩
        have HP5 := hid hp5
        have HK5 := hid (HKJ.out.trans hk5)
        clear hp5 hk5
        go_wp2_with fail
        go_at_call 97
        refine (CL.out (k + 1) _ _ (by omega) HP5.out (by rw [List.length_append]; show _ + 1 ≤ _; omega)).mono ?_
        rintro e w2 ⟨rfl, hp2, hk2⟩
        have CF := hid (HF.out j _ w2 hlt (HK5.out.trans hk2) hp2 (by rw [List.length_append, List.length_append]; show _ + 1 + _ ≤ _; omega))
        have HK2 := hid (HK5.out.trans hk2)
        clear hp2 hk2
        go_wp2_with fail
        refine CF.out.mono ?_
        rintro e w3 ⟨rfl, hp3, hk3⟩
        have HP3 := hid hp3
        have HK3 := hid (HK2.out.trans hk3)
        clear hp3 hk3 CF
        go_wp2_with fail
        go_roundw
        case rel =>
          refine ⟨j + 1, by omega, val_int (by omega), ?_, HK3.out⟩
          have e := HNX.out _ rfl
          rw [if_neg h0] at e
          show Pr _ _ _ _
          rw [← e]; exact HP3.out
        case measure => simp [intOf]; omega
    · obtain rfl : j = N := by omega
      by_cases h0 : j = 0
      · subst h0
        go_wp2_with fail
        go_at_call 71
        refine (CW.out c _ _ HPJ.out (by omega)).mono ?_
        rintro e w5 ⟨rfl, hp5, hk5⟩
        have HP5 := hid hp5
        have HK5 := hid (HKJ.out.trans hk5)
        clear hp5 hk5
        go_wp2_with fail
        first | go_end0 | refine bodyPost_ret (results_none rfl _ _ _) rfl ?_
        refine ⟨rfl, ?_, HK5.out⟩
        have e : l ++ (o :: (ptB inl k G 0 ++ [c])) = l ++ (o :: ptB inl k G 0) ++ (⟨#[c]⟩ : ByteArray).data.toList := by simp
        rw [e]; exact HP5.out
      · have hj0 : 0 < j := by omega
        have hl1 := HLN.out k (by omega)
        go_wp2_with fail
        go_at_call 97
        refine (CL.out k _ _ (by omega) HPJ.out (by omega)).mono ?_
        rintro e w4 ⟨rfl, hp4, hk4⟩
        have HP4 := hid hp4
        have HK4 := hid (HKJ.out.trans hk4)
        clear hp4 hk4
        go_wp2_with fail
        go_at_call 71
        refine (CW.out c _ _ HP4.out (by rw [List.length_append]; omega)).mono ?_
        rintro e w5 ⟨rfl, hp5, hk5⟩
        have HP5 := hid hp5
        have HK5 := hid (HK4.out.trans hk5)
        clear hp5 hk5
        go_wp2_with fail
        first | go_end0 | refine bodyPost_ret (results_none rfl _ _ _) rfl ?_
        refine ⟨rfl, ?_, HK5.out⟩
        have e : l ++ (o :: (ptB inl k G j ++ (txs (lnT (indO inl k)) ++ [c]))) = l ++ (o :: ptB inl k G j) ++ txs (lnT (indO inl k)) ++ (⟨#[c]⟩ : ByteArray).data.toList := by simp
        rw [e]; exact HP5.out
end Go.Proofs.YtkhjahpkbjafaaaGreatDoor
