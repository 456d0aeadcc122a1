/- tlex.Skip: walked. -/
import Derived.Test.YtiafcbmmadikcaaGreatDoorTlA
namespace Go.Proofs.YtiafcbmmadikcaaGreatDoor
open Go.RowKit

/-- where one is behind what does not count -/
def skA (lines : Bool) (T : List UInt8) (a : Int) : Nat := (plc T a).toNat + skT lines (T.drop (plc T a).toNat)
theorem tplc_in (T : List UInt8) (a : Int) : 0 ≤ plc T a ∧ plc T a ≤ T.length := by unfold plc; (repeat' split) <;> omega
theorem skT_le (b : Bool) (l : List UInt8) : skT b l ≤ l.length := by
  unfold skT; split
  · exact skM_le _ _
  · exact run_leE _ _
theorem skA_le (b : Bool) (T : List UInt8) (a : Int) : skA b T a ≤ T.length := by
  have h := tplc_in T a
  have h2 := skT_le b (T.drop (plc T a).toNat)
  rw [List.length_drop] at h2
  unfold skA; omega
set_option maxRecDepth 100000 in
set_option maxHeartbeats 1000000 in
theorem tskip_any (t : ByteArray) (a : Int) (lines : Bool) (w : World) (ht : t.size ≤ 1000000) :
    Calls Tryz.prog 16 #[.string t, .int .i64 a, .bool lines] w fun e w' => e = .returned (.int .i64 (skA lines t.data.toList a : Nat)) ∧ Below w.heap.size w w' := by
  have HZ := hid (size_list t)
  have HC := hid (fun X => tclamp_any t a X)
  have HP := hid (tplc_in t.data.toList a)
  obtain ⟨p, hp⟩ : ∃ p : Nat, plc t.data.toList a = (p : Int) := ⟨(plc t.data.toList a).toNat, by have := HP.out; omega⟩
  have hpt : p ≤ t.size := by have := HP.out; rw [hp, HZ.out] at this; omega
  have HR := hid (fun (k : Nat) (h : k ≤ t.size) X => trow_bk t k X ht h)
  have HA : Hid (skA lines t.data.toList a = p + skT lines (t.data.toList.drop p)) := by
    show skA lines t.data.toList a = _
    unfold skA; rw [hp]; rfl
  rw [hp] at HC
  have HL := hid (fun (k : Nat) X => tline_any (t.extract k t.size) X)
  have HB1 := hid (fun k => run_leE bkB (t.data.toList.drop k))
  clear HP hp
  cases lines with
  | false =>
    have HA2 := hid (show skA false t.data.toList a = p + run bkB (t.data.toList.drop p) from HA.out)
    obtain ⟨n, hn⟩ : ∃ n, run bkB (t.data.toList.drop p) = n := ⟨_, rfl⟩
    have HR2 := hid (HR.out p hpt)
    have hnle := HB1.out p
    rw [List.length_drop, HZ.out] at hnle
    rw [hn] at HA2 HR2 hnle
    clear HA hn HB1 HL
    go_enter Tryz.func16, Tryz.ntmps16
    go_wp2_with (first
      | (go_at_call 24; go_must (refine (HC.out _).mono ?_; rintro e w1 ⟨rfl, hw⟩; obtain rfl := hw.symm))
      | (go_at_call 28; go_must (refine (HR2.out _).mono ?_; rintro e w1 ⟨rfl, hb⟩)))
    go_ret
    exact ⟨ret_int (by rw [HA2.out]; omega), hb⟩
  | true =>
    have HA2 := hid (show skA true t.data.toList a = p + skM false (t.data.toList.drop p) from HA.out)
    have HR2 := hid (HR.out p hpt)
    have hnle := HB1.out p
    rw [List.length_drop, HZ.out] at hnle
    rw [skM_run] at HA2
    have HS := hid (run_drop0 bkB (t.data.toList.drop p))
    rw [List.drop_drop] at HA2 HS
    obtain ⟨n, hn⟩ : ∃ n, run bkB (t.data.toList.drop p) = n := ⟨_, rfl⟩
    rw [hn] at HA2 HS HR2 hnle
    clear HA hn
    go_enter Tryz.func16, Tryz.ntmps16
    go_wp2_with (first
      | (go_at_call 24; go_must (refine (HC.out _).mono ?_; rintro e w1 ⟨rfl, hw⟩; obtain rfl := hw.symm))
      | (go_at_call 28; go_must (refine (HR2.out _).mono ?_; rintro e w1 ⟨rfl, hb⟩)))
    have HB := hid hb
    clear hb HC HR2
    go_loopw [1] (fun x wr => ∃ k : Nat, k ≤ t.size ∧ x = .int .i64 (k : Int) ∧ Hid (run bkB (t.data.toList.drop k) = 0) ∧ Hid (skA true t.data.toList a = k + skM false (t.data.toList.drop k)) ∧ Hid (Below w.heap.size w wr)) (fun x _ => t.size - (intOf x).toNat)
    case atStart => exact ⟨p + n, by omega, val_int (by omega), HS.out, (show _ = _ by rw [HA2.out]; omega), HB.out⟩
    case round =>
      obtain ⟨k, hk, rfl, H0, HK, HBW⟩ := hrel
      have HL2 := hid (HL.out k)
      have HM := hid (skM_line H0.out)
      have hle := lnB_le (t.data.toList.drop k)
      rw [List.length_drop, HZ.out] at hle
      rw [drop_list] at HL2
      obtain ⟨m, hm⟩ : ∃ m, lnB (t.data.toList.drop k) = m := ⟨_, rfl⟩
      rw [hm] at HL2 HM hle
      clear hm
      by_cases hm0 : m = 0
      · subst hm0
        have HE := hid (show skA true t.data.toList a = k by rw [HK.out, HM.out, if_pos rfl]; rfl)
        go_wp2_with (go_at_call 48; go_must (refine (HL2.out _).mono ?_; rintro e w2 ⟨rfl, rfl⟩))
        go_ret
        exact ⟨ret_int (by rw [HE.out]), HBW.out⟩
      · have HE := hid (show skA true t.data.toList a = k + m + skM false (t.data.toList.drop (k + m)) by rw [HK.out, HM.out, if_neg hm0, List.drop_drop]; omega)
        have HR3 := hid (HR.out (k + m) (by omega))
        have hnle3 := HB1.out (k + m)
        rw [List.length_drop, HZ.out] at hnle3
        rw [skM_run] at HE
        have HS3 := hid (run_drop0 bkB (t.data.toList.drop (k + m)))
        rw [List.drop_drop] at HE HS3
        obtain ⟨n3, hn3⟩ : ∃ n, run bkB (t.data.toList.drop (k + m)) = n := ⟨_, rfl⟩
        rw [hn3] at HE HS3 HR3 hnle3
        clear hn3 HM
        have hmi : ((m : Int) == 0) = false := by rw [beq_eq_false_iff_ne]; omega
        have hkm : ((k + m : Nat) : Int) = (k : Int) + (m : Int) := by omega
        rw [hkm] at HR3
        go_wp2_with (first
          | (go_at_call 48; go_must (refine (HL2.out _).mono ?_; rintro e w2 ⟨rfl, rfl⟩))
          | (go_at_call 28; go_must (refine (HR3.out _).mono ?_; rintro e w3 ⟨rfl, hb3⟩)))
        go_round
        case rel => exact ⟨k + m + n3, by omega, val_int (by omega), HS3.out, (show _ = _ by rw [HE.out]; omega), eonto HBW.out hb3⟩
        case measure => simp [intOf]; omega
end Go.Proofs.YtiafcbmmadikcaaGreatDoor
