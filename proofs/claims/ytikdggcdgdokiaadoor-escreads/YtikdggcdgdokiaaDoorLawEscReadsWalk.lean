/- EscReads, walked. -/
import Derived.Test.YtikdggcdgdokiaaDoorEscAwake
import Derived.Test.YtikdggcdgdokiaaDoorEscRT2
import Derived.OpenShut
namespace Go.Proofs.YtikdggcdgdokiaaDoor
open Go.RowKit

set_option maxRecDepth 100000 in
set_option maxHeartbeats 1000000 in
theorem rtunq_any (t : ByteArray) (a : Int) (w : World) (ht : t.size ≤ 1000000) :
    Calls Tryd.prog 13 #[.string t, .int .i64 a] w fun e w' => e = .returned (.tuple #[.string (mkS (unqT t.data.toList a).1), .int .i64 ((unqT t.data.toList a).2.1 : Nat), .int .i64 (unqT t.data.toList a).2.2]) ∧ Below w.heap.size w w' := by
  have HZ := hid (size_list t)
  have HP := hid (fun X => place_any t a X)
  by_cases h0 : a < 0
  · have HR := hid (unqT_out t.data.toList a (by omega))
    go_enter Tryd.func13, Tryd.ntmps13
    go_wp2_with (go_at_call 36; go_must (refine (HP.out _).mono ?_; rintro e w1 ⟨rfl, rfl⟩))
    go_ret3
    exact ⟨ret_snn (by rw [HR.out]; rfl) (by rw [HR.out]; rfl) (by rw [HR.out]), Below.refl _ _⟩
  · obtain ⟨n, rfl⟩ : ∃ n : Nat, a = n := ⟨a.toNat, by omega⟩
    by_cases hn : n < t.size
    · by_cases hq : t[n].toNat = 34 ∨ t[n].toNat = 39
      · exact rtunq_in _ t n w ht hn hq rfl
      · have hb := bt_at t n hn
        have HR := hid (show unqT t.data.toList (n : Int) = ([], 0, plc t.data.toList (n : Int)) by
          have hb0 : bt (t.data.toList.drop n) 0 = t[n].toNat := by rw [bt_drop]; exact hb
          unfold unqT
          rw [Int.toNat_natCast, m3_other hb0 (by omega), m3_other hb0 (by omega), hb, if_neg (by simp), if_neg (by simp), if_neg (by omega), if_neg (by omega)])
        have g : ((t[n].toNat : Int) != 34) = true := by rw [bne_iff_ne]; omega
        have g2 : ((t[n].toNat : Int) != 39) = true := by rw [bne_iff_ne]; omega
        clear hq hb
        go_enter Tryd.func13, Tryd.ntmps13
        go_wp2_with (go_at_call 36; go_must (refine (HP.out _).mono ?_; rintro e w1 ⟨rfl, rfl⟩))
        go_ret3
        exact ⟨ret_snn (by rw [HR.out]; rfl) (by rw [HR.out]; rfl) (by rw [HR.out]), Below.refl _ _⟩
    · have HR := hid (show unqT t.data.toList (n : Int) = ([], 0, plc t.data.toList (n : Int)) by
        have hb0 : bt (t.data.toList.drop n) 0 = 256 := by rw [bt_drop]; exact bt_none (by rw [HZ.out]; omega)
        have hb : bt t.data.toList n = 256 := bt_none (by rw [HZ.out]; omega)
        unfold unqT
        rw [Int.toNat_natCast, m3_other hb0 (by omega), m3_other hb0 (by omega), hb, if_neg (by simp), if_neg (by simp), if_neg (by omega), if_neg (by omega)])
      go_enter Tryd.func13, Tryd.ntmps13
      go_wp2_with (go_at_call 36; go_must (refine (HP.out _).mono ?_; rintro e w1 ⟨rfl, rfl⟩))
      go_ret3
      exact ⟨ret_snn (by rw [HR.out]; rfl) (by rw [HR.out]; rfl) (by rw [HR.out]), Below.refl _ _⟩
set_option maxRecDepth 100000 in
set_option maxHeartbeats 2000000 in
theorem escReads_walk (t : ByteArray) (a : Int) (w0 : t.size ≤ maxLen) (_w1 : (Lit.int .i64 a).wf = true) (w : World) :
    Calls Tryd.prog 4 #[.string t, .int .i64 a] w fun e w' => e = .returned (.bool true) ∧ Below w.heap.size w w' := by
  unfold maxLen at w0
  by_cases hbig : 500 < t.size
  · have g : decide (500 < (t.size : Int)) = true := decide_eq_true (by omega)
    go_enter Tryd.func4, Tryd.ntmps4
    go_wp2_with (go_at_call 8; go_must (refine (awake_any _).mono ?_; rintro e wa ⟨rfl, hba⟩))
    go_ret
    exact ⟨rfl, hba⟩
  · have g : ¬ 500 < (t.size : Int) := by omega
    have C1 := hid (fun X => unq_any t a X (by omega))
    have C2 := hid (fun X => runq_any t a X (by omega))
    have C3 := hid (fun X => tunq_any t a X (by omega))
    have C4 := hid (fun X => rtunq_any t a X (by omega))
    obtain ⟨x1, hx1⟩ : ∃ x, mkS (unqJ t.data.toList a).1 = x := ⟨_, rfl⟩
    obtain ⟨x2, hx2⟩ : ∃ x, (unqJ t.data.toList a).2.1 = x := ⟨_, rfl⟩
    obtain ⟨x3, hx3⟩ : ∃ x, (unqJ t.data.toList a).2.2 = x := ⟨_, rfl⟩
    obtain ⟨y1, hy1⟩ : ∃ x, mkS (unqT t.data.toList a).1 = x := ⟨_, rfl⟩
    obtain ⟨y2, hy2⟩ : ∃ x, (unqT t.data.toList a).2.1 = x := ⟨_, rfl⟩
    obtain ⟨y3, hy3⟩ : ∃ x, (unqT t.data.toList a).2.2 = x := ⟨_, rfl⟩
    rw [hx1, hx2, hx3] at C1 C2
    rw [hy1, hy2, hy3] at C3 C4
    clear hx1 hx2 hx3 hy1 hy2 hy3 hbig
    go_enter Tryd.func4, Tryd.ntmps4
    go_wp2_with (first
      | (go_at_call 8; go_must (refine (awake_any _).mono ?_; rintro e wa ⟨rfl, hba⟩))
      | (go_at_call 9; go_must (refine (C1.out _).mono ?_; rintro e wb ⟨rfl, hbb⟩))
      | (go_at_call 12; go_must (refine (C2.out _).mono ?_; rintro e wc ⟨rfl, hbc⟩))
      | (go_at_call 10; go_must (refine (C3.out _).mono ?_; rintro e wd ⟨rfl, hbd⟩))
      | (go_at_call 13; go_must (refine (C4.out _).mono ?_; rintro e we ⟨rfl, hbe⟩)))
    go_ret
    exact ⟨rfl, eonto (eonto (eonto (eonto hba hbb) hbc) hbd) hbe⟩
end Go.Proofs.YtikdggcdgdokiaaDoor
