/- esc.quoteByte: walked. -/
import Derived.Test.YtkhjahpkbjafaaaGreatDoorTEscSide
namespace Go.Proofs.YtkhjahpkbjafaaaGreatDoor
open Go.RowKit

theorem enc_sml (n : Nat) (h : n < 128) : Utf8.encode (n : Int) = mkS [UInt8.ofNat n] := by
  unfold Utf8.encode
  have hv : Utf8.valid (n : Int) = true := by unfold Utf8.valid; simp; omega
  simp only [hv, if_true, Int.toNat_natCast, h]
  rfl
def hexS : ByteArray := ⟨#[48, 49, 50, 51, 52, 53, 54, 55, 56, 57, 97, 98, 99, 100, 101, 102]⟩
theorem hex_cut : ∀ n < 16, (hexS.extract n (n + 1)).data.toList = [hxD n] := by decide
theorem hex_two (n : Nat) (h : n < 256) : (⟨#[92, 117, 48, 48]⟩ : ByteArray) ++ hexS.extract (n / 16) (n / 16 + 1) ++ hexS.extract (n % 16) (n % 16 + 1) = mkS [92, 117, 48, 48, hxD (n / 16), hxD (n % 16)] := by
  refine mkS_of _ _ ?_
  rw [ByteArray.data_append, ByteArray.data_append, Array.toList_append, Array.toList_append, hex_cut _ (by omega), hex_cut _ (by omega)]; rfl
set_option maxRecDepth 100000 in
set_option maxHeartbeats 1000000 in
theorem qbyte_any (b : UInt8) (w : World) (hb : b.toNat < 128) :
    Calls Tryz.prog 153 #[.int .u8 (b.toNat : Int)] w fun e w' => e = .returned (.string (mkS (qbB b.toNat))) ∧ Below w.heap.size w w' := by
  have hO := enc_sml b.toNat hb
  obtain ⟨n, hn⟩ : ∃ n, b.toNat = n := ⟨_, rfl⟩
  rw [hn] at hO hb ⊢
  obtain ⟨m, hm⟩ : ∃ m, Utf8.encode (n : Int) = m := ⟨_, rfl⟩
  have HM := hid (show m = mkS [UInt8.ofNat n] by rw [← hm, hO])
  have hms : m.size = 1 := by rw [HM.out, mkS_size]; rfl
  clear hn hO
  by_cases h1 : n = 34 ∨ n = 92
  · have HQ := hid (show qbB n = [92, UInt8.ofNat n] by unfold qbB; rw [if_pos h1])
    have h1' : ((n : Int) == 34) = true ∨ (((n : Int) == 34) = false ∧ ((n : Int) == 92) = true) := by simp only [beq_iff_eq, beq_eq_false_iff_ne]; omega
    clear h1
    rcases h1' with g | ⟨g, g2⟩
    all_goals
      go_enter Tryz.func153, Tryz.ntmps153
      go_wp2
      go_ret
      exact ⟨ret_st (by rw [HQ.out, HM.out]; rfl), Below.refl _ _⟩
  · have a1 : ((n : Int) == 34) = false := by rw [beq_eq_false_iff_ne]; omega
    have a2 : ((n : Int) == 92) = false := by rw [beq_eq_false_iff_ne]; omega
    by_cases h2 : n = 8 ∨ n = 9 ∨ n = 10 ∨ n = 12 ∨ n = 13
    · clear HM hm hms a1 a2 h1 hb
      rcases h2 with rfl | rfl | rfl | rfl | rfl
      all_goals
        go_enter Tryz.func153, Tryz.ntmps153
        go_wp2
        go_ret
        exact ⟨rfl, Below.refl _ _⟩
    · have a3 : ((n : Int) == 8) = false := by rw [beq_eq_false_iff_ne]; omega
      have a4 : ((n : Int) == 9) = false := by rw [beq_eq_false_iff_ne]; omega
      have a5 : ((n : Int) == 10) = false := by rw [beq_eq_false_iff_ne]; omega
      have a6 : ((n : Int) == 12) = false := by rw [beq_eq_false_iff_ne]; omega
      have a7 : ((n : Int) == 13) = false := by rw [beq_eq_false_iff_ne]; omega
      by_cases h3 : n < 32 ∨ n = 127
      · have HQ := hid (show qbB n = [92, 117, 48, 48, hxD (n / 16), hxD (n % 16)] by
          unfold qbB; rw [if_neg h1, if_neg (by omega), if_neg (by omega), if_neg (by omega), if_neg (by omega), if_neg (by omega), if_pos h3])
        have HX := hid (hex_two n (by omega))
        have hand : bits .and .u8 (n : Int) 15 = (n : Int) % 16 := (and_parts n (by omega)).2.1
        have h3' : (decide ((n : Int) < 32) = true) ∨ (decide ((n : Int) < 32) = false ∧ ((n : Int) == 127) = true) := by simp only [decide_eq_true_eq, decide_eq_false_iff_not, beq_iff_eq]; omega
        clear h1 h2 h3 HM hm hms
        rcases h3' with g | ⟨g, g2⟩
        all_goals
          go_enter Tryz.func153, Tryz.ntmps153
          go_wp2
          go_quiet (fail)
          go_wp2
          go_ret
          exact ⟨ret_st (by rw [HQ.out]; exact HX.out), drewN_below _ _⟩
      · have HQ := hid (show qbB n = [UInt8.ofNat n] by
          unfold qbB; rw [if_neg h1, if_neg (by omega), if_neg (by omega), if_neg (by omega), if_neg (by omega), if_neg (by omega), if_neg h3])
        have g : ¬ (n : Int) < 32 := by omega
        have g2 : ((n : Int) == 127) = false := by rw [beq_eq_false_iff_ne]; omega
        clear h1 h2 h3
        go_enter Tryz.func153, Tryz.ntmps153
        go_wp2
        go_ret
        exact ⟨ret_st (by rw [HQ.out, HM.out]), Below.refl _ _⟩
end Go.Proofs.YtkhjahpkbjafaaaGreatDoor
