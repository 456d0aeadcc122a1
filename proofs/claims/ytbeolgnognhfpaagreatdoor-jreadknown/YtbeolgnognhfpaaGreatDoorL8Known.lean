/- The statement JreadKnown: walked. -/
import Derived.Test.YtbeolgnognhfpaaGreatDoorL8Says
namespace Go.Proofs.YtbeolgnognhfpaaGreatDoor
open Go.RowKit

set_option maxRecDepth 100000 in
theorem jc1 : jrA (⟨#[123, 34, 97, 34, 58, 49, 44, 34, 97, 34, 58, 50, 125]⟩ : ByteArray).data.toList = .bad 5 7 := by kernel_rfl
set_option maxRecDepth 100000 in
theorem jd1 : faultV ⟨#[123, 34, 97, 34, 58, 49, 44, 34, 97, 34, 58, 50, 125]⟩ ((7 : Nat) : Int) ((5 : Nat) : Int) = .agg #[.int .i64 5, .int .i64 7, .int .i64 1, .int .i64 8] := by kernel_rfl
set_option maxRecDepth 100000 in
theorem jc2 : jrA ((mkS (List.replicate 32 91) ++ ⟨#[91]⟩) : ByteArray).data.toList = .bad 2 32 := by kernel_rfl
set_option maxRecDepth 100000 in
theorem jd2 : faultV (mkS (List.replicate 32 91) ++ ⟨#[91]⟩) ((32 : Nat) : Int) ((2 : Nat) : Int) = .agg #[.int .i64 2, .int .i64 32, .int .i64 1, .int .i64 33] := by kernel_rfl
set_option maxRecDepth 100000 in
theorem jc3 : jrA ((mkS (List.replicate 32 91) ++ ⟨#[93]⟩) : ByteArray).data.toList = .bad 4 33 := by kernel_rfl
set_option maxRecDepth 100000 in
theorem jd3 : faultV (mkS (List.replicate 32 91) ++ ⟨#[93]⟩) ((33 : Nat) : Int) ((4 : Nat) : Int) = .agg #[.int .i64 4, .int .i64 33, .int .i64 1, .int .i64 34] := by kernel_rfl
set_option maxRecDepth 100000 in
theorem jc4 : jrA (⟨#[]⟩ : ByteArray).data.toList = .bad 4 0 := by kernel_rfl
set_option maxRecDepth 100000 in
theorem jd4 : faultV ⟨#[]⟩ ((0 : Nat) : Int) ((4 : Nat) : Int) = .agg #[.int .i64 4, .int .i64 0, .int .i64 1, .int .i64 1] := by kernel_rfl
set_option maxRecDepth 100000 in
theorem jc5 : jrA (⟨#[49, 46, 48]⟩ : ByteArray).data.toList = .ok (leafT 3 0 ⟨#[49, 46, 48]⟩) 1 [⟨0, [], 3⟩] := by kernel_rfl
theorem rep_next (k : Nat) : mkS (List.replicate k 91) ++ ⟨#[91]⟩ = mkS (List.replicate (k + 1) 91) := by
  apply ByteArray.ext
  apply Array.ext'
  simp [mkS, ← List.replicate_succ']
theorem rep_size (k : Nat) : (mkS (List.replicate k (91 : UInt8))).size = k := by rw [mkS_size, List.length_replicate]
set_option maxRecDepth 100000 in
set_option maxHeartbeats 4000000 in
theorem Tryz.jreadKnown_walk (w : World) (hgs : Globs w) :
    Calls Tryz.prog 3 #[] w fun e w' => e = .returned (.bool true) ∧ Below w.heap.size w w' := by
  obtain ⟨hg, hu⟩ := hgs
  have CA := hid (awake8 w hg hu)
  have C1 := hid (fun X (hX : Below w.heap.size w X) => jparse_any ⟨#[123, 34, 97, 34, 58, 49, 44, 34, 97, 34, 58, 50, 125]⟩ X (by decide) (hg.on hX) (hu.on hX))
  rw [jc1] at C1
  unfold Jq at C1
  dsimp only at C1
  rw [jd1] at C1
  have C2 := hid (fun X (hX : Below w.heap.size w X) => jparse_any (mkS (List.replicate 32 91) ++ ⟨#[91]⟩) X (by decide) (hg.on hX) (hu.on hX))
  rw [jc2] at C2
  unfold Jq at C2
  dsimp only at C2
  rw [jd2] at C2
  have C3 := hid (fun X (hX : Below w.heap.size w X) => jparse_any (mkS (List.replicate 32 91) ++ ⟨#[93]⟩) X (by decide) (hg.on hX) (hu.on hX))
  rw [jc3] at C3
  unfold Jq at C3
  dsimp only at C3
  rw [jd3] at C3
  have C4 := hid (fun X (hX : Below w.heap.size w X) => jparse_any ⟨#[]⟩ X (by decide) (hg.on hX) (hu.on hX))
  rw [jc4] at C4
  unfold Jq at C4
  dsimp only at C4
  rw [jd4] at C4
  have C5 := hid (fun X (hX : Below w.heap.size w X) => jparse_any ⟨#[49, 46, 48]⟩ X (by decide) (hg.on hX) (hu.on hX))
  rw [jc5] at C5
  clear hg hu
  go_enter Tryz.func3, Tryz.ntmps3
  go_wp2_with fail
  go_at_call 17
  refine CA.out.mono ?_
  rintro e w0 ⟨rfl, hb0⟩
  have HB0 := hid hb0
  clear hb0 CA
  go_wp2_with fail
  go_loopw [1, 2] (fun s i wr => ∃ k : Nat, k ≤ 32 ∧ i = .int .i64 k ∧ s = .string (mkS (List.replicate k 91)) ∧ wr = w0) (fun _ i _ => 32 - (intOf i).toNat)
  case atStart => exact ⟨0, by omega, rfl, rfl, rfl⟩
  case round =>
    obtain ⟨k, hk, rfl, rfl, rfl⟩ := hrel
    have HRN := hid (rep_next k)
    have hrs := rep_size k
    by_cases hlt : k < 32
    · obtain ⟨m, hm⟩ : ∃ m, mkS (List.replicate k (91 : UInt8)) = m := ⟨_, rfl⟩
      rw [hm] at HRN hrs ⊢
      have hms : m.size ≤ 32 := by omega
      clear hm hrs
      go_wp2_with fail
      go_roundw
      case rel => exact ⟨k + 1, by omega, val_int (by omega), by rw [HRN.out], by first | trivial | rfl⟩
      case measure => simp [intOf]; omega
    · obtain rfl : k = 32 := by omega
      obtain ⟨m, hm⟩ : ∃ m, mkS (List.replicate 32 (91 : UInt8)) = m := ⟨_, rfl⟩
      rw [hm] at hrs C2 C3 ⊢
      have hms : m.size ≤ 32 := by omega
      clear hm hrs HRN hlt hk
      go_wp2_with fail
      go_at_call 18
      refine (C1.out _ HB0.out).mono ?_
      rintro e w1 ⟨rfl, hb1⟩
      have hk1 := valloc_bel (valloc_bel (Below.refl w1.heap.size w1) (.cells #[.int .i64 0, .int .i64 0, .string ⟨#[]⟩, .slice none 0 0, .slice none 0 0] 27)) (.cells #[.int .i64 5, .int .i64 7, .int .i64 1, .int .i64 8] 30)
      have f10 : ((w1.alloc (.cells #[.int .i64 0, .int .i64 0, .string ⟨#[]⟩, .slice none 0 0, .slice none 0 0] 27)).alloc (.cells #[.int .i64 5, .int .i64 7, .int .i64 1, .int .i64 8] 30)).cell? ⟨w1.heap.size + 1, 0, none⟩ = some (.int .i64 5) := by rw [← World.size_alloc w1 (.cells #[.int .i64 0, .int .i64 0, .string ⟨#[]⟩, .slice none 0 0, .slice none 0 0] 27)]; simp
      have f11 : ((w1.alloc (.cells #[.int .i64 0, .int .i64 0, .string ⟨#[]⟩, .slice none 0 0, .slice none 0 0] 27)).alloc (.cells #[.int .i64 5, .int .i64 7, .int .i64 1, .int .i64 8] 30)).cell? ⟨w1.heap.size + 1, 1, none⟩ = some (.int .i64 7) := by rw [← World.size_alloc w1 (.cells #[.int .i64 0, .int .i64 0, .string ⟨#[]⟩, .slice none 0 0, .slice none 0 0] 27)]; simp
      have HB1 := hid (vonto (vonto HB0.out hb1) hk1)
      clear hb1 hk1 C1
      simp only [vv, zeroT, VT.kd, VT.nm, VT.st]
      go_upto_region 9 with fail
      generalize ((w1.alloc (.cells #[.int .i64 0, .int .i64 0, .string ⟨#[]⟩, .slice none 0 0, .slice none 0 0] 27)).alloc (.cells #[.int .i64 5, .int .i64 7, .int .i64 1, .int .i64 8] 30)) = X1 at f10 f11 HB1 ⊢
      go_wp2_with fail
      go_at_call 18
      refine (C2.out _ HB1.out).mono ?_
      rintro e w2 ⟨rfl, hb2⟩
      have hk2 := valloc_bel (valloc_bel (Below.refl w2.heap.size w2) (.cells #[.int .i64 0, .int .i64 0, .string ⟨#[]⟩, .slice none 0 0, .slice none 0 0] 27)) (.cells #[.int .i64 2, .int .i64 32, .int .i64 1, .int .i64 33] 30)
      replace f10 := keepCell hk2 (keepCell hb2 f10)
      replace f11 := keepCell hk2 (keepCell hb2 f11)
      have f20 : ((w2.alloc (.cells #[.int .i64 0, .int .i64 0, .string ⟨#[]⟩, .slice none 0 0, .slice none 0 0] 27)).alloc (.cells #[.int .i64 2, .int .i64 32, .int .i64 1, .int .i64 33] 30)).cell? ⟨w2.heap.size + 1, 0, none⟩ = some (.int .i64 2) := by rw [← World.size_alloc w2 (.cells #[.int .i64 0, .int .i64 0, .string ⟨#[]⟩, .slice none 0 0, .slice none 0 0] 27)]; simp
      have f21 : ((w2.alloc (.cells #[.int .i64 0, .int .i64 0, .string ⟨#[]⟩, .slice none 0 0, .slice none 0 0] 27)).alloc (.cells #[.int .i64 2, .int .i64 32, .int .i64 1, .int .i64 33] 30)).cell? ⟨w2.heap.size + 1, 1, none⟩ = some (.int .i64 32) := by rw [← World.size_alloc w2 (.cells #[.int .i64 0, .int .i64 0, .string ⟨#[]⟩, .slice none 0 0, .slice none 0 0] 27)]; simp
      have HB2 := hid (vonto (vonto HB1.out hb2) hk2)
      clear hb2 hk2 C2
      simp only [vv, zeroT, VT.kd, VT.nm, VT.st]
      go_upto_region 10 with fail
      generalize ((w2.alloc (.cells #[.int .i64 0, .int .i64 0, .string ⟨#[]⟩, .slice none 0 0, .slice none 0 0] 27)).alloc (.cells #[.int .i64 2, .int .i64 32, .int .i64 1, .int .i64 33] 30)) = X2 at f10 f11 f20 f21 HB2 ⊢
      go_wp2_with fail
      go_at_call 18
      refine (C3.out _ HB2.out).mono ?_
      rintro e w3 ⟨rfl, hb3⟩
      have hk3 := valloc_bel (valloc_bel (Below.refl w3.heap.size w3) (.cells #[.int .i64 0, .int .i64 0, .string ⟨#[]⟩, .slice none 0 0, .slice none 0 0] 27)) (.cells #[.int .i64 4, .int .i64 33, .int .i64 1, .int .i64 34] 30)
      replace f10 := keepCell hk3 (keepCell hb3 f10)
      replace f11 := keepCell hk3 (keepCell hb3 f11)
      replace f20 := keepCell hk3 (keepCell hb3 f20)
      replace f21 := keepCell hk3 (keepCell hb3 f21)
      have f30 : ((w3.alloc (.cells #[.int .i64 0, .int .i64 0, .string ⟨#[]⟩, .slice none 0 0, .slice none 0 0] 27)).alloc (.cells #[.int .i64 4, .int .i64 33, .int .i64 1, .int .i64 34] 30)).cell? ⟨w3.heap.size + 1, 0, none⟩ = some (.int .i64 4) := by rw [← World.size_alloc w3 (.cells #[.int .i64 0, .int .i64 0, .string ⟨#[]⟩, .slice none 0 0, .slice none 0 0] 27)]; simp
      have f31 : ((w3.alloc (.cells #[.int .i64 0, .int .i64 0, .string ⟨#[]⟩, .slice none 0 0, .slice none 0 0] 27)).alloc (.cells #[.int .i64 4, .int .i64 33, .int .i64 1, .int .i64 34] 30)).cell? ⟨w3.heap.size + 1, 1, none⟩ = some (.int .i64 33) := by rw [← World.size_alloc w3 (.cells #[.int .i64 0, .int .i64 0, .string ⟨#[]⟩, .slice none 0 0, .slice none 0 0] 27)]; simp
      have HB3 := hid (vonto (vonto HB2.out hb3) hk3)
      clear hb3 hk3 C3
      simp only [vv, zeroT, VT.kd, VT.nm, VT.st]
      go_upto_region 11 with fail
      generalize ((w3.alloc (.cells #[.int .i64 0, .int .i64 0, .string ⟨#[]⟩, .slice none 0 0, .slice none 0 0] 27)).alloc (.cells #[.int .i64 4, .int .i64 33, .int .i64 1, .int .i64 34] 30)) = X3 at f10 f11 f20 f21 f30 f31 HB3 ⊢
      go_wp2_with fail
      go_at_call 18
      refine (C4.out _ HB3.out).mono ?_
      rintro e w4 ⟨rfl, hb4⟩
      have hk4 := valloc_bel (valloc_bel (Below.refl w4.heap.size w4) (.cells #[.int .i64 0, .int .i64 0, .string ⟨#[]⟩, .slice none 0 0, .slice none 0 0] 27)) (.cells #[.int .i64 4, .int .i64 0, .int .i64 1, .int .i64 1] 30)
      replace f10 := keepCell hk4 (keepCell hb4 f10)
      replace f11 := keepCell hk4 (keepCell hb4 f11)
      replace f20 := keepCell hk4 (keepCell hb4 f20)
      replace f21 := keepCell hk4 (keepCell hb4 f21)
      replace f30 := keepCell hk4 (keepCell hb4 f30)
      replace f31 := keepCell hk4 (keepCell hb4 f31)
      have f40 : ((w4.alloc (.cells #[.int .i64 0, .int .i64 0, .string ⟨#[]⟩, .slice none 0 0, .slice none 0 0] 27)).alloc (.cells #[.int .i64 4, .int .i64 0, .int .i64 1, .int .i64 1] 30)).cell? ⟨w4.heap.size + 1, 0, none⟩ = some (.int .i64 4) := by rw [← World.size_alloc w4 (.cells #[.int .i64 0, .int .i64 0, .string ⟨#[]⟩, .slice none 0 0, .slice none 0 0] 27)]; simp
      have f41 : ((w4.alloc (.cells #[.int .i64 0, .int .i64 0, .string ⟨#[]⟩, .slice none 0 0, .slice none 0 0] 27)).alloc (.cells #[.int .i64 4, .int .i64 0, .int .i64 1, .int .i64 1] 30)).cell? ⟨w4.heap.size + 1, 1, none⟩ = some (.int .i64 0) := by rw [← World.size_alloc w4 (.cells #[.int .i64 0, .int .i64 0, .string ⟨#[]⟩, .slice none 0 0, .slice none 0 0] 27)]; simp
      have HB4 := hid (vonto (vonto HB3.out hb4) hk4)
      clear hb4 hk4 C4
      simp only [vv, zeroT, VT.kd, VT.nm, VT.st]
      go_upto_region 12 with fail
      generalize ((w4.alloc (.cells #[.int .i64 0, .int .i64 0, .string ⟨#[]⟩, .slice none 0 0, .slice none 0 0] 27)).alloc (.cells #[.int .i64 4, .int .i64 0, .int .i64 1, .int .i64 1] 30)) = X4 at f10 f11 f20 f21 f30 f31 f40 f41 HB4 ⊢
      go_wp2_with fail
      go_at_call 18
      refine (C5.out _ HB4.out).mono ?_
      rintro e w5 ⟨o, n, c, o', n', c', rfl, hs5, hb5⟩
      have hk5 := valloc_bel (valloc_bel (Below.refl w5.heap.size w5) (.cells #[.int .i64 3, .int .i64 0, .string ⟨#[49, 46, 48]⟩, .slice o n c, .slice o' n' c'] 27)) (.cells #[.int .i64 0, .int .i64 0, .int .i64 0, .int .i64 0] 30)
      replace f10 := keepCell hk5 (keepCell hb5 f10)
      replace f11 := keepCell hk5 (keepCell hb5 f11)
      replace f20 := keepCell hk5 (keepCell hb5 f20)
      replace f21 := keepCell hk5 (keepCell hb5 f21)
      replace f30 := keepCell hk5 (keepCell hb5 f30)
      replace f31 := keepCell hk5 (keepCell hb5 f31)
      replace f40 := keepCell hk5 (keepCell hb5 f40)
      replace f41 := keepCell hk5 (keepCell hb5 f41)
      have f50 : ((w5.alloc (.cells #[.int .i64 3, .int .i64 0, .string ⟨#[49, 46, 48]⟩, .slice o n c, .slice o' n' c'] 27)).alloc (.cells #[.int .i64 0, .int .i64 0, .int .i64 0, .int .i64 0] 30)).cell? ⟨w5.heap.size + 1, 0, none⟩ = some (.int .i64 0) := by rw [← World.size_alloc w5 (.cells #[.int .i64 3, .int .i64 0, .string ⟨#[49, 46, 48]⟩, .slice o n c, .slice o' n' c'] 27)]; simp
      have f51 : ((w5.alloc (.cells #[.int .i64 3, .int .i64 0, .string ⟨#[49, 46, 48]⟩, .slice o n c, .slice o' n' c'] 27)).alloc (.cells #[.int .i64 0, .int .i64 0, .int .i64 0, .int .i64 0] 30)).cell? ⟨w5.heap.size + 1, 1, none⟩ = some (.int .i64 0) := by rw [← World.size_alloc w5 (.cells #[.int .i64 3, .int .i64 0, .string ⟨#[49, 46, 48]⟩, .slice o n c, .slice o' n' c'] 27)]; simp
      have v0 : ((w5.alloc (.cells #[.int .i64 3, .int .i64 0, .string ⟨#[49, 46, 48]⟩, .slice o n c, .slice o' n' c'] 27)).alloc (.cells #[.int .i64 0, .int .i64 0, .int .i64 0, .int .i64 0] 30)).cell? ⟨w5.heap.size, 0, none⟩ = some (.int .i64 3) := by simp
      have v2 : ((w5.alloc (.cells #[.int .i64 3, .int .i64 0, .string ⟨#[49, 46, 48]⟩, .slice o n c, .slice o' n' c'] 27)).alloc (.cells #[.int .i64 0, .int .i64 0, .int .i64 0, .int .i64 0] 30)).cell? ⟨w5.heap.size, 2, none⟩ = some (.string ⟨#[49, 46, 48]⟩) := by simp
      have HB5 := hid (vonto (vonto HB4.out hb5) hk5)
      clear hb5 hk5 C5 hs5
      simp only [vv, leafT, VT.kd, VT.nm, VT.st]
      go_upto_region 13 with fail
      generalize ((w5.alloc (.cells #[.int .i64 3, .int .i64 0, .string ⟨#[49, 46, 48]⟩, .slice o n c, .slice o' n' c'] 27)).alloc (.cells #[.int .i64 0, .int .i64 0, .int .i64 0, .int .i64 0] 30)) = X5 at f10 f11 f20 f21 f30 f31 f40 f41 f50 f51 v0 v2 HB5 ⊢
      go_wp2_with fail
      go_ret
      exact ⟨rfl, HB5.out⟩
end Go.Proofs.YtbeolgnognhfpaaGreatDoor
