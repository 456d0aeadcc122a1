/- strconv.ParseInt at digits of base 16, 8, 2: walked whole. -/
import Derived.Test.YtiaepihdfbahaaaGreatDoorATlP
namespace Go.Proofs.YtiaepihdfbahaaaGreatDoor
open Go.RowKit

theorem neq_self (W : World) : (binOp .neq 54 (.iface 156 (.int .i64 1)) (.iface 156 (.int .i64 1))).run Tryz.prog W = .ok (.bool false) W :=
  Lib.run_neq_iface_int W 1 1 Tryz.underlying54 (by kernel_rfl) Tryz.underlying156
theorem toerr_any (base : Int) (s : ByteArray) (w : World) (hg : Glob w) (hs : s.size ≤ 1000000) :
    Calls Tryz.prog 148 #[.string ⟨#[80, 97, 114, 115, 101, 73, 110, 116]⟩, .string s, .int .i64 base, .int .i64 64, .iface 156 (.int .i64 1)] w fun e w' => ∃ t p, e = .returned (.iface t p) ∧ Below w.heap.size w w' := by
  obtain ⟨tp, p, hv⟩ := hg.ran
  refine (Any.strconv_toError_range { Tryz.laysC174 with } ⟨#[80, 97, 114, 115, 101, 73, 110, 116]⟩ s base 64 (.iface tp p) w (by omega) (by have h0 := World.var?_cell Tryz.laysC174.m16 hv 0; simpa using h0) (Or.inr ⟨tp, p, rfl⟩)).mono ?_
  rintro e w' ⟨N, rfl, -, -, hb⟩
  exact ⟨_, _, rfl, hb⟩
set_option maxRecDepth 100000 in
set_option maxHeartbeats 4000000 in
theorem iint16 (s : ByteArray) (w : World) (hne : 0 < s.size) (hs : s.size ≤ 1000000) (hd : ∀ b ∈ s.data.toList, dgB 16 b = true) :
    Calls Tryz.prog 147 #[.string s, .int .i64 16, .int .i64 64] w fun e w' => Below w.heap.size w w' ∧
      ((∃ v, Hid (psV 16 s.data.toList = some v) ∧ e = .returned (.tuple #[.int .i64 v, .nilIface])) ∨ (Hid (psV 16 s.data.toList = none) ∧ ∃ v : Int, e = .returned (.tuple #[.int .i64 v, .iface 156 (.int .i64 1)]))) := by
  have CU := puint16 s w hne hs hd
  have hpu := puB_is 1152921504606846976 16 (by decide) (by decide) s.data.toList 0 (fun b hb => by have := hd b hb; unfold dgB at this; simp at this; exact this.2) (by decide)
  have hpv : s.data.toList.foldl (fun v b => 16 * v + hxV b) 0 = pvB 16 s.data.toList := rfl
  rw [hpv] at hpu
  have hemp : s.toList.isEmpty = false := by
    rw [ByteArray.toList_eq]
    cases h : s.data.toList with
    | nil => rw [← size_list, h] at hne; exact absurd hne (by decide)
    | cons a l => rfl
  have hdg := hd s[0] (List.mem_of_getElem? (show s.data.toList[0]? = some s[0] by rw [List.getElem?_eq_getElem (by rw [size_list]; exact hne)]; rfl))
  have hx : hxI s[0] = true := by unfold dgB at hdg; rw [Bool.and_eq_true] at hdg; exact hdg.1
  have g43 : ((s[0].toNat : Int) == 43) = false := by rw [beq_eq_false_iff_ne]; unfold hxI at hx; simp at hx; omega
  have g45 : ((s[0].toNat : Int) == 45) = false := by rw [beq_eq_false_iff_ne]; unfold hxI at hx; simp at hx; omega
  have HPS : Hid (psV 16 s.data.toList = if pvB 16 s.data.toList < 9223372036854775808 then some (pvB 16 s.data.toList : Int) else none) := rfl
  rw [hpu] at CU
  clear hpu hpv hd hdg hx
  obtain ⟨u, hu⟩ : ∃ u, pvB 16 s.data.toList = u := ⟨_, rfl⟩
  rw [hu] at CU HPS
  clear hu
  generalize psV 16 s.data.toList = R at *
  by_cases h64 : u < 18446744073709551616
  · rw [if_pos h64] at CU
    simp only [puV] at CU
    by_cases h63 : u < 9223372036854775808
    · rw [if_pos h63] at HPS
      have CU2 := hid CU
      clear CU h64
      obtain ⟨a, ha⟩ : ∃ a : Int, (u : Int) = a := ⟨_, rfl⟩
      have a0 : 0 ≤ a := by omega
      have a1 : a < 9223372036854775808 := by omega
      rw [ha] at CU2 HPS
      clear ha h63
      have hlt2 : 0 < s.size := hne
      go_enter Tryz.func147, Tryz.ntmps147
      go_wp2_with (go_at_call 166; go_must (refine CU2.out.mono ?_; rintro e w1 ⟨rfl, hb1⟩))
      go_ret2
      exact ⟨hb1, Or.inl ⟨_, HPS.out, rfl⟩⟩
    · rw [if_neg h63] at HPS
      have CU2 := hid CU
      clear CU
      obtain ⟨a, ha⟩ : ∃ a : Int, (u : Int) = a := ⟨_, rfl⟩
      have a0 : 9223372036854775808 ≤ a := by omega
      have a1 : a < 18446744073709551616 := by omega
      rw [ha] at CU2
      clear ha h63 h64
      have hlt2 : 0 < s.size := hne
      go_enter Tryz.func147, Tryz.ntmps147
      go_wp2_with (go_at_call 166; go_must (refine CU2.out.mono ?_; rintro e w1 ⟨rfl, hb1⟩))
      go_ret2
      exact ⟨hb1, Or.inr ⟨HPS.out, _, rfl⟩⟩
  · rw [if_neg h64] at CU
    rw [if_neg (by omega)] at HPS
    have CU2 := hid CU
    simp only [puV] at CU2
    clear CU h64
    have hq := neq_self
    have hlt2 : 0 < s.size := hne
    go_enter Tryz.func147, Tryz.ntmps147
    go_wp2_with (go_at_call 166; go_must (refine CU2.out.mono ?_; rintro e w1 ⟨rfl, hb1⟩))
    go_ret2
    exact ⟨hb1, Or.inr ⟨HPS.out, _, rfl⟩⟩
set_option maxRecDepth 100000 in
set_option maxHeartbeats 4000000 in
theorem tpint16 (s : ByteArray) (w : World) (hg : Glob w) (hne : 0 < s.size) (hs : s.size ≤ 1000000) (hd : ∀ b ∈ s.data.toList, dgB 16 b = true) :
    Calls Tryz.prog 127 #[.string s, .int .i64 16, .int .i64 64] w fun e w' => Below w.heap.size w w' ∧
      ((∃ v, Hid (psV 16 s.data.toList = some v) ∧ e = .returned (.tuple #[.int .i64 v, .nilIface])) ∨ (Hid (psV 16 s.data.toList = none) ∧ ∃ v t p, e = .returned (.tuple #[.int .i64 v, .iface t p]))) := by
  have CI := hid (iint16 s w hne hs hd)
  have CE := hid (fun X (h : Below w.heap.size w X) => toerr_any 16 s X (hg.on h) hs)
  clear hg hd
  go_enter Tryz.func127, Tryz.ntmps127
  go_upto_region 1 with fail
  go_wp2_with fail
  go_at_call 147
  refine CI.out.mono ?_
  rintro e w1 ⟨hb1, ⟨v, HV, rfl⟩ | ⟨HV, v, rfl⟩⟩
  · go_wp2_with fail
    go_ret2
    exact ⟨hb1, Or.inl ⟨_, HV, rfl⟩⟩
  · go_wp2_with (go_at_call 148; go_must (refine (CE.out _ hb1).mono ?_; rintro e w2 ⟨t, p, rfl, hb2⟩))
    go_ret2
    exact ⟨eonto hb1 hb2, Or.inr ⟨HV, _, _, _, rfl⟩⟩
set_option maxRecDepth 100000 in
set_option maxHeartbeats 4000000 in
theorem iint8 (s : ByteArray) (w : World) (hne : 0 < s.size) (hs : s.size ≤ 1000000) (hd : ∀ b ∈ s.data.toList, dgB 8 b = true) :
    Calls Tryz.prog 147 #[.string s, .int .i64 8, .int .i64 64] w fun e w' => Below w.heap.size w w' ∧
      ((∃ v, Hid (psV 8 s.data.toList = some v) ∧ e = .returned (.tuple #[.int .i64 v, .nilIface])) ∨ (Hid (psV 8 s.data.toList = none) ∧ ∃ v : Int, e = .returned (.tuple #[.int .i64 v, .iface 156 (.int .i64 1)]))) := by
  have CU := puint8 s w hne hs hd
  have hpu := puB_is 2305843009213693952 8 (by decide) (by decide) s.data.toList 0 (fun b hb => by have := hd b hb; unfold dgB at this; simp at this; exact this.2) (by decide)
  have hpv : s.data.toList.foldl (fun v b => 8 * v + hxV b) 0 = pvB 8 s.data.toList := rfl
  rw [hpv] at hpu
  have hemp : s.toList.isEmpty = false := by
    rw [ByteArray.toList_eq]
    cases h : s.data.toList with
    | nil => rw [← size_list, h] at hne; exact absurd hne (by decide)
    | cons a l => rfl
  have hdg := hd s[0] (List.mem_of_getElem? (show s.data.toList[0]? = some s[0] by rw [List.getElem?_eq_getElem (by rw [size_list]; exact hne)]; rfl))
  have hx : hxI s[0] = true := by unfold dgB at hdg; rw [Bool.and_eq_true] at hdg; exact hdg.1
  have g43 : ((s[0].toNat : Int) == 43) = false := by rw [beq_eq_false_iff_ne]; unfold hxI at hx; simp at hx; omega
  have g45 : ((s[0].toNat : Int) == 45) = false := by rw [beq_eq_false_iff_ne]; unfold hxI at hx; simp at hx; omega
  have HPS : Hid (psV 8 s.data.toList = if pvB 8 s.data.toList < 9223372036854775808 then some (pvB 8 s.data.toList : Int) else none) := rfl
  rw [hpu] at CU
  clear hpu hpv hd hdg hx
  obtain ⟨u, hu⟩ : ∃ u, pvB 8 s.data.toList = u := ⟨_, rfl⟩
  rw [hu] at CU HPS
  clear hu
  generalize psV 8 s.data.toList = R at *
  by_cases h64 : u < 18446744073709551616
  · rw [if_pos h64] at CU
    simp only [puV] at CU
    by_cases h63 : u < 9223372036854775808
    · rw [if_pos h63] at HPS
      have CU2 := hid CU
      clear CU h64
      obtain ⟨a, ha⟩ : ∃ a : Int, (u : Int) = a := ⟨_, rfl⟩
      have a0 : 0 ≤ a := by omega
      have a1 : a < 9223372036854775808 := by omega
      rw [ha] at CU2 HPS
      clear ha h63
      have hlt2 : 0 < s.size := hne
      go_enter Tryz.func147, Tryz.ntmps147
      go_wp2_with (go_at_call 166; go_must (refine CU2.out.mono ?_; rintro e w1 ⟨rfl, hb1⟩))
      go_ret2
      exact ⟨hb1, Or.inl ⟨_, HPS.out, rfl⟩⟩
    · rw [if_neg h63] at HPS
      have CU2 := hid CU
      clear CU
      obtain ⟨a, ha⟩ : ∃ a : Int, (u : Int) = a := ⟨_, rfl⟩
      have a0 : 9223372036854775808 ≤ a := by omega
      have a1 : a < 18446744073709551616 := by omega
      rw [ha] at CU2
      clear ha h63 h64
      have hlt2 : 0 < s.size := hne
      go_enter Tryz.func147, Tryz.ntmps147
      go_wp2_with (go_at_call 166; go_must (refine CU2.out.mono ?_; rintro e w1 ⟨rfl, hb1⟩))
      go_ret2
      exact ⟨hb1, Or.inr ⟨HPS.out, _, rfl⟩⟩
  · rw [if_neg h64] at CU
    rw [if_neg (by omega)] at HPS
    have CU2 := hid CU
    simp only [puV] at CU2
    clear CU h64
    have hq := neq_self
    have hlt2 : 0 < s.size := hne
    go_enter Tryz.func147, Tryz.ntmps147
    go_wp2_with (go_at_call 166; go_must (refine CU2.out.mono ?_; rintro e w1 ⟨rfl, hb1⟩))
    go_ret2
    exact ⟨hb1, Or.inr ⟨HPS.out, _, rfl⟩⟩
set_option maxRecDepth 100000 in
set_option maxHeartbeats 4000000 in
theorem tpint8 (s : ByteArray) (w : World) (hg : Glob w) (hne : 0 < s.size) (hs : s.size ≤ 1000000) (hd : ∀ b ∈ s.data.toList, dgB 8 b = true) :
    Calls Tryz.prog 127 #[.string s, .int .i64 8, .int .i64 64] w fun e w' => Below w.heap.size w w' ∧
      ((∃ v, Hid (psV 8 s.data.toList = some v) ∧ e = .returned (.tuple #[.int .i64 v, .nilIface])) ∨ (Hid (psV 8 s.data.toList = none) ∧ ∃ v t p, e = .returned (.tuple #[.int .i64 v, .iface t p]))) := by
  have CI := hid (iint8 s w hne hs hd)
  have CE := hid (fun X (h : Below w.heap.size w X) => toerr_any 8 s X (hg.on h) hs)
  clear hg hd
  go_enter Tryz.func127, Tryz.ntmps127
  go_upto_region 1 with fail
  go_wp2_with fail
  go_at_call 147
  refine CI.out.mono ?_
  rintro e w1 ⟨hb1, ⟨v, HV, rfl⟩ | ⟨HV, v, rfl⟩⟩
  · go_wp2_with fail
    go_ret2
    exact ⟨hb1, Or.inl ⟨_, HV, rfl⟩⟩
  · go_wp2_with (go_at_call 148; go_must (refine (CE.out _ hb1).mono ?_; rintro e w2 ⟨t, p, rfl, hb2⟩))
    go_ret2
    exact ⟨eonto hb1 hb2, Or.inr ⟨HV, _, _, _, rfl⟩⟩
set_option maxRecDepth 100000 in
set_option maxHeartbeats 4000000 in
theorem iint2 (s : ByteArray) (w : World) (hne : 0 < s.size) (hs : s.size ≤ 1000000) (hd : ∀ b ∈ s.data.toList, dgB 2 b = true) :
    Calls Tryz.prog 147 #[.string s, .int .i64 2, .int .i64 64] w fun e w' => Below w.heap.size w w' ∧
      ((∃ v, Hid (psV 2 s.data.toList = some v) ∧ e = .returned (.tuple #[.int .i64 v, .nilIface])) ∨ (Hid (psV 2 s.data.toList = none) ∧ ∃ v : Int, e = .returned (.tuple #[.int .i64 v, .iface 156 (.int .i64 1)]))) := by
  have CU := puint2 s w hne hs hd
  have hpu := puB_is 9223372036854775808 2 (by decide) (by decide) s.data.toList 0 (fun b hb => by have := hd b hb; unfold dgB at this; simp at this; exact this.2) (by decide)
  have hpv : s.data.toList.foldl (fun v b => 2 * v + hxV b) 0 = pvB 2 s.data.toList := rfl
  rw [hpv] at hpu
  have hemp : s.toList.isEmpty = false := by
    rw [ByteArray.toList_eq]
    cases h : s.data.toList with
    | nil => rw [← size_list, h] at hne; exact absurd hne (by decide)
    | cons a l => rfl
  have hdg := hd s[0] (List.mem_of_getElem? (show s.data.toList[0]? = some s[0] by rw [List.getElem?_eq_getElem (by rw [size_list]; exact hne)]; rfl))
  have hx : hxI s[0] = true := by unfold dgB at hdg; rw [Bool.and_eq_true] at hdg; exact hdg.1
  have g43 : ((s[0].toNat : Int) == 43) = false := by rw [beq_eq_false_iff_ne]; unfold hxI at hx; simp at hx; omega
  have g45 : ((s[0].toNat : Int) == 45) = false := by rw [beq_eq_false_iff_ne]; unfold hxI at hx; simp at hx; omega
  have HPS : Hid (psV 2 s.data.toList = if pvB 2 s.data.toList < 9223372036854775808 then some (pvB 2 s.data.toList : Int) else none) := rfl
  rw [hpu] at CU
  clear hpu hpv hd hdg hx
  obtain ⟨u, hu⟩ : ∃ u, pvB 2 s.data.toList = u := ⟨_, rfl⟩
  rw [hu] at CU HPS
  clear hu
  generalize psV 2 s.data.toList = R at *
  by_cases h64 : u < 18446744073709551616
  · rw [if_pos h64] at CU
    simp only [puV] at CU
    by_cases h63 : u < 9223372036854775808
    · rw [if_pos h63] at HPS
      have CU2 := hid CU
      clear CU h64
      obtain ⟨a, ha⟩ : ∃ a : Int, (u : Int) = a := ⟨_, rfl⟩
      have a0 : 0 ≤ a := by omega
      have a1 : a < 9223372036854775808 := by omega
      rw [ha] at CU2 HPS
      clear ha h63
      have hlt2 : 0 < s.size := hne
      go_enter Tryz.func147, Tryz.ntmps147
      go_wp2_with (go_at_call 166; go_must (refine CU2.out.mono ?_; rintro e w1 ⟨rfl, hb1⟩))
      go_ret2
      exact ⟨hb1, Or.inl ⟨_, HPS.out, rfl⟩⟩
    · rw [if_neg h63] at HPS
      have CU2 := hid CU
      clear CU
      obtain ⟨a, ha⟩ : ∃ a : Int, (u : Int) = a := ⟨_, rfl⟩
      have a0 : 9223372036854775808 ≤ a := by omega
      have a1 : a < 18446744073709551616 := by omega
      rw [ha] at CU2
      clear ha h63 h64
      have hlt2 : 0 < s.size := hne
      go_enter Tryz.func147, Tryz.ntmps147
      go_wp2_with (go_at_call 166; go_must (refine CU2.out.mono ?_; rintro e w1 ⟨rfl, hb1⟩))
      go_ret2
      exact ⟨hb1, Or.inr ⟨HPS.out, _, rfl⟩⟩
  · rw [if_neg h64] at CU
    rw [if_neg (by omega)] at HPS
    have CU2 := hid CU
    simp only [puV] at CU2
    clear CU h64
    have hq := neq_self
    have hlt2 : 0 < s.size := hne
    go_enter Tryz.func147, Tryz.ntmps147
    go_wp2_with (go_at_call 166; go_must (refine CU2.out.mono ?_; rintro e w1 ⟨rfl, hb1⟩))
    go_ret2
    exact ⟨hb1, Or.inr ⟨HPS.out, _, rfl⟩⟩
set_option maxRecDepth 100000 in
set_option maxHeartbeats 4000000 in
theorem tpint2 (s : ByteArray) (w : World) (hg : Glob w) (hne : 0 < s.size) (hs : s.size ≤ 1000000) (hd : ∀ b ∈ s.data.toList, dgB 2 b = true) :
    Calls Tryz.prog 127 #[.string s, .int .i64 2, .int .i64 64] w fun e w' => Below w.heap.size w w' ∧
      ((∃ v, Hid (psV 2 s.data.toList = some v) ∧ e = .returned (.tuple #[.int .i64 v, .nilIface])) ∨ (Hid (psV 2 s.data.toList = none) ∧ ∃ v t p, e = .returned (.tuple #[.int .i64 v, .iface t p]))) := by
  have CI := hid (iint2 s w hne hs hd)
  have CE := hid (fun X (h : Below w.heap.size w X) => toerr_any 2 s X (hg.on h) hs)
  clear hg hd
  go_enter Tryz.func127, Tryz.ntmps127
  go_upto_region 1 with fail
  go_wp2_with fail
  go_at_call 147
  refine CI.out.mono ?_
  rintro e w1 ⟨hb1, ⟨v, HV, rfl⟩ | ⟨HV, v, rfl⟩⟩
  · go_wp2_with fail
    go_ret2
    exact ⟨hb1, Or.inl ⟨_, HV, rfl⟩⟩
  · go_wp2_with (go_at_call 148; go_must (refine (CE.out _ hb1).mono ?_; rintro e w2 ⟨t, p, rfl, hb2⟩))
    go_ret2
    exact ⟨eonto hb1 hb2, Or.inr ⟨HV, _, _, _, rfl⟩⟩
end Go.Proofs.YtiaepihdfbahaaaGreatDoor
