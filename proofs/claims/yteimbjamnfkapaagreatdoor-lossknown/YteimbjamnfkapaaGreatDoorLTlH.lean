/- strconv.ParseInt at digits of base 16, 8, 2: walked whole. -/
import Derived.Test.YteimbjamnfkapaaGreatDoorLTlP
import Derived.Test.YteimbjamnfkapaaGreatDoorLTlG
import Derived.Test.YteimbjamnfkapaaGreatDoorLVPlus
/- tlex.withoutJoints, readInt, readNum: walked. -/
namespace Go.Proofs.YteimbjamnfkapaaGreatDoor
open Go.RowKit
theorem neq_self (W : World) : (binOp .neq 183 (.iface 260 (.int .i64 1)) (.iface 260 (.int .i64 1))).run Tryz.prog W = .ok (.bool false) W :=
 Lib.run_neq_iface_int W 1 1 Tryz.underlying183 (by kernel_rfl) Tryz.underlying260
theorem toerr_any (base : Int) (s : ByteArray) (w : World) (hg : Glob w) (hs : s.size ≤ 1000000) :
  Calls Tryz.prog 183 #[.string ⟨#[80,97,114,115,101,73,110,116]⟩,.string s,.int .i64 base,.int .i64 64,.iface 260 (.int .i64 1)] w fun e w' => ∃ t p,e = .returned (.iface t p) ∧ Below w.heap.size w w' := by
 obtain ⟨tp,p,hv⟩ := hg.ran
 refine (Any.strconv_toError_range { Tryz.laysC174 with } ⟨#[80,97,114,115,101,73,110,116]⟩ s base 64 (.iface tp p) w (by omega) (by have h0 := World.var?_cell Tryz.laysC174.m16 hv 0; simpa using h0) (Or.inr ⟨tp,p,rfl⟩)).mono ?_
 rintro e w' ⟨N,rfl,-,-,hb⟩
 exact ⟨_,_,rfl,hb⟩
set_option maxRecDepth 100000 in
set_option maxHeartbeats 4000000 in
theorem iint16 (s : ByteArray) (w : World) (hne : 0 < s.size) (hs : s.size ≤ 1000000) (hd : ∀ b ∈ s.data.toList,dgB 16 b = true) :
  Calls Tryz.prog 239 #[.string s,.int .i64 16,.int .i64 64] w fun e w' => Below w.heap.size w w' ∧
   ((∃ v,Hid (psV 16 s.data.toList = some v) ∧ e = .returned (.tuple #[.int .i64 v,.nilIface])) ∨ (Hid (psV 16 s.data.toList = none) ∧ ∃ v : Int,e = .returned (.tuple #[.int .i64 v,.iface 260 (.int .i64 1)]))) := by
 have CU := puint16 s w hne hs hd
 have hpu := puB_is 1152921504606846976 16 (by decide) (by decide) s.data.toList 0 (fun b hb => by have := hd b hb; unfold dgB at this; simp at this; exact this.2) (by decide)
 have hpv : s.data.toList.foldl (fun v b => 16 * v + hxV b) 0 = pvB 16 s.data.toList := rfl
 rw [hpv] at hpu
 have hemp : s.toList.isEmpty = false := by
  rw [ByteArray.toList_eq]
  cases h : s.data.toList with
  | nil => rw [← size_list,h] at hne; exact absurd hne (by decide)
  | cons a l => rfl
 have hdg := hd s[0] (List.mem_of_getElem? (show s.data.toList[0]? = some s[0] by rw [List.getElem?_eq_getElem (by rw [size_list]; exact hne)]; rfl))
 have hx : hxI s[0] = true := by unfold dgB at hdg; rw [Bool.and_eq_true] at hdg; exact hdg.1
 have g43 : ((s[0].toNat : Int) == 43) = false := by rw [beq_eq_false_iff_ne]; unfold hxI at hx; simp at hx; omega
 have g45 : ((s[0].toNat : Int) == 45) = false := by rw [beq_eq_false_iff_ne]; unfold hxI at hx; simp at hx; omega
 have HPS : Hid (psV 16 s.data.toList = if pvB 16 s.data.toList < 9223372036854775808 then some (pvB 16 s.data.toList : Int) else none) := rfl
 rw [hpu] at CU
 clear hpu hpv hd hdg hx
 obtain ⟨u,hu⟩ : ∃ u,pvB 16 s.data.toList = u := ⟨_,rfl⟩
 rw [hu] at CU HPS
 clear hu
 generalize psV 16 s.data.toList = R at *
 by_cases h64 : u < 18446744073709551616
 ·rw [if_pos h64] at CU
  simp only [puV] at CU
  by_cases h63 : u < 9223372036854775808
  ·rw [if_pos h63] at HPS
   have CU2 := hid CU
   clear CU h64
   obtain ⟨a,ha⟩ : ∃ a : Int,(u : Int) = a := ⟨_,rfl⟩
   have a0 : 0 ≤ a := by omega
   have a1 : a < 9223372036854775808 := by omega
   rw [ha] at CU2 HPS
   clear ha h63
   have hlt2 : 0 < s.size := hne
   go_enter Tryz.func239,Tryz.ntmps239
   go_wp2_with (go_at_call 284; go_must (refine CU2.out.mono ?_; rintro e w1 ⟨rfl,hb1⟩))
   go_ret2
   exact ⟨hb1,Or.inl ⟨_,HPS.out,rfl⟩⟩
  ·rw [if_neg h63] at HPS
   have CU2 := hid CU
   clear CU
   obtain ⟨a,ha⟩ : ∃ a : Int,(u : Int) = a := ⟨_,rfl⟩
   have a0 : 9223372036854775808 ≤ a := by omega
   have a1 : a < 18446744073709551616 := by omega
   rw [ha] at CU2
   clear ha h63 h64
   have hlt2 : 0 < s.size := hne
   go_enter Tryz.func239,Tryz.ntmps239
   go_wp2_with (go_at_call 284; go_must (refine CU2.out.mono ?_; rintro e w1 ⟨rfl,hb1⟩))
   go_ret2
   exact ⟨hb1,Or.inr ⟨HPS.out,_,rfl⟩⟩
 ·rw [if_neg h64] at CU
  rw [if_neg (by omega)] at HPS
  have CU2 := hid CU
  simp only [puV] at CU2
  clear CU h64
  have hq := neq_self
  have hlt2 : 0 < s.size := hne
  go_enter Tryz.func239,Tryz.ntmps239
  go_wp2_with (go_at_call 284; go_must (refine CU2.out.mono ?_; rintro e w1 ⟨rfl,hb1⟩))
  go_ret2
  exact ⟨hb1,Or.inr ⟨HPS.out,_,rfl⟩⟩
set_option maxRecDepth 100000 in
set_option maxHeartbeats 4000000 in
theorem tpint16 (s : ByteArray) (w : World) (hg : Glob w) (hne : 0 < s.size) (hs : s.size ≤ 1000000) (hd : ∀ b ∈ s.data.toList,dgB 16 b = true) :
  Calls Tryz.prog 249 #[.string s,.int .i64 16,.int .i64 64] w fun e w' => Below w.heap.size w w' ∧
   ((∃ v,Hid (psV 16 s.data.toList = some v) ∧ e = .returned (.tuple #[.int .i64 v,.nilIface])) ∨ (Hid (psV 16 s.data.toList = none) ∧ ∃ v t p,e = .returned (.tuple #[.int .i64 v,.iface t p]))) := by
 have CI := hid (iint16 s w hne hs hd)
 have CE := hid (fun X (h : Below w.heap.size w X) => toerr_any 16 s X (hg.on h) hs)
 clear hg hd
 go_enter Tryz.func249,Tryz.ntmps249
 go_upto_region 1 with fail
 go_wp2_with fail
 go_at_call 239
 refine CI.out.mono ?_
 rintro e w1 ⟨hb1,⟨v,HV,rfl⟩ | ⟨HV,v,rfl⟩⟩
 ·go_wp2_with fail
  go_ret2
  exact ⟨hb1,Or.inl ⟨_,HV,rfl⟩⟩
 ·go_wp2_with (go_at_call 183; go_must (refine (CE.out _ hb1).mono ?_; rintro e w2 ⟨t,p,rfl,hb2⟩))
  go_ret2
  exact ⟨eonto hb1 hb2,Or.inr ⟨HV,_,_,_,rfl⟩⟩
set_option maxRecDepth 100000 in
set_option maxHeartbeats 4000000 in
theorem iint8 (s : ByteArray) (w : World) (hne : 0 < s.size) (hs : s.size ≤ 1000000) (hd : ∀ b ∈ s.data.toList,dgB 8 b = true) :
  Calls Tryz.prog 239 #[.string s,.int .i64 8,.int .i64 64] w fun e w' => Below w.heap.size w w' ∧
   ((∃ v,Hid (psV 8 s.data.toList = some v) ∧ e = .returned (.tuple #[.int .i64 v,.nilIface])) ∨ (Hid (psV 8 s.data.toList = none) ∧ ∃ v : Int,e = .returned (.tuple #[.int .i64 v,.iface 260 (.int .i64 1)]))) := by
 have CU := puint8 s w hne hs hd
 have hpu := puB_is 2305843009213693952 8 (by decide) (by decide) s.data.toList 0 (fun b hb => by have := hd b hb; unfold dgB at this; simp at this; exact this.2) (by decide)
 have hpv : s.data.toList.foldl (fun v b => 8 * v + hxV b) 0 = pvB 8 s.data.toList := rfl
 rw [hpv] at hpu
 have hemp : s.toList.isEmpty = false := by
  rw [ByteArray.toList_eq]
  cases h : s.data.toList with
  | nil => rw [← size_list,h] at hne; exact absurd hne (by decide)
  | cons a l => rfl
 have hdg := hd s[0] (List.mem_of_getElem? (show s.data.toList[0]? = some s[0] by rw [List.getElem?_eq_getElem (by rw [size_list]; exact hne)]; rfl))
 have hx : hxI s[0] = true := by unfold dgB at hdg; rw [Bool.and_eq_true] at hdg; exact hdg.1
 have g43 : ((s[0].toNat : Int) == 43) = false := by rw [beq_eq_false_iff_ne]; unfold hxI at hx; simp at hx; omega
 have g45 : ((s[0].toNat : Int) == 45) = false := by rw [beq_eq_false_iff_ne]; unfold hxI at hx; simp at hx; omega
 have HPS : Hid (psV 8 s.data.toList = if pvB 8 s.data.toList < 9223372036854775808 then some (pvB 8 s.data.toList : Int) else none) := rfl
 rw [hpu] at CU
 clear hpu hpv hd hdg hx
 obtain ⟨u,hu⟩ : ∃ u,pvB 8 s.data.toList = u := ⟨_,rfl⟩
 rw [hu] at CU HPS
 clear hu
 generalize psV 8 s.data.toList = R at *
 by_cases h64 : u < 18446744073709551616
 ·rw [if_pos h64] at CU
  simp only [puV] at CU
  by_cases h63 : u < 9223372036854775808
  ·rw [if_pos h63] at HPS
   have CU2 := hid CU
   clear CU h64
   obtain ⟨a,ha⟩ : ∃ a : Int,(u : Int) = a := ⟨_,rfl⟩
   have a0 : 0 ≤ a := by omega
   have a1 : a < 9223372036854775808 := by omega
   rw [ha] at CU2 HPS
   clear ha h63
   have hlt2 : 0 < s.size := hne
   go_enter Tryz.func239,Tryz.ntmps239
   go_wp2_with (go_at_call 284; go_must (refine CU2.out.mono ?_; rintro e w1 ⟨rfl,hb1⟩))
   go_ret2
   exact ⟨hb1,Or.inl ⟨_,HPS.out,rfl⟩⟩
  ·rw [if_neg h63] at HPS
   have CU2 := hid CU
   clear CU
   obtain ⟨a,ha⟩ : ∃ a : Int,(u : Int) = a := ⟨_,rfl⟩
   have a0 : 9223372036854775808 ≤ a := by omega
   have a1 : a < 18446744073709551616 := by omega
   rw [ha] at CU2
   clear ha h63 h64
   have hlt2 : 0 < s.size := hne
   go_enter Tryz.func239,Tryz.ntmps239
   go_wp2_with (go_at_call 284; go_must (refine CU2.out.mono ?_; rintro e w1 ⟨rfl,hb1⟩))
   go_ret2
   exact ⟨hb1,Or.inr ⟨HPS.out,_,rfl⟩⟩
 ·rw [if_neg h64] at CU
  rw [if_neg (by omega)] at HPS
  have CU2 := hid CU
  simp only [puV] at CU2
  clear CU h64
  have hq := neq_self
  have hlt2 : 0 < s.size := hne
  go_enter Tryz.func239,Tryz.ntmps239
  go_wp2_with (go_at_call 284; go_must (refine CU2.out.mono ?_; rintro e w1 ⟨rfl,hb1⟩))
  go_ret2
  exact ⟨hb1,Or.inr ⟨HPS.out,_,rfl⟩⟩
set_option maxRecDepth 100000 in
set_option maxHeartbeats 4000000 in
theorem tpint8 (s : ByteArray) (w : World) (hg : Glob w) (hne : 0 < s.size) (hs : s.size ≤ 1000000) (hd : ∀ b ∈ s.data.toList,dgB 8 b = true) :
  Calls Tryz.prog 249 #[.string s,.int .i64 8,.int .i64 64] w fun e w' => Below w.heap.size w w' ∧
   ((∃ v,Hid (psV 8 s.data.toList = some v) ∧ e = .returned (.tuple #[.int .i64 v,.nilIface])) ∨ (Hid (psV 8 s.data.toList = none) ∧ ∃ v t p,e = .returned (.tuple #[.int .i64 v,.iface t p]))) := by
 have CI := hid (iint8 s w hne hs hd)
 have CE := hid (fun X (h : Below w.heap.size w X) => toerr_any 8 s X (hg.on h) hs)
 clear hg hd
 go_enter Tryz.func249,Tryz.ntmps249
 go_upto_region 1 with fail
 go_wp2_with fail
 go_at_call 239
 refine CI.out.mono ?_
 rintro e w1 ⟨hb1,⟨v,HV,rfl⟩ | ⟨HV,v,rfl⟩⟩
 ·go_wp2_with fail
  go_ret2
  exact ⟨hb1,Or.inl ⟨_,HV,rfl⟩⟩
 ·go_wp2_with (go_at_call 183; go_must (refine (CE.out _ hb1).mono ?_; rintro e w2 ⟨t,p,rfl,hb2⟩))
  go_ret2
  exact ⟨eonto hb1 hb2,Or.inr ⟨HV,_,_,_,rfl⟩⟩
set_option maxRecDepth 100000 in
set_option maxHeartbeats 4000000 in
theorem iint2 (s : ByteArray) (w : World) (hne : 0 < s.size) (hs : s.size ≤ 1000000) (hd : ∀ b ∈ s.data.toList,dgB 2 b = true) :
  Calls Tryz.prog 239 #[.string s,.int .i64 2,.int .i64 64] w fun e w' => Below w.heap.size w w' ∧
   ((∃ v,Hid (psV 2 s.data.toList = some v) ∧ e = .returned (.tuple #[.int .i64 v,.nilIface])) ∨ (Hid (psV 2 s.data.toList = none) ∧ ∃ v : Int,e = .returned (.tuple #[.int .i64 v,.iface 260 (.int .i64 1)]))) := by
 have CU := puint2 s w hne hs hd
 have hpu := puB_is 9223372036854775808 2 (by decide) (by decide) s.data.toList 0 (fun b hb => by have := hd b hb; unfold dgB at this; simp at this; exact this.2) (by decide)
 have hpv : s.data.toList.foldl (fun v b => 2 * v + hxV b) 0 = pvB 2 s.data.toList := rfl
 rw [hpv] at hpu
 have hemp : s.toList.isEmpty = false := by
  rw [ByteArray.toList_eq]
  cases h : s.data.toList with
  | nil => rw [← size_list,h] at hne; exact absurd hne (by decide)
  | cons a l => rfl
 have hdg := hd s[0] (List.mem_of_getElem? (show s.data.toList[0]? = some s[0] by rw [List.getElem?_eq_getElem (by rw [size_list]; exact hne)]; rfl))
 have hx : hxI s[0] = true := by unfold dgB at hdg; rw [Bool.and_eq_true] at hdg; exact hdg.1
 have g43 : ((s[0].toNat : Int) == 43) = false := by rw [beq_eq_false_iff_ne]; unfold hxI at hx; simp at hx; omega
 have g45 : ((s[0].toNat : Int) == 45) = false := by rw [beq_eq_false_iff_ne]; unfold hxI at hx; simp at hx; omega
 have HPS : Hid (psV 2 s.data.toList = if pvB 2 s.data.toList < 9223372036854775808 then some (pvB 2 s.data.toList : Int) else none) := rfl
 rw [hpu] at CU
 clear hpu hpv hd hdg hx
 obtain ⟨u,hu⟩ : ∃ u,pvB 2 s.data.toList = u := ⟨_,rfl⟩
 rw [hu] at CU HPS
 clear hu
 generalize psV 2 s.data.toList = R at *
 by_cases h64 : u < 18446744073709551616
 ·rw [if_pos h64] at CU
  simp only [puV] at CU
  by_cases h63 : u < 9223372036854775808
  ·rw [if_pos h63] at HPS
   have CU2 := hid CU
   clear CU h64
   obtain ⟨a,ha⟩ : ∃ a : Int,(u : Int) = a := ⟨_,rfl⟩
   have a0 : 0 ≤ a := by omega
   have a1 : a < 9223372036854775808 := by omega
   rw [ha] at CU2 HPS
   clear ha h63
   have hlt2 : 0 < s.size := hne
   go_enter Tryz.func239,Tryz.ntmps239
   go_wp2_with (go_at_call 284; go_must (refine CU2.out.mono ?_; rintro e w1 ⟨rfl,hb1⟩))
   go_ret2
   exact ⟨hb1,Or.inl ⟨_,HPS.out,rfl⟩⟩
  ·rw [if_neg h63] at HPS
   have CU2 := hid CU
   clear CU
   obtain ⟨a,ha⟩ : ∃ a : Int,(u : Int) = a := ⟨_,rfl⟩
   have a0 : 9223372036854775808 ≤ a := by omega
   have a1 : a < 18446744073709551616 := by omega
   rw [ha] at CU2
   clear ha h63 h64
   have hlt2 : 0 < s.size := hne
   go_enter Tryz.func239,Tryz.ntmps239
   go_wp2_with (go_at_call 284; go_must (refine CU2.out.mono ?_; rintro e w1 ⟨rfl,hb1⟩))
   go_ret2
   exact ⟨hb1,Or.inr ⟨HPS.out,_,rfl⟩⟩
 ·rw [if_neg h64] at CU
  rw [if_neg (by omega)] at HPS
  have CU2 := hid CU
  simp only [puV] at CU2
  clear CU h64
  have hq := neq_self
  have hlt2 : 0 < s.size := hne
  go_enter Tryz.func239,Tryz.ntmps239
  go_wp2_with (go_at_call 284; go_must (refine CU2.out.mono ?_; rintro e w1 ⟨rfl,hb1⟩))
  go_ret2
  exact ⟨hb1,Or.inr ⟨HPS.out,_,rfl⟩⟩
set_option maxRecDepth 100000 in
set_option maxHeartbeats 4000000 in
theorem tpint2 (s : ByteArray) (w : World) (hg : Glob w) (hne : 0 < s.size) (hs : s.size ≤ 1000000) (hd : ∀ b ∈ s.data.toList,dgB 2 b = true) :
  Calls Tryz.prog 249 #[.string s,.int .i64 2,.int .i64 64] w fun e w' => Below w.heap.size w w' ∧
   ((∃ v,Hid (psV 2 s.data.toList = some v) ∧ e = .returned (.tuple #[.int .i64 v,.nilIface])) ∨ (Hid (psV 2 s.data.toList = none) ∧ ∃ v t p,e = .returned (.tuple #[.int .i64 v,.iface t p]))) := by
 have CI := hid (iint2 s w hne hs hd)
 have CE := hid (fun X (h : Below w.heap.size w X) => toerr_any 2 s X (hg.on h) hs)
 clear hg hd
 go_enter Tryz.func249,Tryz.ntmps249
 go_upto_region 1 with fail
 go_wp2_with fail
 go_at_call 239
 refine CI.out.mono ?_
 rintro e w1 ⟨hb1,⟨v,HV,rfl⟩ | ⟨HV,v,rfl⟩⟩
 ·go_wp2_with fail
  go_ret2
  exact ⟨hb1,Or.inl ⟨_,HV,rfl⟩⟩
 ·go_wp2_with (go_at_call 183; go_must (refine (CE.out _ hb1).mono ?_; rintro e w2 ⟨t,p,rfl,hb2⟩))
  go_ret2
  exact ⟨eonto hb1 hb2,Or.inr ⟨HV,_,_,_,rfl⟩⟩
abbrev nilS : Value := .slice none 0 0
set_option maxRecDepth 100000 in
theorem tclone_any (s : ByteArray) (w : World) (hs : s.size ≤ 1000000) :
  Calls Tryz.prog 138 #[.string s] w fun e w' => e = .returned (.string s) ∧ Below w.heap.size w w' := by
 have C := hid (fun X => Tryz.stringslite_Clone s X (by omega))
 go_enter Tryz.func138,Tryz.ntmps138
 go_wp2_with (go_at_call 194; go_must (refine (C.out _).mono ?_; rintro e w1 ⟨rfl,hb⟩))
 go_ret
 exact ⟨rfl,hb⟩
set_option maxRecDepth 100000 in
theorem tjoints_any (s : ByteArray) (w : World) (hs : s.size ≤ 1000000) (hg : GlobM w) :
  Calls Tryz.prog 300 #[.string s] w fun e w' => e = .returned (.string (mkS (clnS s.data.toList))) ∧ Below w.heap.size w w' := by
 have C := hid (fun X => tclone_any s X hs)
 have CR : Hid (∀ X,Below w.heap.size w X → Calls Tryz.prog 132 #[.string s,.string ⟨#[95]⟩,.string ⟨#[]⟩] X fun e w' => e = .returned (.string (mkS (clnS s.data.toList))) ∧ Below X.heap.size X w') := fun X h => by
  obtain ⟨m,hm⟩ := hg.on h
  have := Tryz.strings_ReplaceAll s ⟨#[95]⟩ ⟨#[]⟩ m X (by omega) hm (by decide) (by rw [show (⟨#[]⟩ : ByteArray).size = 0 from rfl,Nat.mul_zero]; omega)
  rw [show (⟨#[95]⟩ : ByteArray).data.toList = [95] from rfl,show (⟨#[]⟩ : ByteArray).data.toList = [] from rfl,replaceAll_cln] at this
  exact this
 generalize mkS (clnS s.data.toList) = m at *
 clear hg
 go_enter Tryz.func300,Tryz.ntmps300
 go_wp2_with (first
  | (go_at_call 138; go_must (refine (C.out _).mono ?_; rintro e w1 ⟨rfl,hb1⟩))
  | (go_at_call 132; go_must (refine (CR.out _ hb1).mono ?_; rintro e w2 ⟨rfl,hb2⟩)))
 go_ret
 exact ⟨rfl,eonto hb1 hb2⟩
def intR : Option Int → VT
 | some v => leafT 2 v ⟨#[]⟩
 | none => zeroT
def intE : Option Int → Int
 | some _ => 0
 | none => 6
set_option maxRecDepth 100000 in
set_option maxHeartbeats 2000000 in
theorem trint_of (s : ByteArray) (base : Int) (o : Option Int) (w : World) (hs : s.size ≤ 1000000) (hg : GlobM w)
  (HP : ∀ X,Below w.heap.size w X → Calls Tryz.prog 249 #[.string (mkS (clnS s.data.toList)),.int .i64 base,.int .i64 64] X fun e w' => Below X.heap.size X w' ∧
   ((∃ v,Hid (o = some v) ∧ e = .returned (.tuple #[.int .i64 v,.nilIface])) ∨ (Hid (o = none) ∧ ∃ v t p,e = .returned (.tuple #[.int .i64 v,.iface t p])))) :
  Calls Tryz.prog 276 #[.string s,.int .i64 base] w fun e w' => e = .returned (.tuple #[vv (intR o) nilS nilS,.int .i64 (intE o)]) ∧ Below w.heap.size w w' := by
 have CJ := hid (fun X (h : Below w.heap.size w X) => tjoints_any s X hs (hg.on h))
 have CP := hid HP
 have CV := hid (fun n X => vint_any n X)
 simp only [vv,leafT,VT.kd,VT.nm,VT.st] at CV
 clear HP hg
 generalize mkS (clnS s.data.toList) = m at *
 go_enter Tryz.func276,Tryz.ntmps276
 go_wp2_with fail
 go_at_call 300
 refine (CJ.out _ (valloc_bel (Below.refl _ _) _)).mono ?_
 rintro e w1 ⟨rfl,hb1⟩
 have R1 := hid (box_row hb1)
 have HB1 := hid (vonto (valloc_bel (Below.refl w.heap.size w) _) hb1)
 clear hb1
 go_wp2_with fail
 go_at_call 249
 refine (CP.out _ HB1.out).mono ?_
 rintro e w2 ⟨hb2,⟨v,HV,rfl⟩ | ⟨HV,v,t,p,rfl⟩⟩
 ·have R2 := hid (R1.out.onto (hb2.block _ R1.out.lt))
  have HB2 := hid (vonto HB1.out hb2)
  clear hb2 R1 HB1
  go_wp2_with fail
  go_at_call 193
  refine (CV.out v _).mono ?_
  rintro e w3 ⟨rfl,hb3⟩
  have R0 := hid (R2.out.onto (hb3.block _ R2.out.lt))
  have HB3 := hid (vonto HB2.out hb3)
  clear hb3 R2 HB2
  obtain ⟨u0,e0⟩ := R0.out.cell (o := 0) (by decide)
  obtain ⟨u1,e1⟩ := R0.out.cell (o := 1) (by decide)
  obtain ⟨u2,e2⟩ := R0.out.cell (o := 2) (by decide)
  obtain ⟨u3,e3⟩ := R0.out.cell (o := 3) (by decide)
  obtain ⟨u4,e4⟩ := R0.out.cell (o := 4) (by decide)
  have z0 := R0.out.frozen
  go_wp2_with fail
  refine bodyPost_ret (v := .tuple #[vv (leafT 2 v ⟨#[]⟩) nilS nilS,.int .i64 0]) (by simp [results,Tryz.results276,go_sem,vv,leafT,VT.kd,VT.nm,VT.st,e0,e1,e2,e3,e4]) rfl ⟨by rw [HV.out]; rfl,?_⟩
  repeat (first | exact HB3.out | (refine vset_bel ?_ (by simp)))
 ·have R0 := hid (R1.out.onto (hb2.block _ R1.out.lt))
  have HB3 := hid (vonto HB1.out hb2)
  clear hb2 R1 HB1
  obtain ⟨u0,e0⟩ := R0.out.cell (o := 0) (by decide)
  obtain ⟨u1,e1⟩ := R0.out.cell (o := 1) (by decide)
  obtain ⟨u2,e2⟩ := R0.out.cell (o := 2) (by decide)
  obtain ⟨u3,e3⟩ := R0.out.cell (o := 3) (by decide)
  obtain ⟨u4,e4⟩ := R0.out.cell (o := 4) (by decide)
  have z0 := R0.out.frozen
  go_wp2_with fail
  refine bodyPost_ret (v := .tuple #[vv zeroT nilS nilS,.int .i64 6]) (by simp [results,Tryz.results276,go_sem,vv,zeroT,VT.kd,VT.nm,VT.st,e0,e1,e2,e3,e4]) rfl ⟨by rw [HV.out]; rfl,?_⟩
  repeat (first | exact HB3.out | (refine vset_bel ?_ (by simp)))
theorem tpint10 (s : ByteArray) (w : World) (hg : Glob w) (hs : s.size ≤ 1000000) :
  Calls Tryz.prog 249 #[.string s,.int .i64 10,.int .i64 64] w fun e w' => Below w.heap.size w w' ∧
   ((∃ v,Hid (piV s.data.toList = some v) ∧ e = .returned (.tuple #[.int .i64 v,.nilIface])) ∨ (Hid (piV s.data.toList = none) ∧ ∃ v t p,e = .returned (.tuple #[.int .i64 v,.iface t p]))) := by
 have HP : piV s.data.toList = match Lib.parseIntB 64 s.data.toList with | .ok v => some v | _ => none := rfl
 rw [HP]
 clear HP
 generalize hq : Lib.parseIntB 64 s.data.toList = q
 have h := hq
 clear hq
 rcases q with v | _ | _
 ·refine (Tryz.strconv_ParseInt_10_at64_ok s (by omega) v h w).mono ?_
  rintro e w' ⟨rfl,rfl | ⟨t,rfl⟩⟩
  ·exact ⟨Below.refl _ _,Or.inl ⟨v,hid rfl,rfl⟩⟩
  ·exact ⟨Lib.bytesWorld_below _ _ _,Or.inl ⟨v,hid rfl,rfl⟩⟩
 ·obtain ⟨tp,p,hv⟩ := hg.syn
  refine (Any.strconv_ParseInt_10_at64_syntax_var Tryz.laysC174 s (by omega) h tp p w hv).mono ?_
  rintro e w' ⟨N,rfl,-,-,hb⟩
  exact ⟨hb,Or.inr ⟨hid rfl,_,_,_,rfl⟩⟩
 ·obtain ⟨tp,p,hv⟩ := hg.ran
  refine (Tryz.strconv_ParseInt_10_at64_range_var s (by omega) h tp p w hv).mono ?_
  rintro e w' ⟨N,rfl,-,-,hb⟩
  exact ⟨hb,Or.inr ⟨hid rfl,_,_,_,rfl⟩⟩
structure GlobT (w : World) : Prop where
 g : Glob w
 m : GlobM w
theorem GlobT.on {w w' : World} (h : GlobT w) (hb : Below w.heap.size w w') : GlobT w' := ⟨h.g.on hb,h.m.on hb⟩
theorem cln_le (l : List UInt8) : (clnS l).length ≤ l.length := List.length_filter_le _ _
theorem trint10 (s : ByteArray) (w : World) (hs : s.size ≤ 1000000) (hg : GlobT w) :
  Calls Tryz.prog 276 #[.string s,.int .i64 10] w fun e w' => e = .returned (.tuple #[vv (intR (piV (clnS s.data.toList))) nilS nilS,.int .i64 (intE (piV (clnS s.data.toList)))]) ∧ Below w.heap.size w w' :=
 trint_of s 10 _ w hs hg.m fun X h => by
  have := tpint10 (mkS (clnS s.data.toList)) X (hg.g.on h) (by rw [mkS_size]; have := cln_le s.data.toList; rw [size_list] at this; omega)
  rw [mkS_list] at this; exact this
theorem dgs_cln : ∀ {base : Nat} {q : Bool} {l : List UInt8},cdN (dgB base) q l = l.length → ∀ b ∈ clnS l,dgB base b = true
 | _,_,[],_,b,hb => by simp [clnS] at hb
 | base,q,c :: l,h,b,hb => by
  rw [cdN] at h
  by_cases k : (dgB base c || (q && decide (c.toNat = 95) && hdB (dgB base) l)) = true
  ·rw [if_pos k,List.length_cons] at h
   have ih := dgs_cln (base := base) (q := true) (l := l) (by omega)
   unfold clnS at hb ih
   rw [List.filter_cons] at hb
   by_cases hc : noS c = true
   ·rw [if_pos hc] at hb
    rcases List.mem_cons.1 hb with rfl | hb
    ·rw [Bool.or_eq_true] at k
     rcases k with k | k
     ·exact k
     ·rw [Bool.and_eq_true,Bool.and_eq_true,decide_eq_true_eq] at k
      unfold noS at hc; rw [k.1.2] at hc; exact absurd hc (by decide)
    ·exact ih b hb
   ·rw [if_neg hc] at hb; exact ih b hb
  ·rw [if_neg k] at h; simp at h
theorem cln_ne {base : Nat} {l : List UInt8} (h : dgs base l = true) : 0 < (clnS l).length := by
 rw [dgs_is] at h
 cases l with
 | nil => simp at h
 | cons c l =>
  simp only [Bool.and_eq_true,decide_eq_true_eq,Bool.not_eq_true',decide_eq_false_iff_not] at h
  have h2 := h.2
  rw [cdN] at h2
  by_cases k : dgB base c = true
  ·have hc : noS c = true := by
    unfold noS; unfold dgB hxI at k; simp at k ⊢; omega
   unfold clnS; rw [List.filter_cons,if_pos hc]; simp
  ·rw [if_neg (by simpa using k)] at h2; simp at h2
end Go.Proofs.YteimbjamnfkapaaGreatDoor
