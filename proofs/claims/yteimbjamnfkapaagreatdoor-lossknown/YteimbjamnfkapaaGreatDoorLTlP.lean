/- strconv.ParseInt at digits of base 16, 8, 2, without a sign: walked. -/
import Derived.Test.YteimbjamnfkapaaGreatDoorLTlG
import Derived.Test.YteimbjamnfkapaaGreatDoorLTlC
import Derived.Test.YteimbjamnfkapaaGreatDoorLDecOne
import Derived.Shelf.Strconv.ToErrorRange
namespace Go.Proofs.YteimbjamnfkapaaGreatDoor
open Go.RowKit
def puB (C base : Nat) : Nat → List UInt8 → Option Nat
 | acc,[] => some acc
 | acc,c :: r => if C ≤ acc then none else puB C base (base * acc + hxV c) r
theorem pvB_from (base : Nat) : ∀ (l : List UInt8) (v : Nat),l.foldl (fun v b => base * v + hxV b) v = v * base ^ l.length + pvB base l
 | [],v => by simp [pvB]
 | c :: r,v => by
  rw [List.foldl_cons,pvB_from base r]
  have h : pvB base (c :: r) = hxV c * base ^ r.length + pvB base r := by
   show List.foldl _ (base * 0 + hxV c) r = _
   rw [pvB_from base r]; simp
  rw [h,List.length_cons,Nat.pow_succ,Nat.add_mul,Nat.mul_comm base v,Nat.mul_assoc,Nat.mul_comm base (base ^ r.length),Nat.add_assoc]
theorem puB_is (C base : Nat) (hb : 2 ≤ base) (hC : C * base = 18446744073709551616) : ∀ (l : List UInt8) (acc : Nat),(∀ b ∈ l,hxV b < base) → acc < 18446744073709551616 → puB C base acc l = if l.foldl (fun v b => base * v + hxV b) acc < 18446744073709551616 then some (l.foldl (fun v b => base * v + hxV b) acc) else none
 | [],acc,_,ha => by rw [puB]; simp [ha]
 | c :: r,acc,h,ha => by
  rw [puB]
  have hc := h c (List.mem_cons_self ..)
  have hr : ∀ b ∈ r,hxV b < base := fun b hb => h b (List.mem_cons_of_mem _ hb)
  by_cases hcut : C ≤ acc
  ·have h1 : 18446744073709551616 ≤ base * acc := by rw [← hC,Nat.mul_comm]; exact Nat.mul_le_mul_left _ hcut
   have h2 : 18446744073709551616 ≤ (c :: r).foldl (fun v b => base * v + hxV b) acc := by
    rw [List.foldl_cons,pvB_from]
    have h3 : 1 ≤ base ^ r.length := Nat.one_le_pow _ _ (by omega)
    have h4 : (base * acc + hxV c) * 1 ≤ (base * acc + hxV c) * base ^ r.length := Nat.mul_le_mul_left _ h3
    omega
   rw [if_pos hcut,if_neg (by omega)]
  ·have h1 : base * (acc + 1) ≤ 18446744073709551616 := by rw [← hC,Nat.mul_comm]; exact Nat.mul_le_mul_right _ (by omega)
   rw [Nat.mul_add,Nat.mul_one] at h1
   rw [if_neg hcut,puB_is C base hb hC r _ hr (by omega)]; rfl
def lowV (c : UInt8) : Nat := if c.toNat ≤ 70 then c.toNat + 32 else c.toNat
theorem low_or (c : UInt8) (h : hxI c = true) (h2 : ¬ c.toNat ≤ 57) : bits .or .u8 (c.toNat : Int) 32 = (lowV c : Nat) := by
 have h3 : (97 ≤ c.toNat ∧ c.toNat ≤ 102) ∨ (65 ≤ c.toNat ∧ c.toNat ≤ 70) := by
  unfold hxI at h; simp at h; omega
 have h4 : c.toNat = 97 ∨ c.toNat = 98 ∨ c.toNat = 99 ∨ c.toNat = 100 ∨ c.toNat = 101 ∨ c.toNat = 102 ∨ c.toNat = 65 ∨ c.toNat = 66 ∨ c.toNat = 67 ∨ c.toNat = 68 ∨ c.toNat = 69 ∨ c.toNat = 70 := by omega
 unfold lowV
 rcases h4 with e | e | e | e | e | e | e | e | e | e | e | e <;> (rw [e]; decide)
set_option maxRecDepth 100000 in
theorem tlower_any (c : UInt8) (h : hxI c = true) (h2 : ¬ c.toNat ≤ 57) (w : World) :
  Calls Tryz.prog 304 #[.int .u8 (c.toNat : Int)] w fun e w' => e = .returned (.int .u8 (lowV c : Nat)) ∧ w' = w := by
 have HL := hid (low_or c h h2)
 obtain ⟨n,hn⟩ : ∃ n : Int,(c.toNat : Int) = n := ⟨_,rfl⟩
 rw [hn] at HL ⊢
 clear hn
 go_enter Tryz.func304,Tryz.ntmps304
 go_wp2
 go_ret
 exact ⟨ret_int HL.out,rfl⟩
def puV : Option Nat → Value
 | some u => .tuple #[.int .u64 (u : Nat),.nilIface]
 | none => .tuple #[.int .u64 18446744073709551615,.iface 260 (.int .i64 1)]
set_option maxRecDepth 100000 in
set_option maxHeartbeats 32000000 in
theorem puint16 (t : ByteArray) (w : World) (hne : 0 < t.size) (hs : t.size ≤ 1000000) (hd : ∀ b ∈ t.data.toList,dgB 16 b = true) :
  Calls Tryz.prog 284 #[.string t,.int .i64 16,.int .i64 64] w fun e w' => e = .returned (puV (puB 1152921504606846976 16 0 t.data.toList)) ∧ Below w.heap.size w w' := by
 have HZ := hid (size_list t)
 have HDD := hid hd
 clear hd
 have hemp : t.toList.isEmpty = false := by
  rw [ByteArray.toList_eq]
  cases h : t.data.toList with
  | nil => rw [← size_list,h] at hne; exact absurd hne (by decide)
  | cons a l => rfl
 have hcv := Lib.run_convert_string_bytes (P := Tryz.prog) w 9 116 5 t (u := .string) Tryz.underlying9 Tryz.underlying116 Tryz.underlying5
 have hB : Hid (∀ j,j < t.size → (Lib.bytesWorld w 5 t).cell? ⟨w.heap.size,j,none⟩ = some (.int .u8 (t.data.toList.getD j 0).toNat)) := fun j hj => Lib.bytesWorld_cell w 5 t j hj
 have HBL : Hid (Below w.heap.size w (Lib.bytesWorld w 5 t)) := Lib.bytesWorld_below _ _ _
 obtain ⟨W1,hW1⟩ : ∃ W1,W1 = Lib.bytesWorld w 5 t := ⟨_,rfl⟩
 rw [← hW1] at hcv hB HBL
 clear hW1
 have hmv : IntKind.u64.wrap (IntKind.u64.wrap 18446744073709551616 - 1) = 18446744073709551615 := by
  rw [IntKind.wrap_u64,IntKind.wrap_u64]
  decide
 obtain ⟨R,hR⟩ : ∃ R,puB 1152921504606846976 16 0 t.data.toList = R := ⟨_,rfl⟩
 have HR := hid hR
 rw [hR]
 clear hR
 go_enter Tryz.func284,Tryz.ntmps284
 go_wp2
 go_loop [12,13,101] (fun vu vn vi => ∃ (k acc : Nat) (a : Int),vu = .bool false ∧ vn = .int .u64 a ∧ vi = .int .i64 k ∧ k ≤ t.size ∧ Hid (a = (acc : Int) ∧ acc < 18446744073709551616 ∧ puB 1152921504606846976 16 acc (t.data.toList.drop k) = R))
  (fun _ _ vi => t.size - (intOf vi).toNat)
 case atStart => exact ⟨0,0,0,rfl,rfl,rfl,Nat.zero_le _,rfl,by decide,HR.out⟩
 case round =>
  obtain ⟨k,acc,a,rfl,rfl,rfl,hk,hh⟩ := hrel
  obtain ⟨ha,hacc,hdec⟩ := hh.out
  clear hh
  have a0 : 0 ≤ a := by omega
  have a1 : a < 18446744073709551616 := by omega
  by_cases hkn : k < t.size
  ·have hc := hB.out k hkn
   have hlt : k < t.data.toList.length := by rw [HZ.out]; exact hkn
   have hdrop : t.data.toList.drop k = t.data.toList[k] :: t.data.toList.drop (k + 1) := List.drop_eq_getElem_cons hlt
   have hget : t.data.toList.getD k 0 = t.data.toList[k] := by simp [List.getD,List.getElem?_eq_getElem hlt]
   have hdg := HDD.out t.data.toList[k] (List.getElem_mem hlt)
   rw [hdrop,puB] at hdec
   rw [hget] at hc
   generalize t.data.toList[k] = c at hc hdec hdg
   have hc256 : c.toNat < 256 := c.toNat_lt
   unfold dgB at hdg
   rw [Bool.and_eq_true,decide_eq_true_eq] at hdg
   obtain ⟨hx,hv⟩ := hdg
   clear hlt hdrop hget
   by_cases hcut : 1152921504606846976 ≤ acc
   ·rw [if_pos hcut] at hdec
    have HRR := hid hdec
    have icut : 1152921504606846976 ≤ a := by omega
    clear hcut hacc ha hdec
    by_cases h57 : c.toNat ≤ 57
    ·have hd0 : 48 ≤ c.toNat := by unfold hxI at hx; simp at hx; omega
     have e1 : hxV c = c.toNat - 48 := by unfold hxV; rw [if_pos h57]
     have g1 : (c.toNat : Int) - 48 < 16 := by omega
     clear e1 hv hx
     go_wp2
     go_ret2
     exact ⟨by rw [← HRR.out]; rfl,HBL.out⟩
    ·have CL := hid (fun X => tlower_any c hx h57 X)
     have e1 : hxV c + 87 = lowV c := by unfold hxI at hx; unfold hxV lowV; simp at hx; (repeat' split) <;> omega
     have l1 : 97 ≤ lowV c ∧ lowV c ≤ 102 := by unfold hxI at hx; unfold lowV; simp at hx; split <;> omega
     obtain ⟨l2,l3⟩ := l1
     have g0 : ¬ (c.toNat : Int) ≤ 57 := by omega
     have g95 : ((c.toNat : Int) == 95) = false := by rw [beq_eq_false_iff_ne]; unfold hxI at hx; simp at hx; omega
     generalize lowV c = lv at *
     clear hv hx e1
     go_wp2_with (go_at_call 304; go_must (refine (CL.out _).mono ?_; rintro e w1 ⟨rfl,hw⟩; obtain rfl := hw.symm))
     go_ret2
     exact ⟨by rw [← HRR.out]; rfl,HBL.out⟩
   ·rw [if_neg hcut] at hdec
    have hb2 : 16 * acc + hxV c < 18446744073709551616 := by omega
    have HN : Hid (a * 16 + (hxV c : Int) = ((16 * acc + hxV c : Nat) : Int) ∧ 16 * acc + hxV c < 18446744073709551616 ∧ puB 1152921504606846976 16 (16 * acc + hxV c) (t.data.toList.drop (k + 1)) = R) := ⟨by omega,hb2,hdec⟩
    have icut : a < 1152921504606846976 := by omega
    have iov : a * 16 + (hxV c : Int) < 18446744073709551616 := by omega
    clear hcut hacc ha hdec hb2
    by_cases h57 : c.toNat ≤ 57
    ·have hd0 : 48 ≤ c.toNat := by unfold hxI at hx; simp at hx; omega
     have e1 : hxV c = c.toNat - 48 := by unfold hxV; rw [if_pos h57]
     have g1 : (c.toNat : Int) - 48 < 16 := by omega
     have iov2 : a * 16 + ((c.toNat : Int) - 48) < 18446744073709551616 := by omega
     clear hv hx iov
     go_wp2
     refine ⟨⟨k + 1,_,_,rfl,rfl,(by first | rfl | (congr 1; omega)),by omega,(show _ ∧ _ ∧ _ from ⟨(by have := HN.out.1; omega),HN.out.2.1,HN.out.2.2⟩)⟩,by simp [intOf]; omega⟩
    ·have CL := hid (fun X => tlower_any c hx h57 X)
     have e1 : hxV c + 87 = lowV c := by unfold hxI at hx; unfold hxV lowV; simp at hx; (repeat' split) <;> omega
     have l1 : 97 ≤ lowV c ∧ lowV c ≤ 102 := by unfold hxI at hx; unfold lowV; simp at hx; split <;> omega
     obtain ⟨l2,l3⟩ := l1
     have g0 : ¬ (c.toNat : Int) ≤ 57 := by omega
     have g95 : ((c.toNat : Int) == 95) = false := by rw [beq_eq_false_iff_ne]; unfold hxI at hx; simp at hx; omega
     have e2 : (hxV c : Int) = (lowV c : Int) - 87 := by omega
     have iov2 : a * 16 + ((lowV c : Int) - 87) < 18446744073709551616 := by omega
     generalize lowV c = lv at *
     clear hv hx iov
     go_wp2_with (go_at_call 304; go_must (refine (CL.out _).mono ?_; rintro e w1 ⟨rfl,hw⟩; obtain rfl := hw.symm))
     refine ⟨⟨k + 1,_,_,rfl,rfl,(by first | rfl | (congr 1; omega)),by omega,(show _ ∧ _ ∧ _ from ⟨(by have := HN.out.1; omega),HN.out.2.1,HN.out.2.2⟩)⟩,by simp [intOf]; omega⟩
  ·have HRR := hid (show R = some acc by rw [← hdec,List.drop_eq_nil_of_le (by rw [HZ.out]; omega),puB])
   have HA := hid ha
   clear hdec ha
   go_wp2
   go_ret2
   exact ⟨by rw [HRR.out,HA.out]; rfl,HBL.out⟩
set_option maxRecDepth 100000 in
set_option maxHeartbeats 32000000 in
theorem puint8 (t : ByteArray) (w : World) (hne : 0 < t.size) (hs : t.size ≤ 1000000) (hd : ∀ b ∈ t.data.toList,dgB 8 b = true) :
  Calls Tryz.prog 284 #[.string t,.int .i64 8,.int .i64 64] w fun e w' => e = .returned (puV (puB 2305843009213693952 8 0 t.data.toList)) ∧ Below w.heap.size w w' := by
 have HZ := hid (size_list t)
 have HDD := hid hd
 clear hd
 have hemp : t.toList.isEmpty = false := by
  rw [ByteArray.toList_eq]
  cases h : t.data.toList with
  | nil => rw [← size_list,h] at hne; exact absurd hne (by decide)
  | cons a l => rfl
 have hcv := Lib.run_convert_string_bytes (P := Tryz.prog) w 9 116 5 t (u := .string) Tryz.underlying9 Tryz.underlying116 Tryz.underlying5
 have hB : Hid (∀ j,j < t.size → (Lib.bytesWorld w 5 t).cell? ⟨w.heap.size,j,none⟩ = some (.int .u8 (t.data.toList.getD j 0).toNat)) := fun j hj => Lib.bytesWorld_cell w 5 t j hj
 have HBL : Hid (Below w.heap.size w (Lib.bytesWorld w 5 t)) := Lib.bytesWorld_below _ _ _
 obtain ⟨W1,hW1⟩ : ∃ W1,W1 = Lib.bytesWorld w 5 t := ⟨_,rfl⟩
 rw [← hW1] at hcv hB HBL
 clear hW1
 have hmv : IntKind.u64.wrap (IntKind.u64.wrap 18446744073709551616 - 1) = 18446744073709551615 := by
  rw [IntKind.wrap_u64,IntKind.wrap_u64]
  decide
 obtain ⟨R,hR⟩ : ∃ R,puB 2305843009213693952 8 0 t.data.toList = R := ⟨_,rfl⟩
 have HR := hid hR
 rw [hR]
 clear hR
 go_enter Tryz.func284,Tryz.ntmps284
 go_wp2
 go_loop [12,13,101] (fun vu vn vi => ∃ (k acc : Nat) (a : Int),vu = .bool false ∧ vn = .int .u64 a ∧ vi = .int .i64 k ∧ k ≤ t.size ∧ Hid (a = (acc : Int) ∧ acc < 18446744073709551616 ∧ puB 2305843009213693952 8 acc (t.data.toList.drop k) = R))
  (fun _ _ vi => t.size - (intOf vi).toNat)
 case atStart => exact ⟨0,0,0,rfl,rfl,rfl,Nat.zero_le _,rfl,by decide,HR.out⟩
 case round =>
  obtain ⟨k,acc,a,rfl,rfl,rfl,hk,hh⟩ := hrel
  obtain ⟨ha,hacc,hdec⟩ := hh.out
  clear hh
  have a0 : 0 ≤ a := by omega
  have a1 : a < 18446744073709551616 := by omega
  by_cases hkn : k < t.size
  ·have hc := hB.out k hkn
   have hlt : k < t.data.toList.length := by rw [HZ.out]; exact hkn
   have hdrop : t.data.toList.drop k = t.data.toList[k] :: t.data.toList.drop (k + 1) := List.drop_eq_getElem_cons hlt
   have hget : t.data.toList.getD k 0 = t.data.toList[k] := by simp [List.getD,List.getElem?_eq_getElem hlt]
   have hdg := HDD.out t.data.toList[k] (List.getElem_mem hlt)
   rw [hdrop,puB] at hdec
   rw [hget] at hc
   generalize t.data.toList[k] = c at hc hdec hdg
   have hc256 : c.toNat < 256 := c.toNat_lt
   unfold dgB at hdg
   rw [Bool.and_eq_true,decide_eq_true_eq] at hdg
   obtain ⟨hx,hv⟩ := hdg
   clear hlt hdrop hget
   by_cases hcut : 2305843009213693952 ≤ acc
   ·rw [if_pos hcut] at hdec
    have HRR := hid hdec
    have icut : 2305843009213693952 ≤ a := by omega
    clear hcut hacc ha hdec
    by_cases h57 : c.toNat ≤ 57
    ·have hd0 : 48 ≤ c.toNat := by unfold hxI at hx; simp at hx; omega
     have e1 : hxV c = c.toNat - 48 := by unfold hxV; rw [if_pos h57]
     have g1 : (c.toNat : Int) - 48 < 8 := by omega
     clear e1 hv hx
     go_wp2
     go_ret2
     exact ⟨by rw [← HRR.out]; rfl,HBL.out⟩
    ·exfalso; unfold hxV at hv; unfold hxI at hx; rw [if_neg h57] at hv; simp at hx; split at hv <;> omega
   ·rw [if_neg hcut] at hdec
    have hb2 : 8 * acc + hxV c < 18446744073709551616 := by omega
    have HN : Hid (a * 8 + (hxV c : Int) = ((8 * acc + hxV c : Nat) : Int) ∧ 8 * acc + hxV c < 18446744073709551616 ∧ puB 2305843009213693952 8 (8 * acc + hxV c) (t.data.toList.drop (k + 1)) = R) := ⟨by omega,hb2,hdec⟩
    have icut : a < 2305843009213693952 := by omega
    have iov : a * 8 + (hxV c : Int) < 18446744073709551616 := by omega
    clear hcut hacc ha hdec hb2
    by_cases h57 : c.toNat ≤ 57
    ·have hd0 : 48 ≤ c.toNat := by unfold hxI at hx; simp at hx; omega
     have e1 : hxV c = c.toNat - 48 := by unfold hxV; rw [if_pos h57]
     have g1 : (c.toNat : Int) - 48 < 8 := by omega
     have iov2 : a * 8 + ((c.toNat : Int) - 48) < 18446744073709551616 := by omega
     clear hv hx iov
     go_wp2
     refine ⟨⟨k + 1,_,_,rfl,rfl,(by first | rfl | (congr 1; omega)),by omega,(show _ ∧ _ ∧ _ from ⟨(by have := HN.out.1; omega),HN.out.2.1,HN.out.2.2⟩)⟩,by simp [intOf]; omega⟩
    ·exfalso; unfold hxV at hv; unfold hxI at hx; rw [if_neg h57] at hv; simp at hx; split at hv <;> omega
  ·have HRR := hid (show R = some acc by rw [← hdec,List.drop_eq_nil_of_le (by rw [HZ.out]; omega),puB])
   have HA := hid ha
   clear hdec ha
   go_wp2
   go_ret2
   exact ⟨by rw [HRR.out,HA.out]; rfl,HBL.out⟩
set_option maxRecDepth 100000 in
set_option maxHeartbeats 32000000 in
theorem puint2 (t : ByteArray) (w : World) (hne : 0 < t.size) (hs : t.size ≤ 1000000) (hd : ∀ b ∈ t.data.toList,dgB 2 b = true) :
  Calls Tryz.prog 284 #[.string t,.int .i64 2,.int .i64 64] w fun e w' => e = .returned (puV (puB 9223372036854775808 2 0 t.data.toList)) ∧ Below w.heap.size w w' := by
 have HZ := hid (size_list t)
 have HDD := hid hd
 clear hd
 have hemp : t.toList.isEmpty = false := by
  rw [ByteArray.toList_eq]
  cases h : t.data.toList with
  | nil => rw [← size_list,h] at hne; exact absurd hne (by decide)
  | cons a l => rfl
 have hcv := Lib.run_convert_string_bytes (P := Tryz.prog) w 9 116 5 t (u := .string) Tryz.underlying9 Tryz.underlying116 Tryz.underlying5
 have hB : Hid (∀ j,j < t.size → (Lib.bytesWorld w 5 t).cell? ⟨w.heap.size,j,none⟩ = some (.int .u8 (t.data.toList.getD j 0).toNat)) := fun j hj => Lib.bytesWorld_cell w 5 t j hj
 have HBL : Hid (Below w.heap.size w (Lib.bytesWorld w 5 t)) := Lib.bytesWorld_below _ _ _
 obtain ⟨W1,hW1⟩ : ∃ W1,W1 = Lib.bytesWorld w 5 t := ⟨_,rfl⟩
 rw [← hW1] at hcv hB HBL
 clear hW1
 have hmv : IntKind.u64.wrap (IntKind.u64.wrap 18446744073709551616 - 1) = 18446744073709551615 := by
  rw [IntKind.wrap_u64,IntKind.wrap_u64]
  decide
 obtain ⟨R,hR⟩ : ∃ R,puB 9223372036854775808 2 0 t.data.toList = R := ⟨_,rfl⟩
 have HR := hid hR
 rw [hR]
 clear hR
 go_enter Tryz.func284,Tryz.ntmps284
 go_wp2
 go_loop [12,13,101] (fun vu vn vi => ∃ (k acc : Nat) (a : Int),vu = .bool false ∧ vn = .int .u64 a ∧ vi = .int .i64 k ∧ k ≤ t.size ∧ Hid (a = (acc : Int) ∧ acc < 18446744073709551616 ∧ puB 9223372036854775808 2 acc (t.data.toList.drop k) = R))
  (fun _ _ vi => t.size - (intOf vi).toNat)
 case atStart => exact ⟨0,0,0,rfl,rfl,rfl,Nat.zero_le _,rfl,by decide,HR.out⟩
 case round =>
  obtain ⟨k,acc,a,rfl,rfl,rfl,hk,hh⟩ := hrel
  obtain ⟨ha,hacc,hdec⟩ := hh.out
  clear hh
  have a0 : 0 ≤ a := by omega
  have a1 : a < 18446744073709551616 := by omega
  by_cases hkn : k < t.size
  ·have hc := hB.out k hkn
   have hlt : k < t.data.toList.length := by rw [HZ.out]; exact hkn
   have hdrop : t.data.toList.drop k = t.data.toList[k] :: t.data.toList.drop (k + 1) := List.drop_eq_getElem_cons hlt
   have hget : t.data.toList.getD k 0 = t.data.toList[k] := by simp [List.getD,List.getElem?_eq_getElem hlt]
   have hdg := HDD.out t.data.toList[k] (List.getElem_mem hlt)
   rw [hdrop,puB] at hdec
   rw [hget] at hc
   generalize t.data.toList[k] = c at hc hdec hdg
   have hc256 : c.toNat < 256 := c.toNat_lt
   unfold dgB at hdg
   rw [Bool.and_eq_true,decide_eq_true_eq] at hdg
   obtain ⟨hx,hv⟩ := hdg
   clear hlt hdrop hget
   by_cases hcut : 9223372036854775808 ≤ acc
   ·rw [if_pos hcut] at hdec
    have HRR := hid hdec
    have icut : 9223372036854775808 ≤ a := by omega
    clear hcut hacc ha hdec
    by_cases h57 : c.toNat ≤ 57
    ·have hd0 : 48 ≤ c.toNat := by unfold hxI at hx; simp at hx; omega
     have e1 : hxV c = c.toNat - 48 := by unfold hxV; rw [if_pos h57]
     have g1 : (c.toNat : Int) - 48 < 2 := by omega
     clear e1 hv hx
     go_wp2
     go_ret2
     exact ⟨by rw [← HRR.out]; rfl,HBL.out⟩
    ·exfalso; unfold hxV at hv; unfold hxI at hx; rw [if_neg h57] at hv; simp at hx; split at hv <;> omega
   ·rw [if_neg hcut] at hdec
    have hb2 : 2 * acc + hxV c < 18446744073709551616 := by omega
    have HN : Hid (a * 2 + (hxV c : Int) = ((2 * acc + hxV c : Nat) : Int) ∧ 2 * acc + hxV c < 18446744073709551616 ∧ puB 9223372036854775808 2 (2 * acc + hxV c) (t.data.toList.drop (k + 1)) = R) := ⟨by omega,hb2,hdec⟩
    have icut : a < 9223372036854775808 := by omega
    have iov : a * 2 + (hxV c : Int) < 18446744073709551616 := by omega
    clear hcut hacc ha hdec hb2
    by_cases h57 : c.toNat ≤ 57
    ·have hd0 : 48 ≤ c.toNat := by unfold hxI at hx; simp at hx; omega
     have e1 : hxV c = c.toNat - 48 := by unfold hxV; rw [if_pos h57]
     have g1 : (c.toNat : Int) - 48 < 2 := by omega
     have iov2 : a * 2 + ((c.toNat : Int) - 48) < 18446744073709551616 := by omega
     clear hv hx iov
     go_wp2
     refine ⟨⟨k + 1,_,_,rfl,rfl,(by first | rfl | (congr 1; omega)),by omega,(show _ ∧ _ ∧ _ from ⟨(by have := HN.out.1; omega),HN.out.2.1,HN.out.2.2⟩)⟩,by simp [intOf]; omega⟩
    ·exfalso; unfold hxV at hv; unfold hxI at hx; rw [if_neg h57] at hv; simp at hx; split at hv <;> omega
  ·have HRR := hid (show R = some acc by rw [← hdec,List.drop_eq_nil_of_le (by rw [HZ.out]; omega),puB])
   have HA := hid ha
   clear hdec ha
   go_wp2
   go_ret2
   exact ⟨by rw [HRR.out,HA.out]; rfl,HBL.out⟩
end Go.Proofs.YteimbjamnfkapaaGreatDoor
