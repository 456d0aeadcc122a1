import Derived.Laws.CopyOwn
import Derived.Laws.IdiomCopy
import Derived.Test.YteimbjamnfkapaaGreatDoorBBase
import Derived.Deep.RegionWith
import Derived.Test.YteimbjamnfkapaaGreatDoorBVStr
namespace Go.Proofs.YteimbjamnfkapaaGreatDoor
open Go.RowKit
theorem conv_new (w : World) (xs : List Int) (k : Nat) (hk : xs.length = k) :
  (convert 116 9 (.slice (some ⟨w.heap.size,0,none⟩) k k)).run Tryz.prog (w.alloc (.cells (xs.map (Value.int .u8)).toArray 5)) = .ok (.string (strOfNums xs)) (w.alloc (.cells (xs.map (Value.int .u8)).toArray 5)) := by
 refine run_convert_bytes_arg _ 116 5 Tryz.underlying116 Tryz.underlying5 _ 0 k k xs hk (fun i hi => ?_) 9 Tryz.underlying9
 have := World.cell?_alloc_mark w (xs.map (Value.int .u8)).toArray 5 (0,0) i
 rw [Nat.zero_add,this]
 have hi' : i < xs.length := by omega
 simp [List.getD,List.getElem?_eq_getElem hi']
set_option maxHeartbeats 400000 in
theorem rgood_any (r : Int) (w : World) :
  Calls Tryz.prog 251 #[.int .i64 r] w fun e w' => e = .returned (.bool (goodB r)) ∧ w' = w := by
 go_enter Tryz.func251,Tryz.ntmps251
 go_wp2
 all_goals
  go_ret
  exact ⟨ret_bool (by unfold goodB; rw [Bool.eq_iff_iff]; simp; try omega),rfl⟩
set_option maxRecDepth 100000 in
set_option maxHeartbeats 400000 in
theorem rput_any (r : Int) (w : World) :
  Calls Tryz.prog 201 #[.int .i64 r] w fun e w' => e = .returned (.string (strOfNums (enc r))) ∧ Below w.heap.size w w' := by
 cases hg : goodB r with
 | false =>
  have e : enc r = [] := by unfold enc; rw [hg]; rfl
  rw [e]
  go_enter Tryz.func201,Tryz.ntmps201
  go_wp2_with (first | (go_at_call 251; go_must (refine (rgood_any _ _).mono ?_; rintro e w' ⟨rfl,hw'⟩; obtain rfl := hw'.symm)))
  go_ret
  exact ⟨rfl,Below.refl _ _⟩
 | true =>
  have e : enc r = encI r := by unfold enc; rw [hg]; rfl
  have hrr := of_decide_eq_true hg
  have h0 : 0 ≤ r := hrr.1
  have hm : r ≤ 1114111 := hrr.2.1
  clear hrr
  rw [e]
  unfold encI
  by_cases h1 : r < 128
  ·rw [if_pos h1]
   have ho : r % 256 = r := by omega
   have hcv := conv_new w [r] 1 rfl
   simp only [List.map] at hcv
   clear e
   go_enter Tryz.func201,Tryz.ntmps201
   go_wp2_with (first | (go_at_call 251; go_must (refine (rgood_any _ _).mono ?_; rintro e w' ⟨rfl,hw'⟩; obtain rfl := hw'.symm)))
   go_ret
   exact ⟨rfl,(Below.refl _ _).alloc (Nat.le_refl _) _⟩
  ·by_cases h2 : r < 2048
   ·rw [if_neg h1,if_pos h2]
    have ho : (192 + r / 64) % 256 = 192 + r / 64 := by omega
    have ho2 : (128 + r % 64) % 256 = 128 + r % 64 := by omega
    have hcv := conv_new w [192 + r / 64,128 + r % 64] 2 rfl
    simp only [List.map] at hcv
    clear e
    go_enter Tryz.func201,Tryz.ntmps201
    go_wp2_with (first | (go_at_call 251; go_must (refine (rgood_any _ _).mono ?_; rintro e w' ⟨rfl,hw'⟩; obtain rfl := hw'.symm)))
    go_ret
    exact ⟨rfl,(Below.refl _ _).alloc (Nat.le_refl _) _⟩
   ·by_cases h3 : r < 65536
    ·rw [if_neg h1,if_neg h2,if_pos h3]
     have ho : (224 + r / 4096) % 256 = 224 + r / 4096 := by omega
     have ho2 : (128 + r / 64 % 64) % 256 = 128 + r / 64 % 64 := by omega
     have ho3 : (128 + r % 64) % 256 = 128 + r % 64 := by omega
     have hcv := conv_new w [224 + r / 4096,128 + r / 64 % 64,128 + r % 64] 3 rfl
     simp only [List.map] at hcv
     clear e
     go_enter Tryz.func201,Tryz.ntmps201
     go_wp2_with (first | (go_at_call 251; go_must (refine (rgood_any _ _).mono ?_; rintro e w' ⟨rfl,hw'⟩; obtain rfl := hw'.symm)))
     go_ret
     exact ⟨rfl,(Below.refl _ _).alloc (Nat.le_refl _) _⟩
    ·rw [if_neg h1,if_neg h2,if_neg h3]
     have ho : (240 + r / 262144) % 256 = 240 + r / 262144 := by omega
     have ho1 : (128 + r / 4096 % 64) % 256 = 128 + r / 4096 % 64 := by omega
     have ho2 : (128 + r / 64 % 64) % 256 = 128 + r / 64 % 64 := by omega
     have ho3 : (128 + r % 64) % 256 = 128 + r % 64 := by omega
     have hcv := conv_new w [240 + r / 262144,128 + r / 4096 % 64,128 + r / 64 % 64,128 + r % 64] 4 rfl
     simp only [List.map] at hcv
     clear e
     go_enter Tryz.func201,Tryz.ntmps201
     go_wp2_with (first | (go_at_call 251; go_must (refine (rgood_any _ _).mono ?_; rintro e w' ⟨rfl,hw'⟩; obtain rfl := hw'.symm)))
     go_ret
     exact ⟨rfl,(Below.refl _ _).alloc (Nat.le_refl _) _⟩
theorem toList_some (s : ByteArray) (h : 0 < s.size) : s.toList.isEmpty = false := by
 rw [ByteArray.toList_eq]
 have := list_of s h
 rw [this]; rfl
theorem toList_none (s : ByteArray) (h : s.size = 0) : s.toList.isEmpty = true := by
 rw [ByteArray.toList_eq]
 have : s.data.toList.length = 0 := by simpa using h
 rw [List.length_eq_zero_iff.1 this]; rfl
theorem fol_step' (s : ByteArray) (b k : Nat) (h1 : 1 ≤ k) (h : k < s.size) (hc : cont s[k] = true) :
  64 * (fol (begR b) (rest s k) : Int) + (s[k].toNat : Int) - 128 = (fol (begR b) (rest s (k + 1)) : Int) := by
 rw [rest_snoc s k h1 h,fol_snoc]
 have h2 := of_decide_eq_true hc
 omega
theorem rtake_none (s : ByteArray) (w : World) (h0 : s.size = 0) :
  Calls Tryz.prog 146 #[.string s] w fun e w' => e = .returned (.tuple #[.int .i64 (tkR s.data.toList),.int .i64 (tkN s.data.toList)]) ∧ Below w.heap.size w w' := by
 have e : s.data.toList = [] := by
  have : s.data.toList.length = 0 := by simpa using h0
  exact List.length_eq_zero_iff.1 this
 rw [e]
 have hz := toList_none s h0
 clear e h0
 go_enter Tryz.func146,Tryz.ntmps146
 go_wp2
 go_ret2
 exact ⟨rfl,Below.refl _ _⟩
set_option maxRecDepth 100000 in
set_option maxHeartbeats 400000 in
theorem rtake_no (s : ByteArray) (w : World) (h0 : 0 < s.size) (hN : begN s[0].toNat = 0) (hlo : (128 : Int) ≤ (s[0].toNat : Int)) (hhi : (s[0].toNat : Int) < 192 ∨ (248 : Int) ≤ (s[0].toNat : Int)) :
  Calls Tryz.prog 146 #[.string s] w fun e w' => e = .returned (.tuple #[.int .i64 (tkR s.data.toList),.int .i64 (tkN s.data.toList)]) ∧ Below w.heap.size w w' := by
 have he : s.toList.isEmpty = false := toList_some s h0
 have hub : (s[0].toNat : Int) < 256 := by have := s[0].toNat_lt; omega
 have E := hid (tk_no s h0 (by rw [tkOk_of s h0,hN,decide_eq_false (by omega)]; rfl))
 clear hN
 rcases hhi with hhi | hhi
 all_goals
  go_enter Tryz.func146,Tryz.ntmps146
  go_wp2
  go_ret2
  exact ⟨ret_two (by rw [E.out.1]; rfl) (by rw [E.out.2]; rfl),Below.refl _ _⟩
set_option maxRecDepth 100000 in
set_option maxHeartbeats 800000 in
theorem rtake_one (s : ByteArray) (w : World) (hs : s.size ≤ maxLen) (h0 : 0 < s.size) (hN : begN s[0].toNat = 1) (hlo : (0 : Int) ≤ (s[0].toNat : Int)) (hhi : (s[0].toNat : Int) < 128) :
  Calls Tryz.prog 146 #[.string s] w fun e w' => e = .returned (.tuple #[.int .i64 (tkR s.data.toList),.int .i64 (tkN s.data.toList)]) ∧ Below w.heap.size w w' := by
 unfold maxLen at hs
 have he : s.toList.isEmpty = false := toList_some s h0
 have HN := hid hN
 have HR := hid (show ((begR s[0].toNat : Nat) : Int) = (s[0].toNat : Int) - 0 by unfold begR; (repeat' split) <;> omega)
 by_cases hlen : s.size < 1
 ·exact absurd hlen (by omega)
 ·clear hN
  go_enter Tryz.func146,Tryz.ntmps146
  go_wp2
  go_loop [6,7] (fun r i => ∃ k : Nat,1 ≤ k ∧ k ≤ 1 ∧ i = .int .i64 k ∧ r = .int .i64 (fol (begR s[0].toNat) (rest s k)) ∧ (rest s k).all cont = true) (fun _ i => 1 - (intOf i).toNat)
  case atStart => exact ⟨1,by omega,by omega,rfl,val_int (by simp [rest,fol,HR.out]),by simp [rest]⟩
  case round =>
   obtain ⟨k,hk1,hk2,rfl,rfl,hall⟩ := hrel
   have hfs := fol_small s[0].toNat (rest s k) hall (by have := rest_len s k; omega)
   by_cases hlt : k < 1
   ·exact absurd hlt (by omega)
   ·obtain rfl : k = 1 := by omega
    have hs2 : (1 : Int) ≤ s.size := by omega
    have hpt := put_test s h0 1 HN.out (by omega) (by omega) hall
    cases hok : tkOk s[0] (s.data.toList.drop 1) with
    | false =>
     rw [hok] at hpt
     have E := hid (tk_no s h0 hok)
     clear hok hall hfs
     go_wp2_with fail
     go_region_with (go_at_call 201; go_must (refine (rput_any _ _).mono ?_; rintro e w' ⟨rfl,hb'⟩))
     go_wp2
     go_ret2
     exact ⟨ret_two (by rw [E.out.1]; rfl) (by rw [E.out.2]; rfl),(Below.refl _ _).drew.trans hb'⟩
    | true =>
     rw [hok] at hpt
     have E := hid (tk_yes s h0 hok)
     clear hok hall hfs
     go_wp2_with fail
     go_region_with (go_at_call 201; go_must (refine (rput_any _ _).mono ?_; rintro e w' ⟨rfl,hb'⟩))
     go_wp2
     go_ret2
     exact ⟨ret_two (by rw [E.out.1,HN.out]) (by rw [E.out.2,HN.out]; rfl),(Below.refl _ _).drew.trans hb'⟩
set_option maxRecDepth 100000 in
set_option maxHeartbeats 800000 in
theorem rtake_two (s : ByteArray) (w : World) (hs : s.size ≤ maxLen) (h0 : 0 < s.size) (hN : begN s[0].toNat = 2) (hlo : (192 : Int) ≤ (s[0].toNat : Int)) (hhi : (s[0].toNat : Int) < 224) :
  Calls Tryz.prog 146 #[.string s] w fun e w' => e = .returned (.tuple #[.int .i64 (tkR s.data.toList),.int .i64 (tkN s.data.toList)]) ∧ Below w.heap.size w w' := by
 unfold maxLen at hs
 have he : s.toList.isEmpty = false := toList_some s h0
 have HN := hid hN
 have HR := hid (show ((begR s[0].toNat : Nat) : Int) = (s[0].toNat : Int) - 192 by unfold begR; (repeat' split) <;> omega)
 by_cases hlen : s.size < 2
 ·have E := hid (tk_no s h0 (by rw [tkOk_of s h0,hN,decide_eq_false (by omega)]; rfl))
  clear hN
  go_enter Tryz.func146,Tryz.ntmps146
  go_wp2
  go_ret2
  exact ⟨ret_two (by rw [E.out.1]; rfl) (by rw [E.out.2]; rfl),Below.refl _ _⟩
 ·clear hN
  go_enter Tryz.func146,Tryz.ntmps146
  go_wp2
  go_loop [6,7] (fun r i => ∃ k : Nat,1 ≤ k ∧ k ≤ 2 ∧ i = .int .i64 k ∧ r = .int .i64 (fol (begR s[0].toNat) (rest s k)) ∧ (rest s k).all cont = true) (fun _ i => 2 - (intOf i).toNat)
  case atStart => exact ⟨1,by omega,by omega,rfl,val_int (by simp [rest,fol,HR.out]),by simp [rest]⟩
  case round =>
   obtain ⟨k,hk1,hk2,rfl,rfl,hall⟩ := hrel
   have hfs := fol_small s[0].toNat (rest s k) hall (by have := rest_len s k; omega)
   by_cases hlt : k < 2
   ·have hks : k < s.size := by omega
    by_cases hc : cont s[k] = true
    ·have hcc := of_decide_eq_true hc
     have hc1 : 128 ≤ (s[k].toNat : Int) := by omega
     have hc2 : (s[k].toNat : Int) < 192 := by omega
     have HF := hid (fol_step' s s[0].toNat k hk1 hks hc)
     have HA := hid (all_step s k hk1 hks hc hall)
     clear hcc hc
     go_wp2
     go_round
     case rel => exact ⟨k + 1,by omega,by omega,by go_num,val_int HF.out,HA.out⟩
     case measure => simp [intOf]; omega
    ·have hc' : cont s[k] = false := by simpa using hc
     have hcc : (s[k].toNat : Int) < 128 ∨ 191 < (s[k].toNat : Int) := by have := of_decide_eq_false hc'; omega
     have E := hid (tk_no s h0 (by rw [tkOk_of s h0,HN.out,all_no s k _ hk1 hlt hks hc']; simp))
     clear hc hc'
     rcases hcc with hcc | hcc
     all_goals
      go_wp2
      go_ret2
      exact ⟨ret_two (by rw [E.out.1]; rfl) (by rw [E.out.2]; rfl),Below.refl _ _⟩
   ·obtain rfl : k = 2 := by omega
    have hs2 : (2 : Int) ≤ s.size := by omega
    have hpt := put_test s h0 2 HN.out (by omega) (by omega) hall
    cases hok : tkOk s[0] (s.data.toList.drop 1) with
    | false =>
     rw [hok] at hpt
     have E := hid (tk_no s h0 hok)
     clear hok hall hfs
     go_wp2_with fail
     go_region_with (go_at_call 201; go_must (refine (rput_any _ _).mono ?_; rintro e w' ⟨rfl,hb'⟩))
     go_wp2
     go_ret2
     exact ⟨ret_two (by rw [E.out.1]; rfl) (by rw [E.out.2]; rfl),(Below.refl _ _).drew.trans hb'⟩
    | true =>
     rw [hok] at hpt
     have E := hid (tk_yes s h0 hok)
     clear hok hall hfs
     go_wp2_with fail
     go_region_with (go_at_call 201; go_must (refine (rput_any _ _).mono ?_; rintro e w' ⟨rfl,hb'⟩))
     go_wp2
     go_ret2
     exact ⟨ret_two (by rw [E.out.1,HN.out]) (by rw [E.out.2,HN.out]; rfl),(Below.refl _ _).drew.trans hb'⟩
set_option maxRecDepth 100000 in
set_option maxHeartbeats 800000 in
theorem rtake_three (s : ByteArray) (w : World) (hs : s.size ≤ maxLen) (h0 : 0 < s.size) (hN : begN s[0].toNat = 3) (hlo : (224 : Int) ≤ (s[0].toNat : Int)) (hhi : (s[0].toNat : Int) < 240) :
  Calls Tryz.prog 146 #[.string s] w fun e w' => e = .returned (.tuple #[.int .i64 (tkR s.data.toList),.int .i64 (tkN s.data.toList)]) ∧ Below w.heap.size w w' := by
 unfold maxLen at hs
 have he : s.toList.isEmpty = false := toList_some s h0
 have HN := hid hN
 have HR := hid (show ((begR s[0].toNat : Nat) : Int) = (s[0].toNat : Int) - 224 by unfold begR; (repeat' split) <;> omega)
 by_cases hlen : s.size < 3
 ·have E := hid (tk_no s h0 (by rw [tkOk_of s h0,hN,decide_eq_false (by omega)]; rfl))
  clear hN
  go_enter Tryz.func146,Tryz.ntmps146
  go_wp2
  go_ret2
  exact ⟨ret_two (by rw [E.out.1]; rfl) (by rw [E.out.2]; rfl),Below.refl _ _⟩
 ·clear hN
  go_enter Tryz.func146,Tryz.ntmps146
  go_wp2
  go_loop [6,7] (fun r i => ∃ k : Nat,1 ≤ k ∧ k ≤ 3 ∧ i = .int .i64 k ∧ r = .int .i64 (fol (begR s[0].toNat) (rest s k)) ∧ (rest s k).all cont = true) (fun _ i => 3 - (intOf i).toNat)
  case atStart => exact ⟨1,by omega,by omega,rfl,val_int (by simp [rest,fol,HR.out]),by simp [rest]⟩
  case round =>
   obtain ⟨k,hk1,hk2,rfl,rfl,hall⟩ := hrel
   have hfs := fol_small s[0].toNat (rest s k) hall (by have := rest_len s k; omega)
   by_cases hlt : k < 3
   ·have hks : k < s.size := by omega
    by_cases hc : cont s[k] = true
    ·have hcc := of_decide_eq_true hc
     have hc1 : 128 ≤ (s[k].toNat : Int) := by omega
     have hc2 : (s[k].toNat : Int) < 192 := by omega
     have HF := hid (fol_step' s s[0].toNat k hk1 hks hc)
     have HA := hid (all_step s k hk1 hks hc hall)
     clear hcc hc
     go_wp2
     go_round
     case rel => exact ⟨k + 1,by omega,by omega,by go_num,val_int HF.out,HA.out⟩
     case measure => simp [intOf]; omega
    ·have hc' : cont s[k] = false := by simpa using hc
     have hcc : (s[k].toNat : Int) < 128 ∨ 191 < (s[k].toNat : Int) := by have := of_decide_eq_false hc'; omega
     have E := hid (tk_no s h0 (by rw [tkOk_of s h0,HN.out,all_no s k _ hk1 hlt hks hc']; simp))
     clear hc hc'
     rcases hcc with hcc | hcc
     all_goals
      go_wp2
      go_ret2
      exact ⟨ret_two (by rw [E.out.1]; rfl) (by rw [E.out.2]; rfl),Below.refl _ _⟩
   ·obtain rfl : k = 3 := by omega
    have hs2 : (3 : Int) ≤ s.size := by omega
    have hpt := put_test s h0 3 HN.out (by omega) (by omega) hall
    cases hok : tkOk s[0] (s.data.toList.drop 1) with
    | false =>
     rw [hok] at hpt
     have E := hid (tk_no s h0 hok)
     clear hok hall hfs
     go_wp2_with fail
     go_region_with (go_at_call 201; go_must (refine (rput_any _ _).mono ?_; rintro e w' ⟨rfl,hb'⟩))
     go_wp2
     go_ret2
     exact ⟨ret_two (by rw [E.out.1]; rfl) (by rw [E.out.2]; rfl),(Below.refl _ _).drew.trans hb'⟩
    | true =>
     rw [hok] at hpt
     have E := hid (tk_yes s h0 hok)
     clear hok hall hfs
     go_wp2_with fail
     go_region_with (go_at_call 201; go_must (refine (rput_any _ _).mono ?_; rintro e w' ⟨rfl,hb'⟩))
     go_wp2
     go_ret2
     exact ⟨ret_two (by rw [E.out.1,HN.out]) (by rw [E.out.2,HN.out]; rfl),(Below.refl _ _).drew.trans hb'⟩
set_option maxRecDepth 100000 in
set_option maxHeartbeats 800000 in
theorem rtake_four (s : ByteArray) (w : World) (hs : s.size ≤ maxLen) (h0 : 0 < s.size) (hN : begN s[0].toNat = 4) (hlo : (240 : Int) ≤ (s[0].toNat : Int)) (hhi : (s[0].toNat : Int) < 248) :
  Calls Tryz.prog 146 #[.string s] w fun e w' => e = .returned (.tuple #[.int .i64 (tkR s.data.toList),.int .i64 (tkN s.data.toList)]) ∧ Below w.heap.size w w' := by
 unfold maxLen at hs
 have he : s.toList.isEmpty = false := toList_some s h0
 have HN := hid hN
 have HR := hid (show ((begR s[0].toNat : Nat) : Int) = (s[0].toNat : Int) - 240 by unfold begR; (repeat' split) <;> omega)
 by_cases hlen : s.size < 4
 ·have E := hid (tk_no s h0 (by rw [tkOk_of s h0,hN,decide_eq_false (by omega)]; rfl))
  clear hN
  go_enter Tryz.func146,Tryz.ntmps146
  go_wp2
  go_ret2
  exact ⟨ret_two (by rw [E.out.1]; rfl) (by rw [E.out.2]; rfl),Below.refl _ _⟩
 ·clear hN
  go_enter Tryz.func146,Tryz.ntmps146
  go_wp2
  go_loop [6,7] (fun r i => ∃ k : Nat,1 ≤ k ∧ k ≤ 4 ∧ i = .int .i64 k ∧ r = .int .i64 (fol (begR s[0].toNat) (rest s k)) ∧ (rest s k).all cont = true) (fun _ i => 4 - (intOf i).toNat)
  case atStart => exact ⟨1,by omega,by omega,rfl,val_int (by simp [rest,fol,HR.out]),by simp [rest]⟩
  case round =>
   obtain ⟨k,hk1,hk2,rfl,rfl,hall⟩ := hrel
   have hfs := fol_small s[0].toNat (rest s k) hall (by have := rest_len s k; omega)
   by_cases hlt : k < 4
   ·have hks : k < s.size := by omega
    by_cases hc : cont s[k] = true
    ·have hcc := of_decide_eq_true hc
     have hc1 : 128 ≤ (s[k].toNat : Int) := by omega
     have hc2 : (s[k].toNat : Int) < 192 := by omega
     have HF := hid (fol_step' s s[0].toNat k hk1 hks hc)
     have HA := hid (all_step s k hk1 hks hc hall)
     clear hcc hc
     go_wp2
     go_round
     case rel => exact ⟨k + 1,by omega,by omega,by go_num,val_int HF.out,HA.out⟩
     case measure => simp [intOf]; omega
    ·have hc' : cont s[k] = false := by simpa using hc
     have hcc : (s[k].toNat : Int) < 128 ∨ 191 < (s[k].toNat : Int) := by have := of_decide_eq_false hc'; omega
     have E := hid (tk_no s h0 (by rw [tkOk_of s h0,HN.out,all_no s k _ hk1 hlt hks hc']; simp))
     clear hc hc'
     rcases hcc with hcc | hcc
     all_goals
      go_wp2
      go_ret2
      exact ⟨ret_two (by rw [E.out.1]; rfl) (by rw [E.out.2]; rfl),Below.refl _ _⟩
   ·obtain rfl : k = 4 := by omega
    have hs2 : (4 : Int) ≤ s.size := by omega
    have hpt := put_test s h0 4 HN.out (by omega) (by omega) hall
    cases hok : tkOk s[0] (s.data.toList.drop 1) with
    | false =>
     rw [hok] at hpt
     have E := hid (tk_no s h0 hok)
     clear hok hall hfs
     go_wp2_with fail
     go_region_with (go_at_call 201; go_must (refine (rput_any _ _).mono ?_; rintro e w' ⟨rfl,hb'⟩))
     go_wp2
     go_ret2
     exact ⟨ret_two (by rw [E.out.1]; rfl) (by rw [E.out.2]; rfl),(Below.refl _ _).drew.trans hb'⟩
    | true =>
     rw [hok] at hpt
     have E := hid (tk_yes s h0 hok)
     clear hok hall hfs
     go_wp2_with fail
     go_region_with (go_at_call 201; go_must (refine (rput_any _ _).mono ?_; rintro e w' ⟨rfl,hb'⟩))
     go_wp2
     go_ret2
     exact ⟨ret_two (by rw [E.out.1,HN.out]) (by rw [E.out.2,HN.out]; rfl),(Below.refl _ _).drew.trans hb'⟩
theorem rtake_all (s : ByteArray) (w : World) (hs : s.size ≤ maxLen) :
  Calls Tryz.prog 146 #[.string s] w fun e w' => e = .returned (.tuple #[.int .i64 (tkR s.data.toList),.int .i64 (tkN s.data.toList)]) ∧ Below w.heap.size w w' := by
 by_cases h0 : s.size = 0
 ·exact rtake_none s w h0
 ·have hp : 0 < s.size := by omega
  have hb := s[0].toNat_lt
  by_cases h1 : s[0].toNat < 128
  ·exact rtake_one s w hs hp (by unfold begN; rw [if_pos h1]) (by omega) (by omega)
  ·by_cases h2 : s[0].toNat < 192
   ·exact rtake_no s w hp (by unfold begN; rw [if_neg h1,if_pos h2]) (by omega) (Or.inl (by omega))
   ·by_cases h3 : s[0].toNat < 224
    ·exact rtake_two s w hs hp (by unfold begN; rw [if_neg h1,if_neg h2,if_pos h3]) (by omega) (by omega)
    ·by_cases h4 : s[0].toNat < 240
     ·exact rtake_three s w hs hp (by unfold begN; rw [if_neg h1,if_neg h2,if_neg h3,if_pos h4]) (by omega) (by omega)
     ·by_cases h5 : s[0].toNat < 248
      ·exact rtake_four s w hs hp (by unfold begN; rw [if_neg h1,if_neg h2,if_neg h3,if_neg h4,if_pos h5]) (by omega) (by omega)
      ·exact rtake_no s w hp (by unfold begN; rw [if_neg h1,if_neg h2,if_neg h3,if_neg h4,if_neg h5]) (by omega) (Or.inr (by omega))
theorem rtake_at (s : ByteArray) (p : Nat) (w : World) (hs : s.size ≤ maxLen) :
  Calls Tryz.prog 146 #[.string (s.extract p s.size)] w fun e w' => e = .returned (.tuple #[.int .i64 (tkR (s.data.toList.drop p)),.int .i64 (tkN (s.data.toList.drop p))]) ∧ Below w.heap.size w w' := by
 have h := rtake_all (s.extract p s.size) w (cut_size s p hs)
 rw [drop_list] at h
 exact h
set_option maxRecDepth 100000 in
set_option maxHeartbeats 400000 in
theorem rvalid_any (s : ByteArray) (w : World) (hs : s.size ≤ maxLen) :
  Calls Tryz.prog 88 #[.string s] w fun e w' => e = .returned (.int .i64 (rvI s.data.toList)) ∧ Below w.heap.size w w' := by
 have HS := hid hs
 have HZ := hid (size_list s)
 unfold maxLen at hs
 go_enter Tryz.func88,Tryz.ntmps88
 go_wp2
 go_loopw [3] (fun i wr => ∃ k : Nat,i = .int .i64 (pos s.data.toList k) ∧ pos s.data.toList k ≤ s.size ∧ (∀ j < k,vgo s.data.toList j = true) ∧ Below w.heap.size w wr) (fun i _ => s.size - (intOf i).toNat)
 case atStart => exact ⟨0,rfl,Nat.zero_le _,fun j hj => absurd hj (Nat.not_lt_zero j),Below.refl _ _⟩
 case round =>
  obtain ⟨k,rfl,hp,hj,hbel⟩ := hrel
  have hk := pos_ge s.data.toList k
  have HJ := hid hj
  have HB := hid hbel
  clear hj hbel
  have hz := HZ.out
  by_cases hlt : pos s.data.toList k < s.size
  ·by_cases h0 : tkN (s.data.toList.drop (pos s.data.toList k)) = 0
   ·have HC := hid (vlk_eq s.data.toList k (by simp [vgo,h0]) HJ.out (by omega))
    have h0' : (((tkN (s.data.toList.drop (pos s.data.toList k)) : Nat) : Int) == 0) = true := by rw [h0]; rfl
    clear hz h0
    go_wp2_with (first | (go_at_call 146; go_must (refine (rtake_at _ _ _ HS.out).mono ?_; rintro e w' ⟨rfl,hb'⟩)))
    go_ret
    exact ⟨ret_int (by have hz := HZ.out; unfold rvI; rw [← HC.out,if_neg (by omega)]),HB.out.trans (hb'.mono HB.out.size)⟩
   ·have hn := pos_next s.data.toList k (by omega)
    have HV := hid (show vgo s.data.toList k = true by simp only [vgo,Bool.and_eq_true,decide_eq_true_eq]; exact ⟨by omega,h0⟩)
    have h0' : (((tkN (s.data.toList.drop (pos s.data.toList k)) : Nat) : Int) == 0) = false := by rw [beq_eq_false_iff_ne]; omega
    have hn' : pos s.data.toList k + tkN (s.data.toList.drop (pos s.data.toList k)) ≤ s.size := by simp only [pos,stp] at hn; omega
    have H0 := hid h0
    clear hz hn h0
    go_wp2_with (first | (go_at_call 146; go_must (refine (rtake_at _ _ _ HS.out).mono ?_; rintro e w' ⟨rfl,hb'⟩)))
    go_roundw
    case rel =>
     have h0 := H0.out
     refine ⟨k + 1,val_int (pos_succ' _ _ h0),by simp only [pos,stp]; omega,fun j hj => ?_,HB.out.trans (hb'.mono HB.out.size)⟩
     by_cases hjk : j = k
     ·rw [hjk]; exact HV.out
     ·exact HJ.out j (by omega)
    case measure => have h0 := H0.out; simp [intOf]; omega
  ·have HC := hid (vlk_eq s.data.toList k (by simp [vgo]; omega) HJ.out (by omega))
   clear hz
   go_wp2
   go_ret
   exact ⟨ret_int (by have hz := HZ.out; unfold rvI; rw [← HC.out,if_pos (by omega)]),HB.out⟩
end Go.Proofs.YteimbjamnfkapaaGreatDoor
