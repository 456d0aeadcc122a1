/- Numbers of chapter 10, as the program reads them: plain mathematics. -/
import Derived.Test.YteimbjamnfkapaaGreatDoorLTlC
import Derived.Test.YteimbjamnfkapaaGreatDoorLMathDecAll
import Derived.Test.YteimbjamnfkapaaGreatDoorLTlE
/- tlex.isJoint, cutDigits, withoutSign, isPower, decimalKind: walked. -/
/- tlex.decimalKind: walked. -/
namespace Go.Proofs.YteimbjamnfkapaaGreatDoor
def sgA (l : List UInt8) : Bool := decide (bt l 0 = 43 ∨ bt l 0 = 45)
def unS (l : List UInt8) : List UInt8 := if sgA l = true then l.drop 1 else l
def infB (l : List UInt8) : Bool := decide (l = [105,110,102] ∨ l = [110,97,110])
def dgs (base : Nat) (d : List UInt8) : Bool := decide (d ≠ []) && decide (cdN (dgB base) false d = d.length)
def bsB (l : List UInt8) : Nat :=
 if bt l 0 = 48 ∧ bt l 1 = 120 ∧ dgs 16 (l.drop 2) = true then 16
 else if bt l 0 = 48 ∧ bt l 1 = 111 ∧ dgs 8 (l.drop 2) = true then 8
 else if bt l 0 = 48 ∧ bt l 1 = 98 ∧ dgs 2 (l.drop 2) = true then 2 else 0
def pwB (l : List UInt8) : Bool := decide (bt l 0 = 101 ∨ bt l 0 = 69) && dgs 10 (unS (l.drop 1))
def kdRn (r : List UInt8) : List UInt8 := if bt r 0 = 46 then (r.drop 1).drop (cdN (dgB 10) false (r.drop 1)) else r
def kdF (r : List UInt8) : Bool := decide (bt r 0 = 46 ∧ cdN (dgB 10) false (r.drop 1) = 0)
def kdN (l : List UInt8) : Nat :=
 if cdN (dgB 10) false l = 0 ∨ (1 < cdN (dgB 10) false l ∧ bt l 0 = 48) then 0
 else if l.drop (cdN (dgB 10) false l) = [] then 2
 else if kdF (l.drop (cdN (dgB 10) false l)) = true then 0
 else if kdRn (l.drop (cdN (dgB 10) false l)) ≠ [] ∧ pwB (kdRn (l.drop (cdN (dgB 10) false l))) = false then 0 else 3
def pvB (base : Nat) (l : List UInt8) : Nat := l.foldl (fun v b => base * v + hxV b) 0
def psV (base : Nat) (l : List UInt8) : Option Int := if pvB base l < 9223372036854775808 then some (pvB base l : Int) else none
def piV (l : List UInt8) : Option Int := match Lib.parseIntB 64 l with
 | .ok v => some v
 | _ => none
def noP (l : List UInt8) : List UInt8 := if bt l 0 = 43 then l.drop 1 else l
theorem dgB_ten (b : UInt8) : dgB 10 b = dgI b := by
 unfold dgB dgI hxI hxV
 have := b.toNat_lt
 rw [Bool.eq_iff_iff]
 simp only [Bool.and_eq_true,Bool.or_eq_true,decide_eq_true_eq]
 (repeat' split) <;> omega
end Go.Proofs.YteimbjamnfkapaaGreatDoor
namespace Go.Proofs.YteimbjamnfkapaaGreatDoor
open Go.RowKit
def jnB (p : UInt8 → Bool) (l : List UInt8) : Bool := decide (bt l 0 = 95) && hdB p (l.drop 1)
theorem hd_at (p : UInt8 → Bool) (s : ByteArray) (h : 1 < s.size) : hdB p (s.data.toList.drop 1) = p s[1] := by
 have : s.data.toList.drop 1 = s[1] :: s.data.toList.drop 2 := by
  rw [List.drop_eq_getElem_cons (by rw [size_list]; exact h)]; rfl
 rw [this]; rfl
theorem hd_no (p : UInt8 → Bool) (s : ByteArray) (h : ¬ 1 < s.size) : hdB p (s.data.toList.drop 1) = false := by
 rw [List.drop_eq_nil_of_le (by rw [size_list]; omega)]; rfl
set_option maxRecDepth 100000 in
set_option maxHeartbeats 1000000 in
theorem tjoint_of (s ds : ByteArray) (p : UInt8 → Bool) (hp : ∀ b,inT ds.data.toList b = p b) (w : World) :
  Calls Tryz.prog 320 #[.string s,.string ds] w fun e w' => e = .returned (.bool (jnB p s.data.toList)) ∧ w' = w := by
 have HR : Hid (jnB p s.data.toList = (decide (bt s.data.toList 0 = 95) && hdB p (s.data.toList.drop 1))) := rfl
 generalize jnB p s.data.toList = R at *
 by_cases h1 : 1 < s.size
 ·have h0 : 0 < s.size := by omega
  have C := hid (fun X => tamong_of ds p hp s[1] X)
  rw [hd_at p s h1,bt_at s 0 h0] at HR
  have hb0 := s[0].toNat_lt
  have hb1 := s[1].toNat_lt
  generalize p s[1] = z at *
  by_cases h95 : s[0].toNat = 95
  ·have g : ((s[0].toNat : Int) == 95) = true := by rw [beq_iff_eq]; omega
   rw [decide_eq_true h95,Bool.true_and] at HR
   clear h95
   have hlt2 : 0 < s.size := h0
   have hlt3 : 1 < s.size := h1
   go_enter Tryz.func320,Tryz.ntmps320
   go_wp2_with (go_at_call 229; go_must (refine (C.out _).mono ?_; rintro e w1 ⟨rfl,hw⟩; obtain rfl := hw.symm))
   go_ret
   exact ⟨ret_bool HR.out.symm,rfl⟩
  ·have g : ((s[0].toNat : Int) == 95) = false := by rw [beq_eq_false_iff_ne]; omega
   rw [decide_eq_false h95,Bool.false_and] at HR
   clear h95
   have hlt2 : 0 < s.size := h0
   have hlt3 : 1 < s.size := h1
   go_enter Tryz.func320,Tryz.ntmps320
   go_wp2_with fail
   go_ret
   exact ⟨ret_bool HR.out.symm,rfl⟩
 ·rw [hd_no p s h1,Bool.and_false] at HR
  go_enter Tryz.func320,Tryz.ntmps320
  go_wp2_with fail
  go_ret
  exact ⟨ret_bool HR.out.symm,rfl⟩
theorem cd_step {p : UInt8 → Bool} {q : Bool} {b : UInt8} {l : List UInt8} (h : (p b || (q && jnB p (b :: l))) = true) : cdN p q (b :: l) = 1 + cdN p true l := by
 rw [cdN,if_pos]
 rw [← h]; unfold jnB; rw [bt_cons]; simp [Bool.and_assoc]
theorem cd_stop {p : UInt8 → Bool} {q : Bool} {b : UInt8} {l : List UInt8} (h : (p b || (q && jnB p (b :: l))) = false) : cdN p q (b :: l) = 0 := by
 rw [cdN,if_neg]
 have : (p b || (q && decide (b.toNat = 95) && hdB p l)) = false := by rw [← h]; unfold jnB; rw [bt_cons]; simp [Bool.and_assoc]
 rw [this]; decide
theorem tdrop_at (t : ByteArray) (i : Nat) (h : i < t.size) : t.data.toList.drop i = t[i] :: t.data.toList.drop (i + 1) := by
 rw [List.drop_eq_getElem_cons (by rw [size_list]; exact h)]; rfl
theorem ret_ss {a b c d : ByteArray} (h : a = b) (g : c = d) : Ending.returned (.tuple #[.string a,.string c]) = .returned (.tuple #[.string b,.string d]) := by rw [h,g]
theorem drop_str (s : ByteArray) (n : Nat) : s.extract n s.size = mkS (s.data.toList.drop n) := mkS_of _ _ (drop_list s n)
set_option maxRecDepth 100000 in
set_option maxHeartbeats 2000000 in
theorem tcut_of (s ds : ByteArray) (p : UInt8 → Bool) (hp : ∀ b,inT ds.data.toList b = p b) (w : World) (hs : s.size ≤ 1000000) :
  Calls Tryz.prog 299 #[.string s,.string ds] w fun e w' => e = .returned (.tuple #[.string (mkS (s.data.toList.take (cdN p false s.data.toList))),.string (mkS (s.data.toList.drop (cdN p false s.data.toList)))]) ∧ ∃ n,w' = w.drewN n := by
 have HZ := hid (size_list s)
 have CA := hid (fun b X => tamong_of ds p hp b X)
 have CJ := hid (fun u X => tjoint_of u ds p hp X)
 have HT := hid (fun n => take_str s n)
 have HD := hid (fun n => drop_str s n)
 obtain ⟨N,hN⟩ : ∃ N,cdN p false s.data.toList = N := ⟨_,rfl⟩
 have HN := hid hN
 rw [hN]
 clear hN
 go_enter Tryz.func299,Tryz.ntmps299
 go_wp2_with fail
 go_loop [6] (fun x => ∃ k : Nat,k ≤ s.size ∧ x = .int .i64 (k : Int) ∧ Hid (N = k + cdN p (decide (0 < k)) (s.data.toList.drop k))) (fun x => s.size - (intOf x).toNat)
 case atStart => exact ⟨0,Nat.zero_le _,rfl,(show N = _ by rw [← HN.out]; simp)⟩
 case round =>
  obtain ⟨k,hk,rfl,HK⟩ := hrel
  by_cases hlt : k < s.size
  ·have hbk := s[k].toNat_lt
   have CA2 := hid (CA.out s[k])
   have CJ2 := hid (CJ.out (s.extract k s.size))
   rw [drop_list,tdrop_at s k hlt] at CJ2
   have HST : Hid ((p s[k] || (decide (0 < k) && jnB p (s[k] :: s.data.toList.drop (k + 1)))) = true → N = k + 1 + cdN p (decide (0 < k + 1)) (s.data.toList.drop (k + 1))) := fun h => by
    rw [HK.out,tdrop_at s k hlt,cd_step h,decide_eq_true (Nat.succ_pos k)]; omega
   have HSP : Hid ((p s[k] || (decide (0 < k) && jnB p (s[k] :: s.data.toList.drop (k + 1)))) = false → N = k) := fun h => by
    rw [HK.out,tdrop_at s k hlt,cd_stop h]; rfl
   generalize jnB p (s[k] :: s.data.toList.drop (k + 1)) = j at *
   generalize p s[k] = z at *
   cases z with
   | true =>
    have H2 := hid (HST.out (by simp))
    clear HST HSP CJ2
    have hlt2 : k < s.size := hlt
    go_wp2_with (go_at_call 229; go_must (refine (CA2.out _).mono ?_; rintro e w1 ⟨rfl,hw⟩; obtain rfl := hw.symm))
    go_round
    case rel => exact ⟨k + 1,hlt,val_int (by omega),H2.out⟩
    case measure => simp [intOf]; omega
   | false =>
    by_cases h0 : 0 < k
    ·rw [decide_eq_true h0] at HST HSP
     cases j with
     | true =>
      have H2 := hid (HST.out rfl)
      clear HST HSP
      have hlt2 : k < s.size := hlt
      go_wp2_with (first
       | (go_at_call 229; go_must (refine (CA2.out _).mono ?_; rintro e w1 ⟨rfl,hw⟩; obtain rfl := hw.symm))
       | (go_at_call 320; go_must (refine (CJ2.out _).mono ?_; rintro e w1 ⟨rfl,hw⟩; obtain rfl := hw.symm)))
      go_round
      case rel => exact ⟨k + 1,hlt,val_int (by omega),H2.out⟩
      case measure => simp [intOf]; omega
     | false =>
      have H2 := hid (HSP.out rfl)
      clear HST HSP
      have hlt2 : k < s.size := hlt
      go_wp2_with (first
       | (go_at_call 229; go_must (refine (CA2.out _).mono ?_; rintro e w1 ⟨rfl,hw⟩; obtain rfl := hw.symm))
       | (go_at_call 320; go_must (refine (CJ2.out _).mono ?_; rintro e w1 ⟨rfl,hw⟩; obtain rfl := hw.symm)))
      go_quiet (fail)
      go_wp2_with fail
      go_ret2
      exact ⟨ret_ss (by rw [H2.out]; exact HT.out k) (by rw [H2.out]; exact HD.out k),_,rfl⟩
    ·have H2 := hid (HSP.out (by rw [decide_eq_false h0]; rfl))
     clear HST HSP HK
     have h0i : ¬ (0 : Int) < (k : Int) := by omega
     have hlt2 : k < s.size := hlt
     go_wp2_with (go_at_call 229; go_must (refine (CA2.out _).mono ?_; rintro e w1 ⟨rfl,hw⟩; obtain rfl := hw.symm))
     go_quiet (fail)
     go_wp2_with fail
     go_ret2
     exact ⟨ret_ss (by rw [H2.out]; exact HT.out k) (by rw [H2.out]; exact HD.out k),_,rfl⟩
  ·have H2 := hid (show N = k by rw [HK.out,List.drop_eq_nil_of_le (by rw [HZ.out]; omega)]; rfl)
   go_wp2_with fail
   go_quiet (fail)
   go_wp2_with fail
   go_ret2
   exact ⟨ret_ss (by rw [H2.out]; exact HT.out k) (by rw [H2.out]; exact HD.out k),_,rfl⟩
theorem in_ten2 (b : UInt8) : inT (⟨#[48,49,50,51,52,53,54,55,56,57]⟩ : ByteArray).data.toList b = dgB 10 b := by rw [dgB_ten]; exact in_ten b
theorem tcut_ten (s : ByteArray) (w : World) (hs : s.size ≤ 1000000) :
  Calls Tryz.prog 299 #[.string s,.string ⟨#[48,49,50,51,52,53,54,55,56,57]⟩] w fun e w' => e = .returned (.tuple #[.string (mkS (s.data.toList.take (cdN (dgB 10) false s.data.toList))),.string (mkS (s.data.toList.drop (cdN (dgB 10) false s.data.toList)))]) ∧ Below w.heap.size w w' := by
 refine (tcut_of s _ (dgB 10) in_ten2 w hs).mono ?_
 rintro e w' ⟨rfl,n,rfl⟩
 exact ⟨rfl,tdrew_below _ _⟩
set_option maxRecDepth 100000 in
set_option maxHeartbeats 1000000 in
theorem tunsign_any (s : ByteArray) (w : World) :
  Calls Tryz.prog 274 #[.string s] w fun e w' => e = .returned (.string (mkS (unS s.data.toList))) ∧ w' = w := by
 have HE := hid (empty_is s)
 have HR : Hid (mkS (unS s.data.toList) = if sgA s.data.toList = true then mkS (s.data.toList.drop 1) else mkS s.data.toList) := by
  show _ = _
  unfold unS; split <;> rfl
 obtain ⟨R,hR⟩ : ∃ R,mkS (unS s.data.toList) = R := ⟨_,rfl⟩
 rw [hR] at HR ⊢
 clear hR
 by_cases h0 : 0 < s.size
 ·have he : s.toList.isEmpty = false := by
   rw [HE.out,decide_eq_false]; intro h; rw [← size_list,h] at h0; exact absurd h0 (by decide)
  have hb := s[0].toNat_lt
  have C := hid (fun X => tamong_pm s[0] X)
  have e1 : sgA s.data.toList = decide (s[0].toNat = 43 ∨ s[0].toNat = 45) := by unfold sgA; rw [bt_at s 0 h0]
  rw [e1] at HR
  clear e1
  have HX := hid (self_str s)
  have HX2 := hid (drop_str s 1)
  generalize decide (s[0].toNat = 43 ∨ s[0].toNat = 45) = z at *
  have hlt2 : 0 < s.size := h0
  cases z with
  | true =>
   rw [if_pos rfl] at HR
   go_enter Tryz.func274,Tryz.ntmps274
   go_wp2_with (go_at_call 229; go_must (refine (C.out _).mono ?_; rintro e w1 ⟨rfl,hw⟩; obtain rfl := hw.symm))
   go_ret
   exact ⟨ret_str (by rw [HR.out]; exact HX2.out),rfl⟩
  | false =>
   rw [if_neg (by decide)] at HR
   go_enter Tryz.func274,Tryz.ntmps274
   go_wp2_with (go_at_call 229; go_must (refine (C.out _).mono ?_; rintro e w1 ⟨rfl,hw⟩; obtain rfl := hw.symm))
   go_ret
   exact ⟨ret_str (by rw [HR.out]; exact HX.out),rfl⟩
 ·have h1 : s.data.toList = [] := List.eq_nil_of_length_eq_zero (by rw [size_list]; omega)
  have he : s.toList.isEmpty = true := by rw [HE.out,decide_eq_true h1]
  have e1 : sgA s.data.toList = false := by rw [h1]; rfl
  rw [e1,if_neg (by decide)] at HR
  have HX := hid (self_str s)
  clear e1 h1
  go_enter Tryz.func274,Tryz.ntmps274
  go_wp2_with fail
  go_ret
  exact ⟨ret_str (by rw [HR.out]; exact HX.out),rfl⟩
theorem in_ee (b : UInt8) : inT [101,69] b = decide (b.toNat = 101 ∨ b.toNat = 69) := byte_eq _ (fun b => decide (b.toNat = 101 ∨ b.toNat = 69)) (by decide +kernel) b
theorem tamong_ee (b : UInt8) (w : World) :
  Calls Tryz.prog 229 #[.string ⟨#[101,69]⟩,.int .u8 (b.toNat : Int)] w fun e w' => e = .returned (.bool (decide (b.toNat = 101 ∨ b.toNat = 69))) ∧ w' = w :=
 tamong_of _ (fun b => decide (b.toNat = 101 ∨ b.toNat = 69)) in_ee b w
theorem mkS_empty (l : List UInt8) : (mkS l).toList.isEmpty = decide (l = []) := by rw [empty_is,mkS_list]
theorem take_nil {l : List UInt8} {n : Nat} (h : n ≤ l.length) : decide (l.take n = []) = decide (n = 0) := by
 refine decide_eq_decide.2 ⟨fun e => ?_,fun e => by rw [e]; rfl⟩
 have := congrArg List.length e
 rw [List.length_take] at this
 simp at this; rcases this with h1 | h1
 ·exact h1
 ·subst h1; simpa using h
theorem drop_nil {l : List UInt8} {n : Nat} (h : n ≤ l.length) : decide (l.drop n = []) = decide (n = l.length) := by
 refine decide_eq_decide.2 ⟨fun e => ?_,fun e => by rw [e]; simp⟩
 have := congrArg List.length e
 rw [List.length_drop] at this
 simp at this; omega
theorem dgs_is (d : List UInt8) (base : Nat) : dgs base d = (!decide (cdN (dgB base) false d = 0) && decide (cdN (dgB base) false d = d.length)) := by
 unfold dgs
 have := cdN_le (dgB base) false d
 by_cases h : cdN (dgB base) false d = d.length
 ·rw [decide_eq_true h,h,Bool.and_true,Bool.and_true]
  cases d with
  | nil => rfl
  | cons a l => simp
 ·rw [decide_eq_false h,Bool.and_false,Bool.and_false]
set_option maxRecDepth 100000 in
set_option maxHeartbeats 1000000 in
theorem tpower_any (s : ByteArray) (w : World) (hs : s.size ≤ 1000000) (h0 : 0 < s.size) :
  Calls Tryz.prog 301 #[.string s] w fun e w' => e = .returned (.bool (pwB s.data.toList)) ∧ Below w.heap.size w w' := by
 have HR : Hid (pwB s.data.toList = (decide (bt s.data.toList 0 = 101 ∨ bt s.data.toList 0 = 69) && dgs 10 (unS (s.data.toList.drop 1)))) := rfl
 rw [dgs_is,bt_at s 0 h0] at HR
 generalize pwB s.data.toList = R at *
 have hb := s[0].toNat_lt
 have CE := hid (fun X => tamong_ee s[0] X)
 have CU := hid (fun X => tunsign_any (s.extract 1 s.size) X)
 rw [drop_list] at CU
 have hul : (unS (s.data.toList.drop 1)).length ≤ 1000000 := by
  have : (unS (s.data.toList.drop 1)).length ≤ (s.data.toList.drop 1).length := by
   unfold unS; split
   ·rw [List.length_drop]; omega
   ·omega
  rw [List.length_drop,size_list] at this; omega
 have CC := hid (fun X => tcut_ten (mkS (unS (s.data.toList.drop 1))) X (by rw [mkS_size]; exact hul))
 rw [mkS_list] at CC
 generalize unS (s.data.toList.drop 1) = d at *
 have hcl := cdN_le (dgB 10) false d
 generalize cdN (dgB 10) false d = n at *
 have E1 := hid (mkS_empty (d.take n))
 have E2 := hid (mkS_empty (d.drop n))
 rw [take_nil hcl] at E1
 rw [drop_nil hcl] at E2
 generalize mkS (d.take n) = x at *
 generalize mkS (d.drop n) = y at *
 generalize mkS d = u at *
 generalize decide (n = 0) = z1 at *
 generalize decide (n = d.length) = z2 at *
 have e1 : x.toList.isEmpty = z1 := E1.out
 have e2 : y.toList.isEmpty = z2 := E2.out
 clear hul hcl E1 E2
 by_cases he : s[0].toNat = 101 ∨ s[0].toNat = 69
 ·rw [decide_eq_true he] at HR CE
  clear he
  have hlt2 : 0 < s.size := h0
  cases z1 <;> cases z2
  all_goals
   go_enter Tryz.func301,Tryz.ntmps301
   go_wp2_with (first
    | (go_at_call 229; go_must (refine (CE.out _).mono ?_; rintro e w1 ⟨rfl,hw⟩; obtain rfl := hw.symm))
    | (go_at_call 274; go_must (refine (CU.out _).mono ?_; rintro e w1 ⟨rfl,hw⟩; obtain rfl := hw.symm))
    | (go_at_call 299; go_must (refine (CC.out _).mono ?_; rintro e w2 ⟨rfl,hb2⟩)))
   go_ret
   exact ⟨ret_bool (by rw [HR.out]; rfl),hb2⟩
 ·rw [decide_eq_false he] at HR CE
  clear he
  have hlt2 : 0 < s.size := h0
  go_enter Tryz.func301,Tryz.ntmps301
  go_wp2_with (go_at_call 229; go_must (refine (CE.out _).mono ?_; rintro e w1 ⟨rfl,hw⟩; obtain rfl := hw.symm))
  go_ret
  exact ⟨ret_bool (by rw [HR.out]; rfl),Below.refl _ _⟩
theorem tp1 (l : List UInt8) (c : UInt8) : Lib.trimPrefix l [c] = if bt l 0 = c.toNat then l.drop 1 else l := by
 unfold Lib.trimPrefix; rw [hp1]
 by_cases h : bt l 0 = c.toNat
 ·rw [decide_eq_true h,if_pos rfl,if_pos h]; rfl
 ·rw [decide_eq_false h,if_neg (by decide),if_neg h]
theorem tcutp_any (s : ByteArray) (c : UInt8) (w : World) :
  Calls Tryz.prog 139 #[.string s,.string ⟨#[c]⟩] w fun e w' => e = .returned (.tuple #[.string (mkS (if bt s.data.toList 0 = c.toNat then s.data.toList.drop 1 else s.data.toList)),.bool (decide (bt s.data.toList 0 = c.toNat))]) ∧ w' = w := by
 have := Tryz.strings_CutPrefix s ⟨#[c]⟩ w
 rw [show (⟨#[c]⟩ : ByteArray).data.toList = [c] from rfl,tp1,hp1] at this
 exact this
theorem bt_take {l : List UInt8} {n k : Nat} (h : k < n) : bt (l.take n) k = bt l k := by
 unfold bt; rw [List.getElem?_take]; simp [h]
set_option maxRecDepth 100000 in
set_option maxHeartbeats 4000000 in
theorem tkind_any (s : ByteArray) (w : World) (hs : s.size ≤ 1000000) :
  Calls Tryz.prog 277 #[.string s] w fun e w' => e = .returned (.int .i64 (kdN s.data.toList : Nat)) ∧ Below w.heap.size w w' := by
 have CC := hid (fun X => tcut_ten s X hs)
 have hcl := cdN_le (dgB 10) false s.data.toList
 have HR : Hid (kdN s.data.toList = if cdN (dgB 10) false s.data.toList = 0 ∨ (1 < cdN (dgB 10) false s.data.toList ∧ bt s.data.toList 0 = 48) then 0
  else if s.data.toList.drop (cdN (dgB 10) false s.data.toList) = [] then 2
  else if kdF (s.data.toList.drop (cdN (dgB 10) false s.data.toList)) = true then 0
  else if kdRn (s.data.toList.drop (cdN (dgB 10) false s.data.toList)) ≠ [] ∧ pwB (kdRn (s.data.toList.drop (cdN (dgB 10) false s.data.toList))) = false then 0 else 3) := rfl
 obtain ⟨R,hR⟩ : ∃ R,kdN s.data.toList = R := ⟨_,rfl⟩
 rw [hR] at HR ⊢
 clear hR
 generalize cdN (dgB 10) false s.data.toList = n at *
 have hx1 : (mkS (s.data.toList.take n)).size = n := by rw [mkS_size,List.length_take]; omega
 have hx2 := mkS_empty (s.data.toList.take n)
 rw [take_nil hcl] at hx2
 have hx3 : Hid (∀ h : 0 < (mkS (s.data.toList.take n)).size,(mkS (s.data.toList.take n))[0].toNat = bt s.data.toList 0) := fun h => by
  rw [← bt_at _ 0 h,mkS_list,bt_take (by omega)]
 have hrl : (s.data.toList.drop n).length ≤ 1000000 := by rw [List.length_drop,size_list]; omega
 generalize mkS (s.data.toList.take n) = x at *
 generalize s.data.toList.drop n = r at *
 generalize bt s.data.toList 0 = b0 at *
 have CP := hid (fun X => tcutp_any (mkS r) 46 X)
 rw [mkS_list,show (46 : UInt8).toNat = 46 from rfl] at CP
 have hr2 := mkS_empty r
 have CW := hid (fun X (h : 0 < (mkS r).size) => tpower_any (mkS r) X (by rw [mkS_size]; exact hrl) h)
 rw [mkS_list] at CW
 have CF := hid (fun X => tcut_ten (mkS (r.drop 1)) X (by rw [mkS_size,List.length_drop]; omega))
 rw [mkS_list] at CF
 have HX := hid hx1
 have hnx : n ≤ x.size := by omega
 have hnx2 : x.size ≤ n := by omega
 clear hx1
 by_cases h1 : n = 0
 ·have e1 : x.toList.isEmpty = true := by rw [hx2,decide_eq_true h1]
  rw [if_pos (Or.inl h1)] at HR
  clear hx2 h1 HX hx3
  go_enter Tryz.func277,Tryz.ntmps277
  go_wp2_with (go_at_call 299; go_must (refine (CC.out _).mono ?_; rintro e w1 ⟨rfl,hb1⟩))
  go_ret
  exact ⟨ret_int (by rw [HR.out]; rfl),hb1⟩
 ·have e1 : x.toList.isEmpty = false := by rw [hx2,decide_eq_false h1]
  have h0 : 0 < x.size := by omega
  have x0 := hx3.out h0
  have hb0 := x[0].toNat_lt
  have hlt2 : 0 < x.size := h0
  clear hx2 hx3 HX
  by_cases h2 : 1 < n ∧ b0 = 48
  ·have g : ((x[0].toNat : Int) == 48) = true := by rw [beq_iff_eq]; omega
   have g1 : 1 < x.size := by omega
   rw [if_pos (Or.inr h2)] at HR
   clear h2 x0 h1
   go_enter Tryz.func277,Tryz.ntmps277
   go_wp2_with (go_at_call 299; go_must (refine (CC.out _).mono ?_; rintro e w1 ⟨rfl,hb1⟩))
   go_ret
   exact ⟨ret_int (by rw [HR.out]; rfl),hb1⟩
  ·rw [if_neg (by rintro (k | k); exact h1 k; exact h2 k)] at HR
   have HG : Hid (1 < x.size → ((x[0].toNat : Int) == 48) = false) := fun h => by rw [beq_eq_false_iff_ne]; intro k; exact h2 ⟨by omega,by omega⟩
   have hry : (mkS r).size = r.length := mkS_size r
   clear h2 x0 h1
   by_cases h3 : r = []
   ·have e2 : (mkS r).toList.isEmpty = true := by rw [hr2,decide_eq_true h3]
    rw [if_pos h3] at HR
    clear hr2 h3 hry CP CW
    generalize mkS r = y at *
    rcases Nat.lt_or_ge 1 x.size with h11 | h11
    all_goals
     try have g := HG.out h11
     clear HG
     go_enter Tryz.func277,Tryz.ntmps277
     go_wp2_with (go_at_call 299; go_must (refine (CC.out _).mono ?_; rintro e w1 ⟨rfl,hb1⟩))
     go_ret
     exact ⟨ret_int (by rw [HR.out]; rfl),hb1⟩
   ·have e2 : (mkS r).toList.isEmpty = false := by rw [hr2,decide_eq_false h3]
    have h0r : 0 < (mkS r).size := by rw [hry]; exact List.length_pos_iff.2 h3
    rw [if_neg h3] at HR
    by_cases hd : bt r 0 = 46
    ·rw [if_pos hd,decide_eq_true hd] at CP
     have hKF : kdF r = decide (cdN (dgB 10) false (r.drop 1) = 0) := by unfold kdF; simp [hd]
     have hKR : kdRn r = (r.drop 1).drop (cdN (dgB 10) false (r.drop 1)) := by unfold kdRn; rw [if_pos hd]
     rw [hKF,hKR] at HR
     have hfl := cdN_le (dgB 10) false (r.drop 1)
     have hdl : (r.drop 1).length ≤ 1000000 := by rw [List.length_drop]; omega
     clear hKF hKR CW hr2
     generalize r.drop 1 = f at *
     generalize cdN (dgB 10) false f = m at *
     have ef := mkS_empty (f.take m)
     rw [take_nil hfl] at ef
     have hml : (f.drop m).length ≤ 1000000 := by rw [List.length_drop]; omega
     generalize mkS (f.take m) = fx at *
     have CW := hid (fun X (h : 0 < (mkS (f.drop m)).size) => tpower_any (mkS (f.drop m)) X (by rw [mkS_size]; exact hml) h)
     rw [mkS_list] at CW
     have em := mkS_empty (f.drop m)
     have hmy : (mkS (f.drop m)).size = (f.drop m).length := mkS_size _
     generalize mkS f = fb at *
     generalize f.drop m = g2 at *
     generalize mkS r = y at *
     by_cases hm0 : m = 0
     ·have ef2 : fx.toList.isEmpty = true := by rw [ef,decide_eq_true hm0]
      rw [if_pos (decide_eq_true hm0)] at HR
      clear ef hm0 hd CW em hmy
      rcases Nat.lt_or_ge 1 x.size with h11 | h11
      all_goals
       try have g := HG.out h11
       clear HG
       go_enter Tryz.func277,Tryz.ntmps277
       go_wp2_with (first
        | (go_at_call 299; go_must (first | ((with_reducible refine (CC.out _).mono ?_); rintro e w1 ⟨rfl,hb1⟩) | ((with_reducible refine (CF.out _).mono ?_); rintro e w2 ⟨rfl,hb2⟩)))
        | (go_at_call 139; go_must (refine (CP.out _).mono ?_; rintro e w1 ⟨rfl,hw⟩; obtain rfl := hw.symm)))
       go_ret
       exact ⟨ret_int (by rw [HR.out]; rfl),eonto hb1 hb2⟩
     ·have ef2 : fx.toList.isEmpty = false := by rw [ef,decide_eq_false hm0]
      rw [if_neg (by rw [decide_eq_false hm0]; decide)] at HR
      clear ef hm0 hd
      by_cases hg2 : g2 = []
      ·have em2 : (mkS g2).toList.isEmpty = true := by rw [em,decide_eq_true hg2]
       rw [if_neg (fun k => k.1 hg2)] at HR
       clear em hg2 CW hmy
       generalize mkS g2 = yy at *
       rcases Nat.lt_or_ge 1 x.size with h11 | h11
       all_goals
        try have g := HG.out h11
        clear HG
        go_enter Tryz.func277,Tryz.ntmps277
        go_wp2_with (first
         | (go_at_call 299; go_must (first | ((with_reducible refine (CC.out _).mono ?_); rintro e w1 ⟨rfl,hb1⟩) | ((with_reducible refine (CF.out _).mono ?_); rintro e w2 ⟨rfl,hb2⟩)))
         | (go_at_call 139; go_must (refine (CP.out _).mono ?_; rintro e w1 ⟨rfl,hw⟩; obtain rfl := hw.symm)))
        go_ret
        exact ⟨ret_int (by rw [HR.out]; rfl),eonto hb1 hb2⟩
      ·have em2 : (mkS g2).toList.isEmpty = false := by rw [em,decide_eq_false hg2]
       have CW2 := hid (fun X => CW.out X (by rw [hmy]; exact List.length_pos_iff.2 hg2))
       clear em CW hmy
       generalize mkS g2 = yy at *
       cases hpw : pwB g2 with
       | true =>
        rw [if_neg (fun k => by rw [hpw] at k; exact absurd k.2 (by decide))] at HR
        rw [hpw] at CW2
        clear hpw hg2
        rcases Nat.lt_or_ge 1 x.size with h11 | h11
        all_goals
         try have g := HG.out h11
         clear HG
         go_enter Tryz.func277,Tryz.ntmps277
         go_wp2_with (first
          | (go_at_call 299; go_must (first | ((with_reducible refine (CC.out _).mono ?_); rintro e w1 ⟨rfl,hb1⟩) | ((with_reducible refine (CF.out _).mono ?_); rintro e w2 ⟨rfl,hb2⟩)))
          | (go_at_call 139; go_must (refine (CP.out _).mono ?_; rintro e w1 ⟨rfl,hw⟩; obtain rfl := hw.symm))
          | (go_at_call 301; go_must (refine (CW2.out _).mono ?_; rintro e w3 ⟨rfl,hb3⟩)))
         go_ret
         exact ⟨ret_int (by rw [HR.out]; rfl),eonto (eonto hb1 hb2) hb3⟩
       | false =>
        rw [if_pos ⟨hg2,hpw⟩] at HR
        rw [hpw] at CW2
        clear hpw hg2
        rcases Nat.lt_or_ge 1 x.size with h11 | h11
        all_goals
         try have g := HG.out h11
         clear HG
         go_enter Tryz.func277,Tryz.ntmps277
         go_wp2_with (first
          | (go_at_call 299; go_must (first | ((with_reducible refine (CC.out _).mono ?_); rintro e w1 ⟨rfl,hb1⟩) | ((with_reducible refine (CF.out _).mono ?_); rintro e w2 ⟨rfl,hb2⟩)))
          | (go_at_call 139; go_must (refine (CP.out _).mono ?_; rintro e w1 ⟨rfl,hw⟩; obtain rfl := hw.symm))
          | (go_at_call 301; go_must (refine (CW2.out _).mono ?_; rintro e w3 ⟨rfl,hb3⟩)))
         go_ret
         exact ⟨ret_int (by rw [HR.out]; rfl),eonto (eonto hb1 hb2) hb3⟩
    ·rw [if_neg hd,decide_eq_false hd] at CP
     have hKF : kdF r = false := by unfold kdF; simp [hd]
     have hKR : kdRn r = r := by unfold kdRn; rw [if_neg hd]
     rw [hKF,hKR,if_neg (by decide)] at HR
     have CW2 := hid (fun X => CW.out X h0r)
     clear hKF hKR CF hr2 hd CW hry
     generalize mkS r = y at *
     cases hpw : pwB r with
     | true =>
      rw [if_neg (fun k => by rw [hpw] at k; exact absurd k.2 (by decide))] at HR
      rw [hpw] at CW2
      clear hpw h3
      rcases Nat.lt_or_ge 1 x.size with h11 | h11
      all_goals
       try have g := HG.out h11
       clear HG
       go_enter Tryz.func277,Tryz.ntmps277
       go_wp2_with (first
        | (go_at_call 299; go_must (refine (CC.out _).mono ?_; rintro e w1 ⟨rfl,hb1⟩))
        | (go_at_call 139; go_must (refine (CP.out _).mono ?_; rintro e w1 ⟨rfl,hw⟩; obtain rfl := hw.symm))
        | (go_at_call 301; go_must (refine (CW2.out _).mono ?_; rintro e w3 ⟨rfl,hb3⟩)))
       go_ret
       exact ⟨ret_int (by rw [HR.out]; rfl),eonto hb1 hb3⟩
     | false =>
      rw [if_pos ⟨h3,hpw⟩] at HR
      rw [hpw] at CW2
      clear hpw h3
      rcases Nat.lt_or_ge 1 x.size with h11 | h11
      all_goals
       try have g := HG.out h11
       clear HG
       go_enter Tryz.func277,Tryz.ntmps277
       go_wp2_with (first
        | (go_at_call 299; go_must (refine (CC.out _).mono ?_; rintro e w1 ⟨rfl,hb1⟩))
        | (go_at_call 139; go_must (refine (CP.out _).mono ?_; rintro e w1 ⟨rfl,hw⟩; obtain rfl := hw.symm))
        | (go_at_call 301; go_must (refine (CW2.out _).mono ?_; rintro e w3 ⟨rfl,hb3⟩)))
       go_ret
       exact ⟨ret_int (by rw [HR.out]; rfl),eonto hb1 hb3⟩
end Go.Proofs.YteimbjamnfkapaaGreatDoor
