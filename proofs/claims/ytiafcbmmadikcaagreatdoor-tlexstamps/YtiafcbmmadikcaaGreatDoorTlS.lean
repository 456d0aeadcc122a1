/- tlex.Key: walked. -/
import Derived.Test.YtiafcbmmadikcaaGreatDoorTlO
namespace Go.Proofs.YtiafcbmmadikcaaGreatDoor
open Go.RowKit

theorem Tryz.info_str : (Tryz.prog.info? 9).map (fun i => (i.zero, i.size, i.bytes)) = some (some (.string ⟨#[]⟩), 1, 16) := by kernel_rfl
/-- texts as cells -/
def strV (l : List (List UInt8)) : List Value := l.map fun p => .string (mkS p)
theorem strV_snoc (l : List (List UInt8)) (p : List UInt8) : strV (l ++ [p]) = strV l ++ [.string (mkS p)] := by simp [strV]
/-- a dotted key read: its parts lie in a row of their own -/
def KeyPost (w : World) (R : List (List UInt8) × Nat × Int) (e : Ending) (w' : World) : Prop :=
  ∃ v, e = .returned (.tuple #[v, .int .i64 (R.2.1 : Nat), .int .i64 R.2.2]) ∧ w'.ownsRow w.heap.size 9 1 v R.1.length (strV R.1) ∧ Below w.heap.size w w'
theorem key_nil (w w' : World) (n : Nat) (b : Int) (hb : Below w.heap.size w w') : KeyPost w ([], n, b) (.returned (.tuple #[.slice none 0 0, .int .i64 (n : Nat), .int .i64 b])) w' :=
  ⟨_, rfl, World.ownsRow_nil _ _ _ _, hb⟩
theorem plc_nat (T : List UInt8) (n : Nat) (h : n ≤ T.length) : plc T (n : Int) = n := by unfold plc; rw [if_neg (by omega), if_neg (by omega)]
theorem kyT_bad {T : List UInt8} {f a : Nat} {acc : List (List UInt8)} (hf : T.length < a + f) (ha : a ≤ T.length) (h : 0 ≤ (kpT T a).2.2) : kyT T f a acc = ([], 0, (kpT T a).2.2) := by
  cases f with
  | zero => omega
  | succ f => rw [kyT, if_pos h]
theorem kyT_end {T : List UInt8} {f a : Nat} {acc : List (List UInt8)} (hf : T.length < a + f) (ha : a ≤ T.length) (h : (kpT T a).2.2 < 0) (h2 : bt T (kdP T (kpT T a).2.1) ≠ 46) : kyT T f a acc = (acc ++ [(kpT T a).1], (kpT T a).2.1, -1) := by
  cases f with
  | zero => omega
  | succ f => rw [kyT, if_neg (by omega), if_neg h2]
theorem kyT_more {T : List UInt8} {f a : Nat} {acc : List (List UInt8)} (hf : T.length < a + f) (ha : a ≤ T.length) (h : (kpT T a).2.2 < 0) (h2 : bt T (kdP T (kpT T a).2.1) = 46) :
    ∃ f', kyT T f a acc = kyT T f' (kdP T (kdP T (kpT T a).2.1 + 1)) (acc ++ [(kpT T a).1]) ∧ T.length < kdP T (kdP T (kpT T a).2.1 + 1) + f' ∧ a < kdP T (kdP T (kpT T a).2.1 + 1) ∧ kdP T (kdP T (kpT T a).2.1 + 1) ≤ T.length ∧ kdP T (kpT T a).2.1 + 1 ≤ T.length := by
  have h3 := kpT_in T a h
  have h4 := kdP_le T _ h3.2
  have h5 := bt_lt (l := T) (k := kdP T (kpT T a).2.1) (by rw [h2]; decide)
  have h6 := kdP_le T (kdP T (kpT T a).2.1 + 1) (by omega)
  cases f with
  | zero => omega
  | succ f => exact ⟨f, by rw [kyT, if_neg (by omega), if_pos h2], by omega, by omega, h6.2, by omega⟩
set_option maxRecDepth 100000 in
set_option maxHeartbeats 8000000 in
theorem tkey_in (t : ByteArray) (a0 : Nat) (w : World) (ht : t.size ≤ 1000000) (ha0 : a0 ≤ t.size) :
    Calls Tryz.prog 15 #[.string t, .int .i64 (a0 : Int)] w (KeyPost w (kyT t.data.toList (t.data.toList.length + 1) a0 [])) := by
  have HZ := hid (size_list t)
  obtain ⟨i0, hi, hz0, hz1, hz2⟩ := info_parts Tryz.info_str
  have CC := hid (fun X => tclamp_any t (a0 : Int) X)
  have hpl : plc t.data.toList (a0 : Int) = (a0 : Int) := plc_nat _ _ (by rw [HZ.out]; exact ha0)
  rw [hpl] at CC
  have CP := hid (fun (a : Nat) (h : a ≤ t.size) X => tkpart_any t a X ht h)
  have CS := hid (fun (n : Nat) (h : n ≤ t.size) X => show Calls Tryz.prog 16 #[.string t, .int .i64 (n : Int), .bool false] X _ from (by
    have := tskip_any t (n : Int) false X ht
    rw [sk_kd _ _ (by rw [HZ.out]; exact h)] at this; exact this))
  have CH : Hid (∀ (n : Nat) X, Calls Tryz.prog 47 #[.string (t.extract n t.size), .string ⟨#[46]⟩] X fun e w' => e = .returned (.bool (decide (bt t.data.toList n = 46))) ∧ w' = X) := fun n X => by
    have := Tryz.strings_HasPrefix (t.extract n t.size) ⟨#[46]⟩ X
    rw [show (⟨#[46]⟩ : ByteArray).data.toList = [46] from rfl, hp1, drop_list, bt_drop, Nat.add_zero] at this; exact this
  obtain ⟨R, hR⟩ : ∃ R, kyT t.data.toList (t.data.toList.length + 1) a0 [] = R := ⟨_, rfl⟩
  have HR := hid hR
  rw [hR]
  clear hR hpl
  go_enter Tryz.func15, Tryz.ntmps15
  go_wp2_with (go_at_call 24; go_must (refine (CC.out _).mono ?_; rintro e wc ⟨rfl, hw⟩; obtain rfl := hw.symm))
  go_loopw [1, 7] (fun x v wr => ∃ (a f : Nat) (acc : List (List UInt8)), a ≤ t.size ∧ x = .int .i64 (a : Int) ∧ acc.length ≤ a ∧ Hid (wr.ownsRow w.heap.size 9 1 v acc.length (strV acc)) ∧ Hid (kyT t.data.toList f a acc = R) ∧ Hid (t.data.toList.length < a + f) ∧ Hid (Below w.heap.size w wr)) (fun x _ _ => t.size - (intOf x).toNat)
  case atStart => exact ⟨a0, t.data.toList.length + 1, [], ha0, rfl, Nat.zero_le _, World.ownsRow_lit w #[] 0 (Nat.le_refl _) (Nat.zero_le _) rfl, HR.out, (show _ < _ by omega), (Below.refl _ _).alloc (Nat.le_refl _) _⟩
  case round =>
    obtain ⟨a, f, acc, ha, rfl, hacc, HO, HK, HF, HB⟩ := hrel
    have haT : a ≤ t.data.toList.length := by rw [HZ.out]; exact ha
    have HBAD := hid (fun h => kyT_bad (acc := acc) HF.out haT h)
    have HEND := hid (fun h h2 => kyT_end (acc := acc) HF.out haT h h2)
    have HMORE := hid (fun h h2 => kyT_more (acc := acc) HF.out haT h h2)
    have HIN := hid (fun h => kpT_in t.data.toList a h)
    rw [HK.out] at HBAD HEND HMORE
    have CP2 := hid (CP.out a ha)
    clear haT
    generalize hk : kpT t.data.toList a = k at *
    obtain ⟨p, n, bad⟩ := k
    clear hk
    simp only at HBAD HEND HMORE HIN CP2
    by_cases hbad : 0 ≤ bad
    · have HRR := hid (HBAD.out hbad)
      clear HBAD HEND HMORE HIN
      generalize mkS p = m at *
      go_wp2_with (go_at_call 46; go_must (refine (CP2.out _).mono ?_; rintro e w1 ⟨rfl, hb1⟩))
      go_ret3
      rw [HRR.out]
      exact key_nil _ _ 0 _ (eonto HB.out hb1)
    · have hb2 : bad < 0 := by omega
      obtain ⟨hn1, hn2⟩ := HIN.out hb2
      rw [HZ.out] at hn2
      have CS2 := hid (CS.out n hn2)
      have hkd := kdP_le t.data.toList n (by rw [HZ.out]; exact hn2)
      rw [HZ.out] at hkd
      obtain ⟨hkd1, hkd2⟩ := hkd
      have HEND2 := hid (HEND.out hb2)
      have HMORE2 := hid (HMORE.out hb2)
      have CH2 := hid (CH.out (kdP t.data.toList n))
      have HSN := hid (strV_snoc acc p)
      have HLN : Hid ((acc ++ [p]).length = acc.length + 1) := by show _ = _; simp
      clear HBAD HEND HMORE HIN hbad
      by_cases hdot : bt t.data.toList (kdP t.data.toList n) = 46
      · obtain ⟨f', HK2, HF2, hlt, hle, hd1⟩ := HMORE2.out hdot
        have HK3 := hid HK2
        have HF3 := hid HF2
        rw [HZ.out] at hle hd1
        rw [decide_eq_true hdot] at CH2
        have CS3 := hid (CS.out (kdP t.data.toList n + 1) hd1)
        clear HK2 HF2 HEND2 HMORE2 hdot
        generalize kdP t.data.toList (kdP t.data.toList n + 1) = d2 at *
        generalize kdP t.data.toList n = d at *
        have hcast : ((d + 1 : Nat) : Int) = (d : Int) + 1 := by omega
        rw [hcast] at CS3
        generalize mkS p = m at *
        go_wp2_with fail
        go_at_call 46
        refine (CP2.out _).mono ?_
        rintro e w1 ⟨rfl, hb1⟩
        have HB1 := hid (eonto HB.out hb1)
        have HO1 := hid (ownsRow_below HO.out hb1)
        have hsz := HB1.out.size
        clear hb1 HB HO
        go_wp2_with (first
          | (at_builtin; go_must (refine wpList_append_own _ rfl (.tmp 31) (.tmp 33) 39 rfl w.heap.size 9 i0 (.string ⟨#[]⟩) 1 16 Tryz.underlying39 hi hz0 hz1 hz2 rfl (by decide) _ acc.length _ rfl (HO1.out.alloc _) ⟨w1.heap.size, 0, none⟩ 1 1 [.string m] rfl rfl (new_cells w1 _ 9) (by simp [Value.oneCell']) (by unfold maxLen; omega) (by omega) (by simp; omega) ?_; intro v1 w2 hown1 hgr1 _))
          | (go_at_call 47; go_must (refine (CH2.out _).mono ?_; rintro e w4 ⟨rfl, hw⟩; obtain rfl := hw.symm))
          | (go_at_call 16; go_must (first | ((with_reducible refine (CS2.out _).mono ?_); rintro e w3 ⟨rfl, hb3⟩) | ((with_reducible refine (CS3.out _).mono ?_); rintro e w5 ⟨rfl, hb5⟩))))
        have hbw : Below w.heap.size w w2 := (HB1.out.alloc HB1.out.size _).grown hgr1 (by simp; omega) (fun j hj => (HO1.out.lt j hj).1)
        go_roundw
        case rel => exact ⟨d2, f', acc ++ [p], hle, rfl, (by rw [HLN.out]; omega), (show World.ownsRow _ _ _ _ _ _ _ by rw [HLN.out, HSN.out]; exact ownsRow_below (ownsRow_below hown1 hb3) hb5), HK3.out.symm, HF3.out, eonto (eonto hbw hb3) hb5⟩
        case measure => simp [intOf]; omega
      · have HRR := hid (HEND2.out hdot)
        rw [decide_eq_false hdot] at CH2
        clear HEND2 HMORE2 hdot
        generalize kdP t.data.toList n = d at *
        generalize mkS p = m at *
        go_wp2_with fail
        go_at_call 46
        refine (CP2.out _).mono ?_
        rintro e w1 ⟨rfl, hb1⟩
        have HB1 := hid (eonto HB.out hb1)
        have HO1 := hid (ownsRow_below HO.out hb1)
        have hsz := HB1.out.size
        clear hb1 HB HO
        go_wp2_with (first
          | (at_builtin; go_must (refine wpList_append_own _ rfl (.tmp 31) (.tmp 33) 39 rfl w.heap.size 9 i0 (.string ⟨#[]⟩) 1 16 Tryz.underlying39 hi hz0 hz1 hz2 rfl (by decide) _ acc.length _ rfl (HO1.out.alloc _) ⟨w1.heap.size, 0, none⟩ 1 1 [.string m] rfl rfl (new_cells w1 _ 9) (by simp [Value.oneCell']) (by unfold maxLen; omega) (by omega) (by simp; omega) ?_; intro v1 w2 hown1 hgr1 _))
          | (go_at_call 47; go_must (refine (CH2.out _).mono ?_; rintro e w4 ⟨rfl, hw⟩; obtain rfl := hw.symm))
          | (go_at_call 16; go_must (refine (CS2.out _).mono ?_; rintro e w3 ⟨rfl, hb3⟩)))
        have hbw : Below w.heap.size w w2 := (HB1.out.alloc HB1.out.size _).grown hgr1 (by simp; omega) (fun j hj => (HO1.out.lt j hj).1)
        go_ret3
        rw [HRR.out]
        exact ⟨_, rfl, (show World.ownsRow _ _ _ _ _ _ _ by simp only; rw [HLN.out, HSN.out]; exact ownsRow_below hown1 hb3), eonto hbw hb3⟩
set_option maxRecDepth 100000 in
set_option maxHeartbeats 1000000 in
theorem tkey_any (t : ByteArray) (a : Int) (w : World) (ht : t.size ≤ 1000000) :
    Calls Tryz.prog 15 #[.string t, .int .i64 a] w (KeyPost w (kyA t.data.toList a)) := by
  have HZ := hid (size_list t)
  by_cases ha : a ≠ plc t.data.toList a
  · have HR : kyA t.data.toList a = ([], 0, plc t.data.toList a) := by unfold kyA; rw [if_pos ha]
    rw [HR]
    have CC := hid (fun X => tclamp_any t a X)
    have g : (a != plc t.data.toList a) = true := by simpa using ha
    generalize plc t.data.toList a = p at *
    clear ha HR
    go_enter Tryz.func15, Tryz.ntmps15
    go_wp2_with (go_at_call 24; go_must (refine (CC.out _).mono ?_; rintro e wc ⟨rfl, hw⟩; obtain rfl := hw.symm))
    go_ret3
    exact key_nil _ _ 0 _ (Below.refl _ _)
  · have ha2 : a = plc t.data.toList a := Classical.not_not.1 ha
    have hin := tplc_in t.data.toList a
    rw [← ha2, HZ.out] at hin
    obtain ⟨n, rfl⟩ : ∃ n : Nat, a = (n : Int) := ⟨a.toNat, by omega⟩
    have HR : kyA t.data.toList (n : Int) = kyT t.data.toList (t.data.toList.length + 1) n [] := by unfold kyA; rw [if_neg ha]; rfl
    rw [HR]
    exact tkey_in t n w ht (by omega)
end Go.Proofs.YtiafcbmmadikcaaGreatDoor
