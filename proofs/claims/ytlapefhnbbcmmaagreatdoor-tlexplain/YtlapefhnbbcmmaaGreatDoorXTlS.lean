/- tlex.keyPart, Key: walked. -/
import Derived.Test.YtlapefhnbbcmmaaGreatDoorXMathTk
import Derived.Test.YtlapefhnbbcmmaaGreatDoorXTlM
import Derived.Test.YtlapefhnbbcmmaaGreatDoorXPlaceAll
import Derived.Test.YtlapefhnbbcmmaaGreatDoorXEscDoc
/- tlex.Key: walked. -/
namespace Go.Proofs.YtlapefhnbbcmmaaGreatDoor
open Go.RowKit

theorem bare1 (t : ByteArray) (i : Nat) (h : i < t.size) (w : World) :
    Calls Tryz.prog 76 #[.string (t.extract i (i + 1))] w fun e w' => e = .returned (.bool (brI t[i])) ∧ Below w.heap.size w w' := by
  have hz : (t.extract i (i + 1)).size ≤ 1000000 := by simp; omega
  have := bare_any (t.extract i (i + 1)) w (max_le hz)
  have e : (t.extract i (i + 1)).data.toList = [t[i]] := by
    rw [drop_ext, tdrop_at t i h, Nat.add_sub_cancel_left]; rfl
  rw [e] at this
  have e2 : brB [t[i]] = brI t[i] := by unfold brB; simp
  rw [e2] at this; exact this
theorem run_at {p : UInt8 → Bool} {t : ByteArray} {a n : Nat} (hn : a + n ≤ t.size) (h1 : ∀ j, j < n → ∀ h : a + j < t.size, p t[a + j] = true) (h2 : ∀ h : a + n < t.size, p t[a + n] = false) : run p (t.data.toList.drop a) = n := by
  refine run_eq p _ n (fun j hj => ⟨t[a + j], ?_, h1 j hj (by omega)⟩) (fun b hb => ?_)
  · rw [List.getElem?_drop]; exact at_some t (a + j) (by omega)
  · rw [List.getElem?_drop] at hb
    by_cases hl : a + n < t.size
    · rw [at_some t (a + n) hl] at hb; cases hb; exact h2 hl
    · rw [List.getElem?_eq_none (by rw [size_list]; omega)] at hb; cases hb
theorem ret_snn3 {a b : ByteArray} {c d e f : Int} (h : a = b) (g : c = d) (k : e = f) : Ending.returned (.tuple #[.string a, .int .i64 c, .int .i64 e]) = .returned (.tuple #[.string b, .int .i64 d, .int .i64 f]) := by rw [h, g, k]
set_option maxRecDepth 100000 in
set_option maxHeartbeats 4000000 in
theorem tkpart_any (t : ByteArray) (a : Nat) (w : World) (ht : t.size ≤ 1000000) (ha : a ≤ t.size) :
    Calls Tryz.prog 44 #[.string t, .int .i64 (a : Int)] w fun e w' => e = .returned (.tuple #[.string (mkS (kpT t.data.toList a).1), .int .i64 ((kpT t.data.toList a).2.1 : Nat), .int .i64 (kpT t.data.toList a).2.2]) ∧ Below w.heap.size w w' := by
  have HZ := hid (size_list t)
  have H34 : Hid (∀ X, Calls Tryz.prog 45 #[.string (t.extract a t.size), .string ⟨#[34, 34, 34]⟩] X fun e w' => e = .returned (.bool (m3 34 (t.data.toList.drop a))) ∧ w' = X) := fun X => by
    have := Tryz.strings_HasPrefix (t.extract a t.size) ⟨#[34, 34, 34]⟩ X
    rw [show (⟨#[34, 34, 34]⟩ : ByteArray).data.toList = [34, 34, 34] from rfl, hp3, drop_list] at this
    have e : m3 34 (t.data.toList.drop a) = decide (bt (t.data.toList.drop a) 0 = (34 : UInt8).toNat ∧ bt (t.data.toList.drop a) 1 = (34 : UInt8).toNat ∧ bt (t.data.toList.drop a) 2 = (34 : UInt8).toNat) := by
      unfold m3; rw [Bool.eq_iff_iff]; simp [and_assoc]
    rw [e]; exact this
  have H39 : Hid (∀ X, Calls Tryz.prog 45 #[.string (t.extract a t.size), .string ⟨#[39, 39, 39]⟩] X fun e w' => e = .returned (.bool (m3 39 (t.data.toList.drop a))) ∧ w' = X) := fun X => by
    have := Tryz.strings_HasPrefix (t.extract a t.size) ⟨#[39, 39, 39]⟩ X
    rw [show (⟨#[39, 39, 39]⟩ : ByteArray).data.toList = [39, 39, 39] from rfl, hp3, drop_list] at this
    have e : m3 39 (t.data.toList.drop a) = decide (bt (t.data.toList.drop a) 0 = (39 : UInt8).toNat ∧ bt (t.data.toList.drop a) 1 = (39 : UInt8).toNat ∧ bt (t.data.toList.drop a) 2 = (39 : UInt8).toNat) := by
      unfold m3; rw [Bool.eq_iff_iff]; simp [and_assoc]
    rw [e]; exact this
  have HR : Hid (kpT t.data.toList a = if m3 34 (t.data.toList.drop a) = true ∨ m3 39 (t.data.toList.drop a) = true then ([], 0, (a : Int)) else if run brI (t.data.toList.drop a) = 0 then unqT t.data.toList (a : Int) else ((t.data.toList.drop a).take (run brI (t.data.toList.drop a)), a + run brI (t.data.toList.drop a), -1)) := rfl
  generalize kpT t.data.toList a = R at *
  generalize m3 34 (t.data.toList.drop a) = q1 at *
  generalize m3 39 (t.data.toList.drop a) = q2 at *
  cases q1 with
  | true =>
    rw [if_pos (Or.inl rfl)] at HR
    go_enter Tryz.func44, Tryz.ntmps44
    go_wp2_with (go_at_call 45; go_must (refine (H34.out _).mono ?_; rintro e w1 ⟨rfl, hw⟩; obtain rfl := hw.symm))
    go_ret3
    exact ⟨ret_snn3 (by rw [HR.out]; rfl) (by rw [HR.out]; rfl) (by rw [HR.out]), Below.refl _ _⟩
  | false =>
    cases q2 with
    | true =>
      rw [if_pos (Or.inr rfl)] at HR
      go_enter Tryz.func44, Tryz.ntmps44
      go_wp2_with (go_at_call 45; go_must (first | ((with_reducible refine (H34.out _).mono ?_); rintro e w1 ⟨rfl, hw⟩; obtain rfl := hw.symm) | ((with_reducible refine (H39.out _).mono ?_); rintro e w1 ⟨rfl, hw⟩; obtain rfl := hw.symm)))
      go_ret3
      exact ⟨ret_snn3 (by rw [HR.out]; rfl) (by rw [HR.out]; rfl) (by rw [HR.out]), Below.refl _ _⟩
    | false =>
      rw [if_neg (by decide)] at HR
      have CU := hid (fun X => tunq_any t (a : Int) X ht)
      have CB := hid (fun (i : Nat) (h : i < t.size) X => bare1 t i h X)
      have CC := hid (fun (n : Nat) X => tclone_any (t.extract a n) X (by simp; omega))
      have HEX := hid (fun n : Nat => ext_mkS t a n)
      have HRN := hid (fun n hn h1 h2 => run_at (p := brI) (t := t) (a := a) (n := n) hn h1 h2)
      generalize run brI (t.data.toList.drop a) = r at *
      go_enter Tryz.func44, Tryz.ntmps44
      go_wp2_with (go_at_call 45; go_must (first | ((with_reducible refine (H34.out _).mono ?_); rintro e w1 ⟨rfl, hw⟩; obtain rfl := hw.symm) | ((with_reducible refine (H39.out _).mono ?_); rintro e w1 ⟨rfl, hw⟩; obtain rfl := hw.symm)))
      clear H34 H39
      go_loopw [8] (fun x wr => ∃ j : Nat, a + j ≤ t.size ∧ x = .int .i64 ((a + j : Nat) : Int) ∧ Hid (∀ i, i < j → ∀ h : a + i < t.size, brI t[a + i] = true) ∧ Hid (Below w.heap.size w wr)) (fun x _ => t.size - (intOf x).toNat)
      case atStart => exact ⟨0, by omega, rfl, fun i h => absurd h (Nat.not_lt_zero _), Below.refl _ _⟩
      case round =>
        obtain ⟨j, hj, rfl, HJ, HB⟩ := hrel
        have hend : ∀ X : World, True := fun _ => trivial
        by_cases hlt : a + j < t.size
        · have CB2 := hid (CB.out (a + j) hlt)
          have hcast : ((a + j : Nat) : Int) = (a : Int) + (j : Int) := by omega
          cases hb : brI t[a + j] with
          | true =>
            rw [hb] at CB2
            have HJ2 := hid (show ∀ i, i < j + 1 → ∀ h : a + i < t.size, brI t[a + i] = true from fun i hi h => by
              by_cases e : i = j
              · subst e; exact hb
              · exact HJ.out i (by omega) h)
            clear hb hend hcast
            go_wp2_with (go_at_call 76; go_must (refine (CB2.out _).mono ?_; rintro e w1 ⟨rfl, hb1⟩))
            go_round
            case rel => exact ⟨j + 1, by omega, val_int (by omega), HJ2.out, eonto HB.out hb1⟩
            case measure => simp [intOf]; omega
          | false =>
            rw [hb] at CB2
            have HN := hid (HRN.out j hj HJ.out (fun _ => hb))
            clear hb hend hcast
            by_cases h0 : j = 0
            · have HR2 := hid (show R = unqT t.data.toList (a : Int) by rw [HR.out, if_pos (by rw [HN.out]; exact h0)])
              have g : ((((a + j : Nat) : Int)) == (a : Int)) = true := by rw [beq_iff_eq]; omega
              clear h0
              go_wp2_with (first
                | (go_at_call 76; go_must (refine (CB2.out _).mono ?_; rintro e w1 ⟨rfl, hb1⟩))
                | (go_at_call 58; go_must (refine (CU.out _).mono ?_; rintro e w2 ⟨rfl, hb2⟩)))
              go_ret3
              exact ⟨ret_snn3 (by rw [HR2.out]) (by rw [HR2.out]) (by rw [HR2.out]), eonto (eonto HB.out hb1) hb2⟩
            · have HR2 := hid (show R = ((t.data.toList.drop a).take j, a + j, -1) by rw [HR.out, if_neg (by rw [HN.out]; exact h0), HN.out])
              have g : ((((a + j : Nat) : Int)) == (a : Int)) = false := by rw [beq_eq_false_iff_ne]; omega
              clear h0
              go_wp2_with (first
                | (go_at_call 76; go_must (refine (CB2.out _).mono ?_; rintro e w1 ⟨rfl, hb1⟩))
                | (go_at_call 17; go_must (refine (CC.out (a + j) _).mono ?_; rintro e w2 ⟨rfl, hb2⟩)))
              go_ret3
              exact ⟨ret_snn3 (by rw [HR2.out]; exact HEX.out j) (by rw [HR2.out]; simp only; omega) (by rw [HR2.out]), eonto (eonto HB.out hb1) hb2⟩
        · have HN := hid (HRN.out j hj HJ.out (fun h => absurd h hlt))
          clear hend
          by_cases h0 : j = 0
          · have HR2 := hid (show R = unqT t.data.toList (a : Int) by rw [HR.out, if_pos (by rw [HN.out]; exact h0)])
            have g : ((((a + j : Nat) : Int)) == (a : Int)) = true := by rw [beq_iff_eq]; omega
            clear h0
            go_wp2_with (go_at_call 58; go_must (refine (CU.out _).mono ?_; rintro e w2 ⟨rfl, hb2⟩))
            go_ret3
            exact ⟨ret_snn3 (by rw [HR2.out]) (by rw [HR2.out]) (by rw [HR2.out]), eonto HB.out hb2⟩
          · have HR2 := hid (show R = ((t.data.toList.drop a).take j, a + j, -1) by rw [HR.out, if_neg (by rw [HN.out]; exact h0), HN.out])
            have g : ((((a + j : Nat) : Int)) == (a : Int)) = false := by rw [beq_eq_false_iff_ne]; omega
            clear h0
            go_wp2_with (go_at_call 17; go_must (refine (CC.out (a + j) _).mono ?_; rintro e w2 ⟨rfl, hb2⟩))
            go_ret3
            exact ⟨ret_snn3 (by rw [HR2.out]; exact HEX.out j) (by rw [HR2.out]; simp only; omega) (by rw [HR2.out]), eonto HB.out hb2⟩
end Go.Proofs.YtlapefhnbbcmmaaGreatDoor
namespace Go.Proofs.YtlapefhnbbcmmaaGreatDoor
open Go.RowKit

theorem Tryz.info_str : (Tryz.prog.info? 9).map (fun i => (i.zero, i.size, i.bytes)) = some (some (.string ⟨#[]⟩), 1, 16) := by kernel_rfl
/-- texts as cells -/
def strV (l : List (List UInt8)) : List Value := l.map fun p => .string (mkS p)
theorem strV_snoc (l : List (List UInt8)) (p : List UInt8) : strV (l ++ [p]) = strV l ++ [.string (mkS p)] := by simp [strV]
/-- a dotted key read: its parts lie in a row of their own -/
def KeyPost (w : World) (R : List (List UInt8) × Nat × Int) (e : Ending) (w' : World) : Prop :=
  ∃ v, e = .returned (.tuple #[v, .int .i64 (R.2.1 : Nat), .int .i64 R.2.2]) ∧ w'.ownsRow w.heap.size 9 1 v R.1.length (strV R.1) ∧ Below w.heap.size w w'
theorem key_nil (w w' : World) (n : Nat) (b : Int) (hb : Below w.heap.size w w') : KeyPost w ([], n, b) (.returned (.tuple #[.slice none 0 0, .int .i64 (n : Nat), .int .i64 b])) w' :=
  ⟨_, rfl, World.ownsRow_nil _ _ _ _, hb⟩
theorem plc_nat (T : List UInt8) (n : Nat) (h : n ≤ T.length) : plc T (n : Int) = n := by unfold plc; rw [if_neg (by omega), if_neg (by omega)]
theorem kyT_bad {T : List UInt8} {f a : Nat} {acc : List (List UInt8)} (hf : T.length < a + f) (ha : a ≤ T.length) (h : 0 ≤ (kpT T a).2.2) : kyT T f a acc = ([], 0, (kpT T a).2.2) := by
  cases f with
  | zero => omega
  | succ f => rw [kyT, if_pos h]
theorem kyT_end {T : List UInt8} {f a : Nat} {acc : List (List UInt8)} (hf : T.length < a + f) (ha : a ≤ T.length) (h : (kpT T a).2.2 < 0) (h2 : bt T (kdP T (kpT T a).2.1) ≠ 46) : kyT T f a acc = (acc ++ [(kpT T a).1], (kpT T a).2.1, -1) := by
  cases f with
  | zero => omega
  | succ f => rw [kyT, if_neg (by omega), if_neg h2]
theorem kyT_more {T : List UInt8} {f a : Nat} {acc : List (List UInt8)} (hf : T.length < a + f) (ha : a ≤ T.length) (h : (kpT T a).2.2 < 0) (h2 : bt T (kdP T (kpT T a).2.1) = 46) :
    ∃ f', kyT T f a acc = kyT T f' (kdP T (kdP T (kpT T a).2.1 + 1)) (acc ++ [(kpT T a).1]) ∧ T.length < kdP T (kdP T (kpT T a).2.1 + 1) + f' ∧ a < kdP T (kdP T (kpT T a).2.1 + 1) ∧ kdP T (kdP T (kpT T a).2.1 + 1) ≤ T.length ∧ kdP T (kpT T a).2.1 + 1 ≤ T.length := by
  have h3 := kpT_in T a h
  have h4 := kdP_le T _ h3.2
  have h5 := bt_lt (l := T) (k := kdP T (kpT T a).2.1) (by rw [h2]; decide)
  have h6 := kdP_le T (kdP T (kpT T a).2.1 + 1) (by omega)
  cases f with
  | zero => omega
  | succ f => exact ⟨f, by rw [kyT, if_neg (by omega), if_pos h2], by omega, by omega, h6.2, by omega⟩
set_option maxRecDepth 100000 in
set_option maxHeartbeats 8000000 in
theorem tkey_in (t : ByteArray) (a0 : Nat) (w : World) (ht : t.size ≤ 1000000) (ha0 : a0 ≤ t.size) :
    Calls Tryz.prog 13 #[.string t, .int .i64 (a0 : Int)] w (KeyPost w (kyT t.data.toList (t.data.toList.length + 1) a0 [])) := by
  have HZ := hid (size_list t)
  obtain ⟨i0, hi, hz0, hz1, hz2⟩ := info_parts Tryz.info_str
  have CC := hid (fun X => tclamp_any t (a0 : Int) X)
  have hpl : plc t.data.toList (a0 : Int) = (a0 : Int) := plc_nat _ _ (by rw [HZ.out]; exact ha0)
  rw [hpl] at CC
  have CP := hid (fun (a : Nat) (h : a ≤ t.size) X => tkpart_any t a X ht h)
  have CS := hid (fun (n : Nat) (h : n ≤ t.size) X => show Calls Tryz.prog 14 #[.string t, .int .i64 (n : Int), .bool false] X _ from (by
    have := tskip_any t (n : Int) false X ht
    rw [sk_kd _ _ (by rw [HZ.out]; exact h)] at this; exact this))
  have CH : Hid (∀ (n : Nat) X, Calls Tryz.prog 45 #[.string (t.extract n t.size), .string ⟨#[46]⟩] X fun e w' => e = .returned (.bool (decide (bt t.data.toList n = 46))) ∧ w' = X) := fun n X => by
    have := Tryz.strings_HasPrefix (t.extract n t.size) ⟨#[46]⟩ X
    rw [show (⟨#[46]⟩ : ByteArray).data.toList = [46] from rfl, hp1, drop_list, bt_drop, Nat.add_zero] at this; exact this
  obtain ⟨R, hR⟩ : ∃ R, kyT t.data.toList (t.data.toList.length + 1) a0 [] = R := ⟨_, rfl⟩
  have HR := hid hR
  rw [hR]
  clear hR hpl
  go_enter Tryz.func13, Tryz.ntmps13
  go_wp2_with (go_at_call 22; go_must (refine (CC.out _).mono ?_; rintro e wc ⟨rfl, hw⟩; obtain rfl := hw.symm))
  go_loopw [1, 7] (fun x v wr => ∃ (a f : Nat) (acc : List (List UInt8)), a ≤ t.size ∧ x = .int .i64 (a : Int) ∧ acc.length ≤ a ∧ Hid (wr.ownsRow w.heap.size 9 1 v acc.length (strV acc)) ∧ Hid (kyT t.data.toList f a acc = R) ∧ Hid (t.data.toList.length < a + f) ∧ Hid (Below w.heap.size w wr)) (fun x _ _ => t.size - (intOf x).toNat)
  case atStart => exact ⟨a0, t.data.toList.length + 1, [], ha0, rfl, Nat.zero_le _, World.ownsRow_lit w #[] 0 (Nat.le_refl _) (Nat.zero_le _) rfl, HR.out, (show _ < _ by omega), (Below.refl _ _).alloc (Nat.le_refl _) _⟩
  case round =>
    obtain ⟨a, f, acc, ha, rfl, hacc, HO, HK, HF, HB⟩ := hrel
    have haT : a ≤ t.data.toList.length := by rw [HZ.out]; exact ha
    have HBAD := hid (fun h => kyT_bad (acc := acc) HF.out haT h)
    have HEND := hid (fun h h2 => kyT_end (acc := acc) HF.out haT h h2)
    have HMORE := hid (fun h h2 => kyT_more (acc := acc) HF.out haT h h2)
    have HIN := hid (fun h => kpT_in t.data.toList a h)
    rw [HK.out] at HBAD HEND HMORE
    have CP2 := hid (CP.out a ha)
    clear haT
    generalize hk : kpT t.data.toList a = k at *
    obtain ⟨p, n, bad⟩ := k
    clear hk
    simp only at HBAD HEND HMORE HIN CP2
    by_cases hbad : 0 ≤ bad
    · have HRR := hid (HBAD.out hbad)
      clear HBAD HEND HMORE HIN
      generalize mkS p = m at *
      go_wp2_with (go_at_call 44; go_must (refine (CP2.out _).mono ?_; rintro e w1 ⟨rfl, hb1⟩))
      go_ret3
      rw [HRR.out]
      exact key_nil _ _ 0 _ (eonto HB.out hb1)
    · have hb2 : bad < 0 := by omega
      obtain ⟨hn1, hn2⟩ := HIN.out hb2
      rw [HZ.out] at hn2
      have CS2 := hid (CS.out n hn2)
      have hkd := kdP_le t.data.toList n (by rw [HZ.out]; exact hn2)
      rw [HZ.out] at hkd
      obtain ⟨hkd1, hkd2⟩ := hkd
      have HEND2 := hid (HEND.out hb2)
      have HMORE2 := hid (HMORE.out hb2)
      have CH2 := hid (CH.out (kdP t.data.toList n))
      have HSN := hid (strV_snoc acc p)
      have HLN : Hid ((acc ++ [p]).length = acc.length + 1) := by show _ = _; simp
      clear HBAD HEND HMORE HIN hbad
      by_cases hdot : bt t.data.toList (kdP t.data.toList n) = 46
      · obtain ⟨f', HK2, HF2, hlt, hle, hd1⟩ := HMORE2.out hdot
        have HK3 := hid HK2
        have HF3 := hid HF2
        rw [HZ.out] at hle hd1
        rw [decide_eq_true hdot] at CH2
        have CS3 := hid (CS.out (kdP t.data.toList n + 1) hd1)
        clear HK2 HF2 HEND2 HMORE2 hdot
        generalize kdP t.data.toList (kdP t.data.toList n + 1) = d2 at *
        generalize kdP t.data.toList n = d at *
        have hcast : ((d + 1 : Nat) : Int) = (d : Int) + 1 := by omega
        rw [hcast] at CS3
        generalize mkS p = m at *
        go_wp2_with fail
        go_at_call 44
        refine (CP2.out _).mono ?_
        rintro e w1 ⟨rfl, hb1⟩
        have HB1 := hid (eonto HB.out hb1)
        have HO1 := hid (ownsRow_below HO.out hb1)
        have hsz := HB1.out.size
        clear hb1 HB HO
        go_wp2_with (first
          | (at_builtin; go_must (refine wpList_append_own _ rfl (.tmp 31) (.tmp 33) 36 rfl w.heap.size 9 i0 (.string ⟨#[]⟩) 1 16 Tryz.underlying36 hi hz0 hz1 hz2 rfl (by decide) _ acc.length _ rfl (HO1.out.alloc _) ⟨w1.heap.size, 0, none⟩ 1 1 [.string m] rfl rfl (new_cells w1 _ 9) (by simp [Value.oneCell']) (by unfold maxLen; omega) (by omega) (by simp; omega) ?_; intro v1 w2 hown1 hgr1 _))
          | (go_at_call 45; go_must (refine (CH2.out _).mono ?_; rintro e w4 ⟨rfl, hw⟩; obtain rfl := hw.symm))
          | (go_at_call 14; go_must (first | ((with_reducible refine (CS2.out _).mono ?_); rintro e w3 ⟨rfl, hb3⟩) | ((with_reducible refine (CS3.out _).mono ?_); rintro e w5 ⟨rfl, hb5⟩))))
        have hbw : Below w.heap.size w w2 := (HB1.out.alloc HB1.out.size _).grown hgr1 (by simp; omega) (fun j hj => (HO1.out.lt j hj).1)
        go_roundw
        case rel => exact ⟨d2, f', acc ++ [p], hle, rfl, (by rw [HLN.out]; omega), (show World.ownsRow _ _ _ _ _ _ _ by rw [HLN.out, HSN.out]; exact ownsRow_below (ownsRow_below hown1 hb3) hb5), HK3.out.symm, HF3.out, eonto (eonto hbw hb3) hb5⟩
        case measure => simp [intOf]; omega
      · have HRR := hid (HEND2.out hdot)
        rw [decide_eq_false hdot] at CH2
        clear HEND2 HMORE2 hdot
        generalize kdP t.data.toList n = d at *
        generalize mkS p = m at *
        go_wp2_with fail
        go_at_call 44
        refine (CP2.out _).mono ?_
        rintro e w1 ⟨rfl, hb1⟩
        have HB1 := hid (eonto HB.out hb1)
        have HO1 := hid (ownsRow_below HO.out hb1)
        have hsz := HB1.out.size
        clear hb1 HB HO
        go_wp2_with (first
          | (at_builtin; go_must (refine wpList_append_own _ rfl (.tmp 31) (.tmp 33) 36 rfl w.heap.size 9 i0 (.string ⟨#[]⟩) 1 16 Tryz.underlying36 hi hz0 hz1 hz2 rfl (by decide) _ acc.length _ rfl (HO1.out.alloc _) ⟨w1.heap.size, 0, none⟩ 1 1 [.string m] rfl rfl (new_cells w1 _ 9) (by simp [Value.oneCell']) (by unfold maxLen; omega) (by omega) (by simp; omega) ?_; intro v1 w2 hown1 hgr1 _))
          | (go_at_call 45; go_must (refine (CH2.out _).mono ?_; rintro e w4 ⟨rfl, hw⟩; obtain rfl := hw.symm))
          | (go_at_call 14; go_must (refine (CS2.out _).mono ?_; rintro e w3 ⟨rfl, hb3⟩)))
        have hbw : Below w.heap.size w w2 := (HB1.out.alloc HB1.out.size _).grown hgr1 (by simp; omega) (fun j hj => (HO1.out.lt j hj).1)
        go_ret3
        rw [HRR.out]
        exact ⟨_, rfl, (show World.ownsRow _ _ _ _ _ _ _ by simp only; rw [HLN.out, HSN.out]; exact ownsRow_below hown1 hb3), eonto hbw hb3⟩
set_option maxRecDepth 100000 in
set_option maxHeartbeats 1000000 in
theorem tkey_any (t : ByteArray) (a : Int) (w : World) (ht : t.size ≤ 1000000) :
    Calls Tryz.prog 13 #[.string t, .int .i64 a] w (KeyPost w (kyA t.data.toList a)) := by
  have HZ := hid (size_list t)
  by_cases ha : a ≠ plc t.data.toList a
  · have HR : kyA t.data.toList a = ([], 0, plc t.data.toList a) := by unfold kyA; rw [if_pos ha]
    rw [HR]
    have CC := hid (fun X => tclamp_any t a X)
    have g : (a != plc t.data.toList a) = true := by simpa using ha
    generalize plc t.data.toList a = p at *
    clear ha HR
    go_enter Tryz.func13, Tryz.ntmps13
    go_wp2_with (go_at_call 22; go_must (refine (CC.out _).mono ?_; rintro e wc ⟨rfl, hw⟩; obtain rfl := hw.symm))
    go_ret3
    exact key_nil _ _ 0 _ (Below.refl _ _)
  · have ha2 : a = plc t.data.toList a := Classical.not_not.1 ha
    have hin := tplc_in t.data.toList a
    rw [← ha2, HZ.out] at hin
    obtain ⟨n, rfl⟩ : ∃ n : Nat, a = (n : Int) := ⟨a.toNat, by omega⟩
    have HR : kyA t.data.toList (n : Int) = kyT t.data.toList (t.data.toList.length + 1) n [] := by unfold kyA; rw [if_neg ha]; rfl
    rw [HR]
    exact tkey_in t n w ht (by omega)
end Go.Proofs.YtlapefhnbbcmmaaGreatDoor
