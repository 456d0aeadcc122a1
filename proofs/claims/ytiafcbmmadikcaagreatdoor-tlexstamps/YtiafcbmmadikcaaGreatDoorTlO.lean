/- tlex.keyPart, Key: walked. -/
import Derived.Test.YtiafcbmmadikcaaGreatDoorMathTk
import Derived.Test.YtiafcbmmadikcaaGreatDoorTlM
import Derived.Test.YtiafcbmmadikcaaGreatDoorPlaceAll
import Derived.Test.YtiafcbmmadikcaaGreatDoorEscDoc
namespace Go.Proofs.YtiafcbmmadikcaaGreatDoor
open Go.RowKit

theorem bare1 (t : ByteArray) (i : Nat) (h : i < t.size) (w : World) :
    Calls Tryz.prog 78 #[.string (t.extract i (i + 1))] w fun e w' => e = .returned (.bool (brI t[i])) ∧ Below w.heap.size w w' := by
  have hz : (t.extract i (i + 1)).size ≤ 1000000 := by simp; omega
  have := bare_any (t.extract i (i + 1)) w (max_le hz)
  have e : (t.extract i (i + 1)).data.toList = [t[i]] := by
    rw [drop_ext, tdrop_at t i h, Nat.add_sub_cancel_left]; rfl
  rw [e] at this
  have e2 : brB [t[i]] = brI t[i] := by unfold brB; simp
  rw [e2] at this; exact this
theorem run_at {p : UInt8 → Bool} {t : ByteArray} {a n : Nat} (hn : a + n ≤ t.size) (h1 : ∀ j, j < n → ∀ h : a + j < t.size, p t[a + j] = true) (h2 : ∀ h : a + n < t.size, p t[a + n] = false) : run p (t.data.toList.drop a) = n := by
  refine run_eq p _ n (fun j hj => ⟨t[a + j], ?_, h1 j hj (by omega)⟩) (fun b hb => ?_)
  · rw [List.getElem?_drop]; exact at_some t (a + j) (by omega)
  · rw [List.getElem?_drop] at hb
    by_cases hl : a + n < t.size
    · rw [at_some t (a + n) hl] at hb; cases hb; exact h2 hl
    · rw [List.getElem?_eq_none (by rw [size_list]; omega)] at hb; cases hb
theorem ret_snn3 {a b : ByteArray} {c d e f : Int} (h : a = b) (g : c = d) (k : e = f) : Ending.returned (.tuple #[.string a, .int .i64 c, .int .i64 e]) = .returned (.tuple #[.string b, .int .i64 d, .int .i64 f]) := by rw [h, g, k]
set_option maxRecDepth 100000 in
set_option maxHeartbeats 4000000 in
theorem tkpart_any (t : ByteArray) (a : Nat) (w : World) (ht : t.size ≤ 1000000) (ha : a ≤ t.size) :
    Calls Tryz.prog 46 #[.string t, .int .i64 (a : Int)] w fun e w' => e = .returned (.tuple #[.string (mkS (kpT t.data.toList a).1), .int .i64 ((kpT t.data.toList a).2.1 : Nat), .int .i64 (kpT t.data.toList a).2.2]) ∧ Below w.heap.size w w' := by
  have HZ := hid (size_list t)
  have H34 : Hid (∀ X, Calls Tryz.prog 47 #[.string (t.extract a t.size), .string ⟨#[34, 34, 34]⟩] X fun e w' => e = .returned (.bool (m3 34 (t.data.toList.drop a))) ∧ w' = X) := fun X => by
    have := Tryz.strings_HasPrefix (t.extract a t.size) ⟨#[34, 34, 34]⟩ X
    rw [show (⟨#[34, 34, 34]⟩ : ByteArray).data.toList = [34, 34, 34] from rfl, hp3, drop_list] at this
    have e : m3 34 (t.data.toList.drop a) = decide (bt (t.data.toList.drop a) 0 = (34 : UInt8).toNat ∧ bt (t.data.toList.drop a) 1 = (34 : UInt8).toNat ∧ bt (t.data.toList.drop a) 2 = (34 : UInt8).toNat) := by
      unfold m3; rw [Bool.eq_iff_iff]; simp [and_assoc]
    rw [e]; exact this
  have H39 : Hid (∀ X, Calls Tryz.prog 47 #[.string (t.extract a t.size), .string ⟨#[39, 39, 39]⟩] X fun e w' => e = .returned (.bool (m3 39 (t.data.toList.drop a))) ∧ w' = X) := fun X => by
    have := Tryz.strings_HasPrefix (t.extract a t.size) ⟨#[39, 39, 39]⟩ X
    rw [show (⟨#[39, 39, 39]⟩ : ByteArray).data.toList = [39, 39, 39] from rfl, hp3, drop_list] at this
    have e : m3 39 (t.data.toList.drop a) = decide (bt (t.data.toList.drop a) 0 = (39 : UInt8).toNat ∧ bt (t.data.toList.drop a) 1 = (39 : UInt8).toNat ∧ bt (t.data.toList.drop a) 2 = (39 : UInt8).toNat) := by
      unfold m3; rw [Bool.eq_iff_iff]; simp [and_assoc]
    rw [e]; exact this
  have HR : Hid (kpT t.data.toList a = if m3 34 (t.data.toList.drop a) = true ∨ m3 39 (t.data.toList.drop a) = true then ([], 0, (a : Int)) else if run brI (t.data.toList.drop a) = 0 then unqT t.data.toList (a : Int) else ((t.data.toList.drop a).take (run brI (t.data.toList.drop a)), a + run brI (t.data.toList.drop a), -1)) := rfl
  generalize kpT t.data.toList a = R at *
  generalize m3 34 (t.data.toList.drop a) = q1 at *
  generalize m3 39 (t.data.toList.drop a) = q2 at *
  cases q1 with
  | true =>
    rw [if_pos (Or.inl rfl)] at HR
    go_enter Tryz.func46, Tryz.ntmps46
    go_wp2_with (go_at_call 47; go_must (refine (H34.out _).mono ?_; rintro e w1 ⟨rfl, hw⟩; obtain rfl := hw.symm))
    go_ret3
    exact ⟨ret_snn3 (by rw [HR.out]; rfl) (by rw [HR.out]; rfl) (by rw [HR.out]), Below.refl _ _⟩
  | false =>
    cases q2 with
    | true =>
      rw [if_pos (Or.inr rfl)] at HR
      go_enter Tryz.func46, Tryz.ntmps46
      go_wp2_with (go_at_call 47; go_must (first | ((with_reducible refine (H34.out _).mono ?_); rintro e w1 ⟨rfl, hw⟩; obtain rfl := hw.symm) | ((with_reducible refine (H39.out _).mono ?_); rintro e w1 ⟨rfl, hw⟩; obtain rfl := hw.symm)))
      go_ret3
      exact ⟨ret_snn3 (by rw [HR.out]; rfl) (by rw [HR.out]; rfl) (by rw [HR.out]), Below.refl _ _⟩
    | false =>
      rw [if_neg (by decide)] at HR
      have CU := hid (fun X => tunq_any t (a : Int) X ht)
      have CB := hid (fun (i : Nat) (h : i < t.size) X => bare1 t i h X)
      have CC := hid (fun (n : Nat) X => tclone_any (t.extract a n) X (by simp; omega))
      have HEX := hid (fun n : Nat => ext_mkS t a n)
      have HRN := hid (fun n hn h1 h2 => run_at (p := brI) (t := t) (a := a) (n := n) hn h1 h2)
      generalize run brI (t.data.toList.drop a) = r at *
      go_enter Tryz.func46, Tryz.ntmps46
      go_wp2_with (go_at_call 47; go_must (first | ((with_reducible refine (H34.out _).mono ?_); rintro e w1 ⟨rfl, hw⟩; obtain rfl := hw.symm) | ((with_reducible refine (H39.out _).mono ?_); rintro e w1 ⟨rfl, hw⟩; obtain rfl := hw.symm)))
      clear H34 H39
      go_loopw [8] (fun x wr => ∃ j : Nat, a + j ≤ t.size ∧ x = .int .i64 ((a + j : Nat) : Int) ∧ Hid (∀ i, i < j → ∀ h : a + i < t.size, brI t[a + i] = true) ∧ Hid (Below w.heap.size w wr)) (fun x _ => t.size - (intOf x).toNat)
      case atStart => exact ⟨0, by omega, rfl, fun i h => absurd h (Nat.not_lt_zero _), Below.refl _ _⟩
      case round =>
        obtain ⟨j, hj, rfl, HJ, HB⟩ := hrel
        have hend : ∀ X : World, True := fun _ => trivial
        by_cases hlt : a + j < t.size
        · have CB2 := hid (CB.out (a + j) hlt)
          have hcast : ((a + j : Nat) : Int) = (a : Int) + (j : Int) := by omega
          cases hb : brI t[a + j] with
          | true =>
            rw [hb] at CB2
            have HJ2 := hid (show ∀ i, i < j + 1 → ∀ h : a + i < t.size, brI t[a + i] = true from fun i hi h => by
              by_cases e : i = j
              · subst e; exact hb
              · exact HJ.out i (by omega) h)
            clear hb hend hcast
            go_wp2_with (go_at_call 78; go_must (refine (CB2.out _).mono ?_; rintro e w1 ⟨rfl, hb1⟩))
            go_round
            case rel => exact ⟨j + 1, by omega, val_int (by omega), HJ2.out, eonto HB.out hb1⟩
            case measure => simp [intOf]; omega
          | false =>
            rw [hb] at CB2
            have HN := hid (HRN.out j hj HJ.out (fun _ => hb))
            clear hb hend hcast
            by_cases h0 : j = 0
            · have HR2 := hid (show R = unqT t.data.toList (a : Int) by rw [HR.out, if_pos (by rw [HN.out]; exact h0)])
              have g : ((((a + j : Nat) : Int)) == (a : Int)) = true := by rw [beq_iff_eq]; omega
              clear h0
              go_wp2_with (first
                | (go_at_call 78; go_must (refine (CB2.out _).mono ?_; rintro e w1 ⟨rfl, hb1⟩))
                | (go_at_call 60; go_must (refine (CU.out _).mono ?_; rintro e w2 ⟨rfl, hb2⟩)))
              go_ret3
              exact ⟨ret_snn3 (by rw [HR2.out]) (by rw [HR2.out]) (by rw [HR2.out]), eonto (eonto HB.out hb1) hb2⟩
            · have HR2 := hid (show R = ((t.data.toList.drop a).take j, a + j, -1) by rw [HR.out, if_neg (by rw [HN.out]; exact h0), HN.out])
              have g : ((((a + j : Nat) : Int)) == (a : Int)) = false := by rw [beq_eq_false_iff_ne]; omega
              clear h0
              go_wp2_with (first
                | (go_at_call 78; go_must (refine (CB2.out _).mono ?_; rintro e w1 ⟨rfl, hb1⟩))
                | (go_at_call 19; go_must (refine (CC.out (a + j) _).mono ?_; rintro e w2 ⟨rfl, hb2⟩)))
              go_ret3
              exact ⟨ret_snn3 (by rw [HR2.out]; exact HEX.out j) (by rw [HR2.out]; simp only; omega) (by rw [HR2.out]), eonto (eonto HB.out hb1) hb2⟩
        · have HN := hid (HRN.out j hj HJ.out (fun h => absurd h hlt))
          clear hend
          by_cases h0 : j = 0
          · have HR2 := hid (show R = unqT t.data.toList (a : Int) by rw [HR.out, if_pos (by rw [HN.out]; exact h0)])
            have g : ((((a + j : Nat) : Int)) == (a : Int)) = true := by rw [beq_iff_eq]; omega
            clear h0
            go_wp2_with (go_at_call 60; go_must (refine (CU.out _).mono ?_; rintro e w2 ⟨rfl, hb2⟩))
            go_ret3
            exact ⟨ret_snn3 (by rw [HR2.out]) (by rw [HR2.out]) (by rw [HR2.out]), eonto HB.out hb2⟩
          · have HR2 := hid (show R = ((t.data.toList.drop a).take j, a + j, -1) by rw [HR.out, if_neg (by rw [HN.out]; exact h0), HN.out])
            have g : ((((a + j : Nat) : Int)) == (a : Int)) = false := by rw [beq_eq_false_iff_ne]; omega
            clear h0
            go_wp2_with (go_at_call 19; go_must (refine (CC.out (a + j) _).mono ?_; rintro e w2 ⟨rfl, hb2⟩))
            go_ret3
            exact ⟨ret_snn3 (by rw [HR2.out]; exact HEX.out j) (by rw [HR2.out]; simp only; omega) (by rw [HR2.out]), eonto HB.out hb2⟩
end Go.Proofs.YtiafcbmmadikcaaGreatDoor
