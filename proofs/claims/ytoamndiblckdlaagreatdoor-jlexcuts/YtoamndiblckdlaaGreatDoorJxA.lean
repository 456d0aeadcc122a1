/- jlex.among, rowEnd, piece, refuse: walked. -/
import Derived.Test.YtoamndiblckdlaaGreatDoorLexB
import Derived.Test.YtoamndiblckdlaaGreatDoorPlaceB
import Derived.Test.YtoamndiblckdlaaGreatDoorShelf
namespace Go.Proofs.YtoamndiblckdlaaGreatDoor
open Go.RowKit

theorem ixB_ge (l : List UInt8) (b : UInt8) : -1 ≤ Lib.indexByte l b := by
  induction l with
  | nil => exact Int.le_refl _
  | cons a l ih => unfold Lib.indexByte; (repeat' split) <;> omega
theorem ixB_in (l : List UInt8) (b : UInt8) : decide (0 ≤ Lib.indexByte l b) = inB l b := by
  induction l with
  | nil => rfl
  | cons a l ih =>
    unfold Lib.indexByte inB
    rw [List.any_cons]
    by_cases h : a = b
    · subst h; simp
    · have h2 : ¬ a.toNat = b.toNat := fun e => h (UInt8.toNat_inj.1 e)
      have h3 : (a == b) = false := by simpa using h
      rw [h3, decide_eq_false h2, Bool.false_or]
      have e : (l.any fun x => decide (x.toNat = b.toNat)) = inB l b := rfl
      rw [e, ← ih]
      simp only [Bool.false_eq_true, if_false]
      by_cases h4 : Lib.indexByte l b = -1
      · rw [h4]; rfl
      · have h5 : (Lib.indexByte l b == -1) = false := by simpa using h4
        rw [h5]
        simp only [Bool.false_eq_true, if_false]
        have h6 : -1 ≤ Lib.indexByte l b := ixB_ge l b
        exact decide_eq_decide.2 (by omega)
set_option maxRecDepth 100000 in
theorem among_any (s : ByteArray) (b : UInt8) (w : World) :
    Calls Tryz.prog 28 #[.string s, .int .u8 (b.toNat : Int)] w fun e w' => e = .returned (.bool (inB s.data.toList b)) ∧ w' = w := by
  have HI : Hid (∀ X, Calls Tryz.prog 44 #[.string s, .int .u8 (b.toNat : Int)] X fun e w' => e = .returned (.int .i64 (Lib.indexByte s.data.toList b)) ∧ w' = X) := fun X => by
    have := Tryz.strings_IndexByte s (b.toNat : Int) X
    have e : ((b.toNat : Int).toNat).toUInt8 = b := by simp
    rw [e] at this; exact this
  rw [← ixB_in]
  obtain ⟨R, hR⟩ : ∃ R, Lib.indexByte s.data.toList b = R := ⟨_, rfl⟩
  rw [hR] at HI ⊢
  clear hR
  obtain ⟨n, hn⟩ : ∃ n, b.toNat = n := ⟨_, rfl⟩
  rw [hn] at HI ⊢
  clear hn
  go_enter Tryz.func28, Tryz.ntmps28
  go_wp2_with (go_at_call 44; go_must (refine (HI.out _).mono ?_; rintro e w1 ⟨rfl, rfl⟩))
  go_ret
  exact ⟨rfl, rfl⟩
set_option maxRecDepth 100000 in
set_option maxHeartbeats 1000000 in
theorem rowEnd_of (t : ByteArray) (a : Nat) (s : ByteArray) (p : UInt8 → Bool) (hp : inB s.data.toList = p) (w : World) (ht : t.size ≤ 1000000) (ha : a ≤ t.size) :
    Calls Tryz.prog 15 #[.string t, .int .i64 (a : Int), .string s] w fun e w' => e = .returned (.int .i64 (a + run p (t.data.toList.drop a) : Nat)) ∧ w' = w := by
  have HC := hid (fun (b : UInt8) X => among_any s b X)
  have HR : Hid (∀ n, a + n ≤ t.size → (∀ k (h : k < t.size), a ≤ k → k < a + n → p t[k] = true) → (∀ h : a + n < t.size, p t[a + n] = false) → run p (t.data.toList.drop a) = n) := fun n h1 h2 h3 => by
    refine run_is n (by rw [List.length_drop, size_list]; omega) (fun k hk hkn => ?_) (fun h => ?_)
    · have hk2 : a + k < t.size := by rw [List.length_drop, size_list] at hk; omega
      have := h2 (a + k) hk2 (by omega) (by omega)
      rw [List.getElem_drop]; exact this
    · have hk2 : a + n < t.size := by rw [List.length_drop, size_list] at h; omega
      rw [List.getElem_drop]; exact h3 hk2
  obtain ⟨R, hRR⟩ : ∃ R, run p (t.data.toList.drop a) = R := ⟨_, rfl⟩
  rw [hRR] at HR ⊢
  simp only [hp] at HC
  clear hRR hp
  go_enter Tryz.func15, Tryz.ntmps15
  go_wp2_with fail
  go_loop [1] (fun i => ∃ j : Nat, a + j ≤ t.size ∧ i = .int .i64 ((a + j : Nat) : Int) ∧ Hid (∀ k (h : k < t.size), a ≤ k → k < a + j → p t[k] = true)) (fun i => t.size - (intOf i).toNat)
  case atStart => exact ⟨0, by omega, rfl, fun k _ h1 h2 => absurd h2 (by omega)⟩
  case round =>
    obtain ⟨j, hj, rfl, HJ⟩ := hrel
    by_cases hlt : a + j < t.size
    · have hb := t[a + j].toNat_lt
      have CC := hid (HC.out t[a + j])
      cases hpb : p t[a + j] with
      | true =>
        have HJ2 := hid (show ∀ k (h : k < t.size), a ≤ k → k < a + (j + 1) → p t[k] = true from fun k hk h1 h2 => by
          by_cases hkj : k = a + j
          · subst hkj; exact hpb
          · exact HJ.out k hk h1 (by omega))
        rw [hpb] at CC
        clear hpb
        go_wp2_with (go_at_call 28; go_must (refine (CC.out _).mono ?_; rintro e w1 ⟨rfl, rfl⟩))
        go_round
        case rel => exact ⟨j + 1, by omega, val_int (by omega), HJ2.out⟩
        case measure => simp [intOf]; omega
      | false =>
        have HE := hid (HR.out j hj HJ.out (fun _ => hpb))
        rw [hpb] at CC
        clear hpb
        go_wp2_with (go_at_call 28; go_must (refine (CC.out _).mono ?_; rintro e w1 ⟨rfl, rfl⟩))
        go_ret
        exact ⟨ret_int (by rw [HE.out] <;> omega), rfl⟩
    · have HE := hid (HR.out j hj HJ.out (fun h => absurd h hlt))
      go_wp2_with fail
      go_ret
      exact ⟨ret_int (by rw [HE.out] <;> omega), rfl⟩
theorem rowEnd_bl (t : ByteArray) (a : Nat) (w : World) (ht : t.size ≤ 1000000) (ha : a ≤ t.size) :
    Calls Tryz.prog 15 #[.string t, .int .i64 (a : Int), .string ⟨#[32, 9, 10, 13]⟩] w fun e w' => e = .returned (.int .i64 (a + run blB (t.data.toList.drop a) : Nat)) ∧ w' = w := rowEnd_of t a _ blB (funext in_bl) w ht ha
theorem rowEnd_nc (t : ByteArray) (a : Nat) (w : World) (ht : t.size ≤ 1000000) (ha : a ≤ t.size) :
    Calls Tryz.prog 15 #[.string t, .int .i64 (a : Int), .string ⟨#[48, 49, 50, 51, 52, 53, 54, 55, 56, 57, 43, 45, 46, 101, 69]⟩] w fun e w' => e = .returned (.int .i64 (a + run numC (t.data.toList.drop a) : Nat)) ∧ w' = w := rowEnd_of t a _ numC (funext in_nc) w ht ha
theorem rowEnd_lc (t : ByteArray) (a : Nat) (w : World) (ht : t.size ≤ 1000000) (ha : a ≤ t.size) :
    Calls Tryz.prog 15 #[.string t, .int .i64 (a : Int), .string ⟨#[97, 98, 99, 100, 101, 102, 103, 104, 105, 106, 107, 108, 109, 110, 111, 112, 113, 114, 115, 116, 117, 118, 119, 120, 121, 122]⟩] w fun e w' => e = .returned (.int .i64 (a + run lowC (t.data.toList.drop a) : Nat)) ∧ w' = w := rowEnd_of t a _ lowC (funext in_lc) w ht ha
theorem among_of (s : ByteArray) (p : UInt8 → Bool) (hp : ∀ b, inB s.data.toList b = p b) (b : UInt8) (w : World) :
    Calls Tryz.prog 28 #[.string s, .int .u8 (b.toNat : Int)] w fun e w' => e = .returned (.bool (p b)) ∧ w' = w := by
  have := among_any s b w
  rw [hp] at this; exact this
end Go.Proofs.YtoamndiblckdlaaGreatDoor
