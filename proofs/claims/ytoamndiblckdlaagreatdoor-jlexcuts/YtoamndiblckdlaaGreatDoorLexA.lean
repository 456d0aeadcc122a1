/- The document's own in and row of chapter 7: walked. -/
import Derived.Test.YtoamndiblckdlaaGreatDoorMathLex
namespace Go.Proofs.YtoamndiblckdlaaGreatDoor
open Go.RowKit

/-- is a byte one of these? -/
def inB (l : List UInt8) (b : UInt8) : Bool := l.any (fun x => decide (x.toNat = b.toNat))
theorem inB_at {s : ByteArray} {j : Nat} {b : UInt8} (h : j < s.size) (hb : s[j].toNat = b.toNat) : inB s.data.toList b = true := by
  unfold inB
  rw [List.any_eq_true]
  refine ⟨s[j], ?_, decide_eq_true hb⟩
  have : s.data.toList[j]'(by rw [size_list]; exact h) = s[j] := rfl
  rw [← this]; exact List.getElem_mem _
theorem inB_no {s : ByteArray} {b : UInt8} (h : ∀ k (hk : k < s.size), s[k].toNat ≠ b.toNat) : inB s.data.toList b = false := by
  unfold inB
  rw [List.any_eq_false]
  intro x hx
  obtain ⟨k, hk, rfl⟩ := List.mem_iff_getElem.1 hx
  rw [size_list] at hk
  have := h k hk
  simp only [decide_eq_true_eq]
  exact this
set_option maxRecDepth 100000 in
set_option maxHeartbeats 1000000 in
theorem rin_any (b : UInt8) (s : ByteArray) (w : World) (hs : s.size ≤ 1000) :
    Calls Tryz.prog 18 #[.int .u8 (b.toNat : Int), .string s] w fun e w' => e = .returned (.bool (inB s.data.toList b)) ∧ w' = w := by
  have hb := b.toNat_lt
  have HB := hid (fun j h e => inB_at (s := s) (j := j) (b := b) h e)
  have HN := hid (fun h => inB_no (s := s) (b := b) h)
  obtain ⟨R, hR⟩ : ∃ R, inB s.data.toList b = R := ⟨_, rfl⟩
  rw [hR] at HB HN ⊢
  clear hR
  obtain ⟨n, hn⟩ : ∃ n, b.toNat = n := ⟨_, rfl⟩
  rw [hn] at HB HN hb ⊢
  clear hn
  go_enter Tryz.func18, Tryz.ntmps18
  go_wp2_with fail
  go_loop [5] (fun i => ∃ j : Nat, j ≤ s.size ∧ i = .int .i64 j ∧ Hid (∀ k (hk : k < s.size), k < j → s[k].toNat ≠ n)) (fun i => s.size - (intOf i).toNat)
  case atStart => exact ⟨0, Nat.zero_le _, rfl, fun k _ h => absurd h (by omega)⟩
  case round =>
    obtain ⟨j, hj, rfl, HJ⟩ := hrel
    by_cases hlt : j < s.size
    · by_cases he : s[j].toNat = n
      · have HR := hid (HB.out j hlt he)
        have g : ((s[j].toNat : Int) == (n : Int)) = true := by rw [beq_iff_eq]; omega
        clear he
        go_wp2_with fail
        go_ret
        exact ⟨ret_bool HR.out.symm, rfl⟩
      · have g : ((s[j].toNat : Int) == (n : Int)) = false := by rw [beq_eq_false_iff_ne]; omega
        have HJ2 := hid (show ∀ k (hk : k < s.size), k < j + 1 → s[k].toNat ≠ n from fun k hk h => by
          by_cases hkj : k = j
          · subst hkj; exact he
          · exact HJ.out k hk (by omega))
        clear he
        go_wp2_with fail
        go_round
        case rel => exact ⟨j + 1, hlt, val_int (by omega), HJ2.out⟩
        case measure => simp [intOf]; omega
    · have HR := hid (HN.out (fun k hk => HJ.out k hk (by omega)))
      go_wp2_with fail
      go_ret
      exact ⟨ret_bool HR.out.symm, rfl⟩
theorem run_le (p : UInt8 → Bool) (l : List UInt8) : run p l ≤ l.length := by unfold run; exact (List.takeWhile_sublist p).length_le
theorem run_is {p : UInt8 → Bool} : ∀ {l : List UInt8} (n : Nat), n ≤ l.length → (∀ k (h : k < l.length), k < n → p l[k] = true) → (∀ h : n < l.length, p l[n] = false) → run p l = n
  | [], n, hn, _, _ => by simp at hn; subst hn; rfl
  | a :: l, 0, _, _, h => by
    have := h (by simp)
    unfold run; rw [List.takeWhile_cons, if_neg (by simpa using this)]; rfl
  | a :: l, n + 1, hn, hk, h => by
    have h0 := hk 0 (by simp) (by omega)
    have := run_is (p := p) (l := l) n (by simpa using hn) (fun k hk1 hk2 => by have := hk (k + 1) (by simpa using hk1) (by omega); simpa using this) (fun h' => by have := h (by simpa using h'); simpa using this)
    unfold run at this ⊢
    rw [List.takeWhile_cons, if_pos (by simpa using h0), List.length_cons, this]
set_option maxRecDepth 100000 in
set_option maxHeartbeats 1000000 in
theorem row_any (t : ByteArray) (a : Nat) (s : ByteArray) (w : World) (ht : t.size ≤ 1000000) (ha : a ≤ t.size) (hs : s.size ≤ 1000) :
    Calls Tryz.prog 20 #[.string t, .int .i64 (a : Int), .string s] w fun e w' => e = .returned (.int .i64 (run (inB s.data.toList) (t.data.toList.drop a) : Nat)) ∧ w' = w := by
  have HC := hid (fun (b : UInt8) X => rin_any b s X hs)
  have HR : Hid (∀ n, a + n ≤ t.size → (∀ k (h : k < t.size), a ≤ k → k < a + n → inB s.data.toList t[k] = true) → (∀ h : a + n < t.size, inB s.data.toList t[a + n] = false) → run (inB s.data.toList) (t.data.toList.drop a) = n) := fun n h1 h2 h3 => by
    refine run_is n (by rw [List.length_drop, size_list]; omega) (fun k hk hkn => ?_) (fun h => ?_)
    · have hk2 : a + k < t.size := by rw [List.length_drop, size_list] at hk; omega
      have := h2 (a + k) hk2 (by omega) (by omega)
      rw [List.getElem_drop]; exact this
    · have hk2 : a + n < t.size := by rw [List.length_drop, size_list] at h; omega
      rw [List.getElem_drop]; exact h3 hk2
  obtain ⟨p, hp⟩ : ∃ p, inB s.data.toList = p := ⟨_, rfl⟩
  obtain ⟨R, hRR⟩ : ∃ R, run (inB s.data.toList) (t.data.toList.drop a) = R := ⟨_, rfl⟩
  rw [hRR] at HR ⊢
  simp only [hp] at HC HR
  clear hRR hp
  go_enter Tryz.func20, Tryz.ntmps20
  go_wp2_with fail
  go_loop [7] (fun i => ∃ j : Nat, a + j ≤ t.size ∧ i = .int .i64 j ∧ Hid (∀ k (h : k < t.size), a ≤ k → k < a + j → p t[k] = true)) (fun i => t.size - (intOf i).toNat)
  case atStart => exact ⟨0, by omega, rfl, fun k _ h1 h2 => absurd h2 (by omega)⟩
  case round =>
    obtain ⟨j, hj, rfl, HJ⟩ := hrel
    by_cases hlt : a + j < t.size
    · have hb := t[a + j].toNat_lt
      have CC := hid (HC.out t[a + j])
      cases hpb : p t[a + j] with
      | true =>
        have HJ2 := hid (show ∀ k (h : k < t.size), a ≤ k → k < a + (j + 1) → p t[k] = true from fun k hk h1 h2 => by
          by_cases hkj : k = a + j
          · subst hkj; exact hpb
          · exact HJ.out k hk h1 (by omega))
        rw [hpb] at CC
        clear hpb
        go_wp2_with (go_at_call 18; go_must (refine (CC.out _).mono ?_; rintro e w1 ⟨rfl, rfl⟩))
        go_round
        case rel => exact ⟨j + 1, by omega, val_int (by omega), HJ2.out⟩
        case measure => simp [intOf]; omega
      | false =>
        have HE := hid (HR.out j hj HJ.out (fun _ => hpb))
        rw [hpb] at CC
        clear hpb
        go_wp2_with (go_at_call 18; go_must (refine (CC.out _).mono ?_; rintro e w1 ⟨rfl, rfl⟩))
        go_ret
        exact ⟨ret_int (by rw [HE.out]), rfl⟩
    · have HE := hid (HR.out j hj HJ.out (fun h => absurd h hlt))
      go_wp2_with fail
      go_ret
      exact ⟨ret_int (by rw [HE.out]), rfl⟩
end Go.Proofs.YtoamndiblckdlaaGreatDoor
