/- esc.jsonPiece, lineEnd, onePlain, manyPlain, tomlEscape, oneEscaped, folded, manyEscaped: walked. -/
import Derived.Test.YtoamndiblckdlaaGreatDoorEscD
namespace Go.Proofs.YtoamndiblckdlaaGreatDoor
open Go.RowKit

theorem hp1 (l : List UInt8) (c : UInt8) : Lib.hasPrefix l [c] = decide (bt l 0 = c.toNat) := by
  have hc := c.toNat_lt
  unfold Lib.hasPrefix
  cases l with
  | nil => rw [bt_nil, decide_eq_false (by omega)]; rfl
  | cons a t =>
    rw [bt_cons, Bool.eq_iff_iff]; simp [List.isPrefixOf]
    rw [eq_comm, UInt8.toNat_inj]
theorem hp2 (l : List UInt8) (c d : UInt8) : Lib.hasPrefix l [c, d] = decide (bt l 0 = c.toNat ∧ bt l 1 = d.toNat) := by
  have hc := c.toNat_lt
  have h1 := hp1 (l.drop 1) d
  unfold Lib.hasPrefix at h1 ⊢
  cases l with
  | nil => rw [bt_nil, decide_eq_false (by omega)]; rfl
  | cons a t =>
    rw [List.drop_succ_cons, List.drop_zero] at h1
    rw [bt_cons, bt_succ, List.isPrefixOf, h1, Bool.eq_iff_iff]; simp
    intro _
    rw [eq_comm, UInt8.toNat_inj]
theorem hp3 (l : List UInt8) (c d f : UInt8) : Lib.hasPrefix l [c, d, f] = decide (bt l 0 = c.toNat ∧ bt l 1 = d.toNat ∧ bt l 2 = f.toNat) := by
  have hc := c.toNat_lt
  have h1 := hp2 (l.drop 1) d f
  unfold Lib.hasPrefix at h1 ⊢
  cases l with
  | nil => rw [bt_nil, decide_eq_false (by omega)]; rfl
  | cons a t =>
    rw [List.drop_succ_cons, List.drop_zero] at h1
    rw [bt_cons, bt_succ, bt_succ, List.isPrefixOf, h1, Bool.eq_iff_iff]; simp
    intro _ _
    rw [eq_comm, UInt8.toNat_inj]
/-- what a piece's function owes -/
def PieceOf (f : FuncId) (P : List UInt8 → List UInt8 × Nat) : Prop := ∀ (s : ByteArray) (w : World), s.size ≤ maxLen → 0 < s.size →
  Calls Tryz.prog f #[.string s] w fun e w' => e = .returned (.tuple #[.string (mkS (P s.data.toList).1), .int .i64 ((P s.data.toList).2 : Nat)]) ∧ Below w.heap.size w w'
theorem esc_nm (l : List UInt8) (h : bt l 1 ≠ 117) : escP false l = nmP false l := by
  unfold escP nmP
  by_cases h1 : nmV false (bt l 1) < 256
  · rw [if_pos h1, if_pos h1]
  · rw [if_neg h1, if_neg h1, if_neg (by simp), if_neg h]
theorem esc_nmT (l : List UInt8) (h : bt l 1 ≠ 117) (h2 : bt l 1 ≠ 85) : escP true l = nmP true l := by
  unfold escP nmP
  by_cases h1 : nmV true (bt l 1) < 256
  · rw [if_pos h1, if_pos h1]
  · rw [if_neg h1, if_neg h1, if_neg (fun hc => h2 hc.1), if_neg h]
set_option maxRecDepth 100000 in
set_option maxHeartbeats 2000000 in
theorem jpiece_any : PieceOf 61 jsP := by
  intro s w hs h0
  have HS := hid hs
  unfold maxLen at hs
  have B0 := hid (bt_at s 0 h0)
  have HP : Hid (∀ X, Calls Tryz.prog 27 #[.string s, .string ⟨#[92, 117]⟩] X fun e w' => e = .returned (.bool (decide (bt s.data.toList 0 = 92 ∧ bt s.data.toList 1 = 117))) ∧ w' = X) := fun X => by
    have := Tryz.strings_HasPrefix s ⟨#[92, 117]⟩ X
    rw [show (⟨#[92, 117]⟩ : ByteArray).data.toList = [92, 117] from rfl, hp2] at this; exact this
  by_cases hu : bt s.data.toList 0 = 92 ∧ bt s.data.toList 1 = 117
  · rw [decide_eq_true hu] at HP
    have HU := hid (fun X => units_any s X HS.out hu.1 hu.2)
    have HE := hid (show jsP s.data.toList = escP false s.data.toList by unfold jsP; rw [if_pos hu.1])
    clear hu
    go_enter Tryz.func61, Tryz.ntmps61
    go_wp2_with (first
      | (go_at_call 27; go_must (refine (HP.out _).mono ?_; rintro e w1 ⟨rfl, rfl⟩))
      | (go_at_call 72; go_must (refine (HU.out _).mono ?_; rintro e w2 ⟨rfl, hb2⟩)))
    go_ret2
    exact ⟨ret_sn (by rw [HE.out]) (by rw [HE.out]), hb2⟩
  · rw [decide_eq_false hu] at HP
    by_cases h92 : s[0].toNat = 92
    · have HE := hid (show jsP s.data.toList = nmP false s.data.toList by
        unfold jsP; rw [if_pos (by rw [B0.out]; exact h92), esc_nm _ (fun hc => hu ⟨by rw [B0.out]; exact h92, hc⟩)])
      have HN := hid (fun X => named_any false s ⟨#[34, 92, 47, 98, 102, 110, 114, 116]⟩ ⟨#[34, 92, 47, 8, 12, 10, 13, 9]⟩ X HS.out nm_json)
      have g : (s[0].toNat : Int) = 92 := by omega
      clear hu h92
      go_enter Tryz.func61, Tryz.ntmps61
      go_wp2_with (first
        | (go_at_call 27; go_must (refine (HP.out _).mono ?_; rintro e w1 ⟨rfl, rfl⟩))
        | (go_at_call 73; go_must (refine (HN.out _).mono ?_; rintro e w2 ⟨rfl, rfl⟩)))
      go_ret2
      exact ⟨ret_sn (by rw [HE.out]) (by rw [HE.out]), Below.refl _ _⟩
    · have g : ¬ (s[0].toNat : Int) = 92 := by omega
      by_cases h32 : s[0].toNat < 32
      · have HE := hid (show jsP s.data.toList = ([], 0) by unfold jsP; rw [B0.out, if_neg h92, if_pos h32])
        clear hu h92
        go_enter Tryz.func61, Tryz.ntmps61
        go_wp2_with (go_at_call 27; go_must (refine (HP.out _).mono ?_; rintro e w1 ⟨rfl, rfl⟩))
        go_ret2
        exact ⟨ret_sn (by rw [HE.out]; rfl) (by rw [HE.out]; rfl), Below.refl _ _⟩
      · have HE := hid (show jsP s.data.toList = plP s.data.toList by unfold jsP; rw [B0.out, if_neg h92, if_neg h32])
        have HPL := hid (fun X => plain_any s X HS.out)
        clear hu h92
        go_enter Tryz.func61, Tryz.ntmps61
        go_wp2_with (first
          | (go_at_call 27; go_must (refine (HP.out _).mono ?_; rintro e w1 ⟨rfl, rfl⟩))
          | (go_at_call 74; go_must (refine (HPL.out _).mono ?_; rintro e w2 ⟨rfl, rfl⟩)))
        go_ret2
        exact ⟨ret_sn (by rw [HE.out]) (by rw [HE.out]), Below.refl _ _⟩
theorem lnE_le (l : List UInt8) : lnE l ≤ l.length ∧ lnE l ≤ 2 := by
  unfold lnE
  split
  · next h => have := bt_lt (l := l) (k := 0) (by omega); omega
  · split
    · next h => have := bt_lt (l := l) (k := 1) (by omega); omega
    · omega
end Go.Proofs.YtoamndiblckdlaaGreatDoor
