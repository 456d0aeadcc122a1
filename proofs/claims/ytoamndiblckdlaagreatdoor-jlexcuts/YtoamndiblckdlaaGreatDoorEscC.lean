/- esc.letter, plain, digits, named, jsonUnits, jsonPiece: walked. -/
import Derived.Test.YtoamndiblckdlaaGreatDoorEscB
namespace Go.Proofs.YtoamndiblckdlaaGreatDoor
open Go.RowKit

theorem ltr_str (r : Int) : strOfNums (enc r) = mkS (ltr r) := mkS_of _ _ rfl
set_option maxRecDepth 100000 in
set_option maxHeartbeats 1000000 in
theorem letter_any (r : Int) (w : World) :
    Calls Tryz.prog 84 #[.int .i64 r] w fun e w' => e = .returned (.string (mkS (ltr r))) ∧ Below w.heap.size w w' := by
  have HE := hid (ltr_str r)
  go_enter Tryz.func84, Tryz.ntmps84
  go_wp2_with (go_at_call 106; go_must (refine (put_nil _ _).mono ?_; rintro e w1 ⟨rfl, hown, hb⟩; have hcv := conv_row w1 w.heap.size (enc r).length 4 w.heap.size (enc r) hown))
  go_ret
  exact ⟨ret_st HE.out, hb⟩
theorem take_ext (s : ByteArray) (n : Nat) : s.extract 0 n = mkS (s.data.toList.take n) := mkS_of _ _ (by simp)
theorem drop_ext (s : ByteArray) (a b : Nat) : (s.extract a b).data.toList = (s.data.toList.drop a).take (b - a) := by
  rw [ByteArray.data_extract, Array.toList_extract]
set_option maxRecDepth 100000 in
set_option maxHeartbeats 1000000 in
theorem plain_any (s : ByteArray) (w : World) (hs : s.size ≤ maxLen) :
    Calls Tryz.prog 74 #[.string s] w fun e w' => e = .returned (.tuple #[.string (mkS (plP s.data.toList).1), .int .i64 ((plP s.data.toList).2 : Nat)]) ∧ w' = w := by
  have HS := hid hs
  have hn : tkN s.data.toList ≤ s.size := by have := tkN_le s.data.toList; rw [size_list] at this; exact this
  unfold maxLen at hs
  have HE := hid (take_ext s (tkN s.data.toList))
  unfold plP
  go_enter Tryz.func74, Tryz.ntmps74
  go_wp2_with (go_at_call 69; go_must (refine (take_all _ _ HS.out).mono ?_; rintro e w1 ⟨rfl, rfl⟩))
  go_ret2
  exact ⟨ret_sn HE.out rfl, rfl⟩
theorem cdI_of (s : ByteArray) (k : Nat) (h : 2 + k ≤ s.size) : cdI s.data.toList 2 k = if hexB (s.extract 2 (2 + k)).data.toList = true then (hexR (s.extract 2 (2 + k)).data.toList : Int) else -1 := by
  unfold cdI
  rw [drop_ext, show 2 + k - 2 = k by omega, size_list]
  by_cases hb : hexB ((s.data.toList.drop 2).take k) = true
  · rw [if_pos ⟨h, hb⟩, if_pos hb]; unfold hexR; rw [if_pos hb]
  · rw [if_neg (fun hc => hb hc.2), if_neg hb]
theorem cdI_short (l : List UInt8) (k n : Nat) (h : l.length < k + n) : cdI l k n = -1 := by unfold cdI; rw [if_neg (by omega)]
def dgOk (l : List UInt8) (c k : Nat) : Prop := bt l 0 = 92 ∧ bt l 1 = c ∧ 0 ≤ cdI l 2 k
def DigPost (l : List UInt8) (c k : Nat) (e : Ending) : Prop :=
  (dgOk l c k ∧ e = .returned (.tuple #[.int .i64 (cdI l 2 k), .int .i64 ((2 + k : Nat) : Int)])) ∨ (¬ dgOk l c k ∧ e = .returned (.tuple #[.int .i64 0, .int .i64 0]))
set_option maxRecDepth 100000 in
set_option maxHeartbeats 2000000 in
theorem dig_any (s : ByteArray) (c : UInt8) (k : Nat) (w : World) (hs : s.size ≤ maxLen) (hk : 1 ≤ k) (hk8 : k ≤ 8) :
    Calls Tryz.prog 83 #[.string s, .int .u8 (c.toNat : Int), .int .i64 (k : Int)] w fun e w' => DigPost s.data.toList c.toNat k e ∧ Below w.heap.size w w' := by
  have HS := hid hs
  unfold maxLen at hs
  have HZ := hid (size_list s)
  by_cases h1 : s.size < 2 + k
  · have HN := hid (show ¬ (dgOk s.data.toList c.toNat k) by
      rintro ⟨-, -, h⟩; rw [cdI_short _ _ _ (by rw [HZ.out]; exact h1)] at h; omega)
    go_enter Tryz.func83, Tryz.ntmps83
    go_wp2
    all_goals go_ret2
    all_goals exact ⟨Or.inr ⟨HN.out, rfl⟩, Below.refl _ _⟩
  · have B0 := hid (bt_at s 0 (by omega))
    have B1 := hid (bt_at s 1 (by omega))
    by_cases h2 : s[0].toNat = 92
    · by_cases h3 : s[1].toNat = c.toNat
      · have g2 : (s[0].toNat : Int) = 92 := by omega
        have g3 : ((s[1].toNat : Int) != (c.toNat : Int)) = false := by rw [bne_eq_false_iff_eq]; omega
        have HH := hid (fun X => hex_any (s.extract 2 (2 + k)) X (by have := HS.out; rw [ByteArray.size_extract]; omega))
        have HC := hid (cdI_of s k (by omega))
        obtain ⟨m, hm⟩ : ∃ m, s.extract 2 (2 + k) = m := ⟨_, rfl⟩
        rw [hm] at HH HC
        cases hb : hexB m.data.toList with
        | true =>
          have HV := hid (show cdI s.data.toList 2 k = (hexR m.data.toList : Int) by rw [HC.out, if_pos hb])
          have HY := hid (show dgOk s.data.toList c.toNat k by unfold dgOk; rw [B0.out, B1.out, HV.out]; exact ⟨h2, h3, by omega⟩)
          rw [hb] at HH
          clear hb HC h2 h3
          go_enter Tryz.func83, Tryz.ntmps83
          go_wp2_with (go_at_call 105; go_must (refine (HH.out _).mono ?_; rintro e w1 ⟨rfl, hb1⟩))
          all_goals go_ret2
          all_goals exact ⟨Or.inl ⟨HY.out, ret_two HV.out.symm (by omega)⟩, hb1⟩
        | false =>
          have HN := hid (show ¬ (dgOk s.data.toList c.toNat k) by
            rintro ⟨-, -, h⟩; rw [HC.out, if_neg (by rw [hb]; decide)] at h; omega)
          rw [hb] at HH
          clear hb HC h2 h3
          go_enter Tryz.func83, Tryz.ntmps83
          go_wp2_with (go_at_call 105; go_must (refine (HH.out _).mono ?_; rintro e w1 ⟨rfl, hb1⟩))
          all_goals go_ret2
          all_goals exact ⟨Or.inr ⟨HN.out, rfl⟩, hb1⟩
      · have HN := hid (show ¬ (dgOk s.data.toList c.toNat k) by
          rintro ⟨-, h, -⟩; rw [B1.out] at h; exact h3 h)
        have g2 : (s[0].toNat : Int) = 92 := by omega
        have g3 : ((s[1].toNat : Int) != (c.toNat : Int)) = true := by rw [bne_iff_ne]; omega
        clear h2 h3
        go_enter Tryz.func83, Tryz.ntmps83
        go_wp2
        all_goals go_ret2
        all_goals exact ⟨Or.inr ⟨HN.out, rfl⟩, Below.refl _ _⟩
    · have HN := hid (show ¬ (dgOk s.data.toList c.toNat k) by
        rintro ⟨h, -, -⟩; rw [B0.out] at h; exact h2 h)
      have g2 : ¬ (s[0].toNat : Int) = 92 := by omega
      clear h2
      go_enter Tryz.func83, Tryz.ntmps83
      go_wp2
      all_goals go_ret2
      all_goals exact ⟨Or.inr ⟨HN.out, rfl⟩, Below.refl _ _⟩
/-- a stroke and a name -/
def nmP (toml : Bool) (l : List UInt8) : List UInt8 × Nat := if nmV toml (bt l 1) < 256 then ([UInt8.ofNat (nmV toml (bt l 1))], 2) else ([], 0)
def nmIs (toml : Bool) (names said : ByteArray) : Prop := said.size = names.size ∧ names.size ≤ 8 ∧
  ∀ b : UInt8, (Lib.indexByte names.data.toList b = -1 ∧ nmV toml b.toNat = 256) ∨ (∃ i : Nat, Lib.indexByte names.data.toList b = i ∧ i < names.size ∧ nmV toml b.toNat < 256 ∧ said.extract i (i + 1) = mkS [UInt8.ofNat (nmV toml b.toNat)])
set_option maxRecDepth 100000 in
set_option maxHeartbeats 1000000 in
theorem named_any (toml : Bool) (s names said : ByteArray) (w : World) (hs : s.size ≤ maxLen) (hn : nmIs toml names said) :
    Calls Tryz.prog 73 #[.string s, .string names, .string said] w fun e w' => e = .returned (.tuple #[.string (mkS (nmP toml s.data.toList).1), .int .i64 ((nmP toml s.data.toList).2 : Nat)]) ∧ w' = w := by
  unfold maxLen at hs
  obtain ⟨hz, hz8, hi⟩ := hn
  by_cases h1 : s.size < 2
  · have HP := hid (show nmP toml s.data.toList = ([], 0) by
      unfold nmP; rw [bt_none (by rw [size_list]; omega)]
      have : nmV toml 256 = 256 := by unfold nmV; simp
      rw [if_neg (by rw [this]; omega)])
    go_enter Tryz.func73, Tryz.ntmps73
    go_wp2
    go_ret2
    exact ⟨ret_sn (by rw [HP.out]; rfl) (by rw [HP.out]; rfl), rfl⟩
  · have B1 := hid (bt_at s 1 (by omega))
    have HIX : Hid (∀ X, Calls Tryz.prog 44 #[.string names, .int .u8 (s[1].toNat : Int)] X fun e w' => e = .returned (.int .i64 (Lib.indexByte names.data.toList s[1])) ∧ w' = X) := fun X => by
      have := Tryz.strings_IndexByte names (s[1].toNat : Int) X
      have e : ((s[1].toNat : Int).toNat).toUInt8 = s[1] := by simp
      rw [e] at this; exact this
    rcases hi s[1] with ⟨h2, h3⟩ | ⟨i, h2, h4, h3, h5⟩
    · have HP := hid (show nmP toml s.data.toList = ([], 0) by unfold nmP; rw [B1.out, if_neg (by omega)])
      rw [h2] at HIX
      clear h2 h3 hi
      go_enter Tryz.func73, Tryz.ntmps73
      go_wp2_with (go_at_call 44; go_must (refine (HIX.out _).mono ?_; rintro e w1 ⟨rfl, rfl⟩))
      go_ret2
      exact ⟨ret_sn (by rw [HP.out]; rfl) (by rw [HP.out]; rfl), rfl⟩
    · have HP := hid (show nmP toml s.data.toList = ([UInt8.ofNat (nmV toml s[1].toNat)], 2) by unfold nmP; rw [B1.out, if_pos (by omega)])
      rw [h2] at HIX
      have H5 := hid h5
      clear h2 h3 hi h5
      go_enter Tryz.func73, Tryz.ntmps73
      go_wp2_with (go_at_call 44; go_must (refine (HIX.out _).mono ?_; rintro e w1 ⟨rfl, rfl⟩))
      go_ret2
      exact ⟨ret_sn (by rw [HP.out]; exact H5.out) (by rw [HP.out]; rfl), rfl⟩
end Go.Proofs.YtoamndiblckdlaaGreatDoor
