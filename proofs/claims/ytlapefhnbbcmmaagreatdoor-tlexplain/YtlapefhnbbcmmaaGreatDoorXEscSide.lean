
import Derived.Test.YtlapefhnbbcmmaaGreatDoorXBase
import Derived.Test.YtlapefhnbbcmmaaGreatDoorXShelf
import Derived.Test.YtlapefhnbbcmmaaGreatDoorXVStr
import Derived.Test.YtlapefhnbbcmmaaGreatDoorXRefOne
import Derived.Deep.DeepCutAuto
import Derived.Deep.LoopGhost
import Derived.Lib.AppendStr
import Derived.Shelf.Strings.SlTrimAscii
import Derived.Deep.QuietTactic
import Derived.BigQuiet
/- esc.hexDigit, Hex, bareByte, Bare: walked. -/
/- esc.Hex, Bare, letter, plain, digits, named: walked. -/
/- esc.letter, plain, digits, named, jsonUnits, jsonPiece: walked. -/
/- esc.jsonUnits, jsonPiece: walked. -/
/- esc.jsonPiece, lineEnd, onePlain, manyPlain, tomlEscape, oneEscaped, folded, manyEscaped: walked. -/
/- esc.tomlEscape, oneEscaped, folded, manyEscaped: walked. -/
/- esc.oneEnd, manyEnd, from, read: walked. -/
/- esc.read: walked. -/
/- esc.from, Unquote, TUnquote: walked. -/
namespace Go.Proofs.YtlapefhnbbcmmaaGreatDoor
open Go.RowKit

theorem ret_sn {k : IntKind} {a b : ByteArray} {c d : Int} (h : a = b) (g : c = d) : Ending.returned (.tuple #[.string a, .int k c]) = .returned (.tuple #[.string b, .int k d]) := by rw [h, g]
theorem ret_snn {k l : IntKind} {a b : ByteArray} {c d x y : Int} (h : a = b) (g : c = d) (q : x = y) : Ending.returned (.tuple #[.string a, .int k c, .int l x]) = .returned (.tuple #[.string b, .int k d, .int l y]) := by rw [h, g, q]
theorem ret_st {a b : ByteArray} (h : a = b) : Ending.returned (.string a) = .returned (.string b) := by rw [h]
theorem ret_sb {a b : ByteArray} {c d : Bool} (h : a = b) (g : c = d) : Ending.returned (.tuple #[.string a, .bool c]) = .returned (.tuple #[.string b, .bool d]) := by rw [h, g]
/-- one frame upon another -/
theorem eonto {w w1 w2 : World} (h : Below w.heap.size w w1) (g : Below w1.heap.size w1 w2) : Below w.heap.size w w2 := h.trans (g.mono h.size)
/-- what a text's bytes lie as, once they are converted -/
theorem ebrow_at (s : ByteArray) (k : Nat) (w : World) (c : Nat) (t : TypeId) (m : Nat × Nat) (hk : k < s.size) : (w.alloc (.cells (bytesRow s c) t m)).cell? ⟨w.heap.size, k, none⟩ = some (.int .u8 (s[k].toNat : Int)) := by
  rw [World.cell?_alloc_mark w _ t m k]
  exact bytesRow_at s c k hk
def hxW (b : UInt8) : Nat := if hxI b = true then hxV b else 0
theorem hx_yes {b : UInt8} (h : (48 ≤ (b.toNat : Int) ∧ (b.toNat : Int) ≤ 57) ∨ (97 ≤ (b.toNat : Int) ∧ (b.toNat : Int) ≤ 102) ∨ (65 ≤ (b.toNat : Int) ∧ (b.toNat : Int) ≤ 70)) : hxI b = true := by
  unfold hxI; simp only [Bool.or_eq_true, decide_eq_true_eq]; omega
theorem hx_no {b : UInt8} (h : ¬ ((48 ≤ (b.toNat : Int) ∧ (b.toNat : Int) ≤ 57) ∨ (97 ≤ (b.toNat : Int) ∧ (b.toNat : Int) ≤ 102) ∨ (65 ≤ (b.toNat : Int) ∧ (b.toNat : Int) ≤ 70))) : hxI b = false := by
  rw [Bool.eq_false_iff]; intro hc; apply h
  unfold hxI at hc; simp only [Bool.or_eq_true, decide_eq_true_eq] at hc; omega
set_option maxRecDepth 100000 in
set_option maxHeartbeats 1000000 in
theorem hexd_any (b : UInt8) (w : World) :
    Calls Tryz.prog 171 #[.int .u8 (b.toNat : Int)] w fun e w' => e = .returned (.tuple #[.int .i64 (hxW b : Nat), .bool (hxI b)]) ∧ w' = w := by
  have hb : (b.toNat : Int) < 256 := by have := b.toNat_lt; omega
  have hb0 : 0 ≤ (b.toNat : Int) := by omega
  have HY := hid (@hx_yes b)
  have HN := hid (@hx_no b)
  have HW := hid (show hxI b = true → (hxW b : Int) = if (b.toNat : Int) ≤ 57 then (b.toNat : Int) - 48 else if (b.toNat : Int) ≤ 70 then (b.toNat : Int) - 55 else (b.toNat : Int) - 87 by
    intro h
    have h1 := h
    unfold hxI at h1; simp only [Bool.or_eq_true, decide_eq_true_eq] at h1
    unfold hxW; rw [if_pos h]; unfold hxV; (repeat' split) <;> omega)
  have HZ := hid (show hxI b = false → hxW b = 0 by intro h; unfold hxW; rw [h]; rfl)
  go_enter Tryz.func171, Tryz.ntmps171
  go_wp2
  all_goals
    go_ret2
    first
      | exact ⟨ret_ib (by rw [HW.out (HY.out (by omega))]; (repeat' split) <;> omega) (HY.out (by omega)).symm, rfl⟩
      | exact ⟨ret_ib (by rw [HZ.out (HN.out (by omega))]; rfl) (HN.out (by omega)).symm, rfl⟩
set_option maxRecDepth 100000 in
set_option maxHeartbeats 1000000 in
theorem bareb_any (b : UInt8) (w : World) :
    Calls Tryz.prog 109 #[.int .u8 (b.toNat : Int)] w fun e w' => e = .returned (.bool (brI b)) ∧ w' = w := by
  have hb : (b.toNat : Int) < 256 := by have := b.toNat_lt; omega
  have HB := hid (show brI b = decide ((97 ≤ (b.toNat : Int) ∧ (b.toNat : Int) ≤ 122) ∨ (65 ≤ (b.toNat : Int) ∧ (b.toNat : Int) ≤ 90) ∨ (48 ≤ (b.toNat : Int) ∧ (b.toNat : Int) ≤ 57) ∨ (b.toNat : Int) = 95 ∨ (b.toNat : Int) = 45) by
    unfold brI; rw [Bool.eq_iff_iff]; simp only [Bool.or_eq_true, decide_eq_true_eq]; omega)
  go_enter Tryz.func109, Tryz.ntmps109
  go_wp2
  all_goals
    go_ret
    exact ⟨ret_bool (by rw [HB.out]; first | exact (decide_eq_true (by omega)).symm | (rw [Bool.eq_iff_iff]; simp; omega)), rfl⟩
end Go.Proofs.YtlapefhnbbcmmaaGreatDoor
namespace Go.Proofs.YtlapefhnbbcmmaaGreatDoor
open Go.RowKit

theorem empty_of {s : ByteArray} (h : s.size = 0) : s = ⟨#[]⟩ := by
  have h1 : s.data.toList = [] := List.eq_nil_of_length_eq_zero (by rw [size_list]; exact h)
  rw [mkS_of s _ rfl, h1]; rfl
theorem isE_no {s : ByteArray} (h : 0 < s.size) : s.toList.isEmpty = false ∧ ¬ s.toList = [] ∧ (s.toList == (⟨#[]⟩ : ByteArray).toList) = false := by
  have h1 : ¬ s.toList = [] := fun hc => by
    rw [ByteArray.toList_eq] at hc
    have := congrArg List.length hc
    rw [size_list, List.length_nil] at this
    omega
  refine ⟨?_, h1, ?_⟩
  · rw [List.isEmpty_eq_false_iff]; exact h1
  · rw [beq_eq_false_iff_ne, ByteArray.toList_eq, ByteArray.toList_eq]
    rw [ByteArray.toList_eq] at h1; exact h1
theorem take_snoc (s : ByteArray) (k : Nat) (h : k < s.size) : s.data.toList.take (k + 1) = s.data.toList.take k ++ [s[k]] := by
  rw [List.take_succ_eq_append_getElem (by simpa using h)]; rfl
theorem i64_or4 (x y : Int) (hx0 : 0 ≤ x) (hx : x % 16 = 0) (hx1 : x < 68719476736) (h0 : 0 ≤ y) (h1 : y < 16) : bits .or .i64 x y = x + y :=
  bits_join .i64 63 (by decide) wraps_i64 4 x y hx0 hx (by omega) h0 h1 (by omega)
theorem hexB_mid {s : ByteArray} {j : Nat} (hj : j < s.size) (hno : hxI s[j] = false) : hexB s.data.toList = false := by
  unfold hexB
  rw [Bool.and_eq_false_iff]; right
  rw [List.all_eq_false]
  exact ⟨s[j], by rw [← getD_at s j hj, List.getD, List.getElem?_eq_getElem (by rw [size_list]; exact hj)]; exact List.getElem_mem _, by simp [hno]⟩
theorem hexR_no {l : List UInt8} (h : hexB l = false) : hexR l = 0 := by unfold hexR; rw [h]; rfl
set_option maxRecDepth 100000 in
set_option maxHeartbeats 2000000 in
theorem hex_any (s : ByteArray) (w : World) (hs : s.size ≤ maxLen) :
    Calls Tryz.prog 159 #[.string s] w fun e w' => e = .returned (.tuple #[.int .i64 (hexR s.data.toList : Nat), .bool (hexB s.data.toList)]) ∧ Below w.heap.size w w' := by
  unfold maxLen at hs
  have HZ := hid (size_list s)
  by_cases h0 : s.size = 0
  · obtain rfl := empty_of h0
    go_enter Tryz.func159, Tryz.ntmps159
    go_wp2
    go_ret2
    exact ⟨rfl, Below.refl _ _⟩
  · obtain ⟨e1, e2, e3⟩ := isE_no (s := s) (by omega)
    by_cases h8 : 8 < s.size
    · have HB := hid (show hexB s.data.toList = false by unfold hexB; rw [HZ.out, decide_eq_false (by omega)]; rfl)
      go_enter Tryz.func159, Tryz.ntmps159
      go_wp2
      all_goals go_ret2
      all_goals exact ⟨ret_ib (by rw [hexR_no HB.out]; rfl) HB.out.symm, Below.refl _ _⟩
    · have hcv := run_bytes_of_string (P := Tryz.prog) w 9 93 5 s Tryz.underlying9 Tryz.underlying93 Tryz.underlying5
      go_enter Tryz.func159, Tryz.ntmps159
      go_upto_region 4 with fail
      go_cut [17, 18, 19] (fun a b c wx => ∃ cap, a = .slice (some ⟨w.heap.size, 0, none⟩) s.size cap ∧ b = .int .i64 s.size ∧ c = .int .i64 0 ∧ s.size ≤ cap ∧ Hid (∀ k (h : k < s.size), wx.cell? ⟨w.heap.size, k, none⟩ = some (.int .u8 (s[k].toNat : Int))) ∧ Hid (Below w.heap.size w wx))
      case first =>
        go_wp2_with fail
        go_meet
        exact ⟨_, rfl, rfl, rfl, grownCap_ge _ _ _ _, (show ∀ k (h : k < s.size), _ = _ from fun k hk => ebrow_at s k (w.drewN 1) _ _ _ hk), (Below.refl _ _).drew.alloc (by simp) _⟩
      case rest =>
      obtain ⟨cap, rfl, rfl, rfl, hcap, HC, HW⟩ := hcut
      clear hcv
      go_wp2_with fail
      go_loop [4, 19] (fun v i => ∃ j : Nat, j ≤ s.size ∧ i = .int .i64 j ∧ v = .int .i64 (hexF (s.data.toList.take j) : Nat) ∧ Hid ((s.data.toList.take j).all hxI = true)) (fun _ i => s.size - (intOf i).toNat)
      case atStart => exact ⟨0, Nat.zero_le _, rfl, rfl, rfl⟩
      case round =>
        obtain ⟨j, hj, rfl, rfl, HJ⟩ := hrel
        have hF : hexF (s.data.toList.take j) < 4294967296 := hexF_lt8 _ HJ.out (by rw [List.length_take]; omega)
        by_cases hlt : j < s.size
        · have hcell := HC.out j hlt
          cases hx : hxI s[j] with
          | true =>
            have hv := hxV_lt hx
            have hw : hxW s[j] = hxV s[j] := by unfold hxW; rw [if_pos hx]
            have HD : Hid (∀ X, Calls Tryz.prog 171 #[.int .u8 (s[j].toNat : Int)] X fun e w' => e = .returned (.tuple #[.int .i64 (hxV s[j] : Nat), .bool true]) ∧ w' = X) := fun X => by
              have := hexd_any s[j] X; rw [hw, hx] at this; exact this
            have HO := hid (i64_or4 ((hexF (s.data.toList.take j) : Int) * 16) (hxV s[j] : Int) (by omega) (by omega) (by omega) (by omega) (by omega))
            have HS := hid (show (hexF (s.data.toList.take (j + 1)) : Int) = (hexF (s.data.toList.take j) : Int) * 16 + (hxV s[j] : Int) by rw [take_snoc s j hlt, hexF_snoc]; omega)
            have HA := hid (show (s.data.toList.take (j + 1)).all hxI = true by rw [take_snoc s j hlt, List.all_append, HJ.out]; simp [hx])
            clear hx hw
            go_wp2_with (go_at_call 171; go_must (refine (HD.out _).mono ?_; rintro e w' ⟨rfl, rfl⟩))
            go_round
            case rel => exact ⟨j + 1, hlt, val_int (by omega), val_int (by rw [HS.out, HO.out]), HA.out⟩
            case measure => simp [intOf]; omega
          | false =>
            have HB := hid (hexB_mid hlt hx)
            have hw : hxW s[j] = 0 := by unfold hxW; rw [hx]; rfl
            have HD : Hid (∀ X, Calls Tryz.prog 171 #[.int .u8 (s[j].toNat : Int)] X fun e w' => e = .returned (.tuple #[.int .i64 (0 : Nat), .bool false]) ∧ w' = X) := fun X => by
              have := hexd_any s[j] X; rw [hw, hx] at this; exact this
            clear hx hw
            go_wp2_with (go_at_call 171; go_must (refine (HD.out _).mono ?_; rintro e w' ⟨rfl, rfl⟩))
            go_ret2
            exact ⟨ret_ib (by rw [hexR_no HB.out]; rfl) HB.out.symm, HW.out⟩
        · have HT := hid (show s.data.toList.take j = s.data.toList from List.take_of_length_le (by rw [HZ.out]; omega))
          have HB := hid (show hexB s.data.toList = true by
            unfold hexB; rw [HZ.out, decide_eq_true (by omega), Bool.true_and]
            have := HJ.out; rw [HT.out] at this; exact this)
          go_wp2_with fail
          go_ret2
          exact ⟨ret_ib (by unfold hexR; rw [if_pos HB.out, HT.out]) HB.out.symm, HW.out⟩
set_option maxRecDepth 100000 in
set_option maxHeartbeats 2000000 in
theorem bare_any (s : ByteArray) (w : World) (hs : s.size ≤ maxLen) :
    Calls Tryz.prog 76 #[.string s] w fun e w' => e = .returned (.bool (brB s.data.toList)) ∧ Below w.heap.size w w' := by
  unfold maxLen at hs
  have HZ := hid (size_list s)
  have hcv := run_bytes_of_string (P := Tryz.prog) w 9 93 5 s Tryz.underlying9 Tryz.underlying93 Tryz.underlying5
  go_enter Tryz.func76, Tryz.ntmps76
  go_upto_region 1 with fail
  go_cut [6, 7, 8] (fun a b c wx => ∃ cap, a = .slice (some ⟨w.heap.size, 0, none⟩) s.size cap ∧ b = .int .i64 s.size ∧ c = .int .i64 0 ∧ s.size ≤ cap ∧ Hid (∀ k (h : k < s.size), wx.cell? ⟨w.heap.size, k, none⟩ = some (.int .u8 (s[k].toNat : Int))) ∧ Hid (Below w.heap.size w wx))
  case first =>
    go_wp2_with fail
    go_meet
    exact ⟨_, rfl, rfl, rfl, grownCap_ge _ _ _ _, (show ∀ k (h : k < s.size), _ = _ from fun k hk => ebrow_at s k (w.drewN 1) _ _ _ hk), (Below.refl _ _).drew.alloc (by simp) _⟩
  case rest =>
  obtain ⟨cap, rfl, rfl, rfl, hcap, HC, HW⟩ := hcut
  clear hcv
  go_wp2_with fail
  go_loop [8] (fun i => ∃ j : Nat, j ≤ s.size ∧ i = .int .i64 j ∧ Hid ((s.data.toList.take j).all brI = true)) (fun i => s.size - (intOf i).toNat)
  case atStart => exact ⟨0, Nat.zero_le _, rfl, rfl⟩
  case round =>
    obtain ⟨j, hj, rfl, HJ⟩ := hrel
    by_cases hlt : j < s.size
    · have hcell := HC.out j hlt
      have HD := hid (fun X => bareb_any s[j] X)
      cases hx : brI s[j] with
      | true =>
        rw [hx] at HD
        have HA := hid (show (s.data.toList.take (j + 1)).all brI = true by rw [take_snoc s j hlt, List.all_append, HJ.out]; simp [hx])
        clear hx
        go_wp2_with (go_at_call 109; go_must (refine (HD.out _).mono ?_; rintro e w' ⟨rfl, rfl⟩))
        go_round
        case rel => exact ⟨j + 1, hlt, val_int (by omega), HA.out⟩
        case measure => simp [intOf]; omega
      | false =>
        rw [hx] at HD
        have HB := hid (show brB s.data.toList = false by
          unfold brB; rw [Bool.and_eq_false_iff]; right; rw [List.all_eq_false]
          exact ⟨s[j], by rw [← getD_at s j hlt, List.getD, List.getElem?_eq_getElem (by rw [HZ.out]; exact hlt)]; exact List.getElem_mem _, by simp [hx]⟩)
        clear hx
        go_wp2_with (go_at_call 109; go_must (refine (HD.out _).mono ?_; rintro e w' ⟨rfl, rfl⟩))
        go_ret
        exact ⟨ret_bool HB.out.symm, HW.out⟩
    · have HT := hid (show s.data.toList.all brI = true by have := HJ.out; rw [List.take_of_length_le (by rw [HZ.out]; omega)] at this; exact this)
      have HB := hid (show brB s.data.toList = !s.toList.isEmpty by unfold brB; rw [HT.out, ByteArray.toList_eq]; simp)
      go_wp2_with fail
      go_ret
      exact ⟨ret_bool (by rw [HB.out]), HW.out⟩
end Go.Proofs.YtlapefhnbbcmmaaGreatDoor
namespace Go.Proofs.YtlapefhnbbcmmaaGreatDoor
open Go.RowKit

theorem ltr_str (r : Int) : strOfNums (enc r) = mkS (ltr r) := mkS_of _ _ rfl
set_option maxRecDepth 100000 in
set_option maxHeartbeats 1000000 in
theorem letter_any (r : Int) (w : World) :
    Calls Tryz.prog 145 #[.int .i64 r] w fun e w' => e = .returned (.string (mkS (ltr r))) ∧ Below w.heap.size w w' := by
  have HE := hid (ltr_str r)
  go_enter Tryz.func145, Tryz.ntmps145
  go_wp2_with (go_at_call 160; go_must (refine (put_nil _ _).mono ?_; rintro e w1 ⟨rfl, hown, hb⟩; have hcv := conv_row w1 w.heap.size (enc r).length 4 w.heap.size (enc r) hown))
  go_ret
  exact ⟨ret_st HE.out, hb⟩
theorem take_ext (s : ByteArray) (n : Nat) : s.extract 0 n = mkS (s.data.toList.take n) := mkS_of _ _ (by simp)
theorem drop_ext (s : ByteArray) (a b : Nat) : (s.extract a b).data.toList = (s.data.toList.drop a).take (b - a) := by
  rw [ByteArray.data_extract, Array.toList_extract]
set_option maxRecDepth 100000 in
set_option maxHeartbeats 1000000 in
theorem plain_any (s : ByteArray) (w : World) (hs : s.size ≤ maxLen) :
    Calls Tryz.prog 122 #[.string s] w fun e w' => e = .returned (.tuple #[.string (mkS (plP s.data.toList).1), .int .i64 ((plP s.data.toList).2 : Nat)]) ∧ w' = w := by
  have HS := hid hs
  have hn : tkN s.data.toList ≤ s.size := by have := tkN_le s.data.toList; rw [size_list] at this; exact this
  unfold maxLen at hs
  have HE := hid (take_ext s (tkN s.data.toList))
  unfold plP
  go_enter Tryz.func122, Tryz.ntmps122
  go_wp2_with (go_at_call 146; go_must (refine (take_all _ _ HS.out).mono ?_; rintro e w1 ⟨rfl, rfl⟩))
  go_ret2
  exact ⟨ret_sn HE.out rfl, rfl⟩
theorem cdI_of (s : ByteArray) (k : Nat) (h : 2 + k ≤ s.size) : cdI s.data.toList 2 k = if hexB (s.extract 2 (2 + k)).data.toList = true then (hexR (s.extract 2 (2 + k)).data.toList : Int) else -1 := by
  unfold cdI
  rw [drop_ext, show 2 + k - 2 = k by omega, size_list]
  by_cases hb : hexB ((s.data.toList.drop 2).take k) = true
  · rw [if_pos ⟨h, hb⟩, if_pos hb]; unfold hexR; rw [if_pos hb]
  · rw [if_neg (fun hc => hb hc.2), if_neg hb]
theorem cdI_short (l : List UInt8) (k n : Nat) (h : l.length < k + n) : cdI l k n = -1 := by unfold cdI; rw [if_neg (by omega)]
def dgOk (l : List UInt8) (c k : Nat) : Prop := bt l 0 = 92 ∧ bt l 1 = c ∧ 0 ≤ cdI l 2 k
def DigPost (l : List UInt8) (c k : Nat) (e : Ending) : Prop :=
  (dgOk l c k ∧ e = .returned (.tuple #[.int .i64 (cdI l 2 k), .int .i64 ((2 + k : Nat) : Int)])) ∨ (¬ dgOk l c k ∧ e = .returned (.tuple #[.int .i64 0, .int .i64 0]))
set_option maxRecDepth 100000 in
set_option maxHeartbeats 2000000 in
theorem dig_any (s : ByteArray) (c : UInt8) (k : Nat) (w : World) (hs : s.size ≤ maxLen) (hk : 1 ≤ k) (hk8 : k ≤ 8) :
    Calls Tryz.prog 142 #[.string s, .int .u8 (c.toNat : Int), .int .i64 (k : Int)] w fun e w' => DigPost s.data.toList c.toNat k e ∧ Below w.heap.size w w' := by
  have HS := hid hs
  unfold maxLen at hs
  have HZ := hid (size_list s)
  by_cases h1 : s.size < 2 + k
  · have HN := hid (show ¬ (dgOk s.data.toList c.toNat k) by
      rintro ⟨-, -, h⟩; rw [cdI_short _ _ _ (by rw [HZ.out]; exact h1)] at h; omega)
    go_enter Tryz.func142, Tryz.ntmps142
    go_wp2
    all_goals go_ret2
    all_goals exact ⟨Or.inr ⟨HN.out, rfl⟩, Below.refl _ _⟩
  · have B0 := hid (bt_at s 0 (by omega))
    have B1 := hid (bt_at s 1 (by omega))
    by_cases h2 : s[0].toNat = 92
    · by_cases h3 : s[1].toNat = c.toNat
      · have g2 : (s[0].toNat : Int) = 92 := by omega
        have g3 : ((s[1].toNat : Int) != (c.toNat : Int)) = false := by rw [bne_eq_false_iff_eq]; omega
        have HH := hid (fun X => hex_any (s.extract 2 (2 + k)) X (by have := HS.out; rw [ByteArray.size_extract]; omega))
        have HC := hid (cdI_of s k (by omega))
        obtain ⟨m, hm⟩ : ∃ m, s.extract 2 (2 + k) = m := ⟨_, rfl⟩
        rw [hm] at HH HC
        cases hb : hexB m.data.toList with
        | true =>
          have HV := hid (show cdI s.data.toList 2 k = (hexR m.data.toList : Int) by rw [HC.out, if_pos hb])
          have HY := hid (show dgOk s.data.toList c.toNat k by unfold dgOk; rw [B0.out, B1.out, HV.out]; exact ⟨h2, h3, by omega⟩)
          rw [hb] at HH
          clear hb HC h2 h3
          go_enter Tryz.func142, Tryz.ntmps142
          go_wp2_with (go_at_call 159; go_must (refine (HH.out _).mono ?_; rintro e w1 ⟨rfl, hb1⟩))
          all_goals go_ret2
          all_goals exact ⟨Or.inl ⟨HY.out, ret_two HV.out.symm (by omega)⟩, hb1⟩
        | false =>
          have HN := hid (show ¬ (dgOk s.data.toList c.toNat k) by
            rintro ⟨-, -, h⟩; rw [HC.out, if_neg (by rw [hb]; decide)] at h; omega)
          rw [hb] at HH
          clear hb HC h2 h3
          go_enter Tryz.func142, Tryz.ntmps142
          go_wp2_with (go_at_call 159; go_must (refine (HH.out _).mono ?_; rintro e w1 ⟨rfl, hb1⟩))
          all_goals go_ret2
          all_goals exact ⟨Or.inr ⟨HN.out, rfl⟩, hb1⟩
      · have HN := hid (show ¬ (dgOk s.data.toList c.toNat k) by
          rintro ⟨-, h, -⟩; rw [B1.out] at h; exact h3 h)
        have g2 : (s[0].toNat : Int) = 92 := by omega
        have g3 : ((s[1].toNat : Int) != (c.toNat : Int)) = true := by rw [bne_iff_ne]; omega
        clear h2 h3
        go_enter Tryz.func142, Tryz.ntmps142
        go_wp2
        all_goals go_ret2
        all_goals exact ⟨Or.inr ⟨HN.out, rfl⟩, Below.refl _ _⟩
    · have HN := hid (show ¬ (dgOk s.data.toList c.toNat k) by
        rintro ⟨h, -, -⟩; rw [B0.out] at h; exact h2 h)
      have g2 : ¬ (s[0].toNat : Int) = 92 := by omega
      clear h2
      go_enter Tryz.func142, Tryz.ntmps142
      go_wp2
      all_goals go_ret2
      all_goals exact ⟨Or.inr ⟨HN.out, rfl⟩, Below.refl _ _⟩
/-- a stroke and a name -/
def nmP (toml : Bool) (l : List UInt8) : List UInt8 × Nat := if nmV toml (bt l 1) < 256 then ([UInt8.ofNat (nmV toml (bt l 1))], 2) else ([], 0)
def nmIs (toml : Bool) (names said : ByteArray) : Prop := said.size = names.size ∧ names.size ≤ 8 ∧
  ∀ b : UInt8, (Lib.indexByte names.data.toList b = -1 ∧ nmV toml b.toNat = 256) ∨ (∃ i : Nat, Lib.indexByte names.data.toList b = i ∧ i < names.size ∧ nmV toml b.toNat < 256 ∧ said.extract i (i + 1) = mkS [UInt8.ofNat (nmV toml b.toNat)])
set_option maxRecDepth 100000 in
set_option maxHeartbeats 1000000 in
theorem named_any (toml : Bool) (s names said : ByteArray) (w : World) (hs : s.size ≤ maxLen) (hn : nmIs toml names said) :
    Calls Tryz.prog 143 #[.string s, .string names, .string said] w fun e w' => e = .returned (.tuple #[.string (mkS (nmP toml s.data.toList).1), .int .i64 ((nmP toml s.data.toList).2 : Nat)]) ∧ w' = w := by
  unfold maxLen at hs
  obtain ⟨hz, hz8, hi⟩ := hn
  by_cases h1 : s.size < 2
  · have HP := hid (show nmP toml s.data.toList = ([], 0) by
      unfold nmP; rw [bt_none (by rw [size_list]; omega)]
      have : nmV toml 256 = 256 := by unfold nmV; simp
      rw [if_neg (by rw [this]; omega)])
    go_enter Tryz.func143, Tryz.ntmps143
    go_wp2
    go_ret2
    exact ⟨ret_sn (by rw [HP.out]; rfl) (by rw [HP.out]; rfl), rfl⟩
  · have B1 := hid (bt_at s 1 (by omega))
    have HIX : Hid (∀ X, Calls Tryz.prog 57 #[.string names, .int .u8 (s[1].toNat : Int)] X fun e w' => e = .returned (.int .i64 (Lib.indexByte names.data.toList s[1])) ∧ w' = X) := fun X => by
      have := Tryz.strings_IndexByte names (s[1].toNat : Int) X
      have e : ((s[1].toNat : Int).toNat).toUInt8 = s[1] := by simp
      rw [e] at this; exact this
    rcases hi s[1] with ⟨h2, h3⟩ | ⟨i, h2, h4, h3, h5⟩
    · have HP := hid (show nmP toml s.data.toList = ([], 0) by unfold nmP; rw [B1.out, if_neg (by omega)])
      rw [h2] at HIX
      clear h2 h3 hi
      go_enter Tryz.func143, Tryz.ntmps143
      go_wp2_with (go_at_call 57; go_must (refine (HIX.out _).mono ?_; rintro e w1 ⟨rfl, rfl⟩))
      go_ret2
      exact ⟨ret_sn (by rw [HP.out]; rfl) (by rw [HP.out]; rfl), rfl⟩
    · have HP := hid (show nmP toml s.data.toList = ([UInt8.ofNat (nmV toml s[1].toNat)], 2) by unfold nmP; rw [B1.out, if_pos (by omega)])
      rw [h2] at HIX
      have H5 := hid h5
      clear h2 h3 hi h5
      go_enter Tryz.func143, Tryz.ntmps143
      go_wp2_with (go_at_call 57; go_must (refine (HIX.out _).mono ?_; rintro e w1 ⟨rfl, rfl⟩))
      go_ret2
      exact ⟨ret_sn (by rw [HP.out]; exact H5.out) (by rw [HP.out]; rfl), rfl⟩
end Go.Proofs.YtlapefhnbbcmmaaGreatDoor
namespace Go.Proofs.YtlapefhnbbcmmaaGreatDoor
open Go.RowKit

def nmT (toml : Bool) (names said : List UInt8) (n : Nat) : Bool :=
  (decide (Lib.indexByte names (UInt8.ofNat n) = -1) && decide (nmV toml n = 256)) ||
  (decide (0 ≤ Lib.indexByte names (UInt8.ofNat n)) && decide (Lib.indexByte names (UInt8.ofNat n) < 8) && decide (nmV toml n < 256) && decide (said[(Lib.indexByte names (UInt8.ofNat n)).toNat]? = some (UInt8.ofNat (nmV toml n))))
theorem nm_of (toml : Bool) (names said : ByteArray) (h8 : names.size = 8) (h8' : said.size = 8) (h : ∀ n < 256, nmT toml names.data.toList said.data.toList n = true) : nmIs toml names said := by
  refine ⟨by omega, by omega, fun b => ?_⟩
  have h1 := h b.toNat b.toNat_lt
  have e : UInt8.ofNat b.toNat = b := by simp
  unfold nmT at h1
  rw [e] at h1
  simp only [Bool.or_eq_true, Bool.and_eq_true, decide_eq_true_eq] at h1
  rcases h1 with h1 | ⟨⟨⟨h1, h2⟩, h3⟩, h4⟩
  · exact Or.inl h1
  · refine Or.inr ⟨(Lib.indexByte names.data.toList b).toNat, by omega, by omega, h3, ?_⟩
    refine mkS_of _ _ ?_
    rw [drop_ext, Nat.add_sub_cancel_left, List.take_one, List.head?_drop, h4]; rfl
set_option maxRecDepth 100000 in
theorem nm_toml : nmIs true ⟨#[34, 92, 98, 116, 110, 102, 114, 101]⟩ ⟨#[34, 92, 8, 9, 10, 12, 13, 27]⟩ := nm_of _ _ _ rfl rfl (by decide +kernel)
theorem cdI_drop (l : List UInt8) (i k n : Nat) (hn : 1 ≤ n) : cdI (l.drop i) k n = cdI l (i + k) n := by
  unfold cdI
  rw [List.drop_drop, List.length_drop]
  by_cases h : k + n ≤ l.length - i
  · by_cases hb : hexB ((l.drop (i + k)).take n) = true
    · rw [if_pos ⟨h, hb⟩, if_pos ⟨by omega, hb⟩]
    · rw [if_neg (fun hc => hb hc.2), if_neg (fun hc => hb hc.2)]
  · rw [if_neg (fun hc => h hc.1), if_neg (fun hc => h (by omega))]
theorem esc_u (toml : Bool) (l : List UInt8) (h1 : bt l 1 = 117) : escP toml l = escU toml l 4 := by
  unfold escP
  rw [h1]
  have : nmV toml 117 = 256 := by unfold nmV; simp
  rw [this, if_neg (by omega), if_neg (by omega), if_pos rfl]
theorem good_no {r : Int} (h : r < 0 ∨ 55296 ≤ r ∧ r ≤ 57343) : goodB r = false := by unfold goodB; exact decide_eq_false (by omega)
end Go.Proofs.YtlapefhnbbcmmaaGreatDoor
namespace Go.Proofs.YtlapefhnbbcmmaaGreatDoor
open Go.RowKit

theorem hp1 (l : List UInt8) (c : UInt8) : Lib.hasPrefix l [c] = decide (bt l 0 = c.toNat) := by
  have hc := c.toNat_lt
  unfold Lib.hasPrefix
  cases l with
  | nil => rw [bt_nil, decide_eq_false (by omega)]; rfl
  | cons a t =>
    rw [bt_cons, Bool.eq_iff_iff]; simp [List.isPrefixOf]
    rw [eq_comm, UInt8.toNat_inj]
theorem hp2 (l : List UInt8) (c d : UInt8) : Lib.hasPrefix l [c, d] = decide (bt l 0 = c.toNat ∧ bt l 1 = d.toNat) := by
  have hc := c.toNat_lt
  have h1 := hp1 (l.drop 1) d
  unfold Lib.hasPrefix at h1 ⊢
  cases l with
  | nil => rw [bt_nil, decide_eq_false (by omega)]; rfl
  | cons a t =>
    rw [List.drop_succ_cons, List.drop_zero] at h1
    rw [bt_cons, bt_succ, List.isPrefixOf, h1, Bool.eq_iff_iff]; simp
    intro _
    rw [eq_comm, UInt8.toNat_inj]
theorem hp3 (l : List UInt8) (c d f : UInt8) : Lib.hasPrefix l [c, d, f] = decide (bt l 0 = c.toNat ∧ bt l 1 = d.toNat ∧ bt l 2 = f.toNat) := by
  have hc := c.toNat_lt
  have h1 := hp2 (l.drop 1) d f
  unfold Lib.hasPrefix at h1 ⊢
  cases l with
  | nil => rw [bt_nil, decide_eq_false (by omega)]; rfl
  | cons a t =>
    rw [List.drop_succ_cons, List.drop_zero] at h1
    rw [bt_cons, bt_succ, bt_succ, List.isPrefixOf, h1, Bool.eq_iff_iff]; simp
    intro _ _
    rw [eq_comm, UInt8.toNat_inj]
/-- what a piece's function owes -/
def PieceOf (f : FuncId) (P : List UInt8 → List UInt8 × Nat) : Prop := ∀ (s : ByteArray) (w : World), s.size ≤ maxLen → 0 < s.size →
  Calls Tryz.prog f #[.string s] w fun e w' => e = .returned (.tuple #[.string (mkS (P s.data.toList).1), .int .i64 ((P s.data.toList).2 : Nat)]) ∧ Below w.heap.size w w'
theorem esc_nmT (l : List UInt8) (h : bt l 1 ≠ 117) (h2 : bt l 1 ≠ 85) : escP true l = nmP true l := by
  unfold escP nmP
  by_cases h1 : nmV true (bt l 1) < 256
  · rw [if_pos h1, if_pos h1]
  · rw [if_neg h1, if_neg h1, if_neg (fun hc => h2 hc.1), if_neg h]
set_option maxRecDepth 100000 in
set_option maxHeartbeats 1000000 in
theorem line_any (s : ByteArray) (w : World) : Calls Tryz.prog 89 #[.string s] w fun e w' => e = .returned (.int .i64 (lnE s.data.toList : Nat)) ∧ w' = w := by
  have H1 : Hid (∀ X, Calls Tryz.prog 45 #[.string s, .string ⟨#[10]⟩] X fun e w' => e = .returned (.bool (decide (bt s.data.toList 0 = 10))) ∧ w' = X) := fun X => by
    have := Tryz.strings_HasPrefix s ⟨#[10]⟩ X
    rw [show (⟨#[10]⟩ : ByteArray).data.toList = [10] from rfl, hp1] at this; exact this
  have H2 : Hid (∀ X, Calls Tryz.prog 45 #[.string s, .string ⟨#[13, 10]⟩] X fun e w' => e = .returned (.bool (decide (bt s.data.toList 0 = 13 ∧ bt s.data.toList 1 = 10))) ∧ w' = X) := fun X => by
    have := Tryz.strings_HasPrefix s ⟨#[13, 10]⟩ X
    rw [show (⟨#[13, 10]⟩ : ByteArray).data.toList = [13, 10] from rfl, hp2] at this; exact this
  by_cases h1 : bt s.data.toList 0 = 10
  · rw [decide_eq_true h1] at H1
    have HE := hid (show lnE s.data.toList = 1 by unfold lnE; rw [if_pos h1])
    clear H2 h1
    go_enter Tryz.func89, Tryz.ntmps89
    go_wp2_with (go_at_call 45; go_must (refine (H1.out _).mono ?_; rintro e w1 ⟨rfl, rfl⟩))
    go_ret
    exact ⟨ret_int (by rw [HE.out]; rfl), rfl⟩
  · rw [decide_eq_false h1] at H1
    by_cases h2 : bt s.data.toList 0 = 13 ∧ bt s.data.toList 1 = 10
    · rw [decide_eq_true h2] at H2
      have HE := hid (show lnE s.data.toList = 2 by unfold lnE; rw [if_neg h1, if_pos h2])
      clear h1 h2
      go_enter Tryz.func89, Tryz.ntmps89
      go_wp2_with (go_at_call 45; go_must (first | ((with_reducible refine (H2.out _).mono ?_); rintro e w1 ⟨rfl, rfl⟩) | ((with_reducible refine (H1.out _).mono ?_); rintro e w1 ⟨rfl, rfl⟩)))
      go_ret
      exact ⟨ret_int (by rw [HE.out]; rfl), rfl⟩
    · rw [decide_eq_false h2] at H2
      have HE := hid (show lnE s.data.toList = 0 by unfold lnE; rw [if_neg h1, if_neg h2])
      clear h1 h2
      go_enter Tryz.func89, Tryz.ntmps89
      go_wp2_with (go_at_call 45; go_must (first | ((with_reducible refine (H2.out _).mono ?_); rintro e w1 ⟨rfl, rfl⟩) | ((with_reducible refine (H1.out _).mono ?_); rintro e w1 ⟨rfl, rfl⟩)))
      go_ret
      exact ⟨ret_int (by rw [HE.out]; rfl), rfl⟩
set_option maxRecDepth 100000 in
set_option maxHeartbeats 1000000 in
theorem oplain_any : PieceOf 95 opP := by
  intro s w hs h0
  have HS := hid hs
  unfold maxLen at hs
  have B0 := hid (bt_at s 0 h0)
  have HPL := hid (fun X => plain_any s X HS.out)
  by_cases hb : s[0].toNat < 32 ∧ s[0].toNat ≠ 9 ∨ s[0].toNat = 127
  · have HE := hid (show opP s.data.toList = ([], 0) by unfold opP; rw [B0.out, if_pos hb])
    have hb' : ((s[0].toNat : Int) < 32 ∧ ¬ (s[0].toNat : Int) = 9) ∨ (s[0].toNat : Int) = 127 := by omega
    clear hb
    rcases hb' with ⟨g1, g2⟩ | g1
    all_goals
      go_enter Tryz.func95, Tryz.ntmps95
      go_wp2
      go_ret2
      exact ⟨ret_sn (by rw [HE.out]; rfl) (by rw [HE.out]; rfl), Below.refl _ _⟩
  · have HE := hid (show opP s.data.toList = plP s.data.toList by unfold opP; rw [B0.out, if_neg hb])
    have hb' : ((s[0].toNat : Int) = 9) ∨ (¬ (s[0].toNat : Int) < 32 ∧ ¬ (s[0].toNat : Int) = 127) := by omega
    clear hb
    rcases hb' with g1 | ⟨g1, g2⟩
    all_goals
      go_enter Tryz.func95, Tryz.ntmps95
      go_wp2_with (go_at_call 122; go_must (refine (HPL.out _).mono ?_; rintro e w2 ⟨rfl, rfl⟩))
      go_ret2
      exact ⟨ret_sn (by rw [HE.out]) (by rw [HE.out]), Below.refl _ _⟩
theorem lnE_le (l : List UInt8) : lnE l ≤ l.length ∧ lnE l ≤ 2 := by
  unfold lnE
  split
  · next h => have := bt_lt (l := l) (k := 0) (by omega); omega
  · split
    · next h => have := bt_lt (l := l) (k := 1) (by omega); omega
    · omega
set_option maxRecDepth 100000 in
set_option maxHeartbeats 1000000 in
theorem mplain_any : PieceOf 92 mpP := by
  intro s w hs h0
  have HO := hid (fun X => oplain_any s X hs h0)
  unfold maxLen at hs
  have hl := lnE_le s.data.toList
  rw [size_list] at hl
  obtain ⟨hl1, hl2⟩ := hl
  have HL := hid (fun X => line_any s X)
  by_cases hn : 0 < lnE s.data.toList
  · have HE := hid (show mpP s.data.toList = (s.data.toList.take (lnE s.data.toList), lnE s.data.toList) by unfold mpP; rw [if_pos hn])
    have HT := hid (take_ext s (lnE s.data.toList))
    generalize lnE s.data.toList = n at *
    go_enter Tryz.func92, Tryz.ntmps92
    go_wp2_with (go_at_call 89; go_must (refine (HL.out _).mono ?_; rintro e w2 ⟨rfl, rfl⟩))
    go_ret2
    exact ⟨ret_sn (by rw [HE.out]; exact HT.out) (by rw [HE.out]), Below.refl _ _⟩
  · have HE := hid (show mpP s.data.toList = opP s.data.toList by unfold mpP; rw [if_neg hn])
    have h0' : lnE s.data.toList = 0 := by omega
    rw [h0'] at HL
    clear hn hl1 hl2 h0'
    go_enter Tryz.func92, Tryz.ntmps92
    go_wp2_with (first
      | (go_at_call 89; go_must (refine (HL.out _).mono ?_; rintro e w2 ⟨rfl, rfl⟩))
      | (go_at_call 95; go_must (refine (HO.out _).mono ?_; rintro e w3 ⟨rfl, hb3⟩)))
    go_ret2
    exact ⟨ret_sn (by rw [HE.out]) (by rw [HE.out]), hb3⟩
end Go.Proofs.YtlapefhnbbcmmaaGreatDoor
namespace Go.Proofs.YtlapefhnbbcmmaaGreatDoor
open Go.RowKit

theorem esc_U (l : List UInt8) (h1 : bt l 1 = 85) : escP true l = escU true l 8 := by
  unfold escP
  rw [h1]
  have : nmV true 85 = 256 := by unfold nmV; simp
  rw [this, if_neg (by omega), if_pos ⟨rfl, rfl⟩]
theorem escT_good {l : List UInt8} {n : Nat} (h0 : 0 ≤ cdI l 2 n) (h : goodB (cdI l 2 n) = true) : escU true l n = (ltr (cdI l 2 n), 2 + n) := by unfold escU; rw [if_pos ⟨h0, h⟩]
theorem escT_bad {l : List UInt8} {n : Nat} (h : goodB (cdI l 2 n) = false) : escU true l n = ([], 0) := by unfold escU; rw [if_neg (by rw [h]; simp), if_neg (by simp)]
theorem nm_none (toml : Bool) (l : List UInt8) (h : bt l 1 = 117 ∨ bt l 1 = 85) : nmP toml l = ([], 0) := by
  unfold nmP
  have : nmV toml (bt l 1) = 256 := by rcases h with h | h <;> rw [h] <;> (unfold nmV; simp)
  rw [this, if_neg (by omega)]
/-- what tomlEscape's two looks for digits find -/
theorem dig_no {l : List UInt8} {c k : Nat} {e : Ending} (h : DigPost l c k e) (hn : ¬ dgOk l c k) : e = .returned (.tuple #[.int .i64 0, .int .i64 0]) := by
  rcases h with ⟨h, -⟩ | ⟨-, h⟩
  · exact absurd h hn
  · exact h
theorem dig_yes {l : List UInt8} {c k : Nat} {e : Ending} (h : DigPost l c k e) (hn : dgOk l c k) : e = .returned (.tuple #[.int .i64 (cdI l 2 k), .int .i64 ((2 + k : Nat) : Int)]) := by
  rcases h with ⟨-, h⟩ | ⟨h, -⟩
  · exact h
  · exact absurd hn h
set_option maxRecDepth 100000 in
set_option maxHeartbeats 2000000 in
theorem tesc_any (s : ByteArray) (w : World) (hs : s.size ≤ maxLen) (h92 : bt s.data.toList 0 = 92) :
    Calls Tryz.prog 120 #[.string s] w fun e w' => e = .returned (.tuple #[.string (mkS (escP true s.data.toList).1), .int .i64 ((escP true s.data.toList).2 : Nat)]) ∧ Below w.heap.size w w' := by
  have HD4 : Hid (∀ X, Calls Tryz.prog 142 #[.string s, .int .u8 117, .int .i64 4] X fun e w' => DigPost s.data.toList 117 4 e ∧ Below X.heap.size X w') := fun X => dig_any s 117 4 X hs (by omega) (by omega)
  have HD8 : Hid (∀ X, Calls Tryz.prog 142 #[.string s, .int .u8 85, .int .i64 8] X fun e w' => DigPost s.data.toList 85 8 e ∧ Below X.heap.size X w') := fun X => dig_any s 85 8 X hs (by omega) (by omega)
  have HN := hid (fun X => named_any true s ⟨#[34, 92, 98, 116, 110, 102, 114, 101]⟩ ⟨#[34, 92, 8, 9, 10, 12, 13, 27]⟩ X hs nm_toml)
  have hv1 := cdI_lt s.data.toList 2 4
  have hv2 := cdI_lt s.data.toList 2 8
  unfold maxLen at hs
  by_cases k4 : dgOk s.data.toList 117 4
  · have h117 : bt s.data.toList 1 = 117 := k4.2.1
    have hv0 : 0 ≤ cdI s.data.toList 2 4 := k4.2.2
    have HD : Hid (∀ X, Calls Tryz.prog 142 #[.string s, .int .u8 117, .int .i64 4] X fun e w' => e = .returned (.tuple #[.int .i64 (cdI s.data.toList 2 4), .int .i64 6]) ∧ Below X.heap.size X w') := fun X => (HD4.out X).mono fun e w' ⟨h, hb⟩ => ⟨dig_yes h k4, hb⟩
    have HE := hid (esc_u true _ h117)
    clear HD4 HD8 HN k4
    cases hg : goodB (cdI s.data.toList 2 4) with
    | true =>
      have HR := hid (HE.out.trans (escT_good hv0 hg))
      have HG := hid (fun X => good_any (cdI s.data.toList 2 4) X)
      rw [hg] at HG
      clear HE hg h92 h117
      generalize escP true s.data.toList = R at HR ⊢
      generalize cdI s.data.toList 2 4 = v at *
      go_enter Tryz.func120, Tryz.ntmps120
      go_wp2_with (first
        | (go_at_call 142; go_must ((with_reducible refine (HD.out _).mono ?_); rintro e w1 ⟨rfl, hb1⟩))
        | (go_at_call 144; go_must (refine (HG.out _).mono ?_; rintro e w2 ⟨rfl, rfl⟩))
        | (go_at_call 145; go_must (refine (letter_any _ _).mono ?_; rintro e w3 ⟨rfl, hb3⟩)))
      go_ret2
      exact ⟨ret_sn (by rw [HR.out]) (by rw [HR.out]; rfl), eonto hb1 hb3⟩
    | false =>
      have HR := hid (HE.out.trans (escT_bad hg))
      have HG := hid (fun X => good_any (cdI s.data.toList 2 4) X)
      rw [hg] at HG
      clear HE hg h92 h117
      generalize escP true s.data.toList = R at HR ⊢
      generalize cdI s.data.toList 2 4 = v at *
      go_enter Tryz.func120, Tryz.ntmps120
      go_wp2_with (first
        | (go_at_call 142; go_must ((with_reducible refine (HD.out _).mono ?_); rintro e w1 ⟨rfl, hb1⟩))
        | (go_at_call 144; go_must (refine (HG.out _).mono ?_; rintro e w2 ⟨rfl, rfl⟩)))
      go_ret2
      exact ⟨ret_sn (by rw [HR.out]; rfl) (by rw [HR.out]; rfl), hb1⟩
  · have HD : Hid (∀ X, Calls Tryz.prog 142 #[.string s, .int .u8 117, .int .i64 4] X fun e w' => e = .returned (.tuple #[.int .i64 0, .int .i64 0]) ∧ Below X.heap.size X w') := fun X => (HD4.out X).mono fun e w' ⟨h, hb⟩ => ⟨dig_no h k4, hb⟩
    clear HD4
    by_cases k8 : dgOk s.data.toList 85 8
    · have h85 : bt s.data.toList 1 = 85 := k8.2.1
      have hv0 : 0 ≤ cdI s.data.toList 2 8 := k8.2.2
      have HDD : Hid (∀ X, Calls Tryz.prog 142 #[.string s, .int .u8 85, .int .i64 8] X fun e w' => e = .returned (.tuple #[.int .i64 (cdI s.data.toList 2 8), .int .i64 10]) ∧ Below X.heap.size X w') := fun X => (HD8.out X).mono fun e w' ⟨h, hb⟩ => ⟨dig_yes h k8, hb⟩
      have HE := hid (esc_U _ h85)
      clear HD8 HN k8 k4
      cases hg : goodB (cdI s.data.toList 2 8) with
      | true =>
        have HR := hid (HE.out.trans (escT_good hv0 hg))
        have HG := hid (fun X => good_any (cdI s.data.toList 2 8) X)
        rw [hg] at HG
        clear HE hg h92 h85
        generalize escP true s.data.toList = R at HR ⊢
        generalize cdI s.data.toList 2 8 = v at *
        go_enter Tryz.func120, Tryz.ntmps120
        go_wp2_with (first
          | (go_at_call 142; go_must (first | ((with_reducible refine (HDD.out _).mono ?_); rintro e w2 ⟨rfl, hb2⟩) | ((with_reducible refine (HD.out _).mono ?_); rintro e w1 ⟨rfl, hb1⟩)))
          | (go_at_call 144; go_must (refine (HG.out _).mono ?_; rintro e w3 ⟨rfl, rfl⟩))
          | (go_at_call 145; go_must (refine (letter_any _ _).mono ?_; rintro e w3 ⟨rfl, hb3⟩)))
        go_ret2
        exact ⟨ret_sn (by rw [HR.out]) (by rw [HR.out]; rfl), eonto (eonto hb1 hb2) hb3⟩
      | false =>
        have HR := hid (HE.out.trans (escT_bad hg))
        have HG := hid (fun X => good_any (cdI s.data.toList 2 8) X)
        rw [hg] at HG
        clear HE hg h92 h85
        generalize escP true s.data.toList = R at HR ⊢
        generalize cdI s.data.toList 2 8 = v at *
        go_enter Tryz.func120, Tryz.ntmps120
        go_wp2_with (first
          | (go_at_call 142; go_must (first | ((with_reducible refine (HDD.out _).mono ?_); rintro e w2 ⟨rfl, hb2⟩) | ((with_reducible refine (HD.out _).mono ?_); rintro e w1 ⟨rfl, hb1⟩)))
          | (go_at_call 144; go_must (refine (HG.out _).mono ?_; rintro e w3 ⟨rfl, rfl⟩)))
        go_ret2
        exact ⟨ret_sn (by rw [HR.out]; rfl) (by rw [HR.out]; rfl), eonto hb1 hb2⟩
    · have HDD : Hid (∀ X, Calls Tryz.prog 142 #[.string s, .int .u8 85, .int .i64 8] X fun e w' => e = .returned (.tuple #[.int .i64 0, .int .i64 0]) ∧ Below X.heap.size X w') := fun X => (HD8.out X).mono fun e w' ⟨h, hb⟩ => ⟨dig_no h k8, hb⟩
      have HR := hid (show escP true s.data.toList = nmP true s.data.toList by
        by_cases h117 : bt s.data.toList 1 = 117
        · rw [nm_none _ _ (Or.inl h117), esc_u _ _ h117]
          refine escT_bad (good_no (Or.inl ?_))
          by_cases hc : cdI s.data.toList 2 4 < 0
          · exact hc
          · exact absurd ⟨h92, h117, by omega⟩ k4
        · by_cases h85 : bt s.data.toList 1 = 85
          · rw [nm_none _ _ (Or.inr h85), esc_U _ h85]
            refine escT_bad (good_no (Or.inl ?_))
            by_cases hc : cdI s.data.toList 2 8 < 0
            · exact hc
            · exact absurd ⟨h92, h85, by omega⟩ k8
          · exact esc_nmT _ h117 h85)
      clear HD8 k4 k8 hv1 hv2 h92
      generalize escP true s.data.toList = R at HR ⊢
      go_enter Tryz.func120, Tryz.ntmps120
      go_wp2_with (first
        | (go_at_call 142; go_must (first | ((with_reducible refine (HDD.out _).mono ?_); rintro e w2 ⟨rfl, hb2⟩) | ((with_reducible refine (HD.out _).mono ?_); rintro e w1 ⟨rfl, hb1⟩)))
        | (go_at_call 143; go_must (refine (HN.out _).mono ?_; rintro e w3 ⟨rfl, rfl⟩)))
      go_ret2
      exact ⟨ret_sn (by rw [HR.out]) (by rw [HR.out]), eonto hb1 hb2⟩
set_option maxRecDepth 100000 in
set_option maxHeartbeats 1000000 in
theorem oescaped_any : PieceOf 94 oeP := by
  intro s w hs h0
  have HO := hid (fun X => oplain_any s X hs h0)
  have HT := hid (fun X h => tesc_any s X hs h)
  unfold maxLen at hs
  have B0 := hid (bt_at s 0 h0)
  by_cases h92 : s[0].toNat = 92
  · have HE := hid (show oeP s.data.toList = escP true s.data.toList by unfold oeP; rw [if_pos (by rw [B0.out]; exact h92)])
    have HTT := hid (fun X => HT.out X (by rw [B0.out]; exact h92))
    have g : (s[0].toNat : Int) = 92 := by omega
    clear h92 HT HO
    go_enter Tryz.func94, Tryz.ntmps94
    go_wp2_with (go_at_call 120; go_must (refine (HTT.out _).mono ?_; rintro e w2 ⟨rfl, hb2⟩))
    go_ret2
    exact ⟨ret_sn (by rw [HE.out]) (by rw [HE.out]), hb2⟩
  · have HE := hid (show oeP s.data.toList = opP s.data.toList by unfold oeP; rw [if_neg (by rw [B0.out]; exact h92)])
    have g : ¬ (s[0].toNat : Int) = 92 := by omega
    clear h92 HT
    go_enter Tryz.func94, Tryz.ntmps94
    go_wp2_with (go_at_call 95; go_must (refine (HO.out _).mono ?_; rintro e w2 ⟨rfl, hb2⟩))
    go_ret2
    exact ⟨ret_sn (by rw [HE.out]) (by rw [HE.out]), hb2⟩
theorem dropW (p : UInt8 → Bool) (l : List UInt8) : l.dropWhile p = l.drop (run p l) := by
  unfold run
  induction l with
  | nil => rfl
  | cons a t ih =>
    rw [List.dropWhile_cons, List.takeWhile_cons]
    by_cases h : p a = true
    · rw [if_pos h, if_pos h, ih]; rfl
    · rw [if_neg h, if_neg h]; rfl
theorem run_leE (p : UInt8 → Bool) (l : List UInt8) : run p l ≤ l.length := by
  unfold run
  exact (List.takeWhile_prefix p).length_le
theorem bk_in : (fun b => ([32, 9] : List UInt8).contains b) = bkB := by
  funext b
  unfold bkB
  rw [Bool.eq_iff_iff]
  simp [← UInt8.toNat_inj]
theorem bl_in : (fun b => ([32, 9, 13, 10] : List UInt8).contains b) = blB := by
  funext b
  unfold blB
  rw [Bool.eq_iff_iff]
  simp [← UInt8.toNat_inj]
  omega
theorem Tryz.trimL (s cs : ByteArray) (w : World) (h : cs.size ≤ 4) (ha : ∀ (j : Nat) b, cs.data.toList[j]? = some b → b.toNat < 128) :
    Calls Tryz.prog 60 #[.string s, .string cs] w fun e w' => e = .returned (.string (mkS (Lib.trimLeftS s.data.toList cs.data.toList))) ∧ Below w.heap.size w w' :=
  Any.strings_TrimLeft_laid Tryz.lays161 (by kernel_rfl) s cs w (by omega) ha
set_option maxRecDepth 100000 in
set_option maxHeartbeats 1000000 in
theorem folded_any (s : ByteArray) (w : World) (hs : s.size ≤ maxLen) (h0 : 0 < s.size) :
    Calls Tryz.prog 119 #[.string s] w fun e w' => e = .returned (.int .i64 (fdN s.data.toList : Nat)) ∧ Below w.heap.size w w' := by
  unfold maxLen at hs
  obtain ⟨u, hu⟩ : ∃ u, s.extract 1 s.size = u := ⟨_, rfl⟩
  have hul : u.data.toList = s.data.toList.drop 1 := by rw [← hu, drop_list]
  obtain ⟨x, hx⟩ : ∃ x, mkS ((s.data.toList.drop 1).drop (run bkB (s.data.toList.drop 1))) = x := ⟨_, rfl⟩
  have hxl : x.data.toList = (s.data.toList.drop 1).drop (run bkB (s.data.toList.drop 1)) := by rw [← hx, mkS_list]
  obtain ⟨y, hy⟩ : ∃ y, mkS (x.data.toList.drop (run blB x.data.toList)) = y := ⟨_, rfl⟩
  have HT1 : Hid (∀ X, Calls Tryz.prog 60 #[.string u, .string ⟨#[32, 9]⟩] X fun e w' => e = .returned (.string x) ∧ Below X.heap.size X w') := fun X => by
    have := Tryz.trimL u ⟨#[32, 9]⟩ X (by decide) (by intro j b h; match j, h with | 0, h => cases h; decide | 1, h => cases h; decide | j + 2, h => simp at h)
    rw [show (⟨#[32, 9]⟩ : ByteArray).data.toList = [32, 9] from rfl, Lib.trimLeftS, bk_in, dropW, hul, hx] at this; exact this
  have HT2 : Hid (∀ X, Calls Tryz.prog 60 #[.string x, .string ⟨#[32, 9, 13, 10]⟩] X fun e w' => e = .returned (.string y) ∧ Below X.heap.size X w') := fun X => by
    have := Tryz.trimL x ⟨#[32, 9, 13, 10]⟩ X (by decide) (by intro j b h; match j, h with | 0, h => cases h; decide | 1, h => cases h; decide | 2, h => cases h; decide | 3, h => cases h; decide | j + 4, h => simp at h)
    rw [show (⟨#[32, 9, 13, 10]⟩ : ByteArray).data.toList = [32, 9, 13, 10] from rfl, Lib.trimLeftS, bl_in, dropW, hy] at this; exact this
  have HL := hid (fun X => line_any x X)
  have hxs : x.size = s.size - 1 - run bkB (s.data.toList.drop 1) := by rw [← size_list, hxl, List.length_drop, List.length_drop, size_list]
  have hys : y.size = x.size - run blB x.data.toList := by rw [← size_list, ← hy, mkS_list, List.length_drop, size_list]
  have hr1 := run_leE bkB (s.data.toList.drop 1)
  have hr2 := run_leE blB x.data.toList
  have HF := hid (show fdN s.data.toList = if lnE x.data.toList = 0 then 0 else 1 + run bkB (s.data.toList.drop 1) + run blB x.data.toList by unfold fdN; rw [hxl])
  rw [size_list] at hr2
  rw [List.length_drop, size_list] at hr1
  clear hxl hul hx hy
  generalize run bkB (s.data.toList.drop 1) = a at *
  generalize run blB x.data.toList = b at *
  have HSZ := hid (show lnE x.data.toList ≠ 0 → (fdN s.data.toList : Int) = (s.size : Int) - (y.size : Int) by
    intro h; rw [HF.out, if_neg h]; omega)
  have hyle : y.size ≤ s.size := by omega
  have HZ := hid (show lnE x.data.toList = 0 → fdN s.data.toList = 0 by intro h; rw [HF.out, if_pos h])
  clear HF hxs hys hr1 hr2
  generalize fdN s.data.toList = F at *
  generalize lnE x.data.toList = n at *
  by_cases hn : n = 0
  · have HZ0 := hid (HZ.out hn)
    subst hn
    clear HSZ HZ
    go_enter Tryz.func119, Tryz.ntmps119
    go_wp2_with (first
      | (go_at_call 60; go_must (first | ((with_reducible refine (HT2.out _).mono ?_); rintro e w3 ⟨rfl, hb3⟩) | ((with_reducible refine (HT1.out _).mono ?_); rintro e w1 ⟨rfl, hb1⟩)))
      | (go_at_call 89; go_must (refine (HL.out _).mono ?_; rintro e w2 ⟨rfl, rfl⟩)))
    go_ret
    exact ⟨ret_int (by rw [HZ0.out]; rfl), hb1⟩
  · have HZ0 := hid (HSZ.out hn)
    have hn' : ((n : Int) == 0) = false := by rw [beq_eq_false_iff_ne]; omega
    clear HSZ HZ hn
    go_enter Tryz.func119, Tryz.ntmps119
    go_wp2_with (first
      | (go_at_call 60; go_must (first | ((with_reducible refine (HT2.out _).mono ?_); rintro e w3 ⟨rfl, hb3⟩) | ((with_reducible refine (HT1.out _).mono ?_); rintro e w1 ⟨rfl, hb1⟩)))
      | (go_at_call 89; go_must (refine (HL.out _).mono ?_; rintro e w2 ⟨rfl, rfl⟩)))
    go_ret
    exact ⟨ret_int (by rw [HZ0.out]), eonto hb1 hb3⟩
set_option maxRecDepth 100000 in
set_option maxHeartbeats 1000000 in
theorem mescaped_any : PieceOf 91 meP := by
  intro s w hs h0
  have HO := hid (fun X => mplain_any s X hs h0)
  have HT := hid (fun X h => tesc_any s X hs h)
  have HF := hid (fun X => folded_any s X hs h0)
  unfold maxLen at hs
  have B0 := hid (bt_at s 0 h0)
  by_cases h92 : s[0].toNat = 92
  · have HTT := hid (fun X => HT.out X (by rw [B0.out]; exact h92))
    have g : (s[0].toNat : Int) = 92 := by omega
    by_cases hn : 0 < fdN s.data.toList
    · have HE := hid (show meP s.data.toList = ([], fdN s.data.toList) by unfold meP; rw [if_pos (by rw [B0.out]; exact h92), if_pos hn])
      clear h92 HT HO HTT
      generalize fdN s.data.toList = n at *
      go_enter Tryz.func91, Tryz.ntmps91
      go_wp2_with (go_at_call 119; go_must (refine (HF.out _).mono ?_; rintro e w2 ⟨rfl, hb2⟩))
      go_ret2
      exact ⟨ret_sn (by rw [HE.out]; rfl) (by rw [HE.out]), hb2⟩
    · have HE := hid (show meP s.data.toList = escP true s.data.toList by unfold meP; rw [if_pos (by rw [B0.out]; exact h92), if_neg hn])
      have hn0 : fdN s.data.toList = 0 := by omega
      rw [hn0] at HF
      clear h92 HT HO hn hn0
      go_enter Tryz.func91, Tryz.ntmps91
      go_wp2_with (first
        | (go_at_call 119; go_must (refine (HF.out _).mono ?_; rintro e w2 ⟨rfl, hb2⟩))
        | (go_at_call 120; go_must (refine (HTT.out _).mono ?_; rintro e w3 ⟨rfl, hb3⟩)))
      go_ret2
      exact ⟨ret_sn (by rw [HE.out]) (by rw [HE.out]), eonto hb2 hb3⟩
  · have HE := hid (show meP s.data.toList = mpP s.data.toList by unfold meP; rw [if_neg (by rw [B0.out]; exact h92)])
    have g : ¬ (s[0].toNat : Int) = 92 := by omega
    clear h92 HT HF
    go_enter Tryz.func91, Tryz.ntmps91
    go_wp2_with (go_at_call 92; go_must (refine (HO.out _).mono ?_; rintro e w2 ⟨rfl, hb2⟩))
    go_ret2
    exact ⟨ret_sn (by rw [HE.out]) (by rw [HE.out]), hb2⟩
end Go.Proofs.YtlapefhnbbcmmaaGreatDoor
namespace Go.Proofs.YtlapefhnbbcmmaaGreatDoor
open Go.RowKit

/-- a row of bytes that is owned, read as a text -/
theorem conv_own (w : World) (base : Nat) (v : Value) (l : List UInt8) (h : w.ownsRow base 5 1 v l.length (Lib.strCells (mkS l))) :
    (convert 93 9 v).run Tryz.prog w = .ok (.string (mkS l)) w := by
  have h' := h
  rcases h' with ⟨-, ⟨rfl, hn⟩ | ⟨g, cap, cur, rfl, -⟩⟩
  · obtain rfl : l = [] := List.length_eq_zero_iff.1 hn
    exact run_convert_bytes_nil w 93 5 Tryz.underlying93 Tryz.underlying5 0 0 9 Tryz.underlying9
  · refine run_convert_bytes_back w 93 9 5 ⟨g, 0, none⟩ cap l Tryz.underlying93 Tryz.underlying5 Tryz.underlying9 (fun j hj => ?_)
    refine h.cells (g := g) rfl j _ ?_
    unfold Lib.strCells
    rw [mkS_list, List.getElem?_map, List.getElem?_eq_getElem hj]; rfl
theorem strCells_app (a b : List UInt8) : Lib.strCells (mkS (a ++ b)) = Lib.strCells (mkS a) ++ Lib.strCells (mkS b) := by
  unfold Lib.strCells; rw [mkS_list, mkS_list, mkS_list, List.map_append]
/-- what an end's function owes, in the worlds above one -/
def EndOf (w : World) (f : FuncId) (b : Nat) (E : List UInt8 → List UInt8 × Nat) : Prop := ∀ (s : ByteArray) (X : World), Below w.heap.size w X → s.size ≤ maxLen → 0 < s.size →
  Calls Tryz.prog f #[.string s, .pointer (some ⟨b, 0, none⟩)] X fun e w' => e = .returned (.tuple #[.string (mkS (E s.data.toList).1), .int .i64 ((E s.data.toList).2 : Nat)]) ∧ Below X.heap.size X w'
theorem drewN_below (w : World) (n : Nat) : Below w.heap.size w (w.drewN n) := by
  induction n with
  | zero => exact Below.refl _ _
  | succ n ih => exact ih.drew
set_option maxRecDepth 100000 in
set_option maxHeartbeats 1000000 in
theorem oend1_any (q : UInt8) (b : Nat) (s : ByteArray) (w : World) (h0 : 0 < s.size) (hc : w.cell? ⟨b, 0, none⟩ = some (.int .u8 (q.toNat : Int))) :
    Calls Tryz.prog 121 #[.string s, .pointer (some ⟨b, 0, none⟩)] w fun e w' => e = .returned (.tuple #[.string (mkS (oE q.toNat s.data.toList).1), .int .i64 ((oE q.toNat s.data.toList).2 : Nat)]) ∧ Below w.heap.size w w' := by
  have B0 := hid (bt_at s 0 h0)
  by_cases hq : s[0].toNat = q.toNat
  · have HE := hid (show oE q.toNat s.data.toList = ([], 1) by unfold oE; rw [B0.out, if_pos hq])
    have g : ((s[0].toNat : Int) != (q.toNat : Int)) = false := by rw [bne_eq_false_iff_eq]; omega
    clear hq
    go_enter Tryz.func121, Tryz.ntmps121
    go_wp2
    go_quiet (fail)
    go_wp2
    go_ret2
    exact ⟨ret_sn (by rw [HE.out]; rfl) (by rw [HE.out]; rfl), drewN_below _ _⟩
  · have HE := hid (show oE q.toNat s.data.toList = ([], 0) by unfold oE; rw [B0.out, if_neg hq])
    have g : ((s[0].toNat : Int) != (q.toNat : Int)) = true := by rw [bne_iff_ne]; omega
    clear hq
    go_enter Tryz.func121, Tryz.ntmps121
    go_wp2
    go_quiet (fail)
    go_wp2
    go_ret2
    exact ⟨ret_sn (by rw [HE.out]; rfl) (by rw [HE.out]; rfl), drewN_below _ _⟩
theorem qN_le (q : Nat) (l : List UInt8) : qN q l ≤ 5 ∧ qN q l ≤ l.length := by
  unfold qN
  have := run_leE (fun b => decide (b.toNat = q)) (l.take 5)
  rw [List.length_take] at this
  omega
theorem run_eq (p : UInt8 → Bool) (l : List UInt8) (n : Nat) (h1 : ∀ j, j < n → ∃ b, l[j]? = some b ∧ p b = true) (h2 : ∀ b, l[n]? = some b → p b = false) : run p l = n := by
  induction l generalizing n with
  | nil =>
    cases n with
    | zero => rfl
    | succ n => obtain ⟨b, hb, -⟩ := h1 0 (by omega); simp at hb
  | cons a t ih =>
    cases n with
    | zero =>
      have := h2 a rfl
      unfold run; rw [List.takeWhile_cons, this]; rfl
    | succ n =>
      obtain ⟨b, hb, hp⟩ := h1 0 (by omega)
      obtain rfl : a = b := by simpa using hb
      have := ih n (fun j hj => by simpa using h1 (j + 1) (by omega)) (fun b hb => h2 b (by simpa using hb))
      unfold run at this ⊢
      rw [List.takeWhile_cons, if_pos hp, List.length_cons, this]
theorem qN_eq (q : Nat) (l : List UInt8) (n : Nat) (hn : n ≤ 5) (h1 : ∀ j, j < n → bt l j = q) (hq : q < 256) (h2 : n < 5 → bt l n ≠ q) : qN q l = n := by
  unfold qN
  refine run_eq _ _ n (fun j hj => ?_) (fun b hb => ?_)
  · have hlt : j < l.length := bt_lt (by rw [h1 j hj]; exact hq)
    refine ⟨l[j], ?_, ?_⟩
    · rw [List.getElem?_take_of_lt (by omega), List.getElem?_eq_getElem hlt]
    · have := h1 j hj
      rw [bt_some (List.getElem?_eq_getElem hlt)] at this
      exact decide_eq_true this
  · by_cases h5 : n < 5
    · rw [List.getElem?_take_of_lt h5] at hb
      have := h2 h5
      rw [bt_some hb] at this
      exact decide_eq_false this
    · rw [List.getElem?_eq_none (by rw [List.length_take]; omega)] at hb; cases hb
set_option maxRecDepth 100000 in
set_option maxHeartbeats 2000000 in
theorem mend1_any (q : UInt8) (b : Nat) (s : ByteArray) (w : World) (hs : s.size ≤ maxLen) (hc : w.cell? ⟨b, 0, none⟩ = some (.int .u8 (q.toNat : Int))) :
    Calls Tryz.prog 118 #[.string s, .pointer (some ⟨b, 0, none⟩)] w fun e w' => e = .returned (.tuple #[.string (mkS (mE q.toNat s.data.toList).1), .int .i64 ((mE q.toNat s.data.toList).2 : Nat)]) ∧ Below w.heap.size w w' := by
  unfold maxLen at hs
  have HZ := hid (size_list s)
  have HC := hid hc
  clear hc
  go_enter Tryz.func118, Tryz.ntmps118
  go_wp2
  go_loopw [5] (fun i wr => ∃ n : Nat, n ≤ 5 ∧ n ≤ s.size ∧ i = .int .i64 n ∧ Hid (∀ j, j < n → bt s.data.toList j = q.toNat) ∧ Hid (Below w.heap.size w wr)) (fun i _ => 5 - (intOf i).toNat)
  case atStart => exact ⟨0, by omega, by omega, rfl, fun j hj => absurd hj (by omega), Below.refl _ _⟩
  case round =>
    obtain ⟨n, hn5, hns, rfl, HJ, HB⟩ := hrel
    have hcell : wr.cell? ⟨b, 0, none⟩ = some (.int .u8 (q.toNat : Int)) := (HB.out.cell (World.block_lt_of_cell? w _ HC.out)).trans HC.out
    have HEND : Hid (qN q.toNat s.data.toList = n → (if n < 3 then mE q.toNat s.data.toList = ([], 0) else mE q.toNat s.data.toList = (s.data.toList.take (n - 3), n))) := fun h => by
      by_cases h3 : n < 3
      · rw [if_pos h3]; unfold mE; rw [h, if_pos h3]
      · rw [if_neg h3]; unfold mE; rw [h, if_neg h3]
    have HEX := hid (take_ext s (n - 3))
    by_cases h5 : n < 5
    · have d1 : decide ((n : Int) < 5) = true := decide_eq_true (by omega)
      by_cases hlt : n < s.size
      · have d2 : decide ((n : Int) < (s.size : Int)) = true := decide_eq_true (by omega)
        have BN := hid (bt_at s n hlt)
        by_cases hq : s[n].toNat = q.toNat
        · have g : ((s[n].toNat : Int) == (q.toNat : Int)) = true := by rw [beq_iff_eq]; omega
          have HQ := hid hq
          clear hq HEND HEX
          go_wp2
          go_quiet (fail)
          go_wp2
          go_roundw
          case rel => exact ⟨n + 1, by omega, by omega, by go_num, fun j hj => by
            by_cases e : j = n
            · rw [e, BN.out]; exact HQ.out
            · exact HJ.out j (by omega), eonto HB.out (drewN_below _ _)⟩
          case measure => simp [intOf]; omega
        · have g : ((s[n].toNat : Int) == (q.toNat : Int)) = false := by rw [beq_eq_false_iff_ne]; omega
          have HQ := hid (HEND.out (qN_eq _ _ n (by omega) HJ.out q.toNat_lt (fun _ => by rw [BN.out]; exact hq)))
          clear hq HEND
          by_cases h3 : n < 3
          · rw [if_pos h3] at HQ
            go_wp2
            go_quiet (fail)
            go_wp2
            go_ret2
            exact ⟨ret_sn (by rw [HQ.out]; rfl) (by rw [HQ.out]; rfl), eonto HB.out (drewN_below _ _)⟩
          · rw [if_neg h3] at HQ
            have e3 : ((n : Int) - 3).toNat = n - 3 := by omega
            go_wp2
            go_quiet (fail)
            go_wp2
            go_ret2
            exact ⟨ret_sn (by rw [HQ.out, ← HEX.out]) (by rw [HQ.out]), eonto HB.out (drewN_below _ _)⟩
      · have d2 : decide ((n : Int) < (s.size : Int)) = false := decide_eq_false (by omega)
        have HQ := hid (HEND.out (qN_eq _ _ n (by omega) HJ.out q.toNat_lt (fun _ => by rw [bt_none (by rw [HZ.out]; omega)]; have := q.toNat_lt; omega)))
        clear HEND
        by_cases h3 : n < 3
        · rw [if_pos h3] at HQ
          go_wp2
          go_quiet (fail)
          go_wp2
          go_ret2
          exact ⟨ret_sn (by rw [HQ.out]; rfl) (by rw [HQ.out]; rfl), eonto HB.out (drewN_below _ _)⟩
        · rw [if_neg h3] at HQ
          have e3 : ((n : Int) - 3).toNat = n - 3 := by omega
          go_wp2
          go_quiet (fail)
          go_wp2
          go_ret2
          exact ⟨ret_sn (by rw [HQ.out, ← HEX.out]) (by rw [HQ.out]), eonto HB.out (drewN_below _ _)⟩
    · have d1 : decide ((n : Int) < 5) = false := decide_eq_false (by omega)
      have HQ := hid (HEND.out (qN_eq _ _ n (by omega) HJ.out q.toNat_lt (fun h => absurd h h5)))
      rw [if_neg (by omega)] at HQ
      have e3 : ((n : Int) - 3).toNat = n - 3 := by omega
      clear HEND
      go_wp2
      go_quiet (fail)
      go_wp2
      go_ret2
      exact ⟨ret_sn (by rw [HQ.out, ← HEX.out]) (by rw [HQ.out]), eonto HB.out (drewN_below _ _)⟩
set_option maxRecDepth 100000 in
set_option maxHeartbeats 400000 in
theorem oend_any (q : UInt8) (w : World) : Calls Tryz.prog 93 #[.int .u8 (q.toNat : Int)] w fun e w' => e = .returned (.func (.func 121) #[] #[.pointer (some ⟨w.heap.size, 0, none⟩)]) ∧ w' = w.alloc (.cells #[.int .u8 (q.toNat : Int)] 5) := by
  go_enter Tryz.func93, Tryz.ntmps93
  go_wp2
  go_ret
  exact ⟨rfl, rfl⟩
set_option maxRecDepth 100000 in
set_option maxHeartbeats 400000 in
theorem mend_any (q : UInt8) (w : World) : Calls Tryz.prog 90 #[.int .u8 (q.toNat : Int)] w fun e w' => e = .returned (.func (.func 118) #[] #[.pointer (some ⟨w.heap.size, 0, none⟩)]) ∧ w' = w.alloc (.cells #[.int .u8 (q.toNat : Int)] 5) := by
  go_enter Tryz.func90, Tryz.ntmps90
  go_wp2
  go_ret
  exact ⟨rfl, rfl⟩
end Go.Proofs.YtlapefhnbbcmmaaGreatDoor
namespace Go.Proofs.YtlapefhnbbcmmaaGreatDoor
open Go.RowKit

theorem Tryz.info_b : (Tryz.prog.info? 5).map (fun i => (i.zero, i.size, i.bytes)) = some (some (.int .u8 0), 1, 1) := by kernel_rfl
/-- no piece says more than it takes, none takes more than there is -/
def Fits (P : List UInt8 → List UInt8 × Nat) : Prop := ∀ l, (P l).2 ≤ l.length ∧ (P l).1.length ≤ (P l).2
theorem own_app {w : World} {base : Nat} {v : Value} {a x : List UInt8} {m : ByteArray} (hm : mkS x = m) (h : w.ownsRow base 5 1 v (a.length + m.size) (Lib.strCells (mkS a) ++ Lib.strCells m)) :
    w.ownsRow base 5 1 v (a ++ x).length (Lib.strCells (mkS (a ++ x))) := by
  subst hm
  rw [mkS_size] at h
  rw [strCells_app, List.length_append]
  exact h
set_option maxRecDepth 100000 in
set_option maxHeartbeats 2000000 in
theorem read_any (FE FP b : Nat) (E P : List UInt8 → List UInt8 × Nat) (t : ByteArray) (i0 : Nat) (w : World) (ht : t.size ≤ 1000000) (hi0 : i0 ≤ t.size)
    (eE : ∀ args w, (callFunc FE args).run Tryz.prog w = .ok (.enter FE args) w) (eP : ∀ args w, (callFunc FP args).run Tryz.prog w = .ok (.enter FP args) w)
    (hE : EndOf w FE b E) (hP : PieceOf FP P) (fE : Fits E) (fP : Fits P) :
    Calls Tryz.prog 88 #[.string t, .int .i64 (i0 : Int), .func (.func FE) #[] #[.pointer (some ⟨b, 0, none⟩)], .func (.func FP) #[] #[]] w
      fun e w' => e = .returned (.tuple #[.string (mkS (rdA E P t.data.toList i0).1), .int .i64 ((rdA E P t.data.toList i0).2.1 : Nat), .int .i64 (rdA E P t.data.toList i0).2.2]) ∧ Below w.heap.size w w' := by
  have HZ := hid (size_list t)
  have HE := hid hE
  have HPP := hid hP
  have HFE := hid fE
  have HFP := hid fP
  have HML := hid (show t.size ≤ maxLen from max_le ht)
  clear hE hP fE fP
  obtain ⟨i1, hi, hz0, hz1, hz2⟩ := info_parts Tryz.info_b
  obtain ⟨T, hT⟩ : ∃ T, t.data.toList = T := ⟨_, rfl⟩
  have HT := hid hT
  obtain ⟨R, hR⟩ : ∃ R, rdA E P T i0 = R := ⟨_, rfl⟩
  have HR := hid hR
  rw [hT, hR]
  clear hT hR
  go_enter Tryz.func88, Tryz.ntmps88
  go_wp2_with fail
  go_loopw [1, 11] (fun a o wr => ∃ (i f : Nat) (acc : List UInt8), i ≤ t.size ∧ a = .int .i64 i ∧ acc.length ≤ i ∧ Hid (wr.ownsRow w.heap.size 5 1 o acc.length (Lib.strCells (mkS acc))) ∧ Hid (rd E P T f i acc = R) ∧ Hid (T.length < i + f) ∧ Hid (Below w.heap.size w wr)) (fun a _ _ => t.size - (intOf a).toNat)
  case atStart => exact ⟨i0, T.length + 1, [], hi0, rfl, Nat.zero_le _, World.ownsRow_nil _ _ _ _, HR.out, (show T.length < i0 + (T.length + 1) by omega), Below.refl _ _⟩
  case round =>
    obtain ⟨i, f, acc, hit, rfl, hacc, HO, HRD, HF, HB⟩ := hrel
    have hbs := HB.out.size
    by_cases hlt : i < t.size
    · obtain ⟨u, hu⟩ : ∃ u, t.extract i t.size = u := ⟨_, rfl⟩
      have hul : u.data.toList = T.drop i := by rw [← hu, drop_list, HT.out]
      have hus : u.size = t.size - i := by rw [← size_list, hul, List.length_drop, ← HT.out, HZ.out]
      have HTL := hid (show i < T.length by rw [← HT.out, HZ.out]; exact hlt)
      have CE : Hid (∀ X, Below w.heap.size w X → Calls Tryz.prog FE #[.string u, .pointer (some ⟨b, 0, none⟩)] X fun e w' => e = .returned (.tuple #[.string (mkS (E (T.drop i)).1), .int .i64 ((E (T.drop i)).2 : Nat)]) ∧ Below X.heap.size X w') := fun X hX => by
        have := HE.out u X hX (by have := HML.out; omega) (by omega)
        rw [hul] at this; exact this
      have CP : Hid (∀ X, Calls Tryz.prog FP #[.string u] X fun e w' => e = .returned (.tuple #[.string (mkS (P (T.drop i)).1), .int .i64 ((P (T.drop i)).2 : Nat)]) ∧ Below X.heap.size X w') := fun X => by
        have := HPP.out u X (by have := HML.out; omega) (by omega)
        rw [hul] at this; exact this
      have fe := HFE.out (T.drop i)
      have fp := HFP.out (T.drop i)
      have hdl : (T.drop i).length = t.size - i := by rw [← hul, size_list, hus]
      rw [hdl] at fe fp
      have HS := hid (fun he => rd_stop (E := E) (P := P) (t := T) (f := f) (i := i) (acc := acc) HF.out HTL.out he)
      have HWR := hid (fun he hp => rd_wrong (E := E) (P := P) (t := T) (f := f) (i := i) (acc := acc) HF.out HTL.out he hp)
      have HST := hid (fun he hp => rd_step (E := E) (P := P) (t := T) (f := f) (i := i) (acc := acc) HF.out HTL.out he hp)
      rw [HRD.out] at HS HWR HST
      clear hul hdl hus
      obtain ⟨e1, he1⟩ : ∃ x, (E (T.drop i)).1 = x := ⟨_, rfl⟩
      obtain ⟨e2, he2⟩ : ∃ x, (E (T.drop i)).2 = x := ⟨_, rfl⟩
      obtain ⟨p1, hp1⟩ : ∃ x, (P (T.drop i)).1 = x := ⟨_, rfl⟩
      obtain ⟨p2, hp2⟩ : ∃ x, (P (T.drop i)).2 = x := ⟨_, rfl⟩
      rw [he1, he2] at CE HS fe
      rw [he2] at HWR HST
      rw [hp1, hp2] at CP HST fp
      rw [hp2] at HWR
      clear he1 he2 hp1 hp2
      obtain ⟨fe1, fe2⟩ := fe
      obtain ⟨fp1, fp2⟩ := fp
      by_cases hend : 0 < e2
      · have HRR := hid (HS.out hend)
        obtain ⟨m, hm⟩ : ∃ m, mkS e1 = m := ⟨_, rfl⟩
        have hms : m.size = e1.length := by rw [← hm, mkS_size]
        have HM := hid hm
        rw [hm] at CE
        clear HS HWR HST CP hm
        go_wp2_with fail
        go_at_fn FE
        refine (CE.out _ HB.out).mono ?_
        rintro e w1 ⟨rfl, hb1⟩
        have HO1 := hid (ownsRow_below HO.out hb1)
        have hb01 := eonto HB.out hb1
        have hz1s := hb01.size
        go_wp2_with (at_builtin; go_must (refine Lib.wpList_append_own_string _ rfl _ _ 93 9 rfl w.heap.size 5 i1 Tryz.underlying93 Tryz.underlying9 hi hz0 hz1 hz2 _ acc.length (Lib.strCells (mkS acc)) rfl HO1.out m rfl (by unfold maxLen; omega) (by omega) hz1s ?_; intro v2 w2 hown2 hgr2 _; have hown3 := own_app HM.out hown2; have hcv := conv_own w2 w.heap.size v2 (acc ++ e1) hown3))
        have hb2 : Below w.heap.size w w2 := hb01.grown hgr2 hz1s (fun k hk => (HO1.out.lt k hk).1)
        refine bodyPost_ret (v := .tuple #[.string (mkS (acc ++ e1)), .int .i64 ((i : Int) + (e2 : Int)), .int .i64 (-1)]) (by simp [results, Tryz.results88, go_sem]) rfl ⟨ret_snn (by rw [HRR.out]) (by rw [HRR.out]; simp) (by rw [HRR.out]), hb2⟩
      · have he0 : e2 = 0 := by omega
        subst he0
        by_cases hpz : p2 = 0
        · subst hpz
          have HRR := hid (HWR.out rfl rfl)
          clear HS HWR HST
          go_wp2_with fail
          go_at_fn FE
          refine (CE.out _ HB.out).mono ?_
          rintro e w1 ⟨rfl, hb1⟩
          have hb01 := eonto HB.out hb1
          go_wp2_with fail
          go_at_fn FP
          refine (CP.out _).mono ?_
          rintro e w2 ⟨rfl, hb2⟩
          go_wp2_with fail
          refine bodyPost_ret (v := .tuple #[.string ⟨#[]⟩, .int .i64 0, .int .i64 (i : Int)]) (by simp [results, Tryz.results88, go_sem]) rfl ⟨ret_snn (by rw [HRR.out]; rfl) (by rw [HRR.out]; rfl) (by rw [HRR.out]), eonto hb01 hb2⟩
        · obtain ⟨f', HN1, HN2⟩ := HST.out rfl (by omega)
          have HN3 := hid HN1
          have HN4 := hid HN2
          have hp0 : ((p2 : Int) == 0) = false := by rw [beq_eq_false_iff_ne]; omega
          obtain ⟨m, hm⟩ : ∃ m, mkS p1 = m := ⟨_, rfl⟩
          have hms : m.size = p1.length := by rw [← hm, mkS_size]
          have HM := hid hm
          rw [hm] at CP
          clear HS HWR HST HN1 HN2 hm
          go_wp2_with fail
          go_at_fn FE
          refine (CE.out _ HB.out).mono ?_
          rintro e w1 ⟨rfl, hb1⟩
          have hb01 := eonto HB.out hb1
          go_wp2_with fail
          go_at_fn FP
          refine (CP.out _).mono ?_
          rintro e w3 ⟨rfl, hb3⟩
          have hb03 := eonto hb01 hb3
          have HO1 := hid (ownsRow_below (ownsRow_below HO.out hb1) hb3)
          have hz1s := hb03.size
          go_wp2_with (at_builtin; go_must (refine Lib.wpList_append_own_string _ rfl _ _ 93 9 rfl w.heap.size 5 i1 Tryz.underlying93 Tryz.underlying9 hi hz0 hz1 hz2 _ acc.length (Lib.strCells (mkS acc)) rfl HO1.out m rfl (by unfold maxLen; omega) (by omega) hz1s ?_; intro v2 w2 hown2 hgr2 _; have hown3 := own_app HM.out hown2))
          have hb2 : Below w.heap.size w w2 := hb03.grown hgr2 hz1s (fun k hk => (HO1.out.lt k hk).1)
          go_roundw
          case rel => exact ⟨i + p2, f', acc ++ p1, by omega, val_int (by omega), by rw [List.length_append]; omega, hown3, HN3.out.symm, HN4.out, hb2⟩
          case measure => simp [intOf]; omega
    · have hie : i = t.size := by omega
      have HRR := hid (show R = ([], 0, (T.length : Int)) by rw [← HRD.out]; exact rd_end HF.out (by rw [← HT.out, HZ.out]; omega) (by rw [← HT.out, HZ.out]; omega))
      have HTT := hid (show (T.length : Int) = (i : Int) by rw [← HT.out, HZ.out, hie])
      clear hie
      go_wp2_with fail
      refine bodyPost_ret (v := .tuple #[.string ⟨#[]⟩, .int .i64 0, .int .i64 (i : Int)]) (by simp [results, Tryz.results88, go_sem]) rfl ⟨ret_snn (by rw [HRR.out]; rfl) (by rw [HRR.out]; rfl) (by rw [HRR.out, HTT.out]), HB.out⟩
end Go.Proofs.YtlapefhnbbcmmaaGreatDoor
namespace Go.Proofs.YtlapefhnbbcmmaaGreatDoor
open Go.RowKit

theorem ltr_len (r : Int) : (ltr r).length ≤ 4 := by
  unfold ltr
  rw [size_list, strOfNums_size]
  unfold enc
  split
  · unfold encI; (repeat' split) <;> simp
  · simp
theorem fits_pl : Fits plP := fun l => ⟨tkN_le l, by unfold plP; rw [List.length_take]; exact Nat.min_le_left _ _⟩
theorem fits_escU (toml : Bool) (l : List UInt8) (n : Nat) (hn : 4 ≤ n) : (escU toml l n).2 ≤ l.length ∧ (escU toml l n).1.length ≤ (escU toml l n).2 := by
  unfold escU
  split
  · next h =>
    refine ⟨?_, Nat.le_trans (ltr_len _) (show 4 ≤ 2 + n by omega)⟩
    by_cases hl : l.length < 2 + n
    · rw [cdI_short l 2 n hl] at h; omega
    · exact Nat.le_of_not_lt hl
  · split
    · next h =>
      refine ⟨?_, Nat.le_trans (ltr_len _) (show 4 ≤ 12 by omega)⟩
      by_cases hl : l.length < 8 + 4
      · rw [cdI_short l 8 4 hl] at h; omega
      · exact Nat.le_of_not_lt hl
    · exact ⟨Nat.zero_le _, Nat.le_refl _⟩
theorem nmV_256 (toml : Bool) : nmV toml 256 = 256 := by unfold nmV; simp
theorem fits_esc (toml : Bool) : Fits (escP toml) := fun l => by
  unfold escP
  split
  · next h =>
    refine ⟨?_, by simp⟩
    by_cases hl : l.length ≤ 1
    · rw [bt_none hl, nmV_256] at h; omega
    · show 2 ≤ l.length; omega
  · split
    · exact fits_escU toml l 8 (by omega)
    · split
      · exact fits_escU toml l 4 (by omega)
      · exact ⟨Nat.zero_le _, Nat.le_refl _⟩
theorem fits_none (l : List UInt8) : (([], 0) : List UInt8 × Nat).2 ≤ l.length ∧ (([], 0) : List UInt8 × Nat).1.length ≤ (([], 0) : List UInt8 × Nat).2 := ⟨Nat.zero_le _, Nat.le_refl _⟩
theorem fits_op : Fits opP := fun l => by
  unfold opP
  split
  · exact fits_none l
  · exact fits_pl l
theorem fits_mp : Fits mpP := fun l => by
  unfold mpP
  split
  · exact ⟨(lnE_le l).1, by rw [List.length_take]; exact Nat.min_le_left _ _⟩
  · exact fits_op l
theorem fits_oe : Fits oeP := fun l => by
  unfold oeP
  split
  · exact fits_esc true l
  · exact fits_op l
theorem fdN_le (l : List UInt8) : fdN l ≤ l.length := by
  unfold fdN
  have h1 := run_leE bkB (l.drop 1)
  have h2 := run_leE blB ((l.drop 1).drop (run bkB (l.drop 1)))
  have h3 := (lnE_le ((l.drop 1).drop (run bkB (l.drop 1)))).1
  rw [List.length_drop, List.length_drop] at h2 h3
  rw [List.length_drop] at h1
  split
  · omega
  · omega
theorem fits_me : Fits meP := fun l => by
  unfold meP
  split
  · split
    · exact ⟨fdN_le l, Nat.zero_le _⟩
    · exact fits_esc true l
  · exact fits_mp l
theorem fits_oE (q : Nat) (hq : q < 256) : Fits (oE q) := fun l => by
  unfold oE
  split
  · next h => exact ⟨bt_lt (k := 0) (by omega), Nat.zero_le _⟩
  · exact fits_none l
theorem fits_mE (q : Nat) : Fits (mE q) := fun l => by
  unfold mE
  split
  · exact fits_none l
  · exact ⟨(qN_le q l).2, by rw [List.length_take]; omega⟩
set_option maxRecDepth 100000 in
set_option maxHeartbeats 400000 in
theorem from_in (t : ByteArray) (a : Nat) (w : World) (ha : a ≤ t.size) :
    Calls Tryz.prog 87 #[.string t, .int .i64 (a : Int)] w fun e w' => e = .returned (.tuple #[.string (t.extract a t.size), .int .i64 (a : Int)]) ∧ w' = w := by
  go_enter Tryz.func87, Tryz.ntmps87
  go_wp2
  go_ret2
  exact ⟨rfl, rfl⟩
set_option maxRecDepth 100000 in
set_option maxHeartbeats 400000 in
theorem from_out (t : ByteArray) (a : Int) (w : World) (ha : ¬ (0 ≤ a ∧ a ≤ t.size)) :
    Calls Tryz.prog 87 #[.string t, .int .i64 a] w fun e w' => e = .returned (.tuple #[.string ⟨#[]⟩, .int .i64 (plc t.data.toList a)]) ∧ w' = w := by
  have HZ := hid (size_list t)
  by_cases h : a < 0
  · have HP := hid (show plc t.data.toList a = 0 by unfold plc; rw [if_pos h])
    clear ha
    go_enter Tryz.func87, Tryz.ntmps87
    go_wp2
    go_ret2
    exact ⟨ret_sn rfl HP.out.symm, rfl⟩
  · have h2 : (t.size : Int) < a := by omega
    have HP := hid (show plc t.data.toList a = t.size by unfold plc; rw [if_neg h, HZ.out, if_pos h2])
    clear ha
    go_enter Tryz.func87, Tryz.ntmps87
    go_wp2
    go_ret2
    exact ⟨ret_sn rfl HP.out.symm, rfl⟩
theorem cell_box (w X : World) (q : UInt8) (h : Below (w.alloc (.cells #[.int .u8 (q.toNat : Int)] 5)).heap.size (w.alloc (.cells #[.int .u8 (q.toNat : Int)] 5)) X) : X.cell? ⟨w.heap.size, 0, none⟩ = some (.int .u8 (q.toNat : Int)) := by
  have h0 : (w.alloc (.cells #[.int .u8 (q.toNat : Int)] 5)).cell? ⟨w.heap.size, 0, none⟩ = some (.int .u8 (q.toNat : Int)) := by simp
  exact (h.cell (World.block_lt_of_cell? _ _ h0)).trans h0
theorem oendOf (w : World) (q : UInt8) : EndOf (w.alloc (.cells #[.int .u8 (q.toNat : Int)] 5)) 121 w.heap.size (oE q.toNat) :=
  fun s X hX _ h0 => oend1_any q w.heap.size s X h0 (cell_box w X q hX)
theorem mendOf (w : World) (q : UInt8) : EndOf (w.alloc (.cells #[.int .u8 (q.toNat : Int)] 5)) 118 w.heap.size (mE q.toNat) :=
  fun s X hX hs _ => mend1_any q w.heap.size s X hs (cell_box w X q hX)
theorem box_below {w w' : World} {o : Obj} (hb : Below (w.alloc o).heap.size (w.alloc o) w') : Below w.heap.size w w' := eonto ((Below.refl _ _).alloc (Nat.le_refl _) _) hb
theorem rd_me (t : ByteArray) (i : Nat) (w : World) (ht : t.size ≤ 1000000) (hi : i ≤ t.size) :
    Calls Tryz.prog 88 #[.string t, .int .i64 (i : Int), .func (.func 118) #[] #[.pointer (some ⟨w.heap.size, 0, none⟩)], .func (.func 91) #[] #[]] (w.alloc (.cells #[.int .u8 34] 5))
      fun e w' => e = .returned (.tuple #[.string (mkS (rdA (mE 34) meP t.data.toList i).1), .int .i64 ((rdA (mE 34) meP t.data.toList i).2.1 : Nat), .int .i64 (rdA (mE 34) meP t.data.toList i).2.2]) ∧ Below w.heap.size w w' :=
  (read_any 118 91 w.heap.size (mE 34) meP t i _ ht hi (enters_of Tryz.func118 (by kernel_rfl) rfl) (enters_of Tryz.func91 (by kernel_rfl) rfl) (mendOf w 34) mescaped_any (fits_mE 34) fits_me).mono fun e w' ⟨h, hb⟩ => ⟨h, box_below hb⟩
theorem rd_mp (t : ByteArray) (i : Nat) (w : World) (ht : t.size ≤ 1000000) (hi : i ≤ t.size) :
    Calls Tryz.prog 88 #[.string t, .int .i64 (i : Int), .func (.func 118) #[] #[.pointer (some ⟨w.heap.size, 0, none⟩)], .func (.func 92) #[] #[]] (w.alloc (.cells #[.int .u8 39] 5))
      fun e w' => e = .returned (.tuple #[.string (mkS (rdA (mE 39) mpP t.data.toList i).1), .int .i64 ((rdA (mE 39) mpP t.data.toList i).2.1 : Nat), .int .i64 (rdA (mE 39) mpP t.data.toList i).2.2]) ∧ Below w.heap.size w w' :=
  (read_any 118 92 w.heap.size (mE 39) mpP t i _ ht hi (enters_of Tryz.func118 (by kernel_rfl) rfl) (enters_of Tryz.func92 (by kernel_rfl) rfl) (mendOf w 39) mplain_any (fits_mE 39) fits_mp).mono fun e w' ⟨h, hb⟩ => ⟨h, box_below hb⟩
theorem rd_oe (t : ByteArray) (i : Nat) (w : World) (ht : t.size ≤ 1000000) (hi : i ≤ t.size) :
    Calls Tryz.prog 88 #[.string t, .int .i64 (i : Int), .func (.func 121) #[] #[.pointer (some ⟨w.heap.size, 0, none⟩)], .func (.func 94) #[] #[]] (w.alloc (.cells #[.int .u8 34] 5))
      fun e w' => e = .returned (.tuple #[.string (mkS (rdA (oE 34) oeP t.data.toList i).1), .int .i64 ((rdA (oE 34) oeP t.data.toList i).2.1 : Nat), .int .i64 (rdA (oE 34) oeP t.data.toList i).2.2]) ∧ Below w.heap.size w w' :=
  (read_any 121 94 w.heap.size (oE 34) oeP t i _ ht hi (enters_of Tryz.func121 (by kernel_rfl) rfl) (enters_of Tryz.func94 (by kernel_rfl) rfl) (oendOf w 34) oescaped_any (fits_oE 34 (by omega)) fits_oe).mono fun e w' ⟨h, hb⟩ => ⟨h, box_below hb⟩
theorem rd_op (t : ByteArray) (i : Nat) (w : World) (ht : t.size ≤ 1000000) (hi : i ≤ t.size) :
    Calls Tryz.prog 88 #[.string t, .int .i64 (i : Int), .func (.func 121) #[] #[.pointer (some ⟨w.heap.size, 0, none⟩)], .func (.func 95) #[] #[]] (w.alloc (.cells #[.int .u8 39] 5))
      fun e w' => e = .returned (.tuple #[.string (mkS (rdA (oE 39) opP t.data.toList i).1), .int .i64 ((rdA (oE 39) opP t.data.toList i).2.1 : Nat), .int .i64 (rdA (oE 39) opP t.data.toList i).2.2]) ∧ Below w.heap.size w w' :=
  (read_any 121 95 w.heap.size (oE 39) opP t i _ ht hi (enters_of Tryz.func121 (by kernel_rfl) rfl) (enters_of Tryz.func95 (by kernel_rfl) rfl) (oendOf w 39) oplain_any (fits_oE 39 (by omega)) fits_op).mono fun e w' ⟨h, hb⟩ => ⟨h, box_below hb⟩
theorem plc_in (T : List UInt8) (a : Nat) (h : a ≤ T.length) : plc T (a : Int) = a := by unfold plc; rw [if_neg (by omega), if_neg (by omega)]
theorem bt_out (T : List UInt8) (a : Int) (h : ¬ (0 ≤ a ∧ a ≤ T.length)) (h0 : 0 ≤ a) (k : Nat) : bt (T.drop a.toNat) k = 256 := by rw [bt_drop, bt_none (by omega)]
theorem m3_out (q : Nat) (hq : q < 256) (T : List UInt8) (a : Int) (h : ¬ (0 ≤ a ∧ a ≤ T.length)) (h0 : 0 ≤ a) : m3 q (T.drop a.toNat) = false := by
  unfold m3; rw [bt_out T a h h0, decide_eq_false (by omega)]; rfl
theorem unqT_out (T : List UInt8) (a : Int) (h : ¬ (0 ≤ a ∧ a ≤ T.length)) : unqT T a = ([], 0, plc T a) := by
  unfold unqT
  rw [if_neg, if_neg, if_neg, if_neg]
  · rintro ⟨h0, h1⟩; rw [bt_none (by omega)] at h1; omega
  · rintro ⟨h0, h1⟩; rw [bt_none (by omega)] at h1; omega
  · rintro ⟨h0, h1⟩; rw [m3_out 39 (by omega) T a h h0] at h1; cases h1
  · rintro ⟨h0, h1⟩; rw [m3_out 34 (by omega) T a h h0] at h1; cases h1
theorem hp_empty (p : ByteArray) (h : 0 < p.size) (w : World) : Calls Tryz.prog 45 #[.string ⟨#[]⟩, .string p] w fun e w' => e = .returned (.bool false) ∧ w' = w := by
  have := Tryz.strings_HasPrefix ⟨#[]⟩ p w
  have e : Lib.hasPrefix (⟨#[]⟩ : ByteArray).data.toList p.data.toList = false := by
    unfold Lib.hasPrefix
    rw [list_of p h]; rfl
  rw [e] at this; exact this
theorem m3_of (q : UInt8) (l : List UInt8) : Lib.hasPrefix l [q, q, q] = m3 q.toNat l := by
  rw [hp3]; unfold m3; rw [Bool.eq_iff_iff]; simp [and_assoc]
set_option maxRecDepth 100000 in
set_option maxHeartbeats 4000000 in
theorem tunq_any (t : ByteArray) (a : Int) (w : World) (ht : t.size ≤ 1000000) :
    Calls Tryz.prog 58 #[.string t, .int .i64 a] w fun e w' => e = .returned (.tuple #[.string (mkS (unqT t.data.toList a).1), .int .i64 ((unqT t.data.toList a).2.1 : Nat), .int .i64 (unqT t.data.toList a).2.2]) ∧ Below w.heap.size w w' := by
  have HZ := hid (size_list t)
  by_cases ha : 0 ≤ a ∧ a ≤ t.size
  · obtain ⟨n, rfl⟩ : ∃ n : Nat, a = n := ⟨a.toNat, by omega⟩
    have hn : n ≤ t.size := by omega
    clear ha
    obtain ⟨u, hu⟩ : ∃ u, t.extract n t.size = u := ⟨_, rfl⟩
    have hul : u.data.toList = t.data.toList.drop n := by rw [← hu, drop_list]
    have HF : Hid (∀ X, Calls Tryz.prog 87 #[.string t, .int .i64 (n : Int)] X fun e w' => e = .returned (.tuple #[.string u, .int .i64 (n : Int)]) ∧ w' = X) := fun X => by
      have := from_in t n X hn; rw [hu] at this; exact this
    have P1 : Hid (∀ X, Calls Tryz.prog 45 #[.string u, .string ⟨#[34, 34, 34]⟩] X fun e w' => e = .returned (.bool (m3 34 (t.data.toList.drop n))) ∧ w' = X) := fun X => by
      have := Tryz.strings_HasPrefix u ⟨#[34, 34, 34]⟩ X
      rw [show (⟨#[34, 34, 34]⟩ : ByteArray).data.toList = [34, 34, 34] from rfl, m3_of, hul] at this; exact this
    have P2 : Hid (∀ X, Calls Tryz.prog 45 #[.string u, .string ⟨#[39, 39, 39]⟩] X fun e w' => e = .returned (.bool (m3 39 (t.data.toList.drop n))) ∧ w' = X) := fun X => by
      have := Tryz.strings_HasPrefix u ⟨#[39, 39, 39]⟩ X
      rw [show (⟨#[39, 39, 39]⟩ : ByteArray).data.toList = [39, 39, 39] from rfl, m3_of, hul] at this; exact this
    have P3 : Hid (∀ X, Calls Tryz.prog 45 #[.string u, .string ⟨#[34]⟩] X fun e w' => e = .returned (.bool (decide (bt t.data.toList n = 34))) ∧ w' = X) := fun X => by
      have := Tryz.strings_HasPrefix u ⟨#[34]⟩ X
      rw [show (⟨#[34]⟩ : ByteArray).data.toList = [34] from rfl, hp1, hul, bt_drop] at this; exact this
    have P4 : Hid (∀ X, Calls Tryz.prog 45 #[.string u, .string ⟨#[39]⟩] X fun e w' => e = .returned (.bool (decide (bt t.data.toList n = 39))) ∧ w' = X) := fun X => by
      have := Tryz.strings_HasPrefix u ⟨#[39]⟩ X
      rw [show (⟨#[39]⟩ : ByteArray).data.toList = [39] from rfl, hp1, hul, bt_drop] at this; exact this
    by_cases hq1 : m3 34 (t.data.toList.drop n) = true
    · clear P2 P3 P4
      have hlt : n + 3 ≤ t.size := by
        have h := hq1
        unfold m3 at h; simp only [Bool.and_eq_true, decide_eq_true_eq] at h
        have := bt_lt (l := t.data.toList.drop n) (k := 2) (by omega); rw [List.length_drop, HZ.out] at this; omega
      have hl3 := lnE_le (t.data.toList.drop (n + 3))
      rw [List.length_drop, HZ.out] at hl3
      obtain ⟨hl3a, hl3b⟩ := hl3
      have HR := hid (show unqT t.data.toList (n : Int) = rdA (mE 34) meP t.data.toList (n + 3 + lnE (t.data.toList.drop (n + 3))) by unfold unqT; rw [Int.toNat_natCast, if_pos ⟨by omega, hq1⟩])
      obtain ⟨v, hv⟩ : ∃ v, u.extract 3 u.size = v := ⟨_, rfl⟩
      have HLN : Hid (∀ X, Calls Tryz.prog 89 #[.string v] X fun e w' => e = .returned (.int .i64 (lnE (t.data.toList.drop (n + 3)) : Nat)) ∧ w' = X) := fun X => by
        have := line_any v X
        rw [show v.data.toList = t.data.toList.drop (n + 3) by rw [← hv, drop_list, hul, List.drop_drop]] at this; exact this
      have hus : 3 ≤ u.size ∧ u.size ≤ 1000000 := by rw [← size_list, hul, List.length_drop, HZ.out]; omega
      obtain ⟨hus1, hus2⟩ := hus
      have HRD : Hid (∀ X : World, Calls Tryz.prog 88 #[.string t, .int .i64 ((n : Int) + 3 + (lnE (t.data.toList.drop (n + 3)) : Nat)), .func (.func 118) #[] #[.pointer (some ⟨X.heap.size, 0, none⟩)], .func (.func 91) #[] #[]] (X.alloc (.cells #[.int .u8 34] 5)) _) := fun X => rd_me t (n + 3 + lnE (t.data.toList.drop (n + 3))) X ht (by omega)
      have HEN : Hid (∀ X : World, Calls Tryz.prog 90 #[.int .u8 34] X _) := fun X => mend_any 34 X
      rw [hq1] at P1
      generalize lnE (t.data.toList.drop (n + 3)) = k at *
      clear hq1 hu hul
      go_enter Tryz.func58, Tryz.ntmps58
      go_wp2_with (first
        | (go_at_call 87; go_must (refine (HF.out _).mono ?_; rintro e w1 ⟨rfl, rfl⟩))
        | (go_at_call 45; go_must (refine (P1.out _).mono ?_; rintro e w1 ⟨rfl, rfl⟩))
        | (go_at_call 89; go_must (refine (HLN.out _).mono ?_; rintro e w1 ⟨rfl, rfl⟩))
        | (go_at_call 90; go_must (refine (HEN.out _).mono ?_; rintro e w1 ⟨rfl, rfl⟩))
        | (go_at_call 88; go_must (refine (HRD.out _).mono ?_; rintro e w2 ⟨rfl, hb2⟩)))
      go_ret3
      exact ⟨ret_snn (by rw [HR.out]) (by rw [HR.out]) (by rw [HR.out]), hb2⟩
    have h1n := hq1
    have h1f : m3 34 (t.data.toList.drop n) = false := by simpa using hq1
    rw [h1f] at P1
    clear hq1 h1f
    by_cases hq2 : m3 39 (t.data.toList.drop n) = true
    · clear P3 P4
      have hlt : n + 3 ≤ t.size := by
        have h := hq2
        unfold m3 at h; simp only [Bool.and_eq_true, decide_eq_true_eq] at h
        have := bt_lt (l := t.data.toList.drop n) (k := 2) (by omega); rw [List.length_drop, HZ.out] at this; omega
      have hl3 := lnE_le (t.data.toList.drop (n + 3))
      rw [List.length_drop, HZ.out] at hl3
      obtain ⟨hl3a, hl3b⟩ := hl3
      have HR := hid (show unqT t.data.toList (n : Int) = rdA (mE 39) mpP t.data.toList (n + 3 + lnE (t.data.toList.drop (n + 3))) by unfold unqT; rw [Int.toNat_natCast, if_neg (fun h => h1n h.2), if_pos ⟨by omega, hq2⟩])
      obtain ⟨v, hv⟩ : ∃ v, u.extract 3 u.size = v := ⟨_, rfl⟩
      have HLN : Hid (∀ X, Calls Tryz.prog 89 #[.string v] X fun e w' => e = .returned (.int .i64 (lnE (t.data.toList.drop (n + 3)) : Nat)) ∧ w' = X) := fun X => by
        have := line_any v X
        rw [show v.data.toList = t.data.toList.drop (n + 3) by rw [← hv, drop_list, hul, List.drop_drop]] at this; exact this
      have hus : 3 ≤ u.size ∧ u.size ≤ 1000000 := by rw [← size_list, hul, List.length_drop, HZ.out]; omega
      obtain ⟨hus1, hus2⟩ := hus
      have HRD : Hid (∀ X : World, Calls Tryz.prog 88 #[.string t, .int .i64 ((n : Int) + 3 + (lnE (t.data.toList.drop (n + 3)) : Nat)), .func (.func 118) #[] #[.pointer (some ⟨X.heap.size, 0, none⟩)], .func (.func 92) #[] #[]] (X.alloc (.cells #[.int .u8 39] 5)) _) := fun X => rd_mp t (n + 3 + lnE (t.data.toList.drop (n + 3))) X ht (by omega)
      have HEN : Hid (∀ X : World, Calls Tryz.prog 90 #[.int .u8 39] X _) := fun X => mend_any 39 X
      rw [hq2] at P2
      generalize lnE (t.data.toList.drop (n + 3)) = k at *
      clear hq2 hu hul h1n
      go_enter Tryz.func58, Tryz.ntmps58
      go_wp2_with (first
        | (go_at_call 87; go_must (refine (HF.out _).mono ?_; rintro e w1 ⟨rfl, rfl⟩))
        | (go_at_call 45; go_must (first | ((with_reducible refine (P1.out _).mono ?_); rintro e w1 ⟨rfl, rfl⟩) | ((with_reducible refine (P2.out _).mono ?_); rintro e w1 ⟨rfl, rfl⟩)))
        | (go_at_call 89; go_must (refine (HLN.out _).mono ?_; rintro e w1 ⟨rfl, rfl⟩))
        | (go_at_call 90; go_must (refine (HEN.out _).mono ?_; rintro e w1 ⟨rfl, rfl⟩))
        | (go_at_call 88; go_must (refine (HRD.out _).mono ?_; rintro e w2 ⟨rfl, hb2⟩)))
      go_ret3
      exact ⟨ret_snn (by rw [HR.out]) (by rw [HR.out]) (by rw [HR.out]), hb2⟩
    have h2n := hq2
    have h2f : m3 39 (t.data.toList.drop n) = false := by simpa using hq2
    rw [h2f] at P2
    clear hq2 h2f
    by_cases hq3 : bt t.data.toList n = 34
    · clear P4
      have hlt : n < t.size := by have := bt_lt (l := t.data.toList) (k := n) (by omega); rw [HZ.out] at this; exact this
      have HR := hid (show unqT t.data.toList (n : Int) = rdA (oE 34) oeP t.data.toList (n + 1) by unfold unqT; rw [Int.toNat_natCast, if_neg (fun h => h1n h.2), if_neg (fun h => h2n h.2), if_pos ⟨by omega, hq3⟩])
      have HRD : Hid (∀ X : World, Calls Tryz.prog 88 #[.string t, .int .i64 ((n : Int) + 1), .func (.func 121) #[] #[.pointer (some ⟨X.heap.size, 0, none⟩)], .func (.func 94) #[] #[]] (X.alloc (.cells #[.int .u8 34] 5)) _) := fun X => rd_oe t (n + 1) X ht (by omega)
      have HEN : Hid (∀ X : World, Calls Tryz.prog 93 #[.int .u8 34] X _) := fun X => oend_any 34 X
      rw [decide_eq_true hq3] at P3
      clear hq3 hu hul h1n h2n
      go_enter Tryz.func58, Tryz.ntmps58
      go_wp2_with (first
        | (go_at_call 87; go_must (refine (HF.out _).mono ?_; rintro e w1 ⟨rfl, rfl⟩))
        | (go_at_call 45; go_must (first | ((with_reducible refine (P1.out _).mono ?_); rintro e w1 ⟨rfl, rfl⟩) | ((with_reducible refine (P2.out _).mono ?_); rintro e w1 ⟨rfl, rfl⟩) | ((with_reducible refine (P3.out _).mono ?_); rintro e w1 ⟨rfl, rfl⟩)))
        | (go_at_call 93; go_must (refine (HEN.out _).mono ?_; rintro e w1 ⟨rfl, rfl⟩))
        | (go_at_call 88; go_must (refine (HRD.out _).mono ?_; rintro e w2 ⟨rfl, hb2⟩)))
      go_ret3
      exact ⟨ret_snn (by rw [HR.out]) (by rw [HR.out]) (by rw [HR.out]), hb2⟩
    have h3n := hq3
    rw [decide_eq_false hq3] at P3
    clear hq3
    by_cases hq4 : bt t.data.toList n = 39
    · skip
      have hlt : n < t.size := by have := bt_lt (l := t.data.toList) (k := n) (by omega); rw [HZ.out] at this; exact this
      have HR := hid (show unqT t.data.toList (n : Int) = rdA (oE 39) opP t.data.toList (n + 1) by unfold unqT; rw [Int.toNat_natCast, if_neg (fun h => h1n h.2), if_neg (fun h => h2n h.2), if_neg (fun h => h3n h.2), if_pos ⟨by omega, hq4⟩])
      have HRD : Hid (∀ X : World, Calls Tryz.prog 88 #[.string t, .int .i64 ((n : Int) + 1), .func (.func 121) #[] #[.pointer (some ⟨X.heap.size, 0, none⟩)], .func (.func 95) #[] #[]] (X.alloc (.cells #[.int .u8 39] 5)) _) := fun X => rd_op t (n + 1) X ht (by omega)
      have HEN : Hid (∀ X : World, Calls Tryz.prog 93 #[.int .u8 39] X _) := fun X => oend_any 39 X
      rw [decide_eq_true hq4] at P4
      clear hq4 hu hul h1n h2n h3n
      go_enter Tryz.func58, Tryz.ntmps58
      go_wp2_with (first
        | (go_at_call 87; go_must (refine (HF.out _).mono ?_; rintro e w1 ⟨rfl, rfl⟩))
        | (go_at_call 45; go_must (first | ((with_reducible refine (P1.out _).mono ?_); rintro e w1 ⟨rfl, rfl⟩) | ((with_reducible refine (P2.out _).mono ?_); rintro e w1 ⟨rfl, rfl⟩) | ((with_reducible refine (P3.out _).mono ?_); rintro e w1 ⟨rfl, rfl⟩) | ((with_reducible refine (P4.out _).mono ?_); rintro e w1 ⟨rfl, rfl⟩)))
        | (go_at_call 93; go_must (refine (HEN.out _).mono ?_; rintro e w1 ⟨rfl, rfl⟩))
        | (go_at_call 88; go_must (refine (HRD.out _).mono ?_; rintro e w2 ⟨rfl, hb2⟩)))
      go_ret3
      exact ⟨ret_snn (by rw [HR.out]) (by rw [HR.out]) (by rw [HR.out]), hb2⟩
    have h4n := hq4
    rw [decide_eq_false hq4] at P4
    have HR := hid (show unqT t.data.toList (n : Int) = ([], 0, (n : Int)) by unfold unqT; rw [Int.toNat_natCast, if_neg (fun h => h1n h.2), if_neg (fun h => h2n h.2), if_neg (fun h => h3n h.2), if_neg (fun h => h4n h.2), plc_in _ _ (by rw [HZ.out]; exact hn)])
    clear hq4 h1n h2n h3n h4n hu hul
    go_enter Tryz.func58, Tryz.ntmps58
    go_wp2_with (first
        | (go_at_call 87; go_must (refine (HF.out _).mono ?_; rintro e w1 ⟨rfl, rfl⟩))
        | (go_at_call 45; go_must (first | ((with_reducible refine (P1.out _).mono ?_); rintro e w1 ⟨rfl, rfl⟩) | ((with_reducible refine (P2.out _).mono ?_); rintro e w1 ⟨rfl, rfl⟩) | ((with_reducible refine (P3.out _).mono ?_); rintro e w1 ⟨rfl, rfl⟩) | ((with_reducible refine (P4.out _).mono ?_); rintro e w1 ⟨rfl, rfl⟩))))
    go_ret3
    exact ⟨ret_snn (by rw [HR.out]; rfl) (by rw [HR.out]; rfl) (by rw [HR.out]), Below.refl _ _⟩
  · have HF := hid (fun X => from_out t a X ha)
    have HR := hid (unqT_out t.data.toList a (by rw [HZ.out]; exact ha))
    clear ha
    generalize plc t.data.toList a = p at *
    go_enter Tryz.func58, Tryz.ntmps58
    go_wp2_with (first
      | (go_at_call 87; go_must (refine (HF.out _).mono ?_; rintro e w1 ⟨rfl, rfl⟩))
      | (go_at_call 45; go_must (refine (hp_empty _ (by decide) _).mono ?_; rintro e w1 ⟨rfl, rfl⟩)))
    go_ret3
    exact ⟨ret_snn (by rw [HR.out]; rfl) (by rw [HR.out]; rfl) (by rw [HR.out]), Below.refl _ _⟩
end Go.Proofs.YtlapefhnbbcmmaaGreatDoor
