import Derived.Laws.CopyOwn
import Derived.Laws.IdiomCopy
import Derived.Test.YtnpojefcibfgkaaGreatDoorBase
import Derived.Deep.RegionWith
import Derived.Test.YtnpojefcibfgkaaGreatDoorVStr
import Derived.Test.YtnpojefcibfgkaaGreatDoorRefDecB
import Derived.Test.YtnpojefcibfgkaaGreatDoorMathDecAll
/- The document's own reckoning of numbers' texts, walked: Form, Number, scaled, Whole. -/
/- The document's own order of numbers, walked: Cmp. -/
/- The document's own reading of whole numbers, walked: Int. -/
namespace Go.Proofs.YtnpojefcibfgkaaGreatDoor
open Go.RowKit

theorem Tryz.info_u8 : (Tryz.prog.info? 5).map (fun i => (i.zero, i.size, i.bytes)) = some (some (.int .u8 0), 1, 1) := by kernel_rfl
theorem Tryz.size_u8 : (Tryz.prog.info? 5).map (·.size) = some 1 := by kernel_rfl
/-- a row that is owned, read as a text -/
theorem conv_row (w : World) (base n cap : Nat) (g : Nat) (xs : List Int) (hown : w.ownsRow base 5 1 (.slice (some ⟨g, 0, none⟩) n cap) n (xs.map (Value.int .u8))) :
    (convert 31 9 (.slice (some ⟨g, 0, none⟩) n cap)).run Tryz.prog w = .ok (.string (strOfNums xs)) w := by
  have hl : xs.length = n := by have := hown.1; simpa using this
  refine run_convert_bytes_arg w 31 5 Tryz.underlying31 Tryz.underlying5 g 0 n cap xs hl (fun i hi => ?_) 9 Tryz.underlying9
  rw [Nat.zero_add, hown.cellAt i (by omega)]
  have hi' : i < xs.length := by omega
  simp [List.getD, List.getElem?_eq_getElem hi']
/-- a block just laid, read as a text -/
theorem conv_new (w : World) (xs : List Int) (k : Nat) (hk : xs.length = k) :
    (convert 31 9 (.slice (some ⟨w.heap.size, 0, none⟩) k k)).run Tryz.prog (w.alloc (.cells (xs.map (Value.int .u8)).toArray 5)) = .ok (.string (strOfNums xs)) (w.alloc (.cells (xs.map (Value.int .u8)).toArray 5)) := by
  refine run_convert_bytes_arg _ 31 5 Tryz.underlying31 Tryz.underlying5 _ 0 k k xs hk (fun i hi => ?_) 9 Tryz.underlying9
  have := World.cell?_alloc_mark w (xs.map (Value.int .u8)).toArray 5 (0, 0) i
  rw [Nat.zero_add, this]
  have hi' : i < xs.length := by omega
  simp [List.getD, List.getElem?_eq_getElem hi']
end Go.Proofs.YtnpojefcibfgkaaGreatDoor
namespace Go.Proofs.YtnpojefcibfgkaaGreatDoor
open Go.RowKit

set_option maxHeartbeats 400000 in
theorem rgood_any (r : Int) (w : World) :
    Calls Tryz.prog 99 #[.int .i64 r] w fun e w' => e = .returned (.bool (goodB r)) ∧ w' = w := by
  go_enter Tryz.func99, Tryz.ntmps99
  go_wp2
  all_goals
    go_ret
    exact ⟨ret_bool (by unfold goodB; rw [Bool.eq_iff_iff]; simp; try omega), rfl⟩
end Go.Proofs.YtnpojefcibfgkaaGreatDoor
namespace Go.Proofs.YtnpojefcibfgkaaGreatDoor
open Go.RowKit

set_option maxRecDepth 100000 in
set_option maxHeartbeats 400000 in
theorem rput_any (r : Int) (w : World) :
    Calls Tryz.prog 74 #[.int .i64 r] w fun e w' => e = .returned (.string (strOfNums (enc r))) ∧ Below w.heap.size w w' := by
  cases hg : goodB r with
  | false =>
    have e : enc r = [] := by unfold enc; rw [hg]; rfl
    rw [e]
    go_enter Tryz.func74, Tryz.ntmps74
    go_wp2_with (first | (go_at_call 99; go_must (refine (rgood_any _ _).mono ?_; rintro e w' ⟨rfl, hw'⟩; obtain rfl := hw'.symm)))
    go_ret
    exact ⟨rfl, Below.refl _ _⟩
  | true =>
    have e : enc r = encI r := by unfold enc; rw [hg]; rfl
    have hrr := of_decide_eq_true hg
    have h0 : 0 ≤ r := hrr.1
    have hm : r ≤ 1114111 := hrr.2.1
    clear hrr
    rw [e]
    unfold encI
    by_cases h1 : r < 128
    · rw [if_pos h1]
      have ho : r % 256 = r := by omega
      have hcv := conv_new w [r] 1 rfl
      simp only [List.map] at hcv
      clear e
      go_enter Tryz.func74, Tryz.ntmps74
      go_wp2_with (first | (go_at_call 99; go_must (refine (rgood_any _ _).mono ?_; rintro e w' ⟨rfl, hw'⟩; obtain rfl := hw'.symm)))
      go_ret
      exact ⟨rfl, (Below.refl _ _).alloc (Nat.le_refl _) _⟩
    · by_cases h2 : r < 2048
      · rw [if_neg h1, if_pos h2]
        have ho : (192 + r / 64) % 256 = 192 + r / 64 := by omega
        have ho2 : (128 + r % 64) % 256 = 128 + r % 64 := by omega
        have hcv := conv_new w [192 + r / 64, 128 + r % 64] 2 rfl
        simp only [List.map] at hcv
        clear e
        go_enter Tryz.func74, Tryz.ntmps74
        go_wp2_with (first | (go_at_call 99; go_must (refine (rgood_any _ _).mono ?_; rintro e w' ⟨rfl, hw'⟩; obtain rfl := hw'.symm)))
        go_ret
        exact ⟨rfl, (Below.refl _ _).alloc (Nat.le_refl _) _⟩
      · by_cases h3 : r < 65536
        · rw [if_neg h1, if_neg h2, if_pos h3]
          have ho : (224 + r / 4096) % 256 = 224 + r / 4096 := by omega
          have ho2 : (128 + r / 64 % 64) % 256 = 128 + r / 64 % 64 := by omega
          have ho3 : (128 + r % 64) % 256 = 128 + r % 64 := by omega
          have hcv := conv_new w [224 + r / 4096, 128 + r / 64 % 64, 128 + r % 64] 3 rfl
          simp only [List.map] at hcv
          clear e
          go_enter Tryz.func74, Tryz.ntmps74
          go_wp2_with (first | (go_at_call 99; go_must (refine (rgood_any _ _).mono ?_; rintro e w' ⟨rfl, hw'⟩; obtain rfl := hw'.symm)))
          go_ret
          exact ⟨rfl, (Below.refl _ _).alloc (Nat.le_refl _) _⟩
        · rw [if_neg h1, if_neg h2, if_neg h3]
          have ho : (240 + r / 262144) % 256 = 240 + r / 262144 := by omega
          have ho1 : (128 + r / 4096 % 64) % 256 = 128 + r / 4096 % 64 := by omega
          have ho2 : (128 + r / 64 % 64) % 256 = 128 + r / 64 % 64 := by omega
          have ho3 : (128 + r % 64) % 256 = 128 + r % 64 := by omega
          have hcv := conv_new w [240 + r / 262144, 128 + r / 4096 % 64, 128 + r / 64 % 64, 128 + r % 64] 4 rfl
          simp only [List.map] at hcv
          clear e
          go_enter Tryz.func74, Tryz.ntmps74
          go_wp2_with (first | (go_at_call 99; go_must (refine (rgood_any _ _).mono ?_; rintro e w' ⟨rfl, hw'⟩; obtain rfl := hw'.symm)))
          go_ret
          exact ⟨rfl, (Below.refl _ _).alloc (Nat.le_refl _) _⟩
end Go.Proofs.YtnpojefcibfgkaaGreatDoor
namespace Go.Proofs.YtnpojefcibfgkaaGreatDoor
open Go.RowKit

theorem toList_some (s : ByteArray) (h : 0 < s.size) : s.toList.isEmpty = false := by
  rw [ByteArray.toList_eq]
  have := list_of s h
  rw [this]; rfl
theorem toList_none (s : ByteArray) (h : s.size = 0) : s.toList.isEmpty = true := by
  rw [ByteArray.toList_eq]
  have : s.data.toList.length = 0 := by simpa using h
  rw [List.length_eq_zero_iff.1 this]; rfl
theorem fol_step' (s : ByteArray) (b k : Nat) (h1 : 1 ≤ k) (h : k < s.size) (hc : cont s[k] = true) :
    64 * (fol (begR b) (rest s k) : Int) + (s[k].toNat : Int) - 128 = (fol (begR b) (rest s (k + 1)) : Int) := by
  rw [rest_snoc s k h1 h, fol_snoc]
  have h2 := of_decide_eq_true hc
  omega

theorem rtake_none (s : ByteArray) (w : World) (h0 : s.size = 0) :
    Calls Tryz.prog 60 #[.string s] w fun e w' => e = .returned (.tuple #[.int .i64 (tkR s.data.toList), .int .i64 (tkN s.data.toList)]) ∧ Below w.heap.size w w' := by
  have e : s.data.toList = [] := by
    have : s.data.toList.length = 0 := by simpa using h0
    exact List.length_eq_zero_iff.1 this
  rw [e]
  have hz := toList_none s h0
  clear e h0
  go_enter Tryz.func60, Tryz.ntmps60
  go_wp2
  go_ret2
  exact ⟨rfl, Below.refl _ _⟩
set_option maxRecDepth 100000 in
set_option maxHeartbeats 400000 in
theorem rtake_no (s : ByteArray) (w : World) (h0 : 0 < s.size) (hN : begN s[0].toNat = 0) (hlo : (128 : Int) ≤ (s[0].toNat : Int)) (hhi : (s[0].toNat : Int) < 192 ∨ (248 : Int) ≤ (s[0].toNat : Int)) :
    Calls Tryz.prog 60 #[.string s] w fun e w' => e = .returned (.tuple #[.int .i64 (tkR s.data.toList), .int .i64 (tkN s.data.toList)]) ∧ Below w.heap.size w w' := by
  have he : s.toList.isEmpty = false := toList_some s h0
  have hub : (s[0].toNat : Int) < 256 := by have := s[0].toNat_lt; omega
  have E := hid (tk_no s h0 (by rw [tkOk_of s h0, hN, decide_eq_false (by omega)]; rfl))
  clear hN
  rcases hhi with hhi | hhi
  all_goals
    go_enter Tryz.func60, Tryz.ntmps60
    go_wp2
    go_ret2
    exact ⟨ret_two (by rw [E.out.1]; rfl) (by rw [E.out.2]; rfl), Below.refl _ _⟩
end Go.Proofs.YtnpojefcibfgkaaGreatDoor
namespace Go.Proofs.YtnpojefcibfgkaaGreatDoor
open Go.RowKit

set_option maxRecDepth 100000 in
set_option maxHeartbeats 800000 in
theorem rtake_one (s : ByteArray) (w : World) (hs : s.size ≤ maxLen) (h0 : 0 < s.size) (hN : begN s[0].toNat = 1) (hlo : (0 : Int) ≤ (s[0].toNat : Int)) (hhi : (s[0].toNat : Int) < 128) :
    Calls Tryz.prog 60 #[.string s] w fun e w' => e = .returned (.tuple #[.int .i64 (tkR s.data.toList), .int .i64 (tkN s.data.toList)]) ∧ Below w.heap.size w w' := by
  unfold maxLen at hs
  have he : s.toList.isEmpty = false := toList_some s h0
  have HN := hid hN
  have HR := hid (show ((begR s[0].toNat : Nat) : Int) = (s[0].toNat : Int) - 0 by unfold begR; (repeat' split) <;> omega)
  by_cases hlen : s.size < 1
  · exact absurd hlen (by omega)
  · clear hN
    go_enter Tryz.func60, Tryz.ntmps60
    go_wp2
    go_loop [6, 7] (fun r i => ∃ k : Nat, 1 ≤ k ∧ k ≤ 1 ∧ i = .int .i64 k ∧ r = .int .i64 (fol (begR s[0].toNat) (rest s k)) ∧ (rest s k).all cont = true) (fun _ i => 1 - (intOf i).toNat)
    case atStart => exact ⟨1, by omega, by omega, rfl, val_int (by simp [rest, fol, HR.out]), by simp [rest]⟩
    case round =>
      obtain ⟨k, hk1, hk2, rfl, rfl, hall⟩ := hrel
      have hfs := fol_small s[0].toNat (rest s k) hall (by have := rest_len s k; omega)
      by_cases hlt : k < 1
      · exact absurd hlt (by omega)
      · obtain rfl : k = 1 := by omega
        have hs2 : (1 : Int) ≤ s.size := by omega
        have hpt := put_test s h0 1 HN.out (by omega) (by omega) hall
        cases hok : tkOk s[0] (s.data.toList.drop 1) with
        | false =>
          rw [hok] at hpt
          have E := hid (tk_no s h0 hok)
          clear hok hall hfs
          go_wp2_with fail
          go_region_with (go_at_call 74; go_must (refine (rput_any _ _).mono ?_; rintro e w' ⟨rfl, hb'⟩))
          go_wp2
          go_ret2
          exact ⟨ret_two (by rw [E.out.1]; rfl) (by rw [E.out.2]; rfl), (Below.refl _ _).drew.trans hb'⟩
        | true =>
          rw [hok] at hpt
          have E := hid (tk_yes s h0 hok)
          clear hok hall hfs
          go_wp2_with fail
          go_region_with (go_at_call 74; go_must (refine (rput_any _ _).mono ?_; rintro e w' ⟨rfl, hb'⟩))
          go_wp2
          go_ret2
          exact ⟨ret_two (by rw [E.out.1, HN.out]) (by rw [E.out.2, HN.out]; rfl), (Below.refl _ _).drew.trans hb'⟩
end Go.Proofs.YtnpojefcibfgkaaGreatDoor
namespace Go.Proofs.YtnpojefcibfgkaaGreatDoor
open Go.RowKit

set_option maxRecDepth 100000 in
set_option maxHeartbeats 800000 in
theorem rtake_two (s : ByteArray) (w : World) (hs : s.size ≤ maxLen) (h0 : 0 < s.size) (hN : begN s[0].toNat = 2) (hlo : (192 : Int) ≤ (s[0].toNat : Int)) (hhi : (s[0].toNat : Int) < 224) :
    Calls Tryz.prog 60 #[.string s] w fun e w' => e = .returned (.tuple #[.int .i64 (tkR s.data.toList), .int .i64 (tkN s.data.toList)]) ∧ Below w.heap.size w w' := by
  unfold maxLen at hs
  have he : s.toList.isEmpty = false := toList_some s h0
  have HN := hid hN
  have HR := hid (show ((begR s[0].toNat : Nat) : Int) = (s[0].toNat : Int) - 192 by unfold begR; (repeat' split) <;> omega)
  by_cases hlen : s.size < 2
  · have E := hid (tk_no s h0 (by rw [tkOk_of s h0, hN, decide_eq_false (by omega)]; rfl))
    clear hN
    go_enter Tryz.func60, Tryz.ntmps60
    go_wp2
    go_ret2
    exact ⟨ret_two (by rw [E.out.1]; rfl) (by rw [E.out.2]; rfl), Below.refl _ _⟩
  · clear hN
    go_enter Tryz.func60, Tryz.ntmps60
    go_wp2
    go_loop [6, 7] (fun r i => ∃ k : Nat, 1 ≤ k ∧ k ≤ 2 ∧ i = .int .i64 k ∧ r = .int .i64 (fol (begR s[0].toNat) (rest s k)) ∧ (rest s k).all cont = true) (fun _ i => 2 - (intOf i).toNat)
    case atStart => exact ⟨1, by omega, by omega, rfl, val_int (by simp [rest, fol, HR.out]), by simp [rest]⟩
    case round =>
      obtain ⟨k, hk1, hk2, rfl, rfl, hall⟩ := hrel
      have hfs := fol_small s[0].toNat (rest s k) hall (by have := rest_len s k; omega)
      by_cases hlt : k < 2
      · have hks : k < s.size := by omega
        by_cases hc : cont s[k] = true
        · have hcc := of_decide_eq_true hc
          have hc1 : 128 ≤ (s[k].toNat : Int) := by omega
          have hc2 : (s[k].toNat : Int) < 192 := by omega
          have HF := hid (fol_step' s s[0].toNat k hk1 hks hc)
          have HA := hid (all_step s k hk1 hks hc hall)
          clear hcc hc
          go_wp2
          go_round
          case rel => exact ⟨k + 1, by omega, by omega, by go_num, val_int HF.out, HA.out⟩
          case measure => simp [intOf]; omega
        · have hc' : cont s[k] = false := by simpa using hc
          have hcc : (s[k].toNat : Int) < 128 ∨ 191 < (s[k].toNat : Int) := by have := of_decide_eq_false hc'; omega
          have E := hid (tk_no s h0 (by rw [tkOk_of s h0, HN.out, all_no s k _ hk1 hlt hks hc']; simp))
          clear hc hc'
          rcases hcc with hcc | hcc
          all_goals
            go_wp2
            go_ret2
            exact ⟨ret_two (by rw [E.out.1]; rfl) (by rw [E.out.2]; rfl), Below.refl _ _⟩
      · obtain rfl : k = 2 := by omega
        have hs2 : (2 : Int) ≤ s.size := by omega
        have hpt := put_test s h0 2 HN.out (by omega) (by omega) hall
        cases hok : tkOk s[0] (s.data.toList.drop 1) with
        | false =>
          rw [hok] at hpt
          have E := hid (tk_no s h0 hok)
          clear hok hall hfs
          go_wp2_with fail
          go_region_with (go_at_call 74; go_must (refine (rput_any _ _).mono ?_; rintro e w' ⟨rfl, hb'⟩))
          go_wp2
          go_ret2
          exact ⟨ret_two (by rw [E.out.1]; rfl) (by rw [E.out.2]; rfl), (Below.refl _ _).drew.trans hb'⟩
        | true =>
          rw [hok] at hpt
          have E := hid (tk_yes s h0 hok)
          clear hok hall hfs
          go_wp2_with fail
          go_region_with (go_at_call 74; go_must (refine (rput_any _ _).mono ?_; rintro e w' ⟨rfl, hb'⟩))
          go_wp2
          go_ret2
          exact ⟨ret_two (by rw [E.out.1, HN.out]) (by rw [E.out.2, HN.out]; rfl), (Below.refl _ _).drew.trans hb'⟩
end Go.Proofs.YtnpojefcibfgkaaGreatDoor
namespace Go.Proofs.YtnpojefcibfgkaaGreatDoor
open Go.RowKit

set_option maxRecDepth 100000 in
set_option maxHeartbeats 800000 in
theorem rtake_three (s : ByteArray) (w : World) (hs : s.size ≤ maxLen) (h0 : 0 < s.size) (hN : begN s[0].toNat = 3) (hlo : (224 : Int) ≤ (s[0].toNat : Int)) (hhi : (s[0].toNat : Int) < 240) :
    Calls Tryz.prog 60 #[.string s] w fun e w' => e = .returned (.tuple #[.int .i64 (tkR s.data.toList), .int .i64 (tkN s.data.toList)]) ∧ Below w.heap.size w w' := by
  unfold maxLen at hs
  have he : s.toList.isEmpty = false := toList_some s h0
  have HN := hid hN
  have HR := hid (show ((begR s[0].toNat : Nat) : Int) = (s[0].toNat : Int) - 224 by unfold begR; (repeat' split) <;> omega)
  by_cases hlen : s.size < 3
  · have E := hid (tk_no s h0 (by rw [tkOk_of s h0, hN, decide_eq_false (by omega)]; rfl))
    clear hN
    go_enter Tryz.func60, Tryz.ntmps60
    go_wp2
    go_ret2
    exact ⟨ret_two (by rw [E.out.1]; rfl) (by rw [E.out.2]; rfl), Below.refl _ _⟩
  · clear hN
    go_enter Tryz.func60, Tryz.ntmps60
    go_wp2
    go_loop [6, 7] (fun r i => ∃ k : Nat, 1 ≤ k ∧ k ≤ 3 ∧ i = .int .i64 k ∧ r = .int .i64 (fol (begR s[0].toNat) (rest s k)) ∧ (rest s k).all cont = true) (fun _ i => 3 - (intOf i).toNat)
    case atStart => exact ⟨1, by omega, by omega, rfl, val_int (by simp [rest, fol, HR.out]), by simp [rest]⟩
    case round =>
      obtain ⟨k, hk1, hk2, rfl, rfl, hall⟩ := hrel
      have hfs := fol_small s[0].toNat (rest s k) hall (by have := rest_len s k; omega)
      by_cases hlt : k < 3
      · have hks : k < s.size := by omega
        by_cases hc : cont s[k] = true
        · have hcc := of_decide_eq_true hc
          have hc1 : 128 ≤ (s[k].toNat : Int) := by omega
          have hc2 : (s[k].toNat : Int) < 192 := by omega
          have HF := hid (fol_step' s s[0].toNat k hk1 hks hc)
          have HA := hid (all_step s k hk1 hks hc hall)
          clear hcc hc
          go_wp2
          go_round
          case rel => exact ⟨k + 1, by omega, by omega, by go_num, val_int HF.out, HA.out⟩
          case measure => simp [intOf]; omega
        · have hc' : cont s[k] = false := by simpa using hc
          have hcc : (s[k].toNat : Int) < 128 ∨ 191 < (s[k].toNat : Int) := by have := of_decide_eq_false hc'; omega
          have E := hid (tk_no s h0 (by rw [tkOk_of s h0, HN.out, all_no s k _ hk1 hlt hks hc']; simp))
          clear hc hc'
          rcases hcc with hcc | hcc
          all_goals
            go_wp2
            go_ret2
            exact ⟨ret_two (by rw [E.out.1]; rfl) (by rw [E.out.2]; rfl), Below.refl _ _⟩
      · obtain rfl : k = 3 := by omega
        have hs2 : (3 : Int) ≤ s.size := by omega
        have hpt := put_test s h0 3 HN.out (by omega) (by omega) hall
        cases hok : tkOk s[0] (s.data.toList.drop 1) with
        | false =>
          rw [hok] at hpt
          have E := hid (tk_no s h0 hok)
          clear hok hall hfs
          go_wp2_with fail
          go_region_with (go_at_call 74; go_must (refine (rput_any _ _).mono ?_; rintro e w' ⟨rfl, hb'⟩))
          go_wp2
          go_ret2
          exact ⟨ret_two (by rw [E.out.1]; rfl) (by rw [E.out.2]; rfl), (Below.refl _ _).drew.trans hb'⟩
        | true =>
          rw [hok] at hpt
          have E := hid (tk_yes s h0 hok)
          clear hok hall hfs
          go_wp2_with fail
          go_region_with (go_at_call 74; go_must (refine (rput_any _ _).mono ?_; rintro e w' ⟨rfl, hb'⟩))
          go_wp2
          go_ret2
          exact ⟨ret_two (by rw [E.out.1, HN.out]) (by rw [E.out.2, HN.out]; rfl), (Below.refl _ _).drew.trans hb'⟩
end Go.Proofs.YtnpojefcibfgkaaGreatDoor
namespace Go.Proofs.YtnpojefcibfgkaaGreatDoor
open Go.RowKit

set_option maxRecDepth 100000 in
set_option maxHeartbeats 800000 in
theorem rtake_four (s : ByteArray) (w : World) (hs : s.size ≤ maxLen) (h0 : 0 < s.size) (hN : begN s[0].toNat = 4) (hlo : (240 : Int) ≤ (s[0].toNat : Int)) (hhi : (s[0].toNat : Int) < 248) :
    Calls Tryz.prog 60 #[.string s] w fun e w' => e = .returned (.tuple #[.int .i64 (tkR s.data.toList), .int .i64 (tkN s.data.toList)]) ∧ Below w.heap.size w w' := by
  unfold maxLen at hs
  have he : s.toList.isEmpty = false := toList_some s h0
  have HN := hid hN
  have HR := hid (show ((begR s[0].toNat : Nat) : Int) = (s[0].toNat : Int) - 240 by unfold begR; (repeat' split) <;> omega)
  by_cases hlen : s.size < 4
  · have E := hid (tk_no s h0 (by rw [tkOk_of s h0, hN, decide_eq_false (by omega)]; rfl))
    clear hN
    go_enter Tryz.func60, Tryz.ntmps60
    go_wp2
    go_ret2
    exact ⟨ret_two (by rw [E.out.1]; rfl) (by rw [E.out.2]; rfl), Below.refl _ _⟩
  · clear hN
    go_enter Tryz.func60, Tryz.ntmps60
    go_wp2
    go_loop [6, 7] (fun r i => ∃ k : Nat, 1 ≤ k ∧ k ≤ 4 ∧ i = .int .i64 k ∧ r = .int .i64 (fol (begR s[0].toNat) (rest s k)) ∧ (rest s k).all cont = true) (fun _ i => 4 - (intOf i).toNat)
    case atStart => exact ⟨1, by omega, by omega, rfl, val_int (by simp [rest, fol, HR.out]), by simp [rest]⟩
    case round =>
      obtain ⟨k, hk1, hk2, rfl, rfl, hall⟩ := hrel
      have hfs := fol_small s[0].toNat (rest s k) hall (by have := rest_len s k; omega)
      by_cases hlt : k < 4
      · have hks : k < s.size := by omega
        by_cases hc : cont s[k] = true
        · have hcc := of_decide_eq_true hc
          have hc1 : 128 ≤ (s[k].toNat : Int) := by omega
          have hc2 : (s[k].toNat : Int) < 192 := by omega
          have HF := hid (fol_step' s s[0].toNat k hk1 hks hc)
          have HA := hid (all_step s k hk1 hks hc hall)
          clear hcc hc
          go_wp2
          go_round
          case rel => exact ⟨k + 1, by omega, by omega, by go_num, val_int HF.out, HA.out⟩
          case measure => simp [intOf]; omega
        · have hc' : cont s[k] = false := by simpa using hc
          have hcc : (s[k].toNat : Int) < 128 ∨ 191 < (s[k].toNat : Int) := by have := of_decide_eq_false hc'; omega
          have E := hid (tk_no s h0 (by rw [tkOk_of s h0, HN.out, all_no s k _ hk1 hlt hks hc']; simp))
          clear hc hc'
          rcases hcc with hcc | hcc
          all_goals
            go_wp2
            go_ret2
            exact ⟨ret_two (by rw [E.out.1]; rfl) (by rw [E.out.2]; rfl), Below.refl _ _⟩
      · obtain rfl : k = 4 := by omega
        have hs2 : (4 : Int) ≤ s.size := by omega
        have hpt := put_test s h0 4 HN.out (by omega) (by omega) hall
        cases hok : tkOk s[0] (s.data.toList.drop 1) with
        | false =>
          rw [hok] at hpt
          have E := hid (tk_no s h0 hok)
          clear hok hall hfs
          go_wp2_with fail
          go_region_with (go_at_call 74; go_must (refine (rput_any _ _).mono ?_; rintro e w' ⟨rfl, hb'⟩))
          go_wp2
          go_ret2
          exact ⟨ret_two (by rw [E.out.1]; rfl) (by rw [E.out.2]; rfl), (Below.refl _ _).drew.trans hb'⟩
        | true =>
          rw [hok] at hpt
          have E := hid (tk_yes s h0 hok)
          clear hok hall hfs
          go_wp2_with fail
          go_region_with (go_at_call 74; go_must (refine (rput_any _ _).mono ?_; rintro e w' ⟨rfl, hb'⟩))
          go_wp2
          go_ret2
          exact ⟨ret_two (by rw [E.out.1, HN.out]) (by rw [E.out.2, HN.out]; rfl), (Below.refl _ _).drew.trans hb'⟩
end Go.Proofs.YtnpojefcibfgkaaGreatDoor
namespace Go.Proofs.YtnpojefcibfgkaaGreatDoor
open Go.RowKit

theorem rtake_all (s : ByteArray) (w : World) (hs : s.size ≤ maxLen) :
    Calls Tryz.prog 60 #[.string s] w fun e w' => e = .returned (.tuple #[.int .i64 (tkR s.data.toList), .int .i64 (tkN s.data.toList)]) ∧ Below w.heap.size w w' := by
  by_cases h0 : s.size = 0
  · exact rtake_none s w h0
  · have hp : 0 < s.size := by omega
    have hb := s[0].toNat_lt
    by_cases h1 : s[0].toNat < 128
    · exact rtake_one s w hs hp (by unfold begN; rw [if_pos h1]) (by omega) (by omega)
    · by_cases h2 : s[0].toNat < 192
      · exact rtake_no s w hp (by unfold begN; rw [if_neg h1, if_pos h2]) (by omega) (Or.inl (by omega))
      · by_cases h3 : s[0].toNat < 224
        · exact rtake_two s w hs hp (by unfold begN; rw [if_neg h1, if_neg h2, if_pos h3]) (by omega) (by omega)
        · by_cases h4 : s[0].toNat < 240
          · exact rtake_three s w hs hp (by unfold begN; rw [if_neg h1, if_neg h2, if_neg h3, if_pos h4]) (by omega) (by omega)
          · by_cases h5 : s[0].toNat < 248
            · exact rtake_four s w hs hp (by unfold begN; rw [if_neg h1, if_neg h2, if_neg h3, if_neg h4, if_pos h5]) (by omega) (by omega)
            · exact rtake_no s w hp (by unfold begN; rw [if_neg h1, if_neg h2, if_neg h3, if_neg h4, if_neg h5]) (by omega) (Or.inr (by omega))
theorem rtake_at (s : ByteArray) (p : Nat) (w : World) (hs : s.size ≤ maxLen) :
    Calls Tryz.prog 60 #[.string (s.extract p s.size)] w fun e w' => e = .returned (.tuple #[.int .i64 (tkR (s.data.toList.drop p)), .int .i64 (tkN (s.data.toList.drop p))]) ∧ Below w.heap.size w w' := by
  have h := rtake_all (s.extract p s.size) w (cut_size s p hs)
  rw [drop_list] at h
  exact h
end Go.Proofs.YtnpojefcibfgkaaGreatDoor
namespace Go.Proofs.YtnpojefcibfgkaaGreatDoor
open Go.RowKit

set_option maxRecDepth 100000 in
set_option maxHeartbeats 400000 in
theorem rvalid_any (s : ByteArray) (w : World) (hs : s.size ≤ maxLen) :
    Calls Tryz.prog 29 #[.string s] w fun e w' => e = .returned (.int .i64 (rvI s.data.toList)) ∧ Below w.heap.size w w' := by
  have HS := hid hs
  have HZ := hid (size_list s)
  unfold maxLen at hs
  go_enter Tryz.func29, Tryz.ntmps29
  go_wp2
  go_loopw [3] (fun i wr => ∃ k : Nat, i = .int .i64 (pos s.data.toList k) ∧ pos s.data.toList k ≤ s.size ∧ (∀ j < k, vgo s.data.toList j = true) ∧ Below w.heap.size w wr) (fun i _ => s.size - (intOf i).toNat)
  case atStart => exact ⟨0, rfl, Nat.zero_le _, fun j hj => absurd hj (Nat.not_lt_zero j), Below.refl _ _⟩
  case round =>
    obtain ⟨k, rfl, hp, hj, hbel⟩ := hrel
    have hk := pos_ge s.data.toList k
    have HJ := hid hj
    have HB := hid hbel
    clear hj hbel
    have hz := HZ.out
    by_cases hlt : pos s.data.toList k < s.size
    · by_cases h0 : tkN (s.data.toList.drop (pos s.data.toList k)) = 0
      · have HC := hid (vlk_eq s.data.toList k (by simp [vgo, h0]) HJ.out (by omega))
        have h0' : (((tkN (s.data.toList.drop (pos s.data.toList k)) : Nat) : Int) == 0) = true := by rw [h0]; rfl
        clear hz h0
        go_wp2_with (first | (go_at_call 60; go_must (refine (rtake_at _ _ _ HS.out).mono ?_; rintro e w' ⟨rfl, hb'⟩)))
        go_ret
        exact ⟨ret_int (by have hz := HZ.out; unfold rvI; rw [← HC.out, if_neg (by omega)]), HB.out.trans (hb'.mono HB.out.size)⟩
      · have hn := pos_next s.data.toList k (by omega)
        have HV := hid (show vgo s.data.toList k = true by simp only [vgo, Bool.and_eq_true, decide_eq_true_eq]; exact ⟨by omega, h0⟩)
        have h0' : (((tkN (s.data.toList.drop (pos s.data.toList k)) : Nat) : Int) == 0) = false := by rw [beq_eq_false_iff_ne]; omega
        have hn' : pos s.data.toList k + tkN (s.data.toList.drop (pos s.data.toList k)) ≤ s.size := by simp only [pos, stp] at hn; omega
        have H0 := hid h0
        clear hz hn h0
        go_wp2_with (first | (go_at_call 60; go_must (refine (rtake_at _ _ _ HS.out).mono ?_; rintro e w' ⟨rfl, hb'⟩)))
        go_roundw
        case rel =>
          have h0 := H0.out
          refine ⟨k + 1, val_int (pos_succ' _ _ h0), by simp only [pos, stp]; omega, fun j hj => ?_, HB.out.trans (hb'.mono HB.out.size)⟩
          by_cases hjk : j = k
          · rw [hjk]; exact HV.out
          · exact HJ.out j (by omega)
        case measure => have h0 := H0.out; simp [intOf]; omega
    · have HC := hid (vlk_eq s.data.toList k (by simp [vgo]; omega) HJ.out (by omega))
      clear hz
      go_wp2
      go_ret
      exact ⟨ret_int (by have hz := HZ.out; unfold rvI; rw [← HC.out, if_pos (by omega)]), HB.out⟩
end Go.Proofs.YtnpojefcibfgkaaGreatDoor
namespace Go.Proofs.YtnpojefcibfgkaaGreatDoor
open Go.RowKit

theorem parts_yes (s : ByteArray) (w : World) (hs : s.size ≤ maxLen) (h : pOk s.data.toList = true) :
    Calls Tryz.prog 58 #[.string s] w fun e w' => e = .returned (.tuple #[.bool (pNeg s.data.toList), .string (mkS (pW s.data.toList)), .string (mkS (pF s.data.toList)), .string (mkS (pP s.data.toList)), .bool true]) ∧ w' = w := by
  refine (parts_any s w hs).mono ?_
  rintro e w' ⟨rfl, rfl⟩
  exact ⟨by unfold partsV; rw [h]; rfl, rfl⟩
theorem parts_none (s : ByteArray) (w : World) (hs : s.size ≤ maxLen) (h : pOk s.data.toList = false) :
    Calls Tryz.prog 58 #[.string s] w fun e w' => e = .returned (.tuple #[.bool false, .string ⟨#[]⟩, .string ⟨#[]⟩, .string ⟨#[]⟩, .bool false]) ∧ w' = w := by
  refine (parts_any s w hs).mono ?_
  rintro e w' ⟨rfl, rfl⟩
  exact ⟨by unfold partsV; rw [h]; rfl, rfl⟩
theorem power_mk (l : List UInt8) (w : World) (hs : l.length ≤ maxLen) :
    Calls Tryz.prog 73 #[.string (mkS l)] w fun e w' => e = .returned (.tuple #[.int .i64 (pwV l), .bool (pwOk l)]) ∧ w' = w := by
  have := power_any (mkS l) w (by rw [mkS_size]; exact hs)
  rwa [mkS_list] at this
theorem ret_bb {a b c d : Bool} (h : a = b) (g : c = d) : Ending.returned (.tuple #[.bool a, .bool c]) = .returned (.tuple #[.bool b, .bool d]) := by rw [h, g]
set_option maxRecDepth 100000 in
set_option maxHeartbeats 400000 in
theorem form_any (s : ByteArray) (w : World) (hs : s.size ≤ maxLen) :
    Calls Tryz.prog 59 #[.string s] w fun e w' => e = .returned (.tuple #[.bool (pOk s.data.toList), .bool (pOk s.data.toList && !pwOk (pP s.data.toList))]) ∧ w' = w := by
  have HP := hid (show (pP s.data.toList).length ≤ maxLen by have := parts_len s.data.toList; rw [size_list] at this; omega)
  cases hp : pOk s.data.toList with
  | false =>
    go_enter Tryz.func59, Tryz.ntmps59
    go_wp2_with (first
      | (go_at_call 58; go_must (refine (parts_none _ _ hs hp).mono ?_; rintro e w' ⟨rfl, hw⟩; obtain rfl := hw.symm))
      | (go_at_call 73; go_must (refine (power_any _ _ (by decide)).mono ?_; rintro e w' ⟨rfl, hw⟩; obtain rfl := hw.symm)))
    go_ret2
    exact ⟨rfl, rfl⟩
  | true =>
    cases hq : pwOk (pP s.data.toList)
    all_goals
      go_enter Tryz.func59, Tryz.ntmps59
      go_wp2_with (first
        | (go_at_call 58; go_must (refine (parts_yes _ _ hs hp).mono ?_; rintro e w' ⟨rfl, hw⟩; obtain rfl := hw.symm))
        | (go_at_call 73; go_must (refine (power_mk _ _ HP.out).mono ?_; rintro e w' ⟨rfl, hw⟩; obtain rfl := hw.symm)))
      go_ret2
      exact ⟨rfl, rfl⟩
set_option maxRecDepth 100000 in
set_option maxHeartbeats 400000 in
theorem number_any (s : ByteArray) (w : World) (hs : s.size ≤ maxLen) :
    Calls Tryz.prog 28 #[.string s] w fun e w' => e = .returned (.bool (numB s.data.toList)) ∧ w' = w := by
  have HZ := hid (size_list s)
  cases hp : pOk s.data.toList with
  | false =>
    have H := hid (show numB s.data.toList = false by unfold numB; rw [hp]; rfl)
    go_enter Tryz.func28, Tryz.ntmps28
    go_wp2_with (go_at_call 59; go_must (refine (form_any _ _ hs).mono ?_; rintro e w' ⟨rfl, hw⟩; obtain rfl := hw.symm; rw [hp]))
    go_ret
    exact ⟨ret_bool H.out.symm, rfl⟩
  | true =>
    cases hq : pwOk (pP s.data.toList) with
    | false =>
      have H := hid (show numB s.data.toList = false by unfold numB; rw [hp, hq]; rfl)
      go_enter Tryz.func28, Tryz.ntmps28
      go_wp2_with (go_at_call 59; go_must (refine (form_any _ _ hs).mono ?_; rintro e w' ⟨rfl, hw⟩; obtain rfl := hw.symm; rw [hp, hq]))
      go_ret
      exact ⟨ret_bool H.out.symm, rfl⟩
    | true =>
      by_cases h4 : s.size ≤ 400
      · have H := hid (show numB s.data.toList = true by unfold numB; rw [hp, hq, HZ.out]; simpa using h4)
        go_enter Tryz.func28, Tryz.ntmps28
        go_wp2_with (go_at_call 59; go_must (refine (form_any _ _ hs).mono ?_; rintro e w' ⟨rfl, hw⟩; obtain rfl := hw.symm; rw [hp, hq]))
        go_ret
        exact ⟨ret_bool (by rw [H.out]; simp; omega), rfl⟩
      · have H := hid (show numB s.data.toList = false by unfold numB; rw [hp, hq, HZ.out]; simpa using h4)
        go_enter Tryz.func28, Tryz.ntmps28
        go_wp2_with (go_at_call 59; go_must (refine (form_any _ _ hs).mono ?_; rintro e w' ⟨rfl, hw⟩; obtain rfl := hw.symm; rw [hp, hq]))
        go_ret
        exact ⟨ret_bool (by rw [H.out]; simp; omega), rfl⟩
theorem mkS_add (a b : List UInt8) : mkS a ++ mkS b = mkS (a ++ b) := by
  apply mkS_of; simp [mkS]
theorem first_rest (x : ByteArray) (h : 0 < x.size) : x.data.toList = x[0] :: (x.extract 1 x.size).data.toList := by
  rw [drop_list]; exact list_of x h
theorem last_rest (x : ByteArray) (k : Nat) (h : k + 1 = x.size) : x.data.toList = (x.extract 0 k).data.toList ++ [x[k]] := by
  rw [cut_list]
  have hk : k < x.data.toList.length := by rw [size_list]; omega
  have e := List.take_succ_eq_append_getElem hk
  rw [List.take_of_length_le (by rw [size_list]; omega)] at e
  exact e
theorem ret_bst {n m : Bool} {x y : ByteArray} {a b : Int} (h : n = m) (g : x = y) (k : a = b) : Ending.returned (.tuple #[.bool n, .string x, .int .i64 a]) = .returned (.tuple #[.bool m, .string y, .int .i64 b]) := by rw [h, g, k]
def szOf (v : Value) : Nat := match v with | .string x => x.size | _ => 0
theorem rst_nil : rst [] = [] := rfl
theorem lst_nil : lst [] = [] ∧ lz [] = 0 := ⟨rfl, rfl⟩
set_option maxRecDepth 100000 in
set_option maxHeartbeats 1000000 in
theorem scaled_any (s : ByteArray) (w : World) (hs : s.size ≤ 1000000) (hp : pOk s.data.toList = true) :
    Calls Tryz.prog 70 #[.string s] w fun e w' => e = .returned (.tuple #[.bool (scN s.data.toList), .string (mkS (scD s.data.toList)), .int .i64 (scT s.data.toList)]) ∧ w' = w := by
  obtain ⟨l, hl⟩ : ∃ l, s.data.toList = l := ⟨_, rfl⟩
  have HO := hid hp
  rw [hl] at hp ⊢
  have hpl := parts_len l
  have hll : l.length ≤ 1000000 := by rw [← hl, size_list]; exact hs
  have HL := hid hl
  clear hl
  have HP := hid (show (pP l).length ≤ 1000000 by omega)
  have hW : (mkS (pW l)).size = (pW l).length := mkS_size _
  have hF : (mkS (pF l)).size = (pF l).length := mkS_size _
  have hFl : (pF l).length ≤ 1000000 := by omega
  have hWl : (pW l).length ≤ 1000000 := by omega
  have hv := pwV_bd (pP l)
  have hadd := mkS_add (pW l) (pF l)
  have hz := lz_le (pW l ++ pF l)
  rw [List.length_append] at hz
  go_enter Tryz.func70, Tryz.ntmps70
  go_wp2_with (first
    | (go_at_call 58; go_must (refine (parts_yes _ _ (max_le hs) HO.out).mono ?_; rintro e w' ⟨rfl, hw⟩; obtain rfl := hw.symm; rw [HL.out]))
    | (go_at_call 73; go_must (refine (power_mk _ _ (max_le HP.out)).mono ?_; rintro e w' ⟨rfl, hw⟩; obtain rfl := hw.symm)))
  go_loop [12, 13] (fun d t => ∃ (x : ByteArray) (k : Nat), d = .string x ∧ t = .int .i64 (((pW l).length : Int) - 1 + pwV (pP l) - k) ∧ k ≤ 1000000 ∧ x.size ≤ 1000000 ∧ Hid (lst x.data.toList = lst (pW l ++ pF l) ∧ lz x.data.toList + k = lz (pW l ++ pF l))) (fun d _ => szOf d)
  case atStart => exact ⟨mkS (pW l ++ pF l), 0, rfl, val_int (by simp), by omega, by rw [mkS_size, List.length_append]; omega, ⟨by rw [mkS_list], by rw [mkS_list]; rfl⟩⟩
  case round =>
    obtain ⟨x, k, rfl, rfl, hk, hx, HX⟩ := hrel
    by_cases hz0 : 0 < x.size ∧ (x.data.toList.getD 0 0).toNat = 48
    · obtain ⟨h0, h48⟩ := hz0
      have h1 := emp_no x (by intro hc; rw [hc] at h48; exact absurd h48 (by decide))
      have F := hid (first_rest x h0)
      rw [getD_at x 0 h0] at h48
      have h2 : ((x[0].toNat : Int) == 48) = true := byte_is _ _ h48
      have HC := hid (lz_cons x[0] (x.extract 1 x.size).data.toList h48)
      have hk' : k + 1 ≤ 1000000 := by
        have h3 := HX.out.2; rw [F.out, HC.out.1] at h3; omega
      clear h48
      go_wp2_with fail
      go_round
      case rel => exact ⟨x.extract 1 x.size, k + 1, rfl, val_int (by omega), hk', by rw [ByteArray.size_extract]; omega, ⟨by rw [← HX.out.1, F.out, HC.out.2], by have h3 := HX.out.2; rw [F.out, HC.out.1] at h3; omega⟩⟩
      case measure => simp [szOf]; omega
    · have hX : lst x.data.toList = x.data.toList ∧ lz x.data.toList = 0 ∧ (x.data.toList = [] ∨ (0 < x.size ∧ ¬ (x.data.toList.getD 0 0).toNat = 48)) := by
        by_cases h0 : 0 < x.size
        · have h48 : ¬ (x.data.toList.getD 0 0).toNat = 48 := fun h => hz0 ⟨h0, h⟩
          have := first_rest x h0
          rw [getD_at x 0 h0] at h48
          have h5 := lz_stop x[0] (x.extract 1 x.size).data.toList h48
          rw [← this] at h5
          exact ⟨h5.2, h5.1, Or.inr ⟨h0, by rw [getD_at x 0 h0]; exact h48⟩⟩
        · have : x.data.toList = [] := List.eq_nil_of_length_eq_zero (by rw [size_list]; omega)
          rw [this]; exact ⟨rfl, rfl, Or.inl rfl⟩
      obtain ⟨hX1, hX2, hX3⟩ := hX
      have HD := hid (show rst x.data.toList = scD l by unfold scD; rw [← HX.out.1, hX1])
      have HK := hid (show k = lz (pW l ++ pF l) by have := HX.out.2; omega)
      clear hX1 hX2 hz0
      have hcase : (x.toList.isEmpty = true) ∨ ∃ h0 : 0 < x.size, x.toList.isEmpty = false ∧ ((x[0].toNat : Int) == 48) = false := by
        rcases hX3 with h | ⟨h0, h⟩
        · exact Or.inl (emp_yes x h)
        · exact Or.inr ⟨h0, emp_no x (by intro hc; have := size_list x; rw [hc] at this; simp at this; omega), byte_not _ _ (by rw [← getD_at x 0 h0]; exact h)⟩
      clear hX3
      rcases hcase with h1 | ⟨h0, h1, h2⟩
      all_goals
        go_wp2_with fail
        clear h1
        go_loop [12] (fun d => ∃ y : ByteArray, d = .string y ∧ y.size ≤ 1000000 ∧ Hid (rst y.data.toList = scD l)) (fun d => szOf d)
        case atStart => exact ⟨x, rfl, hx, HD⟩
        case round =>
          obtain ⟨y, rfl, hy, HY⟩ := hrel
          by_cases he : y.data.toList = []
          · have h3 := emp_yes y he
            have H := hid (show scD l = [] by rw [← HY.out, he]; rfl)
            clear he
            go_wp2_with fail
            go_ret3
            exact ⟨ret_bst (by unfold scN; rw [H.out]; rfl) (by rw [H.out]; rfl) (by unfold scT; rw [H.out]; rfl), rfl⟩
          · have h3 := emp_no y he
            have h4 := emp_size y he
            have HE := hid he
            clear he
            obtain ⟨j, hj⟩ : ∃ j, y.size = j + 1 := ⟨y.size - 1, by omega⟩
            have hjy : j < y.size := by omega
            have L := hid (last_rest y j hj.symm)
            have ej : ((j + 1 : Nat) : Int) - 1 = (j : Int) := by omega
            by_cases h48 : y[j].toNat = 48
            · have h5 : ((y[j].toNat : Int) == 48) = true := byte_is _ _ h48
              have HS := hid (rst_snoc y[j] (y.extract 0 j).data.toList h48)
              clear h48
              go_wp2_with fail
              go_round
              case rel => exact ⟨y.extract 0 j, rfl, by rw [ByteArray.size_extract]; omega, show _ = _ by rw [← HS.out, ← L.out]; exact HY.out⟩
              case measure => simp [szOf]; omega
            · have h5 : ((y[j].toNat : Int) == 48) = false := byte_not _ _ h48
              have HS := hid (rst_stop y[j] (y.extract 0 j).data.toList h48)
              have H := hid (show scD l = y.data.toList by rw [← HY.out, L.out, HS.out])
              have HN := hid (show ¬ scD l = [] by rw [H.out]; exact HE.out)
              clear h48
              go_wp2_with fail
              go_ret3
              exact ⟨ret_bst (by unfold scN; rw [if_neg HN.out]) (mkS_of _ _ H.out.symm) (by unfold scT; rw [if_neg HN.out, ← HK.out]), rfl⟩
end Go.Proofs.YtnpojefcibfgkaaGreatDoor
namespace Go.Proofs.YtnpojefcibfgkaaGreatDoor
open Go.RowKit

theorem num_ok {l : List UInt8} (h : numB l = true) : pOk l = true := by
  unfold numB at h; simp only [Bool.and_eq_true] at h; exact h.1.1
theorem num_len {l : List UInt8} (h : numB l = true) : l.length ≤ 400 := by
  unfold numB at h; simp only [Bool.and_eq_true, decide_eq_true_eq] at h; exact h.2
theorem num_size {s : ByteArray} (h : numB s.data.toList = true) : s.size ≤ 1000000 := by have := num_len h; rw [size_list] at this; omega
theorem emp_mk_yes (l : List UInt8) (h : l = []) : (mkS l).toList.isEmpty = true := emp_yes _ (by rw [mkS_list]; exact h)
theorem emp_mk_no (l : List UInt8) (h : ¬ l = []) : (mkS l).toList.isEmpty = false := emp_no _ (by rw [mkS_list]; exact h)
theorem sign_mk (n : Bool) (d : List UInt8) (w : World) :
    Calls Tryz.prog 71 #[.bool n, .string (mkS d)] w fun e w' => e = .returned (.int .i64 (sgI n d)) ∧ w' = w := by
  have := sign_any n (mkS d) w
  rwa [mkS_list] at this
set_option maxRecDepth 100000 in
set_option maxHeartbeats 1000000 in
theorem cmp_any (a b : ByteArray) (w : World) (ha : a.size ≤ maxLen) (hb : b.size ≤ maxLen) :
    Calls Tryz.prog 57 #[.string a, .string b] w fun e w' => e = .returned (.int .i64 (cmpI a.data.toList b.data.toList)) ∧ w' = w := by
  have NA := hid (fun w => number_any a w ha)
  have NB := hid (fun w => number_any b w hb)
  obtain ⟨k, hk⟩ : ∃ k, a.data.toList = k := ⟨_, rfl⟩
  obtain ⟨l, hl⟩ : ∃ l, b.data.toList = l := ⟨_, rfl⟩
  rw [hk, hl]
  rw [hk] at NA
  rw [hl] at NB
  have SA := hid (fun w (h : numB a.data.toList = true) => scaled_any a w (num_size h) (num_ok h))
  have SB := hid (fun w (h : numB b.data.toList = true) => scaled_any b w (num_size h) (num_ok h))
  rw [hk] at SA
  rw [hl] at SB
  clear hk hl
  cases hx : numB k
  · cases hy : numB l
    all_goals
      have H := hid (show cmpI k l = _ by unfold cmpI; rw [hx, hy])
      go_enter Tryz.func57, Tryz.ntmps57
      go_wp2_with (first
        | (go_at_call_of 28 a; go_must (refine (NA.out _).mono ?_; rintro e w' ⟨rfl, hw⟩; obtain rfl := hw.symm; rw [hx]))
        | (go_at_call_of 28 b; go_must (refine (NB.out _).mono ?_; rintro e w' ⟨rfl, hw⟩; obtain rfl := hw.symm; rw [hy])))
      go_ret
      exact ⟨ret_int H.out.symm, rfl⟩
  · cases hy : numB l
    · have H := hid (show cmpI k l = _ by unfold cmpI; rw [hx, hy])
      go_enter Tryz.func57, Tryz.ntmps57
      go_wp2_with (first
        | (go_at_call_of 28 a; go_must (refine (NA.out _).mono ?_; rintro e w' ⟨rfl, hw⟩; obtain rfl := hw.symm; rw [hx]))
        | (go_at_call_of 28 b; go_must (refine (NB.out _).mono ?_; rintro e w' ⟨rfl, hw⟩; obtain rfl := hw.symm; rw [hy])))
      go_ret
      exact ⟨ret_int H.out.symm, rfl⟩
    · have H := hid (show cmpI k l = tcmp (scN k) (scD k) (scT k) (scN l) (scD l) (scT l) by unfold cmpI; rw [hx, hy]; rfl)
      have SA' := hid (fun w => SA.out w hx)
      have SB' := hid (fun w => SB.out w hy)
      rw [H.out]
      generalize scN k = p at SA' ⊢
      generalize scD k = d at SA' ⊢
      generalize scT k = n at SA' ⊢
      generalize scN l = q at SB' ⊢
      generalize scD l = e at SB' ⊢
      generalize scT l = m at SB' ⊢
      go_enter Tryz.func57, Tryz.ntmps57
      go_upto_region 10 with (first
        | (go_at_call_of 28 a; go_must (refine (NA.out _).mono ?_; rintro e w' ⟨rfl, hw⟩; obtain rfl := hw.symm; rw [hx]))
        | (go_at_call_of 28 b; go_must (refine (NB.out _).mono ?_; rintro e w' ⟨rfl, hw⟩; obtain rfl := hw.symm; rw [hy]))
        | (go_at_call_of 70 a; go_must (refine (SA'.out _).mono ?_; rintro e w' ⟨rfl, hw⟩; obtain rfl := hw.symm))
        | (go_at_call_of 70 b; go_must (refine (SB'.out _).mono ?_; rintro e w' ⟨rfl, hw⟩; obtain rfl := hw.symm)))
      go_cut [56] from 16 (fun v wx => v = .bool (decide (d = e ∧ p = q ∧ n = m)) ∧ wx = w)
      case first =>
        by_cases h1 : d = e
        · have h2 : ((mkS d).toList == (mkS e).toList) = true := by rw [h1]; simp
          by_cases h3 : p = q
          · have h4 : (p == q) = true := by rw [h3]; simp
            by_cases h5 : n = m
            · have h6 : (n == m) = true := by rw [h5]; simp
              have H := hid (show decide (d = e ∧ p = q ∧ n = m) = true by simp [h1, h3, h5])
              clear h1 h3 h5
              go_wp2_with fail
              go_meet
              exact ⟨by rw [H.out], rfl⟩
            · have h6 : (n == m) = false := by simp [h5]
              have H := hid (show decide (d = e ∧ p = q ∧ n = m) = false by simp [h5])
              clear h1 h3 h5
              go_wp2_with fail
              go_meet
              exact ⟨by rw [H.out], rfl⟩
          · have h4 : (p == q) = false := by simp [h3]
            have H := hid (show decide (d = e ∧ p = q ∧ n = m) = false by simp [h3])
            clear h1 h3
            go_wp2_with fail
            go_meet
            exact ⟨by rw [H.out], rfl⟩
        · have h2 : ((mkS d).toList == (mkS e).toList) = false := by
            rw [beq_eq_false_iff_ne, Lib.toList_data, Lib.toList_data, mkS_list, mkS_list]; exact h1
          have H := hid (show decide (d = e ∧ p = q ∧ n = m) = false by simp [h1])
          clear h1
          go_wp2_with fail
          go_meet
          exact ⟨by rw [H.out], rfl⟩
      case rest =>
      obtain ⟨rfl, rfl⟩ := hcut
      by_cases hall : d = e ∧ p = q ∧ n = m
      · have h1 : decide (d = e ∧ p = q ∧ n = m) = true := by simpa using hall
        have H := hid (show tcmp p d n q e m = 0 by unfold tcmp; rw [if_pos hall])
        clear hall
        rw [h1]
        go_wp2_with fail
        go_ret
        exact ⟨ret_int H.out.symm, rfl⟩
      · have h1 : decide (d = e ∧ p = q ∧ n = m) = false := by simpa using hall
        have HA := hid hall
        clear hall
        rw [h1]
        by_cases hst : sgI p d = sgI q e
        · have h2 : (sgI p d != sgI q e) = false := by rw [hst]; simp
          have HS := hid hst
          have hB : Op.bytesLess (mkS d).toList (mkS e).toList = ltB d e := by rw [Lib.toList_data, Lib.toList_data, mkS_list, mkS_list]; rfl
          clear hst
          go_upto_region 17 with (go_at_call 71; go_must (refine (sign_mk _ _ _).mono ?_; rintro e w' ⟨rfl, hw⟩; obtain rfl := hw.symm))
          go_cut [15] from 16 (fun v wx => v = .bool (lessB d n e m) ∧ wx = wc)
          case first =>
            by_cases h3 : n < m
            · have H := hid (show lessB d n e m = true by simp [lessB, h3])
              go_wp2_with fail
              go_meet
              exact ⟨by rw [H.out], rfl⟩
            · by_cases h5 : n = m
              · have h6 : (n == m) = true := by rw [h5]; simp
                have H := hid (show lessB d n e m = ltB d e by simp [lessB, h5])
                clear h5
                go_wp2_with fail
                go_meet
                exact ⟨by rw [H.out], rfl⟩
              · have h6 : (n == m) = false := by simp [h5]
                have H := hid (show lessB d n e m = false by simp [lessB, h5, h3])
                clear h5
                go_wp2_with fail
                go_meet
                exact ⟨by rw [H.out], rfl⟩
          case rest =>
          obtain ⟨rfl, rfl⟩ := hcut
          by_cases hq : lessB d n e m = decide (0 < sgI p d)
          · have h5 : (lessB d n e m == decide (0 < sgI p d)) = true := by rw [hq]; simp
            have H := hid (show tcmp p d n q e m = -1 by unfold tcmp; rw [if_neg HA.out, if_pos HS.out, if_pos hq])
            clear hq
            go_wp2_with fail
            go_ret
            exact ⟨ret_int H.out.symm, rfl⟩
          · have h5 : (lessB d n e m == decide (0 < sgI p d)) = false := by simpa using hq
            have H := hid (show tcmp p d n q e m = 1 by unfold tcmp; rw [if_neg HA.out, if_pos HS.out, if_neg hq])
            clear hq
            go_wp2_with fail
            go_ret
            exact ⟨ret_int H.out.symm, rfl⟩
        · have h2 : (sgI p d != sgI q e) = true := by simpa using hst
          have HS := hid hst
          clear hst
          by_cases h3 : sgI p d < sgI q e
          · have H := hid (show tcmp p d n q e m = -1 by unfold tcmp; rw [if_neg HA.out, if_neg HS.out, if_pos h3])
            go_wp2_with (go_at_call 71; go_must (refine (sign_mk _ _ _).mono ?_; rintro e w' ⟨rfl, hw⟩; obtain rfl := hw.symm))
            go_ret
            exact ⟨ret_int H.out.symm, rfl⟩
          · have H := hid (show tcmp p d n q e m = 1 by unfold tcmp; rw [if_neg HA.out, if_neg HS.out, if_neg h3])
            go_wp2_with (go_at_call 71; go_must (refine (sign_mk _ _ _).mono ?_; rintro e w' ⟨rfl, hw⟩; obtain rfl := hw.symm))
            go_ret
            exact ⟨ret_int H.out.symm, rfl⟩
end Go.Proofs.YtnpojefcibfgkaaGreatDoor
namespace Go.Proofs.YtnpojefcibfgkaaGreatDoor
open Go.RowKit

theorem tw_dig (x : List UInt8) (k : Nat) (h : k < (x.takeWhile isD).length) : isD ((x.takeWhile isD).getD k 0) = true := by
  rw [List.getD, List.getElem?_eq_getElem h, Option.getD_some]
  exact List.all_eq_true.1 (List.all_takeWhile (p := isD) (l := x)) _ (List.getElem_mem h)
theorem neg_tdiv (d : Int) (h : d ≤ 9 ) : (-9223372036854775808 + d).tdiv 10 = -((9223372036854775808 - d) / 10) := by
  rw [show -9223372036854775808 + d = -(9223372036854775808 - d) by omega, Int.neg_tdiv, Int.tdiv_eq_ediv_of_nonneg (by omega)]
set_option maxRecDepth 100000 in
set_option maxHeartbeats 1000000 in
theorem int_any (s : ByteArray) (w : World) (hs : s.size ≤ maxLen) :
    Calls Tryz.prog 27 #[.string s] w fun e w' => e = .returned (.tuple #[.int .i64 (intV s.data.toList), .bool (intB s.data.toList)]) ∧ w' = w := by
  have hN := hid (fun w => number_any s w hs)
  have hP := hid (fun w h => parts_yes s w hs h)
  have hT := Lib.toList_data s
  obtain ⟨l, hl⟩ : ∃ l, s.data.toList = l := ⟨_, rfl⟩
  rw [hl] at hN hP hT ⊢
  clear hl
  by_cases hn : numB l = true ∧ ¬ l = [45, 48]
  · obtain ⟨hn, hm⟩ := hn
    have h1 : (l == [45, 48]) = false := by simpa using hm
    have HP := hid (fun w => hP.out w (num_ok hn))
    have hl4 := num_len hn
    have hpl := parts_len l
    by_cases hf : pF l = []
    · have h2 := emp_mk_yes _ hf
      by_cases hp : pP l = []
      · have h3 := emp_mk_yes _ hp
        obtain ⟨x, hx⟩ : ∃ x, mkS (pW l) = x := ⟨_, rfl⟩
        have HXL := hid (show x.data.toList = pW l by rw [← hx]; exact mkS_list _)
        have hxs : x.size ≤ 1000 := by rw [← hx, mkS_size]; omega
        have HD := hid (fun k (hk : k < x.size) => show isD x[k] = true by
          have hk' : k < (pW l).length := by rw [← HXL.out, size_list]; exact hk
          have := tw_dig (pU l) k hk'
          rw [← getD_at x k hk, HXL.out]; exact this)
        have HB := hid (show intB l = (if pNeg l then decide (pval (pW l) ≤ 9223372036854775808) else decide (pval (pW l) < 9223372036854775808)) by unfold intB; rw [hn]; simp [hm, hf, hp])
        rw [hx] at HP
        clear hm hf hp hx
        go_enter Tryz.func27, Tryz.ntmps27
        go_wp2_with (first
          | (go_at_call 28; go_must (refine (hN.out _).mono ?_; rintro e w' ⟨rfl, hw⟩; obtain rfl := hw.symm; rw [hn]))
          | (go_at_call 58; go_must (refine (HP.out _).mono ?_; rintro e w' ⟨rfl, hw⟩; obtain rfl := hw.symm)))
        go_loop [9, 10] (fun v i => ∃ k : Nat, v = .int .i64 (-(pval ((pW l).take k) : Int)) ∧ i = .int .i64 k ∧ k ≤ x.size ∧ pval ((pW l).take k) ≤ 9223372036854775808) (fun _ i => x.size - (intOf i).toNat)
        case atStart => exact ⟨0, rfl, rfl, Nat.zero_le _, by simp [pval]⟩
        case round =>
          obtain ⟨k, rfl, rfl, hk, hv⟩ := hrel
          by_cases hlt : k < x.size
          · have hd := HD.out k hlt
            have hb := isD_bd hd
            have HV := hid (show pval ((pW l).take (k + 1)) = 10 * pval ((pW l).take k) + (x[k].toNat - 48) by
              rw [pval_take _ k (by rw [← HXL.out, size_list]; exact hlt), ← HXL.out, getD_at x k hlt, hd]; rfl)
            obtain ⟨V, hV⟩ : ∃ V, pval ((pW l).take k) = V := ⟨_, rfl⟩
            rw [hV] at hv HV ⊢
            have ht := neg_tdiv ((x[k].toNat : Int) - 48) (by omega)
            have HM := hid (show pval ((pW l).take (k + 1)) ≤ pval (pW l) from pval_le _ _)
            clear hV hd
            by_cases hg : 10 * V + (x[k].toNat - 48) ≤ 9223372036854775808
            · have ho : (-9223372036854775808 + ((x[k].toNat : Int) - 48)).tdiv 10 ≤ -(V : Int) := by rw [ht]; omega
              have hg' : 10 * (V : Int) + ((x[k].toNat : Int) - 48) ≤ 9223372036854775808 := by omega
              clear ht
              go_wp2_with fail
              go_round
              case rel => exact ⟨k + 1, val_int (by rw [HV.out]; omega), by go_num, hlt, by rw [HV.out]; exact hg⟩
              case measure => simp [intOf]; omega
            · have ho : -(V : Int) < (-9223372036854775808 + ((x[k].toNat : Int) - 48)).tdiv 10 := by rw [ht]; omega
              have HG := hid (show intB l = false by
                have h5 := HM.out; rw [HV.out] at h5
                rw [HB.out]; split <;> simp <;> omega)
              clear ht
              go_wp2_with fail
              go_ret2
              exact ⟨ret_ib (by unfold intV; rw [HG.out]; rfl) HG.out.symm, rfl⟩
          · have HE := hid (show (pW l).take k = pW l from List.take_of_length_le (by rw [← HXL.out, size_list]; omega))
            rw [HE.out] at hv ⊢
            obtain ⟨V, hV⟩ : ∃ V, pval (pW l) = V := ⟨_, rfl⟩
            rw [hV] at hv HB ⊢
            have HV := hid hV
            clear hV
            cases hng : pNeg l with
            | true =>
              have HG := hid (show intB l = true by rw [HB.out, hng, if_pos rfl]; simpa using hv)
              go_wp2_with fail
              go_ret2
              exact ⟨ret_ib (by unfold intV; rw [HG.out, hng, HV.out]; rfl) HG.out.symm, rfl⟩
            | false =>
              by_cases hq : V = 9223372036854775808
              · have HG := hid (show intB l = false by rw [HB.out, hng, hq]; rfl)
                have hq' : (-(V : Int) == -9223372036854775808) = true := by rw [hq]; rfl
                clear hq
                go_wp2_with fail
                go_ret2
                exact ⟨ret_ib (by unfold intV; rw [HG.out]; rfl) HG.out.symm, rfl⟩
              · have hlt' : V < 9223372036854775808 := by omega
                have HG := hid (show intB l = true by rw [HB.out, hng]; simpa using hlt')
                have hq' : (-(V : Int) == -9223372036854775808) = false := by rw [beq_eq_false_iff_ne]; omega
                clear hq
                go_wp2_with fail
                go_ret2
                exact ⟨ret_ib (by unfold intV; rw [HG.out, hng, HV.out]; simp) HG.out.symm, rfl⟩
      · have h3 := emp_mk_no _ hp
        have HG := hid (show intB l = false by unfold intB; simp [hp])
        clear hf hp hm
        go_enter Tryz.func27, Tryz.ntmps27
        go_wp2_with (first
          | (go_at_call 28; go_must (refine (hN.out _).mono ?_; rintro e w' ⟨rfl, hw⟩; obtain rfl := hw.symm; rw [hn]))
          | (go_at_call 58; go_must (refine (HP.out _).mono ?_; rintro e w' ⟨rfl, hw⟩; obtain rfl := hw.symm)))
        go_ret2
        exact ⟨ret_ib (by unfold intV; rw [HG.out]; rfl) HG.out.symm, rfl⟩
    · have h3 := emp_mk_no _ hf
      have HG := hid (show intB l = false by unfold intB; simp [hf])
      clear hf hm
      go_enter Tryz.func27, Tryz.ntmps27
      go_wp2_with (first
        | (go_at_call 28; go_must (refine (hN.out _).mono ?_; rintro e w' ⟨rfl, hw⟩; obtain rfl := hw.symm; rw [hn]))
        | (go_at_call 58; go_must (refine (HP.out _).mono ?_; rintro e w' ⟨rfl, hw⟩; obtain rfl := hw.symm)))
      go_ret2
      exact ⟨ret_ib (by unfold intV; rw [HG.out]; rfl) HG.out.symm, rfl⟩
  · cases hq : numB l with
    | false =>
      have HG := hid (show intB l = false by unfold intB; rw [hq]; rfl)
      clear hn
      go_enter Tryz.func27, Tryz.ntmps27
      go_wp2_with (go_at_call 28; go_must (refine (hN.out _).mono ?_; rintro e w' ⟨rfl, hw⟩; obtain rfl := hw.symm; rw [hq]))
      go_ret2
      exact ⟨ret_ib (by unfold intV; rw [HG.out]; rfl) HG.out.symm, rfl⟩
    | true =>
      have hm : l = [45, 48] := Classical.byContradiction fun h => hn ⟨hq, h⟩
      have h1 : (l == [45, 48]) = true := by rw [hm]; rfl
      have HG := hid (show intB l = false by unfold intB; rw [hm]; simp)
      clear hn hm
      go_enter Tryz.func27, Tryz.ntmps27
      go_wp2_with (go_at_call 28; go_must (refine (hN.out _).mono ?_; rintro e w' ⟨rfl, hw⟩; obtain rfl := hw.symm; rw [hq]))
      go_ret2
      exact ⟨ret_ib (by unfold intV; rw [HG.out]; rfl) HG.out.symm, rfl⟩
end Go.Proofs.YtnpojefcibfgkaaGreatDoor
