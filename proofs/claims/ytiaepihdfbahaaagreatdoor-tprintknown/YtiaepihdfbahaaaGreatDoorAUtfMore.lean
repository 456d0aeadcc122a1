
import Derived.Test.YtiaepihdfbahaaaGreatDoorAVStr
import Derived.Test.YtiaepihdfbahaaaGreatDoorABase
import Derived.Test.YtiaepihdfbahaaaGreatDoorARefOne
namespace Go.Proofs.YtiaepihdfbahaaaGreatDoor
open Go.RowKit

end Go.Proofs.YtiaepihdfbahaaaGreatDoor
namespace Go.Proofs.YtiaepihdfbahaaaGreatDoor
open Go.RowKit

end Go.Proofs.YtiaepihdfbahaaaGreatDoor
namespace Go.Proofs.YtiaepihdfbahaaaGreatDoor
open Go.RowKit

set_option maxHeartbeats 400000 in
theorem later_any (r : Int) (w : World) :
    Calls Tryz.prog 135 #[.int .i64 r] w fun e w' => e = .returned (.int .u8 (128 + r % 64)) ∧ w' = w := by
  go_enter Tryz.func135, Tryz.ntmps135
  go_wp2
  go_ret
  exact ⟨ret_int (later_eq r), rfl⟩
end Go.Proofs.YtiaepihdfbahaaaGreatDoor
namespace Go.Proofs.YtiaepihdfbahaaaGreatDoor
open Go.RowKit

theorem copy_new (ao : Option Addr) (n cap : Nat) (xs : List Int) (w : World) (hn : xs.length = n) (hb : n ≤ 1000000)
    (hc : 0 < n → ∃ ad, ao = some ad ∧ ∀ j v, (xs.map (Value.int .u8))[j]? = some v → w.cell? (ad.add j) = some v) :
    ∃ w2, (Builtin.copy_ #[39, 39] 3 #[.slice (some ⟨w.heap.size, 0, none⟩) n (n + 4), .slice ao n cap]).run Tryz.prog (w.alloc (.cells (madeCells #[.int .u8 0] (n + 4)) 5)) = .ok (goInt n) w2
      ∧ w2.ownsRow w.heap.size 5 1 (.slice (some ⟨w.heap.size, 0, none⟩) n (n + 4)) n (xs.map (Value.int .u8)) ∧ Below w.heap.size w w2 ∧ w2.heap.size = w.heap.size + 1 := by
  have hg := heap_alloc_new w (.cells (madeCells #[.int .u8 0] (n + 4)) 5)
  have hb1 : Below w.heap.size w (w.alloc (.cells (madeCells #[.int .u8 0] (n + 4)) 5)) := (Below.refl _ _).alloc (Nat.le_refl _) _
  have hsz := size_madeCells #[.int .u8 0] (n + 4)
  by_cases h0 : n = 0
  · subst h0
    obtain rfl : xs = [] := List.length_eq_zero_iff.1 hn
    refine ⟨_, run_copy_none _ 39 39 3 5 _ _ _ _ _ _ Tryz.underlying39 Tryz.size_u8 rfl, ⟨rfl, Or.inr ⟨_, _, _, rfl, Nat.le_refl _, hg, by omega, by unfold maxLen; omega, by rw [hsz], by simp⟩⟩, hb1, by simp⟩
  · obtain ⟨ad, rfl, hcell⟩ := hc (by omega)
    have hlen : (xs.map (Value.int .u8)).length = n := by simp [hn]
    have hr := run_copy_row (P := Tryz.prog) (w.alloc (.cells (madeCells #[.int .u8 0] (n + 4)) 5)) 39 39 3 5 w.heap.size 0 n (n + 4) ad n cap _ 5 (xs.map (Value.int .u8)) Tryz.underlying39 Tryz.size_u8 hg (by rw [hlen]; simp)
      (fun j v h => cell_later hb1 (hcell j v h)) (by rw [hlen, hsz]; omega) (ints_oneCell _ _)
    rw [hlen] at hr
    refine ⟨_, hr, ⟨by rw [hlen]; simp, Or.inr ⟨_, _, _, rfl, Nat.le_refl _, setRow_heap _ _ _ _ _ _ hg, by omega, by unfold maxLen; omega, by simp [hsz, hn], by simp [hn]⟩⟩, below_setRow hb1 (Nat.le_refl _) _, by simp⟩
set_option maxRecDepth 100000 in
set_option maxHeartbeats 400000 in
theorem put_one (ao : Option Addr) (n cap : Nat) (xs : List Int) (r : Int) (w : World) (hn : xs.length = n) (hb : n ≤ 1000000)
    (hc : 0 < n → ∃ ad, ao = some ad ∧ ∀ j v, (xs.map (Value.int .u8))[j]? = some v → w.cell? (ad.add j) = some v) (hg : goodB r = true) (hw : wdI r = 1) (hr : r < 128) :
    Calls Tryz.prog 111 #[.slice ao n cap, .int .i64 r] w fun e w' => e = .returned (.slice (some ⟨w.heap.size, 0, none⟩) (n + 1) (n + 4)) ∧ w'.ownsRow w.heap.size 5 1 (.slice (some ⟨w.heap.size, 0, none⟩) (n + 1) (n + 4)) (n + 1) (xs.map (Value.int .u8) ++ [.int .u8 (r)]) ∧ Below w.heap.size w w' := by
  obtain ⟨i0, hi, hz0, hz1, hz2⟩ := info_parts Tryz.info_u8
  have hmk := run_make (P := Tryz.prog) w 39 5 i0 (.int .u8 0) Tryz.underlying39 hi hz0 .i64 .i64 n (n + 4) (by omega) (by omega) (by rw [hz2]; omega) (by omega)
  obtain ⟨w2, hcp, hown, hbel, hsz⟩ := copy_new ao n cap xs w hn hb hc
  have hrr := of_decide_eq_true hg
  have h0 : 0 ≤ r := hrr.1
  have h1 : r ≤ 1114111 := hrr.2.1
  have HC := hid hn
  have HSZ := hid hsz
  have ho : r % 256 = r := by omega
  clear hrr hc hn hsz
  go_enter Tryz.func111, Tryz.ntmps111
  go_wp2_with (first | (at_builtin; go_must (refine wpList_append_fits _ rfl _ _ 39 rfl w.heap.size 5 i0 1 Tryz.underlying39 hi hz1 w.heap.size n (n + 4) (xs.map (Value.int .u8)) rfl (hown.alloc _) ⟨w2.heap.size, 0, none⟩ 1 1 [.int .u8 (r)] rfl rfl (new_cells w2 _ 5) (ints_oneCell .u8 [r]) (by omega) ?_; intro w3 hown3 hgr3)) | (go_at_call 109; go_must (refine (good_any _ _).mono ?_; rintro e w' ⟨rfl, hw'⟩; obtain rfl := hw'.symm)) | (go_at_call 110; go_must (refine (width_any _ _).mono ?_; rintro e w' ⟨rfl, hw'⟩; obtain rfl := hw'.symm)) | (go_at_call 135; go_must (refine (later_any _ _).mono ?_; rintro e w' ⟨rfl, hw'⟩; obtain rfl := hw'.symm)))
  go_ret
  exact ⟨rfl, hown3, (hbel.alloc (by rw [HSZ.out]; omega) _).grown hgr3 (by simp [HSZ.out]; omega) (fun k hk => by cases hk; exact Nat.le_refl _)⟩

set_option maxRecDepth 100000 in
set_option maxHeartbeats 400000 in
theorem put_two (ao : Option Addr) (n cap : Nat) (xs : List Int) (r : Int) (w : World) (hn : xs.length = n) (hb : n ≤ 1000000)
    (hc : 0 < n → ∃ ad, ao = some ad ∧ ∀ j v, (xs.map (Value.int .u8))[j]? = some v → w.cell? (ad.add j) = some v) (hg : goodB r = true) (hw : wdI r = 2) (hr : r < 2048) :
    Calls Tryz.prog 111 #[.slice ao n cap, .int .i64 r] w fun e w' => e = .returned (.slice (some ⟨w.heap.size, 0, none⟩) (n + 2) (n + 4)) ∧ w'.ownsRow w.heap.size 5 1 (.slice (some ⟨w.heap.size, 0, none⟩) (n + 2) (n + 4)) (n + 2) (xs.map (Value.int .u8) ++ [.int .u8 (192 + r / 64), .int .u8 (128 + r % 64)]) ∧ Below w.heap.size w w' := by
  obtain ⟨i0, hi, hz0, hz1, hz2⟩ := info_parts Tryz.info_u8
  have hmk := run_make (P := Tryz.prog) w 39 5 i0 (.int .u8 0) Tryz.underlying39 hi hz0 .i64 .i64 n (n + 4) (by omega) (by omega) (by rw [hz2]; omega) (by omega)
  obtain ⟨w2, hcp, hown, hbel, hsz⟩ := copy_new ao n cap xs w hn hb hc
  have hrr := of_decide_eq_true hg
  have h0 : 0 ≤ r := hrr.1
  have h1 : r ≤ 1114111 := hrr.2.1
  have HC := hid hn
  have HSZ := hid hsz
  have ho : bits .or .u8 192 (r / 64 % 256) = 192 + r / 64 := by rw [u8_or192 _ (by omega) (by omega)]; omega
  clear hrr hc hn hsz
  go_enter Tryz.func111, Tryz.ntmps111
  go_wp2_with (first | (at_builtin; go_must (refine wpList_append_fits _ rfl _ _ 39 rfl w.heap.size 5 i0 1 Tryz.underlying39 hi hz1 w.heap.size n (n + 4) (xs.map (Value.int .u8)) rfl (hown.alloc _) ⟨w2.heap.size, 0, none⟩ 2 2 [.int .u8 (192 + r / 64), .int .u8 (128 + r % 64)] rfl rfl (new_cells w2 _ 5) (ints_oneCell .u8 [192 + r / 64, 128 + r % 64]) (by omega) ?_; intro w3 hown3 hgr3)) | (go_at_call 109; go_must (refine (good_any _ _).mono ?_; rintro e w' ⟨rfl, hw'⟩; obtain rfl := hw'.symm)) | (go_at_call 110; go_must (refine (width_any _ _).mono ?_; rintro e w' ⟨rfl, hw'⟩; obtain rfl := hw'.symm)) | (go_at_call 135; go_must (refine (later_any _ _).mono ?_; rintro e w' ⟨rfl, hw'⟩; obtain rfl := hw'.symm)))
  go_ret
  exact ⟨rfl, hown3, (hbel.alloc (by rw [HSZ.out]; omega) _).grown hgr3 (by simp [HSZ.out]; omega) (fun k hk => by cases hk; exact Nat.le_refl _)⟩

set_option maxRecDepth 100000 in
set_option maxHeartbeats 400000 in
theorem put_three (ao : Option Addr) (n cap : Nat) (xs : List Int) (r : Int) (w : World) (hn : xs.length = n) (hb : n ≤ 1000000)
    (hc : 0 < n → ∃ ad, ao = some ad ∧ ∀ j v, (xs.map (Value.int .u8))[j]? = some v → w.cell? (ad.add j) = some v) (hg : goodB r = true) (hw : wdI r = 3) (hr : r < 65536) :
    Calls Tryz.prog 111 #[.slice ao n cap, .int .i64 r] w fun e w' => e = .returned (.slice (some ⟨w.heap.size, 0, none⟩) (n + 3) (n + 4)) ∧ w'.ownsRow w.heap.size 5 1 (.slice (some ⟨w.heap.size, 0, none⟩) (n + 3) (n + 4)) (n + 3) (xs.map (Value.int .u8) ++ [.int .u8 (224 + r / 4096), .int .u8 (128 + r / 64 % 64), .int .u8 (128 + r % 64)]) ∧ Below w.heap.size w w' := by
  obtain ⟨i0, hi, hz0, hz1, hz2⟩ := info_parts Tryz.info_u8
  have hmk := run_make (P := Tryz.prog) w 39 5 i0 (.int .u8 0) Tryz.underlying39 hi hz0 .i64 .i64 n (n + 4) (by omega) (by omega) (by rw [hz2]; omega) (by omega)
  obtain ⟨w2, hcp, hown, hbel, hsz⟩ := copy_new ao n cap xs w hn hb hc
  have hrr := of_decide_eq_true hg
  have h0 : 0 ≤ r := hrr.1
  have h1 : r ≤ 1114111 := hrr.2.1
  have HC := hid hn
  have HSZ := hid hsz
  have ho : bits .or .u8 224 (r / 4096 % 256) = 224 + r / 4096 := by rw [u8_or224 _ (by omega) (by omega)]; omega
  clear hrr hc hn hsz
  go_enter Tryz.func111, Tryz.ntmps111
  go_wp2_with (first | (at_builtin; go_must (refine wpList_append_fits _ rfl _ _ 39 rfl w.heap.size 5 i0 1 Tryz.underlying39 hi hz1 w.heap.size n (n + 4) (xs.map (Value.int .u8)) rfl (hown.alloc _) ⟨w2.heap.size, 0, none⟩ 3 3 [.int .u8 (224 + r / 4096), .int .u8 (128 + r / 64 % 64), .int .u8 (128 + r % 64)] rfl rfl (new_cells w2 _ 5) (ints_oneCell .u8 [224 + r / 4096, 128 + r / 64 % 64, 128 + r % 64]) (by omega) ?_; intro w3 hown3 hgr3)) | (go_at_call 109; go_must (refine (good_any _ _).mono ?_; rintro e w' ⟨rfl, hw'⟩; obtain rfl := hw'.symm)) | (go_at_call 110; go_must (refine (width_any _ _).mono ?_; rintro e w' ⟨rfl, hw'⟩; obtain rfl := hw'.symm)) | (go_at_call 135; go_must (refine (later_any _ _).mono ?_; rintro e w' ⟨rfl, hw'⟩; obtain rfl := hw'.symm)))
  go_ret
  exact ⟨rfl, hown3, (hbel.alloc (by rw [HSZ.out]; omega) _).grown hgr3 (by simp [HSZ.out]; omega) (fun k hk => by cases hk; exact Nat.le_refl _)⟩

set_option maxRecDepth 100000 in
set_option maxHeartbeats 400000 in
theorem put_four (ao : Option Addr) (n cap : Nat) (xs : List Int) (r : Int) (w : World) (hn : xs.length = n) (hb : n ≤ 1000000)
    (hc : 0 < n → ∃ ad, ao = some ad ∧ ∀ j v, (xs.map (Value.int .u8))[j]? = some v → w.cell? (ad.add j) = some v) (hg : goodB r = true) (hw : wdI r = 4) :
    Calls Tryz.prog 111 #[.slice ao n cap, .int .i64 r] w fun e w' => e = .returned (.slice (some ⟨w.heap.size, 0, none⟩) (n + 4) (n + 4)) ∧ w'.ownsRow w.heap.size 5 1 (.slice (some ⟨w.heap.size, 0, none⟩) (n + 4) (n + 4)) (n + 4) (xs.map (Value.int .u8) ++ [.int .u8 (240 + r / 262144), .int .u8 (128 + r / 4096 % 64), .int .u8 (128 + r / 64 % 64), .int .u8 (128 + r % 64)]) ∧ Below w.heap.size w w' := by
  obtain ⟨i0, hi, hz0, hz1, hz2⟩ := info_parts Tryz.info_u8
  have hmk := run_make (P := Tryz.prog) w 39 5 i0 (.int .u8 0) Tryz.underlying39 hi hz0 .i64 .i64 n (n + 4) (by omega) (by omega) (by rw [hz2]; omega) (by omega)
  obtain ⟨w2, hcp, hown, hbel, hsz⟩ := copy_new ao n cap xs w hn hb hc
  have hrr := of_decide_eq_true hg
  have h0 : 0 ≤ r := hrr.1
  have h1 : r ≤ 1114111 := hrr.2.1
  have HC := hid hn
  have HSZ := hid hsz
  have ho : bits .or .u8 240 (r / 262144 % 256) = 240 + r / 262144 := by rw [u8_or240 _ (by omega) (by omega)]; omega
  clear hrr hc hn hsz
  go_enter Tryz.func111, Tryz.ntmps111
  go_wp2_with (first | (at_builtin; go_must (refine wpList_append_fits _ rfl _ _ 39 rfl w.heap.size 5 i0 1 Tryz.underlying39 hi hz1 w.heap.size n (n + 4) (xs.map (Value.int .u8)) rfl (hown.alloc _) ⟨w2.heap.size, 0, none⟩ 4 4 [.int .u8 (240 + r / 262144), .int .u8 (128 + r / 4096 % 64), .int .u8 (128 + r / 64 % 64), .int .u8 (128 + r % 64)] rfl rfl (new_cells w2 _ 5) (ints_oneCell .u8 [240 + r / 262144, 128 + r / 4096 % 64, 128 + r / 64 % 64, 128 + r % 64]) (by omega) ?_; intro w3 hown3 hgr3)) | (go_at_call 109; go_must (refine (good_any _ _).mono ?_; rintro e w' ⟨rfl, hw'⟩; obtain rfl := hw'.symm)) | (go_at_call 110; go_must (refine (width_any _ _).mono ?_; rintro e w' ⟨rfl, hw'⟩; obtain rfl := hw'.symm)) | (go_at_call 135; go_must (refine (later_any _ _).mono ?_; rintro e w' ⟨rfl, hw'⟩; obtain rfl := hw'.symm)))
  go_ret
  exact ⟨rfl, hown3, (hbel.alloc (by rw [HSZ.out]; omega) _).grown hgr3 (by simp [HSZ.out]; omega) (fun k hk => by cases hk; exact Nat.le_refl _)⟩

set_option maxRecDepth 100000 in
set_option maxHeartbeats 400000 in
theorem put_none (ao : Option Addr) (n cap : Nat) (xs : List Int) (r : Int) (w : World) (hn : xs.length = n) (hb : n ≤ 1000000)
    (hc : 0 < n → ∃ ad, ao = some ad ∧ ∀ j v, (xs.map (Value.int .u8))[j]? = some v → w.cell? (ad.add j) = some v) (hg : goodB r = false) :
    Calls Tryz.prog 111 #[.slice ao n cap, .int .i64 r] w fun e w' => e = .returned (.slice (some ⟨w.heap.size, 0, none⟩) n (n + 4)) ∧ w'.ownsRow w.heap.size 5 1 (.slice (some ⟨w.heap.size, 0, none⟩) n (n + 4)) n (xs.map (Value.int .u8)) ∧ Below w.heap.size w w' := by
  obtain ⟨i0, hi, hz0, hz1, hz2⟩ := info_parts Tryz.info_u8
  have hmk := run_make (P := Tryz.prog) w 39 5 i0 (.int .u8 0) Tryz.underlying39 hi hz0 .i64 .i64 n (n + 4) (by omega) (by omega) (by rw [hz2]; omega) (by omega)
  obtain ⟨w2, hcp, hown, hbel, hsz⟩ := copy_new ao n cap xs w hn hb hc
  clear hc hn hsz
  go_enter Tryz.func111, Tryz.ntmps111
  go_wp2_with (first | (go_at_call 109; go_must (refine (good_any _ _).mono ?_; rintro e w' ⟨rfl, hw'⟩; obtain rfl := hw'.symm)))
  go_ret
  exact ⟨rfl, hown, hbel⟩

/-- Put, whatever the number: b's bytes and the number's, in new memory. -/
theorem put_any (ao : Option Addr) (n cap : Nat) (xs : List Int) (r : Int) (w : World) (hn : xs.length = n) (hb : n ≤ 1000000)
    (hc : 0 < n → ∃ ad, ao = some ad ∧ ∀ j v, (xs.map (Value.int .u8))[j]? = some v → w.cell? (ad.add j) = some v) :
    Calls Tryz.prog 111 #[.slice ao n cap, .int .i64 r] w fun e w' => e = .returned (.slice (some ⟨w.heap.size, 0, none⟩) (n + (enc r).length) (n + 4)) ∧ w'.ownsRow w.heap.size 5 1 (.slice (some ⟨w.heap.size, 0, none⟩) (n + (enc r).length) (n + 4)) (n + (enc r).length) ((xs ++ enc r).map (Value.int .u8)) ∧ Below w.heap.size w w' := by
  cases hg : goodB r with
  | false =>
    have e : enc r = [] := by unfold enc; rw [hg]; rfl
    rw [e]
    simpa using put_none ao n cap xs r w hn hb hc hg
  | true =>
    have e : enc r = encI r := by unfold enc; rw [hg]; rfl
    rw [e]
    have hrr := of_decide_eq_true hg
    unfold encI
    by_cases h1 : r < 128
    · rw [if_pos h1, List.map_append]; exact put_one ao n cap xs r w hn hb hc hg (by unfold wdI; rw [if_pos h1]) h1
    · by_cases h2 : r < 2048
      · rw [if_neg h1, if_pos h2, List.map_append]; exact put_two ao n cap xs r w hn hb hc hg (by unfold wdI; rw [if_neg h1, if_pos h2]) h2
      · by_cases h3 : r < 65536
        · rw [if_neg h1, if_neg h2, if_pos h3, List.map_append]; exact put_three ao n cap xs r w hn hb hc hg (by unfold wdI; rw [if_neg h1, if_neg h2, if_pos h3]) h3
        · rw [if_neg h1, if_neg h2, if_neg h3, List.map_append]; exact put_four ao n cap xs r w hn hb hc hg (by unfold wdI; rw [if_neg h1, if_neg h2, if_neg h3])
theorem put_nil (r : Int) (w : World) : Calls Tryz.prog 111 #[.slice none 0 0, .int .i64 r] w fun e w' => e = .returned (.slice (some ⟨w.heap.size, 0, none⟩) (enc r).length 4) ∧ w'.ownsRow w.heap.size 5 1 (.slice (some ⟨w.heap.size, 0, none⟩) (enc r).length 4) (enc r).length ((enc r).map (Value.int .u8)) ∧ Below w.heap.size w w' := by
  have h := put_any none 0 0 [] r w rfl (by omega) (fun h => absurd h (Nat.lt_irrefl 0))
  simpa using h
end Go.Proofs.YtiaepihdfbahaaaGreatDoor
