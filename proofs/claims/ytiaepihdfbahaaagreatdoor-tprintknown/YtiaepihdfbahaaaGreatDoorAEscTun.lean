/- The document's own hex4 and Quote of chapter 6: walked. -/
import Derived.Test.YtiaepihdfbahaaaGreatDoorABase
import Derived.Test.YtiaepihdfbahaaaGreatDoorAMathPlace
import Derived.Lib.Walk
import Derived.Test.YtiaepihdfbahaaaGreatDoorAUtfMore
import Derived.Test.YtiaepihdfbahaaaGreatDoorARefOne
import Derived.Deep.QuietTactic
import Derived.BigQuiet
import Derived.Test.YtiaepihdfbahaaaGreatDoorAEscK
import Derived.BigRegion
/- How the document's reading of a TOML string goes, said by the pieces. -/
/- The library's searches, walked at the text of one line end: strings.Index, strings.Count, strings.LastIndex. -/
/- Package place, walked: clamp, Lines, Begin; and the document's own clamp. -/
/- Package place, walked: Of, Fault; and the document's own reckoning of both. -/
/- The document's own reckoning of places, walked: Of, Fault. -/
namespace Go.Proofs.YtiaepihdfbahaaaGreatDoor
open Go.RowKit

end Go.Proofs.YtiaepihdfbahaaaGreatDoor
namespace Go.Proofs.YtiaepihdfbahaaaGreatDoor
open Go.RowKit

end Go.Proofs.YtiaepihdfbahaaaGreatDoor
namespace Go.Proofs.YtiaepihdfbahaaaGreatDoor
open Go.RowKit

theorem Tryz.info_int : (Tryz.prog.info? 3).map (fun i => (i.zero, i.size, i.bytes)) = some (some (.int .i64 0), 1, 8) := by kernel_rfl
/-- where a text's first k letters begin, as values -/
def startsV (l : List UInt8) (k : Nat) : List Value := (List.range k).map (fun j => Value.int .i64 (pos l j))
theorem startsV_succ (l : List UInt8) (k : Nat) : startsV l (k + 1) = startsV l k ++ [Value.int .i64 (pos l k)] := by simp [startsV, List.range_succ]
set_option maxRecDepth 100000 in
set_option maxHeartbeats 800000 in
theorem starts_any (s : ByteArray) (w : World) (hs : s.size ≤ 1000000) :
    Calls Tryz.prog 46 #[.string s] w fun e w' => ∃ v, e = .returned v ∧ w'.ownsRow w.heap.size 3 1 v (cnt s.data.toList + 1) (startsV s.data.toList (cnt s.data.toList + 1)) ∧ Below w.heap.size w w' := by
  have HS := hid (show s.size ≤ maxLen by unfold maxLen; omega)
  have HZ := hid (size_list s)
  obtain ⟨i0, hi, hz0, hz1, hz2⟩ := info_parts Tryz.info_int
  go_enter Tryz.func46, Tryz.ntmps46
  go_wp2
  go_loopw [3, 4] (fun v i wr => ∃ k : Nat, i = .int .i64 (pos s.data.toList k) ∧ pos s.data.toList k ≤ s.size ∧ wr.ownsRow w.heap.size 3 1 v k (startsV s.data.toList k) ∧ Below w.heap.size w wr) (fun _ i _ => s.size - (intOf i).toNat)
  case atStart => exact ⟨0, rfl, Nat.zero_le _, World.ownsRow_nil _ _ _ _, Below.refl _ _⟩
  case round =>
    obtain ⟨k, rfl, hp, hown, hbel⟩ := hrel
    have hk := pos_ge s.data.toList k
    have hz := HZ.out
    have hsz := hbel.size
    by_cases hlt : pos s.data.toList k < s.size
    · have hn := pos_next s.data.toList k (by omega)
      have hn' : pos s.data.toList k + stp (s.data.toList.drop (pos s.data.toList k)) ≤ s.size := by simp only [pos] at hn; omega
      have hn2 : pos s.data.toList k + tkN (s.data.toList.drop (pos s.data.toList k)) ≤ s.size := by unfold stp at hn'; omega
      clear hz hn
      by_cases h0 : tkN (s.data.toList.drop (pos s.data.toList k)) = 0
      · have h0' : (((tkN (s.data.toList.drop (pos s.data.toList k)) : Nat) : Int) == 0) = true := by rw [h0]; rfl
        have HP := hid (show ((pos s.data.toList k : Nat) : Int) + 1 = ((pos s.data.toList (k + 1) : Nat) : Int) by simp only [pos, stp]; omega)
        have H0 := hid (show pos s.data.toList (k + 1) ≤ s.size by simp only [pos]; omega)
        clear h0 hn'
        go_wp2_with (first | (at_builtin; go_must (refine wpList_append_own _ rfl (.tmp 11) (.tmp 13) 67 rfl w.heap.size 3 i0 (.int .i64 0) 1 8 Tryz.underlying67 hi hz0 hz1 hz2 rfl (by decide) _ k _ rfl (hown.alloc _) ⟨wr.heap.size, 0, none⟩ 1 1 [.int .i64 (pos s.data.toList k)] rfl rfl (new_cells wr _ 3) (ints_oneCell .i64 [(pos s.data.toList k : Int)]) (by unfold maxLen; omega) (by omega) (by simp; omega) ?_; intro v1 w1 hown1 hgr1 _)) | (go_at_call 47; go_must (refine (rtake_at _ _ _ HS.out).mono ?_; rintro e w2 ⟨rfl, hb2⟩)))
        have hb1 : Below w.heap.size w w1 := (hbel.alloc hbel.size _).grown hgr1 (by simp; omega) (fun j hj => (hown.lt j hj).1)
        have hr1 : w1.ownsRow w.heap.size 3 1 v1 (k + 1) (startsV s.data.toList (k + 1)) := by rw [startsV_succ]; exact hown1
        go_roundw
        case rel => exact ⟨k + 1, val_int HP.out, H0.out, ownsRow_below hr1 hb2, hb1.trans (hb2.mono hb1.size)⟩
        case measure => simp [intOf]; omega
      · have h0' : (((tkN (s.data.toList.drop (pos s.data.toList k)) : Nat) : Int) == 0) = false := by rw [beq_eq_false_iff_ne]; omega
        have HP := hid (pos_succ' s.data.toList k h0)
        have H0 := hid (show pos s.data.toList (k + 1) ≤ s.size by simp only [pos]; omega)
        have H1 := hid h0
        clear h0 hn'
        go_wp2_with (first | (at_builtin; go_must (refine wpList_append_own _ rfl (.tmp 11) (.tmp 13) 67 rfl w.heap.size 3 i0 (.int .i64 0) 1 8 Tryz.underlying67 hi hz0 hz1 hz2 rfl (by decide) _ k _ rfl (hown.alloc _) ⟨wr.heap.size, 0, none⟩ 1 1 [.int .i64 (pos s.data.toList k)] rfl rfl (new_cells wr _ 3) (ints_oneCell .i64 [(pos s.data.toList k : Int)]) (by unfold maxLen; omega) (by omega) (by simp; omega) ?_; intro v1 w1 hown1 hgr1 _)) | (go_at_call 47; go_must (refine (rtake_at _ _ _ HS.out).mono ?_; rintro e w2 ⟨rfl, hb2⟩)))
        have hb1 : Below w.heap.size w w1 := (hbel.alloc hbel.size _).grown hgr1 (by simp; omega) (fun j hj => (hown.lt j hj).1)
        have hr1 : w1.ownsRow w.heap.size 3 1 v1 (k + 1) (startsV s.data.toList (k + 1)) := by rw [startsV_succ]; exact hown1
        go_roundw
        case rel => exact ⟨k + 1, val_int HP.out, H0.out, ownsRow_below hr1 hb2, hb1.trans (hb2.mono hb1.size)⟩
        case measure => have h1 := H1.out; simp [intOf]; omega
    · have HC := hid (at_cnt s.data.toList k (by omega))
      have hps : pos s.data.toList k = s.size := by omega
      have HPS := hid (show startsV s.data.toList (k + 1) = startsV s.data.toList k ++ [Value.int .i64 (s.size : Int)] by rw [startsV_succ, hps])
      clear hz hps
      go_wp2_with (first | (at_builtin; go_must (refine wpList_append_own _ rfl (.tmp 27) (.tmp 30) 67 rfl w.heap.size 3 i0 (.int .i64 0) 1 8 Tryz.underlying67 hi hz0 hz1 hz2 rfl (by decide) _ k _ rfl (hown.alloc _) ⟨wr.heap.size, 0, none⟩ 1 1 [.int .i64 (s.size : Int)] rfl rfl (new_cells wr _ 3) (ints_oneCell .i64 [(s.size : Int)]) (by unfold maxLen; omega) (by omega) (by simp; omega) ?_; intro v1 w1 hown1 hgr1 _)))
      have hb1 : Below w.heap.size w w1 := (hbel.alloc hbel.size _).grown hgr1 (by simp; omega) (fun j hj => (hown.lt j hj).1)
      have hr1 : w1.ownsRow w.heap.size 3 1 v1 (k + 1) (startsV s.data.toList (k + 1)) := by rw [HPS.out]; exact hown1
      rw [HC.out] at hr1
      go_ret
      exact ⟨_, rfl, hr1, hb1⟩
theorem starts_at (s : ByteArray) (w : World) (hs : s.size ≤ 1000000) :
    Calls Tryz.prog 46 #[.string s] w fun e w' => ∃ g cap, e = .returned (.slice (some ⟨g, 0, none⟩) (cnt s.data.toList + 1) cap) ∧ (∀ j, j ≤ cnt s.data.toList → w'.cell? ⟨g, j, none⟩ = some (.int .i64 (pos s.data.toList j))) ∧ Below w.heap.size w w' := by
  refine (starts_any s w hs).mono fun e w' ⟨v, he, hown, hb⟩ => ?_
  have hs := hown
  rcases hs with ⟨-, h | ⟨g, cap, cur, rfl, -⟩⟩
  · exact absurd h.2 (by omega)
  · refine ⟨g, cap, he, fun j hj => ?_, hb⟩
    rw [hown.cellAt j (by omega)]
    have : j < cnt s.data.toList + 1 := by omega
    simp [startsV, this]
end Go.Proofs.YtiaepihdfbahaaaGreatDoor
namespace Go.Proofs.YtiaepihdfbahaaaGreatDoor
open Go.RowKit

theorem take_list (s : ByteArray) (k : Nat) : (s.extract 0 k).data.toList = s.data.toList.take k := by simp
/-- the line and the column of a place -/
def ofL (t : ByteArray) (a : Int) : Nat := linOf (t.data.toList.take (clN t.size a))
def ofC (t : ByteArray) (a : Int) : Nat := colOf (t.data.toList.take (clN t.size a))
theorem keeps {W V : World} (h : Below W.heap.size W V) : (∀ b o, b < W.heap.size → V.cell? ⟨b, o, none⟩ = W.cell? ⟨b, o, none⟩) ∧ ∀ b o, b < W.heap.size → V.frozen? ⟨b, o, none⟩ = W.frozen? ⟨b, o, none⟩ :=
  ⟨fun _ _ g => h.cell g, fun _ _ g => h.frozen g⟩
/-- a fault, as a value -/
def faultV (t : ByteArray) (a e : Int) : Value := .agg #[.int .i64 e, .int .i64 (clN t.size a), .int .i64 (ofL t a), .int .i64 (ofC t a)]
end Go.Proofs.YtiaepihdfbahaaaGreatDoor
namespace Go.Proofs.YtiaepihdfbahaaaGreatDoor
open Go.RowKit

theorem part_list (s : ByteArray) (i k : Nat) : (s.extract i k).data.toList = (s.data.toList.take k).drop i := by
  simp [List.drop_take]
end Go.Proofs.YtiaepihdfbahaaaGreatDoor
namespace Go.Proofs.YtiaepihdfbahaaaGreatDoor
open Go.RowKit

theorem i64_and15 (n : Int) : bits .and .i64 n 15 = n % 16 := by
  have hm : (BitVec.ofInt 64 15).toNat = 2 ^ 4 - 1 := by decide
  have key : (BitVec.ofInt 64 n &&& BitVec.ofInt 64 15).toNat = (n % ((2 ^ 64 : Nat) : Int)).toNat % 2 ^ 4 := by
    rw [BitVec.toNat_and, BitVec.toNat_ofInt, hm, Nat.and_two_pow_sub_one_eq_mod]
  show IntKind.i64.wrap ((BitVec.ofInt 64 n &&& BitVec.ofInt 64 15).toNat : Nat) = n % 16
  rw [key, IntKind.wrap_i64]
  omega
/-- a block just laid, read as a text, behind a draw -/
theorem conv_newD (w : World) (xs : List Int) (k : Nat) (hk : xs.length = k) :
    (convert 39 9 (.slice (some ⟨w.heap.size, 0, none⟩) k k)).run Tryz.prog (w.alloc (.cells (xs.map (Value.int .u8)).toArray 5)).drew = .ok (.string (strOfNums xs)) (w.alloc (.cells (xs.map (Value.int .u8)).toArray 5)).drew := by
  refine run_convert_bytes_arg _ 39 5 Tryz.underlying39 Tryz.underlying5 _ 0 k k xs hk (fun i hi => ?_) 9 Tryz.underlying9
  have h1 : (w.alloc (.cells (xs.map (Value.int .u8)).toArray 5)).drew.cell? ⟨w.heap.size, 0 + i, none⟩ = (w.alloc (.cells (xs.map (Value.int .u8)).toArray 5)).cell? ⟨w.heap.size, 0 + i, none⟩ := rfl
  have := World.cell?_alloc_mark w (xs.map (Value.int .u8)).toArray 5 (0, 0) i
  rw [h1, Nat.zero_add, this]
  have hi' : i < xs.length := by omega
  simp [List.getD, List.getElem?_eq_getElem hi']
theorem strOfNums_data' (xs : List Int) : (strOfNums xs).data.toList = xs.map fun n => UInt8.ofNat n.toNat := by unfold strOfNums; simp
theorem hex_at : ∀ n (h : n < 16), (((⟨#[48, 49, 50, 51, 52, 53, 54, 55, 56, 57, 97, 98, 99, 100, 101, 102]⟩ : ByteArray)[n]'(show n < (⟨#[48, 49, 50, 51, 52, 53, 54, 55, 56, 57, 97, 98, 99, 100, 101, 102]⟩ : ByteArray).size from h)).toNat : Int) = ((hxD n).toNat : Int) := by decide
set_option maxRecDepth 100000 in
set_option maxHeartbeats 1000000 in
theorem hex4_any (n : Nat) (hn : n < 128) (w : World) :
    Calls Tryz.prog 48 #[.int .i64 (n : Int)] w fun e w' => e = .returned (.string (mkS [48, 48, hxD (n / 16), hxD (n % 16)])) ∧ Below w.heap.size w w' := by
  have a1 : bits .and .i64 ((n : Int) / 4096) 15 = 0 := by rw [i64_and15]; omega
  have a2 : bits .and .i64 ((n : Int) / 256) 15 = 0 := by rw [i64_and15]; omega
  obtain ⟨x, hx⟩ : ∃ x : Nat, x = n / 16 := ⟨_, rfl⟩
  obtain ⟨y, hy⟩ : ∃ y : Nat, y = n % 16 := ⟨_, rfl⟩
  have a3 : bits .and .i64 ((n : Int) / 16) 15 = (x : Int) := by rw [i64_and15]; omega
  have a4 : bits .and .i64 (n : Int) 15 = (y : Int) := by rw [i64_and15]; omega
  have hx1 : x < 16 := by omega
  have hy1 : y < 16 := by omega
  have hx2 : (x : Int) < 16 := by omega
  have hy2 : (y : Int) < 16 := by omega
  have HX := hid (show mkS [48, 48, hxD (n / 16), hxD (n % 16)] = mkS [48, 48, hxD x, hxD y] by rw [hx, hy])
  rw [HX.out]
  have e0 : ((⟨#[48, 49, 50, 51, 52, 53, 54, 55, 56, 57, 97, 98, 99, 100, 101, 102]⟩ : ByteArray)[0].toNat : Int) = 48 := rfl
  have e1 := hex_at x hx1
  have e2 := hex_at y hy1
  have hcv := conv_newD w [48, 48, ((hxD x).toNat : Int), ((hxD y).toNat : Int)] 4 rfl
  have HS := hid (show strOfNums [48, 48, ((hxD x).toNat : Int), ((hxD y).toNat : Int)] = mkS [48, 48, hxD x, hxD y] by
    refine mkS_of _ _ ?_
    rw [strOfNums_data']
    simp)
  simp only [List.map] at hcv
  clear hx hy HX
  go_enter Tryz.func48, Tryz.ntmps48
  go_wp2_with fail
  go_region
  go_wp2_with fail
  go_ret
  exact ⟨ret_st HS.out, ((Below.refl _ _).alloc (Nat.le_refl _) _).drew⟩
end Go.Proofs.YtiaepihdfbahaaaGreatDoor
namespace Go.Proofs.YtiaepihdfbahaaaGreatDoor
open Go.RowKit

def EE (many : Bool) (q : Nat) (l : List UInt8) : List UInt8 × Nat := if many = true then mE q l else oE q l
def PP (many : Bool) (q : Nat) (l : List UInt8) : List UInt8 × Nat :=
  if bt l 0 = 92 ∧ q = 34 then (if many = true ∧ 0 < fdN l then ([], fdN l) else escP true l)
  else if many = true ∧ 0 < lnE l then (l.take (lnE l), lnE l) else opP l
def tStart (many : Bool) (T : List UInt8) (a : Nat) : Nat := if many = true then a + 3 + lnE (T.drop (a + 3)) else a + 1
theorem tk_ascii {l : List UInt8} (h : bt l 0 < 128) : tkN l = 1 := by
  cases l with
  | nil => rw [bt_nil] at h; omega
  | cons a t =>
    rw [bt_cons] at h
    have hb : begN a.toNat = 1 := by unfold begN; rw [if_pos h]
    have hr : begR a.toNat = a.toNat := by unfold begR; rw [if_pos h]
    have hk : tkOk a t = true := by
      unfold tkOk
      rw [hb, hr]
      simp only [Nat.sub_self, List.take_zero, fol, List.foldl_nil]
      unfold goodN wdN
      rw [if_pos h]
      simp; omega
    simp only [tkN, hk, if_true, hb]
section
variable {many : Bool} {q : Nat} {T : List UInt8} {f i : Nat} {acc : List UInt8}
/-- a letter as it is, or a line's end, or what is wrong -/
def lineB (many : Bool) (l : List UInt8) : Bool := many && decide (0 < lnE l)
def badB (many : Bool) (l : List UInt8) : Prop := tkN l = 0 ∨ ((bt l 0 < 32 ∨ bt l 0 = 127) ∧ bt l 0 ≠ 9 ∧ lineB many l = false)
end
end Go.Proofs.YtiaepihdfbahaaaGreatDoor
