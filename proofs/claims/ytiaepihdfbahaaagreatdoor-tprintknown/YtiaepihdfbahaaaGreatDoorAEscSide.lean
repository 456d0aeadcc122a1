
import Derived.Test.YtiaepihdfbahaaaGreatDoorABase
import Derived.Test.YtiaepihdfbahaaaGreatDoorAUtfMore
import Derived.Test.YtiaepihdfbahaaaGreatDoorAVStr
import Derived.Test.YtiaepihdfbahaaaGreatDoorARefOne
import Derived.Deep.DeepCutAuto
import Derived.Deep.LoopGhost
import Derived.Test.YtiaepihdfbahaaaGreatDoorAShelf
import Derived.Lib.AppendStr
import Derived.Shelf.Strings.SlTrimAscii
import Derived.Deep.QuietTactic
import Derived.BigQuiet
/- esc.hexDigit, Hex, bareByte, Bare: walked. -/
/- esc.Hex, Bare, letter, plain, digits, named: walked. -/
/- esc.letter, plain, digits, named, jsonUnits, jsonPiece: walked. -/
/- esc.jsonUnits, jsonPiece: walked. -/
/- esc.jsonPiece, lineEnd, onePlain, manyPlain, tomlEscape, oneEscaped, folded, manyEscaped: walked. -/
/- esc.tomlEscape, oneEscaped, folded, manyEscaped: walked. -/
/- esc.oneEnd, manyEnd, from, read: walked. -/
/- esc.read: walked. -/
/- esc.from, Unquote, TUnquote: walked. -/
namespace Go.Proofs.YtiaepihdfbahaaaGreatDoor
open Go.RowKit

theorem ret_st {a b : ByteArray} (h : a = b) : Ending.returned (.string a) = .returned (.string b) := by rw [h]
/-- one frame upon another -/
theorem eonto {w w1 w2 : World} (h : Below w.heap.size w w1) (g : Below w1.heap.size w1 w2) : Below w.heap.size w w2 := h.trans (g.mono h.size)
/-- what a text's bytes lie as, once they are converted -/
theorem ebrow_at (s : ByteArray) (k : Nat) (w : World) (c : Nat) (t : TypeId) (m : Nat × Nat) (hk : k < s.size) : (w.alloc (.cells (bytesRow s c) t m)).cell? ⟨w.heap.size, k, none⟩ = some (.int .u8 (s[k].toNat : Int)) := by
  rw [World.cell?_alloc_mark w _ t m k]
  exact bytesRow_at s c k hk
def hxW (b : UInt8) : Nat := if hxI b = true then hxV b else 0
set_option maxRecDepth 100000 in
set_option maxHeartbeats 1000000 in
theorem bareb_any (b : UInt8) (w : World) :
    Calls Tryz.prog 43 #[.int .u8 (b.toNat : Int)] w fun e w' => e = .returned (.bool (brI b)) ∧ w' = w := by
  have hb : (b.toNat : Int) < 256 := by have := b.toNat_lt; omega
  have HB := hid (show brI b = decide ((97 ≤ (b.toNat : Int) ∧ (b.toNat : Int) ≤ 122) ∨ (65 ≤ (b.toNat : Int) ∧ (b.toNat : Int) ≤ 90) ∨ (48 ≤ (b.toNat : Int) ∧ (b.toNat : Int) ≤ 57) ∨ (b.toNat : Int) = 95 ∨ (b.toNat : Int) = 45) by
    unfold brI; rw [Bool.eq_iff_iff]; simp only [Bool.or_eq_true, decide_eq_true_eq]; omega)
  go_enter Tryz.func43, Tryz.ntmps43
  go_wp2
  all_goals
    go_ret
    exact ⟨ret_bool (by rw [HB.out]; first | exact (decide_eq_true (by omega)).symm | (rw [Bool.eq_iff_iff]; simp; omega)), rfl⟩
end Go.Proofs.YtiaepihdfbahaaaGreatDoor
namespace Go.Proofs.YtiaepihdfbahaaaGreatDoor
open Go.RowKit

theorem take_snoc (s : ByteArray) (k : Nat) (h : k < s.size) : s.data.toList.take (k + 1) = s.data.toList.take k ++ [s[k]] := by
  rw [List.take_succ_eq_append_getElem (by simpa using h)]; rfl
set_option maxRecDepth 100000 in
set_option maxHeartbeats 2000000 in
theorem bare_any (s : ByteArray) (w : World) (hs : s.size ≤ maxLen) :
    Calls Tryz.prog 23 #[.string s] w fun e w' => e = .returned (.bool (brB s.data.toList)) ∧ Below w.heap.size w w' := by
  unfold maxLen at hs
  have HZ := hid (size_list s)
  have hcv := run_bytes_of_string (P := Tryz.prog) w 9 39 5 s Tryz.underlying9 Tryz.underlying39 Tryz.underlying5
  go_enter Tryz.func23, Tryz.ntmps23
  go_upto_region 1 with fail
  go_cut [6, 7, 8] (fun a b c wx => ∃ cap, a = .slice (some ⟨w.heap.size, 0, none⟩) s.size cap ∧ b = .int .i64 s.size ∧ c = .int .i64 0 ∧ s.size ≤ cap ∧ Hid (∀ k (h : k < s.size), wx.cell? ⟨w.heap.size, k, none⟩ = some (.int .u8 (s[k].toNat : Int))) ∧ Hid (Below w.heap.size w wx))
  case first =>
    go_wp2_with fail
    go_meet
    exact ⟨_, rfl, rfl, rfl, grownCap_ge _ _ _ _, (show ∀ k (h : k < s.size), _ = _ from fun k hk => ebrow_at s k (w.drewN 1) _ _ _ hk), (Below.refl _ _).drew.alloc (by simp) _⟩
  case rest =>
  obtain ⟨cap, rfl, rfl, rfl, hcap, HC, HW⟩ := hcut
  clear hcv
  go_wp2_with fail
  go_loop [8] (fun i => ∃ j : Nat, j ≤ s.size ∧ i = .int .i64 j ∧ Hid ((s.data.toList.take j).all brI = true)) (fun i => s.size - (intOf i).toNat)
  case atStart => exact ⟨0, Nat.zero_le _, rfl, rfl⟩
  case round =>
    obtain ⟨j, hj, rfl, HJ⟩ := hrel
    by_cases hlt : j < s.size
    · have hcell := HC.out j hlt
      have HD := hid (fun X => bareb_any s[j] X)
      cases hx : brI s[j] with
      | true =>
        rw [hx] at HD
        have HA := hid (show (s.data.toList.take (j + 1)).all brI = true by rw [take_snoc s j hlt, List.all_append, HJ.out]; simp [hx])
        clear hx
        go_wp2_with (go_at_call 43; go_must (refine (HD.out _).mono ?_; rintro e w' ⟨rfl, rfl⟩))
        go_round
        case rel => exact ⟨j + 1, hlt, val_int (by omega), HA.out⟩
        case measure => simp [intOf]; omega
      | false =>
        rw [hx] at HD
        have HB := hid (show brB s.data.toList = false by
          unfold brB; rw [Bool.and_eq_false_iff]; right; rw [List.all_eq_false]
          exact ⟨s[j], by rw [← getD_at s j hlt, List.getD, List.getElem?_eq_getElem (by rw [HZ.out]; exact hlt)]; exact List.getElem_mem _, by simp [hx]⟩)
        clear hx
        go_wp2_with (go_at_call 43; go_must (refine (HD.out _).mono ?_; rintro e w' ⟨rfl, rfl⟩))
        go_ret
        exact ⟨ret_bool HB.out.symm, HW.out⟩
    · have HT := hid (show s.data.toList.all brI = true by have := HJ.out; rw [List.take_of_length_le (by rw [HZ.out]; omega)] at this; exact this)
      have HB := hid (show brB s.data.toList = !s.toList.isEmpty by unfold brB; rw [HT.out, ByteArray.toList_eq]; simp)
      go_wp2_with fail
      go_ret
      exact ⟨ret_bool (by rw [HB.out]), HW.out⟩
end Go.Proofs.YtiaepihdfbahaaaGreatDoor
namespace Go.Proofs.YtiaepihdfbahaaaGreatDoor
open Go.RowKit

theorem ltr_str (r : Int) : strOfNums (enc r) = mkS (ltr r) := mkS_of _ _ rfl
set_option maxRecDepth 100000 in
set_option maxHeartbeats 1000000 in
theorem letter_any (r : Int) (w : World) :
    Calls Tryz.prog 71 #[.int .i64 r] w fun e w' => e = .returned (.string (mkS (ltr r))) ∧ Below w.heap.size w w' := by
  have HE := hid (ltr_str r)
  go_enter Tryz.func71, Tryz.ntmps71
  go_wp2_with (go_at_call 111; go_must (refine (put_nil _ _).mono ?_; rintro e w1 ⟨rfl, hown, hb⟩; have hcv := conv_row w1 w.heap.size (enc r).length 4 w.heap.size (enc r) hown))
  go_ret
  exact ⟨ret_st HE.out, hb⟩
theorem drop_ext (s : ByteArray) (a b : Nat) : (s.extract a b).data.toList = (s.data.toList.drop a).take (b - a) := by
  rw [ByteArray.data_extract, Array.toList_extract]
def dgOk (l : List UInt8) (c k : Nat) : Prop := bt l 0 = 92 ∧ bt l 1 = c ∧ 0 ≤ cdI l 2 k
def DigPost (l : List UInt8) (c k : Nat) (e : Ending) : Prop :=
  (dgOk l c k ∧ e = .returned (.tuple #[.int .i64 (cdI l 2 k), .int .i64 ((2 + k : Nat) : Int)])) ∨ (¬ dgOk l c k ∧ e = .returned (.tuple #[.int .i64 0, .int .i64 0]))
/-- a stroke and a name -/
def nmP (toml : Bool) (l : List UInt8) : List UInt8 × Nat := if nmV toml (bt l 1) < 256 then ([UInt8.ofNat (nmV toml (bt l 1))], 2) else ([], 0)
def nmIs (toml : Bool) (names said : ByteArray) : Prop := said.size = names.size ∧ names.size ≤ 8 ∧
  ∀ b : UInt8, (Lib.indexByte names.data.toList b = -1 ∧ nmV toml b.toNat = 256) ∨ (∃ i : Nat, Lib.indexByte names.data.toList b = i ∧ i < names.size ∧ nmV toml b.toNat < 256 ∧ said.extract i (i + 1) = mkS [UInt8.ofNat (nmV toml b.toNat)])
end Go.Proofs.YtiaepihdfbahaaaGreatDoor
namespace Go.Proofs.YtiaepihdfbahaaaGreatDoor
open Go.RowKit

def nmT (toml : Bool) (names said : List UInt8) (n : Nat) : Bool :=
  (decide (Lib.indexByte names (UInt8.ofNat n) = -1) && decide (nmV toml n = 256)) ||
  (decide (0 ≤ Lib.indexByte names (UInt8.ofNat n)) && decide (Lib.indexByte names (UInt8.ofNat n) < 8) && decide (nmV toml n < 256) && decide (said[(Lib.indexByte names (UInt8.ofNat n)).toNat]? = some (UInt8.ofNat (nmV toml n))))
end Go.Proofs.YtiaepihdfbahaaaGreatDoor
namespace Go.Proofs.YtiaepihdfbahaaaGreatDoor
open Go.RowKit

theorem hp1 (l : List UInt8) (c : UInt8) : Lib.hasPrefix l [c] = decide (bt l 0 = c.toNat) := by
  have hc := c.toNat_lt
  unfold Lib.hasPrefix
  cases l with
  | nil => rw [bt_nil, decide_eq_false (by omega)]; rfl
  | cons a t =>
    rw [bt_cons, Bool.eq_iff_iff]; simp [List.isPrefixOf]
    rw [eq_comm, UInt8.toNat_inj]
theorem hp2 (l : List UInt8) (c d : UInt8) : Lib.hasPrefix l [c, d] = decide (bt l 0 = c.toNat ∧ bt l 1 = d.toNat) := by
  have hc := c.toNat_lt
  have h1 := hp1 (l.drop 1) d
  unfold Lib.hasPrefix at h1 ⊢
  cases l with
  | nil => rw [bt_nil, decide_eq_false (by omega)]; rfl
  | cons a t =>
    rw [List.drop_succ_cons, List.drop_zero] at h1
    rw [bt_cons, bt_succ, List.isPrefixOf, h1, Bool.eq_iff_iff]; simp
    intro _
    rw [eq_comm, UInt8.toNat_inj]
theorem hp3 (l : List UInt8) (c d f : UInt8) : Lib.hasPrefix l [c, d, f] = decide (bt l 0 = c.toNat ∧ bt l 1 = d.toNat ∧ bt l 2 = f.toNat) := by
  have hc := c.toNat_lt
  have h1 := hp2 (l.drop 1) d f
  unfold Lib.hasPrefix at h1 ⊢
  cases l with
  | nil => rw [bt_nil, decide_eq_false (by omega)]; rfl
  | cons a t =>
    rw [List.drop_succ_cons, List.drop_zero] at h1
    rw [bt_cons, bt_succ, bt_succ, List.isPrefixOf, h1, Bool.eq_iff_iff]; simp
    intro _ _
    rw [eq_comm, UInt8.toNat_inj]
/-- what a piece's function owes -/
def PieceOf (f : FuncId) (P : List UInt8 → List UInt8 × Nat) : Prop := ∀ (s : ByteArray) (w : World), s.size ≤ maxLen → 0 < s.size →
  Calls Tryz.prog f #[.string s] w fun e w' => e = .returned (.tuple #[.string (mkS (P s.data.toList).1), .int .i64 ((P s.data.toList).2 : Nat)]) ∧ Below w.heap.size w w'
end Go.Proofs.YtiaepihdfbahaaaGreatDoor
namespace Go.Proofs.YtiaepihdfbahaaaGreatDoor
open Go.RowKit

theorem dropW (p : UInt8 → Bool) (l : List UInt8) : l.dropWhile p = l.drop (run p l) := by
  unfold run
  induction l with
  | nil => rfl
  | cons a t ih =>
    rw [List.dropWhile_cons, List.takeWhile_cons]
    by_cases h : p a = true
    · rw [if_pos h, if_pos h, ih]; rfl
    · rw [if_neg h, if_neg h]; rfl
theorem run_leE (p : UInt8 → Bool) (l : List UInt8) : run p l ≤ l.length := by
  unfold run
  exact (List.takeWhile_prefix p).length_le
end Go.Proofs.YtiaepihdfbahaaaGreatDoor
namespace Go.Proofs.YtiaepihdfbahaaaGreatDoor
open Go.RowKit

/-- a row of bytes that is owned, read as a text -/
theorem conv_own (w : World) (base : Nat) (v : Value) (l : List UInt8) (h : w.ownsRow base 5 1 v l.length (Lib.strCells (mkS l))) :
    (convert 39 9 v).run Tryz.prog w = .ok (.string (mkS l)) w := by
  have h' := h
  rcases h' with ⟨-, ⟨rfl, hn⟩ | ⟨g, cap, cur, rfl, -⟩⟩
  · obtain rfl : l = [] := List.length_eq_zero_iff.1 hn
    exact run_convert_bytes_nil w 39 5 Tryz.underlying39 Tryz.underlying5 0 0 9 Tryz.underlying9
  · refine run_convert_bytes_back w 39 9 5 ⟨g, 0, none⟩ cap l Tryz.underlying39 Tryz.underlying5 Tryz.underlying9 (fun j hj => ?_)
    refine h.cells (g := g) rfl j _ ?_
    unfold Lib.strCells
    rw [mkS_list, List.getElem?_map, List.getElem?_eq_getElem hj]; rfl
theorem strCells_app (a b : List UInt8) : Lib.strCells (mkS (a ++ b)) = Lib.strCells (mkS a) ++ Lib.strCells (mkS b) := by
  unfold Lib.strCells; rw [mkS_list, mkS_list, mkS_list, List.map_append]
/-- what an end's function owes, in the worlds above one -/
def EndOf (w : World) (f : FuncId) (b : Nat) (E : List UInt8 → List UInt8 × Nat) : Prop := ∀ (s : ByteArray) (X : World), Below w.heap.size w X → s.size ≤ maxLen → 0 < s.size →
  Calls Tryz.prog f #[.string s, .pointer (some ⟨b, 0, none⟩)] X fun e w' => e = .returned (.tuple #[.string (mkS (E s.data.toList).1), .int .i64 ((E s.data.toList).2 : Nat)]) ∧ Below X.heap.size X w'
theorem drewN_below (w : World) (n : Nat) : Below w.heap.size w (w.drewN n) := by
  induction n with
  | zero => exact Below.refl _ _
  | succ n ih => exact ih.drew
end Go.Proofs.YtiaepihdfbahaaaGreatDoor
namespace Go.Proofs.YtiaepihdfbahaaaGreatDoor
open Go.RowKit

theorem Tryz.info_b : (Tryz.prog.info? 5).map (fun i => (i.zero, i.size, i.bytes)) = some (some (.int .u8 0), 1, 1) := by kernel_rfl
/-- no piece says more than it takes, none takes more than there is -/
def Fits (P : List UInt8 → List UInt8 × Nat) : Prop := ∀ l, (P l).2 ≤ l.length ∧ (P l).1.length ≤ (P l).2
theorem own_app {w : World} {base : Nat} {v : Value} {a x : List UInt8} {m : ByteArray} (hm : mkS x = m) (h : w.ownsRow base 5 1 v (a.length + m.size) (Lib.strCells (mkS a) ++ Lib.strCells m)) :
    w.ownsRow base 5 1 v (a ++ x).length (Lib.strCells (mkS (a ++ x))) := by
  subst hm
  rw [mkS_size] at h
  rw [strCells_app, List.length_append]
  exact h
end Go.Proofs.YtiaepihdfbahaaaGreatDoor
namespace Go.Proofs.YtiaepihdfbahaaaGreatDoor
open Go.RowKit

end Go.Proofs.YtiaepihdfbahaaaGreatDoor
