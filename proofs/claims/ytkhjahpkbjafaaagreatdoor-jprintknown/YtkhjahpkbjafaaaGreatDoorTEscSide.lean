
import Derived.Test.YtkhjahpkbjafaaaGreatDoorTBase
import Derived.Test.YtkhjahpkbjafaaaGreatDoorTUtfMore
import Derived.Test.YtkhjahpkbjafaaaGreatDoorTUtfAll
import Derived.Test.YtkhjahpkbjafaaaGreatDoorTRefOne
import Derived.Deep.DeepCutAuto
import Derived.Deep.LoopGhost
import Derived.Test.YtkhjahpkbjafaaaGreatDoorTShelf
import Derived.Lib.AppendStr
import Derived.Shelf.Strings.SlTrimAscii
import Derived.Deep.QuietTactic
import Derived.BigQuiet
/- esc.hexDigit, Hex, bareByte, Bare: walked. -/
/- esc.Hex, Bare, letter, plain, digits, named: walked. -/
/- esc.letter, plain, digits, named, jsonUnits, jsonPiece: walked. -/
/- esc.jsonUnits, jsonPiece: walked. -/
/- esc.jsonPiece, lineEnd, onePlain, manyPlain, tomlEscape, oneEscaped, folded, manyEscaped: walked. -/
/- esc.tomlEscape, oneEscaped, folded, manyEscaped: walked. -/
/- esc.oneEnd, manyEnd, from, read: walked. -/
/- esc.read: walked. -/
/- esc.from, Unquote, TUnquote: walked. -/
namespace Go.Proofs.YtkhjahpkbjafaaaGreatDoor
open Go.RowKit

theorem ret_st {a b : ByteArray} (h : a = b) : Ending.returned (.string a) = .returned (.string b) := by rw [h]
/-- one frame upon another -/
theorem eonto {w w1 w2 : World} (h : Below w.heap.size w w1) (g : Below w1.heap.size w1 w2) : Below w.heap.size w w2 := h.trans (g.mono h.size)
def hxW (b : UInt8) : Nat := if hxI b = true then hxV b else 0
end Go.Proofs.YtkhjahpkbjafaaaGreatDoor
namespace Go.Proofs.YtkhjahpkbjafaaaGreatDoor
open Go.RowKit

end Go.Proofs.YtkhjahpkbjafaaaGreatDoor
namespace Go.Proofs.YtkhjahpkbjafaaaGreatDoor
open Go.RowKit

theorem ltr_str (r : Int) : strOfNums (enc r) = mkS (ltr r) := mkS_of _ _ rfl
set_option maxRecDepth 100000 in
set_option maxHeartbeats 1000000 in
theorem letter_any (r : Int) (w : World) :
    Calls Tryz.prog 152 #[.int .i64 r] w fun e w' => e = .returned (.string (mkS (ltr r))) ∧ Below w.heap.size w w' := by
  have HE := hid (ltr_str r)
  go_enter Tryz.func152, Tryz.ntmps152
  go_wp2_with (go_at_call 193; go_must (refine (put_nil _ _).mono ?_; rintro e w1 ⟨rfl, hown, hb⟩; have hcv := conv_row w1 w.heap.size (enc r).length 4 w.heap.size (enc r) hown))
  go_ret
  exact ⟨ret_st HE.out, hb⟩
theorem drop_ext (s : ByteArray) (a b : Nat) : (s.extract a b).data.toList = (s.data.toList.drop a).take (b - a) := by
  rw [ByteArray.data_extract, Array.toList_extract]
theorem cdI_short (l : List UInt8) (k n : Nat) (h : l.length < k + n) : cdI l k n = -1 := by unfold cdI; rw [if_neg (by omega)]
def dgOk (l : List UInt8) (c k : Nat) : Prop := bt l 0 = 92 ∧ bt l 1 = c ∧ 0 ≤ cdI l 2 k
def DigPost (l : List UInt8) (c k : Nat) (e : Ending) : Prop :=
  (dgOk l c k ∧ e = .returned (.tuple #[.int .i64 (cdI l 2 k), .int .i64 ((2 + k : Nat) : Int)])) ∨ (¬ dgOk l c k ∧ e = .returned (.tuple #[.int .i64 0, .int .i64 0]))
/-- a stroke and a name -/
def nmP (toml : Bool) (l : List UInt8) : List UInt8 × Nat := if nmV toml (bt l 1) < 256 then ([UInt8.ofNat (nmV toml (bt l 1))], 2) else ([], 0)
def nmIs (toml : Bool) (names said : ByteArray) : Prop := said.size = names.size ∧ names.size ≤ 8 ∧
  ∀ b : UInt8, (Lib.indexByte names.data.toList b = -1 ∧ nmV toml b.toNat = 256) ∨ (∃ i : Nat, Lib.indexByte names.data.toList b = i ∧ i < names.size ∧ nmV toml b.toNat < 256 ∧ said.extract i (i + 1) = mkS [UInt8.ofNat (nmV toml b.toNat)])
end Go.Proofs.YtkhjahpkbjafaaaGreatDoor
namespace Go.Proofs.YtkhjahpkbjafaaaGreatDoor
open Go.RowKit

def nmT (toml : Bool) (names said : List UInt8) (n : Nat) : Bool :=
  (decide (Lib.indexByte names (UInt8.ofNat n) = -1) && decide (nmV toml n = 256)) ||
  (decide (0 ≤ Lib.indexByte names (UInt8.ofNat n)) && decide (Lib.indexByte names (UInt8.ofNat n) < 8) && decide (nmV toml n < 256) && decide (said[(Lib.indexByte names (UInt8.ofNat n)).toNat]? = some (UInt8.ofNat (nmV toml n))))
theorem esc_u (toml : Bool) (l : List UInt8) (h1 : bt l 1 = 117) : escP toml l = escU toml l 4 := by
  unfold escP
  rw [h1]
  have : nmV toml 117 = 256 := by unfold nmV; simp
  rw [this, if_neg (by omega), if_neg (by omega), if_pos rfl]
theorem good_yes {r : Int} (h0 : 0 ≤ r) (h : r < 55296 ∨ 57343 < r) (h1 : r ≤ 1114111) : goodB r = true := by unfold goodB; exact decide_eq_true (by omega)
end Go.Proofs.YtkhjahpkbjafaaaGreatDoor
namespace Go.Proofs.YtkhjahpkbjafaaaGreatDoor
open Go.RowKit

theorem hp1 (l : List UInt8) (c : UInt8) : Lib.hasPrefix l [c] = decide (bt l 0 = c.toNat) := by
  have hc := c.toNat_lt
  unfold Lib.hasPrefix
  cases l with
  | nil => rw [bt_nil, decide_eq_false (by omega)]; rfl
  | cons a t =>
    rw [bt_cons, Bool.eq_iff_iff]; simp [List.isPrefixOf]
    rw [eq_comm, UInt8.toNat_inj]
theorem hp2 (l : List UInt8) (c d : UInt8) : Lib.hasPrefix l [c, d] = decide (bt l 0 = c.toNat ∧ bt l 1 = d.toNat) := by
  have hc := c.toNat_lt
  have h1 := hp1 (l.drop 1) d
  unfold Lib.hasPrefix at h1 ⊢
  cases l with
  | nil => rw [bt_nil, decide_eq_false (by omega)]; rfl
  | cons a t =>
    rw [List.drop_succ_cons, List.drop_zero] at h1
    rw [bt_cons, bt_succ, List.isPrefixOf, h1, Bool.eq_iff_iff]; simp
    intro _
    rw [eq_comm, UInt8.toNat_inj]
theorem hp3 (l : List UInt8) (c d f : UInt8) : Lib.hasPrefix l [c, d, f] = decide (bt l 0 = c.toNat ∧ bt l 1 = d.toNat ∧ bt l 2 = f.toNat) := by
  have hc := c.toNat_lt
  have h1 := hp2 (l.drop 1) d f
  unfold Lib.hasPrefix at h1 ⊢
  cases l with
  | nil => rw [bt_nil, decide_eq_false (by omega)]; rfl
  | cons a t =>
    rw [List.drop_succ_cons, List.drop_zero] at h1
    rw [bt_cons, bt_succ, bt_succ, List.isPrefixOf, h1, Bool.eq_iff_iff]; simp
    intro _ _
    rw [eq_comm, UInt8.toNat_inj]
/-- what a piece's function owes -/
def PieceOf (f : FuncId) (P : List UInt8 → List UInt8 × Nat) : Prop := ∀ (s : ByteArray) (w : World), s.size ≤ maxLen → 0 < s.size →
  Calls Tryz.prog f #[.string s] w fun e w' => e = .returned (.tuple #[.string (mkS (P s.data.toList).1), .int .i64 ((P s.data.toList).2 : Nat)]) ∧ Below w.heap.size w w'
end Go.Proofs.YtkhjahpkbjafaaaGreatDoor
namespace Go.Proofs.YtkhjahpkbjafaaaGreatDoor
open Go.RowKit

end Go.Proofs.YtkhjahpkbjafaaaGreatDoor
namespace Go.Proofs.YtkhjahpkbjafaaaGreatDoor
open Go.RowKit

/-- a row of bytes that is owned, read as a text -/
theorem conv_own (w : World) (base : Nat) (v : Value) (l : List UInt8) (h : w.ownsRow base 5 1 v l.length (Lib.strCells (mkS l))) :
    (convert 34 9 v).run Tryz.prog w = .ok (.string (mkS l)) w := by
  have h' := h
  rcases h' with ⟨-, ⟨rfl, hn⟩ | ⟨g, cap, cur, rfl, -⟩⟩
  · obtain rfl : l = [] := List.length_eq_zero_iff.1 hn
    exact run_convert_bytes_nil w 34 5 Tryz.underlying34 Tryz.underlying5 0 0 9 Tryz.underlying9
  · refine run_convert_bytes_back w 34 9 5 ⟨g, 0, none⟩ cap l Tryz.underlying34 Tryz.underlying5 Tryz.underlying9 (fun j hj => ?_)
    refine h.cells (g := g) rfl j _ ?_
    unfold Lib.strCells
    rw [mkS_list, List.getElem?_map, List.getElem?_eq_getElem hj]; rfl
theorem strCells_app (a b : List UInt8) : Lib.strCells (mkS (a ++ b)) = Lib.strCells (mkS a) ++ Lib.strCells (mkS b) := by
  unfold Lib.strCells; rw [mkS_list, mkS_list, mkS_list, List.map_append]
/-- what an end's function owes, in the worlds above one -/
def EndOf (w : World) (f : FuncId) (b : Nat) (E : List UInt8 → List UInt8 × Nat) : Prop := ∀ (s : ByteArray) (X : World), Below w.heap.size w X → s.size ≤ maxLen → 0 < s.size →
  Calls Tryz.prog f #[.string s, .pointer (some ⟨b, 0, none⟩)] X fun e w' => e = .returned (.tuple #[.string (mkS (E s.data.toList).1), .int .i64 ((E s.data.toList).2 : Nat)]) ∧ Below X.heap.size X w'
theorem drewN_below (w : World) (n : Nat) : Below w.heap.size w (w.drewN n) := by
  induction n with
  | zero => exact Below.refl _ _
  | succ n ih => exact ih.drew
end Go.Proofs.YtkhjahpkbjafaaaGreatDoor
namespace Go.Proofs.YtkhjahpkbjafaaaGreatDoor
open Go.RowKit

theorem Tryz.info_b : (Tryz.prog.info? 5).map (fun i => (i.zero, i.size, i.bytes)) = some (some (.int .u8 0), 1, 1) := by kernel_rfl
/-- no piece says more than it takes, none takes more than there is -/
def Fits (P : List UInt8 → List UInt8 × Nat) : Prop := ∀ l, (P l).2 ≤ l.length ∧ (P l).1.length ≤ (P l).2
theorem own_app {w : World} {base : Nat} {v : Value} {a x : List UInt8} {m : ByteArray} (hm : mkS x = m) (h : w.ownsRow base 5 1 v (a.length + m.size) (Lib.strCells (mkS a) ++ Lib.strCells m)) :
    w.ownsRow base 5 1 v (a ++ x).length (Lib.strCells (mkS (a ++ x))) := by
  subst hm
  rw [mkS_size] at h
  rw [strCells_app, List.length_append]
  exact h
end Go.Proofs.YtkhjahpkbjafaaaGreatDoor
namespace Go.Proofs.YtkhjahpkbjafaaaGreatDoor
open Go.RowKit

theorem ltr_len (r : Int) : (ltr r).length ≤ 4 := by
  unfold ltr
  rw [size_list, strOfNums_size]
  unfold enc
  split
  · unfold encI; (repeat' split) <;> simp
  · simp
theorem fits_pl : Fits plP := fun l => ⟨tkN_le l, by unfold plP; rw [List.length_take]; exact Nat.min_le_left _ _⟩
theorem fits_escU (toml : Bool) (l : List UInt8) (n : Nat) (hn : 4 ≤ n) : (escU toml l n).2 ≤ l.length ∧ (escU toml l n).1.length ≤ (escU toml l n).2 := by
  unfold escU
  split
  · next h =>
    refine ⟨?_, Nat.le_trans (ltr_len _) (show 4 ≤ 2 + n by omega)⟩
    by_cases hl : l.length < 2 + n
    · rw [cdI_short l 2 n hl] at h; omega
    · exact Nat.le_of_not_lt hl
  · split
    · next h =>
      refine ⟨?_, Nat.le_trans (ltr_len _) (show 4 ≤ 12 by omega)⟩
      by_cases hl : l.length < 8 + 4
      · rw [cdI_short l 8 4 hl] at h; omega
      · exact Nat.le_of_not_lt hl
    · exact ⟨Nat.zero_le _, Nat.le_refl _⟩
theorem nmV_256 (toml : Bool) : nmV toml 256 = 256 := by unfold nmV; simp
theorem fits_esc (toml : Bool) : Fits (escP toml) := fun l => by
  unfold escP
  split
  · next h =>
    refine ⟨?_, by simp⟩
    by_cases hl : l.length ≤ 1
    · rw [bt_none hl, nmV_256] at h; omega
    · show 2 ≤ l.length; omega
  · split
    · exact fits_escU toml l 8 (by omega)
    · split
      · exact fits_escU toml l 4 (by omega)
      · exact ⟨Nat.zero_le _, Nat.le_refl _⟩
theorem fits_none (l : List UInt8) : (([], 0) : List UInt8 × Nat).2 ≤ l.length ∧ (([], 0) : List UInt8 × Nat).1.length ≤ (([], 0) : List UInt8 × Nat).2 := ⟨Nat.zero_le _, Nat.le_refl _⟩
theorem fits_js : Fits jsP := fun l => by
  unfold jsP
  split
  · exact fits_esc false l
  · split
    · exact fits_none l
    · exact fits_pl l
end Go.Proofs.YtkhjahpkbjafaaaGreatDoor
