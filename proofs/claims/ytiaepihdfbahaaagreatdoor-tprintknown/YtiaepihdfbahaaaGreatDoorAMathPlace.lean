/- tprint.May. -/
import Derived.Test.YtiaepihdfbahaaaGreatDoorATpC
import Derived.Test.YtiaepihdfbahaaaGreatDoorAVGood
import Derived.Test.YtiaepihdfbahaaaGreatDoorAEscSide
import Derived.Test.YtiaepihdfbahaaaGreatDoorABase
import Derived.Lib.Bytealg
import Derived.Lib.LastIndexByte
/- Plain mathematics of lines and columns: line ends counted, a line's beginning, the last line's beginning. -/
namespace Go.Proofs.YtiaepihdfbahaaaGreatDoor
open Go.RowKit

/-- may a tree be TOML? -/
def tomB (T : VT) : Bool := decide (T.kd = 6) && (mayB 0 1 T && syT T)
set_option maxRecDepth 100000 in
set_option maxHeartbeats 2000000 in
theorem tpmay_any (T : VT) (x y : Value) (w : World) (hg : GlobN w) (hT : HV w T x y) :
    Calls Tryz.prog 10 #[vv T x y] w fun e w' => e = .returned (.bool (tomB T)) ∧ Below w.heap.size w w' := by
  have CG := hid (fun (X : World) (hX : Below w.heap.size w X) => vgood_any T x y X (hg.on hX).t.g (hT.onto hX))
  have CS := hid (fun (hp : plainT T = true) (X : World) (hX : Below w.heap.size w X) => tpsay_all (szT T) T x y X (Nat.le_refl _) (hT.onto hX) hp (hg.on hX))
  obtain ⟨o1, n1, c1, o2, n2, c2, rfl, rfl⟩ := hv_slices hT
  have hpl : mayB 0 1 T = true → plainT T = true := fun h => by unfold mayB at h; rw [Bool.and_eq_true] at h; exact h.2
  unfold tomB
  simp only [vv] at CG CS ⊢
  generalize mayB 0 1 T = M at *
  generalize syT T = S at *
  have HB0 := hid (valloc_bel (Below.refl w.heap.size w) (.cells #[.int .i64 T.kd, .int .i64 T.nm, .string T.st, .slice o1 n1 c1, .slice o2 n2 c2] 27))
  obtain ⟨f0, f1, f2, f3, f4⟩ := tpbox w (.int .i64 T.kd) (.int .i64 T.nm) (.string T.st) (.slice o1 n1 c1) (.slice o2 n2 c2)
  clear hg hT
  by_cases k6 : T.kd = 6
  · rw [decide_eq_true k6, Bool.true_and]
    rw [k6] at CG CS HB0 f0 f1 f2 f3 f4 ⊢
    cases M with
    | true =>
      have CS2 := hid (CS.out (hpl rfl))
      clear CS hpl
      go_enter Tryz.func10, Tryz.ntmps10
      go_wp2_with fail
      go_at_call 18
      refine (CG.out _ HB0.out).mono ?_
      rintro e w1 ⟨rfl, hb1⟩
      have HB1 := hid (vonto HB0.out hb1)
      replace f0 := keepCell hb1 f0
      replace f1 := keepCell hb1 f1
      replace f2 := keepCell hb1 f2
      replace f3 := keepCell hb1 f3
      replace f4 := keepCell hb1 f4
      have C2 := hid (CS2.out w1 HB1.out)
      clear hb1 CG CS2
      go_wp2_with fail
      go_at_call 19
      refine C2.out.mono ?_
      rintro e w2 ⟨rfl, hb2⟩
      have HB2 := hid (vonto HB1.out hb2)
      clear hb2 C2
      go_wp2_with fail
      go_ret
      exact ⟨rfl, HB2.out⟩
    | false =>
      clear CS hpl
      go_enter Tryz.func10, Tryz.ntmps10
      go_wp2_with fail
      go_at_call 18
      refine (CG.out _ HB0.out).mono ?_
      rintro e w1 ⟨rfl, hb1⟩
      have HB1 := hid (vonto HB0.out hb1)
      clear hb1 CG
      go_wp2_with fail
      go_ret
      exact ⟨rfl, HB1.out⟩
  · rw [decide_eq_false k6, Bool.false_and]
    obtain ⟨k6a, k6b⟩ := ikey T.kd 6 k6
    clear CS CG hpl
    go_enter Tryz.func10, Tryz.ntmps10
    go_wp2_with fail
    go_ret
    exact ⟨rfl, HB0.out⟩
end Go.Proofs.YtiaepihdfbahaaaGreatDoor
/- The document's own Hex, Bare, code, place, plain of chapter 6: walked. -/
/- The document's own escape of chapter 6: walked. -/
/- The document's own folded of chapter 6: walked. -/
/- The document's own Unquote of chapter 6: walked. -/
namespace Go.Proofs.YtiaepihdfbahaaaGreatDoor
open Go.RowKit

set_option maxRecDepth 100000 in
set_option maxHeartbeats 2000000 in
theorem rbare_any (s : ByteArray) (w : World) (hs : s.size ≤ maxLen) :
    Calls Tryz.prog 26 #[.string s] w fun e w' => e = .returned (.bool (brB s.data.toList)) ∧ w' = w := by
  unfold maxLen at hs
  have HZ := hid (size_list s)
  go_enter Tryz.func26, Tryz.ntmps26
  go_wp2_with fail
  go_loop [3] (fun i => ∃ j : Nat, j ≤ s.size ∧ i = .int .i64 j ∧ Hid ((s.data.toList.take j).all brI = true)) (fun i => s.size - (intOf i).toNat)
  case atStart => exact ⟨0, Nat.zero_le _, rfl, rfl⟩
  case round =>
    obtain ⟨j, hj, rfl, HJ⟩ := hrel
    by_cases hlt : j < s.size
    · have hb : (s[j].toNat : Int) < 256 := by have := s[j].toNat_lt; omega
      cases hx : brI s[j] with
      | true =>
        have HA := hid (show (s.data.toList.take (j + 1)).all brI = true by rw [take_snoc s j hlt, List.all_append, HJ.out]; simp [hx])
        have hp : (97 ≤ (s[j].toNat : Int) ∧ (s[j].toNat : Int) ≤ 122) ∨ (65 ≤ (s[j].toNat : Int) ∧ (s[j].toNat : Int) ≤ 90) ∨ (48 ≤ (s[j].toNat : Int) ∧ (s[j].toNat : Int) ≤ 57) ∨ (s[j].toNat : Int) = 95 ∨ (s[j].toNat : Int) = 45 := by
          unfold brI at hx; simp only [Bool.or_eq_true, decide_eq_true_eq] at hx; omega
        clear hx
        rcases hp with ⟨g1, g2⟩ | ⟨g1, g2⟩ | ⟨g1, g2⟩ | g1 | g1
        · go_wp2_with fail
          go_round
          case rel => exact ⟨j + 1, hlt, val_int (by omega), HA.out⟩
          case measure => simp [intOf]; omega
        · go_wp2_with fail
          go_round
          case rel => exact ⟨j + 1, hlt, val_int (by omega), HA.out⟩
          case measure => simp [intOf]; omega
        · go_wp2_with fail
          go_round
          case rel => exact ⟨j + 1, hlt, val_int (by omega), HA.out⟩
          case measure => simp [intOf]; omega
        · go_wp2_with fail
          go_round
          case rel => exact ⟨j + 1, hlt, val_int (by omega), HA.out⟩
          case measure => simp [intOf]; omega
        · go_wp2_with fail
          go_round
          case rel => exact ⟨j + 1, hlt, val_int (by omega), HA.out⟩
          case measure => simp [intOf]; omega
      | false =>
        have HB := hid (show brB s.data.toList = false by
          unfold brB; rw [Bool.and_eq_false_iff]; right; rw [List.all_eq_false]
          exact ⟨s[j], by rw [← getD_at s j hlt, List.getD, List.getElem?_eq_getElem (by rw [HZ.out]; exact hlt)]; exact List.getElem_mem _, by simp [hx]⟩)
        have hp : (s[j].toNat : Int) < 45 ∨ (45 < (s[j].toNat : Int) ∧ (s[j].toNat : Int) < 48) ∨ (57 < (s[j].toNat : Int) ∧ (s[j].toNat : Int) < 65) ∨ (90 < (s[j].toNat : Int) ∧ (s[j].toNat : Int) < 95) ∨ (95 < (s[j].toNat : Int) ∧ (s[j].toNat : Int) < 97) ∨ 122 < (s[j].toNat : Int) := by
          have h1 : ¬ brI s[j] = true := by rw [hx]; decide
          unfold brI at h1; simp only [Bool.or_eq_true, decide_eq_true_eq] at h1; omega
        clear hx
        have q1 : ((s[j].toNat : Int) == 95) = false := by rw [beq_eq_false_iff_ne]; omega
        have q2 : ((s[j].toNat : Int) == 45) = false := by rw [beq_eq_false_iff_ne]; omega
        have hp2 : (0 ≤ (s[j].toNat : Int) ∧ (s[j].toNat : Int) < 48) ∨ (57 < (s[j].toNat : Int) ∧ (s[j].toNat : Int) < 65) ∨ (90 < (s[j].toNat : Int) ∧ (s[j].toNat : Int) < 97) ∨ (122 < (s[j].toNat : Int) ∧ (s[j].toNat : Int) < 256) := by omega
        clear hp hb
        rcases hp2 with ⟨g1, g2⟩ | ⟨g1, g2⟩ | ⟨g1, g2⟩ | ⟨g1, g2⟩
        · have f1 : decide (97 ≤ (s[j].toNat : Int)) = false := decide_eq_false (by omega)
          have f2 : decide (65 ≤ (s[j].toNat : Int)) = false := decide_eq_false (by omega)
          have f3 : decide (48 ≤ (s[j].toNat : Int)) = false := decide_eq_false (by omega)
          clear g1 g2
          go_wp2_with fail
          go_ret
          exact ⟨ret_bool HB.out.symm, rfl⟩
        · have f1 : decide (97 ≤ (s[j].toNat : Int)) = false := decide_eq_false (by omega)
          have f2 : decide (65 ≤ (s[j].toNat : Int)) = false := decide_eq_false (by omega)
          have f3 : decide (48 ≤ (s[j].toNat : Int)) = true := decide_eq_true (by omega)
          have f4 : decide ((s[j].toNat : Int) ≤ 57) = false := decide_eq_false (by omega)
          clear g1 g2
          go_wp2_with fail
          go_ret
          exact ⟨ret_bool HB.out.symm, rfl⟩
        · have f1 : decide (97 ≤ (s[j].toNat : Int)) = false := decide_eq_false (by omega)
          have f2 : decide (65 ≤ (s[j].toNat : Int)) = true := decide_eq_true (by omega)
          have f5 : decide ((s[j].toNat : Int) ≤ 90) = false := decide_eq_false (by omega)
          have f3 : decide (48 ≤ (s[j].toNat : Int)) = true := decide_eq_true (by omega)
          have f4 : decide ((s[j].toNat : Int) ≤ 57) = false := decide_eq_false (by omega)
          clear g1 g2
          go_wp2_with fail
          go_ret
          exact ⟨ret_bool HB.out.symm, rfl⟩
        · have f1 : decide (97 ≤ (s[j].toNat : Int)) = true := decide_eq_true (by omega)
          have f6 : decide ((s[j].toNat : Int) ≤ 122) = false := decide_eq_false (by omega)
          have f2 : decide (65 ≤ (s[j].toNat : Int)) = true := decide_eq_true (by omega)
          have f5 : decide ((s[j].toNat : Int) ≤ 90) = false := decide_eq_false (by omega)
          have f3 : decide (48 ≤ (s[j].toNat : Int)) = true := decide_eq_true (by omega)
          have f4 : decide ((s[j].toNat : Int) ≤ 57) = false := decide_eq_false (by omega)
          clear g1 g2
          go_wp2_with fail
          go_ret
          exact ⟨ret_bool HB.out.symm, rfl⟩
    · have HT := hid (show s.data.toList.all brI = true by have := HJ.out; rw [List.take_of_length_le (by rw [HZ.out]; omega)] at this; exact this)
      have HB := hid (show brB s.data.toList = !s.toList.isEmpty by unfold brB; rw [HT.out, ByteArray.toList_eq]; simp)
      go_wp2_with fail
      go_ret
      exact ⟨ret_bool (by rw [HB.out]), rfl⟩
/-- whether a letter behind a stroke says something, and what -/
def plnB (toml : Bool) (b : Nat) : Bool := decide (nmV toml b < 256)
def plnS (b : Nat) : List UInt8 := if b = 34 ∨ b = 92 then [UInt8.ofNat b] else if b = 98 then [8] else if b = 102 then [12] else if b = 110 then [10] else if b = 114 then [13] else if b = 116 then [9] else if b = 47 then [47] else if b = 101 then [27] else []
end Go.Proofs.YtiaepihdfbahaaaGreatDoor
namespace Go.Proofs.YtiaepihdfbahaaaGreatDoor
open Go.RowKit

end Go.Proofs.YtiaepihdfbahaaaGreatDoor
namespace Go.Proofs.YtiaepihdfbahaaaGreatDoor
open Go.RowKit

/-- all of a text's first bytes are so, as far as the j-th -/
def allF (p : UInt8 → Bool) (D : List UInt8) (j : Nat) : Prop := ∀ k, k < j → ∃ b, D[k]? = some b ∧ p b = true
def fdM (many : Bool) (l : List UInt8) : Nat := if many = true then fdN l else 0
end Go.Proofs.YtiaepihdfbahaaaGreatDoor
namespace Go.Proofs.YtiaepihdfbahaaaGreatDoor
open Go.RowKit

theorem mkS_app (a b : List UInt8) : mkS a ++ mkS b = mkS (a ++ b) := by
  refine mkS_of _ _ ?_
  rw [ByteArray.data_append, Array.toList_append]
  show (mkS a).data.toList ++ (mkS b).data.toList = _
  rw [mkS_list, mkS_list]
end Go.Proofs.YtiaepihdfbahaaaGreatDoor
namespace Go.Proofs.YtiaepihdfbahaaaGreatDoor
open Go.RowKit

theorem cnt_le (l : List UInt8) : cnt l ≤ l.length := by
  have h := pos_ge l (cnt l)
  rw [(cnt_has l).1] at h; exact h
end Go.Proofs.YtiaepihdfbahaaaGreatDoor
namespace Go.Proofs.YtiaepihdfbahaaaGreatDoor
open Go.RowKit

def ub (n : Int) : UInt8 := UInt8.ofNat n.toNat
def okb (n : Int) : Prop := 0 ≤ n ∧ n < 256
end Go.Proofs.YtiaepihdfbahaaaGreatDoor
namespace Go.Proofs.YtiaepihdfbahaaaGreatDoor
open Go.RowKit

end Go.Proofs.YtiaepihdfbahaaaGreatDoor
namespace Go.Proofs.YtiaepihdfbahaaaGreatDoor
open Go.RowKit

/-- how many line ends -/
def nls (l : List UInt8) : Nat := l.count 10
/-- where the last line of the first k bytes begins -/
def bol (l : List UInt8) : Nat → Nat
  | 0 => 0
  | k + 1 => if l.getD k 0 = 10 then k + 1 else bol l k
/-- a text's last line's column, behind its last byte -/
def colOf (m : List UInt8) : Nat := cnt (m.drop (bol m m.length)) + 1
def linOf (m : List UInt8) : Nat := nls m + 1
/-- where the (j+1)-th line begins -/
def lineAt (l : List UInt8) (j : Nat) : Nat := least (fun p => decide (nls (l.take p) < j)) l.length 0
/-- p is where the (j+1)-th line begins -/
def LineAt (l : List UInt8) (j p : Nat) : Prop := nls (l.take p) = j ∧ p ≤ l.length ∧ (p = 0 ∨ l.getD (p - 1) 0 = 10)
/-- what Begin answers -/
def bgB (l : List UInt8) (n : Int) : Bool := decide (1 ≤ n ∧ n ≤ nls l + 1)
def bgP (l : List UInt8) (n : Int) : Int := if 1 ≤ n ∧ n ≤ nls l + 1 then (lineAt l (n - 1).toNat : Int) else 0
/-- a place drawn into a text -/
def clN (n : Nat) (a : Int) : Nat := (min (max a 0) (n : Int)).toNat
end Go.Proofs.YtiaepihdfbahaaaGreatDoor
