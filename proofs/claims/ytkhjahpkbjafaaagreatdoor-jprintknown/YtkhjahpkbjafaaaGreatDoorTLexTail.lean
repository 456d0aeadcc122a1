/- What the library's variables hold: the tables of the decoder of letters. -/
import Derived.Test.YtkhjahpkbjafaaaGreatDoorTBase
import Derived.Shelf.Unicode.DecodeSlow
import Derived.Test.YtkhjahpkbjafaaaGreatDoorTEscSide
import Derived.Test.YtkhjahpkbjafaaaGreatDoorTBaseDec
import Derived.Deep.DeepCutAuto
import Derived.Deep.CutRange
import Derived.Test.YtkhjahpkbjafaaaGreatDoorTMathDecAll
import Derived.Deep.RegionWith
import Derived.Test.YtkhjahpkbjafaaaGreatDoorTMathJ
import Derived.Test.YtkhjahpkbjafaaaGreatDoorTRefOne
import Derived.Test.YtkhjahpkbjafaaaGreatDoorTJxOne
namespace Go.Proofs.YtkhjahpkbjafaaaGreatDoor
open Go.RowKit

def GlobU (w : World) : Prop := Lib.Utf8Tabs 6 7 w
theorem GlobU.on {w w' : World} (h : GlobU w) (hb : Below w.heap.size w w') : GlobU w' := Utf8Tabs_below h hb
end Go.Proofs.YtkhjahpkbjafaaaGreatDoor
/- The document's own Hex, Bare, code, place, plain of chapter 6: walked. -/
/- The document's own escape of chapter 6: walked. -/
/- The document's own folded of chapter 6: walked. -/
/- The document's own Unquote of chapter 6: walked. -/
namespace Go.Proofs.YtkhjahpkbjafaaaGreatDoor
open Go.RowKit

/-- whether a letter behind a stroke says something, and what -/
def plnB (toml : Bool) (b : Nat) : Bool := decide (nmV toml b < 256)
def plnS (b : Nat) : List UInt8 := if b = 34 ∨ b = 92 then [UInt8.ofNat b] else if b = 98 then [8] else if b = 102 then [12] else if b = 110 then [10] else if b = 114 then [13] else if b = 116 then [9] else if b = 47 then [47] else if b = 101 then [27] else []
end Go.Proofs.YtkhjahpkbjafaaaGreatDoor
namespace Go.Proofs.YtkhjahpkbjafaaaGreatDoor
open Go.RowKit

end Go.Proofs.YtkhjahpkbjafaaaGreatDoor
namespace Go.Proofs.YtkhjahpkbjafaaaGreatDoor
open Go.RowKit

/-- all of a text's first bytes are so, as far as the j-th -/
def allF (p : UInt8 → Bool) (D : List UInt8) (j : Nat) : Prop := ∀ k, k < j → ∃ b, D[k]? = some b ∧ p b = true
def fdM (many : Bool) (l : List UInt8) : Nat := if many = true then fdN l else 0
end Go.Proofs.YtkhjahpkbjafaaaGreatDoor
namespace Go.Proofs.YtkhjahpkbjafaaaGreatDoor
open Go.RowKit

theorem mkS_app (a b : List UInt8) : mkS a ++ mkS b = mkS (a ++ b) := by
  refine mkS_of _ _ ?_
  rw [ByteArray.data_append, Array.toList_append]
  show (mkS a).data.toList ++ (mkS b).data.toList = _
  rw [mkS_list, mkS_list]
theorem oE_no {q : Nat} {l : List UInt8} (h : bt l 0 ≠ q) : (oE q l).2 = 0 := by unfold oE; rw [if_neg h]
theorem oE_yes {q : Nat} {l : List UInt8} (h : bt l 0 = q) : oE q l = ([], 1) := by unfold oE; rw [if_pos h]
end Go.Proofs.YtkhjahpkbjafaaaGreatDoor
/- The document's own reckoning of numbers' texts, walked: digit, run, power, sign. -/
/- The document's own reckoning of a number's text, walked: parts. -/
/- The document's own reckoning of numbers' texts, walked: Form, Number, scaled, Whole. -/
/- The document's own order of numbers, walked: Cmp. -/
/- The document's own reading of whole numbers, walked: Int. -/
namespace Go.Proofs.YtkhjahpkbjafaaaGreatDoor
open Go.RowKit

end Go.Proofs.YtkhjahpkbjafaaaGreatDoor
namespace Go.Proofs.YtkhjahpkbjafaaaGreatDoor
open Go.RowKit

end Go.Proofs.YtkhjahpkbjafaaaGreatDoor
namespace Go.Proofs.YtkhjahpkbjafaaaGreatDoor
open Go.RowKit

def szOf (v : Value) : Nat := match v with | .string x => x.size | _ => 0
end Go.Proofs.YtkhjahpkbjafaaaGreatDoor
namespace Go.Proofs.YtkhjahpkbjafaaaGreatDoor
open Go.RowKit

end Go.Proofs.YtkhjahpkbjafaaaGreatDoor
namespace Go.Proofs.YtkhjahpkbjafaaaGreatDoor
open Go.RowKit

end Go.Proofs.YtkhjahpkbjafaaaGreatDoor
/- The document's own Cut of chapter 7: what it calls. -/
/- What the statements of chapter 7 ask first, over what is asked of the program's Cut. -/
/- Words that a slice of one's own holds; a fault has no words. -/
namespace Go.Proofs.YtkhjahpkbjafaaaGreatDoor
open Go.RowKit

theorem rd_in {E P : List UInt8 → List UInt8 × Nat} {T : List UInt8} (hE : ∀ l, 0 < l.length → (E l).2 ≤ l.length) (hP : ∀ l, (P l).2 ≤ l.length) : ∀ f i acc, (rd E P T f i acc).2.2 < 0 → i < (rd E P T f i acc).2.1 ∧ (rd E P T f i acc).2.1 ≤ T.length
  | 0, i, acc, h => by rw [rd] at h; simp only at h; omega
  | f + 1, i, acc, h => by
    rw [rd] at h ⊢
    by_cases h1 : T.length ≤ i
    · rw [if_pos h1] at h; simp only at h; omega
    · rw [if_neg h1] at h ⊢
      by_cases h2 : 0 < (E (T.drop i)).2
      · rw [if_pos h2]
        have := hE (T.drop i) (by rw [List.length_drop]; omega)
        rw [List.length_drop] at this
        simp only; omega
      · rw [if_neg h2] at h ⊢
        by_cases h3 : (P (T.drop i)).2 = 0
        · rw [if_pos h3] at h; simp only at h; omega
        · rw [if_neg h3] at h ⊢
          have := rd_in hE hP f _ _ h
          omega
theorem unqJ_in (T : List UInt8) (a : Nat) (h : (unqJ T a).2.2 < 0) : a < (unqJ T a).2.1 ∧ (unqJ T a).2.1 ≤ T.length := by
  unfold unqJ at h ⊢
  by_cases h1 : 0 ≤ (a : Int) ∧ bt T (a : Int).toNat = 34
  · rw [if_pos h1] at h ⊢
    unfold rdA at h ⊢
    have := rd_in (fun l hl => by unfold oE; split <;> simp only <;> omega) (fun l => (fits_js l).1) _ _ _ h
    simp only [Int.toNat_natCast] at this ⊢
    omega
  · rw [if_neg h1] at h
    simp only [plc] at h
    split at h
    · omega
    · split at h <;> omega
end Go.Proofs.YtkhjahpkbjafaaaGreatDoor
namespace Go.Proofs.YtkhjahpkbjafaaaGreatDoor
open Go.RowKit

/-- words that lie in memory -/
def InW (w : World) (ws : List Wd) (v : Value) : Prop := ∃ (o : Option Addr) (a : Addr) (cap : Nat), v = .slice o ws.length cap ∧ ws.length ≤ cap ∧ cap ≤ maxLen ∧ (0 < ws.length → o = some a) ∧ ∀ i x, ws[i]? = some x →
  w.cell? (a.add (i * 3)) = some (.int .i64 (x.kd : Nat)) ∧ w.cell? ⟨(a.add (i * 3)).block, (a.add (i * 3)).off + 1, none⟩ = some (.string (mkS x.tx)) ∧ w.cell? ⟨(a.add (i * 3)).block, (a.add (i * 3)).off + 2, none⟩ = some (.int .i64 (x.at_ : Nat))
theorem lkeep {w w' : World} (hb : Below w.heap.size w w') {a : Addr} {v : Value} (hc : w.cell? a = some v) : w'.cell? a = some v := by
  rw [hb.cell (World.block_lt_of_cell? w a hc)]; exact hc
theorem InW.onto {w w' : World} {ws : List Wd} {v : Value} (h : InW w ws v) (hb : Below w.heap.size w w') : InW w' ws v := by
  obtain ⟨o, a, c, h1, h2, h3, h4, h5⟩ := h
  exact ⟨o, a, c, h1, h2, h3, h4, fun i x hx => ⟨lkeep hb (h5 i x hx).1, lkeep hb (h5 i x hx).2.1, lkeep hb (h5 i x hx).2.2⟩⟩
/-- the fault of a text as the program says it -/
def jfV (t : ByteArray) (R : List Wd × Nat × Nat) : Value := if R.2.1 = 0 then .agg #[.int .i64 0, .int .i64 0, .int .i64 0, .int .i64 0] else faultV t (R.2.2 : Nat) (R.2.1 : Nat)
/-- what is asked of the program's Cut -/
def Tryz.JPost (w : World) (t : ByteArray) (e : Ending) (w' : World) : Prop := ∃ v, e = .returned (.tuple #[v, jfV t (cutA t.data.toList)]) ∧ InW w' (cutA t.data.toList).1 v ∧ Below w.heap.size w w'
def Tryz.JHas : Prop := ∀ (t : ByteArray) (w : World), t.size ≤ 1000000 → GlobU w → Calls Tryz.prog 40 #[.string t] w (Tryz.JPost w t)
end Go.Proofs.YtkhjahpkbjafaaaGreatDoor
namespace Go.Proofs.YtkhjahpkbjafaaaGreatDoor
open Go.RowKit

end Go.Proofs.YtkhjahpkbjafaaaGreatDoor
