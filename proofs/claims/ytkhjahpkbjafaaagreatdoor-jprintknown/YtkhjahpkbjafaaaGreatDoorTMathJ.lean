/- Plain mathematics of JSON's words: no program is named here. -/
import Derived.Test.YtkhjahpkbjafaaaGreatDoorTBase
import Derived.Test.YtkhjahpkbjafaaaGreatDoorTMathDecAll
import Derived.Test.YtkhjahpkbjafaaaGreatDoorTRefOne
import Derived.Test.YtkhjahpkbjafaaaGreatDoorTOrders
import Derived.Deep.AppendLies
import Derived.Deep.Onto
import Derived.Test.YtkhjahpkbjafaaaGreatDoorTMathUtf
namespace Go.Proofs.YtkhjahpkbjafaaaGreatDoor
open Go.RowKit

/-- the bytes of a word's kinds -/
def sgnB (b : UInt8) : Bool := decide (b.toNat = 123 ∨ b.toNat = 125 ∨ b.toNat = 91 ∨ b.toNat = 93 ∨ b.toNat = 58 ∨ b.toNat = 44)
def numS (b : UInt8) : Bool := decide ((48 ≤ b.toNat ∧ b.toNat ≤ 57) ∨ b.toNat = 43 ∨ b.toNat = 45 ∨ b.toNat = 46 ∨ b.toNat = 69)
def numC (b : UInt8) : Bool := numS b || decide (b.toNat = 101)
def lowC (b : UInt8) : Bool := decide (97 ≤ b.toNat ∧ b.toNat ≤ 122)
/-- a word: its kind, what it says, where it begins -/
structure Wd where
  kd : Nat
  tx : List UInt8
  at_ : Nat
/-- what stands at a place: a word's kind (9: a blank), its text, where it goes on; or an error (not 0) and where -/
structure LW where
  kd : Nat
  tx : List UInt8
  nx : Nat
  er : Nat
  ea : Nat
def lwS (T : List UInt8) (i : Nat) : LW :=
  if 0 ≤ (unqJ T i).2.2 then ⟨0, [], 0, 4, (unqJ T i).2.2.toNat⟩
  else if 4096 < (unqJ T i).1.length then ⟨0, [], 0, 2, i⟩
  else ⟨2, (unqJ T i).1, (unqJ T i).2.1, 0, 0⟩
def lwN (T : List UInt8) (i : Nat) : LW :=
  if 400 < run numC (T.drop i) then ⟨0, [], 0, 2, i⟩
  else if pOk ((T.drop i).take (run numC (T.drop i))) = false then ⟨0, [], 0, 4, i⟩
  else if pwOk (pP ((T.drop i).take (run numC (T.drop i)))) = false then ⟨0, [], 0, 6, i⟩
  else ⟨3, (T.drop i).take (run numC (T.drop i)), i + run numC (T.drop i), 0, 0⟩
def litB (l : List UInt8) : Bool := decide (l = [116, 114, 117, 101] ∨ l = [102, 97, 108, 115, 101] ∨ l = [110, 117, 108, 108])
def lwL (T : List UInt8) (i : Nat) : LW :=
  if litB ((T.drop i).take (run lowC (T.drop i))) = true then ⟨4, (T.drop i).take (run lowC (T.drop i)), i + run lowC (T.drop i), 0, 0⟩ else ⟨0, [], 0, 4, i⟩
def lw (T : List UInt8) (i : Nat) : LW :=
  match T[i]? with
  | none => ⟨0, [], 0, 4, i⟩
  | some b =>
    if blB b = true then ⟨9, [], i + 1, 0, 0⟩
    else if sgnB b = true then ⟨1, [b], i + 1, 0, 0⟩
    else if b.toNat = 34 then lwS T i
    else if numS b = true then lwN T i
    else lwL T i
def lx (T : List UInt8) : Nat → Nat → List Wd → List Wd × Nat × Nat
  | 0, _, _ => ([], 4, 0)
  | f + 1, i, acc =>
    if T.length ≤ i then (acc ++ [⟨0, [], T.length⟩], 0, 0)
    else if (lw T i).er ≠ 0 then ([], (lw T i).er, (lw T i).ea)
    else if (lw T i).kd = 9 then lx T f (lw T i).nx acc
    else lx T f (lw T i).nx (acc ++ [⟨(lw T i).kd, (lw T i).tx, i⟩])
/-- a text's words, or its first fault -/
def cutA (T : List UInt8) : List Wd × Nat × Nat :=
  if 65536 < T.length then ([], 2, T.length)
  else if 0 ≤ rvI T then ([], 3, (rvI T).toNat)
  else lx T (T.length + 1) 0 []
section
variable {T : List UInt8} {f i : Nat} {acc : List Wd}
end
end Go.Proofs.YtkhjahpkbjafaaaGreatDoor
/- The document's own in and row of chapter 7: walked. -/
/- The document's own Cut of chapter 7: walked. -/
/- The document's own Cut of chapter 7: its loop. -/
/- The document's own Cut of chapter 7: whole. -/
namespace Go.Proofs.YtkhjahpkbjafaaaGreatDoor
open Go.RowKit

/-- is a byte one of these? -/
def inB (l : List UInt8) (b : UInt8) : Bool := l.any (fun x => decide (x.toNat = b.toNat))
theorem run_le (p : UInt8 → Bool) (l : List UInt8) : run p l ≤ l.length := by unfold run; exact (List.takeWhile_sublist p).length_le
end Go.Proofs.YtkhjahpkbjafaaaGreatDoor
namespace Go.Proofs.YtkhjahpkbjafaaaGreatDoor
open Go.RowKit

/-- a word's cells -/
def wc (x : Wd) : List Value := [.int .i64 (x.kd : Nat), .string (mkS x.tx), .int .i64 (x.at_ : Nat)]
end Go.Proofs.YtkhjahpkbjafaaaGreatDoor
namespace Go.Proofs.YtkhjahpkbjafaaaGreatDoor
open Go.RowKit

theorem lw_sg {T : List UInt8} {i : Nat} {b : UInt8} (hT : T[i]? = some b) (h : blB b = false) (h2 : sgnB b = true) : lw T i = ⟨1, [b], i + 1, 0, 0⟩ := by
  unfold lw; rw [hT]; simp only [h, h2, if_true, Bool.false_eq_true, if_false]
theorem lw_qt {T : List UInt8} {i : Nat} {b : UInt8} (hT : T[i]? = some b) (h : blB b = false) (h2 : sgnB b = false) (h3 : b.toNat = 34) : lw T i = lwS T i := by
  unfold lw; rw [hT]; simp only [h, h2, h3, if_true, Bool.false_eq_true, if_false]
theorem lw_nm {T : List UInt8} {i : Nat} {b : UInt8} (hT : T[i]? = some b) (h : blB b = false) (h2 : sgnB b = false) (h3 : b.toNat ≠ 34) (h4 : numS b = true) : lw T i = lwN T i := by
  unfold lw; rw [hT]; simp only [h, h2, h3, h4, if_true, Bool.false_eq_true, if_false]
theorem lw_lt {T : List UInt8} {i : Nat} {b : UInt8} (hT : T[i]? = some b) (h : blB b = false) (h2 : sgnB b = false) (h3 : b.toNat ≠ 34) (h4 : numS b = false) : lw T i = lwL T i := by
  unfold lw; rw [hT]; simp only [h, h2, h3, h4, Bool.false_eq_true, if_false]
theorem run_pos {p : UInt8 → Bool} {T : List UInt8} {i : Nat} {b : UInt8} (h : T[i]? = some b) (hp : p b = true) : 0 < run p (T.drop i) := by
  obtain ⟨hi, hb⟩ := List.getElem?_eq_some_iff.1 h
  rw [List.drop_eq_getElem_cons hi, hb]
  unfold run; rw [List.takeWhile_cons, if_pos hp]; simp
theorem num_sc {b : UInt8} (h : numS b = true) : numC b = true := by unfold numC; rw [h]; rfl
/-- a word's cells as they are laid -/
def lc (k : Nat) (s : ByteArray) (i : Nat) : List Value := [.int .i64 (k : Nat), .string s, .int .i64 (i : Nat)]
end Go.Proofs.YtkhjahpkbjafaaaGreatDoor
namespace Go.Proofs.YtkhjahpkbjafaaaGreatDoor
open Go.RowKit

end Go.Proofs.YtkhjahpkbjafaaaGreatDoor
namespace Go.Proofs.YtkhjahpkbjafaaaGreatDoor
open Go.RowKit

theorem tkOk_more (a : UInt8) (t m : List UInt8) (h : tkOk a t = true) : tkOk a (t ++ m) = true ∧ (t ++ m).take (begN a.toNat - 1) = t.take (begN a.toNat - 1) := by
  unfold tkOk at h ⊢
  simp only [Bool.and_eq_true, decide_eq_true_eq] at h ⊢
  obtain ⟨⟨⟨h1, h2⟩, h3⟩, h4⟩ := h
  have e : (t ++ m).take (begN a.toNat - 1) = t.take (begN a.toNat - 1) := by
    rw [List.take_append_of_le_length (by omega)]
  rw [e]
  exact ⟨⟨⟨⟨h1, by simp; omega⟩, h3⟩, h4⟩, rfl⟩
/-- a letter at the head of a text is the letter at the head of any longer one -/
theorem tkN_more (l m : List UInt8) (h : tkN l ≠ 0) : tkN (l ++ m) = tkN l := by
  cases l with
  | nil => exact absurd rfl h
  | cons a t =>
    by_cases hk : tkOk a t = true
    · have h2 := (tkOk_more a t m hk).1
      simp only [List.cons_append, tkN, hk, h2, if_true]
    · exact absurd (by simp only [tkN]; rw [if_neg hk]) h
theorem vlk_has (l : List UInt8) : vgo l (vlk l) = false ∧ ∀ j < vlk l, vgo l j = true := by
  have h := least_has (vgo l) l.length 0 (by
    have := pos_ge l (0 + l.length)
    unfold vgo
    rw [decide_eq_false (by omega)]; rfl)
  exact ⟨h.1, fun j hj => h.2.1 j (Nat.zero_le _) hj⟩
theorem vld_of (l : List UInt8) (h : pos l (vlk l) = l.length) : ∀ j < cnt l, tkN (l.drop (pos l j)) ≠ 0 := by
  intro j hj
  rw [← at_cnt l _ h] at hj
  have := (vlk_has l).2 j hj
  unfold vgo at this
  simp only [Bool.and_eq_true, decide_eq_true_eq] at this
  exact this.2
theorem cnt_le (l : List UInt8) : cnt l ≤ l.length := by
  have h := pos_ge l (cnt l)
  rw [(cnt_has l).1] at h; exact h
theorem vld_mk (l : List UInt8) (h : ∀ j < cnt l, tkN (l.drop (pos l j)) ≠ 0) : pos l (vlk l) = l.length := by
  have hc := cnt_has l
  have e : cnt l = vlk l := vlk_eq l (cnt l) (by unfold vgo; rw [hc.1, decide_eq_false (Nat.lt_irrefl _)]; rfl)
    (fun j hj => by unfold vgo; rw [decide_eq_true (hc.2 j hj), decide_eq_true (h j hj)]; rfl) (cnt_le l)
  rw [← e]; exact hc.1
end Go.Proofs.YtkhjahpkbjafaaaGreatDoor
namespace Go.Proofs.YtkhjahpkbjafaaaGreatDoor
open Go.RowKit

def ub (n : Int) : UInt8 := UInt8.ofNat n.toNat
def okb (n : Int) : Prop := 0 ≤ n ∧ n < 256
end Go.Proofs.YtkhjahpkbjafaaaGreatDoor
namespace Go.Proofs.YtkhjahpkbjafaaaGreatDoor
open Go.RowKit

end Go.Proofs.YtkhjahpkbjafaaaGreatDoor
