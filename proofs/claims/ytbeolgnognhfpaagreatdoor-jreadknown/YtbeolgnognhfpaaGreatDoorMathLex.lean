/- Plain mathematics of JSON's words: no program is named here. -/
import Derived.Test.YtbeolgnognhfpaaGreatDoorMathEsc
import Derived.Test.YtbeolgnognhfpaaGreatDoorMathDecAll
import Derived.Test.YtbeolgnognhfpaaGreatDoorVStr
namespace Go.Proofs.YtbeolgnognhfpaaGreatDoor
open Go.RowKit

/-- the bytes of a word's kinds -/
def sgnB (b : UInt8) : Bool := decide (b.toNat = 123 ∨ b.toNat = 125 ∨ b.toNat = 91 ∨ b.toNat = 93 ∨ b.toNat = 58 ∨ b.toNat = 44)
def numS (b : UInt8) : Bool := decide ((48 ≤ b.toNat ∧ b.toNat ≤ 57) ∨ b.toNat = 43 ∨ b.toNat = 45 ∨ b.toNat = 46 ∨ b.toNat = 69)
def numC (b : UInt8) : Bool := numS b || decide (b.toNat = 101)
def lowC (b : UInt8) : Bool := decide (97 ≤ b.toNat ∧ b.toNat ≤ 122)
/-- a word: its kind, what it says, where it begins -/
structure Wd where
  kd : Nat
  tx : List UInt8
  at_ : Nat
/-- what stands at a place: a word's kind (9: a blank), its text, where it goes on; or an error (not 0) and where -/
structure LW where
  kd : Nat
  tx : List UInt8
  nx : Nat
  er : Nat
  ea : Nat
def lwS (T : List UInt8) (i : Nat) : LW :=
  if 0 ≤ (unqJ T i).2.2 then ⟨0, [], 0, 4, (unqJ T i).2.2.toNat⟩
  else if 4096 < (unqJ T i).1.length then ⟨0, [], 0, 2, i⟩
  else ⟨2, (unqJ T i).1, (unqJ T i).2.1, 0, 0⟩
def lwN (T : List UInt8) (i : Nat) : LW :=
  if 400 < run numC (T.drop i) then ⟨0, [], 0, 2, i⟩
  else if pOk ((T.drop i).take (run numC (T.drop i))) = false then ⟨0, [], 0, 4, i⟩
  else if pwOk (pP ((T.drop i).take (run numC (T.drop i)))) = false then ⟨0, [], 0, 6, i⟩
  else ⟨3, (T.drop i).take (run numC (T.drop i)), i + run numC (T.drop i), 0, 0⟩
def litB (l : List UInt8) : Bool := decide (l = [116, 114, 117, 101] ∨ l = [102, 97, 108, 115, 101] ∨ l = [110, 117, 108, 108])
def lwL (T : List UInt8) (i : Nat) : LW :=
  if litB ((T.drop i).take (run lowC (T.drop i))) = true then ⟨4, (T.drop i).take (run lowC (T.drop i)), i + run lowC (T.drop i), 0, 0⟩ else ⟨0, [], 0, 4, i⟩
def lw (T : List UInt8) (i : Nat) : LW :=
  match T[i]? with
  | none => ⟨0, [], 0, 4, i⟩
  | some b =>
    if blB b = true then ⟨9, [], i + 1, 0, 0⟩
    else if sgnB b = true then ⟨1, [b], i + 1, 0, 0⟩
    else if b.toNat = 34 then lwS T i
    else if numS b = true then lwN T i
    else lwL T i
def lx (T : List UInt8) : Nat → Nat → List Wd → List Wd × Nat × Nat
  | 0, _, _ => ([], 4, 0)
  | f + 1, i, acc =>
    if T.length ≤ i then (acc ++ [⟨0, [], T.length⟩], 0, 0)
    else if (lw T i).er ≠ 0 then ([], (lw T i).er, (lw T i).ea)
    else if (lw T i).kd = 9 then lx T f (lw T i).nx acc
    else lx T f (lw T i).nx (acc ++ [⟨(lw T i).kd, (lw T i).tx, i⟩])
/-- a text's words, or its first fault -/
def cutA (T : List UInt8) : List Wd × Nat × Nat :=
  if 65536 < T.length then ([], 2, T.length)
  else if 0 ≤ rvI T then ([], 3, (rvI T).toNat)
  else lx T (T.length + 1) 0 []
section
variable {T : List UInt8} {f i : Nat} {acc : List Wd}
theorem lx_end (hf : T.length < i + f) (hi : T.length ≤ i) (hle : i ≤ T.length) : lx T f i acc = (acc ++ [⟨0, [], T.length⟩], 0, 0) := by
  cases f with
  | zero => omega
  | succ f => rw [lx, if_pos hi]
theorem lx_bad (hf : T.length < i + f) (hi : i < T.length) (he : (lw T i).er ≠ 0) : lx T f i acc = ([], (lw T i).er, (lw T i).ea) := by
  cases f with
  | zero => omega
  | succ f => rw [lx, if_neg (by omega), if_pos he]
theorem lx_blank (hf : T.length < i + f) (hi : i < T.length) (he : (lw T i).er = 0) (hk : (lw T i).kd = 9) (hn : i < (lw T i).nx) : ∃ f', lx T f i acc = lx T f' (lw T i).nx acc ∧ T.length < (lw T i).nx + f' := by
  cases f with
  | zero => omega
  | succ f => exact ⟨f, by rw [lx, if_neg (by omega), if_neg (by omega), if_pos hk], by omega⟩
theorem lx_word (hf : T.length < i + f) (hi : i < T.length) (he : (lw T i).er = 0) (hk : (lw T i).kd ≠ 9) (hn : i < (lw T i).nx) : ∃ f', lx T f i acc = lx T f' (lw T i).nx (acc ++ [⟨(lw T i).kd, (lw T i).tx, i⟩]) ∧ T.length < (lw T i).nx + f' := by
  cases f with
  | zero => omega
  | succ f => exact ⟨f, by rw [lx, if_neg (by omega), if_neg (by omega), if_neg hk], by omega⟩
end
end Go.Proofs.YtbeolgnognhfpaaGreatDoor
