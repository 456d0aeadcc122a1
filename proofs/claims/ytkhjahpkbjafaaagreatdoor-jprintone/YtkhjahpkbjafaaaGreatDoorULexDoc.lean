/- Plain mathematics of JSON's words: no program is named here. -/
import Derived.Test.YtkhjahpkbjafaaaGreatDoorUMathEsc
import Derived.Test.YtkhjahpkbjafaaaGreatDoorUMathDecAll
import Derived.Test.YtkhjahpkbjafaaaGreatDoorURefOne
import Derived.Test.YtkhjahpkbjafaaaGreatDoorUOrders
import Derived.Deep.AppendLies
import Derived.Deep.Onto
namespace Go.Proofs.YtkhjahpkbjafaaaGreatDoor
open Go.RowKit

/-- the bytes of a word's kinds -/
def sgnB (b : UInt8) : Bool := decide (b.toNat = 123 ∨ b.toNat = 125 ∨ b.toNat = 91 ∨ b.toNat = 93 ∨ b.toNat = 58 ∨ b.toNat = 44)
def numS (b : UInt8) : Bool := decide ((48 ≤ b.toNat ∧ b.toNat ≤ 57) ∨ b.toNat = 43 ∨ b.toNat = 45 ∨ b.toNat = 46 ∨ b.toNat = 69)
def numC (b : UInt8) : Bool := numS b || decide (b.toNat = 101)
def lowC (b : UInt8) : Bool := decide (97 ≤ b.toNat ∧ b.toNat ≤ 122)
/-- a word: its kind, what it says, where it begins -/
structure Wd where
  kd : Nat
  tx : List UInt8
  at_ : Nat
/-- what stands at a place: a word's kind (9: a blank), its text, where it goes on; or an error (not 0) and where -/
structure LW where
  kd : Nat
  tx : List UInt8
  nx : Nat
  er : Nat
  ea : Nat
def lwS (T : List UInt8) (i : Nat) : LW :=
  if 0 ≤ (unqJ T i).2.2 then ⟨0, [], 0, 4, (unqJ T i).2.2.toNat⟩
  else if 4096 < (unqJ T i).1.length then ⟨0, [], 0, 2, i⟩
  else ⟨2, (unqJ T i).1, (unqJ T i).2.1, 0, 0⟩
def lwN (T : List UInt8) (i : Nat) : LW :=
  if 400 < run numC (T.drop i) then ⟨0, [], 0, 2, i⟩
  else if pOk ((T.drop i).take (run numC (T.drop i))) = false then ⟨0, [], 0, 4, i⟩
  else if pwOk (pP ((T.drop i).take (run numC (T.drop i)))) = false then ⟨0, [], 0, 6, i⟩
  else ⟨3, (T.drop i).take (run numC (T.drop i)), i + run numC (T.drop i), 0, 0⟩
def litB (l : List UInt8) : Bool := decide (l = [116, 114, 117, 101] ∨ l = [102, 97, 108, 115, 101] ∨ l = [110, 117, 108, 108])
def lwL (T : List UInt8) (i : Nat) : LW :=
  if litB ((T.drop i).take (run lowC (T.drop i))) = true then ⟨4, (T.drop i).take (run lowC (T.drop i)), i + run lowC (T.drop i), 0, 0⟩ else ⟨0, [], 0, 4, i⟩
def lw (T : List UInt8) (i : Nat) : LW :=
  match T[i]? with
  | none => ⟨0, [], 0, 4, i⟩
  | some b =>
    if blB b = true then ⟨9, [], i + 1, 0, 0⟩
    else if sgnB b = true then ⟨1, [b], i + 1, 0, 0⟩
    else if b.toNat = 34 then lwS T i
    else if numS b = true then lwN T i
    else lwL T i
def lx (T : List UInt8) : Nat → Nat → List Wd → List Wd × Nat × Nat
  | 0, _, _ => ([], 4, 0)
  | f + 1, i, acc =>
    if T.length ≤ i then (acc ++ [⟨0, [], T.length⟩], 0, 0)
    else if (lw T i).er ≠ 0 then ([], (lw T i).er, (lw T i).ea)
    else if (lw T i).kd = 9 then lx T f (lw T i).nx acc
    else lx T f (lw T i).nx (acc ++ [⟨(lw T i).kd, (lw T i).tx, i⟩])
/-- a text's words, or its first fault -/
def cutA (T : List UInt8) : List Wd × Nat × Nat :=
  if 65536 < T.length then ([], 2, T.length)
  else if 0 ≤ rvI T then ([], 3, (rvI T).toNat)
  else lx T (T.length + 1) 0 []
section
variable {T : List UInt8} {f i : Nat} {acc : List Wd}
theorem lx_end (hf : T.length < i + f) (hi : T.length ≤ i) (hle : i ≤ T.length) : lx T f i acc = (acc ++ [⟨0, [], T.length⟩], 0, 0) := by
  cases f with
  | zero => omega
  | succ f => rw [lx, if_pos hi]
theorem lx_bad (hf : T.length < i + f) (hi : i < T.length) (he : (lw T i).er ≠ 0) : lx T f i acc = ([], (lw T i).er, (lw T i).ea) := by
  cases f with
  | zero => omega
  | succ f => rw [lx, if_neg (by omega), if_pos he]
theorem lx_blank (hf : T.length < i + f) (hi : i < T.length) (he : (lw T i).er = 0) (hk : (lw T i).kd = 9) (hn : i < (lw T i).nx) : ∃ f', lx T f i acc = lx T f' (lw T i).nx acc ∧ T.length < (lw T i).nx + f' := by
  cases f with
  | zero => omega
  | succ f => exact ⟨f, by rw [lx, if_neg (by omega), if_neg (by omega), if_pos hk], by omega⟩
theorem lx_word (hf : T.length < i + f) (hi : i < T.length) (he : (lw T i).er = 0) (hk : (lw T i).kd ≠ 9) (hn : i < (lw T i).nx) : ∃ f', lx T f i acc = lx T f' (lw T i).nx (acc ++ [⟨(lw T i).kd, (lw T i).tx, i⟩]) ∧ T.length < (lw T i).nx + f' := by
  cases f with
  | zero => omega
  | succ f => exact ⟨f, by rw [lx, if_neg (by omega), if_neg (by omega), if_neg hk], by omega⟩
end
end Go.Proofs.YtkhjahpkbjafaaaGreatDoor
/- The document's own in and row of chapter 7: walked. -/
/- The document's own Cut of chapter 7: walked. -/
/- The document's own Cut of chapter 7: its loop. -/
/- The document's own Cut of chapter 7: whole. -/
namespace Go.Proofs.YtkhjahpkbjafaaaGreatDoor
open Go.RowKit

/-- is a byte one of these? -/
def inB (l : List UInt8) (b : UInt8) : Bool := l.any (fun x => decide (x.toNat = b.toNat))
theorem run_le (p : UInt8 → Bool) (l : List UInt8) : run p l ≤ l.length := by unfold run; exact (List.takeWhile_sublist p).length_le
theorem run_is {p : UInt8 → Bool} : ∀ {l : List UInt8} (n : Nat), n ≤ l.length → (∀ k (h : k < l.length), k < n → p l[k] = true) → (∀ h : n < l.length, p l[n] = false) → run p l = n
  | [], n, hn, _, _ => by simp at hn; subst hn; rfl
  | a :: l, 0, _, _, h => by
    have := h (by simp)
    unfold run; rw [List.takeWhile_cons, if_neg (by simpa using this)]; rfl
  | a :: l, n + 1, hn, hk, h => by
    have h0 := hk 0 (by simp) (by omega)
    have := run_is (p := p) (l := l) n (by simpa using hn) (fun k hk1 hk2 => by have := hk (k + 1) (by simpa using hk1) (by omega); simpa using this) (fun h' => by have := h (by simpa using h'); simpa using this)
    unfold run at this ⊢
    rw [List.takeWhile_cons, if_pos (by simpa using h0), List.length_cons, this]
end Go.Proofs.YtkhjahpkbjafaaaGreatDoor
namespace Go.Proofs.YtkhjahpkbjafaaaGreatDoor
open Go.RowKit

/-- a word's cells -/
def wc (x : Wd) : List Value := [.int .i64 (x.kd : Nat), .string (mkS x.tx), .int .i64 (x.at_ : Nat)]
/-- the byte's kinds, as the document asks for them -/
theorem in_bl (b : UInt8) : inB [32, 9, 10, 13] b = blB b := by
  unfold inB blB; simp only [List.any_cons, List.any_nil, Bool.or_false]
  rw [Bool.eq_iff_iff]; simp only [Bool.or_eq_true, decide_eq_true_eq]
  simp only [show (32 : UInt8).toNat = 32 from rfl, show (9 : UInt8).toNat = 9 from rfl, show (10 : UInt8).toNat = 10 from rfl, show (13 : UInt8).toNat = 13 from rfl]
  omega
theorem in_sg (b : UInt8) : inB [123, 125, 91, 93, 58, 44] b = sgnB b := by
  unfold inB sgnB; simp only [List.any_cons, List.any_nil, Bool.or_false]
  rw [Bool.eq_iff_iff]; simp only [Bool.or_eq_true, decide_eq_true_eq]
  simp only [show (123 : UInt8).toNat = 123 from rfl, show (125 : UInt8).toNat = 125 from rfl, show (91 : UInt8).toNat = 91 from rfl, show (93 : UInt8).toNat = 93 from rfl, show (58 : UInt8).toNat = 58 from rfl, show (44 : UInt8).toNat = 44 from rfl]
  omega
theorem of256 {f g : UInt8 → Bool} (h : ∀ n : Fin 256, f (UInt8.ofNat n.val) = g (UInt8.ofNat n.val)) (b : UInt8) : f b = g b := by
  have := h ⟨b.toNat, b.toNat_lt⟩
  simpa using this
set_option maxRecDepth 10000 in
theorem in_nc (b : UInt8) : inB [48, 49, 50, 51, 52, 53, 54, 55, 56, 57, 43, 45, 46, 101, 69] b = numC b := by
  exact of256 (by decide +kernel) b
set_option maxRecDepth 10000 in
theorem in_lc (b : UInt8) : inB [97, 98, 99, 100, 101, 102, 103, 104, 105, 106, 107, 108, 109, 110, 111, 112, 113, 114, 115, 116, 117, 118, 119, 120, 121, 122] b = lowC b := by
  exact of256 (by decide +kernel) b
end Go.Proofs.YtkhjahpkbjafaaaGreatDoor
namespace Go.Proofs.YtkhjahpkbjafaaaGreatDoor
open Go.RowKit

theorem lw_bl {T : List UInt8} {i : Nat} {b : UInt8} (hT : T[i]? = some b) (h : blB b = true) : lw T i = ⟨9, [], i + 1, 0, 0⟩ := by
  unfold lw; rw [hT]; simp only [h, if_true]
theorem lw_sg {T : List UInt8} {i : Nat} {b : UInt8} (hT : T[i]? = some b) (h : blB b = false) (h2 : sgnB b = true) : lw T i = ⟨1, [b], i + 1, 0, 0⟩ := by
  unfold lw; rw [hT]; simp only [h, h2, if_true, Bool.false_eq_true, if_false]
theorem lw_qt {T : List UInt8} {i : Nat} {b : UInt8} (hT : T[i]? = some b) (h : blB b = false) (h2 : sgnB b = false) (h3 : b.toNat = 34) : lw T i = lwS T i := by
  unfold lw; rw [hT]; simp only [h, h2, h3, if_true, Bool.false_eq_true, if_false]
theorem lw_nm {T : List UInt8} {i : Nat} {b : UInt8} (hT : T[i]? = some b) (h : blB b = false) (h2 : sgnB b = false) (h3 : b.toNat ≠ 34) (h4 : numS b = true) : lw T i = lwN T i := by
  unfold lw; rw [hT]; simp only [h, h2, h3, h4, if_true, Bool.false_eq_true, if_false]
theorem lw_lt {T : List UInt8} {i : Nat} {b : UInt8} (hT : T[i]? = some b) (h : blB b = false) (h2 : sgnB b = false) (h3 : b.toNat ≠ 34) (h4 : numS b = false) : lw T i = lwL T i := by
  unfold lw; rw [hT]; simp only [h, h2, h3, h4, Bool.false_eq_true, if_false]
theorem list_at (t : ByteArray) (i : Nat) (h : i < t.size) : t.data.toList[i]? = some t[i] := by
  rw [List.getElem?_eq_getElem (by rw [size_list]; exact h)]; rfl
theorem run_pos {p : UInt8 → Bool} {T : List UInt8} {i : Nat} {b : UInt8} (h : T[i]? = some b) (hp : p b = true) : 0 < run p (T.drop i) := by
  obtain ⟨hi, hb⟩ := List.getElem?_eq_some_iff.1 h
  rw [List.drop_eq_getElem_cons hi, hb]
  unfold run; rw [List.takeWhile_cons, if_pos hp]; simp
theorem num_sc {b : UInt8} (h : numS b = true) : numC b = true := by unfold numC; rw [h]; rfl
/-- a word's cells as they are laid -/
def lc (k : Nat) (s : ByteArray) (i : Nat) : List Value := [.int .i64 (k : Nat), .string s, .int .i64 (i : Nat)]
theorem lc_one (k : Nat) (s : ByteArray) (i : Nat) : ∀ u ∈ lc k s i, u.oneCell' = true := by
  intro u hu
  unfold lc at hu
  simp at hu
  rcases hu with rfl | rfl | rfl <;> rfl
theorem lc_own {w : World} {b : Nat} {ty : TypeId} {v : Value} {acc : List Wd} {k i : Nat} {s : ByteArray} {tx : List UInt8} (h : w.ownsRow b ty 3 v (acc.length + 1) (acc.flatMap wc ++ lc k s i)) (hs : s = mkS tx) : w.ownsRow b ty 3 v (acc ++ [(⟨k, tx, i⟩ : Wd)]).length ((acc ++ [(⟨k, tx, i⟩ : Wd)]).flatMap wc) := by
  subst hs
  simpa [List.flatMap_append, lc, wc] using h
end Go.Proofs.YtkhjahpkbjafaaaGreatDoor
namespace Go.Proofs.YtkhjahpkbjafaaaGreatDoor
open Go.RowKit

end Go.Proofs.YtkhjahpkbjafaaaGreatDoor
