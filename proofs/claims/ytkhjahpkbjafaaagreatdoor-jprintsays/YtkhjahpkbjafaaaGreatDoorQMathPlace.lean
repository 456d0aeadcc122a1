/- Plain mathematics of JSON's words: no program is named here. -/
import Derived.Test.YtkhjahpkbjafaaaGreatDoorQVStr
import Derived.Test.YtkhjahpkbjafaaaGreatDoorQMathDecAll
import Derived.Test.YtkhjahpkbjafaaaGreatDoorQOrders
import Derived.Deep.AppendLies
import Derived.Deep.Onto
import Derived.Test.YtkhjahpkbjafaaaGreatDoorQMathUtf
import Derived.Lib.Bytealg
import Derived.Lib.LastIndexByte
/- Plain mathematics of lines and columns: line ends counted, a line's beginning, the last line's beginning. -/
namespace Go.Proofs.YtkhjahpkbjafaaaGreatDoor
open Go.RowKit

/-- the bytes of a word's kinds -/
def sgnB (b : UInt8) : Bool := decide (b.toNat = 123 ∨ b.toNat = 125 ∨ b.toNat = 91 ∨ b.toNat = 93 ∨ b.toNat = 58 ∨ b.toNat = 44)
def numS (b : UInt8) : Bool := decide ((48 ≤ b.toNat ∧ b.toNat ≤ 57) ∨ b.toNat = 43 ∨ b.toNat = 45 ∨ b.toNat = 46 ∨ b.toNat = 69)
def numC (b : UInt8) : Bool := numS b || decide (b.toNat = 101)
def lowC (b : UInt8) : Bool := decide (97 ≤ b.toNat ∧ b.toNat ≤ 122)
/-- a word: its kind, what it says, where it begins -/
structure Wd where
  kd : Nat
  tx : List UInt8
  at_ : Nat
/-- what stands at a place: a word's kind (9: a blank), its text, where it goes on; or an error (not 0) and where -/
structure LW where
  kd : Nat
  tx : List UInt8
  nx : Nat
  er : Nat
  ea : Nat
def lwS (T : List UInt8) (i : Nat) : LW :=
  if 0 ≤ (unqJ T i).2.2 then ⟨0, [], 0, 4, (unqJ T i).2.2.toNat⟩
  else if 4096 < (unqJ T i).1.length then ⟨0, [], 0, 2, i⟩
  else ⟨2, (unqJ T i).1, (unqJ T i).2.1, 0, 0⟩
def lwN (T : List UInt8) (i : Nat) : LW :=
  if 400 < run numC (T.drop i) then ⟨0, [], 0, 2, i⟩
  else if pOk ((T.drop i).take (run numC (T.drop i))) = false then ⟨0, [], 0, 4, i⟩
  else if pwOk (pP ((T.drop i).take (run numC (T.drop i)))) = false then ⟨0, [], 0, 6, i⟩
  else ⟨3, (T.drop i).take (run numC (T.drop i)), i + run numC (T.drop i), 0, 0⟩
def litB (l : List UInt8) : Bool := decide (l = [116, 114, 117, 101] ∨ l = [102, 97, 108, 115, 101] ∨ l = [110, 117, 108, 108])
def lwL (T : List UInt8) (i : Nat) : LW :=
  if litB ((T.drop i).take (run lowC (T.drop i))) = true then ⟨4, (T.drop i).take (run lowC (T.drop i)), i + run lowC (T.drop i), 0, 0⟩ else ⟨0, [], 0, 4, i⟩
def lw (T : List UInt8) (i : Nat) : LW :=
  match T[i]? with
  | none => ⟨0, [], 0, 4, i⟩
  | some b =>
    if blB b = true then ⟨9, [], i + 1, 0, 0⟩
    else if sgnB b = true then ⟨1, [b], i + 1, 0, 0⟩
    else if b.toNat = 34 then lwS T i
    else if numS b = true then lwN T i
    else lwL T i
def lx (T : List UInt8) : Nat → Nat → List Wd → List Wd × Nat × Nat
  | 0, _, _ => ([], 4, 0)
  | f + 1, i, acc =>
    if T.length ≤ i then (acc ++ [⟨0, [], T.length⟩], 0, 0)
    else if (lw T i).er ≠ 0 then ([], (lw T i).er, (lw T i).ea)
    else if (lw T i).kd = 9 then lx T f (lw T i).nx acc
    else lx T f (lw T i).nx (acc ++ [⟨(lw T i).kd, (lw T i).tx, i⟩])
/-- a text's words, or its first fault -/
def cutA (T : List UInt8) : List Wd × Nat × Nat :=
  if 65536 < T.length then ([], 2, T.length)
  else if 0 ≤ rvI T then ([], 3, (rvI T).toNat)
  else lx T (T.length + 1) 0 []
section
variable {T : List UInt8} {f i : Nat} {acc : List Wd}
theorem lx_end (hf : T.length < i + f) (hi : T.length ≤ i) (hle : i ≤ T.length) : lx T f i acc = (acc ++ [⟨0, [], T.length⟩], 0, 0) := by
  cases f with
  | zero => omega
  | succ f => rw [lx, if_pos hi]
theorem lx_bad (hf : T.length < i + f) (hi : i < T.length) (he : (lw T i).er ≠ 0) : lx T f i acc = ([], (lw T i).er, (lw T i).ea) := by
  cases f with
  | zero => omega
  | succ f => rw [lx, if_neg (by omega), if_pos he]
theorem lx_blank (hf : T.length < i + f) (hi : i < T.length) (he : (lw T i).er = 0) (hk : (lw T i).kd = 9) (hn : i < (lw T i).nx) : ∃ f', lx T f i acc = lx T f' (lw T i).nx acc ∧ T.length < (lw T i).nx + f' := by
  cases f with
  | zero => omega
  | succ f => exact ⟨f, by rw [lx, if_neg (by omega), if_neg (by omega), if_pos hk], by omega⟩
theorem lx_word (hf : T.length < i + f) (hi : i < T.length) (he : (lw T i).er = 0) (hk : (lw T i).kd ≠ 9) (hn : i < (lw T i).nx) : ∃ f', lx T f i acc = lx T f' (lw T i).nx (acc ++ [⟨(lw T i).kd, (lw T i).tx, i⟩]) ∧ T.length < (lw T i).nx + f' := by
  cases f with
  | zero => omega
  | succ f => exact ⟨f, by rw [lx, if_neg (by omega), if_neg (by omega), if_neg hk], by omega⟩
end
end Go.Proofs.YtkhjahpkbjafaaaGreatDoor
/- The document's own in and row of chapter 7: walked. -/
/- The document's own Cut of chapter 7: walked. -/
/- The document's own Cut of chapter 7: its loop. -/
/- The document's own Cut of chapter 7: whole. -/
namespace Go.Proofs.YtkhjahpkbjafaaaGreatDoor
open Go.RowKit

/-- is a byte one of these? -/
def inB (l : List UInt8) (b : UInt8) : Bool := l.any (fun x => decide (x.toNat = b.toNat))
theorem run_le (p : UInt8 → Bool) (l : List UInt8) : run p l ≤ l.length := by unfold run; exact (List.takeWhile_sublist p).length_le
theorem run_is {p : UInt8 → Bool} : ∀ {l : List UInt8} (n : Nat), n ≤ l.length → (∀ k (h : k < l.length), k < n → p l[k] = true) → (∀ h : n < l.length, p l[n] = false) → run p l = n
  | [], n, hn, _, _ => by simp at hn; subst hn; rfl
  | a :: l, 0, _, _, h => by
    have := h (by simp)
    unfold run; rw [List.takeWhile_cons, if_neg (by simpa using this)]; rfl
  | a :: l, n + 1, hn, hk, h => by
    have h0 := hk 0 (by simp) (by omega)
    have := run_is (p := p) (l := l) n (by simpa using hn) (fun k hk1 hk2 => by have := hk (k + 1) (by simpa using hk1) (by omega); simpa using this) (fun h' => by have := h (by simpa using h'); simpa using this)
    unfold run at this ⊢
    rw [List.takeWhile_cons, if_pos (by simpa using h0), List.length_cons, this]
end Go.Proofs.YtkhjahpkbjafaaaGreatDoor
namespace Go.Proofs.YtkhjahpkbjafaaaGreatDoor
open Go.RowKit

/-- a word's cells -/
def wc (x : Wd) : List Value := [.int .i64 (x.kd : Nat), .string (mkS x.tx), .int .i64 (x.at_ : Nat)]
/-- the byte's kinds, as the document asks for them -/
theorem in_bl (b : UInt8) : inB [32, 9, 10, 13] b = blB b := by
  unfold inB blB; simp only [List.any_cons, List.any_nil, Bool.or_false]
  rw [Bool.eq_iff_iff]; simp only [Bool.or_eq_true, decide_eq_true_eq]
  simp only [show (32 : UInt8).toNat = 32 from rfl, show (9 : UInt8).toNat = 9 from rfl, show (10 : UInt8).toNat = 10 from rfl, show (13 : UInt8).toNat = 13 from rfl]
  omega
theorem in_sg (b : UInt8) : inB [123, 125, 91, 93, 58, 44] b = sgnB b := by
  unfold inB sgnB; simp only [List.any_cons, List.any_nil, Bool.or_false]
  rw [Bool.eq_iff_iff]; simp only [Bool.or_eq_true, decide_eq_true_eq]
  simp only [show (123 : UInt8).toNat = 123 from rfl, show (125 : UInt8).toNat = 125 from rfl, show (91 : UInt8).toNat = 91 from rfl, show (93 : UInt8).toNat = 93 from rfl, show (58 : UInt8).toNat = 58 from rfl, show (44 : UInt8).toNat = 44 from rfl]
  omega
theorem of256 {f g : UInt8 → Bool} (h : ∀ n : Fin 256, f (UInt8.ofNat n.val) = g (UInt8.ofNat n.val)) (b : UInt8) : f b = g b := by
  have := h ⟨b.toNat, b.toNat_lt⟩
  simpa using this
set_option maxRecDepth 10000 in
theorem in_nc (b : UInt8) : inB [48, 49, 50, 51, 52, 53, 54, 55, 56, 57, 43, 45, 46, 101, 69] b = numC b := by
  exact of256 (by decide +kernel) b
set_option maxRecDepth 10000 in
theorem in_lc (b : UInt8) : inB [97, 98, 99, 100, 101, 102, 103, 104, 105, 106, 107, 108, 109, 110, 111, 112, 113, 114, 115, 116, 117, 118, 119, 120, 121, 122] b = lowC b := by
  exact of256 (by decide +kernel) b
end Go.Proofs.YtkhjahpkbjafaaaGreatDoor
namespace Go.Proofs.YtkhjahpkbjafaaaGreatDoor
open Go.RowKit

theorem lw_bl {T : List UInt8} {i : Nat} {b : UInt8} (hT : T[i]? = some b) (h : blB b = true) : lw T i = ⟨9, [], i + 1, 0, 0⟩ := by
  unfold lw; rw [hT]; simp only [h, if_true]
theorem lw_sg {T : List UInt8} {i : Nat} {b : UInt8} (hT : T[i]? = some b) (h : blB b = false) (h2 : sgnB b = true) : lw T i = ⟨1, [b], i + 1, 0, 0⟩ := by
  unfold lw; rw [hT]; simp only [h, h2, if_true, Bool.false_eq_true, if_false]
theorem lw_qt {T : List UInt8} {i : Nat} {b : UInt8} (hT : T[i]? = some b) (h : blB b = false) (h2 : sgnB b = false) (h3 : b.toNat = 34) : lw T i = lwS T i := by
  unfold lw; rw [hT]; simp only [h, h2, h3, if_true, Bool.false_eq_true, if_false]
theorem lw_nm {T : List UInt8} {i : Nat} {b : UInt8} (hT : T[i]? = some b) (h : blB b = false) (h2 : sgnB b = false) (h3 : b.toNat ≠ 34) (h4 : numS b = true) : lw T i = lwN T i := by
  unfold lw; rw [hT]; simp only [h, h2, h3, h4, if_true, Bool.false_eq_true, if_false]
theorem lw_lt {T : List UInt8} {i : Nat} {b : UInt8} (hT : T[i]? = some b) (h : blB b = false) (h2 : sgnB b = false) (h3 : b.toNat ≠ 34) (h4 : numS b = false) : lw T i = lwL T i := by
  unfold lw; rw [hT]; simp only [h, h2, h3, h4, Bool.false_eq_true, if_false]
theorem list_at (t : ByteArray) (i : Nat) (h : i < t.size) : t.data.toList[i]? = some t[i] := by
  rw [List.getElem?_eq_getElem (by rw [size_list]; exact h)]; rfl
theorem run_pos {p : UInt8 → Bool} {T : List UInt8} {i : Nat} {b : UInt8} (h : T[i]? = some b) (hp : p b = true) : 0 < run p (T.drop i) := by
  obtain ⟨hi, hb⟩ := List.getElem?_eq_some_iff.1 h
  rw [List.drop_eq_getElem_cons hi, hb]
  unfold run; rw [List.takeWhile_cons, if_pos hp]; simp
theorem num_sc {b : UInt8} (h : numS b = true) : numC b = true := by unfold numC; rw [h]; rfl
/-- a word's cells as they are laid -/
def lc (k : Nat) (s : ByteArray) (i : Nat) : List Value := [.int .i64 (k : Nat), .string s, .int .i64 (i : Nat)]
theorem lc_one (k : Nat) (s : ByteArray) (i : Nat) : ∀ u ∈ lc k s i, u.oneCell' = true := by
  intro u hu
  unfold lc at hu
  simp at hu
  rcases hu with rfl | rfl | rfl <;> rfl
theorem lc_own {w : World} {b : Nat} {ty : TypeId} {v : Value} {acc : List Wd} {k i : Nat} {s : ByteArray} {tx : List UInt8} (h : w.ownsRow b ty 3 v (acc.length + 1) (acc.flatMap wc ++ lc k s i)) (hs : s = mkS tx) : w.ownsRow b ty 3 v (acc ++ [(⟨k, tx, i⟩ : Wd)]).length ((acc ++ [(⟨k, tx, i⟩ : Wd)]).flatMap wc) := by
  subst hs
  simpa [List.flatMap_append, lc, wc] using h
end Go.Proofs.YtkhjahpkbjafaaaGreatDoor
namespace Go.Proofs.YtkhjahpkbjafaaaGreatDoor
open Go.RowKit

end Go.Proofs.YtkhjahpkbjafaaaGreatDoor
namespace Go.Proofs.YtkhjahpkbjafaaaGreatDoor
open Go.RowKit

theorem tkOk_more (a : UInt8) (t m : List UInt8) (h : tkOk a t = true) : tkOk a (t ++ m) = true ∧ (t ++ m).take (begN a.toNat - 1) = t.take (begN a.toNat - 1) := by
  unfold tkOk at h ⊢
  simp only [Bool.and_eq_true, decide_eq_true_eq] at h ⊢
  obtain ⟨⟨⟨h1, h2⟩, h3⟩, h4⟩ := h
  have e : (t ++ m).take (begN a.toNat - 1) = t.take (begN a.toNat - 1) := by
    rw [List.take_append_of_le_length (by omega)]
  rw [e]
  exact ⟨⟨⟨⟨h1, by simp; omega⟩, h3⟩, h4⟩, rfl⟩
/-- a letter at the head of a text is the letter at the head of any longer one -/
theorem tkN_more (l m : List UInt8) (h : tkN l ≠ 0) : tkN (l ++ m) = tkN l := by
  cases l with
  | nil => exact absurd rfl h
  | cons a t =>
    by_cases hk : tkOk a t = true
    · have h2 := (tkOk_more a t m hk).1
      simp only [List.cons_append, tkN, hk, h2, if_true]
    · exact absurd (by simp only [tkN]; rw [if_neg hk]) h
theorem vlk_has (l : List UInt8) : vgo l (vlk l) = false ∧ ∀ j < vlk l, vgo l j = true := by
  have h := least_has (vgo l) l.length 0 (by
    have := pos_ge l (0 + l.length)
    unfold vgo
    rw [decide_eq_false (by omega)]; rfl)
  exact ⟨h.1, fun j hj => h.2.1 j (Nat.zero_le _) hj⟩
theorem vld_of (l : List UInt8) (h : pos l (vlk l) = l.length) : ∀ j < cnt l, tkN (l.drop (pos l j)) ≠ 0 := by
  intro j hj
  rw [← at_cnt l _ h] at hj
  have := (vlk_has l).2 j hj
  unfold vgo at this
  simp only [Bool.and_eq_true, decide_eq_true_eq] at this
  exact this.2
theorem cnt_le (l : List UInt8) : cnt l ≤ l.length := by
  have h := pos_ge l (cnt l)
  rw [(cnt_has l).1] at h; exact h
theorem vld_mk (l : List UInt8) (h : ∀ j < cnt l, tkN (l.drop (pos l j)) ≠ 0) : pos l (vlk l) = l.length := by
  have hc := cnt_has l
  have e : cnt l = vlk l := vlk_eq l (cnt l) (by unfold vgo; rw [hc.1, decide_eq_false (Nat.lt_irrefl _)]; rfl)
    (fun j hj => by unfold vgo; rw [decide_eq_true (hc.2 j hj), decide_eq_true (h j hj)]; rfl) (cnt_le l)
  rw [← e]; exact hc.1
end Go.Proofs.YtkhjahpkbjafaaaGreatDoor
namespace Go.Proofs.YtkhjahpkbjafaaaGreatDoor
open Go.RowKit

def ub (n : Int) : UInt8 := UInt8.ofNat n.toNat
def okb (n : Int) : Prop := 0 ≤ n ∧ n < 256
theorem ub_nat (n : Int) (h : okb n) : (ub n).toNat = n.toNat := by
  unfold ub okb at *
  rw [UInt8.toNat_ofNat']
  omega
/-- the four forms of a letter's bytes -/
theorem enc_forms (r : Int) (h : goodB r = true) :
    (0 ≤ r ∧ r < 128 ∧ encI r = [r]) ∨ (128 ≤ r ∧ r < 2048 ∧ encI r = [192 + r / 64, 128 + r % 64])
    ∨ (2048 ≤ r ∧ r < 65536 ∧ encI r = [224 + r / 4096, 128 + r / 64 % 64, 128 + r % 64])
    ∨ (65536 ≤ r ∧ r ≤ 1114111 ∧ encI r = [240 + r / 262144, 128 + r / 4096 % 64, 128 + r / 64 % 64, 128 + r % 64]) := by
  have hr := of_decide_eq_true h
  unfold encI
  by_cases h1 : r < 128
  · exact Or.inl ⟨by omega, h1, by rw [if_pos h1]⟩
  · by_cases h2 : r < 2048
    · exact Or.inr (Or.inl ⟨by omega, h2, by rw [if_neg h1, if_pos h2]⟩)
    · by_cases h3 : r < 65536
      · exact Or.inr (Or.inr (Or.inl ⟨by omega, h3, by rw [if_neg h1, if_neg h2, if_pos h3]⟩))
      · exact Or.inr (Or.inr (Or.inr ⟨by omega, by omega, by rw [if_neg h1, if_neg h2, if_neg h3]⟩))
theorem enc_bytes (r : Int) (h : goodB r = true) : ∀ x ∈ encI r, okb x := by
  intro x hx
  rcases enc_forms r h with ⟨h1, h2, e⟩ | ⟨h1, h2, e⟩ | ⟨h1, h2, e⟩ | ⟨h1, h2, e⟩
  all_goals
    rw [e] at hx
    simp only [List.mem_cons, List.not_mem_nil, or_false] at hx
    unfold okb
    omega
theorem enc_good (r : Int) (h : goodB r = true) : enc r = encI r := by unfold enc; rw [h]; rfl
theorem str_enc (r : Int) (h : goodB r = true) : (strOfNums (enc r)).toList = (encI r).map ub := by
  rw [ByteArray.toList_eq, strOfNums_data, enc_good r h]; rfl
end Go.Proofs.YtkhjahpkbjafaaaGreatDoor
namespace Go.Proofs.YtkhjahpkbjafaaaGreatDoor
open Go.RowKit

theorem tk_yes_of (a : UInt8) (t : List UInt8) (F n : Nat) (hn : begN a.toNat = n) (h0 : n ≠ 0) (hl : n ≤ t.length + 1) (hc : (t.take (n - 1)).all cont = true)
    (hF : fol (begR a.toNat) (t.take (n - 1)) = F) (hg : goodN F = true) (hw : wdN F = n) : tkR (a :: t) = F ∧ tkN (a :: t) = n := by
  have hk : tkOk a t = true := by
    unfold tkOk; rw [hn, hF, hc, hg, hw, decide_eq_true (show n ≠ 0 ∧ n ≤ t.length + 1 from ⟨h0, hl⟩)]; simp
  simp only [tkR, tkN, hk, if_true, hn, hF]
  exact ⟨trivial, trivial⟩
theorem tk_shrt (a : UInt8) (t : List UInt8) (h : t.length + 1 < begN a.toNat) : tkN (a :: t) = 0 := by
  have hk : tkOk a t = false := by unfold tkOk; rw [decide_eq_false (by omega)]; rfl
  simp only [tkN, hk]; rfl
theorem cont_ub (n : Int) (h1 : 128 ≤ n) (h2 : n < 192) : cont (ub n) = true := by
  unfold cont; rw [ub_nat n (by unfold okb; omega)]; exact decide_eq_true (by omega)
theorem beg_at {b n : Nat} (h : (n = 1 ∧ b < 128) ∨ (n = 2 ∧ 192 ≤ b ∧ b < 224) ∨ (n = 3 ∧ 224 ≤ b ∧ b < 240) ∨ (n = 4 ∧ 240 ≤ b ∧ b < 248)) : begN b = n := by
  unfold begN; (repeat' split) <;> omega
theorem begR_at {b n : Nat} (h : (n = b ∧ b < 128) ∨ (n = b - 192 ∧ 192 ≤ b ∧ b < 224) ∨ (n = b - 224 ∧ 224 ≤ b ∧ b < 240) ∨ (n = b - 240 ∧ 240 ≤ b ∧ b < 248)) : begR b = n := by
  unfold begR; (repeat' split) <;> omega
theorem tk_enc (r : Int) (h : goodB r = true) (m : List UInt8) : tkR ((encI r).map ub ++ m) = r.toNat ∧ tkN ((encI r).map ub ++ m) = (encI r).length ∧ tkN (((encI r).map ub).take ((encI r).length - 1)) = 0 := by
  have hr := of_decide_eq_true h
  have hgN : goodN r.toNat = true := by rw [← goodB_goodN, Int.toNat_of_nonneg hr.1]; exact h
  have ob := enc_bytes r h
  rcases enc_forms r h with ⟨h1, h2, e⟩ | ⟨h1, h2, e⟩ | ⟨h1, h2, e⟩ | ⟨h1, h2, e⟩
  all_goals
    rw [e] at ob ⊢
    simp only [List.mem_cons, List.not_mem_nil, or_false, forall_eq_or_imp, forall_eq] at ob
    simp only [List.map_cons, List.map_nil, List.cons_append, List.nil_append, List.length_cons, List.length_nil]
  · have hv := ub_nat r ob
    have hb : begN (ub r).toNat = 1 := beg_at (Or.inl ⟨rfl, by omega⟩)
    have hR : begR (ub r).toNat = r.toNat := begR_at (Or.inl ⟨by omega, by omega⟩)
    obtain ⟨q1, q2⟩ := tk_yes_of (ub r) m r.toNat 1 hb (by omega) (by omega) (by simp) (by rw [hR]; simp [fol]) hgN (by unfold wdN; rw [if_pos (by omega)])
    exact ⟨q1, q2, rfl⟩
  · have hv := ub_nat _ ob.1
    have hv2 := ub_nat _ ob.2
    have hb : begN (ub (192 + r / 64)).toNat = 2 := beg_at (Or.inr (Or.inl ⟨rfl, by omega, by omega⟩))
    have hR : begR (ub (192 + r / 64)).toNat = (r / 64).toNat := begR_at (Or.inr (Or.inl ⟨by omega, by omega, by omega⟩))
    obtain ⟨q1, q2⟩ := tk_yes_of (ub (192 + r / 64)) (ub (128 + r % 64) :: m) r.toNat 2 hb (by omega) (by simp) (by simp [cont_ub (128 + r % 64) (by omega) (by omega)]) (by rw [hR]; simp [fol, hv2]; omega) hgN (by unfold wdN; rw [if_neg (by omega), if_pos (by omega)])
    exact ⟨q1, q2, tk_shrt _ _ (by rw [hb]; simp)⟩
  · have hv := ub_nat _ ob.1
    have hv2 := ub_nat _ ob.2.1
    have hv3 := ub_nat _ ob.2.2
    have hb : begN (ub (224 + r / 4096)).toNat = 3 := beg_at (Or.inr (Or.inr (Or.inl ⟨rfl, by omega, by omega⟩)))
    have hR : begR (ub (224 + r / 4096)).toNat = (r / 4096).toNat := begR_at (Or.inr (Or.inr (Or.inl ⟨by omega, by omega, by omega⟩)))
    obtain ⟨q1, q2⟩ := tk_yes_of (ub (224 + r / 4096)) (ub (128 + r / 64 % 64) :: ub (128 + r % 64) :: m) r.toNat 3 hb (by omega) (by simp) (by simp [cont_ub (128 + r % 64) (by omega) (by omega), cont_ub (128 + r / 64 % 64) (by omega) (by omega)]) (by rw [hR]; simp [fol, hv2, hv3]; omega) hgN (by unfold wdN; rw [if_neg (by omega), if_neg (by omega), if_pos (by omega)])
    exact ⟨q1, q2, tk_shrt _ _ (by rw [hb]; simp)⟩
  · have hv := ub_nat _ ob.1
    have hv2 := ub_nat _ ob.2.1
    have hv3 := ub_nat _ ob.2.2.1
    have hv4 := ub_nat _ ob.2.2.2
    have hb : begN (ub (240 + r / 262144)).toNat = 4 := beg_at (Or.inr (Or.inr (Or.inr ⟨rfl, by omega, by omega⟩)))
    have hR : begR (ub (240 + r / 262144)).toNat = (r / 262144).toNat := begR_at (Or.inr (Or.inr (Or.inr ⟨by omega, by omega, by omega⟩)))
    obtain ⟨q1, q2⟩ := tk_yes_of (ub (240 + r / 262144)) (ub (128 + r / 4096 % 64) :: ub (128 + r / 64 % 64) :: ub (128 + r % 64) :: m) r.toNat 4 hb (by omega) (by simp) (by simp [cont_ub (128 + r % 64) (by omega) (by omega), cont_ub (128 + r / 64 % 64) (by omega) (by omega), cont_ub (128 + r / 4096 % 64) (by omega) (by omega)]) (by rw [hR]; simp [fol, hv2, hv3, hv4]; omega) hgN (by unfold wdN; rw [if_neg (by omega), if_neg (by omega), if_neg (by omega)])
    exact ⟨q1, q2, tk_shrt _ _ (by rw [hb]; simp)⟩
end Go.Proofs.YtkhjahpkbjafaaaGreatDoor
namespace Go.Proofs.YtkhjahpkbjafaaaGreatDoor
open Go.RowKit

theorem byte_no (b : UInt8) (h : ¬ b = 10) : ((b.toNat : Int) == 10) = false := by
  rw [beq_eq_false_iff_ne]; intro hc; apply h; apply UInt8.toNat_inj.1; show _ = 10; omega
/-- how many line ends -/
def nls (l : List UInt8) : Nat := l.count 10
/-- where the last line of the first k bytes begins -/
def bol (l : List UInt8) : Nat → Nat
  | 0 => 0
  | k + 1 => if l.getD k 0 = 10 then k + 1 else bol l k
theorem bol_le (l : List UInt8) : ∀ k, bol l k ≤ k
  | 0 => Nat.le_refl _
  | k + 1 => by have := bol_le l k; unfold bol; split <;> omega
theorem bol_no (l : List UInt8) (k : Nat) (h : ¬ l.getD k 0 = 10) : bol l (k + 1) = bol l k := by rw [bol, if_neg h]
theorem bol_yes (l : List UInt8) (k : Nat) (h : l.getD k 0 = 10) : bol l (k + 1) = k + 1 := by rw [bol, if_pos h]
/-- a text's last line's column, behind its last byte -/
def colOf (m : List UInt8) : Nat := cnt (m.drop (bol m m.length)) + 1
def linOf (m : List UInt8) : Nat := nls m + 1
theorem nls_le (l : List UInt8) : nls l ≤ l.length := List.count_le_length
/-- where the (j+1)-th line begins -/
def lineAt (l : List UInt8) (j : Nat) : Nat := least (fun p => decide (nls (l.take p) < j)) l.length 0
/-- p is where the (j+1)-th line begins -/
def LineAt (l : List UInt8) (j p : Nat) : Prop := nls (l.take p) = j ∧ p ≤ l.length ∧ (p = 0 ∨ l.getD (p - 1) 0 = 10)
/-- what Begin answers -/
def bgB (l : List UInt8) (n : Int) : Bool := decide (1 ≤ n ∧ n ≤ nls l + 1)
def bgP (l : List UInt8) (n : Int) : Int := if 1 ≤ n ∧ n ≤ nls l + 1 then (lineAt l (n - 1).toNat : Int) else 0
/-- a place drawn into a text -/
def clN (n : Nat) (a : Int) : Nat := (min (max a 0) (n : Int)).toNat
theorem clN_le (n : Nat) (a : Int) : clN n a ≤ n := by unfold clN; omega
end Go.Proofs.YtkhjahpkbjafaaaGreatDoor
