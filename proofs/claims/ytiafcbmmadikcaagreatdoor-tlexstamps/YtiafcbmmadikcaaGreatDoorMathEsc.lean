/- Plain mathematics of escapes: no program is named here. -/
import Derived.Test.YtiafcbmmadikcaaGreatDoorMathUtf
import Derived.Lib.Strings
import Derived.Lib.Bytealg
namespace Go.Proofs.YtiafcbmmadikcaaGreatDoor
open Go.RowKit

/-- a text's byte at a place, as a number; 256: there is none -/
def bt (l : List UInt8) (k : Nat) : Nat := match l[k]? with
  | some b => b.toNat
  | none => 256
theorem bt_some {l : List UInt8} {k : Nat} {b : UInt8} (h : l[k]? = some b) : bt l k = b.toNat := by unfold bt; rw [h]
theorem bt_none {l : List UInt8} {k : Nat} (h : l.length ≤ k) : bt l k = 256 := by unfold bt; rw [List.getElem?_eq_none h]
theorem bt_lt {l : List UInt8} {k : Nat} (h : bt l k < 256) : k < l.length := by
  by_cases hk : k < l.length
  · exact hk
  · rw [bt_none (by omega)] at h; omega
theorem bt_in {l : List UInt8} {k : Nat} (h : k < l.length) : bt l k < 256 := by
  rw [bt_some (List.getElem?_eq_getElem h)]; exact UInt8.toNat_lt _
theorem bt_at (s : ByteArray) (k : Nat) (h : k < s.size) : bt s.data.toList k = s[k].toNat := by
  have h' : k < s.data.toList.length := by simpa using h
  rw [bt_some (List.getElem?_eq_getElem h')]; rfl
theorem bt_drop (l : List UInt8) (i k : Nat) : bt (l.drop i) k = bt l (i + k) := by unfold bt; rw [List.getElem?_drop]
theorem bt_cons (b : UInt8) (l : List UInt8) : bt (b :: l) 0 = b.toNat := rfl
theorem bt_succ (b : UInt8) (l : List UInt8) (k : Nat) : bt (b :: l) (k + 1) = bt l k := by unfold bt; rfl
theorem bt_nil (k : Nat) : bt [] k = 256 := by unfold bt; rfl
theorem bt_app (l m : List UInt8) (k : Nat) (h : k < l.length) : bt (l ++ m) k = bt l k := by unfold bt; rw [List.getElem?_append_left h]
/-- is a byte a hex digit, and what it says -/
def hxI (b : UInt8) : Bool := decide (48 ≤ b.toNat ∧ b.toNat ≤ 57) || decide (97 ≤ b.toNat ∧ b.toNat ≤ 102) || decide (65 ≤ b.toNat ∧ b.toNat ≤ 70)
def hxV (b : UInt8) : Nat := if b.toNat ≤ 57 then b.toNat - 48 else if b.toNat ≤ 70 then b.toNat - 55 else b.toNat - 87
def hexF (l : List UInt8) : Nat := l.foldl (fun v b => 16 * v + hxV b) 0
def hexB (l : List UInt8) : Bool := decide (1 ≤ l.length ∧ l.length ≤ 8) && l.all hxI
def hexR (l : List UInt8) : Nat := if hexB l = true then hexF l else 0
theorem hxV_lt {b : UInt8} (h : hxI b = true) : hxV b < 16 := by
  unfold hxI at h; simp only [Bool.or_eq_true, decide_eq_true_eq] at h
  unfold hxV; (repeat' split) <;> omega
theorem hexF_snoc (l : List UInt8) (b : UInt8) : hexF (l ++ [b]) = 16 * hexF l + hxV b := by simp [hexF]
theorem foldl_lt (l : List UInt8) : ∀ v, l.all hxI = true → l.foldl (fun v b => 16 * v + hxV b) v < (v + 1) * 16 ^ l.length := by
  induction l with
  | nil => intro v _; simp
  | cons b t ih =>
    intro v h
    rw [List.all_cons, Bool.and_eq_true] at h
    have h1 := hxV_lt h.1
    have h2 := ih (16 * v + hxV b) h.2
    have h3 : (16 * v + hxV b + 1) * 16 ^ t.length ≤ (16 * (v + 1)) * 16 ^ t.length := Nat.mul_le_mul_right _ (by omega)
    have h4 : (16 * (v + 1)) * 16 ^ t.length = (v + 1) * 16 ^ (t.length + 1) := by rw [Nat.pow_succ, Nat.mul_comm 16 (v + 1), Nat.mul_assoc, Nat.mul_comm 16]
    simp only [List.foldl_cons, List.length_cons]
    omega
theorem hexF_lt (l : List UInt8) (h : l.all hxI = true) (n : Nat) (hn : l.length ≤ n) : hexF l < 16 ^ n := by
  have h1 := foldl_lt l 0 h
  have h2 : 16 ^ l.length ≤ 16 ^ n := Nat.pow_le_pow_right (by decide) hn
  unfold hexF; omega
theorem hexF_lt8 (l : List UInt8) (h : l.all hxI = true) (hn : l.length ≤ 8) : hexF l < 4294967296 := by
  have := hexF_lt l h 8 hn; omega
theorem hexR_lt (l : List UInt8) : hexR l < 4294967296 := by
  unfold hexR; split
  · next h =>
    unfold hexB at h; simp only [Bool.and_eq_true, decide_eq_true_eq] at h
    exact hexF_lt8 l h.2 h.1.2
  · omega
/-- so many hex digits at a place: the number; -1: there are not -/
def cdI (l : List UInt8) (k n : Nat) : Int := if k + n ≤ l.length ∧ hexB ((l.drop k).take n) = true then (hexF ((l.drop k).take n) : Int) else -1
theorem cdI_ge (l : List UInt8) (k n : Nat) : -1 ≤ cdI l k n := by unfold cdI; split <;> omega
theorem cdI_lt (l : List UInt8) (k n : Nat) : cdI l k n < 4294967296 := by
  unfold cdI; split
  · next h =>
    have h2 := h.2
    unfold hexB at h2; simp only [Bool.and_eq_true, decide_eq_true_eq] at h2
    have := hexF_lt8 _ h2.2 h2.1.2
    omega
  · omega
theorem cdI_lt4 (l : List UInt8) (k : Nat) : cdI l k 4 < 65536 := by
  unfold cdI; split
  · next h =>
    have h2 := h.2
    unfold hexB at h2; simp only [Bool.and_eq_true, decide_eq_true_eq] at h2
    have := hexF_lt _ h2.2 4 (by simp; omega)
    omega
  · omega
/-- a letter's bytes -/
def ltr (r : Int) : List UInt8 := (strOfNums (enc r)).data.toList
/-- what one letter behind a stroke says; 256: nothing -/
def nmV (toml : Bool) (b : Nat) : Nat :=
  if b = 34 then 34 else if b = 92 then 92 else if b = 98 then 8 else if b = 102 then 12 else if b = 110 then 10 else if b = 114 then 13 else if b = 116 then 9
  else if b = 47 ∧ toml = false then 47 else if b = 101 ∧ toml = true then 27 else 256
/-- what the escape says that a text begins with, and its bytes' number (0: it is wrong) -/
def escU (toml : Bool) (l : List UInt8) (n : Nat) : List UInt8 × Nat :=
  if 0 ≤ cdI l 2 n ∧ goodB (cdI l 2 n) = true then (ltr (cdI l 2 n), 2 + n)
  else if toml = false ∧ 55296 ≤ cdI l 2 n ∧ cdI l 2 n < 56320 ∧ bt l 6 = 92 ∧ bt l 7 = 117 ∧ 56320 ≤ cdI l 8 4 ∧ cdI l 8 4 < 57344 then (ltr (65536 + (cdI l 2 n - 55296) * 1024 + cdI l 8 4 - 56320), 12)
  else ([], 0)
def escP (toml : Bool) (l : List UInt8) : List UInt8 × Nat :=
  if nmV toml (bt l 1) < 256 then ([UInt8.ofNat (nmV toml (bt l 1))], 2)
  else if bt l 1 = 85 ∧ toml = true then escU toml l 8
  else if bt l 1 = 117 then escU toml l 4
  else ([], 0)
/-- how many bytes a line's end has that a text begins with -/
def lnE (l : List UInt8) : Nat := if bt l 0 = 10 then 1 else if bt l 0 = 13 ∧ bt l 1 = 10 then 2 else 0
/-- a letter as it is -/
def plP (l : List UInt8) : List UInt8 × Nat := (l.take (tkN l), tkN l)
def jsP (l : List UInt8) : List UInt8 × Nat := if bt l 0 = 92 then escP false l else if bt l 0 < 32 then ([], 0) else plP l
def opP (l : List UInt8) : List UInt8 × Nat := if bt l 0 < 32 ∧ bt l 0 ≠ 9 ∨ bt l 0 = 127 then ([], 0) else plP l
def mpP (l : List UInt8) : List UInt8 × Nat := if 0 < lnE l then (l.take (lnE l), lnE l) else opP l
def oeP (l : List UInt8) : List UInt8 × Nat := if bt l 0 = 92 then escP true l else opP l
/-- blanks, and blanks and lines' ends -/
def bkB (b : UInt8) : Bool := decide (b.toNat = 32 ∨ b.toNat = 9)
def blB (b : UInt8) : Bool := decide (b.toNat = 32 ∨ b.toNat = 9 ∨ b.toNat = 10 ∨ b.toNat = 13)
/-- how many of a text's first bytes are so -/
def run (p : UInt8 → Bool) (l : List UInt8) : Nat := (l.takeWhile p).length
/-- how long a line's end with a stroke ahead is, with all blanks behind it -/
def fdN (l : List UInt8) : Nat := if lnE ((l.drop 1).drop (run bkB (l.drop 1))) = 0 then 0 else 1 + run bkB (l.drop 1) + run blB ((l.drop 1).drop (run bkB (l.drop 1)))
def meP (l : List UInt8) : List UInt8 × Nat := if bt l 0 = 92 then (if 0 < fdN l then ([], fdN l) else escP true l) else mpP l
/-- the end of a string of one line; of many -/
def oE (q : Nat) (l : List UInt8) : List UInt8 × Nat := if bt l 0 = q then ([], 1) else ([], 0)
def qN (q : Nat) (l : List UInt8) : Nat := run (fun b => decide (b.toNat = q)) (l.take 5)
def mE (q : Nat) (l : List UInt8) : List UInt8 × Nat := if qN q l < 3 then ([], 0) else (l.take (qN q l - 3), qN q l)
/-- a string, read piece by piece up to its end -/
def rd (E P : List UInt8 → List UInt8 × Nat) (t : List UInt8) : Nat → Nat → List UInt8 → List UInt8 × Nat × Int
  | 0, i, _ => ([], 0, (i : Int))
  | f + 1, i, acc =>
    if t.length ≤ i then ([], 0, (t.length : Int))
    else if 0 < (E (t.drop i)).2 then (acc ++ (E (t.drop i)).1, i + (E (t.drop i)).2, -1)
    else if (P (t.drop i)).2 = 0 then ([], 0, (i : Int))
    else rd E P t f (i + (P (t.drop i)).2) (acc ++ (P (t.drop i)).1)
/-- the whole of it, from a place on -/
def rdA (E P : List UInt8 → List UInt8 × Nat) (t : List UInt8) (i : Nat) : List UInt8 × Nat × Int := rd E P t (t.length + 1) i []
theorem rd_end {E P : List UInt8 → List UInt8 × Nat} {t : List UInt8} {f i : Nat} {acc : List UInt8} (h : t.length < i + f) (hi : t.length ≤ i) (hle : i ≤ t.length) : rd E P t f i acc = ([], 0, (t.length : Int)) := by
  cases f with
  | zero => omega
  | succ f => rw [rd, if_pos hi]
theorem rd_stop {E P : List UInt8 → List UInt8 × Nat} {t : List UInt8} {f i : Nat} {acc : List UInt8} (h : t.length < i + f) (hi : i < t.length) (he : 0 < (E (t.drop i)).2) : rd E P t f i acc = (acc ++ (E (t.drop i)).1, i + (E (t.drop i)).2, -1) := by
  cases f with
  | zero => omega
  | succ f => rw [rd, if_neg (by omega), if_pos he]
theorem rd_wrong {E P : List UInt8 → List UInt8 × Nat} {t : List UInt8} {f i : Nat} {acc : List UInt8} (h : t.length < i + f) (hi : i < t.length) (he : (E (t.drop i)).2 = 0) (hp : (P (t.drop i)).2 = 0) : rd E P t f i acc = ([], 0, (i : Int)) := by
  cases f with
  | zero => omega
  | succ f => rw [rd, if_neg (by omega), if_neg (by omega), if_pos hp]
theorem rd_step {E P : List UInt8 → List UInt8 × Nat} {t : List UInt8} {f i : Nat} {acc : List UInt8} (h : t.length < i + f) (hi : i < t.length) (he : (E (t.drop i)).2 = 0) (hp : 0 < (P (t.drop i)).2) :
    ∃ f', rd E P t f i acc = rd E P t f' (i + (P (t.drop i)).2) (acc ++ (P (t.drop i)).1) ∧ t.length < i + (P (t.drop i)).2 + f' := by
  cases f with
  | zero => omega
  | succ f => exact ⟨f, by rw [rd, if_neg (by omega), if_neg (by omega), if_neg (by omega)], by omega⟩
/-- the string of JSON, and of TOML, that begins at a place -/
def plc (t : List UInt8) (a : Int) : Int := if a < 0 then 0 else if (t.length : Int) < a then t.length else a
def unqJ (t : List UInt8) (a : Int) : List UInt8 × Nat × Int :=
  if 0 ≤ a ∧ bt t a.toNat = 34 then rdA (oE 34) jsP t (a.toNat + 1) else ([], 0, plc t a)
def m3 (q : Nat) (l : List UInt8) : Bool := decide (bt l 0 = q) && decide (bt l 1 = q) && decide (bt l 2 = q)
def unqT (t : List UInt8) (a : Int) : List UInt8 × Nat × Int :=
  if 0 ≤ a ∧ m3 34 (t.drop a.toNat) = true then rdA (mE 34) meP t (a.toNat + 3 + lnE (t.drop (a.toNat + 3)))
  else if 0 ≤ a ∧ m3 39 (t.drop a.toNat) = true then rdA (mE 39) mpP t (a.toNat + 3 + lnE (t.drop (a.toNat + 3)))
  else if 0 ≤ a ∧ bt t a.toNat = 34 then rdA (oE 34) oeP t (a.toNat + 1)
  else if 0 ≤ a ∧ bt t a.toNat = 39 then rdA (oE 39) opP t (a.toNat + 1)
  else ([], 0, plc t a)
/-- how a letter is written -/
def hxD (n : Nat) : UInt8 := if n < 10 then UInt8.ofNat (48 + n) else UInt8.ofNat (87 + n)
def qbB (b : Nat) : List UInt8 :=
  if b = 34 ∨ b = 92 then [92, UInt8.ofNat b] else if b = 8 then [92, 98] else if b = 9 then [92, 116] else if b = 10 then [92, 110] else if b = 12 then [92, 102] else if b = 13 then [92, 114]
  else if b < 32 ∨ b = 127 then [92, 117, 48, 48, hxD (b / 16), hxD (b % 16)] else [UInt8.ofNat b]
def qst (toml : Bool) (l : List UInt8) : List UInt8 :=
  if tkN l = 0 then [239, 191, 189] else if 1 < tkN l ∨ bt l 0 = 127 ∧ toml = false then l.take (tkN l) else qbB (bt l 0)
def qtK (toml : Bool) (t : List UInt8) (k : Nat) : List UInt8 := 34 :: (List.range k).flatMap fun j => qst toml (t.drop (pos t j))
def qtA (toml : Bool) (t : List UInt8) : List UInt8 := qtK toml t (cnt t) ++ [34]
theorem qtK_succ (toml : Bool) (t : List UInt8) (k : Nat) : qtK toml t (k + 1) = qtK toml t k ++ qst toml (t.drop (pos t k)) := by
  simp [qtK, List.range_succ, List.flatMap_append]
def brI (b : UInt8) : Bool := decide (97 ≤ b.toNat ∧ b.toNat ≤ 122) || decide (65 ≤ b.toNat ∧ b.toNat ≤ 90) || decide (48 ≤ b.toNat ∧ b.toNat ≤ 57) || decide (b.toNat = 95) || decide (b.toNat = 45)
def brB (l : List UInt8) : Bool := !l.isEmpty && l.all brI
end Go.Proofs.YtiafcbmmadikcaaGreatDoor
