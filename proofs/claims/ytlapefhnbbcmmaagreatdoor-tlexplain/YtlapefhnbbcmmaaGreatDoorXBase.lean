/- Plain mathematics of letters in bytes: no program is named here. -/
import Derived.WalkKit
import Derived.Laws.BitsAllLaws
import Derived.Laws.BytesArg
import Derived.Lib.Strings
import Derived.Lib.Bytealg
import Derived.Lib.Replace
import Derived.Lib.SplitLaws
import Derived.Lib.IndexBytes
import Derived.Test.YtlapefhnbbcmmaaGreatDoorRows
import Derived.WalkSpells
import Derived.WalkLawsBesides
/- Plain mathematics of escapes: no program is named here. -/
/- What chapter 10 passes over, and digits with strokes between them: plain mathematics. -/
/- Cutting texts at a byte; days, times and stamps of chapter 10: plain mathematics. -/
namespace Go.Proofs.YtlapefhnbbcmmaaGreatDoor
open Go.RowKit

theorem hid {p : Prop} (h : p) : Hid p := h
def goodN (r : Nat) : Bool := decide (r ≤ 1114111 ∧ (r < 55296 ∨ 57343 < r))
def goodB (r : Int) : Bool := decide (0 ≤ r ∧ r ≤ 1114111 ∧ (r < 55296 ∨ 57343 < r))
def wdN (r : Nat) : Nat := if r < 128 then 1 else if r < 2048 then 2 else if r < 65536 then 3 else 4
def begR (b : Nat) : Nat := if b < 128 then b else if b < 192 then 0 else if b < 224 then b - 192 else if b < 240 then b - 224 else if b < 248 then b - 240 else 0
def begN (b : Nat) : Nat := if b < 128 then 1 else if b < 192 then 0 else if b < 224 then 2 else if b < 240 then 3 else if b < 248 then 4 else 0
def cont (b : UInt8) : Bool := decide (128 ≤ b.toNat ∧ b.toNat < 192)
def fol (r : Nat) (l : List UInt8) : Nat := l.foldl (fun r b => 64 * r + (b.toNat - 128)) r
def tkOk (a : UInt8) (t : List UInt8) : Bool :=
  decide (begN a.toNat ≠ 0 ∧ begN a.toNat ≤ t.length + 1) && (t.take (begN a.toNat - 1)).all cont
    && (goodN (fol (begR a.toNat) (t.take (begN a.toNat - 1))) && decide (wdN (fol (begR a.toNat) (t.take (begN a.toNat - 1))) = begN a.toNat))
/-- The letter that a text begins with, and its bytes' number; 0, 0: none. -/
def tkR : List UInt8 → Nat
  | [] => 0
  | a :: t => if tkOk a t then fol (begR a.toNat) (t.take (begN a.toNat - 1)) else 0
def tkN : List UInt8 → Nat
  | [] => 0
  | a :: t => if tkOk a t then begN a.toNat else 0

theorem and_tests (n : Nat) (h : n < 256) : (bits .and .u8 (n : Int) 224 == 192) = decide (192 ≤ n ∧ n < 224) ∧ (bits .and .u8 (n : Int) 240 == 224) = decide (224 ≤ n ∧ n < 240)
    ∧ (bits .and .u8 (n : Int) 248 == 240) = decide (240 ≤ n ∧ n < 248) ∧ (bits .and .u8 (n : Int) 192 != 128) = !decide (128 ≤ n ∧ n < 192) := by
  have e1 : bits .and .u8 (n : Int) 224 = ((n &&& 224 : Nat) : Int) := u8_and_nat n 224 h (by decide)
  have e2 : bits .and .u8 (n : Int) 240 = ((n &&& 240 : Nat) : Int) := u8_and_nat n 240 h (by decide)
  have e3 : bits .and .u8 (n : Int) 248 = ((n &&& 248 : Nat) : Int) := u8_and_nat n 248 h (by decide)
  have e4 : bits .and .u8 (n : Int) 192 = ((n &&& 192 : Nat) : Int) := u8_and_nat n 192 h (by decide)
  rw [e1, e2, e3, e4]
  clear e1 e2 e3 e4
  revert n
  decide +kernel
theorem cont_test (b : UInt8) : (bits .and .u8 (b.toNat : Int) 192 != 128) = !cont b := (and_tests b.toNat b.toNat_lt).2.2.2
theorem and_parts (n : Nat) (h : n < 256) : bits .and .u8 (n : Int) 31 = (n : Int) % 32 ∧ bits .and .u8 (n : Int) 15 = (n : Int) % 16 ∧ bits .and .u8 (n : Int) 7 = (n : Int) % 8 ∧ bits .and .u8 (n : Int) 63 = (n : Int) % 64 :=
  ⟨u8_and31 _ (by omega) (by omega), u8_and15 _ (by omega) (by omega), u8_and7 _ (by omega) (by omega), u8_and63 _ (by omega) (by omega)⟩
theorem wraps_i64 (n : Int) (h0 : 0 ≤ n) (h1 : n < 2 ^ 63) : IntKind.i64.wrap n = n := by rw [IntKind.wrap_i64]; omega
theorem i64_or6 (x y : Int) (hx0 : 0 ≤ x) (hx : x % 64 = 0) (hx1 : x < 2147483648) (h0 : 0 ≤ y) (h1 : y < 64) : bits .or .i64 x y = x + y :=
  bits_join .i64 63 (by decide) wraps_i64 6 x y hx0 hx (by omega) h0 h1 (by omega)
theorem i64_and63 (n : Int) : bits .and .i64 n 63 = n % 64 := by
  have hm : (BitVec.ofInt 64 63).toNat = 2 ^ 6 - 1 := by decide
  have key : (BitVec.ofInt 64 n &&& BitVec.ofInt 64 63).toNat = (n % ((2 ^ 64 : Nat) : Int)).toNat % 2 ^ 6 := by
    rw [BitVec.toNat_and, BitVec.toNat_ofInt, hm, Nat.and_two_pow_sub_one_eq_mod]
  show IntKind.i64.wrap ((BitVec.ofInt 64 n &&& BitVec.ofInt 64 63).toNat : Nat) = n % 64
  rw [key, IntKind.wrap_i64]
  omega
theorem later_eq (r : Int) : bits .or .u8 128 (bits .and .i64 r 63 % 256) = 128 + r % 64 := by
  rw [i64_and63, u8_or128 _ (by omega) (by omega)]; omega
theorem fol_snoc (r : Nat) (l : List UInt8) (b : UInt8) : fol r (l ++ [b]) = 64 * fol r l + (b.toNat - 128) := by simp [fol]
theorem fol_lt (l : List UInt8) : ∀ r, l.all cont = true → fol r l < (r + 1) * 64 ^ l.length := by
  induction l with
  | nil => intro r _; simp [fol]
  | cons b t ih =>
    intro r h
    simp only [List.all_cons, Bool.and_eq_true] at h
    obtain ⟨hb, ht⟩ := h
    have h1 := ih (64 * r + (b.toNat - 128)) ht
    have hb' : b.toNat < 192 := (of_decide_eq_true hb).2
    have h2 : (64 * r + (b.toNat - 128) + 1) * 64 ^ t.length ≤ (64 * (r + 1)) * 64 ^ t.length := Nat.mul_le_mul_right _ (by omega)
    have h3 : (64 * (r + 1)) * 64 ^ t.length = (r + 1) * 64 ^ (t.length + 1) := by rw [Nat.pow_succ, Nat.mul_comm 64 (r + 1), Nat.mul_assoc, Nat.mul_comm 64]
    simp only [List.length_cons]
    have h4 : fol r (b :: t) = fol (64 * r + (b.toNat - 128)) t := by simp only [fol, List.foldl_cons]
    omega
theorem begR_lt (b : Nat) : begR b < 128 := by unfold begR; (repeat' split) <;> omega
theorem begN_le (b : Nat) : begN b ≤ 4 := by unfold begN; (repeat' split) <;> omega
theorem fol_small (b : Nat) (l : List UInt8) (h : l.all cont = true) (hl : l.length ≤ 3) : fol (begR b) l < 33554432 := by
  have h1 := fol_lt l (begR b) h
  have h2 := begR_lt b
  have h3 : 64 ^ l.length ≤ 64 ^ 3 := Nat.pow_le_pow_right (by decide) hl
  have h4 : (begR b + 1) * 64 ^ l.length ≤ 128 * 64 ^ 3 := Nat.mul_le_mul (by omega) h3
  omega
theorem wdI_wdN (r : Nat) : (if (r : Int) < 128 then (1 : Int) else if (r : Int) < 2048 then 2 else if (r : Int) < 65536 then 3 else 4) = (wdN r : Int) := by
  unfold wdN; (repeat' split) <;> omega
theorem goodB_goodN (r : Nat) : goodB (r : Int) = goodN r := by
  unfold goodB goodN; rw [Bool.eq_iff_iff]; simp; omega
/-- what stands behind a text's first byte, as far as the k-th -/
def rest (s : ByteArray) (k : Nat) : List UInt8 := (s.data.toList.drop 1).take (k - 1)
theorem rest_snoc (s : ByteArray) (k : Nat) (h1 : 1 ≤ k) (h : k < s.size) : rest s (k + 1) = rest s k ++ [s[k]] := by
  unfold rest
  have e : k + 1 - 1 = (k - 1) + 1 := by omega
  have hl : k - 1 < (s.data.toList.drop 1).length := by simp; have : s.size = s.data.size := rfl; omega
  rw [e, List.take_succ_eq_append_getElem hl]
  congr 1
  simp only [List.getElem_drop]
  have e2 : 1 + (k - 1) = k := by omega
  simp only [e2]
  rfl
theorem rest_len (s : ByteArray) (k : Nat) : (rest s k).length ≤ k - 1 := by unfold rest; exact List.length_take_le _ _
theorem list_of (s : ByteArray) (h0 : 0 < s.size) : s.data.toList = s[0] :: s.data.toList.drop 1 := by
  have hl : 0 < s.data.toList.length := by simpa using h0
  have := List.drop_eq_getElem_cons hl
  rw [List.drop_zero] at this
  exact this
theorem tkOk_of (s : ByteArray) (h0 : 0 < s.size) : tkOk s[0] (s.data.toList.drop 1) = (decide (begN s[0].toNat ≠ 0 ∧ begN s[0].toNat ≤ s.size) && (rest s (begN s[0].toNat)).all cont
    && (goodN (fol (begR s[0].toNat) (rest s (begN s[0].toNat))) && decide (wdN (fol (begR s[0].toNat) (rest s (begN s[0].toNat))) = begN s[0].toNat))) := by
  unfold tkOk rest
  have e : (s.data.toList.drop 1).length + 1 = s.size := by simp; have : s.size = s.data.size := rfl; omega
  rw [e]
theorem tkR_of (s : ByteArray) (h0 : 0 < s.size) : tkR s.data.toList = if tkOk s[0] (s.data.toList.drop 1) then fol (begR s[0].toNat) (rest s (begN s[0].toNat)) else 0 := by
  have h := congrArg tkR (list_of s h0); rw [h]; rfl
theorem tkN_of (s : ByteArray) (h0 : 0 < s.size) : tkN s.data.toList = if tkOk s[0] (s.data.toList.drop 1) then begN s[0].toNat else 0 := by
  have h := congrArg tkN (list_of s h0); rw [h]; rfl
theorem tk_no (s : ByteArray) (h0 : 0 < s.size) (h : tkOk s[0] (s.data.toList.drop 1) = false) : tkR s.data.toList = 0 ∧ tkN s.data.toList = 0 := by
  rw [tkR_of s h0, tkN_of s h0, h]; exact ⟨rfl, rfl⟩
theorem tk_yes (s : ByteArray) (h0 : 0 < s.size) (h : tkOk s[0] (s.data.toList.drop 1) = true) : tkR s.data.toList = fol (begR s[0].toNat) (rest s (begN s[0].toNat)) ∧ tkN s.data.toList = begN s[0].toNat := by
  rw [tkR_of s h0, tkN_of s h0, h]; exact ⟨rfl, rfl⟩
theorem all_no (s : ByteArray) (k n : Nat) (h1 : 1 ≤ k) (hk : k < n) (h : k < s.size) (hc : cont s[k] = false) : (rest s n).all cont = false := by
  have h2 : s[k] ∈ rest s n := by
    have e := rest_snoc s k h1 h
    have h3 : rest s (k + 1) = (rest s n).take k := by
      unfold rest; rw [List.take_take]; congr 1; omega
    have h4 : s[k] ∈ rest s (k + 1) := by rw [e]; simp
    rw [h3] at h4
    exact List.mem_of_mem_take h4
  rw [List.all_eq_false]
  exact ⟨_, h2, by simp [hc]⟩
theorem fol_step (s : ByteArray) (b k : Nat) (h1 : 1 ≤ k) (h : k < s.size) (hc : cont s[k] = true) (hf : fol (begR b) (rest s k) < 33554432) :
    bits .or .i64 ((fol (begR b) (rest s k) : Int) * 64) ((s[k].toNat : Int) % 64) = (fol (begR b) (rest s (k + 1)) : Int) := by
  rw [i64_or6 _ _ (by omega) (by omega) (by omega) (by omega) (by omega), rest_snoc s k h1 h, fol_snoc]
  have h2 := of_decide_eq_true hc
  omega
theorem all_step (s : ByteArray) (k : Nat) (h1 : 1 ≤ k) (h : k < s.size) (hc : cont s[k] = true) (ha : (rest s k).all cont = true) : (rest s (k + 1)).all cont = true := by
  rw [rest_snoc s k h1 h, List.all_append, ha]; simp [hc]
theorem tkN_le (l : List UInt8) : tkN l ≤ l.length := by
  cases l with
  | nil => simp [tkN]
  | cons a t =>
    simp only [tkN]
    split
    · next h =>
      unfold tkOk at h
      simp only [Bool.and_eq_true, decide_eq_true_eq] at h
      simpa using h.1.1.2
    · simp
/-- how far the next letter lies; a byte that begins none is passed alone -/
def stp (l : List UInt8) : Nat := max (tkN l) 1
/-- where the k-th of a text's letters begins -/
def pos (l : List UInt8) : Nat → Nat
  | 0 => 0
  | k + 1 => pos l k + stp (l.drop (pos l k))
theorem stp_le (l : List UInt8) (h : 0 < l.length) : stp l ≤ l.length := by have := tkN_le l; unfold stp; omega
theorem stp_pos (l : List UInt8) : 1 ≤ stp l := by unfold stp; omega
theorem pos_next (l : List UInt8) (k : Nat) (h : pos l k < l.length) : pos l (k + 1) ≤ l.length := by
  have := stp_le (l.drop (pos l k)) (by simp; omega)
  simp only [List.length_drop] at this
  simp only [pos]; omega
theorem pos_lt (l : List UInt8) (k : Nat) : pos l k < pos l (k + 1) := by have := stp_pos (l.drop (pos l k)); simp only [pos]; omega
theorem pos_mono (l : List UInt8) (j k : Nat) (h : j ≤ k) : pos l j ≤ pos l k := by
  induction k with
  | zero => obtain rfl : j = 0 := by omega
            exact Nat.le_refl _
  | succ k ih =>
    by_cases hj : j = k + 1
    · rw [hj]; exact Nat.le_refl _
    · have := ih (by omega); have := pos_lt l k; omega
theorem pos_ge (l : List UInt8) (k : Nat) : k ≤ pos l k := by
  induction k with
  | zero => exact Nat.zero_le _
  | succ k ih => have := pos_lt l k; omega
theorem size_list (s : ByteArray) : s.data.toList.length = s.size := by simp
theorem drop_list (s : ByteArray) (k : Nat) : (s.extract k s.size).data.toList = s.data.toList.drop k := by
  simp; rw [List.take_of_length_le]; simp
/-- the least number from k on, within f, at which P is false -/
def least (P : Nat → Bool) : Nat → Nat → Nat
  | 0, k => k
  | f + 1, k => if P k then least P f (k + 1) else k
theorem least_eq (P : Nat → Bool) : ∀ (f k m : Nat), k ≤ m → m ≤ k + f → P m = false → (∀ i, k ≤ i → i < m → P i = true) → least P f k = m := by
  intro f
  induction f with
  | zero => intro k m h1 h2 _ _; simp only [least]; omega
  | succ f ih =>
    intro k m h1 h2 h3 h4
    simp only [least]
    by_cases hk : k = m
    · subst hk; rw [h3]; rfl
    · rw [h4 k (Nat.le_refl _) (by omega)]
      exact ih (k + 1) m (by omega) (by omega) h3 (fun i a b => h4 i (by omega) b)
theorem least_has (P : Nat → Bool) : ∀ (f k : Nat), P (k + f) = false → P (least P f k) = false ∧ (∀ i, k ≤ i → i < least P f k → P i = true) ∧ k ≤ least P f k ∧ least P f k ≤ k + f := by
  intro f
  induction f with
  | zero => intro k h; exact ⟨h, fun i a b => by simp only [least] at b; omega, Nat.le_refl _, Nat.le_refl _⟩
  | succ f ih =>
    intro k h
    simp only [least]
    by_cases hk : P k = true
    · rw [hk, if_pos rfl]
      obtain ⟨a, b, c, d⟩ := ih (k + 1) (by rw [← h]; congr 1; omega)
      refine ⟨a, fun i h1 h2 => ?_, by omega, by omega⟩
      by_cases hi : i = k
      · rw [hi]; exact hk
      · exact b i (by omega) h2
    · have hk' : P k = false := by simpa using hk
      rw [hk']
      exact ⟨hk', fun i a b => by simp at b; omega, Nat.le_refl _, by simp⟩
/-- how many letters a text has -/
def cnt (l : List UInt8) : Nat := least (fun k => decide (pos l k < l.length)) l.length 0
def vgo (l : List UInt8) (k : Nat) : Bool := decide (pos l k < l.length) && decide (tkN (l.drop (pos l k)) ≠ 0)
/-- how many of a text's letters stand ahead of the first byte that begins none -/
def vlk (l : List UInt8) : Nat := least (vgo l) l.length 0
theorem cnt_eq (l : List UInt8) (k : Nat) (h : pos l k = l.length) (hj : ∀ j < k, pos l j < l.length) : k = cnt l :=
  (least_eq _ l.length 0 k (Nat.zero_le _) (by have := pos_ge l k; omega) (by simp [h]) (fun i _ hi => by simpa using hj i hi)).symm
theorem cnt_has (l : List UInt8) : pos l (cnt l) = l.length ∧ ∀ j < cnt l, pos l j < l.length := by
  have h := least_has (fun k => decide (pos l k < l.length)) l.length 0 (by have := pos_ge l (0 + l.length); simp at this ⊢; exact this)
  have h1 : ¬ pos l (cnt l) < l.length := of_decide_eq_false h.1
  have h2 : ∀ j < cnt l, pos l j < l.length := fun j hj => by simpa using h.2.1 j (Nat.zero_le _) hj
  refine ⟨?_, h2⟩
  by_cases h0 : cnt l = 0
  · rw [h0] at h1 ⊢; simp only [pos] at h1 ⊢; omega
  · have h3 := pos_next l (cnt l - 1) (h2 _ (by omega))
    have e : cnt l - 1 + 1 = cnt l := by omega
    rw [e] at h3; omega
theorem vlk_eq (l : List UInt8) (k : Nat) (h : vgo l k = false) (hj : ∀ j < k, vgo l j = true) (hk : k ≤ l.length) : k = vlk l :=
  (least_eq _ l.length 0 k (Nat.zero_le _) (by omega) h (fun i _ hi => hj i hi)).symm
theorem pos_succ' (l : List UInt8) (k : Nat) (h : tkN (l.drop (pos l k)) ≠ 0) : (pos l k : Int) + (tkN (l.drop (pos l k)) : Int) = ((pos l (k + 1) : Nat) : Int) := by simp only [pos, stp]; omega
theorem below_cnt (l : List UInt8) (k : Nat) (h : pos l k < l.length) : k < cnt l := by
  have h1 := cnt_has l
  by_cases hc : k < cnt l
  · exact hc
  · have := pos_mono l (cnt l) k (by omega); omega
theorem at_cnt (l : List UInt8) (k : Nat) (h : pos l k = l.length) : k = cnt l := by
  refine cnt_eq l k h (fun j hj => ?_)
  have h1 := pos_lt l j
  have h2 := pos_mono l (j + 1) k (by omega)
  omega
def atB (l : List UInt8) (n : Int) : Bool := decide (0 ≤ n ∧ n ≤ cnt l)
def atP (l : List UInt8) (n : Int) : Int := if 0 ≤ n ∧ n ≤ cnt l then (pos l n.toNat : Int) else 0
def wdI (r : Int) : Int := if r < 128 then 1 else if r < 2048 then 2 else if r < 65536 then 3 else 4
/-- a letter's bytes, as numbers -/
def encI (r : Int) : List Int :=
  if r < 128 then [r] else if r < 2048 then [192 + r / 64, 128 + r % 64]
  else if r < 65536 then [224 + r / 4096, 128 + r / 64 % 64, 128 + r % 64] else [240 + r / 262144, 128 + r / 4096 % 64, 128 + r / 64 % 64, 128 + r % 64]
/-- what is written of a number: its bytes, or nothing -/
def enc (r : Int) : List Int := if goodB r then encI r else []
theorem ub_eq (x : Int) (a : UInt8) (h : x = (a.toNat : Int)) : UInt8.ofNat x.toNat = a := by subst h; simp
theorem encI_len (F : Nat) : (encI (F : Int)).length = wdN F := by
  unfold encI wdN
  by_cases h1 : F < 128
  · rw [if_pos (by omega), if_pos h1]; rfl
  · by_cases h2 : F < 2048
    · rw [if_neg (by omega), if_pos (by omega), if_neg h1, if_pos h2]; rfl
    · by_cases h3 : F < 65536
      · rw [if_neg (by omega), if_neg (by omega), if_pos (by omega), if_neg h1, if_neg h2, if_pos h3]; rfl
      · rw [if_neg (by omega), if_neg (by omega), if_neg (by omega), if_neg h1, if_neg h2, if_neg h3]; rfl
theorem wd_two {F : Nat} (h : wdN F = 2) : 128 ≤ F ∧ F < 2048 := by unfold wdN at h; (repeat' split at h) <;> omega
theorem wd_three {F : Nat} (h : wdN F = 3) : 2048 ≤ F ∧ F < 65536 := by unfold wdN at h; (repeat' split at h) <;> omega
theorem wd_four {F : Nat} (h : wdN F = 4) : 65536 ≤ F := by unfold wdN at h; (repeat' split at h) <;> omega
theorem beg_one {b : Nat} (h : begN b = 1) : b < 128 ∧ begR b = b := by unfold begN at h; unfold begR; (repeat' split at h) <;> simp_all
theorem beg_two {b : Nat} (h : begN b = 2) : 192 ≤ b ∧ b < 224 ∧ begR b = b - 192 := by
  unfold begN at h; (repeat' split at h) <;> (try omega)
  unfold begR; refine ⟨by omega, by omega, ?_⟩; (repeat' split) <;> omega
theorem beg_three {b : Nat} (h : begN b = 3) : 224 ≤ b ∧ b < 240 ∧ begR b = b - 224 := by
  unfold begN at h; (repeat' split at h) <;> (try omega)
  unfold begR; refine ⟨by omega, by omega, ?_⟩; (repeat' split) <;> omega
theorem beg_four {b : Nat} (h : begN b = 4) : 240 ≤ b ∧ b < 248 ∧ begR b = b - 240 := by
  unfold begN at h; (repeat' split at h) <;> (try omega)
  unfold begR; refine ⟨by omega, by omega, ?_⟩; (repeat' split) <;> omega
theorem cont_bd {b : UInt8} (h : cont b = true) : 128 ≤ b.toNat ∧ b.toNat < 192 := of_decide_eq_true h
set_option maxRecDepth 10000 in
theorem enc_of (a : UInt8) (t : List UInt8) (hl : t.length + 1 = begN a.toNat) (hc : t.all cont = true) (hw : wdN (fol (begR a.toNat) t) = begN a.toNat) :
    (encI (fol (begR a.toNat) t : Int)).map (fun n => UInt8.ofNat n.toNat) = a :: t := by
  have h4 := begN_le a.toNat
  match t, hl, hc, hw with
  | [], hl, hc, hw =>
    obtain ⟨h1, h2⟩ := beg_one hl.symm
    have e : fol (begR a.toNat) [] = a.toNat := by rw [h2]; simp only [fol, List.foldl_nil]
    rw [e]
    unfold encI
    rw [if_pos (by omega)]
    simp
  | [b], hl, hc, hw =>
    obtain ⟨h1, h2, h3⟩ := beg_two hl.symm
    have hb := cont_bd (b := b) (by simpa using hc)
    have e : fol (begR a.toNat) [b] = 64 * (a.toNat - 192) + (b.toNat - 128) := by rw [h3]; simp only [fol, List.foldl_cons, List.foldl_nil]
    rw [e] at hw ⊢
    obtain ⟨h5, h6⟩ := wd_two (hw.trans hl.symm)
    unfold encI
    rw [if_neg (by omega), if_pos (by omega)]
    simp only [List.map_cons, List.map_nil]
    rw [ub_eq _ a (by omega), ub_eq _ b (by omega)]
  | [b, c], hl, hc, hw =>
    obtain ⟨h1, h2, h3⟩ := beg_three hl.symm
    simp only [List.all_cons, List.all_nil, Bool.and_true, Bool.and_eq_true] at hc
    have hb := cont_bd hc.1
    have hd := cont_bd hc.2
    have e : fol (begR a.toNat) [b, c] = 64 * (64 * (a.toNat - 224) + (b.toNat - 128)) + (c.toNat - 128) := by rw [h3]; simp only [fol, List.foldl_cons, List.foldl_nil]
    rw [e] at hw ⊢
    obtain ⟨h5, h6⟩ := wd_three (hw.trans hl.symm)
    unfold encI
    rw [if_neg (by omega), if_neg (by omega), if_pos (by omega)]
    simp only [List.map_cons, List.map_nil]
    rw [ub_eq _ a (by omega), ub_eq _ b (by omega), ub_eq _ c (by omega)]
  | [b, c, d], hl, hc, hw =>
    obtain ⟨h1, h2, h3⟩ := beg_four hl.symm
    simp only [List.all_cons, List.all_nil, Bool.and_true, Bool.and_eq_true] at hc
    have hb := cont_bd hc.1
    have hd := cont_bd hc.2.1
    have he := cont_bd hc.2.2
    have e : fol (begR a.toNat) [b, c, d] = 64 * (64 * (64 * (a.toNat - 240) + (b.toNat - 128)) + (c.toNat - 128)) + (d.toNat - 128) := by rw [h3]; simp only [fol, List.foldl_cons, List.foldl_nil]
    rw [e] at hw ⊢
    have h5 := wd_four (hw.trans hl.symm)
    unfold encI
    rw [if_neg (by omega), if_neg (by omega), if_neg (by omega)]
    simp only [List.map_cons, List.map_nil]
    rw [ub_eq _ a (by omega), ub_eq _ b (by omega), ub_eq _ c (by omega), ub_eq _ d (by omega)]
  | _ :: _ :: _ :: _ :: _, hl, _, _ => simp at hl; omega
theorem enc_back (a : UInt8) (t : List UInt8) (hl : t.length + 1 = begN a.toNat) (hc : t.all cont = true) :
    ((enc (fol (begR a.toNat) t : Int)).map (fun n => UInt8.ofNat n.toNat) == a :: t) = (goodN (fol (begR a.toNat) t) && decide (wdN (fol (begR a.toNat) t) = begN a.toNat)) := by
  unfold enc
  rw [goodB_goodN]
  cases goodN (fol (begR a.toNat) t) with
  | false => simp
  | true =>
    by_cases hw : wdN (fol (begR a.toNat) t) = begN a.toNat
    · rw [if_pos rfl, enc_of a t hl hc hw]; simp [hw]
    · rw [if_pos rfl, decide_eq_false hw]
      have : (encI (fol (begR a.toNat) t : Int)).map (fun n => UInt8.ofNat n.toNat) ≠ a :: t := by
        intro h
        have h2 := congrArg List.length h
        rw [List.length_map, encI_len] at h2
        simp at h2
        omega
      simpa using this
theorem rest_full (s : ByteArray) (n : Nat) (h1 : 1 ≤ n) (h : n ≤ s.size) : (rest s n).length + 1 = n := by
  unfold rest
  have := size_list s
  simp only [List.length_take, List.length_drop]; omega
theorem take_rest (s : ByteArray) (n : Nat) (h0 : 0 < s.size) (h1 : 1 ≤ n) : s.data.toList.take n = s[0] :: rest s n := by
  have h := congrArg (List.take n) (list_of s h0)
  rw [h]
  unfold rest
  obtain ⟨m, rfl⟩ : ∃ m, n = m + 1 := ⟨n - 1, by omega⟩
  simp
/-- the test by which the document's own reader knows a letter -/
theorem put_test (s : ByteArray) (h0 : 0 < s.size) (n : Nat) (hn : begN s[0].toNat = n) (h1 : 1 ≤ n) (h : n ≤ s.size) (hc : (rest s n).all cont = true) :
    ((strOfNums (enc (fol (begR s[0].toNat) (rest s n) : Int))).toList == (s.extract 0 n).toList) = tkOk s[0] (s.data.toList.drop 1) := by
  rw [tkOk_of s h0, ByteArray.toList_eq, ByteArray.toList_eq, strOfNums_data]
  have e : (s.extract 0 n).data.toList = s.data.toList.take n := by simp
  rw [e, take_rest s n h0 h1, hn, hc, decide_eq_true (show n ≠ 0 ∧ n ≤ s.size by omega)]
  have := enc_back s[0] (rest s n) (by rw [hn]; exact rest_full s n h1 h) hc
  rw [hn] at this
  rw [this]; simp
theorem getD_at (s : ByteArray) (k : Nat) (h : k < s.size) : s.data.toList.getD k 0 = s[k] := by
  have h' : k < s.data.toList.length := by simpa using h
  rw [List.getD, List.getElem?_eq_getElem h']; rfl
theorem byte_is (b : UInt8) (n : Nat) (h : b.toNat = n) : ((b.toNat : Int) == (n : Int)) = true := by rw [h]; simp
theorem byte_not (b : UInt8) (n : Nat) (h : ¬ b.toNat = n) : ((b.toNat : Int) == (n : Int)) = false := by
  rw [beq_eq_false_iff_ne]; omega
theorem byte_nis (b : UInt8) (n : Nat) (h : b.toNat = n) : ((b.toNat : Int) != (n : Int)) = false := by rw [bne, byte_is b n h]; rfl
theorem byte_nnot (b : UInt8) (n : Nat) (h : ¬ b.toNat = n) : ((b.toNat : Int) != (n : Int)) = true := by rw [bne, byte_not b n h]; rfl
/-- a text, of its bytes -/
def mkS (l : List UInt8) : ByteArray := ⟨l.toArray⟩
theorem mkS_list (l : List UInt8) : (mkS l).data.toList = l := by simp [mkS]
theorem mkS_of (x : ByteArray) (l : List UInt8) (h : x.data.toList = l) : x = mkS l := by
  rw [← h]; simp [mkS]
theorem mkS_size (l : List UInt8) : (mkS l).size = l.length := by rw [← size_list, mkS_list]
end Go.Proofs.YtlapefhnbbcmmaaGreatDoor
namespace Go.Proofs.YtlapefhnbbcmmaaGreatDoor
open Go.RowKit

/-- a text's byte at a place, as a number; 256: there is none -/
def bt (l : List UInt8) (k : Nat) : Nat := match l[k]? with
  | some b => b.toNat
  | none => 256
theorem bt_some {l : List UInt8} {k : Nat} {b : UInt8} (h : l[k]? = some b) : bt l k = b.toNat := by unfold bt; rw [h]
theorem bt_none {l : List UInt8} {k : Nat} (h : l.length ≤ k) : bt l k = 256 := by unfold bt; rw [List.getElem?_eq_none h]
theorem bt_lt {l : List UInt8} {k : Nat} (h : bt l k < 256) : k < l.length := by
  by_cases hk : k < l.length
  · exact hk
  · rw [bt_none (by omega)] at h; omega
theorem bt_at (s : ByteArray) (k : Nat) (h : k < s.size) : bt s.data.toList k = s[k].toNat := by
  have h' : k < s.data.toList.length := by simpa using h
  rw [bt_some (List.getElem?_eq_getElem h')]; rfl
theorem bt_drop (l : List UInt8) (i k : Nat) : bt (l.drop i) k = bt l (i + k) := by unfold bt; rw [List.getElem?_drop]
theorem bt_cons (b : UInt8) (l : List UInt8) : bt (b :: l) 0 = b.toNat := rfl
theorem bt_succ (b : UInt8) (l : List UInt8) (k : Nat) : bt (b :: l) (k + 1) = bt l k := by unfold bt; rfl
theorem bt_nil (k : Nat) : bt [] k = 256 := by unfold bt; rfl
theorem bt_app (l m : List UInt8) (k : Nat) (h : k < l.length) : bt (l ++ m) k = bt l k := by unfold bt; rw [List.getElem?_append_left h]
/-- is a byte a hex digit, and what it says -/
def hxI (b : UInt8) : Bool := decide (48 ≤ b.toNat ∧ b.toNat ≤ 57) || decide (97 ≤ b.toNat ∧ b.toNat ≤ 102) || decide (65 ≤ b.toNat ∧ b.toNat ≤ 70)
def hxV (b : UInt8) : Nat := if b.toNat ≤ 57 then b.toNat - 48 else if b.toNat ≤ 70 then b.toNat - 55 else b.toNat - 87
def hexF (l : List UInt8) : Nat := l.foldl (fun v b => 16 * v + hxV b) 0
def hexB (l : List UInt8) : Bool := decide (1 ≤ l.length ∧ l.length ≤ 8) && l.all hxI
def hexR (l : List UInt8) : Nat := if hexB l = true then hexF l else 0
theorem hxV_lt {b : UInt8} (h : hxI b = true) : hxV b < 16 := by
  unfold hxI at h; simp only [Bool.or_eq_true, decide_eq_true_eq] at h
  unfold hxV; (repeat' split) <;> omega
theorem hexF_snoc (l : List UInt8) (b : UInt8) : hexF (l ++ [b]) = 16 * hexF l + hxV b := by simp [hexF]
theorem foldl_lt (l : List UInt8) : ∀ v, l.all hxI = true → l.foldl (fun v b => 16 * v + hxV b) v < (v + 1) * 16 ^ l.length := by
  induction l with
  | nil => intro v _; simp
  | cons b t ih =>
    intro v h
    rw [List.all_cons, Bool.and_eq_true] at h
    have h1 := hxV_lt h.1
    have h2 := ih (16 * v + hxV b) h.2
    have h3 : (16 * v + hxV b + 1) * 16 ^ t.length ≤ (16 * (v + 1)) * 16 ^ t.length := Nat.mul_le_mul_right _ (by omega)
    have h4 : (16 * (v + 1)) * 16 ^ t.length = (v + 1) * 16 ^ (t.length + 1) := by rw [Nat.pow_succ, Nat.mul_comm 16 (v + 1), Nat.mul_assoc, Nat.mul_comm 16]
    simp only [List.foldl_cons, List.length_cons]
    omega
theorem hexF_lt (l : List UInt8) (h : l.all hxI = true) (n : Nat) (hn : l.length ≤ n) : hexF l < 16 ^ n := by
  have h1 := foldl_lt l 0 h
  have h2 : 16 ^ l.length ≤ 16 ^ n := Nat.pow_le_pow_right (by decide) hn
  unfold hexF; omega
theorem hexF_lt8 (l : List UInt8) (h : l.all hxI = true) (hn : l.length ≤ 8) : hexF l < 4294967296 := by
  have := hexF_lt l h 8 hn; omega
/-- so many hex digits at a place: the number; -1: there are not -/
def cdI (l : List UInt8) (k n : Nat) : Int := if k + n ≤ l.length ∧ hexB ((l.drop k).take n) = true then (hexF ((l.drop k).take n) : Int) else -1
theorem cdI_ge (l : List UInt8) (k n : Nat) : -1 ≤ cdI l k n := by unfold cdI; split <;> omega
theorem cdI_lt (l : List UInt8) (k n : Nat) : cdI l k n < 4294967296 := by
  unfold cdI; split
  · next h =>
    have h2 := h.2
    unfold hexB at h2; simp only [Bool.and_eq_true, decide_eq_true_eq] at h2
    have := hexF_lt8 _ h2.2 h2.1.2
    omega
  · omega
theorem cdI_lt4 (l : List UInt8) (k : Nat) : cdI l k 4 < 65536 := by
  unfold cdI; split
  · next h =>
    have h2 := h.2
    unfold hexB at h2; simp only [Bool.and_eq_true, decide_eq_true_eq] at h2
    have := hexF_lt _ h2.2 4 (by simp; omega)
    omega
  · omega
/-- a letter's bytes -/
def ltr (r : Int) : List UInt8 := (strOfNums (enc r)).data.toList
/-- what one letter behind a stroke says; 256: nothing -/
def nmV (toml : Bool) (b : Nat) : Nat :=
  if b = 34 then 34 else if b = 92 then 92 else if b = 98 then 8 else if b = 102 then 12 else if b = 110 then 10 else if b = 114 then 13 else if b = 116 then 9
  else if b = 47 ∧ toml = false then 47 else if b = 101 ∧ toml = true then 27 else 256
/-- what the escape says that a text begins with, and its bytes' number (0: it is wrong) -/
def escU (toml : Bool) (l : List UInt8) (n : Nat) : List UInt8 × Nat :=
  if 0 ≤ cdI l 2 n ∧ goodB (cdI l 2 n) = true then (ltr (cdI l 2 n), 2 + n)
  else if toml = false ∧ 55296 ≤ cdI l 2 n ∧ cdI l 2 n < 56320 ∧ bt l 6 = 92 ∧ bt l 7 = 117 ∧ 56320 ≤ cdI l 8 4 ∧ cdI l 8 4 < 57344 then (ltr (65536 + (cdI l 2 n - 55296) * 1024 + cdI l 8 4 - 56320), 12)
  else ([], 0)
def escP (toml : Bool) (l : List UInt8) : List UInt8 × Nat :=
  if nmV toml (bt l 1) < 256 then ([UInt8.ofNat (nmV toml (bt l 1))], 2)
  else if bt l 1 = 85 ∧ toml = true then escU toml l 8
  else if bt l 1 = 117 then escU toml l 4
  else ([], 0)
/-- how many bytes a line's end has that a text begins with -/
def lnE (l : List UInt8) : Nat := if bt l 0 = 10 then 1 else if bt l 0 = 13 ∧ bt l 1 = 10 then 2 else 0
/-- a letter as it is -/
def plP (l : List UInt8) : List UInt8 × Nat := (l.take (tkN l), tkN l)
def jsP (l : List UInt8) : List UInt8 × Nat := if bt l 0 = 92 then escP false l else if bt l 0 < 32 then ([], 0) else plP l
def opP (l : List UInt8) : List UInt8 × Nat := if bt l 0 < 32 ∧ bt l 0 ≠ 9 ∨ bt l 0 = 127 then ([], 0) else plP l
def mpP (l : List UInt8) : List UInt8 × Nat := if 0 < lnE l then (l.take (lnE l), lnE l) else opP l
def oeP (l : List UInt8) : List UInt8 × Nat := if bt l 0 = 92 then escP true l else opP l
/-- blanks, and blanks and lines' ends -/
def bkB (b : UInt8) : Bool := decide (b.toNat = 32 ∨ b.toNat = 9)
def blB (b : UInt8) : Bool := decide (b.toNat = 32 ∨ b.toNat = 9 ∨ b.toNat = 10 ∨ b.toNat = 13)
/-- how many of a text's first bytes are so -/
def run (p : UInt8 → Bool) (l : List UInt8) : Nat := (l.takeWhile p).length
/-- how long a line's end with a stroke ahead is, with all blanks behind it -/
def fdN (l : List UInt8) : Nat := if lnE ((l.drop 1).drop (run bkB (l.drop 1))) = 0 then 0 else 1 + run bkB (l.drop 1) + run blB ((l.drop 1).drop (run bkB (l.drop 1)))
def meP (l : List UInt8) : List UInt8 × Nat := if bt l 0 = 92 then (if 0 < fdN l then ([], fdN l) else escP true l) else mpP l
/-- the end of a string of one line; of many -/
def oE (q : Nat) (l : List UInt8) : List UInt8 × Nat := if bt l 0 = q then ([], 1) else ([], 0)
def qN (q : Nat) (l : List UInt8) : Nat := run (fun b => decide (b.toNat = q)) (l.take 5)
def mE (q : Nat) (l : List UInt8) : List UInt8 × Nat := if qN q l < 3 then ([], 0) else (l.take (qN q l - 3), qN q l)
/-- a string, read piece by piece up to its end -/
def rd (E P : List UInt8 → List UInt8 × Nat) (t : List UInt8) : Nat → Nat → List UInt8 → List UInt8 × Nat × Int
  | 0, i, _ => ([], 0, (i : Int))
  | f + 1, i, acc =>
    if t.length ≤ i then ([], 0, (t.length : Int))
    else if 0 < (E (t.drop i)).2 then (acc ++ (E (t.drop i)).1, i + (E (t.drop i)).2, -1)
    else if (P (t.drop i)).2 = 0 then ([], 0, (i : Int))
    else rd E P t f (i + (P (t.drop i)).2) (acc ++ (P (t.drop i)).1)
/-- the whole of it, from a place on -/
def rdA (E P : List UInt8 → List UInt8 × Nat) (t : List UInt8) (i : Nat) : List UInt8 × Nat × Int := rd E P t (t.length + 1) i []
theorem rd_end {E P : List UInt8 → List UInt8 × Nat} {t : List UInt8} {f i : Nat} {acc : List UInt8} (h : t.length < i + f) (hi : t.length ≤ i) (hle : i ≤ t.length) : rd E P t f i acc = ([], 0, (t.length : Int)) := by
  cases f with
  | zero => omega
  | succ f => rw [rd, if_pos hi]
theorem rd_stop {E P : List UInt8 → List UInt8 × Nat} {t : List UInt8} {f i : Nat} {acc : List UInt8} (h : t.length < i + f) (hi : i < t.length) (he : 0 < (E (t.drop i)).2) : rd E P t f i acc = (acc ++ (E (t.drop i)).1, i + (E (t.drop i)).2, -1) := by
  cases f with
  | zero => omega
  | succ f => rw [rd, if_neg (by omega), if_pos he]
theorem rd_wrong {E P : List UInt8 → List UInt8 × Nat} {t : List UInt8} {f i : Nat} {acc : List UInt8} (h : t.length < i + f) (hi : i < t.length) (he : (E (t.drop i)).2 = 0) (hp : (P (t.drop i)).2 = 0) : rd E P t f i acc = ([], 0, (i : Int)) := by
  cases f with
  | zero => omega
  | succ f => rw [rd, if_neg (by omega), if_neg (by omega), if_pos hp]
theorem rd_step {E P : List UInt8 → List UInt8 × Nat} {t : List UInt8} {f i : Nat} {acc : List UInt8} (h : t.length < i + f) (hi : i < t.length) (he : (E (t.drop i)).2 = 0) (hp : 0 < (P (t.drop i)).2) :
    ∃ f', rd E P t f i acc = rd E P t f' (i + (P (t.drop i)).2) (acc ++ (P (t.drop i)).1) ∧ t.length < i + (P (t.drop i)).2 + f' := by
  cases f with
  | zero => omega
  | succ f => exact ⟨f, by rw [rd, if_neg (by omega), if_neg (by omega), if_neg (by omega)], by omega⟩
/-- the string of JSON, and of TOML, that begins at a place -/
def plc (t : List UInt8) (a : Int) : Int := if a < 0 then 0 else if (t.length : Int) < a then t.length else a
def unqJ (t : List UInt8) (a : Int) : List UInt8 × Nat × Int :=
  if 0 ≤ a ∧ bt t a.toNat = 34 then rdA (oE 34) jsP t (a.toNat + 1) else ([], 0, plc t a)
def m3 (q : Nat) (l : List UInt8) : Bool := decide (bt l 0 = q) && decide (bt l 1 = q) && decide (bt l 2 = q)
def unqT (t : List UInt8) (a : Int) : List UInt8 × Nat × Int :=
  if 0 ≤ a ∧ m3 34 (t.drop a.toNat) = true then rdA (mE 34) meP t (a.toNat + 3 + lnE (t.drop (a.toNat + 3)))
  else if 0 ≤ a ∧ m3 39 (t.drop a.toNat) = true then rdA (mE 39) mpP t (a.toNat + 3 + lnE (t.drop (a.toNat + 3)))
  else if 0 ≤ a ∧ bt t a.toNat = 34 then rdA (oE 34) oeP t (a.toNat + 1)
  else if 0 ≤ a ∧ bt t a.toNat = 39 then rdA (oE 39) opP t (a.toNat + 1)
  else ([], 0, plc t a)
/-- how a letter is written -/
def hxD (n : Nat) : UInt8 := if n < 10 then UInt8.ofNat (48 + n) else UInt8.ofNat (87 + n)
def qbB (b : Nat) : List UInt8 :=
  if b = 34 ∨ b = 92 then [92, UInt8.ofNat b] else if b = 8 then [92, 98] else if b = 9 then [92, 116] else if b = 10 then [92, 110] else if b = 12 then [92, 102] else if b = 13 then [92, 114]
  else if b < 32 ∨ b = 127 then [92, 117, 48, 48, hxD (b / 16), hxD (b % 16)] else [UInt8.ofNat b]
def qst (toml : Bool) (l : List UInt8) : List UInt8 :=
  if tkN l = 0 then [239, 191, 189] else if 1 < tkN l ∨ bt l 0 = 127 ∧ toml = false then l.take (tkN l) else qbB (bt l 0)
def qtK (toml : Bool) (t : List UInt8) (k : Nat) : List UInt8 := 34 :: (List.range k).flatMap fun j => qst toml (t.drop (pos t j))
def qtA (toml : Bool) (t : List UInt8) : List UInt8 := qtK toml t (cnt t) ++ [34]
def brI (b : UInt8) : Bool := decide (97 ≤ b.toNat ∧ b.toNat ≤ 122) || decide (65 ≤ b.toNat ∧ b.toNat ≤ 90) || decide (48 ≤ b.toNat ∧ b.toNat ≤ 57) || decide (b.toNat = 95) || decide (b.toNat = 45)
def brB (l : List UInt8) : Bool := !l.isEmpty && l.all brI
end Go.Proofs.YtlapefhnbbcmmaaGreatDoor
namespace Go.Proofs.YtlapefhnbbcmmaaGreatDoor

/-- blanks, lines' ends and remarks at a text's head: how many bytes; within a remark -/
def skM : Bool → List UInt8 → Nat
  | _, [] => 0
  | false, b :: l => if bkB b = true ∨ b.toNat = 10 ∨ (b.toNat = 13 ∧ bt l 0 = 10) then 1 + skM false l else if b.toNat = 35 then 1 + skM true l else 0
  | true, b :: l => if b.toNat = 10 then 1 + skM false l else 1 + skM true l
def skT (lines : Bool) (l : List UInt8) : Nat := if lines = true then skM false l else run bkB l
theorem skM_t (b : UInt8) (l : List UInt8) : skM true (b :: l) = if b.toNat = 10 then 1 + skM false l else 1 + skM true l := by rw [skM]
theorem skM_f (b : UInt8) (l : List UInt8) : skM false (b :: l) = if bkB b = true ∨ b.toNat = 10 ∨ (b.toNat = 13 ∧ bt l 0 = 10) then 1 + skM false l else if b.toNat = 35 then 1 + skM true l else 0 := by rw [skM]
theorem skM_blank {b : UInt8} {l : List UInt8} (h : bkB b = true) : skM false (b :: l) = 1 + skM false l := by rw [skM, if_pos (Or.inl h)]
theorem skM_run : ∀ l : List UInt8, skM false l = run bkB l + skM false (l.drop (run bkB l))
  | [] => rfl
  | b :: l => by
    by_cases h : bkB b = true
    · have e : run bkB (b :: l) = run bkB l + 1 := by unfold run; rw [List.takeWhile_cons_of_pos h]; rfl
      rw [skM_blank h, e, List.drop_succ_cons, skM_run l]; omega
    · have e : run bkB (b :: l) = 0 := by unfold run; rw [List.takeWhile_cons_of_neg h]; rfl
      rw [e]; simp
theorem run_nob {p : UInt8 → Bool} {l : List UInt8} (h : run p l = 0) (b : UInt8) (m : List UInt8) (hl : l = b :: m) : p b = false := by
  subst hl
  cases hp : p b with
  | false => rfl
  | true => unfold run at h; rw [List.takeWhile_cons_of_pos hp] at h; cases h
theorem run_drop0 (p : UInt8 → Bool) : ∀ l : List UInt8, run p (l.drop (run p l)) = 0
  | [] => rfl
  | b :: l => by
    by_cases h : p b = true
    · have e : run p (b :: l) = run p l + 1 := by unfold run; rw [List.takeWhile_cons_of_pos h]; rfl
      rw [e, List.drop_succ_cons]; exact run_drop0 p l
    · have e : run p (b :: l) = 0 := by unfold run; rw [List.takeWhile_cons_of_neg h]; rfl
      rw [e]; exact e
/-- within a remark: up to the line's end -/
def noL (b : UInt8) : Bool := !decide (b.toNat = 10)
theorem skM_rem : ∀ l : List UInt8, skM true l = run noL l + skM false (l.drop (run noL l))
  | [] => rfl
  | b :: l => by
    by_cases h : b.toNat = 10
    · have e : run noL (b :: l) = 0 := by unfold run; rw [List.takeWhile_cons_of_neg (by simp [noL, h])]; rfl
      rw [e, List.drop_zero, Nat.zero_add, skM_t, if_pos h, skM_f, if_pos (Or.inr (Or.inl h))]
    · have e : run noL (b :: l) = run noL l + 1 := by unfold run; rw [List.takeWhile_cons_of_pos (by simp [noL, h])]; rfl
      rw [skM_t, if_neg h, e, List.drop_succ_cons, skM_rem l]; omega
/-- how many bytes the line's end or the remark has that a text begins with -/
def lnB (l : List UInt8) : Nat := if bt l 0 = 10 then 1 else if bt l 0 = 13 ∧ bt l 1 = 10 then 2 else if bt l 0 = 35 then run noL l else 0
theorem lnB_le (l : List UInt8) : lnB l ≤ l.length := by
  unfold lnB
  split
  · next h => have := bt_lt (l := l) (k := 0) (by omega); omega
  · split
    · next h => have := bt_lt (l := l) (k := 1) (by omega); omega
    · split
      · unfold run; exact (List.takeWhile_sublist _).length_le
      · omega
theorem skM_line {l : List UInt8} (h : run bkB l = 0) : skM false l = lnB l + (if lnB l = 0 then 0 else skM false (l.drop (lnB l))) := by
  cases l with
  | nil => rfl
  | cons b l =>
    have hb := run_nob h b l rfl
    have hb2 : ¬ bkB b = true := by rw [hb]; decide
    unfold lnB
    rw [bt_cons, bt_succ, skM]
    by_cases h1 : b.toNat = 10
    · rw [if_pos (Or.inr (Or.inl h1)), if_pos h1]; simp
    · by_cases h2 : b.toNat = 13 ∧ bt l 0 = 10
      · rw [if_pos (Or.inr (Or.inr h2)), if_neg h1, if_pos h2]
        cases l with
        | nil => rw [bt_nil] at h2; omega
        | cons c l =>
          have hc : c.toNat = 10 := h2.2
          rw [skM, if_pos (Or.inr (Or.inl hc))]
          simp; omega
      · rw [if_neg (by rintro (k | k | k) <;> contradiction), if_neg h1, if_neg h2]
        by_cases h3 : b.toNat = 35
        · have e : run noL (b :: l) = run noL l + 1 := by unfold run; rw [List.takeWhile_cons_of_pos (by simp [noL, h1])]; rfl
          rw [if_pos h3, if_pos h3, e, if_neg (by omega), List.drop_succ_cons, skM_rem l]; omega
        · rw [if_neg h3, if_neg h3]; simp
/-- digits at a text's head, between any two of which a stroke may stand: how many bytes -/
def hdB (p : UInt8 → Bool) : List UInt8 → Bool
  | [] => false
  | c :: _ => p c
def cdN (p : UInt8 → Bool) : Bool → List UInt8 → Nat
  | _, [] => 0
  | q, b :: l => if (p b || (q && decide (b.toNat = 95) && hdB p l)) = true then 1 + cdN p true l else 0
theorem cdN_le (p : UInt8 → Bool) : ∀ (q : Bool) (l : List UInt8), cdN p q l ≤ l.length
  | _, [] => Nat.le_refl _
  | q, b :: l => by have h := cdN_le p true l; rw [cdN]; simp only [List.length_cons]; split <;> omega
/-- a text without strokes -/
def noS (b : UInt8) : Bool := !decide (b.toNat = 95)
def clnS (l : List UInt8) : List UInt8 := l.filter noS
/-- digits of a base -/
def dgB (base : Nat) (b : UInt8) : Bool := hxI b && decide (hxV b < base)
end Go.Proofs.YtlapefhnbbcmmaaGreatDoor
namespace Go.Proofs.YtlapefhnbbcmmaaGreatDoor

/-- a byte that is not a certain one -/
def neB (c b : UInt8) : Bool := !decide (b.toNat = c.toNat)
theorem neB_self (c : UInt8) : neB c c = false := by simp [neB]
theorem neB_eq {c b : UInt8} (h : neB c b = false) : b = c := by
  unfold neB at h
  exact UInt8.toNat_inj.1 (by simpa using h)
theorem neB_ne {c b : UInt8} (h : b ≠ c) : neB c b = true := by
  unfold neB
  simp [UInt8.toNat_inj, h]
theorem run_cpos {p : UInt8 → Bool} {b : UInt8} {l : List UInt8} (h : p b = true) : run p (b :: l) = run p l + 1 := by unfold run; rw [List.takeWhile_cons_of_pos h]; rfl
theorem run_cneg {p : UInt8 → Bool} {b : UInt8} {l : List UInt8} (h : p b = false) : run p (b :: l) = 0 := by unfold run; rw [List.takeWhile_cons_of_neg (by rw [h]; decide)]; rfl
theorem ixB_run (c : UInt8) : ∀ l : List UInt8, Lib.indexByte l c = if run (neB c) l < l.length then (run (neB c) l : Int) else -1
  | [] => rfl
  | b :: l => by
    have ih := ixB_run c l
    unfold Lib.indexByte
    by_cases h : b = c
    · subst h
      rw [run_cneg (neB_self b), if_pos (by simp)]; simp
    · have h2 : ¬ (b == c) = true := by simpa using h
      rw [run_cpos (neB_ne h)]
      simp only [List.length_cons]
      rw [if_neg h2, ih]
      by_cases k : run (neB c) l < l.length
      · rw [if_pos k, if_neg (by intro e; have := beq_iff_eq.1 e; omega), if_pos (by omega)]; omega
      · rw [if_neg k, if_pos (by decide), if_neg (by omega)]
/-- a text cut at each of a byte -/
def spl (c : UInt8) : List UInt8 → List (List UInt8)
  | [] => [[]]
  | b :: l => if neB c b = true then (match spl c l with
    | [] => [[b]]
    | h :: t => (b :: h) :: t) else [] :: spl c l
theorem spl_ne (c : UInt8) : ∀ l : List UInt8, ∃ h t, spl c l = h :: t
  | [] => ⟨[], [], rfl⟩
  | b :: l => by
    obtain ⟨h, t, e⟩ := spl_ne c l
    rw [spl, e]
    by_cases k : neB c b = true
    · rw [if_pos k]; exact ⟨_, _, rfl⟩
    · rw [if_neg k]; exact ⟨_, _, rfl⟩
theorem spl_run (c : UInt8) : ∀ l : List UInt8, spl c l = if run (neB c) l < l.length then l.take (run (neB c) l) :: spl c (l.drop (run (neB c) l + 1)) else [l]
  | [] => rfl
  | b :: l => by
    have ih := spl_run c l
    by_cases k : neB c b = true
    · rw [spl, if_pos k, run_cpos k]
      simp only [List.length_cons]
      by_cases h : run (neB c) l < l.length
      · rw [if_pos h] at ih
        rw [if_pos (by omega), ih]; rfl
      · rw [if_neg h] at ih
        rw [if_neg (by omega), ih]
    · have k2 : neB c b = false := by simpa using k
      rw [spl, if_neg k, run_cneg k2, if_pos (by simp)]; rfl
theorem run_full {p : UInt8 → Bool} : ∀ {l : List UInt8}, (∀ b ∈ l, p b = true) → run p l = l.length
  | [], _ => rfl
  | b :: l, h => by
    rw [run_cpos (h b (List.mem_cons_self ..)), run_full (fun x hx => h x (List.mem_cons_of_mem _ hx))]; rfl
theorem count_run (c : UInt8) : ∀ l : List UInt8, l.count c = if run (neB c) l < l.length then 1 + (l.drop (run (neB c) l + 1)).count c else 0
  | [] => rfl
  | b :: l => by
    have ih := count_run c l
    by_cases k : neB c b = true
    · have hbc : b ≠ c := by intro e; subst e; rw [neB_self] at k; cases k
      rw [List.count_cons_of_ne (fun e => hbc e), run_cpos k]
      simp only [List.length_cons]
      by_cases h : run (neB c) l < l.length
      · rw [if_pos h] at ih
        rw [if_pos (by omega), ih]; rfl
      · rw [if_neg h] at ih
        rw [if_neg (by omega), ih]
    · have k2 : neB c b = false := by simpa using k
      have e := neB_eq k2
      subst e
      rw [run_cneg k2, if_pos (by simp), List.count_cons_self]; simp; omega
theorem splitK_spl (c : UInt8) : ∀ (k : Nat) (l : List UInt8), l.count c = k → Lib.splitK [c] 0 k l = spl c l
  | 0, l, h => by
    rw [count_run] at h
    rw [spl_run]
    by_cases hr : run (neB c) l < l.length
    · rw [if_pos hr] at h; omega
    · rw [if_neg hr]; rfl
  | k + 1, l, h => by
    rw [count_run] at h
    by_cases hr : run (neB c) l < l.length
    · rw [if_pos hr] at h
      have e : Lib.index l [c] = (run (neB c) l : Int) := by rw [Lib.index_one, ixB_run, if_pos hr]
      rw [Lib.splitK, e, if_neg (by intro e2; have := beq_iff_eq.1 e2; omega), spl_run, if_pos hr]
      have ih := splitK_spl c k (l.drop (run (neB c) l + 1)) (by omega)
      rw [← ih]; simp
    · rw [if_neg hr] at h; omega
theorem split_spl (c : UInt8) (s : ByteArray) (sep : ByteArray) (hs : sep.data.toList = [c]) : (Lib.splitB sep 0 (Lib.countB s sep) s).map (·.data.toList) = spl c s.data.toList := by
  rw [Lib.splitB_data, hs]
  have e : Lib.countB s sep = s.data.toList.count c := by
    have : Lib.countB s sep = Lib.count s.data.toList sep.data.toList := rfl
    rw [this, hs, Lib.count_one]
  rw [e]; exact splitK_spl c _ _ rfl
theorem filter_run (c : UInt8) : ∀ l : List UInt8, l.filter (neB c) = if run (neB c) l < l.length then l.take (run (neB c) l) ++ (l.drop (run (neB c) l + 1)).filter (neB c) else l
  | [] => rfl
  | b :: l => by
    have ih := filter_run c l
    by_cases k : neB c b = true
    · rw [List.filter_cons_of_pos k, run_cpos k]
      simp only [List.length_cons]
      by_cases h : run (neB c) l < l.length
      · rw [if_pos h] at ih
        rw [if_pos (by omega), ih]; rfl
      · rw [if_neg h] at ih
        rw [if_neg (by omega), ih]
    · have k2 : neB c b = false := by simpa using k
      rw [List.filter_cons_of_neg k, run_cneg k2, if_pos (by simp)]; rfl
theorem replaceK_filter (c : UInt8) : ∀ (k : Nat) (l : List UInt8), l.count c = k → Lib.replaceK [c] [] k l = l.filter (neB c)
  | 0, l, h => by
    rw [count_run] at h
    rw [filter_run]
    by_cases hr : run (neB c) l < l.length
    · rw [if_pos hr] at h; omega
    · rw [if_neg hr]; rfl
  | k + 1, l, h => by
    rw [count_run] at h
    by_cases hr : run (neB c) l < l.length
    · rw [if_pos hr] at h
      have e : Lib.index l [c] = (run (neB c) l : Int) := by rw [Lib.index_one, ixB_run, if_pos hr]
      rw [Lib.replaceK_hit _ _ _ _ _ e, filter_run, if_pos hr]
      have ih := replaceK_filter c k (l.drop (run (neB c) l + 1)) (by omega)
      rw [← ih]; simp
    · rw [if_neg hr] at h; omega
theorem replaceAll_cln (l : List UInt8) : Lib.replaceAll l [95] [] = clnS l := by
  unfold Lib.replaceAll Lib.replace
  rw [if_neg (by decide)]
  unfold Lib.replaceNum
  rw [if_pos (Or.inl (by decide)), Lib.count_one, replaceK_filter 95 _ l rfl]; rfl
theorem cut_run (c : UInt8) (l : List UInt8) : Lib.cut l [c] = (l.take (run (neB c) l), l.drop (run (neB c) l + 1), decide (run (neB c) l < l.length)) := by
  unfold Lib.cut
  rw [Lib.index_one, ixB_run]
  by_cases h : run (neB c) l < l.length
  · rw [if_pos h, if_pos (by omega), decide_eq_true h]; simp
  · have hle : run (neB c) l ≤ l.length := by unfold run; exact (List.takeWhile_sublist _).length_le
    rw [if_neg h, if_neg (by decide), decide_eq_false h, List.take_of_length_le (by omega), List.drop_eq_nil_of_le (by omega)]

/-- two digits at a place, and what they say -/
def dgA (l : List UInt8) (k : Nat) : Bool := decide (48 ≤ bt l k ∧ bt l k ≤ 57)
def is2 (l : List UInt8) (k : Nat) : Bool := dgA l k && dgA l (k + 1)
def dg2 (l : List UInt8) (k : Nat) : Nat := (bt l k - 48) * 10 + (bt l (k + 1) - 48)
/-- a month's days -/
def dim (y m : Nat) : Nat := if m = 4 ∨ m = 6 ∨ m = 9 ∨ m = 11 then 30 else if m = 2 then (if (y % 4 = 0 ∧ y % 100 ≠ 0) ∨ y % 400 = 0 then 29 else 28) else 31
/-- a day that there is -/
def dayS (l : List UInt8) : Bool := decide (l.length = 10) && is2 l 0 && is2 l 2 && decide (bt l 4 = 45) && is2 l 5 && decide (bt l 7 = 45) && is2 l 8
def dayB (l : List UInt8) : Bool := dayS l && decide (1 ≤ dg2 l 5 ∧ dg2 l 5 ≤ 12 ∧ 1 ≤ dg2 l 8 ∧ dg2 l 8 ≤ dim (dg2 l 0 * 100 + dg2 l 2) (dg2 l 5))
/-- two digits below a bound -/
def twoB (l : List UInt8) (n : Nat) : Bool := decide (l.length = 2) && is2 l 0 && decide (dg2 l 0 < n)
/-- parts, each below its bound -/
def ckS : List (List UInt8) → List Nat → Bool
  | [], [] => true
  | p :: ps, n :: ns => twoB p n && ckS ps ns
  | _, _ => false
/-- a time -/
def ckH (l : List UInt8) : List UInt8 := l.take (run (neB 46) l)
def ckF (l : List UInt8) : List UInt8 := l.drop (run (neB 46) l + 1)
def ckD (l : List UInt8) : Bool := decide (run (neB 46) l < l.length)
def dgI (b : UInt8) : Bool := decide (48 ≤ b.toNat ∧ b.toNat ≤ 57)
def frB (l : List UInt8) : Bool := decide (l ≠ []) && decide (l.length ≤ 9) && decide (run dgI l = l.length)
def tmB (l : List UInt8) : Bool := ckS (spl 58 (ckH l)) [24, 60, 61] && (!ckD l || frB (ckF l))
/-- without the zone -/
def znB (l : List UInt8) : Bool := decide (bt l (l.length - 1) = 90 ∨ bt l (l.length - 1) = 122)
def zoB (l : List UInt8) : Bool := decide (6 ≤ l.length) && decide (bt l (l.length - 6) = 43 ∨ bt l (l.length - 6) = 45) && ckS (spl 58 (l.drop (l.length - 6 + 1))) [24, 60]
def znT (l : List UInt8) : List UInt8 := if l ≠ [] ∧ znB l = true then l.take (l.length - 1) else if zoB l = true then l.take (l.length - 6) else l
/-- a stamp -/
def stB (l : List UInt8) : Bool := dayB l || tmB l || (decide (10 < l.length) && dayB (l.take 10) && decide (bt l 10 = 84 ∨ bt l 10 = 116 ∨ bt l 10 = 32) && tmB (znT (l.drop 11)))
end Go.Proofs.YtlapefhnbbcmmaaGreatDoor
namespace Go.Proofs.YtlapefhnbbcmmaaGreatDoor
open Go.RowKit

theorem ret_int {k : IntKind} {a b : Int} (h : a = b) : Ending.returned (.int k a) = .returned (.int k b) := by rw [h]
theorem ret_bool {a b : Bool} (h : a = b) : Ending.returned (.bool a) = .returned (.bool b) := by rw [h]
theorem ret_two {k l : IntKind} {a b c d : Int} (h : a = b) (g : c = d) : Ending.returned (.tuple #[.int k a, .int l c]) = .returned (.tuple #[.int k b, .int l d]) := by rw [h, g]
theorem val_int {k : IntKind} {a b : Int} (h : a = b) : Value.int k a = Value.int k b := by rw [h]
theorem ret_ib {k : IntKind} {a b : Int} {c d : Bool} (h : a = b) (g : c = d) : Ending.returned (.tuple #[.int k a, .bool c]) = .returned (.tuple #[.int k b, .bool d]) := by rw [h, g]
theorem max_small {n : Nat} (h : n ≤ 1000) : n ≤ maxLen := by unfold maxLen; omega
theorem max_le {n : Nat} (h : n ≤ 1000000) : n ≤ maxLen := by unfold maxLen; omega
theorem ownsRow_below {w w' : World} {base : Nat} {e : TypeId} {size n : Nat} {v : Value} {xs : List Value} (h : w.ownsRow base e size v n xs) (hb : Below w.heap.size w w') : w'.ownsRow base e size v n xs :=
  h.kept (row := none) ⟨hb.os, hb.tape, hb.output, hb.size, fun k hk _ => hb.block k hk⟩ (by cases v.ownBlock <;> simp)
/-- the cells of a block just laid -/
theorem new_cells (w : World) (vs : List Value) (t : TypeId) : ∀ j u, vs[j]? = some u → (w.alloc (.cells vs.toArray t)).cell? (Addr.add ⟨w.heap.size, 0, none⟩ j) = some u := by
  intro j u h
  have := World.cell?_alloc_mark w vs.toArray t (0, 0) j
  have e : Addr.add ⟨w.heap.size, 0, none⟩ j = ⟨w.heap.size, j, none⟩ := by
    simp only [Addr.add, Nat.zero_add]; split
    · next h0 => rw [h0]
    · rfl
  rw [e, this]
  simpa using h
theorem cut_size (s : ByteArray) (p : Nat) (hs : s.size ≤ maxLen) : (s.extract p s.size).size ≤ maxLen := by
  have : (s.extract p s.size).size ≤ s.size := by simp
  exact Nat.le_trans this hs
end Go.Proofs.YtlapefhnbbcmmaaGreatDoor
