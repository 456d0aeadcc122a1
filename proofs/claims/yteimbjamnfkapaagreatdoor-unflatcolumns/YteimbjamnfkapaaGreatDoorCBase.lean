/- Plain mathematics of letters in bytes: no program is named here. -/
import Derived.WalkKit
import Derived.Laws.BitsAllLaws
import Derived.Laws.BytesArg
import Derived.Test.YteimbjamnfkapaaGreatDoorRows
import Derived.WalkSpells
import Derived.WalkLawsBesides
namespace Go.Proofs.YteimbjamnfkapaaGreatDoor
open Go.RowKit
theorem hid {p : Prop} (h : p) : Hid p := h
def goodN (r : Nat) : Bool := decide (r ≤ 1114111 ∧ (r < 55296 ∨ 57343 < r))
def goodB (r : Int) : Bool := decide (0 ≤ r ∧ r ≤ 1114111 ∧ (r < 55296 ∨ 57343 < r))
def wdN (r : Nat) : Nat := if r < 128 then 1 else if r < 2048 then 2 else if r < 65536 then 3 else 4
def begR (b : Nat) : Nat := if b < 128 then b else if b < 192 then 0 else if b < 224 then b - 192 else if b < 240 then b - 224 else if b < 248 then b - 240 else 0
def begN (b : Nat) : Nat := if b < 128 then 1 else if b < 192 then 0 else if b < 224 then 2 else if b < 240 then 3 else if b < 248 then 4 else 0
def cont (b : UInt8) : Bool := decide (128 ≤ b.toNat ∧ b.toNat < 192)
def fol (r : Nat) (l : List UInt8) : Nat := l.foldl (fun r b => 64 * r + (b.toNat - 128)) r
def tkOk (a : UInt8) (t : List UInt8) : Bool :=
 decide (begN a.toNat ≠ 0 ∧ begN a.toNat ≤ t.length + 1) && (t.take (begN a.toNat - 1)).all cont
  && (goodN (fol (begR a.toNat) (t.take (begN a.toNat - 1))) && decide (wdN (fol (begR a.toNat) (t.take (begN a.toNat - 1))) = begN a.toNat))
def tkR : List UInt8 → Nat
 | [] => 0
 | a :: t => if tkOk a t then fol (begR a.toNat) (t.take (begN a.toNat - 1)) else 0
def tkN : List UInt8 → Nat
 | [] => 0
 | a :: t => if tkOk a t then begN a.toNat else 0
theorem and_tests (n : Nat) (h : n < 256) : (bits .and .u8 (n : Int) 224 == 192) = decide (192 ≤ n ∧ n < 224) ∧ (bits .and .u8 (n : Int) 240 == 224) = decide (224 ≤ n ∧ n < 240)
  ∧ (bits .and .u8 (n : Int) 248 == 240) = decide (240 ≤ n ∧ n < 248) ∧ (bits .and .u8 (n : Int) 192 != 128) = !decide (128 ≤ n ∧ n < 192) := by
 have e1 : bits .and .u8 (n : Int) 224 = ((n &&& 224 : Nat) : Int) := u8_and_nat n 224 h (by decide)
 have e2 : bits .and .u8 (n : Int) 240 = ((n &&& 240 : Nat) : Int) := u8_and_nat n 240 h (by decide)
 have e3 : bits .and .u8 (n : Int) 248 = ((n &&& 248 : Nat) : Int) := u8_and_nat n 248 h (by decide)
 have e4 : bits .and .u8 (n : Int) 192 = ((n &&& 192 : Nat) : Int) := u8_and_nat n 192 h (by decide)
 rw [e1, e2, e3, e4]
 clear e1 e2 e3 e4
 revert n
 decide +kernel
theorem cont_test (b : UInt8) : (bits .and .u8 (b.toNat : Int) 192 != 128) = !cont b := (and_tests b.toNat b.toNat_lt).2.2.2
theorem and_parts (n : Nat) (h : n < 256) : bits .and .u8 (n : Int) 31 = (n : Int) % 32 ∧ bits .and .u8 (n : Int) 15 = (n : Int) % 16 ∧ bits .and .u8 (n : Int) 7 = (n : Int) % 8 ∧ bits .and .u8 (n : Int) 63 = (n : Int) % 64 :=
 ⟨u8_and31 _ (by omega) (by omega), u8_and15 _ (by omega) (by omega), u8_and7 _ (by omega) (by omega), u8_and63 _ (by omega) (by omega)⟩
theorem wraps_i64 (n : Int) (h0 : 0 ≤ n) (h1 : n < 2 ^ 63) : IntKind.i64.wrap n = n := by rw [IntKind.wrap_i64]; omega
theorem i64_or6 (x y : Int) (hx0 : 0 ≤ x) (hx : x % 64 = 0) (hx1 : x < 2147483648) (h0 : 0 ≤ y) (h1 : y < 64) : bits .or .i64 x y = x + y :=
 bits_join .i64 63 (by decide) wraps_i64 6 x y hx0 hx (by omega) h0 h1 (by omega)
theorem fol_snoc (r : Nat) (l : List UInt8) (b : UInt8) : fol r (l ++ [b]) = 64 * fol r l + (b.toNat - 128) := by simp [fol]
theorem fol_lt (l : List UInt8) : ∀ r, l.all cont = true → fol r l < (r + 1) * 64 ^ l.length := by
 induction l with
 | nil => intro r _; simp [fol]
 | cons b t ih =>
  intro r h
  simp only [List.all_cons, Bool.and_eq_true] at h
  obtain ⟨hb, ht⟩ := h
  have h1 := ih (64 * r + (b.toNat - 128)) ht
  have hb' : b.toNat < 192 := (of_decide_eq_true hb).2
  have h2 : (64 * r + (b.toNat - 128) + 1) * 64 ^ t.length ≤ (64 * (r + 1)) * 64 ^ t.length := Nat.mul_le_mul_right _ (by omega)
  have h3 : (64 * (r + 1)) * 64 ^ t.length = (r + 1) * 64 ^ (t.length + 1) := by rw [Nat.pow_succ, Nat.mul_comm 64 (r + 1), Nat.mul_assoc, Nat.mul_comm 64]
  simp only [List.length_cons]
  have h4 : fol r (b :: t) = fol (64 * r + (b.toNat - 128)) t := by simp only [fol, List.foldl_cons]
  omega
theorem begR_lt (b : Nat) : begR b < 128 := by unfold begR; (repeat' split) <;> omega
theorem begN_le (b : Nat) : begN b ≤ 4 := by unfold begN; (repeat' split) <;> omega
theorem fol_small (b : Nat) (l : List UInt8) (h : l.all cont = true) (hl : l.length ≤ 3) : fol (begR b) l < 33554432 := by
 have h1 := fol_lt l (begR b) h
 have h2 := begR_lt b
 have h3 : 64 ^ l.length ≤ 64 ^ 3 := Nat.pow_le_pow_right (by decide) hl
 have h4 : (begR b + 1) * 64 ^ l.length ≤ 128 * 64 ^ 3 := Nat.mul_le_mul (by omega) h3
 omega
theorem wdI_wdN (r : Nat) : (if (r : Int) < 128 then (1 : Int) else if (r : Int) < 2048 then 2 else if (r : Int) < 65536 then 3 else 4) = (wdN r : Int) := by
 unfold wdN; (repeat' split) <;> omega
theorem goodB_goodN (r : Nat) : goodB (r : Int) = goodN r := by
 unfold goodB goodN; rw [Bool.eq_iff_iff]; simp; omega
def rest (s : ByteArray) (k : Nat) : List UInt8 := (s.data.toList.drop 1).take (k - 1)
theorem rest_snoc (s : ByteArray) (k : Nat) (h1 : 1 ≤ k) (h : k < s.size) : rest s (k + 1) = rest s k ++ [s[k]] := by
 unfold rest
 have e : k + 1 - 1 = (k - 1) + 1 := by omega
 have hl : k - 1 < (s.data.toList.drop 1).length := by simp; have : s.size = s.data.size := rfl; omega
 rw [e, List.take_succ_eq_append_getElem hl]
 congr 1
 simp only [List.getElem_drop]
 have e2 : 1 + (k - 1) = k := by omega
 simp only [e2]
 rfl
theorem rest_len (s : ByteArray) (k : Nat) : (rest s k).length ≤ k - 1 := by unfold rest; exact List.length_take_le _ _
theorem list_of (s : ByteArray) (h0 : 0 < s.size) : s.data.toList = s[0] :: s.data.toList.drop 1 := by
 have hl : 0 < s.data.toList.length := by simpa using h0
 have := List.drop_eq_getElem_cons hl
 rw [List.drop_zero] at this
 exact this
theorem tkOk_of (s : ByteArray) (h0 : 0 < s.size) : tkOk s[0] (s.data.toList.drop 1) = (decide (begN s[0].toNat ≠ 0 ∧ begN s[0].toNat ≤ s.size) && (rest s (begN s[0].toNat)).all cont
  && (goodN (fol (begR s[0].toNat) (rest s (begN s[0].toNat))) && decide (wdN (fol (begR s[0].toNat) (rest s (begN s[0].toNat))) = begN s[0].toNat))) := by
 unfold tkOk rest
 have e : (s.data.toList.drop 1).length + 1 = s.size := by simp; have : s.size = s.data.size := rfl; omega
 rw [e]
theorem tkR_of (s : ByteArray) (h0 : 0 < s.size) : tkR s.data.toList = if tkOk s[0] (s.data.toList.drop 1) then fol (begR s[0].toNat) (rest s (begN s[0].toNat)) else 0 := by
 have h := congrArg tkR (list_of s h0); rw [h]; rfl
theorem tkN_of (s : ByteArray) (h0 : 0 < s.size) : tkN s.data.toList = if tkOk s[0] (s.data.toList.drop 1) then begN s[0].toNat else 0 := by
 have h := congrArg tkN (list_of s h0); rw [h]; rfl
theorem tk_no (s : ByteArray) (h0 : 0 < s.size) (h : tkOk s[0] (s.data.toList.drop 1) = false) : tkR s.data.toList = 0 ∧ tkN s.data.toList = 0 := by
 rw [tkR_of s h0, tkN_of s h0, h]; exact ⟨rfl, rfl⟩
theorem tk_yes (s : ByteArray) (h0 : 0 < s.size) (h : tkOk s[0] (s.data.toList.drop 1) = true) : tkR s.data.toList = fol (begR s[0].toNat) (rest s (begN s[0].toNat)) ∧ tkN s.data.toList = begN s[0].toNat := by
 rw [tkR_of s h0, tkN_of s h0, h]; exact ⟨rfl, rfl⟩
theorem all_no (s : ByteArray) (k n : Nat) (h1 : 1 ≤ k) (hk : k < n) (h : k < s.size) (hc : cont s[k] = false) : (rest s n).all cont = false := by
 have h2 : s[k] ∈ rest s n := by
  have e := rest_snoc s k h1 h
  have h3 : rest s (k + 1) = (rest s n).take k := by
   unfold rest; rw [List.take_take]; congr 1; omega
  have h4 : s[k] ∈ rest s (k + 1) := by rw [e]; simp
  rw [h3] at h4
  exact List.mem_of_mem_take h4
 rw [List.all_eq_false]
 exact ⟨_, h2, by simp [hc]⟩
theorem fol_step (s : ByteArray) (b k : Nat) (h1 : 1 ≤ k) (h : k < s.size) (hc : cont s[k] = true) (hf : fol (begR b) (rest s k) < 33554432) :
  bits .or .i64 ((fol (begR b) (rest s k) : Int) * 64) ((s[k].toNat : Int) % 64) = (fol (begR b) (rest s (k + 1)) : Int) := by
 rw [i64_or6 _ _ (by omega) (by omega) (by omega) (by omega) (by omega), rest_snoc s k h1 h, fol_snoc]
 have h2 := of_decide_eq_true hc
 omega
theorem all_step (s : ByteArray) (k : Nat) (h1 : 1 ≤ k) (h : k < s.size) (hc : cont s[k] = true) (ha : (rest s k).all cont = true) : (rest s (k + 1)).all cont = true := by
 rw [rest_snoc s k h1 h, List.all_append, ha]; simp [hc]
theorem tkN_le (l : List UInt8) : tkN l ≤ l.length := by
 cases l with
 | nil => simp [tkN]
 | cons a t =>
  simp only [tkN]
  split
  ·next h =>
   unfold tkOk at h
   simp only [Bool.and_eq_true, decide_eq_true_eq] at h
   simpa using h.1.1.2
  ·simp
def stp (l : List UInt8) : Nat := max (tkN l) 1
def pos (l : List UInt8) : Nat → Nat
 | 0 => 0
 | k + 1 => pos l k + stp (l.drop (pos l k))
theorem stp_le (l : List UInt8) (h : 0 < l.length) : stp l ≤ l.length := by have := tkN_le l; unfold stp; omega
theorem stp_pos (l : List UInt8) : 1 ≤ stp l := by unfold stp; omega
theorem pos_next (l : List UInt8) (k : Nat) (h : pos l k < l.length) : pos l (k + 1) ≤ l.length := by
 have := stp_le (l.drop (pos l k)) (by simp; omega)
 simp only [List.length_drop] at this
 simp only [pos]; omega
theorem pos_lt (l : List UInt8) (k : Nat) : pos l k < pos l (k + 1) := by have := stp_pos (l.drop (pos l k)); simp only [pos]; omega
theorem pos_ge (l : List UInt8) (k : Nat) : k ≤ pos l k := by
 induction k with
 | zero => exact Nat.zero_le _
 | succ k ih => have := pos_lt l k; omega
theorem size_list (s : ByteArray) : s.data.toList.length = s.size := by simp
theorem drop_list (s : ByteArray) (k : Nat) : (s.extract k s.size).data.toList = s.data.toList.drop k := by
 simp; rw [List.take_of_length_le]; simp
def least (P : Nat → Bool) : Nat → Nat → Nat
 | 0, k => k
 | f + 1, k => if P k then least P f (k + 1) else k
theorem least_eq (P : Nat → Bool) : ∀ (f k m : Nat), k ≤ m → m ≤ k + f → P m = false → (∀ i, k ≤ i → i < m → P i = true) → least P f k = m := by
 intro f
 induction f with
 | zero => intro k m h1 h2 _ _; simp only [least]; omega
 | succ f ih =>
  intro k m h1 h2 h3 h4
  simp only [least]
  by_cases hk : k = m
  ·subst hk; rw [h3]; rfl
  ·rw [h4 k (Nat.le_refl _) (by omega)]
   exact ih (k + 1) m (by omega) (by omega) h3 (fun i a b => h4 i (by omega) b)
def cnt (l : List UInt8) : Nat := least (fun k => decide (pos l k < l.length)) l.length 0
def vgo (l : List UInt8) (k : Nat) : Bool := decide (pos l k < l.length) && decide (tkN (l.drop (pos l k)) ≠ 0)
def vlk (l : List UInt8) : Nat := least (vgo l) l.length 0
theorem vlk_eq (l : List UInt8) (k : Nat) (h : vgo l k = false) (hj : ∀ j < k, vgo l j = true) (hk : k ≤ l.length) : k = vlk l :=
 (least_eq _ l.length 0 k (Nat.zero_le _) (by omega) h (fun i _ hi => hj i hi)).symm
theorem pos_succ' (l : List UInt8) (k : Nat) (h : tkN (l.drop (pos l k)) ≠ 0) : (pos l k : Int) + (tkN (l.drop (pos l k)) : Int) = ((pos l (k + 1) : Nat) : Int) := by simp only [pos, stp]; omega
def atB (l : List UInt8) (n : Int) : Bool := decide (0 ≤ n ∧ n ≤ cnt l)
def atP (l : List UInt8) (n : Int) : Int := if 0 ≤ n ∧ n ≤ cnt l then (pos l n.toNat : Int) else 0
def wdI (r : Int) : Int := if r < 128 then 1 else if r < 2048 then 2 else if r < 65536 then 3 else 4
def encI (r : Int) : List Int :=
 if r < 128 then [r] else if r < 2048 then [192 + r / 64, 128 + r % 64]
 else if r < 65536 then [224 + r / 4096, 128 + r / 64 % 64, 128 + r % 64] else [240 + r / 262144, 128 + r / 4096 % 64, 128 + r / 64 % 64, 128 + r % 64]
def enc (r : Int) : List Int := if goodB r then encI r else []
theorem getD_at (s : ByteArray) (k : Nat) (h : k < s.size) : s.data.toList.getD k 0 = s[k] := by
 have h' : k < s.data.toList.length := by simpa using h
 rw [List.getD, List.getElem?_eq_getElem h']; rfl
theorem byte_is (b : UInt8) (n : Nat) (h : b.toNat = n) : ((b.toNat : Int) == (n : Int)) = true := by rw [h]; simp
theorem byte_not (b : UInt8) (n : Nat) (h : ¬ b.toNat = n) : ((b.toNat : Int) == (n : Int)) = false := by
 rw [beq_eq_false_iff_ne]; omega
theorem byte_nis (b : UInt8) (n : Nat) (h : b.toNat = n) : ((b.toNat : Int) != (n : Int)) = false := by rw [bne, byte_is b n h]; rfl
theorem byte_nnot (b : UInt8) (n : Nat) (h : ¬ b.toNat = n) : ((b.toNat : Int) != (n : Int)) = true := by rw [bne, byte_not b n h]; rfl
def mkS (l : List UInt8) : ByteArray := ⟨l.toArray⟩
theorem mkS_list (l : List UInt8) : (mkS l).data.toList = l := by simp [mkS]
theorem mkS_of (x : ByteArray) (l : List UInt8) (h : x.data.toList = l) : x = mkS l := by
 rw [← h]; simp [mkS]
theorem mkS_size (l : List UInt8) : (mkS l).size = l.length := by rw [← size_list, mkS_list]
theorem ret_int {k : IntKind} {a b : Int} (h : a = b) : Ending.returned (.int k a) = .returned (.int k b) := by rw [h]
theorem ret_bool {a b : Bool} (h : a = b) : Ending.returned (.bool a) = .returned (.bool b) := by rw [h]
theorem ret_two {k l : IntKind} {a b c d : Int} (h : a = b) (g : c = d) : Ending.returned (.tuple #[.int k a, .int l c]) = .returned (.tuple #[.int k b, .int l d]) := by rw [h, g]
theorem val_int {k : IntKind} {a b : Int} (h : a = b) : Value.int k a = Value.int k b := by rw [h]
theorem ret_ib {k : IntKind} {a b : Int} {c d : Bool} (h : a = b) (g : c = d) : Ending.returned (.tuple #[.int k a, .bool c]) = .returned (.tuple #[.int k b, .bool d]) := by rw [h, g]
theorem max_small {n : Nat} (h : n ≤ 1000) : n ≤ maxLen := by unfold maxLen; omega
theorem max_le {n : Nat} (h : n ≤ 1000000) : n ≤ maxLen := by unfold maxLen; omega
theorem ownsRow_below {w w' : World} {base : Nat} {e : TypeId} {size n : Nat} {v : Value} {xs : List Value} (h : w.ownsRow base e size v n xs) (hb : Below w.heap.size w w') : w'.ownsRow base e size v n xs :=
 h.kept (row := none) ⟨hb.os, hb.tape, hb.output, hb.size, fun k hk _ => hb.block k hk⟩ (by cases v.ownBlock <;> simp)
theorem new_cells (w : World) (vs : List Value) (t : TypeId) : ∀ j u, vs[j]? = some u → (w.alloc (.cells vs.toArray t)).cell? (Addr.add ⟨w.heap.size, 0, none⟩ j) = some u := by
 intro j u h
 have := World.cell?_alloc_mark w vs.toArray t (0, 0) j
 have e : Addr.add ⟨w.heap.size, 0, none⟩ j = ⟨w.heap.size, j, none⟩ := by
  simp only [Addr.add, Nat.zero_add]; split
  ·next h0 => rw [h0]
  ·rfl
 rw [e, this]
 simpa using h
theorem cut_size (s : ByteArray) (p : Nat) (hs : s.size ≤ maxLen) : (s.extract p s.size).size ≤ maxLen := by
 have : (s.extract p s.size).size ≤ s.size := by simp
 exact Nat.le_trans this hs
end Go.Proofs.YteimbjamnfkapaaGreatDoor
