/- Plain mathematics of letters in bytes: no program is named here. -/
import Derived.WalkKit
import Derived.Laws.BitsAllLaws
import Derived.Laws.BytesArg
import Derived.Test.YteimbjamnfkapaaGreatDoorRows
import Derived.WalkSpells
import Derived.WalkLawsBesides
import Derived.ChangeArms
import Derived.DataElems
import Derived.Laws.MakeOwn
import Derived.Lib.Strings
namespace Go.Proofs.YteimbjamnfkapaaGreatDoor
open Go.RowKit
theorem hid {p : Prop} (h : p) : Hid p := h
def goodN (r : Nat) : Bool := decide (r ≤ 1114111 ∧ (r < 55296 ∨ 57343 < r))
def goodB (r : Int) : Bool := decide (0 ≤ r ∧ r ≤ 1114111 ∧ (r < 55296 ∨ 57343 < r))
def wdN (r : Nat) : Nat := if r < 128 then 1 else if r < 2048 then 2 else if r < 65536 then 3 else 4
def begR (b : Nat) : Nat := if b < 128 then b else if b < 192 then 0 else if b < 224 then b - 192 else if b < 240 then b - 224 else if b < 248 then b - 240 else 0
def begN (b : Nat) : Nat := if b < 128 then 1 else if b < 192 then 0 else if b < 224 then 2 else if b < 240 then 3 else if b < 248 then 4 else 0
def cont (b : UInt8) : Bool := decide (128 ≤ b.toNat ∧ b.toNat < 192)
def fol (r : Nat) (l : List UInt8) : Nat := l.foldl (fun r b => 64 * r + (b.toNat - 128)) r
def tkOk (a : UInt8) (t : List UInt8) : Bool :=
 decide (begN a.toNat ≠ 0 ∧ begN a.toNat ≤ t.length + 1) && (t.take (begN a.toNat - 1)).all cont
  && (goodN (fol (begR a.toNat) (t.take (begN a.toNat - 1))) && decide (wdN (fol (begR a.toNat) (t.take (begN a.toNat - 1))) = begN a.toNat))
def tkR : List UInt8 → Nat
 | [] => 0
 | a :: t => if tkOk a t then fol (begR a.toNat) (t.take (begN a.toNat - 1)) else 0
def tkN : List UInt8 → Nat
 | [] => 0
 | a :: t => if tkOk a t then begN a.toNat else 0
theorem and_tests (n : Nat) (h : n < 256) : (bits .and .u8 (n : Int) 224 == 192) = decide (192 ≤ n ∧ n < 224) ∧ (bits .and .u8 (n : Int) 240 == 224) = decide (224 ≤ n ∧ n < 240)
  ∧ (bits .and .u8 (n : Int) 248 == 240) = decide (240 ≤ n ∧ n < 248) ∧ (bits .and .u8 (n : Int) 192 != 128) = !decide (128 ≤ n ∧ n < 192) := by
 have e1 : bits .and .u8 (n : Int) 224 = ((n &&& 224 : Nat) : Int) := u8_and_nat n 224 h (by decide)
 have e2 : bits .and .u8 (n : Int) 240 = ((n &&& 240 : Nat) : Int) := u8_and_nat n 240 h (by decide)
 have e3 : bits .and .u8 (n : Int) 248 = ((n &&& 248 : Nat) : Int) := u8_and_nat n 248 h (by decide)
 have e4 : bits .and .u8 (n : Int) 192 = ((n &&& 192 : Nat) : Int) := u8_and_nat n 192 h (by decide)
 rw [e1,e2,e3,e4]
 clear e1 e2 e3 e4
 revert n
 decide +kernel
theorem cont_test (b : UInt8) : (bits .and .u8 (b.toNat : Int) 192 != 128) = !cont b := (and_tests b.toNat b.toNat_lt).2.2.2
theorem and_parts (n : Nat) (h : n < 256) : bits .and .u8 (n : Int) 31 = (n : Int) % 32 ∧ bits .and .u8 (n : Int) 15 = (n : Int) % 16 ∧ bits .and .u8 (n : Int) 7 = (n : Int) % 8 ∧ bits .and .u8 (n : Int) 63 = (n : Int) % 64 :=
 ⟨u8_and31 _ (by omega) (by omega),u8_and15 _ (by omega) (by omega),u8_and7 _ (by omega) (by omega),u8_and63 _ (by omega) (by omega)⟩
theorem wraps_i64 (n : Int) (h0 : 0 ≤ n) (h1 : n < 2 ^ 63) : IntKind.i64.wrap n = n := by rw [IntKind.wrap_i64]; omega
theorem i64_or6 (x y : Int) (hx0 : 0 ≤ x) (hx : x % 64 = 0) (hx1 : x < 2147483648) (h0 : 0 ≤ y) (h1 : y < 64) : bits .or .i64 x y = x + y :=
 bits_join .i64 63 (by decide) wraps_i64 6 x y hx0 hx (by omega) h0 h1 (by omega)
theorem fol_snoc (r : Nat) (l : List UInt8) (b : UInt8) : fol r (l ++ [b]) = 64 * fol r l + (b.toNat - 128) := by simp [fol]
theorem fol_lt (l : List UInt8) : ∀ r,l.all cont = true → fol r l < (r + 1) * 64 ^ l.length := by
 induction l with
 | nil => intro r _; simp [fol]
 | cons b t ih =>
  intro r h
  simp only [List.all_cons,Bool.and_eq_true] at h
  obtain ⟨hb,ht⟩ := h
  have h1 := ih (64 * r + (b.toNat - 128)) ht
  have hb' : b.toNat < 192 := (of_decide_eq_true hb).2
  have h2 : (64 * r + (b.toNat - 128) + 1) * 64 ^ t.length ≤ (64 * (r + 1)) * 64 ^ t.length := Nat.mul_le_mul_right _ (by omega)
  have h3 : (64 * (r + 1)) * 64 ^ t.length = (r + 1) * 64 ^ (t.length + 1) := by rw [Nat.pow_succ,Nat.mul_comm 64 (r + 1),Nat.mul_assoc,Nat.mul_comm 64]
  simp only [List.length_cons]
  have h4 : fol r (b :: t) = fol (64 * r + (b.toNat - 128)) t := by simp only [fol,List.foldl_cons]
  omega
theorem begR_lt (b : Nat) : begR b < 128 := by unfold begR; (repeat' split) <;> omega
theorem begN_le (b : Nat) : begN b ≤ 4 := by unfold begN; (repeat' split) <;> omega
theorem fol_small (b : Nat) (l : List UInt8) (h : l.all cont = true) (hl : l.length ≤ 3) : fol (begR b) l < 33554432 := by
 have h1 := fol_lt l (begR b) h
 have h2 := begR_lt b
 have h3 : 64 ^ l.length ≤ 64 ^ 3 := Nat.pow_le_pow_right (by decide) hl
 have h4 : (begR b + 1) * 64 ^ l.length ≤ 128 * 64 ^ 3 := Nat.mul_le_mul (by omega) h3
 omega
theorem wdI_wdN (r : Nat) : (if (r : Int) < 128 then (1 : Int) else if (r : Int) < 2048 then 2 else if (r : Int) < 65536 then 3 else 4) = (wdN r : Int) := by
 unfold wdN; (repeat' split) <;> omega
theorem goodB_goodN (r : Nat) : goodB (r : Int) = goodN r := by
 unfold goodB goodN; rw [Bool.eq_iff_iff]; simp; omega
def rest (s : ByteArray) (k : Nat) : List UInt8 := (s.data.toList.drop 1).take (k - 1)
theorem rest_snoc (s : ByteArray) (k : Nat) (h1 : 1 ≤ k) (h : k < s.size) : rest s (k + 1) = rest s k ++ [s[k]] := by
 unfold rest
 have e : k + 1 - 1 = (k - 1) + 1 := by omega
 have hl : k - 1 < (s.data.toList.drop 1).length := by simp; have : s.size = s.data.size := rfl; omega
 rw [e,List.take_succ_eq_append_getElem hl]
 congr 1
 simp only [List.getElem_drop]
 have e2 : 1 + (k - 1) = k := by omega
 simp only [e2]
 rfl
theorem rest_len (s : ByteArray) (k : Nat) : (rest s k).length ≤ k - 1 := by unfold rest; exact List.length_take_le _ _
theorem list_of (s : ByteArray) (h0 : 0 < s.size) : s.data.toList = s[0] :: s.data.toList.drop 1 := by
 have hl : 0 < s.data.toList.length := by simpa using h0
 have := List.drop_eq_getElem_cons hl
 rw [List.drop_zero] at this
 exact this
theorem tkOk_of (s : ByteArray) (h0 : 0 < s.size) : tkOk s[0] (s.data.toList.drop 1) = (decide (begN s[0].toNat ≠ 0 ∧ begN s[0].toNat ≤ s.size) && (rest s (begN s[0].toNat)).all cont
  && (goodN (fol (begR s[0].toNat) (rest s (begN s[0].toNat))) && decide (wdN (fol (begR s[0].toNat) (rest s (begN s[0].toNat))) = begN s[0].toNat))) := by
 unfold tkOk rest
 have e : (s.data.toList.drop 1).length + 1 = s.size := by simp; have : s.size = s.data.size := rfl; omega
 rw [e]
theorem tkR_of (s : ByteArray) (h0 : 0 < s.size) : tkR s.data.toList = if tkOk s[0] (s.data.toList.drop 1) then fol (begR s[0].toNat) (rest s (begN s[0].toNat)) else 0 := by
 have h := congrArg tkR (list_of s h0); rw [h]; rfl
theorem tkN_of (s : ByteArray) (h0 : 0 < s.size) : tkN s.data.toList = if tkOk s[0] (s.data.toList.drop 1) then begN s[0].toNat else 0 := by
 have h := congrArg tkN (list_of s h0); rw [h]; rfl
theorem tk_no (s : ByteArray) (h0 : 0 < s.size) (h : tkOk s[0] (s.data.toList.drop 1) = false) : tkR s.data.toList = 0 ∧ tkN s.data.toList = 0 := by
 rw [tkR_of s h0,tkN_of s h0,h]; exact ⟨rfl,rfl⟩
theorem tk_yes (s : ByteArray) (h0 : 0 < s.size) (h : tkOk s[0] (s.data.toList.drop 1) = true) : tkR s.data.toList = fol (begR s[0].toNat) (rest s (begN s[0].toNat)) ∧ tkN s.data.toList = begN s[0].toNat := by
 rw [tkR_of s h0,tkN_of s h0,h]; exact ⟨rfl,rfl⟩
theorem all_no (s : ByteArray) (k n : Nat) (h1 : 1 ≤ k) (hk : k < n) (h : k < s.size) (hc : cont s[k] = false) : (rest s n).all cont = false := by
 have h2 : s[k] ∈ rest s n := by
  have e := rest_snoc s k h1 h
  have h3 : rest s (k + 1) = (rest s n).take k := by
   unfold rest; rw [List.take_take]; congr 1; omega
  have h4 : s[k] ∈ rest s (k + 1) := by rw [e]; simp
  rw [h3] at h4
  exact List.mem_of_mem_take h4
 rw [List.all_eq_false]
 exact ⟨_,h2,by simp [hc]⟩
theorem fol_step (s : ByteArray) (b k : Nat) (h1 : 1 ≤ k) (h : k < s.size) (hc : cont s[k] = true) (hf : fol (begR b) (rest s k) < 33554432) :
  bits .or .i64 ((fol (begR b) (rest s k) : Int) * 64) ((s[k].toNat : Int) % 64) = (fol (begR b) (rest s (k + 1)) : Int) := by
 rw [i64_or6 _ _ (by omega) (by omega) (by omega) (by omega) (by omega),rest_snoc s k h1 h,fol_snoc]
 have h2 := of_decide_eq_true hc
 omega
theorem all_step (s : ByteArray) (k : Nat) (h1 : 1 ≤ k) (h : k < s.size) (hc : cont s[k] = true) (ha : (rest s k).all cont = true) : (rest s (k + 1)).all cont = true := by
 rw [rest_snoc s k h1 h,List.all_append,ha]; simp [hc]
theorem tkN_le (l : List UInt8) : tkN l ≤ l.length := by
 cases l with
 | nil => simp [tkN]
 | cons a t =>
  simp only [tkN]
  split
  ·next h =>
   unfold tkOk at h
   simp only [Bool.and_eq_true,decide_eq_true_eq] at h
   simpa using h.1.1.2
  ·simp
def stp (l : List UInt8) : Nat := max (tkN l) 1
def pos (l : List UInt8) : Nat → Nat
 | 0 => 0
 | k + 1 => pos l k + stp (l.drop (pos l k))
theorem stp_le (l : List UInt8) (h : 0 < l.length) : stp l ≤ l.length := by have := tkN_le l; unfold stp; omega
theorem stp_pos (l : List UInt8) : 1 ≤ stp l := by unfold stp; omega
theorem pos_next (l : List UInt8) (k : Nat) (h : pos l k < l.length) : pos l (k + 1) ≤ l.length := by
 have := stp_le (l.drop (pos l k)) (by simp; omega)
 simp only [List.length_drop] at this
 simp only [pos]; omega
theorem pos_lt (l : List UInt8) (k : Nat) : pos l k < pos l (k + 1) := by have := stp_pos (l.drop (pos l k)); simp only [pos]; omega
theorem pos_ge (l : List UInt8) (k : Nat) : k ≤ pos l k := by
 induction k with
 | zero => exact Nat.zero_le _
 | succ k ih => have := pos_lt l k; omega
theorem size_list (s : ByteArray) : s.data.toList.length = s.size := by simp
theorem drop_list (s : ByteArray) (k : Nat) : (s.extract k s.size).data.toList = s.data.toList.drop k := by
 simp; rw [List.take_of_length_le]; simp
def least (P : Nat → Bool) : Nat → Nat → Nat
 | 0,k => k
 | f + 1,k => if P k then least P f (k + 1) else k
theorem least_eq (P : Nat → Bool) : ∀ (f k m : Nat),k ≤ m → m ≤ k + f → P m = false → (∀ i,k ≤ i → i < m → P i = true) → least P f k = m := by
 intro f
 induction f with
 | zero => intro k m h1 h2 _ _; simp only [least]; omega
 | succ f ih =>
  intro k m h1 h2 h3 h4
  simp only [least]
  by_cases hk : k = m
  ·subst hk; rw [h3]; rfl
  ·rw [h4 k (Nat.le_refl _) (by omega)]
   exact ih (k + 1) m (by omega) (by omega) h3 (fun i a b => h4 i (by omega) b)
def cnt (l : List UInt8) : Nat := least (fun k => decide (pos l k < l.length)) l.length 0
def vgo (l : List UInt8) (k : Nat) : Bool := decide (pos l k < l.length) && decide (tkN (l.drop (pos l k)) ≠ 0)
def vlk (l : List UInt8) : Nat := least (vgo l) l.length 0
theorem vlk_eq (l : List UInt8) (k : Nat) (h : vgo l k = false) (hj : ∀ j < k,vgo l j = true) (hk : k ≤ l.length) : k = vlk l :=
 (least_eq _ l.length 0 k (Nat.zero_le _) (by omega) h (fun i _ hi => hj i hi)).symm
theorem pos_succ' (l : List UInt8) (k : Nat) (h : tkN (l.drop (pos l k)) ≠ 0) : (pos l k : Int) + (tkN (l.drop (pos l k)) : Int) = ((pos l (k + 1) : Nat) : Int) := by simp only [pos,stp]; omega
def atB (l : List UInt8) (n : Int) : Bool := decide (0 ≤ n ∧ n ≤ cnt l)
def atP (l : List UInt8) (n : Int) : Int := if 0 ≤ n ∧ n ≤ cnt l then (pos l n.toNat : Int) else 0
def wdI (r : Int) : Int := if r < 128 then 1 else if r < 2048 then 2 else if r < 65536 then 3 else 4
def encI (r : Int) : List Int :=
 if r < 128 then [r] else if r < 2048 then [192 + r / 64,128 + r % 64]
 else if r < 65536 then [224 + r / 4096,128 + r / 64 % 64,128 + r % 64] else [240 + r / 262144,128 + r / 4096 % 64,128 + r / 64 % 64,128 + r % 64]
def enc (r : Int) : List Int := if goodB r then encI r else []
theorem getD_at (s : ByteArray) (k : Nat) (h : k < s.size) : s.data.toList.getD k 0 = s[k] := by
 have h' : k < s.data.toList.length := by simpa using h
 rw [List.getD,List.getElem?_eq_getElem h']; rfl
theorem byte_is (b : UInt8) (n : Nat) (h : b.toNat = n) : ((b.toNat : Int) == (n : Int)) = true := by rw [h]; simp
theorem byte_not (b : UInt8) (n : Nat) (h : ¬ b.toNat = n) : ((b.toNat : Int) == (n : Int)) = false := by
 rw [beq_eq_false_iff_ne]; omega
theorem byte_nis (b : UInt8) (n : Nat) (h : b.toNat = n) : ((b.toNat : Int) != (n : Int)) = false := by rw [bne,byte_is b n h]; rfl
theorem byte_nnot (b : UInt8) (n : Nat) (h : ¬ b.toNat = n) : ((b.toNat : Int) != (n : Int)) = true := by rw [bne,byte_not b n h]; rfl
def mkS (l : List UInt8) : ByteArray := ⟨l.toArray⟩
theorem mkS_list (l : List UInt8) : (mkS l).data.toList = l := by simp [mkS]
theorem mkS_of (x : ByteArray) (l : List UInt8) (h : x.data.toList = l) : x = mkS l := by
 rw [← h]; simp [mkS]
theorem mkS_size (l : List UInt8) : (mkS l).size = l.length := by rw [← size_list,mkS_list]
end Go.Proofs.YteimbjamnfkapaaGreatDoor
namespace Go.Proofs.YteimbjamnfkapaaGreatDoor
open Go.RowKit
theorem ret_int {k : IntKind} {a b : Int} (h : a = b) : Ending.returned (.int k a) = .returned (.int k b) := by rw [h]
theorem ret_bool {a b : Bool} (h : a = b) : Ending.returned (.bool a) = .returned (.bool b) := by rw [h]
theorem ret_two {k l : IntKind} {a b c d : Int} (h : a = b) (g : c = d) : Ending.returned (.tuple #[.int k a,.int l c]) = .returned (.tuple #[.int k b,.int l d]) := by rw [h,g]
theorem val_int {k : IntKind} {a b : Int} (h : a = b) : Value.int k a = Value.int k b := by rw [h]
theorem ret_ib {k : IntKind} {a b : Int} {c d : Bool} (h : a = b) (g : c = d) : Ending.returned (.tuple #[.int k a,.bool c]) = .returned (.tuple #[.int k b,.bool d]) := by rw [h,g]
theorem max_small {n : Nat} (h : n ≤ 1000) : n ≤ maxLen := by unfold maxLen; omega
theorem max_le {n : Nat} (h : n ≤ 1000000) : n ≤ maxLen := by unfold maxLen; omega
theorem ownsRow_below {w w' : World} {base : Nat} {e : TypeId} {size n : Nat} {v : Value} {xs : List Value} (h : w.ownsRow base e size v n xs) (hb : Below w.heap.size w w') : w'.ownsRow base e size v n xs :=
 h.kept (row := none) ⟨hb.os,hb.tape,hb.output,hb.size,fun k hk _ => hb.block k hk⟩ (by cases v.ownBlock <;> simp)
theorem new_cells (w : World) (vs : List Value) (t : TypeId) : ∀ j u,vs[j]? = some u → (w.alloc (.cells vs.toArray t)).cell? (Addr.add ⟨w.heap.size,0,none⟩ j) = some u := by
 intro j u h
 have := World.cell?_alloc_mark w vs.toArray t (0,0) j
 have e : Addr.add ⟨w.heap.size,0,none⟩ j = ⟨w.heap.size,j,none⟩ := by
  simp only [Addr.add,Nat.zero_add]; split
  ·next h0 => rw [h0]
  ·rfl
 rw [e,this]
 simpa using h
theorem cut_size (s : ByteArray) (p : Nat) (hs : s.size ≤ maxLen) : (s.extract p s.size).size ≤ maxLen := by
 have : (s.extract p s.size).size ≤ s.size := by simp
 exact Nat.le_trans this hs
end Go.Proofs.YteimbjamnfkapaaGreatDoor
/- Trees of values as they lie in memory: my own trees, where one lies, and that an argument is one. -/
/- Trees that lie in blocks of their own, and changes that keep to some blocks. -/
/- How many nodes a tree has, and how deep it is. -/
/- Rows of cells in a block of one's own: what may be stored there, and what lies there then. -/
/- The value of a key. -/
namespace Go.Proofs.YteimbjamnfkapaaGreatDoor
open Go.RowKit
inductive VT where
 | mk (k n : Int) (s : ByteArray) (L : List VT) (K : List ByteArray) (V : List VT)
namespace VT
def kd : VT → Int | mk k _ _ _ _ _ => k
def nm : VT → Int | mk _ n _ _ _ _ => n
def st : VT → ByteArray | mk _ _ s _ _ _ => s
def ls : VT → List VT | mk _ _ _ L _ _ => L
def ks : VT → List ByteArray | mk _ _ _ _ K _ => K
def vs : VT → List VT | mk _ _ _ _ _ V => V
end VT
mutual
def szT : VT → Nat
 | .mk _ _ _ L _ V => 1 + szL L + szL V
def szL : List VT → Nat
 | [] => 0
 | t :: r => szT t + szL r
end
theorem szT_pos (T : VT) : 1 ≤ szT T := by cases T; simp only [szT]; omega
theorem szL_get : ∀ (L : List VT) (i : Nat) (t : VT),L[i]? = some t → szT t ≤ szL L
 | [],i,t,h => by simp at h
 | a :: r,0,t,h => by simp at h; subst h; simp only [szL]; omega
 | a :: r,i + 1,t,h => by
  simp at h
  have := szL_get r i t h
  simp only [szL]; omega
theorem szT_ls (T : VT) (i : Nat) (t : VT) (h : T.ls[i]? = some t) : szT t < szT T := by
 cases T with
 | mk k n s L K V => have := szL_get L i t h; simp only [szT]; omega
theorem szT_vs (T : VT) (i : Nat) (t : VT) (h : T.vs[i]? = some t) : szT t < szT T := by
 cases T with
 | mk k n s L K V => have := szL_get V i t h; simp only [szT]; omega
def Node (w : World) (a : Addr) (T : VT) (x y : Value) : Prop :=
 w.cell? a = some (.int .i64 T.kd) ∧ w.cell? ⟨a.block,a.off + 1,none⟩ = some (.int .i64 T.nm) ∧ w.cell? ⟨a.block,a.off + 2,none⟩ = some (.string T.st) ∧ w.cell? ⟨a.block,a.off + 3,none⟩ = some x ∧ w.cell? ⟨a.block,a.off + 4,none⟩ = some y
def SlOf (v : Value) (a : Addr) (n : Nat) : Prop := ∃ (o : Option Addr) (cap : Nat),v = .slice o n cap ∧ n ≤ cap ∧ cap ≤ maxLen ∧ (0 < n → o = some a)
def nx (a : Addr) : Addr := ⟨a.block,a.off + 1,none⟩
inductive HV (w : World) : VT → Value → Value → Prop
 | mk {k n : Int} {s : ByteArray} {L : List VT} {K : List ByteArray} {V : List VT} {x y : Value} (a b : Addr) (f g p q : Nat → Value)
   (hk : (Lit.int .i64 k).wf = true) (hn : (Lit.int .i64 n).wf = true) (hs : s.size ≤ maxLen)
   (hL : SlOf x a L.length) (hM : SlOf y b V.length) (hK : K.length = V.length)
   (cL : ∀ i t,L[i]? = some t → Node w (a.add (i * 5)) t (f i) (g i))
   (cK : ∀ i u,K[i]? = some u → w.cell? (b.add (i * 6)) = some (.string u) ∧ u.size ≤ maxLen)
   (cM : ∀ i t,V[i]? = some t → Node w (nx (b.add (i * 6))) t (p i) (q i))
   (rL : ∀ i t,L[i]? = some t → HV w t (f i) (g i))
   (rM : ∀ i t,V[i]? = some t → HV w t (p i) (q i)) : HV w (.mk k n s L K V) x y
def vv (T : VT) (x y : Value) : Value := .agg #[.int .i64 T.kd,.int .i64 T.nm,.string T.st,x,y]
theorem keepCell {w w' : World} (hb : Below w.heap.size w w') {a : Addr} {v : Value} (hc : w.cell? a = some v) : w'.cell? a = some v := by
 rw [hb.cell (World.block_lt_of_cell? w a hc)]; exact hc
theorem Node.onto {w w' : World} {a : Addr} {T : VT} {x y : Value} (h : Node w a T x y) (hb : Below w.heap.size w w') : Node w' a T x y :=
 ⟨keepCell hb h.1,keepCell hb h.2.1,keepCell hb h.2.2.1,keepCell hb h.2.2.2.1,keepCell hb h.2.2.2.2⟩
theorem HV.onto {w w' : World} {T : VT} {x y : Value} (h : HV w T x y) (hb : Below w.heap.size w w') : HV w' T x y := by
 induction h with
 | mk a b f g p q hk hn hs hL hM hK cL cK cM _ _ ihL ihM =>
  exact .mk a b f g p q hk hn hs hL hM hK (fun i t h => (cL i t h).onto hb) (fun i u h => ⟨keepCell hb (cK i u h).1,(cK i u h).2⟩) (fun i t h => (cM i t h).onto hb) ihL ihM
section
variable {H : Type} {enc : TypeId × Value → H} {w : World} {base : Nat} {spare : Nat → Bool} {held : Bool}
end
end Go.Proofs.YteimbjamnfkapaaGreatDoor
namespace Go.Proofs.YteimbjamnfkapaaGreatDoor
open Go.RowKit
structure Chg (lo hi : Nat) (w w' : World) : Prop where
 os : w'.os = w.os
 tape : w'.tape = w.tape
 output : w'.output = w.output
 size : w.heap.size ≤ w'.heap.size
 block : ∀ k,k < w.heap.size → ¬ (lo ≤ k ∧ k < hi) → w'.heap[k]? = w.heap[k]?
theorem Chg.refl (lo hi : Nat) (w : World) : Chg lo hi w w := ⟨rfl,rfl,rfl,Nat.le_refl _,fun _ _ _ => rfl⟩
theorem Chg.trans {lo hi : Nat} {a b c : World} (h : Chg lo hi a b) (k : Chg lo hi b c) : Chg lo hi a c :=
 ⟨k.os.trans h.os,k.tape.trans h.tape,k.output.trans h.output,Nat.le_trans h.size k.size,fun i hi hn => (k.block i (Nat.lt_of_lt_of_le hi h.size) hn).trans (h.block i hi hn)⟩
theorem Chg.wide {lo hi lo' hi' : Nat} {a b : World} (h : Chg lo hi a b) (h1 : lo' ≤ lo) (h2 : hi ≤ hi') : Chg lo' hi' a b :=
 ⟨h.os,h.tape,h.output,h.size,fun i hi hn => h.block i hi (by omega)⟩
theorem Chg.of {lo hi : Nat} {a b : World} (h : Below a.heap.size a b) : Chg lo hi a b := ⟨h.os,h.tape,h.output,h.size,fun i hi _ => h.block i hi⟩
theorem Chg.new {lo hi : Nat} {a b : World} (h : Chg lo hi a b) (hn : a.heap.size ≤ lo) : Below a.heap.size a b := ⟨h.os,h.tape,h.output,h.size,fun i hi => h.block i hi (by omega)⟩
theorem Chg.below {lo hi : Nat} {a b : World} (h : Chg lo hi a b) {B : Nat} (h1 : B ≤ lo) (h2 : B ≤ a.heap.size) : Below B a b := ⟨h.os,h.tape,h.output,h.size,fun i hi => h.block i (by omega) (by omega)⟩
theorem Chg.alloc {lo hi : Nat} {a w : World} (h : Chg lo hi a w) (o : Obj) : Chg lo hi a (w.alloc o) :=
 h.trans ⟨rfl,rfl,rfl,by simp,fun k hk _ => Below.heap_alloc _ _ _ hk⟩
theorem Chg.drew {lo hi : Nat} {a w : World} (h : Chg lo hi a w) : Chg lo hi a w.drew := ⟨h.os,h.tape,h.output,h.size,h.block⟩
theorem Chg.setCell {lo hi : Nat} {a w : World} (h : Chg lo hi a w) {p : Addr} (hp : (lo ≤ p.block ∧ p.block < hi) ∨ a.heap.size ≤ p.block) (u : Value) : Chg lo hi a (w.setCell p u) :=
 ⟨h.os,h.tape,h.output,by have := h.size; simpa [World.setCell] using this,fun k hk hn => (Below.heap_setCell _ _ _ _ (by omega)).trans (h.block k hk hn)⟩
theorem Chg.cell {lo hi : Nat} {w w' : World} (h : Chg lo hi w w') {p : Addr} (hp : p.block < w.heap.size) (hn : ¬ (lo ≤ p.block ∧ p.block < hi)) : w'.cell? p = w.cell? p := World.cell?_of_block (w := w) (h.block p.block hp hn)
theorem Chg.then {lo hi : Nat} {a b c : World} (h : Chg lo hi a b) (k : Below a.heap.size b c) : Chg lo hi a c :=
 ⟨k.os.trans h.os,k.tape.trans h.tape,k.output.trans h.output,Nat.le_trans h.size k.size,fun i hi hn => (k.block i hi).trans (h.block i hi hn)⟩
def SlX (w : World) (v : Value) (b n : Nat) (t : TypeId) (k : Nat) : Prop := ∃ (o : Option Addr),v = .slice o n n ∧ n ≤ maxLen ∧ (0 < n → o = some ⟨b,0,none⟩ ∧ ∃ c,w.heap[b]? = some (.cells c t) ∧ c.size = n * k)
theorem SlX.of {w : World} {v : Value} {b n : Nat} {t : TypeId} {k : Nat} (h : SlX w v b n t k) : SlOf v ⟨b,0,none⟩ n := by
 obtain ⟨o,h1,h2,h3⟩ := h
 exact ⟨o,n,h1,Nat.le_refl _,h2,fun h => (h3 h).1⟩
theorem SlX.onto {w w' : World} {v : Value} {b n : Nat} {t : TypeId} {k : Nat} (h : SlX w v b n t k) (hb : 0 < n → w'.heap[b]? = w.heap[b]?) : SlX w' v b n t k := by
 obtain ⟨o,h1,h2,h3⟩ := h
 exact ⟨o,h1,h2,fun h => ⟨(h3 h).1,by rw [hb h]; exact (h3 h).2⟩⟩
theorem SlX.nil (w : World) (b : Nat) (t : TypeId) (k : Nat) : SlX w (.slice none 0 0) b 0 t k := ⟨none,rfl,Nat.zero_le _,fun h => absurd h (Nat.lt_irrefl 0)⟩
inductive HF (w : World) : Nat → Nat → VT → Value → Value → Prop
 | mk {lo hi : Nat} {k n : Int} {s : ByteArray} {L : List VT} {K : List ByteArray} {V : List VT} {x y : Value} (m bL bM : Nat) (l r : Nat → Nat) (f g p q : Nat → Value)
   (hk : (Lit.int .i64 k).wf = true) (hn : (Lit.int .i64 n).wf = true) (hs : s.size ≤ maxLen)
   (hL : SlX w x bL L.length 29 5) (hM : SlX w y bM V.length 60 6) (hK : K.length = V.length)
   (lom : lo ≤ m) (mhi : m ≤ hi)
   (iL : 0 < L.length → lo ≤ bL ∧ bL < l 0 ∧ l L.length ≤ m) (iM : 0 < V.length → m ≤ bM ∧ bM < r 0 ∧ r V.length ≤ hi)
   (oL : ∀ i j,i ≤ j → j ≤ L.length → l i ≤ l j) (oM : ∀ i j,i ≤ j → j ≤ V.length → r i ≤ r j)
   (cL : ∀ i t,L[i]? = some t → Node w (Addr.add ⟨bL,0,none⟩ (i * 5)) t (f i) (g i))
   (cK : ∀ i u,K[i]? = some u → w.cell? (Addr.add ⟨bM,0,none⟩ (i * 6)) = some (.string u) ∧ u.size ≤ maxLen)
   (cM : ∀ i t,V[i]? = some t → Node w (nx (Addr.add ⟨bM,0,none⟩ (i * 6))) t (p i) (q i))
   (rL : ∀ i t,L[i]? = some t → HF w (l i) (l (i + 1)) t (f i) (g i))
   (rM : ∀ i t,V[i]? = some t → HF w (r i) (r (i + 1)) t (p i) (q i)) : HF w lo hi (.mk k n s L K V) x y
theorem HF.hv {w : World} {lo hi : Nat} {T : VT} {x y : Value} (h : HF w lo hi T x y) : HV w T x y := by
 induction h with
 | mk m bL bM l r f g p q hk hn hs hL hM hK lom mhi iL iM oL oM cL cK cM _ _ ihL ihM =>
  exact .mk _ _ f g p q hk hn hs hL.of hM.of hK cL cK cM ihL ihM
theorem HF.wide {w : World} {lo hi lo' hi' : Nat} {T : VT} {x y : Value} (h : HF w lo hi T x y) (h1 : lo' ≤ lo) (h2 : hi ≤ hi') : HF w lo' hi' T x y := by
 cases h with
 | mk m bL bM l r f g p q hk hn hs hL hM hK lom mhi iL iM oL oM cL cK cM rL rM =>
  exact .mk m bL bM l r f g p q hk hn hs hL hM hK (by omega) (by omega) (fun h => by have := iL h; omega) (fun h => by have := iM h; omega) oL oM cL cK cM rL rM
theorem lt_of_some {α : Type} {L : List α} {i : Nat} {t : α} (h : L[i]? = some t) : i < L.length := (List.getElem?_eq_some_iff.1 h).1
theorem add_block (b i : Nat) : (Addr.add ⟨b,0,none⟩ i).block = b := by unfold Addr.add; split <;> rfl
theorem Node.eqs {w w' : World} {a : Addr} {T : VT} {x y : Value} (h : Node w a T x y) (hb : w'.heap[a.block]? = w.heap[a.block]?) : Node w' a T x y := by
 have e : ∀ p : Addr,p.block = a.block → w'.cell? p = w.cell? p := fun p hp => World.cell?_of_block (w := w) (by rw [hp]; exact hb)
 exact ⟨(e a rfl).trans h.1,(e ⟨a.block,a.off + 1,none⟩ rfl).trans h.2.1,(e ⟨a.block,a.off + 2,none⟩ rfl).trans h.2.2.1,(e ⟨a.block,a.off + 3,none⟩ rfl).trans h.2.2.2.1,(e ⟨a.block,a.off + 4,none⟩ rfl).trans h.2.2.2.2⟩
theorem HF.onto {w w' : World} {lo hi : Nat} {T : VT} {x y : Value} (h : HF w lo hi T x y) (hb : ∀ k,lo ≤ k → k < hi → w'.heap[k]? = w.heap[k]?) : HF w' lo hi T x y := by
 induction h with
 | mk m bL bM l r f g p q hk hn hs hL hM hK lom mhi iL iM oL oM cL cK cM _ _ ihL ihM =>
  refine .mk m bL bM l r f g p q hk hn hs (hL.onto (fun h => hb _ (iL h).1 (by have h1 := iL h; have h2 := oL 0 _ (Nat.zero_le _) (Nat.le_refl _); omega))) (hM.onto (fun h => hb _ (by have h1 := iM h; omega) (by have h1 := iM h; have h2 := oM 0 _ (Nat.zero_le _) (Nat.le_refl _); omega))) hK lom mhi iL iM oL oM (fun i t h => ?_) (fun i u h => ?_) (fun i t h => ?_) (fun i t h => ?_) (fun i t h => ?_)
  ·have hi := lt_of_some h
   have h1 := iL (by omega)
   have h2 := oL 0 _ (Nat.zero_le _) (Nat.le_refl _)
   exact (cL i t h).eqs (by rw [add_block]; exact hb _ (by omega) (by omega))
  ·have hi := lt_of_some h
   have h1 := iM (by omega)
   have h2 := oM 0 _ (Nat.zero_le _) (Nat.le_refl _)
   refine ⟨(World.cell?_of_block (w := w) ?_).trans (cK i u h).1,(cK i u h).2⟩
   rw [add_block]; exact hb _ (by omega) (by omega)
  ·have hi := lt_of_some h
   have h1 := iM (by omega)
   have h2 := oM 0 _ (Nat.zero_le _) (Nat.le_refl _)
   exact (cM i t h).eqs (by show w'.heap[(Addr.add ⟨bM,0,none⟩ (i * 6)).block]? = _; rw [show (nx (Addr.add ⟨bM,0,none⟩ (i * 6))).block = (Addr.add ⟨bM,0,none⟩ (i * 6)).block from rfl,add_block]; exact hb _ (by omega) (by omega))
  ·have hi := lt_of_some h
   have h1 := iL (by omega)
   have h2 := oL 0 i (Nat.zero_le _) (by omega)
   have h3 := oL (i + 1) _ hi (Nat.le_refl _)
   exact ihL i t h (fun k g1 g2 => hb k (by omega) (by omega))
  ·have hi := lt_of_some h
   have h1 := iM (by omega)
   have h2 := oM 0 i (Nat.zero_le _) (by omega)
   have h3 := oM (i + 1) _ hi (Nat.le_refl _)
   exact ihM i t h (fun k g1 g2 => hb k (by omega) (by omega))
def InL (w : World) (L : List VT) (x : Value) : Prop := ∃ (a : Addr) (f g : Nat → Value),SlOf x a L.length ∧ (∀ i t,L[i]? = some t → Node w (a.add (i * 5)) t (f i) (g i)) ∧ (∀ i t,L[i]? = some t → HV w t (f i) (g i))
def InM (w : World) (K : List ByteArray) (V : List VT) (y : Value) : Prop := ∃ (b : Addr) (p q : Nat → Value),SlOf y b V.length ∧ K.length = V.length ∧
 (∀ i u,K[i]? = some u → w.cell? (b.add (i * 6)) = some (.string u) ∧ u.size ≤ maxLen) ∧ (∀ i t,V[i]? = some t → Node w (nx (b.add (i * 6))) t (p i) (q i)) ∧ (∀ i t,V[i]? = some t → HV w t (p i) (q i))
theorem InL.onto {w w' : World} {L : List VT} {x : Value} (h : InL w L x) (hb : Below w.heap.size w w') : InL w' L x := by
 obtain ⟨a,f,g,h1,h2,h3⟩ := h
 exact ⟨a,f,g,h1,fun i t h => (h2 i t h).onto hb,fun i t h => (h3 i t h).onto hb⟩
theorem InM.onto {w w' : World} {K : List ByteArray} {V : List VT} {y : Value} (h : InM w K V y) (hb : Below w.heap.size w w') : InM w' K V y := by
 obtain ⟨b,p,q,h1,h2,h3,h4,h5⟩ := h
 exact ⟨b,p,q,h1,h2,fun i u h => ⟨keepCell hb (h3 i u h).1,(h3 i u h).2⟩,fun i t h => (h4 i t h).onto hb,fun i t h => (h5 i t h).onto hb⟩
theorem HV.inL {w : World} {T : VT} {x y : Value} (h : HV w T x y) : InL w T.ls x := by
 cases h with
 | mk a b f g p q hk hn hs hL hM hK cL cK cM rL rM => exact ⟨a,f,g,hL,cL,rL⟩
theorem HV.inM {w : World} {T : VT} {x y : Value} (h : HV w T x y) : InM w T.ks T.vs y := by
 cases h with
 | mk a b f g p q hk hn hs hL hM hK cL cK cM rL rM => exact ⟨b,p,q,hM,hK,cK,cM,rM⟩
theorem hv_in {w : World} {k n : Int} {s : ByteArray} {L : List VT} {K : List ByteArray} {V : List VT} {x y : Value} (hk : (Lit.int .i64 k).wf = true) (hn : (Lit.int .i64 n).wf = true) (hs : s.size ≤ maxLen) (hL : InL w L x) (hM : InM w K V y) : HV w (.mk k n s L K V) x y := by
 obtain ⟨a,f,g,h1,h2,h3⟩ := hL
 obtain ⟨b,p,q,k1,k2,k3,k4,k5⟩ := hM
 exact .mk a b f g p q hk hn hs h1 k1 k2 h2 k3 k4 h3 k5
def LF (w : World) (lo hi : Nat) (L : List VT) (x : Value) : Prop := ∃ (b : Nat) (l : Nat → Nat) (f g : Nat → Value),SlX w x b L.length 29 5 ∧ (0 < L.length → lo ≤ b ∧ b < l 0 ∧ l L.length ≤ hi) ∧ (∀ i j,i ≤ j → j ≤ L.length → l i ≤ l j) ∧
 (∀ i t,L[i]? = some t → Node w (Addr.add ⟨b,0,none⟩ (i * 5)) t (f i) (g i)) ∧ (∀ i t,L[i]? = some t → HF w (l i) (l (i + 1)) t (f i) (g i))
def MF (w : World) (lo hi : Nat) (K : List ByteArray) (V : List VT) (y : Value) : Prop := ∃ (b : Nat) (r : Nat → Nat) (p q : Nat → Value),SlX w y b V.length 60 6 ∧ K.length = V.length ∧ (0 < V.length → lo ≤ b ∧ b < r 0 ∧ r V.length ≤ hi) ∧ (∀ i j,i ≤ j → j ≤ V.length → r i ≤ r j) ∧
 (∀ i u,K[i]? = some u → w.cell? (Addr.add ⟨b,0,none⟩ (i * 6)) = some (.string u) ∧ u.size ≤ maxLen) ∧ (∀ i t,V[i]? = some t → Node w (nx (Addr.add ⟨b,0,none⟩ (i * 6))) t (p i) (q i)) ∧ (∀ i t,V[i]? = some t → HF w (r i) (r (i + 1)) t (p i) (q i))
theorem hf_of {w : World} {lo m hi : Nat} {k n : Int} {s : ByteArray} {L : List VT} {K : List ByteArray} {V : List VT} {x y : Value} (hk : (Lit.int .i64 k).wf = true) (hn : (Lit.int .i64 n).wf = true) (hs : s.size ≤ maxLen) (h1 : lo ≤ m) (h2 : m ≤ hi) (hL : LF w lo m L x) (hM : MF w m hi K V y) : HF w lo hi (.mk k n s L K V) x y := by
 obtain ⟨b,l,f,g,g1,g2,g3,g4,g5⟩ := hL
 obtain ⟨c,r,p,q,k1,k2,k3,k4,k5,k6,k7⟩ := hM
 exact .mk m b c l r f g p q hk hn hs g1 k1 k2 h1 h2 g2 k3 g3 k4 g4 k5 k6 g5 k7
theorem lf_nil (w : World) (lo hi : Nat) : LF w lo hi [] (.slice none 0 0) :=
 ⟨0,fun _ => 0,fun _ => .nilIface,fun _ => .nilIface,SlX.nil _ _ _ _,fun h => absurd h (by simp),fun _ _ _ _ => Nat.le_refl _,fun i t h => by simp at h,fun i t h => by simp at h⟩
theorem mf_nil (w : World) (lo hi : Nat) : MF w lo hi [] [] (.slice none 0 0) :=
 ⟨0,fun _ => 0,fun _ => .nilIface,fun _ => .nilIface,SlX.nil _ _ _ _,rfl,fun h => absurd h (by simp),fun _ _ _ _ => Nat.le_refl _,fun i t h => by simp at h,fun i t h => by simp at h,fun i t h => by simp at h⟩
theorem LF.wide {w : World} {lo hi lo' hi' : Nat} {L : List VT} {x : Value} (h : LF w lo hi L x) (h1 : lo' ≤ lo) (h2 : hi ≤ hi') : LF w lo' hi' L x := by
 obtain ⟨b,l,f,g,g1,g2,g3,g4,g5⟩ := h
 exact ⟨b,l,f,g,g1,fun h => by have := g2 h; omega,g3,g4,g5⟩
theorem MF.wide {w : World} {lo hi lo' hi' : Nat} {K : List ByteArray} {V : List VT} {y : Value} (h : MF w lo hi K V y) (h1 : lo' ≤ lo) (h2 : hi ≤ hi') : MF w lo' hi' K V y := by
 obtain ⟨b,l,f,g,g1,g0,g2,g3,g4,g5⟩ := h
 exact ⟨b,l,f,g,g1,g0,fun h => by have := g2 h; omega,g3,g4,g5⟩
theorem LF.onto {w w' : World} {lo hi : Nat} {L : List VT} {x : Value} (h : LF w lo hi L x) (hb : ∀ k,lo ≤ k → k < hi → w'.heap[k]? = w.heap[k]?) : LF w' lo hi L x := by
 obtain ⟨b,l,f,g,g1,g2,g3,g4,g5⟩ := h
 refine ⟨b,l,f,g,g1.onto (fun h => hb _ (g2 h).1 (by have h1 := g2 h; have h2 := g3 0 _ (Nat.zero_le _) (Nat.le_refl _); omega)),g2,g3,fun i t h => ?_,fun i t h => ?_⟩
 ·have hi := lt_of_some h
  have h1 := g2 (by omega)
  have h2 := g3 0 _ (Nat.zero_le _) (Nat.le_refl _)
  exact (g4 i t h).eqs (by rw [add_block]; exact hb _ (by omega) (by omega))
 ·have hi := lt_of_some h
  have h1 := g2 (by omega)
  have h2 := g3 0 i (Nat.zero_le _) (by omega)
  have h3 := g3 (i + 1) _ hi (Nat.le_refl _)
  exact (g5 i t h).onto (fun k g1 g2 => hb k (by omega) (by omega))
theorem MF.onto {w w' : World} {lo hi : Nat} {K : List ByteArray} {V : List VT} {y : Value} (h : MF w lo hi K V y) (hb : ∀ k,lo ≤ k → k < hi → w'.heap[k]? = w.heap[k]?) : MF w' lo hi K V y := by
 obtain ⟨b,l,f,g,g1,g0,g2,g3,g6,g4,g5⟩ := h
 refine ⟨b,l,f,g,g1.onto (fun h => hb _ (g2 h).1 (by have h1 := g2 h; have h2 := g3 0 _ (Nat.zero_le _) (Nat.le_refl _); omega)),g0,g2,g3,fun i u h => ?_,fun i t h => ?_,fun i t h => ?_⟩
 ·have hi := lt_of_some h
  have h1 := g2 (by omega)
  have h2 := g3 0 _ (Nat.zero_le _) (Nat.le_refl _)
  refine ⟨(World.cell?_of_block (w := w) ?_).trans (g6 i u h).1,(g6 i u h).2⟩
  rw [add_block]; exact hb _ (by omega) (by omega)
 ·have hi := lt_of_some h
  have h1 := g2 (by omega)
  have h2 := g3 0 _ (Nat.zero_le _) (Nat.le_refl _)
  exact (g4 i t h).eqs (by rw [show (nx (Addr.add ⟨b,0,none⟩ (i * 6))).block = (Addr.add ⟨b,0,none⟩ (i * 6)).block from rfl,add_block]; exact hb _ (by omega) (by omega))
 ·have hi := lt_of_some h
  have h1 := g2 (by omega)
  have h2 := g3 0 i (Nat.zero_le _) (by omega)
  have h3 := g3 (i + 1) _ hi (Nat.le_refl _)
  exact (g5 i t h).onto (fun k g1 g2 => hb k (by omega) (by omega))
theorem LF.inL {w : World} {lo hi : Nat} {L : List VT} {x : Value} (h : LF w lo hi L x) : InL w L x := by
 obtain ⟨b,l,f,g,g1,g2,g3,g4,g5⟩ := h
 exact ⟨_,f,g,g1.of,g4,fun i t h => (g5 i t h).hv⟩
theorem MF.inM {w : World} {lo hi : Nat} {K : List ByteArray} {V : List VT} {y : Value} (h : MF w lo hi K V y) : InM w K V y := by
 obtain ⟨b,l,f,g,g1,g0,g2,g3,g6,g4,g5⟩ := h
 exact ⟨_,f,g,g1.of,g0,g6,g4,fun i t h => (g5 i t h).hv⟩
theorem HF.lists {w : World} {lo hi : Nat} {T : VT} {x y : Value} (h : HF w lo hi T x y) : ∃ m,lo ≤ m ∧ m ≤ hi ∧ LF w lo m T.ls x ∧ MF w m hi T.ks T.vs y := by
 cases h with
 | mk m bL bM l r f g p q hk hn hs hL hM hK lom mhi iL iM oL oM cL cK cM rL rM =>
  exact ⟨m,lom,mhi,⟨bL,l,f,g,hL,iL,oL,cL,rL⟩,⟨bM,r,p,q,hM,hK,iM,oM,cK,cM,rM⟩⟩
theorem hv_slices {w : World} {T : VT} {x y : Value} (h : HV w T x y) : ∃ o n c o' n' c',x = .slice o n c ∧ y = .slice o' n' c' := by
 cases h with
 | mk a b f g p q hk hn hs hL hM hK cL cK cM rL rM =>
  obtain ⟨oL,capL,rfl,-,-,-⟩ := hL
  obtain ⟨oM,capM,rfl,-,-,-⟩ := hM
  exact ⟨_,_,_,_,_,_,rfl,rfl⟩
theorem vset_bel {w a : World} {ad : Addr} {v : Value} (h : Below w.heap.size w a) (hb : w.heap.size ≤ ad.block) : Below w.heap.size w (a.setCell ad v) := h.setCell hb v
theorem valloc_bel {w a : World} (h : Below w.heap.size w a) (o : Obj) : Below w.heap.size w (a.alloc o) := h.alloc h.size _
theorem vdrew_bel {w a : World} (h : Below w.heap.size w a) (n : Nat) : Below w.heap.size w (a.drewN n) := h.trans ⟨rfl,rfl,rfl,Nat.le_refl _,fun _ _ => rfl⟩
theorem vonto {w a b : World} (h : Below w.heap.size w a) (k : Below a.heap.size a b) : Below w.heap.size w b := h.trans (k.mono h.size)
theorem len_szL : ∀ L : List VT,L.length ≤ szL L
 | [] => by simp [szL]
 | t :: r => by have := len_szL r; have := szT_pos t; simp only [List.length_cons,szL]; omega
theorem len_sz (T : VT) : T.ls.length ≤ szT T ∧ T.vs.length ≤ szT T := by
 cases T with
 | mk k n s L K V => have h1 := len_szL L; have h2 := len_szL V; simp only [szT,VT.ls,VT.vs]; omega
theorem HV.wfs {w : World} {T : VT} {x y : Value} (h : HV w T x y) : (Lit.int .i64 T.kd).wf = true ∧ (Lit.int .i64 T.nm).wf = true ∧ T.st.size ≤ maxLen := by
 cases h with
 | mk a b f g p q hk hn hs hL hM hK cL cK cM rL rM => exact ⟨hk,hn,hs⟩
theorem LF.slice {w : World} {lo hi : Nat} {L : List VT} {x : Value} (h : LF w lo hi L x) : ∃ o n c,x = .slice o n c := by
 obtain ⟨b,l,f,g,⟨o,rfl,-⟩,-⟩ := h
 exact ⟨_,_,_,rfl⟩
theorem MF.slice {w : World} {lo hi : Nat} {K : List ByteArray} {V : List VT} {x : Value} (h : MF w lo hi K V x) : ∃ o n c,x = .slice o n c := by
 obtain ⟨b,l,f,g,⟨o,rfl,-⟩,-⟩ := h
 exact ⟨_,_,_,rfl⟩
theorem call_above {P : Program} {f : FuncId} {args : Array Value} {w x : World} {v : Ending} (hx : Below w.heap.size w x) (h : Calls P f args x fun e w' => e = v ∧ Below x.heap.size x w') : Calls P f args x fun e w' => e = v ∧ Below w.heap.size w w' :=
 h.mono fun _ _ ⟨he,hb⟩ => ⟨he,vonto hx hb⟩
end Go.Proofs.YteimbjamnfkapaaGreatDoor
namespace Go.Proofs.YteimbjamnfkapaaGreatDoor
open Go.RowKit
theorem szL_take_succ (L : List VT) (i : Nat) (t : VT) (h : L[i]? = some t) : szL (L.take (i + 1)) = szL (L.take i) + szT t := by
 induction L generalizing i with
 | nil => simp at h
 | cons a r ih =>
  cases i with
  | zero => simp at h; subst h; simp [szL]
  | succ i => simp at h; rw [List.take_succ_cons,List.take_succ_cons,szL,szL,ih i h]; omega
theorem szL_take_le (L : List VT) : ∀ i,szL (L.take i) ≤ szL L := by
 induction L with
 | nil => intro i; simp [szL]
 | cons a r ih =>
  intro i
  cases i with
  | zero => simp [szL]
  | succ i => rw [List.take_succ_cons,szL,szL]; have := ih i; omega
theorem box_cell (w wr : World) (c0 c1 c2 c3 c4 : Value) (t : TypeId) (h : Below (w.heap.size + 1) (w.alloc (.cells #[c0,c1,c2,c3,c4] t)) wr) (j : Nat) (u : Value) (hj : [c0,c1,c2,c3,c4][j]? = some u) : wr.cell? ⟨w.heap.size,j,none⟩ = some u := by
 rw [h.cell (show w.heap.size < w.heap.size + 1 by omega)]
 have := new_cells w [c0,c1,c2,c3,c4] t j u hj
 rw [← this]
 by_cases h0 : j = 0
 ·subst h0; simp [Addr.add]
 ·simp [Addr.add,h0]
mutual
def hgT : VT → Nat
 | .mk _ _ _ L _ V => 1 + max (hgL L) (hgL V)
def hgL : List VT → Nat
 | [] => 0
 | t :: r => max (hgT t) (hgL r)
end
mutual
theorem hg_sz : ∀ T : VT,hgT T ≤ szT T
 | .mk _ _ _ L _ V => by have h1 := hgL_sz L; have h2 := hgL_sz V; simp only [hgT,szT]; omega
theorem hgL_sz : ∀ L : List VT,hgL L ≤ szL L
 | [] => by simp [hgL,szL]
 | t :: r => by have h1 := hg_sz t; have h2 := hgL_sz r; simp only [hgL,szL]; omega
end
theorem hgT_pos (T : VT) : 1 ≤ hgT T := by cases T; simp only [hgT]; omega
end Go.Proofs.YteimbjamnfkapaaGreatDoor
namespace Go.Proofs.YteimbjamnfkapaaGreatDoor
open Go.RowKit
def Row (w : World) (b : Nat) (t : TypeId) (m : Nat) : Prop := ∃ c : Array Value,w.heap[b]? = some (.cells c t (0,0)) ∧ c.size = m
theorem Row.cell {w : World} {b m : Nat} {t : TypeId} (h : Row w b t m) {o : Nat} (ho : o < m) : ∃ v,w.cell? ⟨b,o,none⟩ = some v := by
 obtain ⟨c,hc,rfl⟩ := h
 exact ⟨c[o],by simp [World.cell?,hc,ho]⟩
theorem Row.frozen {w : World} {b m : Nat} {t : TypeId} (h : Row w b t m) (o : Nat) : w.frozen? ⟨b,o,none⟩ = false := by
 obtain ⟨c,hc,rfl⟩ := h
 simp [World.frozen?,hc]
theorem Row.set {w : World} {b m : Nat} {t : TypeId} (h : Row w b t m) (p : Addr) (u : Value) : Row (w.setCell p u) b t m := by
 obtain ⟨c,hc,rfl⟩ := h
 by_cases hp : p.block = b
 ·refine ⟨if p.spot.isSome then c else c.setIfInBounds p.off u,?_,by split <;> simp⟩
  simp [World.setCell,Array.getElem?_modify,hp,hc]
 ·exact ⟨c,by rw [Below.heap_setCell _ _ _ _ (fun e => hp e.symm)]; exact hc,rfl⟩
theorem Row.onto {w w' : World} {b m : Nat} {t : TypeId} (h : Row w b t m) (hb : w'.heap[b]? = w.heap[b]?) : Row w' b t m := by
 obtain ⟨c,hc,rfl⟩ := h
 exact ⟨c,hb.trans hc,rfl⟩
theorem Row.new (w : World) (c : Array Value) (t : TypeId) : Row (w.alloc (.cells c t)) w.heap.size t c.size := ⟨c,by show (w.heap.push _)[w.heap.size]? = _; simp,rfl⟩
theorem Row.lt {w : World} {b m : Nat} {t : TypeId} (h : Row w b t m) : b < w.heap.size := by
 obtain ⟨c,hc,rfl⟩ := h
 exact (Array.getElem?_eq_some_iff.1 hc).1
theorem set_other (w : World) (b b' o o' : Nat) (v : Value) (h : b ≠ b' ∨ o ≠ o') : (w.setCell ⟨b,o,none⟩ v).cell? ⟨b',o',none⟩ = w.cell? ⟨b',o',none⟩ :=
 World.cell?_setCell_other _ _ _ _ (fun e => by injection e with e1 e2; omega)
theorem set_same {w : World} {b m : Nat} {t : TypeId} (h : Row w b t m) {o : Nat} (ho : o < m) (v : Value) : (w.setCell ⟨b,o,none⟩ v).cell? ⟨b,o,none⟩ = some v := by
 obtain ⟨u,hu⟩ := h.cell ho
 exact World.cell?_setCell_same _ _ _ hu
def put5 (w : World) (b o : Nat) (v0 v1 v2 v3 v4 : Value) : World := ((((w.setCell ⟨b,o,none⟩ v0).setCell ⟨b,o + 1,none⟩ v1).setCell ⟨b,o + 2,none⟩ v2).setCell ⟨b,o + 3,none⟩ v3).setCell ⟨b,o + 4,none⟩ v4
theorem put5_row {w : World} {b m : Nat} {t : TypeId} (h : Row w b t m) (b' o : Nat) (v0 v1 v2 v3 v4 : Value) : Row (put5 w b' o v0 v1 v2 v3 v4) b t m := ((((h.set _ _).set _ _).set _ _).set _ _).set _ _
theorem put5_heap (w : World) (b o : Nat) (v0 v1 v2 v3 v4 : Value) (k : Nat) (h : k ≠ b) : (put5 w b o v0 v1 v2 v3 v4).heap[k]? = w.heap[k]? := by
 unfold put5
 rw [Below.heap_setCell _ _ _ _ h,Below.heap_setCell _ _ _ _ h,Below.heap_setCell _ _ _ _ h,Below.heap_setCell _ _ _ _ h,Below.heap_setCell _ _ _ _ h]
theorem put5_size (w : World) (b o : Nat) (v0 v1 v2 v3 v4 : Value) : (put5 w b o v0 v1 v2 v3 v4).heap.size = w.heap.size := by simp [put5]
theorem put5_other (w : World) (b o : Nat) (v0 v1 v2 v3 v4 : Value) (o' : Nat) (h : o' < o ∨ o + 5 ≤ o') : (put5 w b o v0 v1 v2 v3 v4).cell? ⟨b,o',none⟩ = w.cell? ⟨b,o',none⟩ := by
 unfold put5
 rw [set_other _ _ _ _ _ _ (Or.inr (by omega)),set_other _ _ _ _ _ _ (Or.inr (by omega)),set_other _ _ _ _ _ _ (Or.inr (by omega)),set_other _ _ _ _ _ _ (Or.inr (by omega)),set_other _ _ _ _ _ _ (Or.inr (by omega))]
theorem put5_node {w : World} {b m : Nat} {ty : TypeId} (h : Row w b ty m) (o : Nat) (ho : o + 5 ≤ m) (T : VT) (x y : Value) : Node (put5 w b o (.int .i64 T.kd) (.int .i64 T.nm) (.string T.st) x y) ⟨b,o,none⟩ T x y := by
 unfold put5
 refine ⟨?_,?_,?_,?_,?_⟩
 ·rw [set_other _ _ _ _ _ _ (Or.inr (by omega)),set_other _ _ _ _ _ _ (Or.inr (by omega)),set_other _ _ _ _ _ _ (Or.inr (by omega)),set_other _ _ _ _ _ _ (Or.inr (by omega))]
  exact set_same h (by omega) _
 ·show World.cell? _ ⟨b,o + 1,none⟩ = _
  rw [set_other _ _ _ _ _ _ (Or.inr (by omega)),set_other _ _ _ _ _ _ (Or.inr (by omega)),set_other _ _ _ _ _ _ (Or.inr (by omega))]
  exact set_same (h.set _ _) (by omega) _
 ·show World.cell? _ ⟨b,o + 2,none⟩ = _
  rw [set_other _ _ _ _ _ _ (Or.inr (by omega)),set_other _ _ _ _ _ _ (Or.inr (by omega))]
  exact set_same ((h.set _ _).set _ _) (by omega) _
 ·show World.cell? _ ⟨b,o + 3,none⟩ = _
  rw [set_other _ _ _ _ _ _ (Or.inr (by omega))]
  exact set_same (((h.set _ _).set _ _).set _ _) (by omega) _
 ·show World.cell? _ ⟨b,o + 4,none⟩ = _
  exact set_same ((((h.set _ _).set _ _).set _ _).set _ _) (by omega) _
theorem node_at {w w' : World} {b o : Nat} {T : VT} {x y : Value} (h : Node w ⟨b,o,none⟩ T x y) (e : ∀ i,i < 5 → w'.cell? ⟨b,o + i,none⟩ = w.cell? ⟨b,o + i,none⟩) : Node w' ⟨b,o,none⟩ T x y :=
 ⟨(e 0 (by omega)).trans h.1,(e 1 (by omega)).trans h.2.1,(e 2 (by omega)).trans h.2.2.1,(e 3 (by omega)).trans h.2.2.2.1,(e 4 (by omega)).trans h.2.2.2.2⟩
theorem add_at (b i : Nat) : Addr.add ⟨b,0,none⟩ i = ⟨b,i,none⟩ := by
 simp only [Addr.add,Nat.zero_add]; split
 ·next h0 => rw [h0]
 ·rfl
theorem vkeeps {W V : World} (h : Below W.heap.size W V) : (∀ b o,b < W.heap.size → V.cell? ⟨b,o,none⟩ = W.cell? ⟨b,o,none⟩) ∧ ∀ b o,b < W.heap.size → V.frozen? ⟨b,o,none⟩ = W.frozen? ⟨b,o,none⟩ :=
 ⟨fun _ _ g => h.cell g,fun _ _ g => h.frozen g⟩
theorem Tryz.made27 (n : Nat) (h : n ≤ 1000000) (w : World) : (Instr.makeSlice 26 (.int .i64 (n : Int)) (.int .i64 (n : Int))).run Tryz.prog w = .ok (.slice (some ⟨w.heap.size,0,none⟩) n n) (w.alloc (.cells (madeCells #[.int .i64 0,.int .i64 0,.string ⟨#[]⟩,.slice none 0 0,.slice none 0 0] (n * 5)) 29)) := by
 obtain ⟨i,hi,hz⟩ := Option.map_eq_some_iff.1 (show (Tryz.prog.info? 29).map (fun i => (i.zero,i.size,i.bytes)) = some (some (.agg #[.int .i64 0,.int .i64 0,.string ⟨#[]⟩,.slice none 0 0,.slice none 0 0]),5,80) by kernel_rfl)
 simp only [Prod.mk.injEq] at hz
 obtain ⟨hz,hs,hb⟩ := hz
 have := run_make (P := Tryz.prog) w 26 29 i _ Tryz.underlying26 hi hz .i64 .i64 n n (by omega) (Int.le_refl _) (by rw [hb]; omega) (by omega)
 rw [hs] at this
 simp only [Int.toNat_natCast] at this
 exact this
theorem Tryz.made34 (n : Nat) (h : n ≤ 1000000) (w : World) : (Instr.makeSlice 27 (.int .i64 (n : Int)) (.int .i64 (n : Int))).run Tryz.prog w = .ok (.slice (some ⟨w.heap.size,0,none⟩) n n) (w.alloc (.cells (madeCells #[.string ⟨#[]⟩,.int .i64 0,.int .i64 0,.string ⟨#[]⟩,.slice none 0 0,.slice none 0 0] (n * 6)) 60)) := by
 obtain ⟨i,hi,hz⟩ := Option.map_eq_some_iff.1 (show (Tryz.prog.info? 60).map (fun i => (i.zero,i.size,i.bytes)) = some (some (.agg #[.string ⟨#[]⟩,.int .i64 0,.int .i64 0,.string ⟨#[]⟩,.slice none 0 0,.slice none 0 0]),6,96) by kernel_rfl)
 simp only [Prod.mk.injEq] at hz
 obtain ⟨hz,hs,hb⟩ := hz
 have := run_make (P := Tryz.prog) w 27 60 i _ Tryz.underlying27 hi hz .i64 .i64 n n (by omega) (Int.le_refl _) (by rw [hb]; omega) (by omega)
 rw [hs] at this
 simp only [Int.toNat_natCast] at this
 exact this
end Go.Proofs.YteimbjamnfkapaaGreatDoor
namespace Go.Proofs.YteimbjamnfkapaaGreatDoor
open Go.RowKit
def findK (key : ByteArray) : List ByteArray → List VT → Option VT
 | c :: K,t :: V => if c.data.toList = key.data.toList then some t else findK key K V
 | _,_ => none
def getO (T : VT) (key : ByteArray) : Option VT := if T.kd = 6 then findK key T.ks T.vs else none
def zeroT : VT := .mk 0 0 ⟨#[]⟩ [] [] []
theorem hv_zero (w : World) : HV w zeroT (.slice none 0 0) (.slice none 0 0) :=
 .mk ⟨0,0,none⟩ ⟨0,0,none⟩ (fun _ => .int .i64 0) (fun _ => .int .i64 0) (fun _ => .int .i64 0) (fun _ => .int .i64 0) (by decide) (by decide) (by decide)
  ⟨none,0,rfl,Nat.le_refl _,Nat.zero_le _,fun h => absurd h (Nat.lt_irrefl 0)⟩ ⟨none,0,rfl,Nat.le_refl _,Nat.zero_le _,fun h => absurd h (Nat.lt_irrefl 0)⟩ rfl
  (fun i t h => by simp at h) (fun i t h => by simp at h) (fun i t h => by simp at h) (fun i t h => by simp at h) (fun i t h => by simp at h)
theorem findK_some (key : ByteArray) : ∀ (K : List ByteArray) (V : List VT) (j : Nat) (c : ByteArray) (t : VT),K[j]? = some c → V[j]? = some t → c.data.toList = key.data.toList → (∀ (i : Nat) (c' : ByteArray),i < j → K[i]? = some c' → ¬ c'.data.toList = key.data.toList) → findK key K V = some t
 | [],_,j,c,t,h,_,_,_ => by simp at h
 | a :: K,[],j,c,t,_,h,_,_ => by simp at h
 | a :: K,b :: V,0,c,t,h,g,e,_ => by
  simp at h g; subst h g; rw [findK,if_pos e]
 | a :: K,b :: V,j + 1,c,t,h,g,e,n => by
  rw [findK,if_neg (n 0 a (by omega) rfl)]
  exact findK_some key K V j c t (by simpa using h) (by simpa using g) e (fun i c' hi hc => n (i + 1) c' (by omega) (by simpa using hc))
end Go.Proofs.YteimbjamnfkapaaGreatDoor
