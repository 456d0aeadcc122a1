/- Plain mathematics of escapes: no program is named here. -/
import Derived.Test.YtkhjahpkbjafaaaGreatDoorQMathUtf
import Derived.Lib.Strings
import Derived.Lib.Bytealg
import Derived.Test.YtkhjahpkbjafaaaGreatDoorRows
import Derived.WalkKit
import Derived.WalkSpells
import Derived.WalkLawsBesides
/- Texts that may be a string or a stamp. -/
namespace Go.Proofs.YtkhjahpkbjafaaaGreatDoor
open Go.RowKit

/-- a text's byte at a place, as a number; 256: there is none -/
def bt (l : List UInt8) (k : Nat) : Nat := match l[k]? with
  | some b => b.toNat
  | none => 256
theorem bt_some {l : List UInt8} {k : Nat} {b : UInt8} (h : l[k]? = some b) : bt l k = b.toNat := by unfold bt; rw [h]
theorem bt_none {l : List UInt8} {k : Nat} (h : l.length ≤ k) : bt l k = 256 := by unfold bt; rw [List.getElem?_eq_none h]
theorem bt_lt {l : List UInt8} {k : Nat} (h : bt l k < 256) : k < l.length := by
  by_cases hk : k < l.length
  · exact hk
  · rw [bt_none (by omega)] at h; omega
theorem bt_in {l : List UInt8} {k : Nat} (h : k < l.length) : bt l k < 256 := by
  rw [bt_some (List.getElem?_eq_getElem h)]; exact UInt8.toNat_lt _
theorem bt_at (s : ByteArray) (k : Nat) (h : k < s.size) : bt s.data.toList k = s[k].toNat := by
  have h' : k < s.data.toList.length := by simpa using h
  rw [bt_some (List.getElem?_eq_getElem h')]; rfl
theorem bt_drop (l : List UInt8) (i k : Nat) : bt (l.drop i) k = bt l (i + k) := by unfold bt; rw [List.getElem?_drop]
theorem bt_cons (b : UInt8) (l : List UInt8) : bt (b :: l) 0 = b.toNat := rfl
theorem bt_succ (b : UInt8) (l : List UInt8) (k : Nat) : bt (b :: l) (k + 1) = bt l k := by unfold bt; rfl
theorem bt_nil (k : Nat) : bt [] k = 256 := by unfold bt; rfl
theorem bt_app (l m : List UInt8) (k : Nat) (h : k < l.length) : bt (l ++ m) k = bt l k := by unfold bt; rw [List.getElem?_append_left h]
/-- is a byte a hex digit, and what it says -/
def hxI (b : UInt8) : Bool := decide (48 ≤ b.toNat ∧ b.toNat ≤ 57) || decide (97 ≤ b.toNat ∧ b.toNat ≤ 102) || decide (65 ≤ b.toNat ∧ b.toNat ≤ 70)
def hxV (b : UInt8) : Nat := if b.toNat ≤ 57 then b.toNat - 48 else if b.toNat ≤ 70 then b.toNat - 55 else b.toNat - 87
def hexF (l : List UInt8) : Nat := l.foldl (fun v b => 16 * v + hxV b) 0
def hexB (l : List UInt8) : Bool := decide (1 ≤ l.length ∧ l.length ≤ 8) && l.all hxI
def hexR (l : List UInt8) : Nat := if hexB l = true then hexF l else 0
theorem hxV_lt {b : UInt8} (h : hxI b = true) : hxV b < 16 := by
  unfold hxI at h; simp only [Bool.or_eq_true, decide_eq_true_eq] at h
  unfold hxV; (repeat' split) <;> omega
theorem hexF_snoc (l : List UInt8) (b : UInt8) : hexF (l ++ [b]) = 16 * hexF l + hxV b := by simp [hexF]
theorem foldl_lt (l : List UInt8) : ∀ v, l.all hxI = true → l.foldl (fun v b => 16 * v + hxV b) v < (v + 1) * 16 ^ l.length := by
  induction l with
  | nil => intro v _; simp
  | cons b t ih =>
    intro v h
    rw [List.all_cons, Bool.and_eq_true] at h
    have h1 := hxV_lt h.1
    have h2 := ih (16 * v + hxV b) h.2
    have h3 : (16 * v + hxV b + 1) * 16 ^ t.length ≤ (16 * (v + 1)) * 16 ^ t.length := Nat.mul_le_mul_right _ (by omega)
    have h4 : (16 * (v + 1)) * 16 ^ t.length = (v + 1) * 16 ^ (t.length + 1) := by rw [Nat.pow_succ, Nat.mul_comm 16 (v + 1), Nat.mul_assoc, Nat.mul_comm 16]
    simp only [List.foldl_cons, List.length_cons]
    omega
theorem hexF_lt (l : List UInt8) (h : l.all hxI = true) (n : Nat) (hn : l.length ≤ n) : hexF l < 16 ^ n := by
  have h1 := foldl_lt l 0 h
  have h2 : 16 ^ l.length ≤ 16 ^ n := Nat.pow_le_pow_right (by decide) hn
  unfold hexF; omega
theorem hexF_lt8 (l : List UInt8) (h : l.all hxI = true) (hn : l.length ≤ 8) : hexF l < 4294967296 := by
  have := hexF_lt l h 8 hn; omega
/-- so many hex digits at a place: the number; -1: there are not -/
def cdI (l : List UInt8) (k n : Nat) : Int := if k + n ≤ l.length ∧ hexB ((l.drop k).take n) = true then (hexF ((l.drop k).take n) : Int) else -1
theorem cdI_ge (l : List UInt8) (k n : Nat) : -1 ≤ cdI l k n := by unfold cdI; split <;> omega
theorem cdI_lt4 (l : List UInt8) (k : Nat) : cdI l k 4 < 65536 := by
  unfold cdI; split
  · next h =>
    have h2 := h.2
    unfold hexB at h2; simp only [Bool.and_eq_true, decide_eq_true_eq] at h2
    have := hexF_lt _ h2.2 4 (by simp; omega)
    omega
  · omega
/-- a letter's bytes -/
def ltr (r : Int) : List UInt8 := (strOfNums (enc r)).data.toList
/-- what one letter behind a stroke says; 256: nothing -/
def nmV (toml : Bool) (b : Nat) : Nat :=
  if b = 34 then 34 else if b = 92 then 92 else if b = 98 then 8 else if b = 102 then 12 else if b = 110 then 10 else if b = 114 then 13 else if b = 116 then 9
  else if b = 47 ∧ toml = false then 47 else if b = 101 ∧ toml = true then 27 else 256
/-- what the escape says that a text begins with, and its bytes' number (0: it is wrong) -/
def escU (toml : Bool) (l : List UInt8) (n : Nat) : List UInt8 × Nat :=
  if 0 ≤ cdI l 2 n ∧ goodB (cdI l 2 n) = true then (ltr (cdI l 2 n), 2 + n)
  else if toml = false ∧ 55296 ≤ cdI l 2 n ∧ cdI l 2 n < 56320 ∧ bt l 6 = 92 ∧ bt l 7 = 117 ∧ 56320 ≤ cdI l 8 4 ∧ cdI l 8 4 < 57344 then (ltr (65536 + (cdI l 2 n - 55296) * 1024 + cdI l 8 4 - 56320), 12)
  else ([], 0)
def escP (toml : Bool) (l : List UInt8) : List UInt8 × Nat :=
  if nmV toml (bt l 1) < 256 then ([UInt8.ofNat (nmV toml (bt l 1))], 2)
  else if bt l 1 = 85 ∧ toml = true then escU toml l 8
  else if bt l 1 = 117 then escU toml l 4
  else ([], 0)
/-- how many bytes a line's end has that a text begins with -/
def lnE (l : List UInt8) : Nat := if bt l 0 = 10 then 1 else if bt l 0 = 13 ∧ bt l 1 = 10 then 2 else 0
/-- a letter as it is -/
def plP (l : List UInt8) : List UInt8 × Nat := (l.take (tkN l), tkN l)
def jsP (l : List UInt8) : List UInt8 × Nat := if bt l 0 = 92 then escP false l else if bt l 0 < 32 then ([], 0) else plP l
def opP (l : List UInt8) : List UInt8 × Nat := if bt l 0 < 32 ∧ bt l 0 ≠ 9 ∨ bt l 0 = 127 then ([], 0) else plP l
def mpP (l : List UInt8) : List UInt8 × Nat := if 0 < lnE l then (l.take (lnE l), lnE l) else opP l
def oeP (l : List UInt8) : List UInt8 × Nat := if bt l 0 = 92 then escP true l else opP l
/-- blanks, and blanks and lines' ends -/
def bkB (b : UInt8) : Bool := decide (b.toNat = 32 ∨ b.toNat = 9)
def blB (b : UInt8) : Bool := decide (b.toNat = 32 ∨ b.toNat = 9 ∨ b.toNat = 10 ∨ b.toNat = 13)
/-- how many of a text's first bytes are so -/
def run (p : UInt8 → Bool) (l : List UInt8) : Nat := (l.takeWhile p).length
/-- how long a line's end with a stroke ahead is, with all blanks behind it -/
def fdN (l : List UInt8) : Nat := if lnE ((l.drop 1).drop (run bkB (l.drop 1))) = 0 then 0 else 1 + run bkB (l.drop 1) + run blB ((l.drop 1).drop (run bkB (l.drop 1)))
def meP (l : List UInt8) : List UInt8 × Nat := if bt l 0 = 92 then (if 0 < fdN l then ([], fdN l) else escP true l) else mpP l
/-- the end of a string of one line; of many -/
def oE (q : Nat) (l : List UInt8) : List UInt8 × Nat := if bt l 0 = q then ([], 1) else ([], 0)
def qN (q : Nat) (l : List UInt8) : Nat := run (fun b => decide (b.toNat = q)) (l.take 5)
def mE (q : Nat) (l : List UInt8) : List UInt8 × Nat := if qN q l < 3 then ([], 0) else (l.take (qN q l - 3), qN q l)
/-- a string, read piece by piece up to its end -/
def rd (E P : List UInt8 → List UInt8 × Nat) (t : List UInt8) : Nat → Nat → List UInt8 → List UInt8 × Nat × Int
  | 0, i, _ => ([], 0, (i : Int))
  | f + 1, i, acc =>
    if t.length ≤ i then ([], 0, (t.length : Int))
    else if 0 < (E (t.drop i)).2 then (acc ++ (E (t.drop i)).1, i + (E (t.drop i)).2, -1)
    else if (P (t.drop i)).2 = 0 then ([], 0, (i : Int))
    else rd E P t f (i + (P (t.drop i)).2) (acc ++ (P (t.drop i)).1)
/-- the whole of it, from a place on -/
def rdA (E P : List UInt8 → List UInt8 × Nat) (t : List UInt8) (i : Nat) : List UInt8 × Nat × Int := rd E P t (t.length + 1) i []
theorem rd_end {E P : List UInt8 → List UInt8 × Nat} {t : List UInt8} {f i : Nat} {acc : List UInt8} (h : t.length < i + f) (hi : t.length ≤ i) (hle : i ≤ t.length) : rd E P t f i acc = ([], 0, (t.length : Int)) := by
  cases f with
  | zero => omega
  | succ f => rw [rd, if_pos hi]
theorem rd_stop {E P : List UInt8 → List UInt8 × Nat} {t : List UInt8} {f i : Nat} {acc : List UInt8} (h : t.length < i + f) (hi : i < t.length) (he : 0 < (E (t.drop i)).2) : rd E P t f i acc = (acc ++ (E (t.drop i)).1, i + (E (t.drop i)).2, -1) := by
  cases f with
  | zero => omega
  | succ f => rw [rd, if_neg (by omega), if_pos he]
theorem rd_wrong {E P : List UInt8 → List UInt8 × Nat} {t : List UInt8} {f i : Nat} {acc : List UInt8} (h : t.length < i + f) (hi : i < t.length) (he : (E (t.drop i)).2 = 0) (hp : (P (t.drop i)).2 = 0) : rd E P t f i acc = ([], 0, (i : Int)) := by
  cases f with
  | zero => omega
  | succ f => rw [rd, if_neg (by omega), if_neg (by omega), if_pos hp]
theorem rd_step {E P : List UInt8 → List UInt8 × Nat} {t : List UInt8} {f i : Nat} {acc : List UInt8} (h : t.length < i + f) (hi : i < t.length) (he : (E (t.drop i)).2 = 0) (hp : 0 < (P (t.drop i)).2) :
    ∃ f', rd E P t f i acc = rd E P t f' (i + (P (t.drop i)).2) (acc ++ (P (t.drop i)).1) ∧ t.length < i + (P (t.drop i)).2 + f' := by
  cases f with
  | zero => omega
  | succ f => exact ⟨f, by rw [rd, if_neg (by omega), if_neg (by omega), if_neg (by omega)], by omega⟩
/-- the string of JSON, and of TOML, that begins at a place -/
def plc (t : List UInt8) (a : Int) : Int := if a < 0 then 0 else if (t.length : Int) < a then t.length else a
def unqJ (t : List UInt8) (a : Int) : List UInt8 × Nat × Int :=
  if 0 ≤ a ∧ bt t a.toNat = 34 then rdA (oE 34) jsP t (a.toNat + 1) else ([], 0, plc t a)
def m3 (q : Nat) (l : List UInt8) : Bool := decide (bt l 0 = q) && decide (bt l 1 = q) && decide (bt l 2 = q)
def unqT (t : List UInt8) (a : Int) : List UInt8 × Nat × Int :=
  if 0 ≤ a ∧ m3 34 (t.drop a.toNat) = true then rdA (mE 34) meP t (a.toNat + 3 + lnE (t.drop (a.toNat + 3)))
  else if 0 ≤ a ∧ m3 39 (t.drop a.toNat) = true then rdA (mE 39) mpP t (a.toNat + 3 + lnE (t.drop (a.toNat + 3)))
  else if 0 ≤ a ∧ bt t a.toNat = 34 then rdA (oE 34) oeP t (a.toNat + 1)
  else if 0 ≤ a ∧ bt t a.toNat = 39 then rdA (oE 39) opP t (a.toNat + 1)
  else ([], 0, plc t a)
/-- how a letter is written -/
def hxD (n : Nat) : UInt8 := if n < 10 then UInt8.ofNat (48 + n) else UInt8.ofNat (87 + n)
def qbB (b : Nat) : List UInt8 :=
  if b = 34 ∨ b = 92 then [92, UInt8.ofNat b] else if b = 8 then [92, 98] else if b = 9 then [92, 116] else if b = 10 then [92, 110] else if b = 12 then [92, 102] else if b = 13 then [92, 114]
  else if b < 32 ∨ b = 127 then [92, 117, 48, 48, hxD (b / 16), hxD (b % 16)] else [UInt8.ofNat b]
def qst (toml : Bool) (l : List UInt8) : List UInt8 :=
  if tkN l = 0 then [239, 191, 189] else if 1 < tkN l ∨ bt l 0 = 127 ∧ toml = false then l.take (tkN l) else qbB (bt l 0)
def qtK (toml : Bool) (t : List UInt8) (k : Nat) : List UInt8 := 34 :: (List.range k).flatMap fun j => qst toml (t.drop (pos t j))
def qtA (toml : Bool) (t : List UInt8) : List UInt8 := qtK toml t (cnt t) ++ [34]
theorem qtK_succ (toml : Bool) (t : List UInt8) (k : Nat) : qtK toml t (k + 1) = qtK toml t k ++ qst toml (t.drop (pos t k)) := by
  simp [qtK, List.range_succ, List.flatMap_append]
def brI (b : UInt8) : Bool := decide (97 ≤ b.toNat ∧ b.toNat ≤ 122) || decide (65 ≤ b.toNat ∧ b.toNat ≤ 90) || decide (48 ≤ b.toNat ∧ b.toNat ≤ 57) || decide (b.toNat = 95) || decide (b.toNat = 45)
def brB (l : List UInt8) : Bool := !l.isEmpty && l.all brI
end Go.Proofs.YtkhjahpkbjafaaaGreatDoor
namespace Go.Proofs.YtkhjahpkbjafaaaGreatDoor
open Go.RowKit

theorem ret_int {k : IntKind} {a b : Int} (h : a = b) : Ending.returned (.int k a) = .returned (.int k b) := by rw [h]
theorem ret_bool {a b : Bool} (h : a = b) : Ending.returned (.bool a) = .returned (.bool b) := by rw [h]
theorem ret_two {k l : IntKind} {a b c d : Int} (h : a = b) (g : c = d) : Ending.returned (.tuple #[.int k a, .int l c]) = .returned (.tuple #[.int k b, .int l d]) := by rw [h, g]
theorem val_int {k : IntKind} {a b : Int} (h : a = b) : Value.int k a = Value.int k b := by rw [h]
theorem ret_ib {k : IntKind} {a b : Int} {c d : Bool} (h : a = b) (g : c = d) : Ending.returned (.tuple #[.int k a, .bool c]) = .returned (.tuple #[.int k b, .bool d]) := by rw [h, g]
theorem max_small {n : Nat} (h : n ≤ 1000) : n ≤ maxLen := by unfold maxLen; omega
theorem max_le {n : Nat} (h : n ≤ 1000000) : n ≤ maxLen := by unfold maxLen; omega
theorem ownsRow_below {w w' : World} {base : Nat} {e : TypeId} {size n : Nat} {v : Value} {xs : List Value} (h : w.ownsRow base e size v n xs) (hb : Below w.heap.size w w') : w'.ownsRow base e size v n xs :=
  h.kept (row := none) ⟨hb.os, hb.tape, hb.output, hb.size, fun k hk _ => hb.block k hk⟩ (by cases v.ownBlock <;> simp)
/-- the cells of a block just laid -/
theorem new_cells (w : World) (vs : List Value) (t : TypeId) : ∀ j u, vs[j]? = some u → (w.alloc (.cells vs.toArray t)).cell? (Addr.add ⟨w.heap.size, 0, none⟩ j) = some u := by
  intro j u h
  have := World.cell?_alloc_mark w vs.toArray t (0, 0) j
  have e : Addr.add ⟨w.heap.size, 0, none⟩ j = ⟨w.heap.size, j, none⟩ := by
    simp only [Addr.add, Nat.zero_add]; split
    · next h0 => rw [h0]
    · rfl
  rw [e, this]
  simpa using h
theorem cut_size (s : ByteArray) (p : Nat) (hs : s.size ≤ maxLen) : (s.extract p s.size).size ≤ maxLen := by
  have : (s.extract p s.size).size ≤ s.size := by simp
  exact Nat.le_trans this hs
end Go.Proofs.YtkhjahpkbjafaaaGreatDoor
namespace Go.Proofs.YtkhjahpkbjafaaaGreatDoor
open Go.RowKit

set_option maxHeartbeats 400000 in
theorem good_any (r : Int) (w : World) :
    Calls Tryz.prog 191 #[.int .i64 r] w fun e w' => e = .returned (.bool (goodB r)) ∧ w' = w := by
  go_enter Tryz.func191, Tryz.ntmps191
  go_wp2
  all_goals
    go_ret
    exact ⟨ret_bool (by unfold goodB; rw [Bool.eq_iff_iff]; simp; try omega), rfl⟩
end Go.Proofs.YtkhjahpkbjafaaaGreatDoor
namespace Go.Proofs.YtkhjahpkbjafaaaGreatDoor
open Go.RowKit

set_option maxHeartbeats 400000 in
theorem width_any (r : Int) (w : World) :
    Calls Tryz.prog 192 #[.int .i64 r] w fun e w' => e = .returned (.int .i64 (wdI r)) ∧ w' = w := by
  go_enter Tryz.func192, Tryz.ntmps192
  go_wp2
  all_goals
    go_ret
    exact ⟨ret_int (by unfold wdI; (repeat' split) <;> omega), rfl⟩
end Go.Proofs.YtkhjahpkbjafaaaGreatDoor
namespace Go.Proofs.YtkhjahpkbjafaaaGreatDoor
open Go.RowKit

set_option maxRecDepth 100000 in
set_option maxHeartbeats 400000 in
theorem begin_any (b : Nat) (hb : b < 256) (w : World) :
    Calls Tryz.prog 190 #[.int .u8 (b : Int)] w fun e w' => e = .returned (.tuple #[.int .i64 (begR b), .int .i64 (begN b)]) ∧ w' = w := by
  obtain ⟨t1, t2, t3, -⟩ := and_tests b hb
  obtain ⟨p1, p2, p3, -⟩ := and_parts b hb
  go_enter Tryz.func190, Tryz.ntmps190
  go_wp2
  all_goals
    go_ret2
    exact ⟨ret_two (by unfold begR; (repeat' split) <;> simp_all <;> omega) (by unfold begN; (repeat' split) <;> simp_all <;> omega), rfl⟩
end Go.Proofs.YtkhjahpkbjafaaaGreatDoor
namespace Go.Proofs.YtkhjahpkbjafaaaGreatDoor
open Go.RowKit

theorem take_none (s : ByteArray) (w : World) (h0 : s.size = 0) :
    Calls Tryz.prog 151 #[.string s] w fun e w' => e = .returned (.tuple #[.int .i64 (tkR s.data.toList), .int .i64 (tkN s.data.toList)]) ∧ w' = w := by
  have e : s.data.toList = [] := by
    have : s.data.toList.length = 0 := by simpa using h0
    exact List.length_eq_zero_iff.1 this
  rw [e]
  have hz : ((s.size : Int) == 0) = true := by simp [h0]
  clear e h0
  go_enter Tryz.func151, Tryz.ntmps151
  go_wp2
  go_ret2
  exact ⟨rfl, rfl⟩

theorem take_tests (F n : Nat) : ((goodN F && decide (wdN F = n)) = true → goodB (F : Int) = true ∧ (wdI (F : Int) != (n : Int)) = false)
    ∧ ((goodN F && decide (wdN F = n)) = false → goodB (F : Int) = false ∨ (goodB (F : Int) = true ∧ (wdI (F : Int) != (n : Int)) = true)) := by
  rw [goodB_goodN]
  have hw : wdI (F : Int) = (wdN F : Int) := wdI_wdN F
  rw [hw]
  cases goodN F <;> simp <;> omega

set_option maxRecDepth 100000 in
set_option maxHeartbeats 400000 in
theorem take_any (s : ByteArray) (w : World) (hs : s.size ≤ maxLen) (h0 : 0 < s.size) :
    Calls Tryz.prog 151 #[.string s] w fun e w' => e = .returned (.tuple #[.int .i64 (tkR s.data.toList), .int .i64 (tkN s.data.toList)]) ∧ w' = w := by
  unfold maxLen at hs
  have hb : s[0].toNat < 256 := s[0].toNat_lt
  have hz : ((s.size : Int) == 0) = false := by rw [beq_eq_false_iff_ne]; omega
  by_cases hn : begN s[0].toNat = 0 ∨ s.size < begN s[0].toNat
  · have hno : tkOk s[0] (s.data.toList.drop 1) = false := by
      rw [tkOk_of s h0]; rcases hn with h | h
      · simp [h]
      · have : ¬ begN s[0].toNat ≤ s.size := by omega
        simp [this]
    obtain ⟨e1, e2⟩ := tk_no s h0 hno
    rw [e1, e2]
    clear hno e1 e2
    by_cases hn1 : begN s[0].toNat = 0
    all_goals
      go_enter Tryz.func151, Tryz.ntmps151
      go_wp2_with (first | (go_at_call 190; go_must (refine (begin_any _ hb _).mono ?_; rintro e w' ⟨rfl, rfl⟩)))
      go_ret2
      exact ⟨rfl, rfl⟩
  · obtain ⟨hn1, hn2⟩ : begN s[0].toNat ≠ 0 ∧ begN s[0].toNat ≤ s.size := by omega
    have hn0 : (((begN s[0].toNat : Nat) : Int) == 0) = false := by simp; omega
    have hn4 := begN_le s[0].toNat
    clear hn
    go_enter Tryz.func151, Tryz.ntmps151
    go_wp2_with (first | (go_at_call 190; go_must (refine (begin_any _ hb _).mono ?_; rintro e w' ⟨rfl, rfl⟩)))
    go_loop [4, 6] (fun r i => ∃ k : Nat, 1 ≤ k ∧ k ≤ begN s[0].toNat ∧ i = .int .i64 k ∧ r = .int .i64 (fol (begR s[0].toNat) (rest s k)) ∧ (rest s k).all cont = true) (fun _ i => begN s[0].toNat - (intOf i).toNat)
    case atStart => exact ⟨1, by omega, by omega, rfl, by simp [rest, fol], by simp [rest]⟩
    case round =>
      obtain ⟨k, hk1, hk2, rfl, rfl, hall⟩ := hrel
      have hfs := fol_small s[0].toNat (rest s k) hall (by have := rest_len s k; omega)
      by_cases hlt : k < begN s[0].toNat
      · have hks : k < s.size := by omega
        have hcb := cont_test s[k]
        have hp := (and_parts s[k].toNat s[k].toNat_lt).2.2.2
        by_cases hc : cont s[k] = true
        · rw [hc] at hcb
          simp only [Bool.not_true] at hcb
          have HF := hid (fol_step s s[0].toNat k hk1 hks hc hfs)
          have HA := hid (all_step s k hk1 hks hc hall)
          go_wp2
          go_round
          case rel => exact ⟨k + 1, by omega, by omega, by go_num, by rw [HF.out], HA.out⟩
          case measure => simp [intOf]; omega
        · have hc' : cont s[k] = false := by simpa using hc
          rw [hc'] at hcb
          simp only [Bool.not_false] at hcb
          have hno : tkOk s[0] (s.data.toList.drop 1) = false := by
            rw [tkOk_of s h0, all_no s k _ hk1 hlt hks hc']; simp
          have E := hid (tk_no s h0 hno)
          clear hno hc hc'
          go_wp2
          go_ret2
          exact ⟨ret_two (by rw [E.out.1]; rfl) (by rw [E.out.2]; rfl), rfl⟩
      · obtain rfl : k = begN s[0].toNat := by omega
        have hok := tkOk_of s h0
        rw [hall, decide_eq_true (show begN s[0].toNat ≠ 0 ∧ begN s[0].toNat ≤ s.size by omega)] at hok
        have ht := take_tests (fol (begR s[0].toNat) (rest s (begN s[0].toNat))) (begN s[0].toNat)
        by_cases hyes : tkOk s[0] (s.data.toList.drop 1) = true
        · rw [hyes] at hok
          obtain ⟨hg, hw⟩ := ht.1 (by simpa using hok)
          have E := hid (tk_yes s h0 hyes)
          clear hok ht hyes
          go_wp2_with (first | (go_at_call 191; go_must (refine (good_any _ _).mono ?_; rintro e w' ⟨rfl, rfl⟩)) | (go_at_call 192; go_must (refine (width_any _ _).mono ?_; rintro e w' ⟨rfl, rfl⟩)))
          go_ret2
          exact ⟨ret_two (by rw [E.out.1]) (by rw [E.out.2]), rfl⟩
        · have hno : tkOk s[0] (s.data.toList.drop 1) = false := by simpa using hyes
          rw [hno] at hok
          have ht2 := ht.2 (by simpa using hok)
          have E := hid (tk_no s h0 hno)
          clear hok ht hyes hno
          rcases ht2 with hg | ⟨hg, hw⟩
          all_goals
            go_wp2_with (first | (go_at_call 191; go_must (refine (good_any _ _).mono ?_; rintro e w' ⟨rfl, rfl⟩)) | (go_at_call 192; go_must (refine (width_any _ _).mono ?_; rintro e w' ⟨rfl, rfl⟩)))
            go_ret2
            exact ⟨ret_two (by rw [E.out.1]; rfl) (by rw [E.out.2]; rfl), rfl⟩

theorem take_all (s : ByteArray) (w : World) (hs : s.size ≤ maxLen) :
    Calls Tryz.prog 151 #[.string s] w fun e w' => e = .returned (.tuple #[.int .i64 (tkR s.data.toList), .int .i64 (tkN s.data.toList)]) ∧ w' = w := by
  by_cases h : s.size = 0
  · exact take_none s w h
  · exact take_any s w hs (by omega)
theorem take_at (s : ByteArray) (p : Nat) (w : World) (hs : s.size ≤ maxLen) :
    Calls Tryz.prog 151 #[.string (s.extract p s.size)] w fun e w' => e = .returned (.tuple #[.int .i64 (tkR (s.data.toList.drop p)), .int .i64 (tkN (s.data.toList.drop p))]) ∧ w' = w := by
  have h := take_all (s.extract p s.size) w (cut_size s p hs)
  rw [drop_list] at h
  exact h
end Go.Proofs.YtkhjahpkbjafaaaGreatDoor
namespace Go.Proofs.YtkhjahpkbjafaaaGreatDoor
open Go.RowKit

set_option maxRecDepth 100000 in
set_option maxHeartbeats 400000 in
theorem valid_any (s : ByteArray) (w : World) (hs : s.size ≤ maxLen) :
    Calls Tryz.prog 141 #[.string s] w fun e w' => e = .returned (.tuple #[.int .i64 (pos s.data.toList (vlk s.data.toList)), .bool (decide (pos s.data.toList (vlk s.data.toList) = s.size))]) ∧ w' = w := by
  have HS := hid hs
  have HZ := hid (size_list s)
  unfold maxLen at hs
  go_enter Tryz.func141, Tryz.ntmps141
  go_wp2
  go_loop [4] (fun i => ∃ k : Nat, i = .int .i64 (pos s.data.toList k) ∧ pos s.data.toList k ≤ s.size ∧ ∀ j < k, vgo s.data.toList j = true) (fun i => s.size - (intOf i).toNat)
  case atStart => exact ⟨0, rfl, Nat.zero_le _, fun j hj => absurd hj (Nat.not_lt_zero j)⟩
  case round =>
    obtain ⟨k, rfl, hp, hj⟩ := hrel
    have hk := pos_ge s.data.toList k
    have HJ := hid hj
    clear hj
    have hz := HZ.out
    by_cases hlt : pos s.data.toList k < s.size
    · by_cases h0 : tkN (s.data.toList.drop (pos s.data.toList k)) = 0
      · have HC := hid (vlk_eq s.data.toList k (by simp [vgo, h0]) HJ.out (by omega))
        have h0' : (((tkN (s.data.toList.drop (pos s.data.toList k)) : Nat) : Int) == 0) = true := by rw [h0]; rfl
        clear hz h0
        go_wp2_with (first | (go_at_call 151; go_must (refine (take_at _ _ _ HS.out).mono ?_; rintro e w' ⟨rfl, rfl⟩)))
        go_ret2
        exact ⟨ret_ib (by rw [← HC.out]) (by rw [← HC.out, decide_eq_false (by omega)]), rfl⟩
      · have hn := pos_next s.data.toList k (by omega)
        have HV := hid (show vgo s.data.toList k = true by simp only [vgo, Bool.and_eq_true, decide_eq_true_eq]; exact ⟨by omega, h0⟩)
        have h0' : (((tkN (s.data.toList.drop (pos s.data.toList k)) : Nat) : Int) == 0) = false := by rw [beq_eq_false_iff_ne]; omega
        have hn' : pos s.data.toList k + tkN (s.data.toList.drop (pos s.data.toList k)) ≤ s.size := by simp only [pos, stp] at hn; omega
        have H0 := hid h0
        clear hz hn h0
        go_wp2_with (first | (go_at_call 151; go_must (refine (take_at _ _ _ HS.out).mono ?_; rintro e w' ⟨rfl, rfl⟩)))
        go_round
        case rel =>
          have h0 := H0.out
          refine ⟨k + 1, val_int (pos_succ' _ _ h0), by simp only [pos, stp]; omega, fun j hj => ?_⟩
          by_cases hjk : j = k
          · rw [hjk]; exact HV.out
          · exact HJ.out j (by omega)
        case measure => have h0 := H0.out; simp [intOf]; omega
    · have HC := hid (vlk_eq s.data.toList k (by simp [vgo]; omega) HJ.out (by omega))
      clear hz
      go_wp2
      go_ret2
      exact ⟨ret_ib (by rw [← HC.out]) (by rw [← HC.out, decide_eq_true (by omega)]), rfl⟩
end Go.Proofs.YtkhjahpkbjafaaaGreatDoor
namespace Go.Proofs.YtkhjahpkbjafaaaGreatDoor
open Go.RowKit

/-- where the first byte stands that begins no letter; -1: there is none -/
def rvI (l : List UInt8) : Int := if pos l (vlk l) = l.length then -1 else (pos l (vlk l) : Int)
theorem rv_yes (l : List UInt8) (h : pos l (vlk l) = l.length) : rvI l = -1 := by unfold rvI; rw [if_pos h]
theorem rv_no (l : List UInt8) (h : ¬ pos l (vlk l) = l.length) : rvI l = (pos l (vlk l) : Int) := by unfold rvI; rw [if_neg h]
def strOkB (s : ByteArray) : Bool := decide (s.size ≤ 4096) && decide (rvI s.data.toList < 0)
def stampB (s : ByteArray) : Bool := decide (1 ≤ s.size) && decide (s.size ≤ 64) && s.data.toList.all (fun b => decide (32 ≤ b.toNat) && decide (b.toNat ≤ 126))
end Go.Proofs.YtkhjahpkbjafaaaGreatDoor
